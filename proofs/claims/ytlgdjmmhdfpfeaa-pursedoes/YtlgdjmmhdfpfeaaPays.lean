/-
  The contract of Pays.
-/
import Derived.Test.YtlgdjmmhdfpfeaaAppE
import Derived.Test.YtlgdjmmhdfpfeaaTaken
import Derived.Laws.IdiomRangeMap
namespace Go.Proofs.Ytlgdjmmhdfpfeaa
open Go.Proofs Go.RowKit Go.Maps
set_option maxRecDepth 100000
set_option linter.unusedVariables false
set_option linter.unusedSimpArgs false

def PaysPost (w : World) (H : List Hd) (e : Ending) (w' : World) : Prop := ∃ v, e = .returned v ∧ OwnR w' w.heap.size v H ∧ Below w.heap.size w w'
/-- The payments of the states ahead of j. -/
def upto (H : List Hd) (j : Nat) : List Hd := (if 1 < j then stH H 1 else []) ++ (if 2 < j then stH H 2 else []) ++ (if 3 < j then stH H 3 else [])
theorem upto_step (H : List Hd) {j : Nat} (h1 : 1 ≤ j) (h3 : j ≤ 3) : upto H (j + 1) = upto H j ++ stH H j := by
  rcases (by omega : j = 1 ∨ j = 2 ∨ j = 3) with rfl | rfl | rfl <;> simp [upto]
theorem upto_len (H : List Hd) (j : Nat) : (upto H j).length ≤ 3 * H.length := by
  have h1 := stH_len H 1
  have h2 := stH_len H 2
  have h3 := stH_len H 3
  unfold upto
  rw [List.length_append, List.length_append]
  split <;> split <;> split <;> simp <;> omega
def PyR (w : World) (q : Ss) (v3 v14 : Value) (wr : World) : Prop :=
  ∃ (j : Nat) (L : List Hd), j ≤ 4 ∧ v14 = .int .i64 (j : Int) ∧ L.Perm (upto q.H j) ∧ OwnR wr w.heap.size v3 L ∧ Below w.heap.size w wr
def PiR (w0 : World) (m : Nat) (H L : List Hd) (D : DataW Unit) (r : Nat) (v3 : Value) (wr : World) : Prop :=
  ∃ left cnt L2, wr.ranges Try.prog 33 rH m r (Maps.size D) D left cnt ∧ MetH H left L2 ∧ L2.length + cnt ≤ 1000 ∧ OwnR wr w0.heap.size v3 (L ++ L2) ∧ Below w0.heap.size w0 wr ∧ r < wr.heap.size ∧ w0.heap.size ≤ r

set_option maxHeartbeats 8000000 in
theorem pays_any (b : SB) (q : Ss) (w : World) (hA : At w b q) (hI : Inv q) (hl : q.H.length ≤ 1000) : Calls Try.prog 17 #[.pointer (some ⟨b.s, 0, none⟩)] w (PaysPost w q.H) := by
  have HA := Lib.hid hA
  have HI := Lib.hid hI
  have HLQ := Lib.hid hl
  obtain ⟨c0, c1, c2, c3, c4⟩ := hA.c.cells5
  clear hA hI hl
  go_enter Try.func17, Try.ntmps17
  go_wp2_with fail
  clear c0 c1 c2 c3 c4
  go_loopw [3, 14] (fun v3 v14 wr => PyR w q v3 v14 wr) (fun _ i _ => 4 - (intOf i).toNat)
  case atStart => exact ⟨0, [], by omega, rfl, by simp [upto], OwnE.nil _ _, Below.refl _ _⟩
  case round =>
    obtain ⟨j, L, hj, rfl, hP, hO, hB⟩ := hrel
    have HP := Lib.hid hP
    have HO := Lib.hid hO
    have HB := Lib.hid hB
    have HAr := Lib.hid (HA.out.below (hB.mono (Nat.le_refl _)))
    have HLL : Hid (L.length ≤ 3000) := Lib.hid (by have := hP.length_eq; have := upto_len q.H j; have := HLQ.out; omega)
    obtain ⟨i0, i1, i2, i3⟩ := run_idx b wr
    clear hP hO hB
    rcases (by omega : j = 0 ∨ j = 1 ∨ j = 2 ∨ j = 3 ∨ j = 4) with rfl | rfl | rfl | rfl | rfl
    · clear i1 i2 i3
      have hrg := run_range_nilMap (P := Try.prog) wr 55 33 68 Try.underlying55
      have hnx : ∀ ty, (Instr.next (.pointer (some ⟨wr.heap.size, 0, none⟩)) false ty).run Try.prog (wr.alloc (.mapIter none 0 #[] 0)) = _ := fun ty => run_next_nilMap wr ty 0 0 #[]
      go_wp2_with fail
      go_loopw [3] (fun v3 W => v3 = u3 ∧ W = wr.alloc (.mapIter none 0 #[] 0)) (fun _ _ => 0)
      case atStart => exact ⟨rfl, rfl⟩
      case round =>
        obtain ⟨rfl, rfl⟩ := hrel
        go_wp2
        go_roundw
        case rel => exact ⟨1, L, by omega, rfl, HP.out, HO.out.alloc _, HB.out.alloc HB.out.size _⟩
        case measure => simp [intOf]
    · clear i0 i2 i3
      rw [show ((1 : Nat) : Int) = 1 from rfl]
      obtain ⟨D, hD1, hD2, hD3⟩ := HAr.out.o1
      have HD1 := Lib.hid hD1
      have HD2 := Lib.hid hD2
      have HD3 := Lib.hid hD3
      have HS := Lib.hid (HI.out.hs.st 1)
      clear hD1 hD2 hD3
      go_wp2_with (at_range; refine wpList_range_own _ rfl _ 55 rfl 33 68 lawH Try.underlying55 rH b.p1 (Maps.size D) D rfl HD1.out ?_; intro y hrg0 hg0 hs0)
      go_frame
      have HWZ0 : Hid (w.heap.size ≤ wr.heap.size) := Lib.hid HB.out.size
      have BY0 : Hid (Below w.heap.size w y) := Lib.hid (HB.out.grown hg0 HB.out.size (fun k hk => by cases hk))
      have HLT0 := Lib.hid HAr.out.o1.lt
      obtain ⟨r0, hr0⟩ : ∃ r, r = wr.heap.size := ⟨_, rfl⟩
      rw [← hr0] at hrg0 hs0 HWZ0 HLT0 ⊢
      have RG := Lib.hid hrg0
      have BY := BY0
      have OY : Hid (OwnR y w.heap.size u3 L) := Lib.hid (HO.out.grown hg0 (fun b hb => by simp))
      have HYZ : Hid (y.heap.size = r0 + 1) := Lib.hid hs0
      have HWZ := HWZ0
      clear hrg0 hg0 hs0 HD1 i1 hr0
      go_loopw [3] (fun v3 W => PiR w b.p1 (stH q.H 1) L D r0 v3 W) (fun _ W => W.rangeLeft b.p1 r0)
      case atStart =>
        refine ⟨_, _, [], RG.out, MetH.start HD2.out HS.out, ?_, by rw [List.append_nil]; exact OY.out, BY.out, by rw [HYZ.out]; omega, HWZ.out⟩
        rw [HD3.out]; have := stH_len q.H 1; have := HLQ.out; simp; omega
      case round =>
        clear RG BY OY
        obtain ⟨left, cnt, L2, hrg, hM, hc, hO2, hB2, hr1, hr2⟩ := hrel
        have HM := Lib.hid hM
        have HO := Lib.hid hO2
        have HB := Lib.hid hB2
        have HRG := Lib.hid hrg
        clear hrg hM hO2 hB2
        go_wp2_with (at_next; refine wpList_next_ranges _ rfl _ rfl 33 lawH rH (fun o : Nat => Value.int .u32 (o : Int)) vH (fun key kl hk => by obtain ⟨x, hx, _⟩ := key_u32 hk; exact ⟨x, hx⟩) (fun v y hv => by obtain ⟨c, rfl, _⟩ := rH_inv hv; exact ⟨c, rfl⟩) b.p1 r0 (Maps.size D) _ _ _ rfl HRG.out ?_ ?_)
        · intro hc0 hl0
          have HE : Hid ((L ++ L2).Perm (upto q.H 2)) := Lib.hid (by
            rw [upto_step q.H (j := 1) (by decide) (by decide)]
            exact HP.out.append (HM.out.perm HS.out hl0))
          clear hl0
          go_wp2
          go_roundw
          case rel => exact ⟨2, L ++ L2, by omega, rfl, HE.out, HO.out, HB.out⟩
          case measure => simp [intOf]
        · intro x c kl yd yp w2 cnt2 hkey hlk hv hat hrg2 hlt hg2 hs2 hen
          obtain ⟨x', ex, rfl, hxl⟩ := key_u32 hkey
          obtain rfl : x = x' := by injection ex with _ ex; omega
          rw [rH_mk] at hv
          obtain ⟨rfl, rfl⟩ : dH c = yd ∧ [] = yp := by simpa using hv
          obtain ⟨z, hz, rfl, hzn, hzk⟩ := HD2.out.entry hat
          have HM2 := Lib.hid (HM.out.step HS.out hz hlk)
          have HZE : Hid ((⟨z.o, c.n, c.k, 1⟩ : Hd) = z) := Lib.hid (by rw [← hzn, ← hzk, ← (mem_stH.1 hz).2])
          have HNI : Hid (some r0 ≠ u3.ownBlock) := Lib.hid (row_ne_iter HO.out HRG.out)
          have HO2 := Lib.hid (HO.out.grown hg2 (fun b hb e => HNI.out (e.symm.trans hb.symm)))
          have HRG2 := Lib.hid hrg2
          have HB2 := Lib.hid (HB.out.grown hg2 (Nat.le_of_lt (Nat.lt_of_le_of_lt hr2 hr1)) (fun k hk => by injection hk with hk; omega))
          have HZ2 := Lib.hid hs2
          have HLT := Lib.hid hlt
          clear hkey hlk hv hat hrg2 hlt hg2 hs2 ex hz hzn hzk
          have HO3 := Lib.hid ((HO2.out.alloc (.cells #[encStr c.n, .int .i64 c.k] 68)).alloc (.cells #[.int .u32 (z.o : Int), encStr c.n, .int .i64 c.k, .int .i64 1] 48))
          have LN : Hid (Lies ((w2.alloc (.cells #[encStr c.n, .int .i64 c.k] 68)).alloc (.cells #[.int .u32 (z.o : Int), encStr c.n, .int .i64 c.k, .int .i64 1] 48)) (w2.heap.size + 1) 48 #[.int .u32 (z.o : Int), encStr c.n, .int .i64 c.k, .int .i64 ((1 : Nat) : Int)]) := Lib.hid (Lies.made2 w2 (.cells #[encStr c.n, .int .i64 c.k] 68) 48 #[.int .u32 (z.o : Int), encStr c.n, .int .i64 c.k, .int .i64 1])
          have HSM : Hid ((L ++ L2).length ≤ 100000) := Lib.hid (by rw [List.length_append]; have := HLL.out; omega)
          have HBZ : Hid (w.heap.size ≤ ((w2.alloc (.cells #[encStr c.n, .int .i64 c.k] 68)).alloc (.cells #[.int .u32 (z.o : Int), encStr c.n, .int .i64 c.k, .int .i64 1] 48)).heap.size) := Lib.hid (by simp; have := HZ2.out; omega)
          go_wp2_with (first
            | ((with_reducible refine wpl_appH (some 34) _ _ _ (.tmp 25) (.tmp 33) w.heap.size u3 (L ++ L2) (w2.heap.size + 1) z.o c.n c.k 1 ?hs ?hx HO3.out LN.out HSM.out HBZ.out ?_); (case hs => rfl); (case hx => rfl); (intro v4 w4 ho4 hg4 hb4)))
          go_roundw
          case rel =>
            have e1 := fun k (h : u3.ownBlock = some k) => (HO.out.block k h).1
            have hne : some b.p1 ≠ u3.ownBlock := fun e => by have h1 := e1 _ e.symm; have h2 : b.p1 < w.heap.size := HA.out.o1.lt; omega
            refine ⟨_, _, L2 ++ [z], ((HRG2.out.alloc _).alloc _).kept hg4 hne HNI.out, HM2.out, ?_, by rw [← List.append_assoc, ← HZE.out]; exact ho4, ?_, ?_, hr2⟩
            · have := HLT.out
              rw [List.length_append]; simp; omega
            · exact (((HB2.out.alloc (by have := HZ2.out; omega) _).alloc (by have := HZ2.out; simp; omega) _).grown hg4 HBZ.out (fun k hk => e1 k hk))
            · have := hg4.size
              have h2 := HZ2.out
              simp at this
              omega
          case measure =>
            rw [(((HRG2.out.alloc _).alloc _).kept hg4 (fun e => by have h1 := (HO.out.block _ e.symm).1; have h2 : b.p1 < w.heap.size := HA.out.o1.lt; omega) HNI.out).left_eq, HRG.out.left_eq]
            exact HLT.out
    · clear i0 i1 i3
      rw [show ((2 : Nat) : Int) = 2 from rfl]
      obtain ⟨D, hD1, hD2, hD3⟩ := HAr.out.o2
      have HD1 := Lib.hid hD1
      have HD2 := Lib.hid hD2
      have HD3 := Lib.hid hD3
      have HS := Lib.hid (HI.out.hs.st 2)
      clear hD1 hD2 hD3
      go_wp2_with (at_range; refine wpList_range_own _ rfl _ 55 rfl 33 68 lawH Try.underlying55 rH b.p2 (Maps.size D) D rfl HD1.out ?_; intro y hrg0 hg0 hs0)
      go_frame
      have HWZ0 : Hid (w.heap.size ≤ wr.heap.size) := Lib.hid HB.out.size
      have BY0 : Hid (Below w.heap.size w y) := Lib.hid (HB.out.grown hg0 HB.out.size (fun k hk => by cases hk))
      have HLT0 := Lib.hid HAr.out.o2.lt
      obtain ⟨r0, hr0⟩ : ∃ r, r = wr.heap.size := ⟨_, rfl⟩
      rw [← hr0] at hrg0 hs0 HWZ0 HLT0 ⊢
      have RG := Lib.hid hrg0
      have BY := BY0
      have OY : Hid (OwnR y w.heap.size u3 L) := Lib.hid (HO.out.grown hg0 (fun b hb => by simp))
      have HYZ : Hid (y.heap.size = r0 + 1) := Lib.hid hs0
      have HWZ := HWZ0
      clear hrg0 hg0 hs0 HD1 i2 hr0
      go_loopw [3] (fun v3 W => PiR w b.p2 (stH q.H 2) L D r0 v3 W) (fun _ W => W.rangeLeft b.p2 r0)
      case atStart =>
        refine ⟨_, _, [], RG.out, MetH.start HD2.out HS.out, ?_, by rw [List.append_nil]; exact OY.out, BY.out, by rw [HYZ.out]; omega, HWZ.out⟩
        rw [HD3.out]; have := stH_len q.H 2; have := HLQ.out; simp; omega
      case round =>
        clear RG BY OY
        obtain ⟨left, cnt, L2, hrg, hM, hc, hO2, hB2, hr1, hr2⟩ := hrel
        have HM := Lib.hid hM
        have HO := Lib.hid hO2
        have HB := Lib.hid hB2
        have HRG := Lib.hid hrg
        clear hrg hM hO2 hB2
        go_wp2_with (at_next; refine wpList_next_ranges _ rfl _ rfl 33 lawH rH (fun o : Nat => Value.int .u32 (o : Int)) vH (fun key kl hk => by obtain ⟨x, hx, _⟩ := key_u32 hk; exact ⟨x, hx⟩) (fun v y hv => by obtain ⟨c, rfl, _⟩ := rH_inv hv; exact ⟨c, rfl⟩) b.p2 r0 (Maps.size D) _ _ _ rfl HRG.out ?_ ?_)
        · intro hc0 hl0
          have HE : Hid ((L ++ L2).Perm (upto q.H 3)) := Lib.hid (by
            rw [upto_step q.H (j := 2) (by decide) (by decide)]
            exact HP.out.append (HM.out.perm HS.out hl0))
          clear hl0
          go_wp2
          go_roundw
          case rel => exact ⟨3, L ++ L2, by omega, rfl, HE.out, HO.out, HB.out⟩
          case measure => simp [intOf]
        · intro x c kl yd yp w2 cnt2 hkey hlk hv hat hrg2 hlt hg2 hs2 hen
          obtain ⟨x', ex, rfl, hxl⟩ := key_u32 hkey
          obtain rfl : x = x' := by injection ex with _ ex; omega
          rw [rH_mk] at hv
          obtain ⟨rfl, rfl⟩ : dH c = yd ∧ [] = yp := by simpa using hv
          obtain ⟨z, hz, rfl, hzn, hzk⟩ := HD2.out.entry hat
          have HM2 := Lib.hid (HM.out.step HS.out hz hlk)
          have HZE : Hid ((⟨z.o, c.n, c.k, 2⟩ : Hd) = z) := Lib.hid (by rw [← hzn, ← hzk, ← (mem_stH.1 hz).2])
          have HNI : Hid (some r0 ≠ u3.ownBlock) := Lib.hid (row_ne_iter HO.out HRG.out)
          have HO2 := Lib.hid (HO.out.grown hg2 (fun b hb e => HNI.out (e.symm.trans hb.symm)))
          have HRG2 := Lib.hid hrg2
          have HB2 := Lib.hid (HB.out.grown hg2 (Nat.le_of_lt (Nat.lt_of_le_of_lt hr2 hr1)) (fun k hk => by injection hk with hk; omega))
          have HZ2 := Lib.hid hs2
          have HLT := Lib.hid hlt
          clear hkey hlk hv hat hrg2 hlt hg2 hs2 ex hz hzn hzk
          have HO3 := Lib.hid ((HO2.out.alloc (.cells #[encStr c.n, .int .i64 c.k] 68)).alloc (.cells #[.int .u32 (z.o : Int), encStr c.n, .int .i64 c.k, .int .i64 2] 48))
          have LN : Hid (Lies ((w2.alloc (.cells #[encStr c.n, .int .i64 c.k] 68)).alloc (.cells #[.int .u32 (z.o : Int), encStr c.n, .int .i64 c.k, .int .i64 2] 48)) (w2.heap.size + 1) 48 #[.int .u32 (z.o : Int), encStr c.n, .int .i64 c.k, .int .i64 ((2 : Nat) : Int)]) := Lib.hid (Lies.made2 w2 (.cells #[encStr c.n, .int .i64 c.k] 68) 48 #[.int .u32 (z.o : Int), encStr c.n, .int .i64 c.k, .int .i64 2])
          have HSM : Hid ((L ++ L2).length ≤ 100000) := Lib.hid (by rw [List.length_append]; have := HLL.out; omega)
          have HBZ : Hid (w.heap.size ≤ ((w2.alloc (.cells #[encStr c.n, .int .i64 c.k] 68)).alloc (.cells #[.int .u32 (z.o : Int), encStr c.n, .int .i64 c.k, .int .i64 2] 48)).heap.size) := Lib.hid (by simp; have := HZ2.out; omega)
          go_wp2_with (first
            | ((with_reducible refine wpl_appH (some 34) _ _ _ (.tmp 25) (.tmp 33) w.heap.size u3 (L ++ L2) (w2.heap.size + 1) z.o c.n c.k 2 ?hs ?hx HO3.out LN.out HSM.out HBZ.out ?_); (case hs => rfl); (case hx => rfl); (intro v4 w4 ho4 hg4 hb4)))
          go_roundw
          case rel =>
            have e1 := fun k (h : u3.ownBlock = some k) => (HO.out.block k h).1
            have hne : some b.p2 ≠ u3.ownBlock := fun e => by have h1 := e1 _ e.symm; have h2 : b.p2 < w.heap.size := HA.out.o2.lt; omega
            refine ⟨_, _, L2 ++ [z], ((HRG2.out.alloc _).alloc _).kept hg4 hne HNI.out, HM2.out, ?_, by rw [← List.append_assoc, ← HZE.out]; exact ho4, ?_, ?_, hr2⟩
            · have := HLT.out
              rw [List.length_append]; simp; omega
            · exact (((HB2.out.alloc (by have := HZ2.out; omega) _).alloc (by have := HZ2.out; simp; omega) _).grown hg4 HBZ.out (fun k hk => e1 k hk))
            · have := hg4.size
              have h2 := HZ2.out
              simp at this
              omega
          case measure =>
            rw [(((HRG2.out.alloc _).alloc _).kept hg4 (fun e => by have h1 := (HO.out.block _ e.symm).1; have h2 : b.p2 < w.heap.size := HA.out.o2.lt; omega) HNI.out).left_eq, HRG.out.left_eq]
            exact HLT.out
    · clear i0 i1 i2
      rw [show ((3 : Nat) : Int) = 3 from rfl]
      obtain ⟨D, hD1, hD2, hD3⟩ := HAr.out.o3
      have HD1 := Lib.hid hD1
      have HD2 := Lib.hid hD2
      have HD3 := Lib.hid hD3
      have HS := Lib.hid (HI.out.hs.st 3)
      clear hD1 hD2 hD3
      go_wp2_with (at_range; refine wpList_range_own _ rfl _ 55 rfl 33 68 lawH Try.underlying55 rH b.p3 (Maps.size D) D rfl HD1.out ?_; intro y hrg0 hg0 hs0)
      go_frame
      have HWZ0 : Hid (w.heap.size ≤ wr.heap.size) := Lib.hid HB.out.size
      have BY0 : Hid (Below w.heap.size w y) := Lib.hid (HB.out.grown hg0 HB.out.size (fun k hk => by cases hk))
      have HLT0 := Lib.hid HAr.out.o3.lt
      obtain ⟨r0, hr0⟩ : ∃ r, r = wr.heap.size := ⟨_, rfl⟩
      rw [← hr0] at hrg0 hs0 HWZ0 HLT0 ⊢
      have RG := Lib.hid hrg0
      have BY := BY0
      have OY : Hid (OwnR y w.heap.size u3 L) := Lib.hid (HO.out.grown hg0 (fun b hb => by simp))
      have HYZ : Hid (y.heap.size = r0 + 1) := Lib.hid hs0
      have HWZ := HWZ0
      clear hrg0 hg0 hs0 HD1 i3 hr0
      go_loopw [3] (fun v3 W => PiR w b.p3 (stH q.H 3) L D r0 v3 W) (fun _ W => W.rangeLeft b.p3 r0)
      case atStart =>
        refine ⟨_, _, [], RG.out, MetH.start HD2.out HS.out, ?_, by rw [List.append_nil]; exact OY.out, BY.out, by rw [HYZ.out]; omega, HWZ.out⟩
        rw [HD3.out]; have := stH_len q.H 3; have := HLQ.out; simp; omega
      case round =>
        clear RG BY OY
        obtain ⟨left, cnt, L2, hrg, hM, hc, hO2, hB2, hr1, hr2⟩ := hrel
        have HM := Lib.hid hM
        have HO := Lib.hid hO2
        have HB := Lib.hid hB2
        have HRG := Lib.hid hrg
        clear hrg hM hO2 hB2
        go_wp2_with (at_next; refine wpList_next_ranges _ rfl _ rfl 33 lawH rH (fun o : Nat => Value.int .u32 (o : Int)) vH (fun key kl hk => by obtain ⟨x, hx, _⟩ := key_u32 hk; exact ⟨x, hx⟩) (fun v y hv => by obtain ⟨c, rfl, _⟩ := rH_inv hv; exact ⟨c, rfl⟩) b.p3 r0 (Maps.size D) _ _ _ rfl HRG.out ?_ ?_)
        · intro hc0 hl0
          have HE : Hid ((L ++ L2).Perm (upto q.H 4)) := Lib.hid (by
            rw [upto_step q.H (j := 3) (by decide) (by decide)]
            exact HP.out.append (HM.out.perm HS.out hl0))
          clear hl0
          go_wp2
          go_roundw
          case rel => exact ⟨4, L ++ L2, by omega, rfl, HE.out, HO.out, HB.out⟩
          case measure => simp [intOf]
        · intro x c kl yd yp w2 cnt2 hkey hlk hv hat hrg2 hlt hg2 hs2 hen
          obtain ⟨x', ex, rfl, hxl⟩ := key_u32 hkey
          obtain rfl : x = x' := by injection ex with _ ex; omega
          rw [rH_mk] at hv
          obtain ⟨rfl, rfl⟩ : dH c = yd ∧ [] = yp := by simpa using hv
          obtain ⟨z, hz, rfl, hzn, hzk⟩ := HD2.out.entry hat
          have HM2 := Lib.hid (HM.out.step HS.out hz hlk)
          have HZE : Hid ((⟨z.o, c.n, c.k, 3⟩ : Hd) = z) := Lib.hid (by rw [← hzn, ← hzk, ← (mem_stH.1 hz).2])
          have HNI : Hid (some r0 ≠ u3.ownBlock) := Lib.hid (row_ne_iter HO.out HRG.out)
          have HO2 := Lib.hid (HO.out.grown hg2 (fun b hb e => HNI.out (e.symm.trans hb.symm)))
          have HRG2 := Lib.hid hrg2
          have HB2 := Lib.hid (HB.out.grown hg2 (Nat.le_of_lt (Nat.lt_of_le_of_lt hr2 hr1)) (fun k hk => by injection hk with hk; omega))
          have HZ2 := Lib.hid hs2
          have HLT := Lib.hid hlt
          clear hkey hlk hv hat hrg2 hlt hg2 hs2 ex hz hzn hzk
          have HO3 := Lib.hid ((HO2.out.alloc (.cells #[encStr c.n, .int .i64 c.k] 68)).alloc (.cells #[.int .u32 (z.o : Int), encStr c.n, .int .i64 c.k, .int .i64 3] 48))
          have LN : Hid (Lies ((w2.alloc (.cells #[encStr c.n, .int .i64 c.k] 68)).alloc (.cells #[.int .u32 (z.o : Int), encStr c.n, .int .i64 c.k, .int .i64 3] 48)) (w2.heap.size + 1) 48 #[.int .u32 (z.o : Int), encStr c.n, .int .i64 c.k, .int .i64 ((3 : Nat) : Int)]) := Lib.hid (Lies.made2 w2 (.cells #[encStr c.n, .int .i64 c.k] 68) 48 #[.int .u32 (z.o : Int), encStr c.n, .int .i64 c.k, .int .i64 3])
          have HSM : Hid ((L ++ L2).length ≤ 100000) := Lib.hid (by rw [List.length_append]; have := HLL.out; omega)
          have HBZ : Hid (w.heap.size ≤ ((w2.alloc (.cells #[encStr c.n, .int .i64 c.k] 68)).alloc (.cells #[.int .u32 (z.o : Int), encStr c.n, .int .i64 c.k, .int .i64 3] 48)).heap.size) := Lib.hid (by simp; have := HZ2.out; omega)
          go_wp2_with (first
            | ((with_reducible refine wpl_appH (some 34) _ _ _ (.tmp 25) (.tmp 33) w.heap.size u3 (L ++ L2) (w2.heap.size + 1) z.o c.n c.k 3 ?hs ?hx HO3.out LN.out HSM.out HBZ.out ?_); (case hs => rfl); (case hx => rfl); (intro v4 w4 ho4 hg4 hb4)))
          go_roundw
          case rel =>
            have e1 := fun k (h : u3.ownBlock = some k) => (HO.out.block k h).1
            have hne : some b.p3 ≠ u3.ownBlock := fun e => by have h1 := e1 _ e.symm; have h2 : b.p3 < w.heap.size := HA.out.o3.lt; omega
            refine ⟨_, _, L2 ++ [z], ((HRG2.out.alloc _).alloc _).kept hg4 hne HNI.out, HM2.out, ?_, by rw [← List.append_assoc, ← HZE.out]; exact ho4, ?_, ?_, hr2⟩
            · have := HLT.out
              rw [List.length_append]; simp; omega
            · exact (((HB2.out.alloc (by have := HZ2.out; omega) _).alloc (by have := HZ2.out; simp; omega) _).grown hg4 HBZ.out (fun k hk => e1 k hk))
            · have := hg4.size
              have h2 := HZ2.out
              simp at this
              omega
          case measure =>
            rw [(((HRG2.out.alloc _).alloc _).kept hg4 (fun e => by have h1 := (HO.out.block _ e.symm).1; have h2 : b.p3 < w.heap.size := HA.out.o3.lt; omega) HNI.out).left_eq, HRG.out.left_eq]
            exact HLT.out
    · clear i0 i1 i2 i3
      go_wp2_with fail
      with_reducible refine (sortH_any w.heap.size u3 L wr HO.out (by have := HLL.out; omega)).mono ?_
      rintro e w5 ⟨rfl, l', h1, h2, h3, h4⟩
      have HE := Lib.hid (holds_eq HI.out.hs (HP.out.trans (by
        have := perm_states q.H fun h hh => ⟨(HI.out.hh h hh).2.2.2.1, (HI.out.hh h hh).2.2.2.2.1⟩
        exact this)) h1 h2)
      have HO5 := Lib.hid h3
      have HB5 := Lib.hid (HB.out.grown h4 HB.out.size (fun k hk => (HO.out.block k hk).1))
      clear h1 h2 h3 h4
      go_wp2
      go_ret
      exact ⟨_, rfl, by rw [← HE.out]; exact HO5.out, HB5.out⟩

end Go.Proofs.Ytlgdjmmhdfpfeaa
