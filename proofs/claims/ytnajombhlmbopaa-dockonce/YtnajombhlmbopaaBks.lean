/-
  The contract of Bookings.
-/
import Derived.Test.YtnajombhlmbopaaAppE
import Derived.Test.YtnajombhlmbopaaSmall
namespace Go.Proofs.Ytnajombhlmbopaa
open Go.Proofs Go.RowKit Go.Maps
set_option maxRecDepth 100000
set_option linter.unusedVariables false
set_option linter.unusedSimpArgs false

def BksPost (w : World) (H : List Hd) (e : Ending) (w' : World) : Prop := ∃ v, e = .returned v ∧ OwnR w' w.heap.size v H ∧ Below w.heap.size w w'

/-- The cells of n new bookings. -/
def mrowH (n : Nat) : Array Value := madeCells #[.int .u32 0, .int .i64 0, .int .i64 0] (n * 3)
theorem run_mrowH (n : Nat) (hn : n ≤ 1000000) (w : World) : (Instr.makeSlice 39 (.int .i64 0) (.int .i64 (n : Int))).run Try.prog w = .ok (.slice (some ⟨w.heap.size, 0, none⟩) 0 n) (w.alloc (.cells (mrowH n) 44)) := by
  have := run_make (P := Try.prog) w 39 44 _ (.agg #[.int .u32 0, .int .i64 0, .int .i64 0]) Try.underlying39 Try.type44 rfl .i64 .i64 0 (n : Int) (by omega) (by omega) (by show (24 : Int) * (n : Int) ≤ _; omega) (by omega)
  rw [this]
  show Result.ok (Value.slice _ (0 : Int).toNat (n : Int).toNat) (w.alloc (.cells (madeCells #[.int .u32 0, .int .i64 0, .int .i64 0] ((n : Int).toNat * 3)) 44)) = _
  rw [Int.toNat_natCast]
  rfl
theorem key_u32 {key : Value} {kl : Lit} (h : keyOf Try.prog 32 key = some kl) : ∃ o : Nat, key = .int .u32 (o : Int) ∧ kl = .int .u32 (o : Int) ∧ o < 4294967296 := by
  obtain ⟨x, rfl, rfl, hw⟩ := Maps.keyOf_int_inv Try.underlying32 h
  have h1 : 0 ≤ x ∧ x ≤ 4294967295 := by
    have e0 : IntKind.u32.min = 0 := rfl
    have e1 : IntKind.u32.max = 4294967295 := rfl
    simpa [Lit.wf, e0, e1] using hw
  obtain ⟨o, rfl⟩ := Int.eq_ofNat_of_zero_le h1.1
  exact ⟨o, rfl, rfl, by omega⟩

def HR (w0 : World) (b : SB) (q : Ss) (D : DataW Unit) (r : Nat) (v3 : Value) (wr : World) : Prop :=
  ∃ left cnt L, wr.ranges Try.prog 32 rH b.m r (Maps.size D) D left cnt ∧ MetH q.H left L ∧ L.length + cnt ≤ 1000 ∧ OwnR wr w0.heap.size v3 L ∧ Below w0.heap.size w0 wr ∧ r < wr.heap.size ∧ w0.heap.size ≤ r

set_option maxHeartbeats 4000000 in
theorem bks_any (b : SB) (q : Ss) (w : World) (hA : At w b q) (hs : HSort q.H) (hl : q.H.length ≤ 1000) : Calls Try.prog 15 #[.pointer (some ⟨b.s, 0, none⟩)] w (BksPost w q.H) := by
  have HA := Lib.hid hA
  have HS := Lib.hid hs
  obtain ⟨A0, cap0, hbv⟩ := hA.len
  have hC := hA.c
  rw [hbv] at hC
  obtain ⟨c0, c1⟩ := hC.cells2
  have r1 := hA.o.len 3
  have r2 := fun W => run_mrowH q.H.length (by omega) W
  have HA1 := Lib.hid (hA.alloc (.cells (mrowH q.H.length) 44))
  obtain ⟨D, hD1, hD2, hD3⟩ := HA1.out.o
  have hC2 := HA1.out.c
  rw [hbv] at hC2
  obtain ⟨d0, d1⟩ := hC2.cells2
  have HD1 := Lib.hid hD1
  have HD2 := Lib.hid hD2
  have HD3 := Lib.hid hD3
  clear hA hs hD1 hD2 hD3 hC hC2 hbv
  go_enter Try.func15, Try.ntmps15
  go_wp2_with (at_range; refine wpList_range_own _ rfl _ 53 rfl 32 59 lawH Try.underlying53 rH b.m (Maps.size D) D rfl HD1.out ?_; intro y hrg0 hg0 hs0)
  go_frame
  rw [size_one] at hrg0 hs0
  rw [size_one]
  have RG := Lib.hid hrg0
  have BY : Hid (Below w.heap.size w y) := Lib.hid ((below1 w (.cells (mrowH q.H.length) 44)).grown hg0 (by simp) (fun k hk => by cases hk))
  have HAy : Hid (At y b q) := Lib.hid (HA1.out.below ⟨hg0.os, hg0.tape, hg0.output, hg0.size, fun k hk => hg0.block k hk (by simp)⟩)
  have OY : Hid (OwnR y w.heap.size (.slice (some ⟨w.heap.size, 0, none⟩) 0 q.H.length) []) := Lib.hid ((OwnE.made w w.heap.size q.H.length _ (Nat.le_refl _) (by unfold maxLen; omega)).grown hg0 (fun b hb => by simp))
  have HYZ : Hid (y.heap.size = w.heap.size + 1 + 1) := Lib.hid hs0
  clear hrg0 hg0 hs0 r1 r2 HA1 HD1 c0 c1 d0 d1
  go_loopw [3, 4, 5] (fun v3 _ _ wr => HR w b q D (w.heap.size + 1) v3 wr) (fun _ _ _ wr => wr.rangeLeft b.m (w.heap.size + 1))
  case atStart =>
    refine ⟨_, _, [], RG.out, MetH.start HD2.out HS.out, ?_, OY.out, BY.out, by rw [HYZ.out]; omega, by omega⟩
    rw [HD3.out]; simp; omega
  case round =>
    obtain ⟨left, cnt, L, hrg, hM, hc, hO, hB, hr1, hr2⟩ := hrel
    have HM := Lib.hid hM
    have HO := Lib.hid hO
    have HB := Lib.hid hB
    have HRG := Lib.hid hrg
    clear hrg hM hO hB
    go_wp2_with (at_next; refine wpList_next_ranges _ rfl _ rfl 32 lawH rH (fun o : Nat => Value.int .u32 (o : Int)) vH (fun key kl hk => by obtain ⟨x, hx, _⟩ := key_u32 hk; exact ⟨x, hx⟩) (fun v y hv => by obtain ⟨c, rfl, _⟩ := rH_inv hv; exact ⟨c, rfl⟩) b.m (w.heap.size + 1) (Maps.size D) _ _ _ rfl HRG.out ?_ ?_)
    · intro hc0 hl0
      have HL0 := Lib.hid hl0
      clear hl0
      go_wp2_with fail
      with_reducible refine (sortH_any w.heap.size u3 L wr HO.out (by omega)).mono ?_
      rintro e w5 ⟨rfl, l', h1, h2, h3, h4⟩
      have HE := Lib.hid (holds_eq HS.out (HM.out.perm HS.out HL0.out) h1 h2)
      have HO5 := Lib.hid h3
      have HB5 := Lib.hid (HB.out.grown h4 (by omega) (fun k hk => (HO.out.block k hk).1))
      clear h1 h2 h3 h4
      go_wp2
      go_ret
      exact ⟨_, rfl, by rw [← HE.out]; exact HO5.out, HB5.out⟩
    · intro x c kl yd yp w2 cnt2 hkey hlk hv hat hrg2 hlt hg2 hs2 hen
      obtain ⟨x', ex, rfl, hxl⟩ := key_u32 hkey
      obtain rfl : x = x' := by injection ex with _ ex; omega
      rw [rH_mk] at hv
      obtain ⟨rfl, rfl⟩ : dH c = yd ∧ [] = yp := by simpa using hv
      obtain ⟨z, hz, hzo, hzp⟩ := HD2.out.entry hat
      obtain ⟨cd, ck⟩ := c
      simp only [Hd.p, Pd.mk.injEq] at hzp
      obtain ⟨rfl, rfl⟩ := hzp
      subst hzo
      have HM2 := Lib.hid (HM.out.step HS.out hz hlk)
      have HNI : Hid (some (w.heap.size + 1) ≠ u3.ownBlock) := Lib.hid (row_ne_iter HO.out HRG.out)
      have HO2 := Lib.hid (HO.out.grown hg2 (fun b hb e => HNI.out (e.symm.trans hb.symm)))
      have HRG2 := Lib.hid hrg2
      have HB2 := Lib.hid (HB.out.grown hg2 (Nat.le_of_lt (Nat.lt_of_le_of_lt hr2 hr1)) (fun k hk => by injection hk with hk; omega))
      have HZ2 := Lib.hid hs2
      have HLT := Lib.hid hlt
      clear hkey hlk hv hat hrg2 hlt hg2 hs2 ex hz
      have HO3 := Lib.hid ((HO2.out.alloc (.cells #[.int .i64 (z.d : Int), .int .i64 z.k] 59)).alloc (.cells #[.int .u32 (z.o : Int), .int .i64 (z.d : Int), .int .i64 z.k] 44))
      have LN := Lib.hid (Lies.made2 w2 (.cells #[.int .i64 (z.d : Int), .int .i64 z.k] 59) 44 #[.int .u32 (z.o : Int), .int .i64 (z.d : Int), .int .i64 z.k])
      have HSM : Hid (L.length ≤ 100000) := Lib.hid (by omega)
      have HBZ : Hid (w.heap.size ≤ ((w2.alloc (.cells #[.int .i64 (z.d : Int), .int .i64 z.k] 59)).alloc (.cells #[.int .u32 (z.o : Int), .int .i64 (z.d : Int), .int .i64 z.k] 44)).heap.size) := Lib.hid (by simp; have := HZ2.out; omega)
      go_wp2_with (first
        | ((with_reducible refine wpl_appH (some 32) _ _ _ (.tmp 24) (.tmp 31) w.heap.size u3 L (w2.heap.size + 1) z.o z.d z.k ?hs ?hx HO3.out LN.out HSM.out HBZ.out ?_); (case hs => rfl); (case hx => rfl); (intro v4 w4 ho4 hg4 hb4)))
      go_roundw
      case rel =>
        have hbk : b.m < w.heap.size := HA.out.o.lt
        have e1 := fun k (h : u3.ownBlock = some k) => (HO.out.block k h).1
        refine ⟨_, _, L ++ [⟨z.o, z.d, z.k⟩], ((HRG2.out.alloc _).alloc _).kept hg4 (fun e => by have := e1 _ e.symm; omega) HNI.out, HM2.out, ?_, ho4, ?_, ?_, hr2⟩
        · have := HLT.out
          rw [List.length_append]; simp; omega
        · exact (((HB2.out.alloc (by have := HZ2.out; omega) _).alloc (by have := HZ2.out; simp; omega) _).grown hg4 HBZ.out (fun k hk => e1 k hk))
        · have := hg4.size
          have h2 := HZ2.out
          simp at this
          omega
      case measure =>
        rw [(((HRG2.out.alloc _).alloc _).kept hg4 (fun e => by have := (HO.out.block _ e.symm).1; have hbk : b.m < w.heap.size := HA.out.o.lt; omega) HNI.out).left_eq, HRG.out.left_eq]
        exact HLT.out

end Go.Proofs.Ytnajombhlmbopaa
