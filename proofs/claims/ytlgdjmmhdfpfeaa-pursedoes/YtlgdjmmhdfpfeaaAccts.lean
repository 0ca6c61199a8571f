/-
  The contract of Goods.
-/
import Derived.Test.YtlgdjmmhdfpfeaaAppE
import Derived.Test.YtlgdjmmhdfpfeaaTaken
namespace Go.Proofs.Ytlgdjmmhdfpfeaa
open Go.Proofs Go.RowKit Go.Maps
set_option maxRecDepth 100000
set_option linter.unusedVariables false
set_option linter.unusedSimpArgs false

def AcctsPost (w : World) (K : List Kd) (e : Ending) (w' : World) : Prop := ∃ v, e = .returned v ∧ OwnG w' w.heap.size v (K) ∧ Below w.heap.size w w'

/-- The cells of n new goods. -/
def mrowG (n : Nat) : Array Value := madeCells #[.string ⟨#[]⟩, .int .i64 0, .int .i64 0] (n * 3)
theorem run_mrowG (n : Nat) (hn : n ≤ 1000000) (w : World) : (Instr.makeSlice 22 (.int .i64 0) (.int .i64 (n : Int))).run Try.prog w = .ok (.slice (some ⟨w.heap.size, 0, none⟩) 0 n) (w.alloc (.cells (mrowG n) 46)) := by
  have := run_make (P := Try.prog) w 22 46 _ (.agg #[.string ⟨#[]⟩, .int .i64 0, .int .i64 0]) Try.underlying22 Try.type46 rfl .i64 .i64 0 (n : Int) (by omega) (by omega) (by show (32 : Int) * (n : Int) ≤ _; omega) (by omega)
  rw [this]
  show Result.ok (Value.slice _ (0 : Int).toNat (n : Int).toNat) (w.alloc (.cells (madeCells #[.string ⟨#[]⟩, .int .i64 0, .int .i64 0] ((n : Int).toNat * 3)) 46)) = _
  rw [Int.toNat_natCast]
  rfl

def GR (w0 : World) (b : SB) (q : Ss) (D : DataW Unit) (r : Nat) (v3 : Value) (wr : World) : Prop :=
  ∃ left cnt L, wr.ranges Try.prog 9 rK b.k r (Maps.size D) D left cnt ∧ MetK q.K left L ∧ L.length + cnt ≤ 1000 ∧ OwnG wr w0.heap.size v3 L ∧ Below w0.heap.size w0 wr ∧ r < wr.heap.size ∧ w0.heap.size ≤ r

set_option maxHeartbeats 4000000 in
theorem accts_any (b : SB) (q : Ss) (w : World) (hA : At w b q) (hs : KSort q.K) (hl : q.K.length ≤ 1000) : Calls Try.prog 16 #[.pointer (some ⟨b.s, 0, none⟩)] w (AcctsPost w q.K) := by
  have HA := Lib.hid hA
  have HS := Lib.hid hs
  obtain ⟨c0, c1, c2, c3, c4⟩ := hA.c.cells5
  have r1 := hA.ok.len 3
  have r2 := fun W => run_mrowG q.K.length (by omega) W
  have HA1 := Lib.hid (hA.alloc (.cells (mrowG q.K.length) 46))
  obtain ⟨D, hD1, hD2, hD3⟩ := HA1.out.ok
  obtain ⟨d0, d1, d2, d3, d4⟩ := HA1.out.c.cells5
  have HD1 := Lib.hid hD1
  have HD2 := Lib.hid hD2
  have HD3 := Lib.hid hD3
  clear hA hs hD1 hD2 hD3
  go_enter Try.func16, Try.ntmps16
  go_wp2_with (at_range; refine wpList_range_own _ rfl _ 54 rfl 9 46 lawK Try.underlying54 rK b.k (Maps.size D) D rfl HD1.out ?_; intro y hrg0 hg0 hs0)
  go_frame
  rw [size_one] at hrg0 hs0
  rw [size_one]
  have RG := Lib.hid hrg0
  have BY : Hid (Below w.heap.size w y) := Lib.hid ((below1 w (.cells (mrowG q.K.length) 46)).grown hg0 (by simp) (fun k hk => by cases hk))
  have HAy : Hid (At y b q) := Lib.hid (HA1.out.below ⟨hg0.os, hg0.tape, hg0.output, hg0.size, fun k hk => hg0.block k hk (by simp)⟩)
  have OY : Hid (OwnG y w.heap.size (.slice (some ⟨w.heap.size, 0, none⟩) 0 q.K.length) []) := Lib.hid ((OwnE.made w w.heap.size q.K.length _ (Nat.le_refl _) (by unfold maxLen; omega)).grown hg0 (fun b hb => by simp))
  have HYZ : Hid (y.heap.size = w.heap.size + 1 + 1) := Lib.hid hs0
  clear hrg0 hg0 hs0 r1 r2 HA1 HD1 c0 c1 c2 c3 c4 d0 d1 d2 d3 d4
  go_loopw [3] (fun v3 wr => GR w b q D (w.heap.size + 1) v3 wr) (fun _ wr => wr.rangeLeft b.k (w.heap.size + 1))
  case atStart =>
    refine ⟨_, _, [], RG.out, MetK.start HD2.out HS.out, ?_, OY.out, BY.out, by rw [HYZ.out]; omega, by omega⟩
    rw [HD3.out]; simp; omega
  case round =>
    obtain ⟨left, cnt, L, hrg, hM, hc, hO, hB, hr1, hr2⟩ := hrel
    have HM := Lib.hid hM
    have HO := Lib.hid hO
    have HB := Lib.hid hB
    have HRG := Lib.hid hrg
    clear hrg hM hO hB
    go_wp2_with (at_next; refine wpList_next_ranges _ rfl _ rfl 9 lawK rK encStr vK (fun key kl hk => by obtain ⟨x, hx, _⟩ := Maps.keyOf_str Try.underlying9 hk; exact ⟨x, hx⟩) (fun v y hv => by obtain ⟨c, rfl, _⟩ := rK_inv hv; exact ⟨c, rfl⟩) b.k (w.heap.size + 1) (Maps.size D) _ _ _ rfl HRG.out ?_ ?_)
    · intro hc0 hl0
      have HL0 := Lib.hid hl0
      clear hl0
      go_wp2_with fail
      with_reducible refine (sortG_any w.heap.size u3 L wr HO.out (by omega)).mono ?_
      rintro e w5 ⟨rfl, l', h1, h2, h3, h4⟩
      have HE := Lib.hid (goods_eq HS.out (HM.out.perm HS.out HL0.out) h1 h2)
      have HO5 := Lib.hid h3
      have HB5 := Lib.hid (HB.out.grown h4 (by omega) (fun k hk => (HO.out.block k hk).1))
      clear h1 h2 h3 h4
      go_wp2
      go_ret
      exact ⟨_, rfl, by rw [← HE.out]; exact HO5.out, HB5.out⟩
    · intro x c kl yd yp w2 cnt2 hkey hlk hv hat hrg2 hlt hg2 hs2 hen
      obtain ⟨x', ex, rfl, hxl⟩ := Maps.keyOf_str Try.underlying9 hkey
      obtain rfl : x = x' := encStr_inj ex
      rw [rK_mk] at hv
      obtain ⟨rfl, rfl⟩ : dK c = yd ∧ [] = yp := by simpa using hv
      obtain ⟨hcK, rfl⟩ := HD2.out.entry hat
      have HM2 := Lib.hid (HM.out.step HS.out hcK hlk)
      have HNI : Hid (some (w.heap.size + 1) ≠ u3.ownBlock) := Lib.hid (row_ne_iter HO.out HRG.out)
      have HO2 := Lib.hid (HO.out.grown hg2 (fun b hb e => HNI.out (e.symm.trans hb.symm)))
      have HRG2 := Lib.hid hrg2
      have HB2 := Lib.hid (HB.out.grown hg2 (Nat.le_of_lt (Nat.lt_of_le_of_lt hr2 hr1)) (fun k hk => by injection hk with hk; omega))
      have HZ2 := Lib.hid hs2
      have HLT := Lib.hid hlt
      clear hkey hlk hv hat hrg2 hlt hg2 hs2 ex
      have HO3 := Lib.hid ((HO2.out.alloc (.cells #[encStr c.n, .int .i64 c.m, .int .i64 c.h] 46)).alloc (.cells #[encStr c.n, .int .i64 c.m, .int .i64 c.h] 46))
      have LN := Lib.hid (Lies.made2 w2 (.cells #[encStr c.n, .int .i64 c.m, .int .i64 c.h] 46) 46 #[encStr c.n, .int .i64 c.m, .int .i64 c.h])
      have HSM : Hid (L.length ≤ 100000) := Lib.hid (by omega)
      have HBZ : Hid (w.heap.size ≤ ((w2.alloc (.cells #[encStr c.n, .int .i64 c.m, .int .i64 c.h] 46)).alloc (.cells #[encStr c.n, .int .i64 c.m, .int .i64 c.h] 46)).heap.size) := Lib.hid (by simp; have := HZ2.out; omega)
      go_wp2_with (first
        | ((with_reducible refine wpl_appG (some 26) _ _ _ (.tmp 23) (.tmp 25) w.heap.size u3 L (w2.heap.size + 1) c.n c.m c.h ?hs ?hx HO3.out LN.out HSM.out HBZ.out ?_); (case hs => rfl); (case hx => rfl); (intro v4 w4 ho4 hg4 hb4)))
      go_roundw
      case rel =>
        have hbk : b.k < w.heap.size := HA.out.ok.lt
        have e1 := fun k (h : u3.ownBlock = some k) => (HO.out.block k h).1
        refine ⟨_, _, L ++ [c], ((HRG2.out.alloc _).alloc _).kept hg4 (fun e => by have := e1 _ e.symm; omega) HNI.out, HM2.out, ?_, ho4, ?_, ?_, hr2⟩
        · have := HLT.out
          rw [List.length_append]; simp; omega
        · exact (((HB2.out.alloc (by have := HZ2.out; omega) _).alloc (by have := HZ2.out; simp; omega) _).grown hg4 HBZ.out (fun k hk => e1 k hk))
        · have := hg4.size
          have h2 := HZ2.out
          simp at this
          omega
      case measure =>
        rw [(((HRG2.out.alloc _).alloc _).kept hg4 (fun e => by have := (HO.out.block _ e.symm).1; have hbk : b.k < w.heap.size := HA.out.ok.lt; omega) HNI.out).left_eq, HRG.out.left_eq]
        exact HLT.out

end Go.Proofs.Ytlgdjmmhdfpfeaa
