/-
  The contract of Same, for fences that are the same.
-/
import Derived.Test.YtfcfejmammohpaaSameK
import Derived.Test.YtfcfejmammohpaaSearch
namespace Go.Proofs.Ytfcfejmammohpaa
open Go.RowKit
set_option maxRecDepth 100000
set_option linter.unusedVariables false
set_option linter.unusedSimpArgs false

theorem and_six {a b c d e f : Prop} {P : Prop} (h : a ∧ b ∧ c ∧ d ∧ e ∧ f) (k : P) : a ∧ b ∧ c ∧ d ∧ e ∧ f ∧ P := ⟨h.1, h.2.1, h.2.2.1, h.2.2.2.1, h.2.2.2.2.1, h.2.2.2.2.2, k⟩
def SmR (w : World) (n : Nat) (gA gB : Nat) (ca cb : Array Value) (i : Value) (wr : World) : Prop := ∃ j : Nat, j ≤ n ∧ i = .int .i64 (j : Int) ∧ Lies wr gA 25 ca ∧ Lies wr gB 25 cb ∧ Below w.heap.size w wr
set_option maxHeartbeats 8000000 in
theorem same_fence (ep : Nat) (A B : Option Addr) (n c d : Nat) (T : Nat → Kp) (w : World) (hA : FV w A n c T) (hB : FV w B n d T) :
    Calls Try.prog 21 #[.agg #[.int .u32 (ep : Int), .slice A n c], .agg #[.int .u32 (ep : Int), .slice B n d]] w fun e w' => e = .returned (.bool true) ∧ Below w.heap.size w w' := by
  obtain ⟨hnc, hcm, _, X, hX, hXk⟩ := hA
  obtain ⟨_, _, _, Y, hY, hYk⟩ := hB
  have hn63 : n ≤ maxLen := Nat.le_trans hnc hcm
  unfold maxLen at hn63
  have HX := Lib.hid hX
  have HY := Lib.hid hY
  have HXK := Lib.hid hXk
  have HYK := Lib.hid hYk
  have LA := Lib.hid ((Lies.made w 25 #[.int .u32 (ep : Int), .slice A n c]).alloc (.cells #[.int .u32 (ep : Int), .slice B n d] 25))
  have LB := Lib.hid (Lies.made2 w (.cells #[.int .u32 (ep : Int), .slice A n c] 25) 25 #[.int .u32 (ep : Int), .slice B n d])
  have BB := Lib.hid (below2 w (.cells #[.int .u32 (ep : Int), .slice A n c] 25) (.cells #[.int .u32 (ep : Int), .slice B n d] 25))
  have z1 : ((ep : Int) != (ep : Int)) = false := by simp
  have z2 : ((n : Int) != (n : Int)) = false := by simp
  clear hX hY hXk hYk hcm hnc
  go_enter Try.func21, Try.ntmps21
  go_wp2_with fail
  go_loopw [5] (SmR w n w.heap.size (w.heap.size + 1) #[.int .u32 (ep : Int), .slice A n c] #[.int .u32 (ep : Int), .slice B n d]) (fun i _ => n - (intOf i).toNat)
  case atStart => exact ⟨0, by omega, rfl, LA.out, LB.out, BB.out⟩
  case round =>
    obtain ⟨j, hj, rfl, hLA, hLB, hbel⟩ := hrel
    have LA2 := Lib.hid hLA
    have LB2 := Lib.hid hLB
    have BE := Lib.hid hbel
    clear hLA hLB hbel
    obtain ⟨a0, a1⟩ := LA2.out.cells2
    obtain ⟨b0, b1⟩ := LB2.out.cells2
    by_cases hlt : j < n
    · obtain ⟨g, off, rfl, _⟩ := HX.out.1 (by omega)
      obtain ⟨g', off', rfl, _⟩ := HY.out.1 (by omega)
      have hi : (j : Int) < (n : Int) := by omega
      have HXW := Lib.hid (HX.out.below BE.out)
      have HYW := Lib.hid (HY.out.below BE.out)
      have CS := Lib.hid (fun (W : World) (hW : Below wr.heap.size wr W) => sameKept_any (X j) (Y j) W (((HXW.out.below hW).2 j hlt)) (((HYW.out.below hW).2 j hlt)))
      have HE : Hid (sameK (X j).k (Y j).k = true) := Lib.hid (by rw [HXK.out j hlt, HYK.out j hlt]; exact sameK_self _)
      rw [HE.out] at CS
      have D1 := Lib.hid (fun W (hb : Below wr.drew.heap.size wr.drew W) => (HXW.out.drew.below hb).at j hlt)
      have D2 := Lib.hid (fun W (hb : Below wr.drew.heap.size wr.drew W) => (HYW.out.drew.below hb).at j hlt)
      have CS0 := Lib.hid (CS.out wr.drew (Below.refl _ _).drew)
      obtain ⟨q0, q1, q2, q3, q4, q5⟩ := HXW.out.at j hlt
      obtain ⟨r0, r1, r2, r3, r4, r5⟩ := HYW.out.at j hlt
      clear CS HE HXW HYW
      generalize X j = x at *
      obtain ⟨⟨xo, xs, xu, xa, xc, xr⟩, xK, xD⟩ := x
      generalize Y j = y at *
      obtain ⟨⟨yo, ys, yu, ya, yc, yr⟩, yK, yD⟩ := y
      dsimp only at *
      go_wp2_with fail
      go_region_held3 (fun W => W.cell? ⟨w.heap.size, 1, none⟩ = some (.slice (some ⟨g, off, none⟩) n c) ∧ W.cell? ⟨w.heap.size + 1, 1, none⟩ = some (.slice (some ⟨g', off', none⟩) n d) ∧ W.cell? ⟨g, off + j * 6, none⟩ = some (.int .u32 (xo : Int)) ∧ W.cell? ⟨g, off + j * 6 + 1, none⟩ = some (.int .i64 xs) ∧ W.cell? ⟨g, off + j * 6 + 2, none⟩ = some (.bool xu) ∧ W.cell? ⟨g, off + j * 6 + 3, none⟩ = some (xK) ∧ W.cell? ⟨g, off + j * 6 + 4, none⟩ = some (.int .i64 xc) ∧ W.cell? ⟨g, off + j * 6 + 5, none⟩ = some (xD) ∧ W.cell? ⟨g', off' + j * 6, none⟩ = some (.int .u32 (yo : Int)) ∧ W.cell? ⟨g', off' + j * 6 + 1, none⟩ = some (.int .i64 ys) ∧ W.cell? ⟨g', off' + j * 6 + 2, none⟩ = some (.bool yu) ∧ W.cell? ⟨g', off' + j * 6 + 3, none⟩ = some (yK) ∧ W.cell? ⟨g', off' + j * 6 + 4, none⟩ = some (.int .i64 yc) ∧ W.cell? ⟨g', off' + j * 6 + 5, none⟩ = some (yD)) (first | (with_reducible exact KP.out) | go_keep)
        (first
        | (go_at_call 20; (with_reducible refine CS0.out.mono ?_); (rintro e w2 ⟨rfl, hb⟩); (have LA3 := Lib.hid (Lies.below (Lies.drew LA2.out) hb (Lies.lt LA2.out))); (have LB3 := Lib.hid (Lies.below (Lies.drew LB2.out) hb (Lies.lt LB2.out))); (have BE3 := Lib.hid (BE.out.drew.trans (hb.mono BE.out.size))); (have KP := Lib.hid (And.intro LA3.out.cells2.2 (And.intro LB3.out.cells2.2 (and_six (D1.out _ hb) (D2.out _ hb))))); (clear hb)))
      go_wp2
      go_roundw
      case rel => exact ⟨j + 1, by omega, by go_num, LA3.out, LB3.out, BE3.out⟩
      case measure => simp [intOf]; omega
    · have hjn : j = n := by omega
      subst hjn
      go_wp2
      go_ret
      exact ⟨rfl, BE.out⟩

end Go.Proofs.Ytfcfejmammohpaa
