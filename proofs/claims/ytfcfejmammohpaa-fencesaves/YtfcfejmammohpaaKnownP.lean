/-
  What the chapter says of its example.
-/
import Derived.Test.YtfcfejmammohpaaKeep
import Derived.Test.YtfcfejmammohpaaStep
namespace Go.Proofs.Ytfcfejmammohpaa
open Go.RowKit
set_option maxRecDepth 100000
set_option linter.unusedVariables false
set_option linter.unusedSimpArgs false

abbrev T0 : Nat → Kp := fun _ => kz
abbrev F1 : Fc := keepF 0 0 T0 (stN 2 1 0 false [97]) 1 [114]
abbrev F2 : Fc := keepF 2 1 F1.T (stN 3 1 1 true []) 1 []
theorem f1e : keepE 0 0 T0 (stN 2 1 0 false [97]) 1 [114] = 0 := by decide +kernel
theorem f1n : F1.ep = 2 ∧ F1.n = 1 := by decide +kernel
theorem f2e : keepE 2 1 F1.T (stN 3 1 1 true []) 1 [] = 0 := by decide +kernel
theorem f2n : F2.ep = 3 ∧ F2.n = 2 := by decide +kernel
theorem k1 : (askS 0 0 T0 (stN 2 1 0 false [97])).act = 1 ∧ (askS 0 0 T0 (stN 2 1 0 false [97])).e = 0 := by decide +kernel
theorem k2 : (askS 2 1 F1.T (stN 2 1 0 false [97])).act = 2 ∧ (askS 2 1 F1.T (stN 2 1 0 false [97])).e = 0 ∧ (askS 2 1 F1.T (stN 2 1 0 false [97])).k.r = [114] := by decide +kernel
theorem k3 : (askS 2 1 F1.T (stN 2 1 0 false [98])).e = 80 := by decide +kernel
theorem k4 : (askS 2 1 F1.T (stN 1 1 0 false [97])).e = 72 := by decide +kernel
theorem k5 : (askS 2 1 F1.T (stN 2 1 0 true [])).act = 1 := by decide +kernel
theorem k6 : (askS 2 1 F1.T (stN 2 1 1 true [])).act = 4 := by decide +kernel
theorem k7 : (askS 3 2 F2.T (stN 3 1 1 false [120])).act = 3 := by decide +kernel
/-- What is asked of a fence. -/
def ActPost (w : World) (x : Ending) (w' : World) (P : Int → Int → List Nat → Prop) : Prop :=
  ∃ (a e : Int) (o : Nat) (s : Int) (u : Bool) (A1 : Option Addr) (n1 c1 : Nat) (c : Int) (A2 : Option Addr) (c2 : Nat) (r : List Nat), x = .returned (.tuple #[.int .i64 a, .agg #[.int .u32 (o : Int), .int .i64 s, .bool u, .slice A1 n1 c1, .int .i64 c, .slice A2 r.length c2], .int .i64 e]) ∧ Own w' w.heap.size (.slice A2 r.length c2) r ∧ Below w.heap.size w w' ∧ P a e r
theorem act_any (ep : Nat) (A : Option Addr) (n c : Nat) (T : Nat → Kp) (N : Note) (A2 : Option Addr) (c2 : Nat) (w : World) (hF : FV w A n c T) (hN : EntV w N none A2 0 c2) (hs : in64 N.step) (hep : ep < 4294967296) (hk : N.key = []) (P : Int → Int → List Nat → Prop)
    (hP : P ((askS ep n T N).act : Nat) ((askS ep n T N).e : Nat) (askS ep n T N).k.r) :
    Calls Try.prog 14 #[.agg #[.int .u32 (ep : Int), .slice A n c], .agg (evs N (.slice none 0 0) (.slice A2 N.data.length c2))] w fun x w' => ActPost w x w' P := by
  have h := ask_any ep A n c T N none A2 0 c2 w hF hN hs hep
  rw [hk] at h
  refine h.mono ?_
  rintro x w' ⟨y, rfl, hy, hb⟩
  obtain ⟨E1, d1, z1, -⟩ := hy.2.1.slice
  obtain ⟨E2, d2, z2, -⟩ := hy.2.2.slice
  have hB := hy.2.2
  have hyk := hy.1
  obtain ⟨yk, yK, yD⟩ := y
  dsimp only at *
  subst z1 z2
  subst hyk
  exact ⟨_, _, _, _, _, _, _, _, _, _, _, _, rfl, hB, hb, hP⟩
theorem keep0_any (A2 : Option Addr) (c2 : Nat) (A3 : Option Addr) (c3 : Nat) (w : World) (hN : EntV w (stN 2 1 0 false [97]) none A2 0 c2) (hR : Bys w A3 1 [114]) (h3 : 1 ≤ c3) (h4 : c3 ≤ maxLen) (h5 : A3 = none → c3 = 0) :
    Calls Try.prog 26 #[.agg #[.int .u32 0, .slice none 0 0], .agg (evs (stN 2 1 0 false [97]) (.slice none 0 0) (.slice A2 1 c2)), .int .i64 1, .slice A3 1 c3] w fun x w' => ∃ A c, x = .returned (.tuple #[.agg #[.int .u32 2, .slice A 1 c], .int .i64 0]) ∧ FV w' A 1 c F1.T ∧ Below w.heap.size w w' := by
  have h := keep_any 0 none 0 0 T0 (stN 2 1 0 false [97]) none A2 0 c2 1 A3 1 c3 [114] w (FV.nil w T0) hN (by unfold in64; decide) (by decide) (by unfold in64; decide) hR h3 h4 h5
  refine h.mono ?_
  rintro x w' ⟨v, X, rfl, hnf, hx, hb⟩
  have e1 : (keepF 0 0 T0 (stN 2 1 0 false [97]) 1 [114]).ep = 2 := f1n.1
  have e2 : (keepF 0 0 T0 (stN 2 1 0 false [97]) 1 [114]).n = 1 := f1n.2
  rw [e2] at hnf hx
  obtain ⟨A, c, rfl, hfv⟩ := hnf.fv hx
  rw [f1e, e1]
  exact ⟨A, c, rfl, hfv, hb⟩
theorem keep1_any (A : Option Addr) (c : Nat) (A2 : Option Addr) (c2 : Nat) (w : World) (hF : FV w A 1 c F1.T) (hN : EntV w (stN 3 1 1 true []) none A2 0 c2) :
    Calls Try.prog 26 #[.agg #[.int .u32 2, .slice A 1 c], .agg (evs (stN 3 1 1 true []) (.slice none 0 0) (.slice A2 0 c2)), .int .i64 1, .slice none 0 0] w fun x w' => ∃ A c X, x = .returned (.tuple #[.agg #[.int .u32 3, .slice A 2 c], .int .i64 0]) ∧ NF w' w.heap.size (.slice A 2 c) 2 X ∧ (∀ i, i < 2 → (X i).k = F2.T i) ∧ Below w.heap.size w w' := by
  have h := keep_any 2 A 1 c F1.T (stN 3 1 1 true []) none A2 0 c2 1 none 0 0 [] w hF hN (by unfold in64; decide) (by decide) (by unfold in64; decide) (Bys.none_ w) (Nat.le_refl _) (by unfold maxLen; omega) (fun _ => rfl)
  refine h.mono ?_
  rintro x w' ⟨v, X, rfl, hnf, hx, hb⟩
  have e1 : (keepF 2 1 F1.T (stN 3 1 1 true []) 1 []).ep = 3 := f2n.1
  have e2 : (keepF 2 1 F1.T (stN 3 1 1 true []) 1 []).n = 2 := f2n.2
  rw [e2] at hnf hx
  obtain ⟨A', c', rfl, -⟩ := hnf.row.slice
  rw [f2e, e1]
  exact ⟨A', c', X, rfl, hnf, hx, hb⟩


end Go.Proofs.Ytfcfejmammohpaa
