/-
  What a fence says of elder epochs.
-/
import Derived.Test.YtfcfejmammohpaaServe
import Derived.Test.YtfcfejmammohpaaSame30
import Derived.Test.YtfcfejmammohpaaKnownP
namespace Go.Proofs.Ytfcfejmammohpaa
open Go.RowKit
set_option maxRecDepth 100000
set_option linter.unusedVariables false
set_option linter.unusedSimpArgs false

section
variable {ep n nd nt no : Nat} {T D U O : Nat → Kp}
theorem see_bad (h : Inv ep n T nd D nt U no O) (e : Nat) (he : e < ep) (A : Option Addr) (c : Nat) (w : World) (hF : FV w A n c T) :
    Calls Try.prog 18 #[.agg #[.int .u32 (ep : Int), .slice A n c], .int .u32 (e : Int)] w fun x w' => ∃ A' c', x = .returned (.tuple #[.agg #[.int .u32 0, .slice A' 0 c'], .int .i64 72]) ∧ Below w.heap.size w w' := by
  have h1 : seeE ep n T e = 72 := by unfold seeE; rw [if_pos ((okB_iff _ _).2 h.ok), if_pos he]
  refine (see_any ep A n c T e w hF).mono ?_
  rintro x w' ⟨v, X, rfl, hnf, hx, hb⟩
  unfold seeF at hnf hx
  rw [h1, if_neg (by decide)] at hnf hx
  obtain ⟨A', c', rfl, -⟩ := hnf.row.slice
  unfold seeF
  rw [h1, if_neg (by decide)]
  exact ⟨A', c', rfl, hb⟩
theorem see_good (h : Inv ep n T nd D nt U no O) (e : Nat) (he : ¬ e < ep) (A : Option Addr) (c : Nat) (w : World) (hF : FV w A n c T) :
    Calls Try.prog 18 #[.agg #[.int .u32 (ep : Int), .slice A n c], .int .u32 (e : Int)] w fun x w' => ∃ A' c', x = .returned (.tuple #[.agg #[.int .u32 (e : Int), .slice A' n c'], .int .i64 0]) ∧ FV w' A' n c' T ∧ Below w.heap.size w w' := by
  have h1 : seeE ep n T e = 0 := by unfold seeE; rw [if_pos ((okB_iff _ _).2 h.ok), if_neg he]
  refine (see_any ep A n c T e w hF).mono ?_
  rintro x w' ⟨v, X, rfl, hnf, hx, hb⟩
  unfold seeF at hnf hx
  rw [h1, if_pos rfl] at hnf hx
  obtain ⟨A', c', rfl, hf⟩ := hnf.fv hx
  unfold seeF
  rw [h1, if_pos rfl]
  exact ⟨A', c', rfl, hf, hb⟩
theorem ask_old (h : Inv ep n T nd D nt U no O) (e k od : Nat) (st : Int) (un : Bool) (l : List Nat) (hk : k < e) (h1 : 1 ≤ k) (h2 : 1 ≤ od) (h3 : 0 ≤ st) (h4 : st < 16) (h5 : l.length ≤ 255) : (askS e n T (stN k od st un l)).e = 72 := by
  unfold askS
  rw [if_pos ⟨(okB_iff _ _).2 h.ok, req_step k od st un l (by omega) (by omega) h3 h4 h5⟩, if_pos hk]
theorem ask_90 (h : Inv ep n T nd D nt U no O) (e k : Nat) (hk : e ≤ k) (h1 : 1 ≤ k) : (askS e n T (stN k 90 0 false [120])).e = 0 := by
  have hno : has n T (kn 90 0 false) = false := has_not (fun i hi e1 => by
    have hv := (vk_iff _).1 (h.ok.2 i hi).1
    have h4 := h.o4 i hi
    have := (kn_inj (by unfold in64; omega) (by unfold in64; decide) e1).1
    omega)
  unfold askS
  rw [if_pos ⟨(okB_iff _ _).2 h.ok, req_step k 90 0 false [120] (by omega) (by decide) (by decide) (by decide) (by decide)⟩, if_neg (show ¬ k < e by omega), if_neg (show ¬ has n T (kn 90 0 false) = true by rw [hno]; decide)]
theorem keep_old (h : Inv ep n T nd D nt U no O) (e k : Nat) (hk : k < e) (h1 : 1 ≤ k) (he : e < 100) (A : Option Addr) (c : Nat) (Q : Option Addr) (q : Nat) (w : World) (hF : FV w A n c T) (hN : EntV w (stN k 3 2 true []) none Q 0 q) :
    Calls Try.prog 26 #[.agg #[.int .u32 (e : Int), .slice A n c], .agg (evs (stN k 3 2 true []) (.slice none 0 0) (.slice Q 0 q)), .int .i64 1, .slice none 0 0] w fun x w' => ∃ e' A' n' c', x = .returned (.tuple #[.agg #[.int .u32 ((e' : Nat) : Int), .slice A' n' c'], .int .i64 72]) ∧ Below w.heap.size w w' := by
  have ha := ask_old h e k 3 2 true [] hk h1 (by decide) (by decide) (by decide) (by decide)
  have hE : keepE e n T (stN k 3 2 true []) 1 [] = 72 := by unfold keepE; rw [ha, if_pos (by decide)]
  refine (keep_any e A n c T (stN k 3 2 true []) none Q 0 q 1 none 0 0 [] w hF hN (show in64 2 by unfold in64; decide) (by omega) (by unfold in64; decide) (Bys.none_ w) (Nat.le_refl _) (by unfold maxLen; omega) (fun _ => rfl)).mono ?_
  rintro x w' ⟨v, X, rfl, hnf, hx, hb⟩
  obtain ⟨A', c', rfl, -⟩ := hnf.row.slice
  rw [hE]
  exact ⟨_, A', _, c', rfl, hb⟩
end
def EpR (x2 : World) (i : Value) (wr : World) : Prop := ∃ k : Nat, 1 ≤ k ∧ k ≤ 9 ∧ i = .int .u32 (k : Int) ∧ Below x2.heap.size x2 wr

end Go.Proofs.Ytfcfejmammohpaa
