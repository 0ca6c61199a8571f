/-
  What was held and freed leaves all as it was; what comes out twice is the same.
-/
import Derived.Test.YtimoobhnhldgbaaSumP
namespace Go.Proofs.Ytimoobhnhldgbaa
open Go.Proofs Go.RowKit
set_option maxRecDepth 100000
set_option linter.unusedVariables false

theorem once_back {q : Ss} (hI : Inv q) {o : Nat} {x : List UInt8} {n : Int} (hv : holdV q o x n = true) : endS (holdS q o x n) o false = q ∧ endV (holdS q o x n) o = true ∧ (holdS q o x n).H.length = q.H.length + 1 := by
  obtain ⟨-, -, h0, k, hk, -⟩ := holdV_iff.1 hv
  obtain ⟨hm, rfl⟩ := findK_some hk
  have hn := findH_none h0
  rw [holdS_yes hv hk]
  have f1 : findH (insH ⟨o, k.n, n⟩ q.H) o = some ⟨o, k.n, n⟩ := by rw [findH_ins hI.hs hn, if_pos rfl]
  have f2 : findK (updK q.K ⟨k.n, k.f - n, k.g⟩) k.n = some ⟨k.n, k.f - n, k.g⟩ := by rw [findK_upd hI.ks, if_pos rfl, hk]; rfl
  refine ⟨?_, ?_, by rw [insH_length]⟩
  · rw [endS_yes (h := ⟨o, k.n, n⟩) (k := ⟨k.n, k.f - n, k.g⟩) f1 f2]
    have e1 : backK ⟨k.n, k.f - n, k.g⟩ n false = k := by
      unfold backK
      rw [if_neg (by decide)]
      show (⟨k.n, k.f - n + n, k.g⟩ : Kd) = k
      rw [show k.f - n + n = k.f from by omega]
    rw [e1]
    dsimp only
    rw [updK_updK q.K ⟨k.n, k.f - n, k.g⟩ k rfl, updK_self hI.ks hm, delH_ins (h := ⟨o, k.n, n⟩) hn]
  · unfold endV; rw [f1]; rfl
theorem end_none {q : Ss} (hI : Inv q) (o : Nat) (b : Bool) : findH (endS q o b).H o = none := by
  cases hf : findH q.H o with
  | none => rw [endS_no hf]; exact hf
  | some h =>
    obtain ⟨hh, -⟩ := findH_some hf
    obtain ⟨k, hk, -, -⟩ := hI.kn hh
    rw [endS_yes hf hk]
    show findH (delH q.H o) o = none
    rw [findH_del hI.hs, if_pos rfl]
theorem endV_no {q : Ss} {o : Nat} (h : findH q.H o = none) : endV q o = false := by unfold endV; rw [h]; rfl
theorem hold_twice {q : Ss} {o : Nat} (x : List UInt8) (n : Int) (h : endV q o = true) : holdV q o x n = false := by
  rw [← Bool.not_eq_true, holdV_iff]
  rintro ⟨-, -, h2, -⟩
  unfold endV at h
  rw [h2] at h
  cases h

def SwS (w0 w : World) (b : SB) (q : Ss) (e : Ending) (w' : World) : Prop := e = .returned (.bool true) ∧ SW w0 w' b q ∧ Below w.heap.size w w'
theorem sw_sameG {w0 w : World} {b : SB} {q : Ss} (h : SW w0 w b q) {v1 v2 : Value} {l : List Gd} (h1 : RG w b v1 l) (h2 : RG w b v2 l) (hn : l.length ≤ 1000000) : Calls Try.prog 18 #[v1, v2] w (SwS w0 w b q) := by
  obtain ⟨B1, o1, -⟩ := h1
  obtain ⟨B2, o2, -⟩ := h2
  exact (sameG_own B1 B2 v1 v2 l w o1 o2 hn).mono fun e w' ⟨he, hb⟩ => ⟨he, h.below hb, hb⟩
theorem sw_sameH {w0 w : World} {b : SB} {q : Ss} (h : SW w0 w b q) {v1 v2 : Value} {l : List Hd} (h1 : RH w b v1 l) (h2 : RH w b v2 l) (hn : l.length ≤ 1000000) : Calls Try.prog 20 #[v1, v2] w (SwS w0 w b q) := by
  obtain ⟨B1, o1, -⟩ := h1
  obtain ⟨B2, o2, -⟩ := h2
  exact (sameH_own B1 B2 v1 v2 l w o1 o2 hn).mono fun e w' ⟨he, hb⟩ => ⟨he, h.below hb, hb⟩

end Go.Proofs.Ytimoobhnhldgbaa
