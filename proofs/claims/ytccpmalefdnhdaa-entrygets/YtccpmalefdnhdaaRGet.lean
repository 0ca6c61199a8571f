/-
  The contract of the document's Get: for every slice of bytes; and both Gets' answers in one form.
-/
import Derived.Test.YtccpmalefdnhdaaRGA
import Derived.Test.YtccpmalefdnhdaaRGB
import Derived.Test.YtccpmalefdnhdaaRGC
import Derived.Test.YtccpmalefdnhdaaRGD
namespace Go.Proofs.Ytccpmalefdnhdaa
open Go.RowKit

theorem refGet_any (a : Option Addr) (n cap : Nat) (l : List Nat) (w : World) (hB : Bys w a n l) (hn : n ≤ 100000) (hnc : n ≤ cap) (hcm : cap ≤ maxLen) :
    Calls Try.prog 22 #[.slice a n cap] w (RGetPost l w) := by
  obtain ⟨k1, s1, h1⟩ : ∃ x s, Ent.rnum l 1 (0, false) = (x, s) := ⟨_, _, rfl⟩
  by_cases h7 : 7 < k1
  · exact rget_hi a n cap l w s1 k1 h7 h1 hB hn hnc hcm
  have : k1 = 0 ∨ k1 = 1 ∨ k1 = 2 ∨ k1 = 3 ∨ k1 = 4 ∨ k1 = 5 ∨ k1 = 6 ∨ k1 = 7 := by omega
  rcases this with h | h | h | h | h | h | h | h
  all_goals rw [h] at h1
  · exact rget_0 a n cap l w s1 h1 hB hn hnc hcm
  · exact rget_1 a n cap l w s1 h1 hB hn hnc hcm
  · exact rget_2 a n cap l w s1 h1 hB hn hnc hcm
  · exact rget_3 a n cap l w s1 h1 hB hn hnc hcm
  · exact rget_4 a n cap l w s1 h1 hB hn hnc hcm
  · exact rget_5 a n cap l w s1 h1 hB hn hnc hcm
  · exact rget_6 a n cap l w s1 h1 hB hn hnc hcm
  · exact rget_7 a n cap l w s1 h1 hB hn hnc hcm

/-- What both answer: the entry, and the number. -/
def gotE (l : List Nat) : Entry := (Ent.get one l).getD Ent.zero
def gotC (l : List Nat) : Int := if (Ent.get one l).isSome then 0 else 40
theorem gotE_bnd (l : List Nat) (hl : ∀ c ∈ l, c < 256) : Ent.Bnd (gotE l) ∧ (gotE l).key.length ≤ 10000 ∧ (gotE l).data.length ≤ 10000 := by
  unfold gotE
  cases h : Ent.get one l with
  | none => exact ⟨⟨by decide, by decide, by decide, by decide, fun c hc => absurd hc (by simp [Ent.zero]), fun c hc => absurd hc (by simp [Ent.zero])⟩, by simp [Ent.zero], by simp [Ent.zero]⟩
  | some e =>
    have hok : Ent.ok e = true ∧ e = Ent.rd one l := by
      unfold Ent.get at h
      split at h
      · rename_i h2; injection h with h; subst h; exact ⟨h2.1, rfl⟩
      · cases h
    have hb : Ent.Bnd e := by rw [hok.2]; exact Ent.rd_bnd one l hl
    have ht := ((Ent.ok_iff e).1 hok.1).t
    unfold Ent.fitT at ht
    simp only [Option.getD_some]
    split at ht
    · have := of_decide_eq_true ht; exact ⟨hb, by omega, by omega⟩
    · have := of_decide_eq_true ht; exact ⟨hb, by omega, by omega⟩
theorem get_fpos (l : List Nat) (hl : ∀ c ∈ l, c < 256) : Ent.get fpos l = Ent.get one l := Ent.get_eq fpos one rfl rfl rfl rfl l hl

def GotPost (l : List Nat) (w : World) (x : Ending) (w' : World) : Prop :=
  ∃ K D, x = .returned (.tuple #[.agg (evs (gotE l) K D), .int .i64 (gotC l)]) ∧ Own w' w.heap.size K (gotE l).key ∧ Own w' w.heap.size D (gotE l).data ∧ (∀ g, K.ownBlock = some g → D.ownBlock ≠ some g) ∧ Below w.heap.size w w'
theorem GetPost.got {l : List Nat} {w w' : World} {x : Ending} (h : GetPost l w x w') : GotPost l w x w' := by
  obtain ⟨hb, ⟨e, K, D, h1, h2, h3, h4, h5⟩ | ⟨h1, h2⟩⟩ := h
  · unfold GotPost gotE gotC
    rw [h1]
    exact ⟨K, D, h2, h3, h4, h5, hb⟩
  · unfold GotPost gotE gotC
    rw [h1]
    exact ⟨nilV, nilV, h2, Own.nil _ _, Own.nil _ _, (fun g h => by cases h), hb⟩
def RGotPost (l : List Nat) (w : World) (x : Ending) (w' : World) : Prop :=
  ∃ K D, x = .returned (.tuple #[.agg (evs (gotE l) K D), .int .i64 (gotC l)]) ∧ Tx w' w.heap.size K (gotE l).key ∧ Tx w' w.heap.size D (gotE l).data ∧ Below w.heap.size w w'
theorem RGetPost.got {l : List Nat} {w w' : World} {x : Ending} (h : RGetPost l w x w') (hl : ∀ c ∈ l, c < 256) : RGotPost l w x w' := by
  obtain ⟨hb, ⟨e, K, D, h1, h2, h3, h4⟩ | ⟨h1, h2⟩⟩ := h
  · rw [get_fpos l hl] at h1
    unfold RGotPost gotE gotC
    rw [h1]
    exact ⟨K, D, h2, h3, h4, hb⟩
  · rw [get_fpos l hl] at h1
    unfold RGotPost gotE gotC
    rw [h1]
    exact ⟨nilV, nilV, h2, Tx.nil _ _, Tx.nil _ _, hb⟩
theorem EntV.tx {w : World} {B : Nat} {e : Entry} {K D : Value} (hK : Tx w B K e.key) (hD : Tx w B D e.data) (hb : Ent.Bnd e) : ∃ A1 A2 c1 c2, K = .slice A1 e.key.length c1 ∧ D = .slice A2 e.data.length c2 ∧ EntV w e A1 A2 c1 c2 := by
  obtain ⟨A1, c1, h1, h2, h3, h4, h5, _⟩ := hK
  obtain ⟨A2, c2, k1, k2, k3, k4, k5, _⟩ := hD
  exact ⟨A1, A2, c1, c2, h1, k1, h2, h3, h4, h5, k2, k3, k4, k5, hb⟩
theorem Tx.grownG {w w' : World} {B g : Nat} {v : Value} {l : List Nat} (h : Tx w B v l) (hp : g < B) (hg : w.grownBy w' (some g)) : Tx w' B v l := h.grown hp hg
theorem got_any (a : Option Addr) (n cap : Nat) (l : List Nat) (w : World) (hB : Bys w a n l) (hn : n ≤ 100000) :
    Calls Try.prog 21 #[.slice a n cap] w (GotPost l w) := (get_any a n cap l w hB hn).mono fun _ _ h => h.got
theorem rgot_any (a : Option Addr) (n cap : Nat) (l : List Nat) (w : World) (hB : Bys w a n l) (hn : n ≤ 100000) (hnc : n ≤ cap) (hcm : cap ≤ maxLen) :
    Calls Try.prog 22 #[.slice a n cap] w (RGotPost l w) := (refGet_any a n cap l w hB hn hnc hcm).mono fun _ _ h => h.got hB.2.1

end Go.Proofs.Ytccpmalefdnhdaa
