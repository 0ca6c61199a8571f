/-
  Notes whose texts lie in memory, and when two are the same.
-/
import Derived.Test.YtfcfejmammohpaaNWr
import Derived.Test.YtfcfejmammohpaaLend
namespace Go.Proofs.Ytfcfejmammohpaa
open Go.RowKit

theorem cast_beq (x y : Nat) : (((x : Nat) : Int) == ((y : Nat) : Int)) = (x == y) := by rw [Bool.eq_iff_iff]; simp; omega
/-- The same notes? -/
def sameE (a b : Note) : Bool := (a.kind == b.kind) && ((a.epoch == b.epoch) && ((a.old == b.old) && ((a.lsn == b.lsn) && ((a.tick == b.tick) && ((a.order == b.order) && ((a.step == b.step) && ((a.undo == b.undo) && ((a.code == b.code) && (sameB a.key b.key && (sameB a.data b.data))))))))))
theorem sameE_iff (a b : Note) : sameE a b = true ↔ a = b := by
  unfold sameE sameB
  simp only [Bool.and_eq_true, beq_iff_eq, decide_eq_true_eq]
  constructor
  · rintro ⟨h1, h2, h3, h4, h5, h6, h7, h8, h9, h10, h11⟩
    cases a; cases b
    simp only at h1 h2 h3 h4 h5 h6 h7 h8 h9 h10 h11
    subst h1 h2 h3 h4 h5 h6 h7 h8 h9 h10 h11
    rfl
  · rintro rfl; simp
theorem sameE_self (a : Note) : sameE a a = true := (sameE_iff a a).2 rfl
theorem sameE_ne {a b : Note} (h : a ≠ b) : sameE a b = false := by
  cases hh : sameE a b
  · rfl
  · exact absurd ((sameE_iff a b).1 hh) h

/-- A note's slices read as its texts. -/
structure EntV (w : World) (e : Note) (A1 A2 : Option Addr) (c1 c2 : Nat) : Prop where
  k : Bys w A1 e.key.length e.key
  kc : e.key.length ≤ c1
  km : c1 ≤ maxLen
  ka : A1 = none → c1 = 0
  d : Bys w A2 e.data.length e.data
  dc : e.data.length ≤ c2
  dm : c2 ≤ maxLen
  da : A2 = none → c2 = 0
  b : Ent.Bnd e
theorem EntV.below {w w' : World} {e : Note} {A1 A2 : Option Addr} {c1 c2 : Nat} (h : EntV w e A1 A2 c1 c2) (hb : Below w.heap.size w w') : EntV w' e A1 A2 c1 c2 :=
  ⟨h.k.below hb, h.kc, h.km, h.ka, h.d.below hb, h.dc, h.dm, h.da, h.b⟩
theorem EntV.txt {w : World} {e : Note} {A1 A2 : Option Addr} {c1 c2 : Nat} (h : EntV w e A1 A2 c1 c2) : Txt w w.heap.size e A1 A2 c1 c2 :=
  ⟨h.k, h.k.low (Nat.le_refl _), h.ka, h.d, h.d.low (Nat.le_refl _), h.da⟩
theorem EntV.own {w : World} {B : Nat} {e : Note} {K D : Value} (hK : Own w B K e.key) (hD : Own w B D e.data) (hb : Ent.Bnd e) : ∃ A1 A2 c1 c2, K = .slice A1 e.key.length c1 ∧ D = .slice A2 e.data.length c2 ∧ EntV w e A1 A2 c1 c2 := by
  obtain ⟨A1, c1, h1, h2, h3, h4, h5⟩ := hK.slice
  obtain ⟨A2, c2, k1, k2, k3, k4, k5⟩ := hD.slice
  exact ⟨A1, A2, c1, c2, h1, k1, h2, h3, h4, h5, k2, k3, k4, k5, hb⟩
theorem EntV.nil (w : World) (e : Note) (hk : e.key = []) (hd : e.data = []) (hb : Ent.Bnd e) : EntV w e none none 0 0 := by
  refine ⟨?_, by rw [hk]; exact Nat.le_refl _, by unfold maxLen; omega, fun _ => rfl, ?_, by rw [hd]; exact Nat.le_refl _, by unfold maxLen; omega, fun _ => rfl, hb⟩
  · rw [hk]; exact Bys.none_ w
  · rw [hd]; exact Bys.none_ w



end Go.Proofs.Ytfcfejmammohpaa
