/-
  Entries whose texts lie in memory, slices of them, and when two are the same.
-/
import Derived.Test.YtccpmalefdnhdaaEPut
import Derived.Test.YtccpmalefdnhdaaSame
namespace Go.Proofs.Ytccpmalefdnhdaa
open Go.RowKit

theorem cast_beq (x y : Nat) : (((x : Nat) : Int) == ((y : Nat) : Int)) = (x == y) := by rw [Bool.eq_iff_iff]; simp; omega
/-- The same entries? -/
def sameE (a b : Entry) : Bool := (a.kind == b.kind) && ((a.lsn == b.lsn) && ((a.epoch == b.epoch) && ((a.order == b.order) && ((a.step == b.step) && ((a.undo == b.undo) && ((a.tri == b.tri) && ((a.code == b.code) && ((a.mark == b.mark) && (sameB a.key b.key && sameB a.data b.data)))))))))
theorem sameE_iff (a b : Entry) : sameE a b = true ↔ a = b := by
  unfold sameE sameB
  simp only [Bool.and_eq_true, beq_iff_eq, decide_eq_true_eq]
  constructor
  · rintro ⟨h1, h2, h3, h4, h5, h6, h7, h8, h9, h10, h11⟩
    cases a; cases b
    simp only at h1 h2 h3 h4 h5 h6 h7 h8 h9 h10 h11
    subst h1 h2 h3 h4 h5 h6 h7 h8 h9 h10 h11
    rfl
  · rintro rfl; simp
theorem sameE_self (a : Entry) : sameE a a = true := (sameE_iff a a).2 rfl

/-- An entry's slices read as its texts. -/
structure EntV (w : World) (e : Entry) (A1 A2 : Option Addr) (c1 c2 : Nat) : Prop where
  k : Bys w A1 e.key.length e.key
  kc : e.key.length ≤ c1
  km : c1 ≤ maxLen
  ka : A1 = none → c1 = 0
  d : Bys w A2 e.data.length e.data
  dc : e.data.length ≤ c2
  dm : c2 ≤ maxLen
  da : A2 = none → c2 = 0
  b : Ent.Bnd e
theorem EntV.below {w w' : World} {e : Entry} {A1 A2 : Option Addr} {c1 c2 : Nat} (h : EntV w e A1 A2 c1 c2) (hb : Below w.heap.size w w') : EntV w' e A1 A2 c1 c2 :=
  ⟨h.k.below hb, h.kc, h.km, h.ka, h.d.below hb, h.dc, h.dm, h.da, h.b⟩
theorem EntV.txt {w : World} {e : Entry} {A1 A2 : Option Addr} {c1 c2 : Nat} (h : EntV w e A1 A2 c1 c2) : Txt w w.heap.size e A1 A2 c1 c2 :=
  ⟨h.k, h.k.low (Nat.le_refl _), h.ka, h.d, h.d.low (Nat.le_refl _), h.da⟩
theorem EntV.own {w : World} {B : Nat} {e : Entry} {K D : Value} (hK : Own w B K e.key) (hD : Own w B D e.data) (hb : Ent.Bnd e) : ∃ A1 A2 c1 c2, K = .slice A1 e.key.length c1 ∧ D = .slice A2 e.data.length c2 ∧ EntV w e A1 A2 c1 c2 := by
  obtain ⟨A1, c1, h1, h2, h3, h4, h5⟩ := hK.slice
  obtain ⟨A2, c2, k1, k2, k3, k4, k5⟩ := hD.slice
  exact ⟨A1, A2, c1, c2, h1, k1, h2, h3, h4, h5, k2, k3, k4, k5, hb⟩
theorem EntV.nil (w : World) (e : Entry) (hk : e.key = []) (hd : e.data = []) (hb : Ent.Bnd e) : EntV w e none none 0 0 := by
  refine ⟨?_, by rw [hk]; exact Nat.le_refl _, by unfold maxLen; omega, fun _ => rfl, ?_, by rw [hd]; exact Nat.le_refl _, by unfold maxLen; omega, fun _ => rfl, hb⟩
  · rw [hk]; exact Bys.none_ w
  · rw [hd]; exact Bys.none_ w


/-- An entry lies in block b from offset o on. -/
def At11 (w : World) (b o : Nat) (e : Entry) : Prop := ∃ A1 A2 c1 c2, EntV w e A1 A2 c1 c2 ∧ w.rangeAt b o (evs e (.slice A1 e.key.length c1) (.slice A2 e.data.length c2)).toList
theorem range_below {w w' : World} {b o : Nat} {vs : List Value} (h : w.rangeAt b o vs) (hb : Below w.heap.size w w') : w'.rangeAt b o vs := fun j v hv => by
  have := h j v hv
  rw [hb.cell (block_lt_of_cell this)]
  exact this
theorem At11.below {w w' : World} {b o : Nat} {e : Entry} (h : At11 w b o e) (hb : Below w.heap.size w w') : At11 w' b o e := by
  obtain ⟨A1, A2, c1, c2, h1, h2⟩ := h
  exact ⟨A1, A2, c1, c2, h1.below hb, range_below h2 hb⟩
/-- A slice of n entries. -/
def Ents (w : World) (a : Option Addr) (n : Nat) (es : List Entry) : Prop :=
  es.length = n ∧ (0 < n → ∃ b off, a = some ⟨b, off, none⟩ ∧ ∀ i (h : i < es.length), At11 w b (off + i * 11) es[i])
theorem Ents.below {w w' : World} {a : Option Addr} {n : Nat} {es : List Entry} (h : Ents w a n es) (hb : Below w.heap.size w w') : Ents w' a n es := by
  refine ⟨h.1, fun h0 => ?_⟩
  obtain ⟨b, off, h1, h2⟩ := h.2 h0
  exact ⟨b, off, h1, fun i hi => (h2 i hi).below hb⟩
theorem range_cells {w : World} {b o : Nat} {e : Entry} {K D : Value} (h : w.rangeAt b o (evs e K D).toList) : w.cell? ⟨b, o, none⟩ = some (.int .i64 e.kind) ∧ w.cell? ⟨b, o + 1, none⟩ = some (.int .u64 (e.lsn : Nat)) ∧ w.cell? ⟨b, o + 2, none⟩ = some (.int .u32 (e.epoch : Nat)) ∧ w.cell? ⟨b, o + 3, none⟩ = some (.int .u32 (e.order : Nat)) ∧ w.cell? ⟨b, o + 4, none⟩ = some (.int .i64 e.step) ∧ w.cell? ⟨b, o + 5, none⟩ = some (.bool e.undo) ∧ w.cell? ⟨b, o + 6, none⟩ = some (.int .i64 e.tri) ∧ w.cell? ⟨b, o + 7, none⟩ = some (.int .i64 e.code) ∧ w.cell? ⟨b, o + 8, none⟩ = some (.int .u64 (e.mark : Nat)) ∧ w.cell? ⟨b, o + 9, none⟩ = some (K) ∧ w.cell? ⟨b, o + 10, none⟩ = some (D) :=
  ⟨h 0 _ rfl, h 1 _ rfl, h 2 _ rfl, h 3 _ rfl, h 4 _ rfl, h 5 _ rfl, h 6 _ rfl, h 7 _ rfl, h 8 _ rfl, h 9 _ rfl, h 10 _ rfl⟩

end Go.Proofs.Ytccpmalefdnhdaa
