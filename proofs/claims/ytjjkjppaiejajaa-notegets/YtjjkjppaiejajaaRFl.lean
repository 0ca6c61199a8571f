/-
  A note's fields, as the document has them: their bytes, and that they may be.
-/
import Derived.Test.YtjjkjppaiejajaaRChk2
namespace Go.Proofs.Ytjjkjppaiejajaa
open Go.RowKit
set_option linter.unusedVariables false

theorem flat_at : ∀ (fs : List Fld) (i j : Nat) (h : i < fs.length), j < 3 → (fs.flatMap Fld.cells)[i * 3 + j]? = (fs[i].cells)[j]?
  | f :: r, 0, j, _, hj => by
    rw [List.flatMap_cons, Nat.zero_mul, Nat.zero_add, List.getElem?_append_left (by show j < f.cells.length; exact hj)]
    rfl
  | f :: r, i + 1, j, h, hj => by
    have hl : f.cells.length = 3 := rfl
    rw [List.flatMap_cons, List.getElem?_append_right (by rw [hl]; omega), hl, show (i + 1) * 3 + j - 3 = i * 3 + j by omega, flat_at r i j (by simpa using h) hj]
    rfl
theorem frow_flds {w : World} {B : Nat} {v : Value} {fs : List Fld} (h : FRow w B v fs.length (fs.flatMap Fld.cells)) (h0 : 0 < fs.length) (hm : ∀ f ∈ fs, f.May w) :
    ∃ g cap, v = .slice (some ⟨g, 0, none⟩) fs.length cap ∧ Flds w g fs := by
  obtain ⟨hl, ⟨_, hz⟩ | ⟨g, cap, cur, hv, _, hg, _, _, _, ht⟩⟩ := h
  · omega
  · refine ⟨g, cap, hv, fun i hi => ⟨hm _ (List.getElem_mem hi), ?_, ?_, ?_⟩⟩
    all_goals
      rw [Lies.cell hg]
    · have := flat_at fs i 0 hi (by decide)
      rw [← ht, List.getElem?_take, if_pos (by omega), Array.getElem?_toList, Nat.add_zero] at this
      rw [this]; rfl
    · have := flat_at fs i 1 hi (by decide)
      rw [← ht, List.getElem?_take, if_pos (by omega), Array.getElem?_toList] at this
      rw [this]; rfl
    · have := flat_at fs i 2 hi (by decide)
      rw [← ht, List.getElem?_take, if_pos (by omega), Array.getElem?_toList] at this
      rw [this]; rfl
theorem frow_below {w w' : World} {B : Nat} {v : Value} {n : Nat} {xs : List Value} (h : FRow w B v n xs) (hb : Below w.heap.size w w') : FRow w' B v n xs := by
  obtain ⟨h0, h1⟩ := h
  refine ⟨h0, ?_⟩
  rcases h1 with h1 | ⟨g, cap, cur, hv, hg0, hg, hr⟩
  · exact .inl h1
  · exact .inr ⟨g, cap, cur, hv, hg0, Lies.below hg hb (Lies.lt hg), hr⟩
theorem frow_slice {w : World} {B : Nat} {v : Value} {n : Nat} {xs : List Value} (h : FRow w B v n xs) : ∃ A c, v = .slice A n c := by
  rcases h.2 with ⟨rfl, h0⟩ | ⟨g, cap, cur, rfl, _⟩
  · exact ⟨none, 0, by rw [h0]⟩
  · exact ⟨_, cap, rfl⟩

/-- A note's fields: its kind, and a field a letter. -/
def fldsN (e : Note) (K D : Value) (kn : Nat) (cs : List Nat) : List Fld := num 1 kn :: cs.map (fldOf e K D)
theorem fldOf_enc (e : Note) (K D : Value) (c : Nat) (hc : c ∈ Ent.alpha) : (fldOf e K D c).enc = Ent.encL e c := by
  rcases Ent.alpha_cases hc with rfl | rfl | rfl | rfl | rfl | rfl | rfl | rfl | rfl | rfl <;> rfl
theorem fldsN_enc (e : Note) (K D : Value) (kn : Nat) (cs : List Nat) (hc : ∀ c ∈ cs, c ∈ Ent.alpha) : (fldsN e K D kn cs).flatMap Fld.enc = Ent.be 1 kn ++ cs.flatMap (Ent.encL e) := by
  unfold fldsN
  rw [List.flatMap_cons]
  congr 1
  induction cs with
  | nil => rfl
  | cons c r ih =>
    rw [List.map_cons, List.flatMap_cons, List.flatMap_cons, ih (fun x hx => hc x (by simp [hx])), fldOf_enc e K D c (hc c (by simp))]
theorem fldsN_len (e : Note) (K D : Value) (kn : Nat) (cs : List Nat) : (fldsN e K D kn cs).length = 1 + cs.length := by
  unfold fldsN; rw [List.length_cons, List.length_map]; omega
theorem fldsN_snoc (e : Note) (K D : Value) (kn : Nat) (cs : List Nat) (c : Nat) : (fldsN e K D kn (cs ++ [c])).flatMap Fld.cells = (fldsN e K D kn cs).flatMap Fld.cells ++ (fldOf e K D c).cells := by
  unfold fldsN
  rw [List.map_append, ← List.cons_append, List.flatMap_append]
  simp
theorem fldOf_may {w : World} {e : Note} {A1 A2 : Option Addr} {c1 c2 : Nat} (hV : EntV w e A1 A2 c1 c2) (hi : Ent.inB e = true) (c : Nat) : (fldOf e (.slice A1 e.key.length c1) (.slice A2 e.data.length c2) c).May w := by
  have hi := (Ent.inB_iff e).1 hi
  have m1 : ∀ n, n < 256 → (num 1 n).May w := fun n h => .inl ⟨rfl, h, rfl⟩
  have m4 : ∀ n, n < 4294967296 → (num 4 n).May w := fun n h => .inr (.inl ⟨rfl, h, rfl⟩)
  have m8 : ∀ n, n < 18446744073709551616 → (num 8 n).May w := fun n h => .inr (.inr (.inl ⟨rfl, h, rfl⟩))
  have hu : Ent.b2n e.undo < 256 := by unfold Ent.b2n; split <;> decide
  unfold fldOf
  repeat' split
  · exact m4 _ hV.b.epoch
  · exact m4 _ hV.b.old
  · exact m8 _ hV.b.lsn
  · exact m8 _ hV.b.tick
  · exact m4 _ hV.b.order
  · exact m1 _ (by omega)
  · exact m1 _ hu
  · exact m1 _ (by omega)
  · exact .inr (.inr (.inr ⟨rfl, rfl, A1, c1, rfl, hV.k, hV.ka, by show e.key.length ≤ 255; omega⟩))
  · exact .inr (.inr (.inr ⟨rfl, rfl, A2, c2, rfl, hV.d, hV.da, by show e.data.length ≤ 255; omega⟩))
theorem fldsN_may {w : World} {e : Note} {A1 A2 : Option Addr} {c1 c2 : Nat} (hV : EntV w e A1 A2 c1 c2) (hi : Ent.inB e = true) (kn : Nat) (hk : kn < 256) (cs : List Nat) : ∀ f ∈ fldsN e (.slice A1 e.key.length c1) (.slice A2 e.data.length c2) kn cs, f.May w := by
  intro f hf
  unfold fldsN at hf
  rcases List.mem_cons.1 hf with rfl | hf
  · exact .inl ⟨rfl, hk, rfl⟩
  · obtain ⟨c, _, rfl⟩ := List.mem_map.1 hf
    exact fldOf_may hV hi c

end Go.Proofs.Ytjjkjppaiejajaa
