/-
  Slices of slices of bytes: rows that a call has made, and append to them.
-/
import Derived.Test.YtjjkjppaiejajaaPut0
namespace Go.Proofs.Ytjjkjppaiejajaa
open Go.RowKit


/-- A slice value that reads as l. -/
def Reads (w : World) (u : Value) (l : List Nat) : Prop := ∃ A c, u = .slice A l.length c ∧ Bys w A l.length l ∧ l.length ≤ c ∧ c ≤ maxLen ∧ (A = none → c = 0)
theorem Own.reads {w : World} {B : Nat} {u : Value} {l : List Nat} (h : Own w B u l) : Reads w u l := h.slice
theorem Reads.below {w w' : World} {u : Value} {l : List Nat} (h : Reads w u l) (hb : Below w.heap.size w w') : Reads w' u l := by
  obtain ⟨A, c, h1, h2, h3⟩ := h
  exact ⟨A, c, h1, h2.below hb, h3⟩
theorem Reads.one {w : World} {u : Value} {l : List Nat} (h : Reads w u l) : u.oneCell' = true := by
  obtain ⟨A, c, rfl, _⟩ := h; rfl

/-- A slice of n cells that are these values. -/
def Cells (w : World) (a : Option Addr) (n : Nat) (vs : List Value) : Prop :=
  vs.length = n ∧ (0 < n → ∃ b off, a = some ⟨b, off, none⟩ ∧ ∀ i, i < n → w.cell? ⟨b, off + i, none⟩ = vs[i]?)
theorem Cells.below {w w' : World} {a : Option Addr} {n : Nat} {vs : List Value} (h : Cells w a n vs) (hb : Below w.heap.size w w') : Cells w' a n vs := by
  obtain ⟨h1, h2⟩ := h
  refine ⟨h1, fun h0 => ?_⟩
  obtain ⟨b, off, e, hc⟩ := h2 h0
  refine ⟨b, off, e, fun i hi => ?_⟩
  have := hc i hi
  rw [List.getElem?_eq_getElem (by omega)] at this ⊢
  rw [hb.cell (block_lt_of_cell this)]
  exact this

/-- The values read as these lists. -/
def AllRead (w : World) (vs : List Value) (ls : List (List Nat)) : Prop := vs.length = ls.length ∧ ∀ i (h1 : i < vs.length) (h2 : i < ls.length), Reads w vs[i] ls[i]
theorem AllRead.below {w w' : World} {vs : List Value} {ls : List (List Nat)} (h : AllRead w vs ls) (hb : Below w.heap.size w w') : AllRead w' vs ls := ⟨h.1, fun i h1 h2 => (h.2 i h1 h2).below hb⟩
theorem AllRead.nil (w : World) : AllRead w [] [] := ⟨rfl, fun i h1 => by simp at h1⟩
theorem AllRead.append {w : World} {vs us : List Value} {ls ms : List (List Nat)} (h : AllRead w vs ls) (k : AllRead w us ms) : AllRead w (vs ++ us) (ls ++ ms) := by
  refine ⟨by rw [List.length_append, List.length_append, h.1, k.1], fun i h1 h2 => ?_⟩
  by_cases hi : i < vs.length
  · rw [List.getElem_append_left hi, List.getElem_append_left (by rw [← h.1]; exact hi)]
    exact h.2 i hi _
  · rw [List.getElem_append_right (by omega), List.getElem_append_right (by rw [← h.1]; omega)]
    have hl := h.1
    have e : i - vs.length = i - ls.length := by omega
    simp only [e]
    exact k.2 _ _ _
theorem AllRead.one {w : World} {u : Value} {l : List Nat} (h : Reads w u l) : AllRead w [u] [l] := ⟨rfl, fun i h1 _ => by
  have : i = 0 := by simpa using h1
  subst this
  exact h⟩
theorem AllRead.cell {w : World} {vs : List Value} {ls : List (List Nat)} (h : AllRead w vs ls) : ∀ u ∈ vs, u.oneCell' = true := by
  intro u hu
  obtain ⟨i, hi, rfl⟩ := List.mem_iff_getElem.1 hu
  exact (h.2 i hi (by rw [← h.1]; exact hi)).one
theorem AllRead.take {w : World} {vs : List Value} {ls : List (List Nat)} (h : AllRead w vs ls) (k : Nat) : AllRead w (vs.take k) (ls.take k) :=
  ⟨by rw [List.length_take, List.length_take, h.1], fun i h1 h2 => by
    rw [List.getElem_take, List.getElem_take]
    exact h.2 i _ _⟩

/-- A row of values of slices, in a block of its own, not below B. -/
def LRow (w : World) (B : Nat) (v : Value) (vs : List Value) : Prop := w.ownsRow B 24 1 v vs.length vs
theorem LRow.nil (w : World) (B : Nat) : LRow w B (.slice none 0 0) [] := ⟨rfl, .inl ⟨rfl, rfl⟩⟩
theorem LRow.block {w : World} {B : Nat} {v : Value} {vs : List Value} (h : LRow w B v vs) : ∀ k, v.ownBlock = some k → B ≤ k := by
  intro k hk
  rcases h.2 with ⟨rfl, _⟩ | ⟨g, cap, cur, rfl, hb, _⟩
  · cases hk
  · simp [Value.ownBlock] at hk; omega
theorem LRow.belowRow {w w' : World} {B : Nat} {v : Value} {vs : List Value} (h : LRow w B v vs) (hb : Below w.heap.size w w') : LRow w' B v vs := by
  obtain ⟨h0, h1⟩ := h
  refine ⟨h0, ?_⟩
  rcases h1 with h1 | ⟨g, cap, cur, hv, hg0, hg, hr⟩
  · exact .inl h1
  · exact .inr ⟨g, cap, cur, hv, hg0, Lies.below hg hb (Lies.lt hg), hr⟩
theorem LRow.alloc {w : World} {B : Nat} {v : Value} {vs : List Value} (h : LRow w B v vs) (o : Obj) : LRow (w.alloc o) B v vs := h.belowRow ((Below.refl _ _).alloc (Nat.le_refl _) o)
theorem LRow.mono {w : World} {B B' : Nat} {v : Value} {vs : List Value} (h : LRow w B v vs) (hb : B' ≤ B) : LRow w B' v vs := by
  obtain ⟨h0, h1⟩ := h
  refine ⟨h0, ?_⟩
  rcases h1 with h1 | ⟨g, cap, cur, hv, hg, hr⟩
  · exact .inl h1
  · exact .inr ⟨g, cap, cur, hv, Nat.le_trans hb hg, hr⟩
theorem LRow.grows {w w' a : World} {B B0 : Nat} {v : Value} {vs : List Value} (h : LRow w B v vs) (hg : w.grownBy w' v.ownBlock) (hb : Below B0 a w) (h1 : B0 ≤ B) (h2 : B0 ≤ w.heap.size) : Below B0 a w' :=
  hb.grown hg h2 (fun k hk => Nat.le_trans h1 (h.block k hk))
theorem LRow.slice {w : World} {B : Nat} {v : Value} {vs : List Value} (h : LRow w B v vs) : ∃ A c, v = .slice A vs.length c ∧ Cells w A vs.length vs ∧ vs.length ≤ c ∧ c ≤ maxLen ∧ (A = none → c = 0) := by
  rcases h.2 with ⟨rfl, h0⟩ | ⟨g, cap, cur, rfl, hb, hg, hn, hm, hs, ht⟩
  · rw [h0]
    refine ⟨none, 0, rfl, ⟨h0, fun h => by omega⟩, Nat.le_refl _, by unfold maxLen; omega, fun _ => rfl⟩
  · refine ⟨_, cap, rfl, ⟨rfl, fun _ => ⟨g, 0, rfl, fun i hi => ?_⟩⟩, hn, hm, fun h => by cases h⟩
    have e : (cur.toList.take (vs.length * 1))[i]? = vs[i]? := by rw [ht]
    rw [List.getElem?_take, if_pos (by omega), Array.getElem?_toList] at e
    rw [Nat.zero_add, Lies.cell hg, e]
theorem LRow.ne {w : World} {B p : Nat} {v : Value} {vs : List Value} {t : TypeId} {cs : Array Value} (h : LRow w B v vs) (hp : Lies w p t cs) (ht : t ≠ 24) : some p ≠ v.ownBlock := by
  rcases h.2 with ⟨rfl, _⟩ | ⟨g, cap, cur, rfl, _, hg, _⟩
  · simp [Value.ownBlock]
  · intro e
    have : p = g := by simpa [Value.ownBlock] using e
    subst this
    unfold Lies at hp
    rw [hg] at hp
    injection hp with hp
    injection hp with _ h2
    exact ht h2.symm

/-- A row of bytes stays where a row of slices grows. -/
theorem Own.grownL {w w' : World} {B B' : Nat} {v : Value} {vs : List Value} {u : Value} {l : List Nat} (h : Own w B u l) (hr : LRow w B' v vs) (hg : w.grownBy w' v.ownBlock) : Own w' B u l := by
  obtain ⟨⟨h0, h1⟩, h2⟩ := h
  refine ⟨⟨h0, ?_⟩, h2⟩
  rcases h1 with h1 | ⟨g, cap, cur, hv, hg0, hh, hrr⟩
  · exact .inl h1
  · exact .inr ⟨g, cap, cur, hv, hg0, Lies.grown (t := 5) hh hg (hr.ne (t := 5) hh (by decide)), hrr⟩

/-- 'append' of slices onto a row of the call's own. -/
theorem wpl_appendL {ops : Array Oper} {rest : List Oper} {a : Act} {w : World} {Q : Exit → Act → World → Prop} (dst : Option Tmp) (ty : TypeId) (pos : String) (aft : Array Edge) (s x : Operand)
    (B : Nat) (v : Value) (vs : List Value) (A : Option Addr) (m c : Nat) (news : List Value)
    (hs : a.eval s = v) (hx : a.eval x = .slice A m c) (hown : LRow w B v vs) (hsrc : Cells w A m news) (h1 : ∀ u ∈ news, u.oneCell' = true) (hA : A = none → c = 0) (hsm : vs.length + m ≤ 1000000) (hB : B ≤ w.heap.size)
    (h : ∀ v' w', LRow w' B v' (vs ++ news) → w.grownBy w' v.ownBlock → (v'.ownBlock = v.ownBlock ∨ v'.ownBlock = some w.heap.size) → wpList Try.prog ops Q rest (a.put dst v') w') :
    wpList Try.prog ops Q (⟨dst, .call { callee := .builtin .append, args := #[s, x], argTypes := #[40, 40] }, ty, pos, aft, none⟩ :: rest) a w := by
  rcases A with _ | ad
  · have hm : m = 0 := by
      refine Classical.byContradiction fun h0 => ?_
      obtain ⟨b, off, e, _⟩ := hsrc.2 (by omega)
      cases e
    have hn : news = [] := List.eq_nil_of_length_eq_zero (by rw [hsrc.1]; exact hm)
    have hc0 := hA rfl
    subst hm hn hc0
    refine wpList_append_own_none (o := ⟨dst, .call { callee := .builtin .append, args := #[s, x], argTypes := #[40, 40] }, ty, pos, aft, none⟩) rfl s x 40 rfl B 24 _ 1 Try.underlying40 Try.type24 v vs.length vs hs hown hx ?_
    exact h v w (by rw [List.append_nil]; exact hown) (World.grownBy.refl w _) (.inl rfl)
  · refine wpList_append_own_at (w := w) (o := ⟨dst, .call { callee := .builtin .append, args := #[s, x], argTypes := #[40, 40] }, ty, pos, aft, none⟩) rfl s x 40 rfl B 24 _ (.slice none 0 0) 1 24 Try.underlying40 Try.type24 rfl rfl rfl rfl (by decide) v vs.length vs hs hown
      ad m c news hx (by simp [hsrc.1]) ?_ h1 (by unfold maxLen; omega) (by omega) hB ?_
    · intro j u hu
      have hj : j < m := by rw [← hsrc.1]; exact (List.getElem?_eq_some_iff.1 hu).1
      obtain ⟨b, off, e, hc⟩ := hsrc.2 (by omega)
      injection e with e
      subst e
      rw [add_off, hc j hj, hu]
    intro v' w' h1 h2 _ h4
    refine h v' w' ?_ h2 h4
    unfold LRow
    rw [List.length_append, hsrc.1]
    exact h1

/-- Each value is a row of bytes of its own. -/
def OwnAll (w : World) (B : Nat) (vs : List Value) (ls : List (List Nat)) : Prop :=
  vs.length = ls.length ∧ (∀ i (h1 : i < vs.length) (h2 : i < ls.length), Own w B vs[i] ls[i]) ∧
  ∀ i j (h1 : i < vs.length) (h2 : j < vs.length), i < j → ∀ g, vs[i].ownBlock = some g → vs[j].ownBlock ≠ some g
theorem OwnAll.nil (w : World) (B : Nat) : OwnAll w B [] [] := ⟨rfl, fun i h1 => by simp at h1, fun i j h1 => by simp at h1⟩
theorem OwnAll.reads {w : World} {B : Nat} {vs : List Value} {ls : List (List Nat)} (h : OwnAll w B vs ls) : AllRead w vs ls := ⟨h.1, fun i h1 h2 => (h.2.1 i h1 h2).reads⟩
theorem OwnAll.map {w w' : World} {B : Nat} {vs : List Value} {ls : List (List Nat)} (h : OwnAll w B vs ls) (f : ∀ u l, Own w B u l → Own w' B u l) : OwnAll w' B vs ls := ⟨h.1, fun i h1 h2 => f _ _ (h.2.1 i h1 h2), h.2.2⟩
theorem OwnAll.snoc {w : World} {B : Nat} {vs : List Value} {ls : List (List Nat)} {u : Value} {l : List Nat} (h : OwnAll w B vs ls) (hu : Own w B u l) (hne : ∀ v ∈ vs, ∀ g, v.ownBlock = some g → u.ownBlock ≠ some g) : OwnAll w B (vs ++ [u]) (ls ++ [l]) := by
  have hl := h.1
  refine ⟨by simp [hl], fun i h1 h2 => ?_, fun i j h1 h2 hij g hg => ?_⟩
  · by_cases hi : i < vs.length
    · rw [List.getElem_append_left hi, List.getElem_append_left (by omega)]
      exact h.2.1 i hi _
    · have : i = vs.length := by simp at h1; omega
      subst this
      simp [hl]
      exact hu
  · have hi : i < vs.length := by simp at h2; omega
    rw [List.getElem_append_left hi] at hg
    by_cases hj : j < vs.length
    · rw [List.getElem_append_left hj]
      exact h.2.2 i j hi hj hij g hg
    · have : j = vs.length := by simp at h2; omega
      subst this
      simp
      exact hne _ (List.getElem_mem hi) g hg
theorem Own.lt {w : World} {B : Nat} {u : Value} {l : List Nat} (h : Own w B u l) : ∀ g, u.ownBlock = some g → g < w.heap.size := by
  intro g hg
  rcases h.1.2 with ⟨rfl, _⟩ | ⟨g', cap, cur, rfl, _, hh, _⟩
  · cases hg
  · have : g' = g := by simpa [Value.ownBlock] using hg
    subst this
    exact Lies.lt hh
/-- A row that was made later than all of these. -/
theorem OwnAll.fresh {w0 w : World} {B : Nat} {vs : List Value} {ls : List (List Nat)} {u : Value} {l : List Nat} (h : OwnAll w0 B vs ls) (hu : Own w w0.heap.size u l) : ∀ v ∈ vs, ∀ g, v.ownBlock = some g → u.ownBlock ≠ some g := by
  intro v hv g hg hug
  obtain ⟨i, hi, rfl⟩ := List.mem_iff_getElem.1 hv
  have h1 := (h.2.1 i hi (by rw [← h.1]; exact hi)).lt g hg
  have h2 := hu.block g hug
  omega

theorem cells_one (w : World) (u : Value) (fr : Nat × Nat) : Cells (w.alloc (.cells #[u] 24 fr)) (some ⟨w.heap.size, 0, none⟩) 1 [u] := by
  refine ⟨rfl, fun _ => ⟨_, _, rfl, fun i hi => ?_⟩⟩
  have : i = 0 := by omega
  subst this
  rw [cell_of_row _ _ _ _ 24 fr (heap_alloc_new w _)]
  rfl

end Go.Proofs.Ytjjkjppaiejajaa
