/-
  Slices of starts: that came in, and that a call has made.
-/
import Derived.Test.YtngnfgnaagbpjaaBase
import Derived.Maps.AppendAt
import Derived.Laws.AppendOwnNone
import Derived.Laws.OwnMore
import Derived.Deep.AppendLies
import Derived.Laws.MakeOwn
import Derived.IntWalk
namespace Go.Proofs.Ytngnfgnaagbpjaa
open Go.RowKit

/-- A start's cells. -/
abbrev scs (e l : Nat) : Array Value := #[.int .u32 (e : Int), .int .u64 (l : Int)]
/-- Numbers that fit. -/
def Fits (t : Tbl) : Prop := ∀ i, ep t i < 4294967296 ∧ ls t i < 18446744073709551616
/-- A slice of n starts that reads as t. -/
def Tab (w : World) (a : Option Addr) (n : Nat) (t : Tbl) : Prop :=
  t.length = n ∧ Fits t ∧ (0 < n → ∃ b off, a = some ⟨b, off, none⟩ ∧ ∀ i, i < n → w.cell? ⟨b, off + i * 2, none⟩ = some (.int .u32 (ep t i : Nat)) ∧ w.cell? ⟨b, off + i * 2 + 1, none⟩ = some (.int .u64 (ls t i : Nat)))
theorem Tab.below {w w' : World} {a : Option Addr} {n : Nat} {t : Tbl} (h : Tab w a n t) (hb : Below w.heap.size w w') : Tab w' a n t := by
  obtain ⟨h1, h2, h3⟩ := h
  refine ⟨h1, h2, fun h0 => ?_⟩
  obtain ⟨b, off, e, hc⟩ := h3 h0
  refine ⟨b, off, e, fun i hi => ?_⟩
  obtain ⟨c1, c2⟩ := hc i hi
  rw [hb.cell (block_lt_of_cell c1), hb.cell (block_lt_of_cell c2)]
  exact ⟨c1, c2⟩
theorem Tab.none_ (w : World) : Tab w none 0 [] := ⟨rfl, (fun i => by simp [ep, ls]), (fun h => absurd h (by omega))⟩
theorem Tab.empty (w : World) (a : Option Addr) : Tab w a 0 [] := ⟨rfl, (fun i => by simp [ep, ls]), (fun h => absurd h (by omega))⟩
theorem Tab.drew {w : World} {a : Option Addr} {n : Nat} {t : Tbl} (h : Tab w a n t) : Tab w.drew a n t := h
theorem ep_take (t : Tbl) (m i : Nat) (h : i < m) : ep (t.take m) i = ep t i := by unfold ep; simp [List.getD, h]
theorem ls_take (t : Tbl) (m i : Nat) (h : i < m) : ls (t.take m) i = ls t i := by unfold ls; simp [List.getD, h]
theorem fits_take {t : Tbl} (h : Fits t) (m : Nat) : Fits (t.take m) := fun i => by
  by_cases hi : i < m
  · rw [ep_take t m i hi, ls_take t m i hi]; exact h i
  · have : (t.take m)[i]? = none := List.getElem?_eq_none (by rw [List.length_take]; omega)
    unfold ep ls; simp [List.getD, this]
theorem Tab.front {w : World} {a : Option Addr} {n : Nat} {t : Tbl} (h : Tab w a n t) (m : Nat) (hm : m ≤ n) : Tab w a m (t.take m) := by
  obtain ⟨h1, h2, h3⟩ := h
  refine ⟨by rw [List.length_take]; omega, fits_take h2 m, fun h0 => ?_⟩
  obtain ⟨b, off, e, hc⟩ := h3 (by omega)
  refine ⟨b, off, e, fun i hi => ?_⟩
  rw [ep_take t m i hi, ls_take t m i hi]
  exact hc i (by omega)

/-- The cells of starts, two each. -/
def tvals : Tbl → List Value
  | [] => []
  | s :: r => .int .u32 (s.1 : Nat) :: .int .u64 (s.2 : Nat) :: tvals r
theorem tvals_length (t : Tbl) : (tvals t).length = t.length * 2 := by
  induction t with
  | nil => rfl
  | cons s r ih => simp [tvals, ih]; omega
theorem tvals_append (t u : Tbl) : tvals (t ++ u) = tvals t ++ tvals u := by
  induction t with
  | nil => rfl
  | cons s r ih => simp [tvals, ih]
theorem tvals_at (t : Tbl) (i : Nat) (hi : i < t.length) : (tvals t)[i * 2]? = some (.int .u32 (ep t i : Nat)) ∧ (tvals t)[i * 2 + 1]? = some (.int .u64 (ls t i : Nat)) := by
  induction t generalizing i with
  | nil => simp at hi
  | cons s r ih =>
    rcases i with _ | i
    · exact ⟨rfl, rfl⟩
    · obtain ⟨h1, h2⟩ := ih i (by simpa using hi)
      have e1 : (i + 1) * 2 = i * 2 + 1 + 1 := by omega
      refine ⟨?_, ?_⟩
      · rw [e1]; simp only [tvals, List.getElem?_cons_succ]; rw [h1]; rfl
      · rw [e1]; simp only [tvals, List.getElem?_cons_succ]; rw [h2]; rfl
theorem tvals_one (t : Tbl) : ∀ u ∈ tvals t, u.oneCell' = true := by
  induction t with
  | nil => intro u hu; simp [tvals] at hu
  | cons s r ih =>
    intro u hu
    simp only [tvals, List.mem_cons] at hu
    rcases hu with rfl | rfl | hu
    · rfl
    · rfl
    · exact ih u hu
theorem Tab.cells {w : World} {b off n : Nat} {t : Tbl} (h : Tab w (some ⟨b, off, none⟩) n t) : w.rangeAt b off (tvals t) := by
  intro j v hv
  have hj : j < t.length * 2 := by have := (List.getElem?_eq_some_iff.1 hv).1; rwa [tvals_length] at this
  obtain ⟨h1, h2, h3⟩ := h
  obtain ⟨b', off', e, hc⟩ := h3 (by omega)
  injection e with e
  injection e with e1 e2 _
  subst e1 e2
  obtain ⟨i, hi⟩ : ∃ i, i = j / 2 := ⟨_, rfl⟩
  obtain ⟨c1, c2⟩ := hc i (by omega)
  obtain ⟨d1, d2⟩ := tvals_at t i (by omega)
  by_cases hp : j = i * 2
  · subst hp; rw [d1] at hv; rw [c1, hv]
  · have hp : j = i * 2 + 1 := by omega
    subst hp; rw [d2] at hv; rw [← Nat.add_assoc, c2, hv]

theorem Tab.cellsA {w : World} {A : Option Addr} {n : Nat} {t : Tbl} (h : Tab w A n t) (ad : Addr) (hA : A = some ad) : ∀ j u, (tvals t)[j]? = some u → w.cell? (ad.add j) = some u := by
  intro j u hu
  have hj : j < t.length * 2 := by have := (List.getElem?_eq_some_iff.1 hu).1; rwa [tvals_length] at this
  obtain ⟨b, off, e, _⟩ := h.2.2 (by rw [← h.1]; omega)
  subst hA
  injection e with e
  subst e
  rw [add_off]
  exact h.cells j u hu
/-- A row of starts that lies in a block of its own, not below B. -/
def OwnT (w : World) (B : Nat) (v : Value) (t : Tbl) : Prop := w.ownsRow B 37 2 v t.length (tvals t) ∧ Fits t
theorem OwnT.nil (w : World) (B : Nat) : OwnT w B (.slice none 0 0) [] := ⟨⟨rfl, .inl ⟨rfl, rfl⟩⟩, (Tab.none_ w).2.1⟩
theorem OwnT.slice {w : World} {B : Nat} {v : Value} {t : Tbl} (h : OwnT w B v t) : ∃ A c, v = .slice A t.length c ∧ Tab w A t.length t ∧ t.length ≤ c ∧ c ≤ maxLen ∧ (A = none → c = 0) := by
  obtain ⟨⟨_, h1 | ⟨g, cap, cur, hv, hb, hg, hn, hm, hs, ht⟩⟩, hf⟩ := h
  · have : t = [] := List.eq_nil_of_length_eq_zero h1.2
    subst this
    exact ⟨none, 0, h1.1, Tab.none_ w, Nat.le_refl _, by unfold maxLen; omega, fun _ => rfl⟩
  · refine ⟨_, cap, hv, ⟨rfl, hf, fun _ => ⟨g, 0, rfl, fun i hi => ?_⟩⟩, hn, hm, fun h => by cases h⟩
    obtain ⟨d1, d2⟩ := tvals_at t i hi
    have e : ∀ j, j < t.length * 2 → cur[j]? = (tvals t)[j]? := fun j hj => by
      rw [← ht, List.getElem?_take, if_pos hj, Array.getElem?_toList]
    rw [Nat.zero_add]
    exact ⟨by rw [cell_of_row w g _ cur 37 (0, 0) hg, e _ (by omega), d1], by rw [cell_of_row w g _ cur 37 (0, 0) hg, e _ (by omega), d2]⟩
theorem OwnT.block {w : World} {B : Nat} {v : Value} {t : Tbl} (h : OwnT w B v t) : ∀ k, v.ownBlock = some k → B ≤ k := by
  intro k hk
  rcases h.1.2 with ⟨rfl, _⟩ | ⟨g, cap, cur, rfl, hb, _⟩
  · cases hk
  · simp [Value.ownBlock] at hk; omega
theorem OwnT.belowT {w w' : World} {B : Nat} {v : Value} {t : Tbl} (h : OwnT w B v t) (hb : Below w.heap.size w w') : OwnT w' B v t := by
  obtain ⟨⟨h0, h1⟩, h2⟩ := h
  refine ⟨⟨h0, ?_⟩, h2⟩
  rcases h1 with h1 | ⟨g, cap, cur, hv, hg0, hg, hr⟩
  · exact .inl h1
  · exact .inr ⟨g, cap, cur, hv, hg0, Lies.below (t := 37) hg hb (Lies.lt (t := 37) hg), hr⟩
theorem OwnT.alloc {w : World} {B : Nat} {v : Value} {t : Tbl} (h : OwnT w B v t) (o : Obj) : OwnT (w.alloc o) B v t := h.belowT (below1 w o)
theorem OwnT.drew {w : World} {B : Nat} {v : Value} {t : Tbl} (h : OwnT w B v t) : OwnT w.drew B v t := h
theorem OwnT.mono {w : World} {B B' : Nat} {v : Value} {t : Tbl} (h : OwnT w B v t) (hb : B' ≤ B) : OwnT w B' v t := by
  obtain ⟨⟨h0, h1⟩, h2⟩ := h
  refine ⟨⟨h0, ?_⟩, h2⟩
  rcases h1 with h1 | ⟨g, cap, cur, hv, hg0, hr⟩
  · exact .inl h1
  · exact .inr ⟨g, cap, cur, hv, Nat.le_trans hb hg0, hr⟩
theorem OwnT.grows {w w' a : World} {B B0 : Nat} {v : Value} {t : Tbl} (h : OwnT w B v t) (hg : w.grownBy w' v.ownBlock) (hb : Below B0 a w) (h1 : B0 ≤ B) (h2 : B0 ≤ w.heap.size) : Below B0 a w' :=
  hb.grown hg h2 (fun k hk => Nat.le_trans h1 (h.block k hk))

def zS : Value := .agg #[.int .u32 0, .int .u64 0]
theorem fits_append {t u : Tbl} (h : Fits t) (k : Fits u) : Fits (t ++ u) := fun i => by
  by_cases hi : i < t.length
  · have e : (t ++ u).getD i (0, 0) = t.getD i (0, 0) := by simp [List.getD, List.getElem?_append_left hi]
    unfold ep ls; rw [e]; exact h i
  · have e : (t ++ u).getD i (0, 0) = u.getD (i - t.length) (0, 0) := by simp [List.getD, List.getElem?_append_right (Nat.le_of_not_lt hi)]
    unfold ep ls; rw [e]; exact k _

set_option maxRecDepth 100000 in
/-- 'append' of starts onto a row of the call's own. -/
theorem wpl_append {ops : Array Oper} {rest : List Oper} {a : Act} {w : World} {Q : Exit → Act → World → Prop} (dst : Option Tmp) (ty : TypeId) (pos : String) (aft : Array Edge) (s x : Operand)
    (B : Nat) (v : Value) (t : Tbl) (A : Option Addr) (m c : Nat) (news : Tbl)
    (hs : a.eval s = v) (hx : a.eval x = .slice A m c) (hown : OwnT w B v t) (hsrc : Tab w A m news) (hA : A = none → c = 0) (hsm : t.length + m ≤ 1000000) (hB : B ≤ w.heap.size)
    (h : ∀ v' w', OwnT w' B v' (t ++ news) → w.grownBy w' v.ownBlock → (v'.ownBlock = v.ownBlock ∨ v'.ownBlock = some w.heap.size) → wpList Try.prog ops Q rest (a.put dst v') w') :
    wpList Try.prog ops Q (⟨dst, .call { callee := .builtin .append, args := #[s, x], argTypes := #[22, 22] }, ty, pos, aft, none⟩ :: rest) a w := by
  rcases A with _ | ad
  · have hm : m = 0 := by
      refine Classical.byContradiction fun h0 => ?_
      obtain ⟨b, off, e, _⟩ := hsrc.2.2 (by omega)
      cases e
    have hn : news = [] := List.eq_nil_of_length_eq_zero (by rw [hsrc.1]; exact hm)
    have hc0 := hA rfl
    subst hm hn hc0
    refine wpList_append_own_none (o := ⟨dst, .call { callee := .builtin .append, args := #[s, x], argTypes := #[22, 22] }, ty, pos, aft, none⟩) rfl s x 22 rfl B 37 _ 2 Try.underlying22 Try.type37 v t.length (tvals t) hs hown.1 hx ?_
    exact h v w (by rw [List.append_nil]; exact hown) (World.grownBy.refl w _) (.inl rfl)
  · refine wpList_append_own_at (w := w) (o := ⟨dst, .call { callee := .builtin .append, args := #[s, x], argTypes := #[22, 22] }, ty, pos, aft, none⟩) rfl s x 22 rfl B 37 _ zS 2 16 Try.underlying22 Try.type37 rfl rfl rfl rfl (by decide) v t.length (tvals t) hs hown.1
      ad m c (tvals news) hx (by rw [tvals_length, hsrc.1]) (hsrc.cellsA ad rfl) (tvals_one news) (by unfold maxLen; omega) (by omega) hB ?_
    intro v' w' h1 h2 _ h4
    refine h v' w' ⟨?_, fits_append hown.2 hsrc.2.1⟩ h2 h4
    rw [List.length_append, hsrc.1, tvals_append]
    exact h1

end Go.Proofs.Ytngnfgnaagbpjaa
