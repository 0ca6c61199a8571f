/-
  Rows of fields: what a call has made, and append to them.
-/
import Derived.Test.YtfcfejmammohpaaNVal
import Derived.IntWalk
namespace Go.Proofs.Ytfcfejmammohpaa
open Go.RowKit
set_option maxRecDepth 100000
set_option linter.unusedSimpArgs false
set_option linter.unusedVariables false

/-- A row of fields, three cells each, in a block of its own. -/
abbrev FRow (w : World) (B : Nat) (v : Value) (n : Nat) (xs : List Value) : Prop := w.ownsRow B 101 3 v n xs
theorem frow_ne {w : World} {B p : Nat} {v : Value} {n : Nat} {xs : List Value} {t : TypeId} {cs : Array Value} (h : FRow w B v n xs) (hp : Lies w p t cs) (ht : t ≠ 101) : some p ≠ v.ownBlock := by
  rcases h.2 with ⟨rfl, _⟩ | ⟨g, cap, cur, rfl, _, hg, _⟩
  · simp [Value.ownBlock]
  · intro e
    have : p = g := by simpa [Value.ownBlock] using e
    subst this
    unfold Lies at hp
    rw [hg] at hp
    injection hp with hp
    injection hp with _ h2
    exact ht h2.symm
theorem frow_block {w : World} {B : Nat} {v : Value} {n : Nat} {xs : List Value} (h : FRow w B v n xs) : ∀ k, v.ownBlock = some k → B ≤ k := by
  intro k hk
  rcases h.2 with ⟨rfl, _⟩ | ⟨g, cap, cur, rfl, hb, _⟩
  · cases hk
  · simp [Value.ownBlock] at hk; omega
theorem frow_alloc {w : World} {B : Nat} {v : Value} {n : Nat} {xs : List Value} (h : FRow w B v n xs) (o : Obj) : FRow (w.alloc o) B v n xs := by
  obtain ⟨h0, h1⟩ := h
  refine ⟨h0, ?_⟩
  rcases h1 with h1 | ⟨g, cap, cur, hv, hg0, hg, hr⟩
  · exact .inl h1
  · exact .inr ⟨g, cap, cur, hv, hg0, Lies.alloc hg o, hr⟩
theorem frow_mono {w : World} {B B' : Nat} {v : Value} {n : Nat} {xs : List Value} (h : FRow w B v n xs) (hb : B' ≤ B) : FRow w B' v n xs := by
  obtain ⟨h0, h1⟩ := h
  refine ⟨h0, ?_⟩
  rcases h1 with h1 | ⟨g, cap, cur, hv, hg, hr⟩
  · exact .inl h1
  · exact .inr ⟨g, cap, cur, hv, Nat.le_trans hb hg, hr⟩
theorem frow_made {w : World} {B g n : Nat} {C : Array Value} (h : Lies w g 101 C) (hB : B ≤ g) (hn : C.size = n * 3) (hm : n ≤ 1000) : FRow w B (.slice (some ⟨g, 0, none⟩) n n) n C.toList :=
  ⟨by simp [hn], .inr ⟨g, n, C, rfl, hB, h, Nat.le_refl _, by unfold maxLen; omega, hn, List.take_of_length_le (by rw [Array.length_toList, hn]; exact Nat.le_refl _)⟩⟩

set_option maxRecDepth 100000 in
/-- 'append' of fields onto a row of the call's own. -/
theorem wpl_appendF {ops : Array Oper} {rest : List Oper} {a : Act} {w : World} {Q : Exit → Act → World → Prop} (dst : Option Tmp) (ty : TypeId) (pos : String) (aft : Array Edge) (s x : Operand)
    (B : Nat) (v : Value) (n : Nat) (xs : List Value) (g m : Nat) (C : Array Value)
    (hs : a.eval s = v) (hx : a.eval x = .slice (some ⟨g, 0, none⟩) m m) (hown : FRow w B v n xs) (hg : Lies w g 101 C) (hC : C.size = m * 3) (hone : ∀ u ∈ C.toList, u.oneCell' = true) (hsm : n + m ≤ 10000) (hB : B ≤ w.heap.size)
    (h : ∀ v' w', FRow w' B v' (n + m) (xs ++ C.toList) → w.grownBy w' v.ownBlock → wpList Try.prog ops Q rest (a.put dst v') w') :
    wpList Try.prog ops Q (⟨dst, .call { callee := .builtin .append, args := #[s, x], argTypes := #[102, 102] }, ty, pos, aft, none⟩ :: rest) a w := by
  refine wpList_append_own_at (w := w) (o := ⟨dst, .call { callee := .builtin .append, args := #[s, x], argTypes := #[102, 102] }, ty, pos, aft, none⟩) rfl s x 102 rfl B 101 _ (.agg #[.int .i64 0, .int .u64 0, .slice none 0 0]) 3 40 Try.underlying102 Try.type101 rfl rfl rfl rfl (by decide) v n xs hs hown
      ⟨g, 0, none⟩ m m C.toList hx (by simp [hC]) ?_ hone (by unfold maxLen; omega) (by omega) hB ?_
  · intro j u hu
    rw [add_off, Nat.zero_add, hg.cell]
    simpa using hu
  · intro v' w' h1 h2 _ _
    exact h v' w' h1 h2

/-- A field: its size, its number, its text. -/
structure Fld where
  size : Nat
  n : Nat
  T : Value
  t : List Nat
def Fld.cells (f : Fld) : List Value := [.int .i64 (f.size : Nat), .int .u64 (f.n : Nat), f.T]
def Fld.enc (f : Fld) : List Nat := if f.size = 0 then Ent.txt f.t else Ent.be f.size f.n
/-- It may be a field, and lies there. -/
structure Fld.Good (w : World) (f : Fld) : Prop where
  s : f.size = 0 ∨ f.size = 1 ∨ f.size = 4 ∨ f.size = 8
  n : f.n < 256 ^ f.size
  T : ∃ A c, f.T = .slice A f.t.length c ∧ Bys w A f.t.length f.t ∧ (A = none → c = 0)
  t : f.size ≠ 0 → f.t = []
  l : f.t.length ≤ 255
abbrev num (s n : Nat) : Fld := ⟨s, n, .slice none 0 0, []⟩

end Go.Proofs.Ytfcfejmammohpaa
