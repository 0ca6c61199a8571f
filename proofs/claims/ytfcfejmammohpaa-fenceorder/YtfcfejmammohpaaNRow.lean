/-
  Rows of notes of the call's own.
-/
import Derived.Test.YtfcfejmammohpaaCallC
namespace Go.Proofs.Ytfcfejmammohpaa
open Go.RowKit
set_option maxRecDepth 100000
set_option linter.unusedVariables false
set_option linter.unusedSimpArgs false

/-- A step's note: order, step, the slice of its one byte. -/
structure Nx where
  o : Nat
  s : Int
  A : Option Addr
  c : Nat
abbrev nc (x : Nx) : Array Value := nB 1 x.o x.s false x.A 1 x.c
def nv (n : Nat) (X : Nat → Nx) : List Value := (List.range n).flatMap fun i => (nc (X i)).toList
theorem nv_succ (n : Nat) (X : Nat → Nx) : nv (n + 1) X = nv n X ++ (nc (X n)).toList := by simp [nv, List.range_succ]
theorem nv_length (n : Nat) (X : Nat → Nx) : (nv n X).length = n * 11 := by
  induction n with
  | zero => rfl
  | succ n ih => rw [nv_succ, List.length_append, ih]; simp; omega
theorem nv_at (n : Nat) (X : Nat → Nx) (i j : Nat) (hi : i < n) (hj : j < 11) : (nv n X)[i * 11 + j]? = (nc (X i)).toList[j]? := by
  induction n with
  | zero => omega
  | succ n ih =>
    rw [nv_succ]
    by_cases h : i < n
    · rw [List.getElem?_append_left (by rw [nv_length]; omega)]; exact ih h
    · obtain rfl : i = n := by omega
      rw [List.getElem?_append_right (by rw [nv_length]; omega), nv_length, Nat.add_sub_cancel_left]
theorem nv_congr {n : Nat} {X X' : Nat → Nx} (h : ∀ i, i < n → X i = X' i) : nv n X = nv n X' := by
  induction n with
  | zero => rfl
  | succ n ih => rw [nv_succ, nv_succ, ih (fun i hi => h i (by omega)), h n (by omega)]
theorem nc_one (x : Nx) : ∀ u ∈ (nc x).toList, u.oneCell' = true := by
  intro u hu
  simp at hu
  rcases hu with h | h | h | h | h | h | h | h | h | h <;> (subst h; rfl)
def OwnN (w : World) (B : Nat) (v : Value) (n : Nat) (X : Nat → Nx) : Prop := w.ownsRow B 29 11 v n (nv n X)
theorem OwnN.nil (w : World) (B : Nat) (X : Nat → Nx) : OwnN w B (.slice none 0 0) 0 X := ⟨rfl, .inl ⟨rfl, rfl⟩⟩
section
variable {w w' : World} {B : Nat} {v : Value} {n : Nat} {X : Nat → Nx}
theorem OwnN.block (h : OwnN w B v n X) : ∀ k, v.ownBlock = some k → B ≤ k := by
  intro k hk
  rcases h.2 with ⟨rfl, _⟩ | ⟨g, cap, cur, rfl, hb, _⟩
  · cases hk
  · simp [Value.ownBlock] at hk; omega
theorem OwnN.blockLt (h : OwnN w B v n X) : ∀ k, v.ownBlock = some k → k < w.heap.size := by
  intro k hk
  rcases h.2 with ⟨rfl, _⟩ | ⟨g, cap, cur, rfl, hb, hg, _⟩
  · cases hk
  · simp [Value.ownBlock] at hk
    subst hk
    exact Lies.lt (t := 29) hg
theorem OwnN.same (h : OwnN w B v n X) (hs : ∀ k, v.ownBlock = some k → w'.heap[k]? = w.heap[k]?) : OwnN w' B v n X := by
  obtain ⟨h0, h1⟩ := h
  refine ⟨h0, ?_⟩
  rcases h1 with h1 | ⟨g, cap, cur, hv, hg0, hg, hr⟩
  · exact .inl h1
  · exact .inr ⟨g, cap, cur, hv, hg0, (hs g (by rw [hv]; rfl)).trans hg, hr⟩
theorem OwnN.belowT (h : OwnN w B v n X) (hb : Below w.heap.size w w') : OwnN w' B v n X := h.same (fun k hk => hb.block k (h.blockLt k hk))
theorem OwnN.alloc (h : OwnN w B v n X) (o : Obj) : OwnN (w.alloc o) B v n X := h.belowT (below1 w o)
theorem OwnN.drew (h : OwnN w B v n X) : OwnN w.drew B v n X := h
theorem OwnN.slice (h : OwnN w B v n X) : ∃ A c, v = .slice A n c ∧ n ≤ c ∧ c ≤ maxLen ∧ (A = none → c = 0) ∧ (0 < n → ∃ b off, A = some ⟨b, off, none⟩ ∧ off = 0 ∧ B ≤ b ∧ b < w.heap.size) := by
  rcases h.2 with ⟨h1, h2⟩ | ⟨g, cap, cur, hv, hb, hg, hn, hm, _⟩
  · subst h2
    exact ⟨none, 0, h1, by omega, by unfold maxLen; omega, fun _ => rfl, fun h => by omega⟩
  · exact ⟨_, cap, hv, hn, hm, fun h => (by cases h), fun _ => ⟨g, 0, rfl, rfl, hb, Lies.lt (t := 29) hg⟩⟩
end
theorem OwnN.at {w : World} {B b off c : Nat} {n : Nat} {X : Nat → Nx} (h : OwnN w B (.slice (some ⟨b, off, none⟩) n c) n X) (i : Nat) (hi : i < n) :
    w.cell? ⟨b, off + i * 11, none⟩ = some (.int .i64 7) ∧ w.cell? ⟨b, off + i * 11 + 1, none⟩ = some (.int .u32 1) ∧ w.cell? ⟨b, off + i * 11 + 2, none⟩ = some (.int .u32 0) ∧ w.cell? ⟨b, off + i * 11 + 3, none⟩ = some (.int .u64 0) ∧ w.cell? ⟨b, off + i * 11 + 4, none⟩ = some (.int .u64 0) ∧ w.cell? ⟨b, off + i * 11 + 5, none⟩ = some (.int .u32 ((X i).o : Int)) ∧ w.cell? ⟨b, off + i * 11 + 6, none⟩ = some (.int .i64 (X i).s) ∧ w.cell? ⟨b, off + i * 11 + 7, none⟩ = some (.bool false) ∧ w.cell? ⟨b, off + i * 11 + 8, none⟩ = some (.int .i64 0) ∧ w.cell? ⟨b, off + i * 11 + 9, none⟩ = some (.slice none 0 0) ∧ w.cell? ⟨b, off + i * 11 + 10, none⟩ = some (.slice (X i).A 1 (X i).c) := by
  rcases h.2 with ⟨h1, h2⟩ | ⟨g, cap, cur, hv, hb, hg, hn, hm, hs, ht⟩
  · cases h1
  · injection hv with q1 q2 q3
    injection q1 with q1
    injection q1 with q1 q4 _
    subst q1 q4
    have e : ∀ j, j < 11 → w.cell? ⟨b, 0 + i * 11 + j, none⟩ = (nc (X i)).toList[j]? := fun j hj => by
      rw [Lies.cell (t := 29) hg, Nat.zero_add, ← nv_at n X i j hi hj, ← ht, List.getElem?_take, if_pos (by omega), Array.getElem?_toList]
    exact ⟨e 0 (by omega), e 1 (by omega), e 2 (by omega), e 3 (by omega), e 4 (by omega), e 5 (by omega), e 6 (by omega), e 7 (by omega), e 8 (by omega), e 9 (by omega), e 10 (by omega)⟩
def zN : Value := .agg #[.int .i64 0, .int .u32 0, .int .u32 0, .int .u64 0, .int .u64 0, .int .u32 0, .int .i64 0, .bool false, .int .i64 0, .slice none 0 0, .slice none 0 0]
/-- 'append' of one note onto a row of the call's own. -/
theorem wpl_appendN {ops : Array Oper} {rest : List Oper} {a : Act} {w : World} {Q : Exit → Act → World → Prop} (dst : Option Tmp) (ty : TypeId) (pos : String) (aft : Array Edge) (s x : Operand)
    (B : Nat) (v : Value) (n : Nat) (X : Nat → Nx) (g0 : Nat) (y : Nx)
    (hs : a.eval s = v) (hx : a.eval x = .slice (some ⟨g0, 0, none⟩) 1 1) (hown : OwnN w B v n X) (hg : Lies w g0 29 (nc y)) (hsm : n ≤ 100000) (hB : B ≤ w.heap.size)
    (h : ∀ v' w', OwnN w' B v' (n + 1) (fun i => if i = n then y else X i) → w.grownBy w' v.ownBlock → (v'.ownBlock = v.ownBlock ∨ v'.ownBlock = some w.heap.size) → wpList Try.prog ops Q rest (a.put dst v') w') :
    wpList Try.prog ops Q (⟨dst, .call { callee := .builtin .append, args := #[s, x], argTypes := #[74, 74] }, ty, pos, aft, none⟩ :: rest) a w := by
  refine wpList_append_own_at (w := w) (o := ⟨dst, .call { callee := .builtin .append, args := #[s, x], argTypes := #[74, 74] }, ty, pos, aft, none⟩) rfl s x 74 rfl B 29 _ zN 11 112 Try.underlying74 Try.type29 rfl rfl rfl rfl (by decide) v n (nv n X) hs hown
      ⟨g0, 0, none⟩ 1 1 (nc y).toList hx rfl (fun j u hu => by rw [add_off, Nat.zero_add, hg.cell]; simpa using hu) (nc_one y) (by unfold maxLen; omega) (by omega) hB ?_
  intro v' w' h1 h2 _ h4
  refine h v' w' ?_ h2 h4
  unfold OwnN
  rw [nv_succ, if_pos rfl, ← nv_congr (n := n) (X := X) (fun i hi => by rw [if_neg (by omega)])]
  exact h1

end Go.Proofs.Ytfcfejmammohpaa
