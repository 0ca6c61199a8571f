/-
  'append' to a row of entries.
-/
import Derived.Test.YtccpmalefdnhdaaBgMath
import Derived.Test.YtccpmalefdnhdaaERow
namespace Go.Proofs.Ytccpmalefdnhdaa
open Go.RowKit

/-- A row of entries' cells, eleven each, in a block of its own. -/
abbrev ERow (w : World) (B : Nat) (v : Value) (n : Nat) (xs : List Value) : Prop := w.ownsRow B 26 11 v n xs
theorem erow_nil (w : World) (B : Nat) : ERow w B (.slice none 0 0) 0 [] := ⟨rfl, .inl ⟨rfl, rfl⟩⟩
theorem erow_block {w : World} {B : Nat} {v : Value} {n : Nat} {xs : List Value} (h : ERow w B v n xs) : ∀ k, v.ownBlock = some k → B ≤ k := by
  intro k hk
  rcases h.2 with ⟨rfl, _⟩ | ⟨g, cap, cur, rfl, hb, _⟩
  · cases hk
  · simp [Value.ownBlock] at hk; omega
theorem erow_alloc {w : World} {B : Nat} {v : Value} {n : Nat} {xs : List Value} (h : ERow w B v n xs) (o : Obj) : ERow (w.alloc o) B v n xs := by
  obtain ⟨h0, h1⟩ := h
  refine ⟨h0, ?_⟩
  rcases h1 with h1 | ⟨g, cap, cur, hv, hg0, hg, hr⟩
  · exact .inl h1
  · exact .inr ⟨g, cap, cur, hv, hg0, Lies.alloc hg o, hr⟩
def zE : Value := .agg #[.int .i64 0, .int .u64 0, .int .u32 0, .int .u32 0, .int .i64 0, .bool false, .int .i64 0, .int .i64 0, .int .u64 0, .slice none 0 0, .slice none 0 0]

set_option maxRecDepth 100000 in
theorem wpl_appendE {ops : Array Oper} {rest : List Oper} {a : Act} {w : World} {Q : Exit → Act → World → Prop} (dst : Option Tmp) (ty : TypeId) (pos : String) (aft : Array Edge) (s x : Operand)
    (B : Nat) (v : Value) (n : Nat) (xs : List Value) (b off m c : Nat) (news : List Value)
    (hs : a.eval s = v) (hx : a.eval x = .slice (some ⟨b, off, none⟩) m c) (hown : ERow w B v n xs) (hl : news.length = m * 11) (hnews : w.rangeAt b off news) (hone : ∀ u ∈ news, u.oneCell' = true) (hsm : n + m ≤ 1000) (hB : B ≤ w.heap.size)
    (h : ∀ v' w', ERow w' B v' (n + m) (xs ++ news) → w.grownBy w' v.ownBlock → wpList Try.prog ops Q rest (a.put dst v') w') :
    wpList Try.prog ops Q (⟨dst, .call { callee := .builtin .append, args := #[s, x], argTypes := #[50, 50] }, ty, pos, aft, none⟩ :: rest) a w := by
  refine wpList_append_own_at (w := w) (o := ⟨dst, .call { callee := .builtin .append, args := #[s, x], argTypes := #[50, 50] }, ty, pos, aft, none⟩) rfl s x 50 rfl B 26 _ zE 11 112 Try.underlying50 Try.type26 rfl rfl rfl rfl (by decide) v n xs hs hown
      ⟨b, off, none⟩ m c news hx hl ?_ hone (by unfold maxLen; omega) (by omega) hB ?_
  · intro j u hu
    rw [add_off]
    exact hnews j u hu
  · intro v' w' h1 h2 _ _
    exact h v' w' h1 h2

set_option maxRecDepth 100000 in
/-- 'append' of one entry where the order is open. -/
theorem stp_appendE {ops : Array Oper} {a : Act} {w : World} {K : Act → World → Prop} {Q : Exit → Act → World → Prop} {E : Prop} (dst : Option Tmp) (ty : TypeId) (pos : String) (aft : Array Edge) (s x : Operand)
    (B : Nat) (v : Value) (n : Nat) (xs : List Value) (g0 : Nat) (C : Array Value)
    (hs : a.eval s = v) (hx : a.eval x = .slice (some ⟨g0, 0, none⟩) 1 1) (hown : ERow w B v n xs) (hg : Lies w g0 26 C) (hC : C.size = 11) (hone : ∀ u ∈ C.toList, u.oneCell' = true) (hsm : n ≤ 900) (hB : B ≤ w.heap.size)
    (h : ∀ g cap w', ERow w' B (.slice (some ⟨g, 0, none⟩) (n + 1) cap) (n + 1) (xs ++ C.toList) → w.grownBy w' v.ownBlock → K (a.put dst (.slice (some ⟨g, 0, none⟩) (n + 1) cap)) w') :
    if Region.wanted ⟨dst, .call { callee := .builtin .append, args := #[s, x], argTypes := #[50, 50] }, ty, pos, aft, none⟩ (yielded ops a.tmps) = true then Oper.wp Try.prog ⟨dst, .call { callee := .builtin .append, args := #[s, x], argTypes := #[50, 50] }, ty, pos, aft, none⟩ a w K Q else E := by
  refine step_append_lies w (o := ⟨dst, .call { callee := .builtin .append, args := #[s, x], argTypes := #[50, 50] }, ty, pos, aft, none⟩) rfl s x 50 rfl B 26 _ zE 11 112 Try.underlying50 Try.type26 rfl rfl rfl rfl (by decide) v n xs hs hown
      ⟨g0, 0, none⟩ 1 1 C.toList hx (by simp [hC]) (fun j u hu => by rw [add_off, Nat.zero_add, hg.cell]; simpa using hu) hone (by decide) (by unfold maxLen; omega) (by omega) hB w.heap.size rfl ?_
  intro g cap w' h1 h2 _ _
  exact h g cap w' h1 h2

/-- The cells of entries, one behind the other. -/
theorem ents_cells {w : World} {b off n : Nat} : ∀ {es : List Entry}, Ents w (some ⟨b, off, none⟩) n es → ∃ news : List Value, news.length = n * 11 ∧ w.rangeAt b off news ∧ (∀ u ∈ news, u.oneCell' = true) ∧
    ∀ i (h : i < es.length), ∃ A1 A2 c1 c2, EntV w es[i] A1 A2 c1 c2 ∧ ∀ j, j < 11 → news[i * 11 + j]? = (evs es[i] (.slice A1 es[i].key.length c1) (.slice A2 es[i].data.length c2))[j]? := by
  intro es
  induction es generalizing off n with
  | nil =>
    intro h
    have : n = 0 := by rw [← h.1]; rfl
    subst this
    exact ⟨[], rfl, fun j v hv => by simp at hv, by simp, fun i hi => by simp at hi⟩
  | cons e r ih =>
    intro h
    have hl := h.1
    simp at hl
    have h0 : 0 < n := by omega
    obtain ⟨b', off', hbo, hat⟩ := h.2 h0
    injection hbo with hbo
    injection hbo with q1 q2 _
    subst q1 q2
    have hr := h.cut 1 (by omega)
    simp only [List.drop_succ_cons, List.drop_zero] at hr
    obtain ⟨news, n1, n2, n3, n4⟩ := ih hr
    obtain ⟨A1, A2, c1, c2, hV, hrg⟩ := hat 0 (by simp)
    have hlen : (evs e (.slice A1 e.key.length c1) (.slice A2 e.data.length c2)).toList.length = 11 := rfl
    refine ⟨(evs e (.slice A1 e.key.length c1) (.slice A2 e.data.length c2)).toList ++ news, by rw [List.length_append, hlen, n1]; omega, fun j v hv => ?_, fun u hu => ?_, fun i hi => ?_⟩
    · by_cases hj : j < 11
      · rw [List.getElem?_append_left (by rw [hlen]; exact hj)] at hv
        have := hrg j v hv
        simpa using this
      · rw [List.getElem?_append_right (by rw [hlen]; omega), hlen] at hv
        have := n2 (j - 11) v hv
        rw [show off + 1 * 11 + (j - 11) = off + j by omega] at this
        exact this
    · rcases List.mem_append.1 hu with hu | hu
      · simp at hu
        rcases hu with rfl | rfl | rfl | rfl | rfl | rfl | rfl | rfl | rfl | rfl | rfl <;> rfl
      · exact n3 u hu
    · rcases i with _ | i
      · exact ⟨A1, A2, c1, c2, hV, fun j hj => by rw [Nat.zero_mul, Nat.zero_add, List.getElem?_append_left (by rw [hlen]; exact hj)]; simp⟩
      · obtain ⟨B1, B2, d1, d2, hV2, hc2⟩ := n4 i (by simpa using hi)
        refine ⟨B1, B2, d1, d2, hV2, fun j hj => ?_⟩
        rw [List.getElem?_append_right (by rw [hlen]; omega), hlen, show (i + 1) * 11 + j - 11 = i * 11 + j by omega]
        exact hc2 j hj

end Go.Proofs.Ytccpmalefdnhdaa
