/-
  Rows of leases that a call has made.
-/
import Derived.Test.YtbcelelmckkaoaaRet
import Derived.Maps.AppendAt
import Derived.Laws.AppendOwnNone
import Derived.Laws.OwnMore
import Derived.Deep.AppendLies
import Derived.Laws.MakeOwn
import Derived.IntWalk
namespace Go.Proofs.Ytbcelelmckkaoaa
open Go.RowKit

structure Ls where
  e : Nat
  h : Int
  u : Nat
  m : Int
/-- A lease's cells. -/
abbrev lc (x : Ls) : Array Value := #[.int .u32 (x.e : Int), .int .i64 x.h, .int .u64 (x.u : Int), .int .i64 x.m]
/-- The cells of n leases, four each. -/
def lv (n : Nat) (T : Nat → Ls) : List Value := (List.range n).flatMap fun i => (lc (T i)).toList
theorem lv_zero (T : Nat → Ls) : lv 0 T = [] := rfl
theorem lv_succ (n : Nat) (T : Nat → Ls) : lv (n + 1) T = lv n T ++ (lc (T n)).toList := by simp [lv, List.range_succ]
theorem lv_length (n : Nat) (T : Nat → Ls) : (lv n T).length = n * 4 := by
  induction n with
  | zero => rfl
  | succ n ih => rw [lv_succ, List.length_append, ih]; simp; omega
theorem lv_at (n : Nat) (T : Nat → Ls) (i j : Nat) (hi : i < n) (hj : j < 4) : (lv n T)[i * 4 + j]? = (lc (T i)).toList[j]? := by
  induction n with
  | zero => omega
  | succ n ih =>
    rw [lv_succ]
    by_cases h : i < n
    · rw [List.getElem?_append_left (by rw [lv_length]; omega)]
      exact ih h
    · have : i = n := by omega
      subst this
      rw [List.getElem?_append_right (by rw [lv_length]; omega), lv_length]
      congr 1; omega
theorem lv_congr {n : Nat} {T T' : Nat → Ls} (h : ∀ i, i < n → T i = T' i) : lv n T = lv n T' := by
  induction n with
  | zero => rfl
  | succ n ih => rw [lv_succ, lv_succ, ih (fun i hi => h i (by omega)), h n (by omega)]
theorem lv_ext {n : Nat} {T : Nat → Ls} {xs : List Value} (hl : xs.length = n * 4) (h : ∀ i j, i < n → j < 4 → xs[i * 4 + j]? = (lc (T i)).toList[j]?) : xs = lv n T := by
  apply List.ext_getElem?
  intro k
  by_cases hk : k < n * 4
  · have e : k = (k / 4) * 4 + k % 4 := by omega
    rw [e, h (k / 4) (k % 4) (by omega) (by omega), lv_at n T (k / 4) (k % 4) (by omega) (by omega)]
  · rw [List.getElem?_eq_none (by omega), List.getElem?_eq_none (by rw [lv_length]; omega)]
theorem lc_one (x : Ls) : ∀ u ∈ (lc x).toList, u.oneCell' = true := by
  intro u hu
  simp at hu
  rcases hu with rfl | rfl | rfl | rfl <;> rfl
theorem lv_one (n : Nat) (T : Nat → Ls) : ∀ u ∈ lv n T, u.oneCell' = true := by
  induction n with
  | zero => intro u hu; simp [lv] at hu
  | succ n ih =>
    intro u hu
    rw [lv_succ] at hu
    rcases List.mem_append.1 hu with h | h
    · exact ih u h
    · exact lc_one _ u h

/-- A row of n leases that lies in a block of its own, not below B. -/
def OwnF (w : World) (B : Nat) (v : Value) (n : Nat) (T : Nat → Ls) : Prop := w.ownsRow B 25 4 v n (lv n T)
theorem OwnF.nil (w : World) (B : Nat) (T : Nat → Ls) : OwnF w B (.slice none 0 0) 0 T := ⟨rfl, .inl ⟨rfl, rfl⟩⟩
theorem OwnF.block {w : World} {B : Nat} {v : Value} {n : Nat} {T : Nat → Ls} (h : OwnF w B v n T) : ∀ k, v.ownBlock = some k → B ≤ k := by
  intro k hk
  rcases h.2 with ⟨rfl, _⟩ | ⟨g, cap, cur, rfl, hb, _⟩
  · cases hk
  · simp [Value.ownBlock] at hk; omega
theorem OwnF.blockLt {w : World} {B : Nat} {v : Value} {n : Nat} {T : Nat → Ls} (h : OwnF w B v n T) : ∀ k, v.ownBlock = some k → k < w.heap.size := by
  intro k hk
  rcases h.2 with ⟨rfl, _⟩ | ⟨g, cap, cur, rfl, hb, hg, _⟩
  · cases hk
  · simp [Value.ownBlock] at hk
    subst hk
    exact Lies.lt (t := 25) hg
theorem OwnF.same {w w' : World} {B : Nat} {v : Value} {n : Nat} {T : Nat → Ls} (h : OwnF w B v n T) (hs : ∀ k, v.ownBlock = some k → w'.heap[k]? = w.heap[k]?) : OwnF w' B v n T := by
  obtain ⟨h0, h1⟩ := h
  refine ⟨h0, ?_⟩
  rcases h1 with h1 | ⟨g, cap, cur, hv, hg0, hg, hr⟩
  · exact .inl h1
  · exact .inr ⟨g, cap, cur, hv, hg0, (hs g (by rw [hv]; rfl)).trans hg, hr⟩
theorem OwnF.belowT {w w' : World} {B : Nat} {v : Value} {n : Nat} {T : Nat → Ls} (h : OwnF w B v n T) (hb : Below w.heap.size w w') : OwnF w' B v n T :=
  h.same (fun k hk => hb.block k (h.blockLt k hk))
theorem OwnF.alloc {w : World} {B : Nat} {v : Value} {n : Nat} {T : Nat → Ls} (h : OwnF w B v n T) (o : Obj) : OwnF (w.alloc o) B v n T := h.belowT (below1 w o)
theorem OwnF.drew {w : World} {B : Nat} {v : Value} {n : Nat} {T : Nat → Ls} (h : OwnF w B v n T) : OwnF w.drew B v n T := h
theorem OwnF.other {w : World} {B : Nat} {v : Value} {n : Nat} {T : Nat → Ls} (h : OwnF w B v n T) {a : Addr} (ha : a.block < B) (x : Value) : OwnF (w.setCell a x) B v n T :=
  h.same (fun k hk => heap_setCell_other w a k x (by have := h.block k hk; omega))
theorem OwnF.congr {w : World} {B : Nat} {v : Value} {n : Nat} {T T' : Nat → Ls} (h : OwnF w B v n T) (hT : ∀ i, i < n → T i = T' i) : OwnF w B v n T' := by
  unfold OwnF; rw [← lv_congr hT]; exact h
theorem OwnF.grows {w w' a : World} {B B0 : Nat} {v : Value} {n : Nat} {T : Nat → Ls} (h : OwnF w B v n T) (hg : w.grownBy w' v.ownBlock) (hb : Below B0 a w) (h1 : B0 ≤ B) (h2 : B0 ≤ w.heap.size) : Below B0 a w' :=
  hb.grown hg h2 (fun k hk => Nat.le_trans h1 (h.block k hk))

/-- Four cells at a place of a block. -/
abbrev ste (w : World) (g o : Nat) (a b c d : Value) : World := (((w.setCell ⟨g, o, none⟩ a).setCell ⟨g, o + 1, none⟩ b).setCell ⟨g, o + 2, none⟩ c).setCell ⟨g, o + 3, none⟩ d
theorem Lies.ste_other {w : World} {g g' o : Nat} {t : TypeId} {cs : Array Value} (h : Lies w g t cs) (hn : g ≠ g') (a b c d : Value) : Lies (ste w g' o a b c d) g t cs := (((h.other (a := ⟨g', o, none⟩) hn a).other (a := ⟨g', o + 1, none⟩) hn b).other (a := ⟨g', o + 2, none⟩) hn c).other (a := ⟨g', o + 3, none⟩) hn d
theorem below_ste {B g o : Nat} {w0 w : World} (h : Below B w0 w) (hg : B ≤ g) (a b c d : Value) : Below B w0 (ste w g o a b c d) := (((h.setCell (p := ⟨g, o, none⟩) hg a).setCell (p := ⟨g, o + 1, none⟩) hg b).setCell (p := ⟨g, o + 2, none⟩) hg c).setCell (p := ⟨g, o + 3, none⟩) hg d
theorem OwnF.drewN {w : World} {B : Nat} {v : Value} {n : Nat} {T : Nat → Ls} (h : OwnF w B v n T) (k : Nat) : OwnF (w.drewN k) B v n T := h
theorem getElem_ste (cur : Array Value) (o : Nat) (a b c d : Value) (ho : o + 4 ≤ cur.size) (k : Nat) :
    ((((cur.setIfInBounds o a).setIfInBounds (o + 1) b).setIfInBounds (o + 2) c).setIfInBounds (o + 3) d)[k]? = if k = o then some a else if k = o + 1 then some b else if k = o + 2 then some c else if k = o + 3 then some d else cur[k]? := by
  simp only [Array.getElem?_setIfInBounds, Array.size_setIfInBounds]
  by_cases h0 : k = o
  · subst h0; simp; omega
  · by_cases h1 : k = o + 1
    · subst h1; simp; omega
    · by_cases h2 : k = o + 2
      · subst h2; simp; omega
      · by_cases h3 : k = o + 3
        · subst h3; simp; omega
        · rw [if_neg (by omega), if_neg (by omega), if_neg (by omega), if_neg (by omega), if_neg h0, if_neg h1, if_neg h2, if_neg h3]
/-- What can be said of the slice itself. -/
theorem OwnF.slice {w : World} {B : Nat} {v : Value} {n : Nat} {T : Nat → Ls} (h : OwnF w B v n T) :
    ∃ A c, v = .slice A n c ∧ n ≤ c ∧ c ≤ maxLen ∧ (A = none → c = 0) ∧ (0 < n → ∃ b off, A = some ⟨b, off, none⟩ ∧ off = 0 ∧ B ≤ b ∧ b < w.heap.size) := by
  rcases h.2 with ⟨h1, h2⟩ | ⟨g, cap, cur, hv, hb, hg, hn, hm, _⟩
  · subst h2
    exact ⟨none, 0, h1, by omega, by unfold maxLen; omega, fun _ => rfl, fun h => by omega⟩
  · exact ⟨_, cap, hv, hn, hm, fun h => (by cases h), fun _ => ⟨g, 0, rfl, rfl, hb, Lies.lt (t := 25) hg⟩⟩
/-- The cells of the lease at place i. -/
theorem OwnF.at {w : World} {B b off c : Nat} {n : Nat} {T : Nat → Ls} (h : OwnF w B (.slice (some ⟨b, off, none⟩) n c) n T) (i : Nat) (hi : i < n) :
    (w.cell? ⟨b, off + i * 4, none⟩ = some (.int .u32 ((T i).e : Int)) ∧ w.cell? ⟨b, off + i * 4 + 1, none⟩ = some (.int .i64 (T i).h) ∧ w.cell? ⟨b, off + i * 4 + 2, none⟩ = some (.int .u64 ((T i).u : Int)) ∧ w.cell? ⟨b, off + i * 4 + 3, none⟩ = some (.int .i64 (T i).m)) ∧
    (w.frozen? ⟨b, off + i * 4, none⟩ = false ∧ w.frozen? ⟨b, off + i * 4 + 1, none⟩ = false ∧ w.frozen? ⟨b, off + i * 4 + 2, none⟩ = false ∧ w.frozen? ⟨b, off + i * 4 + 3, none⟩ = false) := by
  rcases h.2 with ⟨h1, h2⟩ | ⟨g, cap, cur, hv, hb, hg, hn, hm, hs, ht⟩
  · cases h1
  · injection hv with q1 q2 q3
    injection q1 with q1
    injection q1 with q1 q4 _
    subst q1 q4
    have e : ∀ j, j < 4 → w.cell? ⟨b, 0 + i * 4 + j, none⟩ = (lc (T i)).toList[j]? := fun j hj => by
      rw [Lies.cell (t := 25) hg, Nat.zero_add, ← lv_at n T i j hi hj, ← ht, List.getElem?_take, if_pos (by omega), Array.getElem?_toList]
    exact ⟨⟨e 0 (by omega), e 1 (by omega), e 2 (by omega), e 3 (by omega)⟩, Lies.free (t := 25) hg _, Lies.free (t := 25) hg _, Lies.free (t := 25) hg _, Lies.free (t := 25) hg _⟩
/-- A lease is stored at place i. -/
theorem OwnF.set {w : World} {B b off c : Nat} {n : Nat} {T : Nat → Ls} (h : OwnF w B (.slice (some ⟨b, off, none⟩) n c) n T) (i : Nat) (hi : i < n) (x : Ls) :
    OwnF (ste w b (off + i * 4) (.int .u32 (x.e : Int)) (.int .i64 x.h) (.int .u64 (x.u : Int)) (.int .i64 x.m)) B (.slice (some ⟨b, off, none⟩) n c) n (fun j => if j = i then x else T j) := by
  refine ⟨lv_length _ _, ?_⟩
  rcases h.2 with ⟨h1, h2⟩ | ⟨g, cap, cur, hv, hb, hg, hn, hm, hs, ht⟩
  · cases h1
  · have hv' := hv
    injection hv with q1 q2 q3
    injection q1 with q1
    injection q1 with q1 q4 _
    subst q1 q4 q3
    rw [Nat.zero_add]
    refine .inr ⟨b, c, _, rfl, hb, (((Lies.put (t := 25) hg (i * 4) _).put (i * 4 + 1) _).put (i * 4 + 2) _).put (i * 4 + 3) _, hn, hm, by simpa using hs, ?_⟩
    refine lv_ext (by simp [hs]; omega) (fun k j hk hj => ?_)
    rw [List.getElem?_take, if_pos (by omega), Array.getElem?_toList, getElem_ste _ _ _ _ _ _ (by rw [hs]; omega)]
    by_cases hki : k = i
    · subst hki
      rw [if_pos rfl]
      rcases j with _ | _ | _ | _ | j
      · rw [if_pos (by omega)]; rfl
      · rw [if_neg (by omega), if_pos (by omega)]; rfl
      · rw [if_neg (by omega), if_neg (by omega), if_pos (by omega)]; rfl
      · rw [if_neg (by omega), if_neg (by omega), if_neg (by omega), if_pos (by omega)]; rfl
      · omega
    · rw [if_neg (by omega), if_neg (by omega), if_neg (by omega), if_neg (by omega), if_neg hki, ← lv_at n T k j hk hj, ← ht, List.getElem?_take, if_pos (by omega), Array.getElem?_toList]

theorem OwnF.put4 {w : World} {B g : Nat} {v : Value} {n : Nat} {T : Nat → Ls} (h : OwnF w B v n T) (hg : ∀ b, v.ownBlock = some b → b ≠ g) (a b c d : Value) : OwnF (st4 w g a b c d) B v n T :=
  h.same (fun k hk => ((heap_setCell_other _ ⟨g, 3, none⟩ k d (hg k hk)).trans ((heap_setCell_other _ ⟨g, 2, none⟩ k c (hg k hk)).trans ((heap_setCell_other _ ⟨g, 1, none⟩ k b (hg k hk)).trans (heap_setCell_other _ ⟨g, 0, none⟩ k a (hg k hk))))))

def zL : Value := .agg #[.int .u32 0, .int .i64 0, .int .u64 0, .int .i64 0]
set_option maxRecDepth 100000 in
/-- 'append' of one lease where the order is open. -/
theorem stp_append {ops : Array Oper} {a : Act} {w : World} {K : Act → World → Prop} {Q : Exit → Act → World → Prop} {E : Prop} (dst : Option Tmp) (ty : TypeId) (pos : String) (aft : Array Edge) (s x : Operand)
    (B : Nat) (v : Value) (n : Nat) (T : Nat → Ls) (g0 : Nat) (y : Ls)
    (hs : a.eval s = v) (hx : a.eval x = .slice (some ⟨g0, 0, none⟩) 1 1) (hown : OwnF w B v n T) (hg : Lies w g0 25 (lc y)) (hsm : n ≤ 100000) (hB : B ≤ w.heap.size)
    (h : ∀ g cap w', OwnF w' B (.slice (some ⟨g, 0, none⟩) (n + 1) cap) (n + 1) (fun i => if i = n then y else T i) → w.grownBy w' v.ownBlock → (v.ownBlock = some g ∨ g = w.heap.size) → K (a.put dst (.slice (some ⟨g, 0, none⟩) (n + 1) cap)) w') :
    if Region.wanted ⟨dst, .call { callee := .builtin .append, args := #[s, x], argTypes := #[46, 46] }, ty, pos, aft, none⟩ (yielded ops a.tmps) = true then Oper.wp Try.prog ⟨dst, .call { callee := .builtin .append, args := #[s, x], argTypes := #[46, 46] }, ty, pos, aft, none⟩ a w K Q else E := by
  refine step_append_lies w (o := ⟨dst, .call { callee := .builtin .append, args := #[s, x], argTypes := #[46, 46] }, ty, pos, aft, none⟩) rfl s x 46 rfl B 25 _ zL 4 32 Try.underlying46 Try.type25 rfl rfl rfl rfl (by decide) v n (lv n T) hs hown
      ⟨g0, 0, none⟩ 1 1 (lc y).toList hx rfl (fun j u hu => by rw [add_off, Nat.zero_add, hg.cell]; simpa using hu) (lc_one y) (by decide) (by unfold maxLen; omega) (by omega) hB w.heap.size rfl ?_
  intro g cap w' h1 h2 h3 _
  refine h g cap w' ?_ h2 h3
  unfold OwnF
  rw [lv_succ, if_pos rfl, ← lv_congr (n := n) (T := T) (fun i hi => by rw [if_neg (by omega)])]
  exact h1

end Go.Proofs.Ytbcelelmckkaoaa
