/-
  A row of structs that lies in a block of its own: made, appended to, sorted, read.
-/
import Derived.Test.YtnajombhlmbopaaCmp
import Derived.Maps.AppendAt
import Derived.Laws.MakeOwn
import Derived.Sort.OwnSorted
namespace Go.Proofs.Ytnajombhlmbopaa
open Go.Proofs Go.Shelf Go.RowKit Go.Lib Go.Sort
set_option maxRecDepth 100000
set_option linter.unusedVariables false
set_option linter.unusedSimpArgs false

section
variable {α : Type} (enc : α → List Value) (e : TypeId) (k : Nat)

/-- The cells of these elements. -/
def flat (l : List α) : List Value := l.flatMap enc
variable {enc} {k}
theorem flat_len (hk : ∀ x, (enc x).length = k) : ∀ l : List α, (flat enc l).length = l.length * k
  | [] => by simp [flat]
  | x :: r => by
    have := flat_len hk r
    unfold flat at this ⊢
    rw [List.flatMap_cons, List.length_append, this, hk, List.length_cons, Nat.add_mul]; omega
theorem flat_get (hk : ∀ x, (enc x).length = k) : ∀ (l : List α) (i : Nat) (hi : i < l.length) (j : Nat), j < k → (flat enc l)[i * k + j]? = (enc (l[i]'hi))[j]?
  | [], i, hi, _, _ => absurd hi (by simp)
  | x :: r, 0, hi, j, hj => by
    unfold flat
    rw [List.flatMap_cons, List.getElem?_append_left (by rw [hk]; omega)]
    simp
  | x :: r, i + 1, hi, j, hj => by
    have := flat_get hk r i (by simpa using hi) j hj
    unfold flat at this ⊢
    rw [List.flatMap_cons, List.getElem?_append_right (by rw [hk, Nat.add_mul]; omega), hk]
    rw [show (i + 1) * k + j - k = i * k + j from by rw [Nat.add_mul]; omega, this]
    simp
theorem flat_flatK [Inhabited α] (hk : ∀ x, (enc x).length = k) (hk0 : 0 < k) (l : List α) : flatK enc k l.toArray = (flat enc l).toArray := by
  have hl := flat_len hk l
  refine ext_get! (by rw [size_flatK]; simp [hl]) fun t ht => ?_
  have ht' : t < l.length * k := by simpa using ht
  rw [get_flatK _ _ _ t (by simpa using ht')]
  have hq : t / k < l.length := Nat.div_lt_of_lt_mul (by rw [Nat.mul_comm]; exact ht')
  have hm : t % k < k := Nat.mod_lt _ hk0
  have h := flat_get hk l (t / k) hq (t % k) hm
  rw [show t / k * k + t % k = t from by rw [Nat.mul_comm]; exact Nat.div_add_mod t k] at h
  have e1 : l.toArray[t / k]! = l[t / k] := by simp [hq]
  rw [e1]
  have h2 : t < (flat enc l).length := by rw [hl]; exact ht'
  have e2 : (flat enc l).toArray[t]! = (flat enc l)[t] := by simp [h2]
  rw [e2]
  have h3 : t % k < (enc l[t / k]).length := by rw [hk]; exact hm
  rw [List.getElem?_eq_getElem h2, List.getElem?_eq_getElem h3] at h
  have e3 : (enc l[t / k])[t % k]! = (enc l[t / k])[t % k] := by simp [h3]
  rw [e3]
  exact (Option.some.inj h).symm

variable (enc) (k)
/-- The slice v owns a row, not below B, that reads as l. -/
def OwnE (w : World) (B : Nat) (v : Value) (l : List α) : Prop := w.ownsRow B e k v l.length (flat enc l)
variable {enc} {e} {k}

theorem OwnE.form {w : World} {B : Nat} {v : Value} {l : List α} (h : OwnE enc e k w B v l) :
    (v = .slice none 0 0 ∧ l = []) ∨ ∃ g cap cur, v = .slice (some ⟨g, 0, none⟩) l.length cap ∧ B ≤ g ∧ Lies w g e cur ∧ l.length ≤ cap ∧ cap ≤ maxLen ∧ cur.size = cap * k ∧ cur.toList.take (l.length * k) = flat enc l := by
  obtain ⟨_, h1 | ⟨g, cap, cur, hv, hb, hg, hn, hm, hs, ht⟩⟩ := h
  · exact .inl ⟨h1.1, List.eq_nil_of_length_eq_zero h1.2⟩
  · exact .inr ⟨g, cap, cur, hv, hb, hg, hn, hm, hs, ht⟩
theorem OwnE.nil (w : World) (B : Nat) : OwnE enc e k w B (.slice none 0 0) [] := ⟨by simp [flat], .inl ⟨rfl, rfl⟩⟩
theorem OwnE.made (w : World) (B n : Nat) (z : Array Value) (hB : B ≤ w.heap.size) (hn : n ≤ maxLen) : OwnE enc e k (w.alloc (.cells (madeCells z (n * k)) e)) B (.slice (some ⟨w.heap.size, 0, none⟩) 0 n) [] :=
  World.ownsRow_made w _ n hB hn (size_madeCells _ _)
theorem OwnE.block {w : World} {B : Nat} {v : Value} {l : List α} (h : OwnE enc e k w B v l) : ∀ b, v.ownBlock = some b → B ≤ b ∧ b < w.heap.size := by
  intro b hb
  rcases h.form with ⟨rfl, _⟩ | ⟨g, cap, cur, rfl, h1, h2, _⟩
  · cases hb
  · have : g = b := by simpa [Value.ownBlock] using hb
    subst this
    exact ⟨h1, h2.lt⟩
theorem OwnE.same {w w' : World} {B : Nat} {v : Value} {l : List α} (h : OwnE enc e k w B v l) (hb : ∀ b, v.ownBlock = some b → w'.heap[b]? = w.heap[b]?) : OwnE enc e k w' B v l := by
  obtain ⟨h0, h1⟩ := h
  refine ⟨h0, ?_⟩
  rcases h1 with h1 | ⟨g, cap, cur, rfl, r1, r2, r3⟩
  · exact .inl h1
  · exact .inr ⟨g, cap, cur, rfl, r1, (hb g rfl).trans r2, r3⟩
theorem OwnE.grown {w w' : World} {B : Nat} {v : Value} {l : List α} {row : Option Nat} (h : OwnE enc e k w B v l) (hg : w.grownBy w' row) (hne : ∀ b, v.ownBlock = some b → some b ≠ row) : OwnE enc e k w' B v l :=
  h.same fun b hb => hg.block b (h.block b hb).2 (hne b hb)
theorem OwnE.below {w w' : World} {B : Nat} {v : Value} {l : List α} (h : OwnE enc e k w B v l) (hb : Below w.heap.size w w') : OwnE enc e k w' B v l :=
  h.same fun b hv => hb.block b (h.block b hv).2
theorem OwnE.alloc {w : World} {B : Nat} {v : Value} {l : List α} (h : OwnE enc e k w B v l) (o : Obj) : OwnE enc e k (w.alloc o) B v l := h.below (below1 w o)
theorem OwnE.drew {w : World} {B : Nat} {v : Value} {l : List α} (h : OwnE enc e k w B v l) : OwnE enc e k w.drew B v l := h
theorem OwnE.low {w : World} {B B' : Nat} {v : Value} {l : List α} (h : OwnE enc e k w B v l) (hB : B' ≤ B) : OwnE enc e k w B' v l := by
  obtain ⟨h0, h1⟩ := h
  refine ⟨h0, ?_⟩
  rcases h1 with h1 | ⟨g, cap, cur, rfl, r1, r2⟩
  · exact .inl h1
  · exact .inr ⟨g, cap, cur, rfl, Nat.le_trans hB r1, r2⟩
/-- Element i's cell j. -/
theorem OwnE.cell {w : World} {B : Nat} {A : Option Addr} {n c : Nat} {l : List α} (h : OwnE enc e k w B (.slice A n c) l) (hk : ∀ x, (enc x).length = k) : n = l.length ∧ n ≤ c ∧ c ≤ maxLen ∧ (A = none → n = 0) ∧
    ∀ (i : Nat) (hi : i < l.length), ∃ g, A = some ⟨g, 0, none⟩ ∧ B ≤ g ∧ g < w.heap.size ∧ ∀ j, j < k → w.cell? ⟨g, i * k + j, none⟩ = (enc (l[i]'hi))[j]? ∧ w.frozen? ⟨g, i * k + j, none⟩ = false := by
  rcases h.form with ⟨hv, hl⟩ | ⟨g, cap, cur, hv, h1, h2, h3, h4, h5, h6⟩
  · injection hv with q1 q2 q3
    subst q1 q2 q3 hl
    exact ⟨rfl, Nat.le_refl _, by unfold maxLen; omega, fun _ => rfl, fun i hi => absurd hi (by simp)⟩
  · injection hv with q1 q2 q3
    subst q1 q2 q3
    refine ⟨rfl, h3, h4, (fun h => by cases h), fun i hi => ⟨g, rfl, h1, h2.lt, fun j hj => ⟨?_, h2.free _⟩⟩⟩
    rw [h2.cell, ← flat_get hk l i hi j hj, ← h6, List.getElem?_take_of_lt, Array.getElem?_toList]
    have := Nat.mul_le_mul_right k (show i + 1 ≤ l.length from hi)
    rw [Nat.add_mul] at this
    omega

/-- 'append' of one element. -/
theorem wpl_app1 (t : TypeId) (inf : TypeInfo) (z : Value) (by_ : Nat) (ht : Try.prog.underlying t = some (.slice e)) (hi : Try.prog.info? e = some inf) (hz : inf.zero = some z) (hsz : inf.size = k) (hby : inf.bytes = by_) (hzs : z.cells.size = k) (hk0 : 0 < k) (hb48 : by_ ≤ 1000)
    (hk : ∀ x, (enc x).length = k) (h1c : ∀ x, ∀ v ∈ enc x, v.oneCell' = true)
    {ops : Array Oper} {rest : List Oper} {a : Act} {w : World} {Q : Exit → Act → World → Prop} (dst : Option Tmp) (ty : TypeId) (pos : String) (aft : Array Edge) (s x : Operand)
    (B : Nat) (v : Value) (l : List α) (g : Nat) (y : α)
    (hs : a.eval s = v) (hx : a.eval x = .slice (some ⟨g, 0, none⟩) 1 1) (hown : OwnE enc e k w B v l) (hsrc : Lies w g e (enc y).toArray) (hsm : l.length ≤ 100000) (hB : B ≤ w.heap.size)
    (h : ∀ v' w', OwnE enc e k w' B v' (l ++ [y]) → w.grownBy w' v.ownBlock → (v'.ownBlock = v.ownBlock ∨ v'.ownBlock = some w.heap.size) → wpList Try.prog ops Q rest (a.put dst v') w') :
    wpList Try.prog ops Q (⟨dst, .call { callee := .builtin .append, args := #[s, x], argTypes := #[t, t] }, ty, pos, aft, none⟩ :: rest) a w := by
  refine wpList_append_own_at (w := w) (o := ⟨dst, .call { callee := .builtin .append, args := #[s, x], argTypes := #[t, t] }, ty, pos, aft, none⟩) rfl s x t rfl B e inf z k by_ ht hi hz hsz hby hzs hk0 v l.length (flat enc l) hs hown
    ⟨g, 0, none⟩ 1 1 (enc y) hx (by rw [hk]; omega) (fun j u hu => ?_) (h1c y) (by unfold maxLen; omega) ?_ hB ?_
  · rw [Addr.add_mid, Nat.zero_add, hsrc.cell]
    simpa using hu
  · have : (l.length + 1) * by_ ≤ 100001 * 1000 := Nat.mul_le_mul (by omega) hb48
    omega
  · intro v' w' r1 r2 _ r4
    refine h v' w' ?_ r2 r4
    show w'.ownsRow B e k v' (l ++ [y]).length (flat enc (l ++ [y]))
    rw [List.length_append, show flat enc (l ++ [y]) = flat enc l ++ enc y from by simp [flat]]
    exact r1

/-- What a sort leaves. -/
theorem sorted_form [Inhabited α] {w : World} {g n : Nat} {os : Array Obj} {cur : Array Value} (d : List α) (hk : ∀ x, (enc x).length = k) (hk0 : 0 < k) (hb : Lies w g e cur) (hn : d.length * k ≤ cur.size) :
    ∃ cur', Lies (grow (putRowK enc k (Sort.ahead w n) g 0 d.toArray) os) g e cur' ∧ cur'.size = cur.size ∧ cur'.toList.take (d.length * k) = flat enc d := by
  have hg : g < w.heap.size := hb.lt
  refine ⟨putCells id 0 (flat enc d).toArray cur, ?_, by simp [putCells], ?_⟩
  · unfold Lies at hb ⊢
    rw [heap_grow_old _ _ (by simpa [putRowK] using hg)]
    unfold putRowK
    rw [flat_flatK hk hk0]
    simp [putRow, mapBlock, Sort.ahead, Array.getElem?_modify, hb, onCells]
  · have hl := flat_len hk d
    rw [← hl] at hn ⊢
    apply List.ext_getElem?
    intro j
    by_cases hj : j < (flat enc d).length
    · rw [List.getElem?_take_of_lt hj, Array.getElem?_toList]
      simp [putCells, hj, show j < cur.size by omega]
    · rw [List.getElem?_take_eq_none (by omega), List.getElem?_eq_none (by omega)]
theorem grownBy_sortK [Inhabited α] {w : World} {g n : Nat} {os : Array Obj} (d : Array α) : w.grownBy (grow (putRowK enc k (Sort.ahead w n) g 0 d) os) (some g) := by
  refine ⟨rfl, rfl, rfl, by simp [putRowK], fun i hi hne => ?_⟩
  rw [heap_grow_old _ _ (by simpa [putRowK] using hi)]
  have : g ≠ i := fun e => hne (by rw [e])
  simp [putRowK, putRow, mapBlock, Sort.ahead, Array.getElem?_modify, this]
theorem holdsK_of [Inhabited α] {w : World} {g : Nat} {cur : Array Value} {l : List α} (hk : ∀ x, (enc x).length = k) (hk0 : 0 < k) (hb : Lies w g e cur) (ht : cur.toList.take (l.length * k) = flat enc l) : HoldsK enc k w g 0 l.toArray := by
  unfold HoldsK
  rw [flat_flatK hk hk0]
  have hl := flat_len hk l
  intro j hj
  have hj' : j < (flat enc l).length := by simpa using hj
  refine ⟨?_, hb.free _⟩
  rw [Nat.zero_add, hb.cell]
  have h1 : (cur.toList.take (l.length * k))[j]? = (flat enc l)[j]? := by rw [ht]
  rw [List.getElem?_take_of_lt (by omega), Array.getElem?_toList] at h1
  rw [h1, List.getElem?_eq_getElem hj']
  simp [hj']

theorem perm_sorted [Inhabited α] {lt : α → α → Bool} {l : List α} {d' : Array α} (hp : PermIn 0 l.toArray.size l.toArray d') (hs : SortedIn lt 0 l.toArray.size d') :
    d'.toList.Perm l ∧ d'.toList.Pairwise (fun x y => lt y x = false) := by
  obtain ⟨hsz, _, hperm⟩ := hp
  have e1 : d'.extract 0 l.toArray.size = d' := by rw [← hsz]; exact Array.extract_size
  rw [e1, Array.extract_size] at hperm
  refine ⟨by simpa using hperm, ?_⟩
  rw [List.pairwise_iff_getElem]
  intro i j hi hj hij
  have hi' : i < d'.size := by simpa using hi
  have hj' : j < d'.size := by simpa using hj
  have := hs i j (Nat.zero_le _) hij (by omega)
  rw [getElem!_pos d' j hj', getElem!_pos d' i hi'] at this
  simpa using this
end

end Go.Proofs.Ytnajombhlmbopaa
