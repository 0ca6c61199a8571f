/-
  'append' to a row of the call's own: one number, one booking, many.
-/
import Derived.Test.YtnajombhlmbopaaSortE
namespace Go.Proofs.Ytnajombhlmbopaa
open Go.Proofs Go.RowKit Go.Maps
set_option maxRecDepth 100000
set_option linter.unusedVariables false
set_option linter.unusedSimpArgs false

theorem wpl_appI {ops : Array Oper} {rest : List Oper} {a : Act} {w : World} {Q : Exit → Act → World → Prop} (dst : Option Tmp) (ty : TypeId) (pos : String) (aft : Array Edge) (s x : Operand)
    (B : Nat) (v : Value) (l : List Int) (g : Nat) (z : Int)
    (hs : a.eval s = v) (hx : a.eval x = .slice (some ⟨g, 0, none⟩) 1 1) (hown : OwnI w B v l) (hsrc : Lies w g 3 #[.int .i64 z]) (hsm : l.length ≤ 100000) (hB : B ≤ w.heap.size)
    (h : ∀ v' w', OwnI w' B v' (l ++ [z]) → w.grownBy w' v.ownBlock → (v'.ownBlock = v.ownBlock ∨ v'.ownBlock = some w.heap.size) → wpList Try.prog ops Q rest (a.put dst v') w') :
    wpList Try.prog ops Q (⟨dst, .call { callee := .builtin .append, args := #[s, x], argTypes := #[22, 22] }, ty, pos, aft, none⟩ :: rest) a w :=
  wpl_app1 22 _ _ 8 Try.underlying22 Try.type3 rfl rfl rfl rfl (by decide) (by decide) encI_len encI_one dst ty pos aft s x B v l g z hs hx hown hsrc hsm hB h
theorem wpl_appH {ops : Array Oper} {rest : List Oper} {a : Act} {w : World} {Q : Exit → Act → World → Prop} (dst : Option Tmp) (ty : TypeId) (pos : String) (aft : Array Edge) (s x : Operand)
    (B : Nat) (v : Value) (l : List Hd) (g : Nat) (o d : Nat) (f : Int)
    (hs : a.eval s = v) (hx : a.eval x = .slice (some ⟨g, 0, none⟩) 1 1) (hown : OwnR w B v l) (hsrc : Lies w g 44 #[.int .u32 (o : Int), .int .i64 (d : Int), .int .i64 f]) (hsm : l.length ≤ 100000) (hB : B ≤ w.heap.size)
    (h : ∀ v' w', OwnR w' B v' (l ++ [⟨o, d, f⟩]) → w.grownBy w' v.ownBlock → (v'.ownBlock = v.ownBlock ∨ v'.ownBlock = some w.heap.size) → wpList Try.prog ops Q rest (a.put dst v') w') :
    wpList Try.prog ops Q (⟨dst, .call { callee := .builtin .append, args := #[s, x], argTypes := #[39, 39] }, ty, pos, aft, none⟩ :: rest) a w :=
  wpl_app1 39 _ _ 24 Try.underlying39 Try.type44 rfl rfl rfl rfl (by decide) (by decide) encH_len encH_one dst ty pos aft s x B v l g ⟨o, d, f⟩ hs hx hown hsrc hsm hB h

section
variable {α : Type} {enc : α → List Value} {e : TypeId} {k : Nat}
/-- 'append' of many elements. -/
theorem wpl_appN (t : TypeId) (inf : TypeInfo) (z : Value) (by_ : Nat) (ht : Try.prog.underlying t = some (.slice e)) (hi : Try.prog.info? e = some inf) (hz : inf.zero = some z) (hsz : inf.size = k) (hby : inf.bytes = by_) (hzs : z.cells.size = k) (hk0 : 0 < k) (hb48 : by_ ≤ 1000)
    (hk : ∀ x, (enc x).length = k) (h1c : ∀ x, ∀ v ∈ enc x, v.oneCell' = true)
    {ops : Array Oper} {rest : List Oper} {a : Act} {w : World} {Q : Exit → Act → World → Prop} (dst : Option Tmp) (ty : TypeId) (pos : String) (aft : Array Edge) (s x : Operand)
    (B : Nat) (v : Value) (l y : List α) (b o c m : Nat) (hm : y.length = m)
    (hs : a.eval s = v) (hx : a.eval x = .slice (some ⟨b, o, none⟩) m c) (hown : OwnE enc e k w B v l) (hsrc : ∀ (i : Nat) (hi : i < y.length) (j : Nat), j < k → w.cell? ⟨b, o + i * k + j, none⟩ = (enc y[i])[j]?) (hsm : l.length + y.length ≤ 100000) (hB : B ≤ w.heap.size)
    (h : ∀ v' w', OwnE enc e k w' B v' (l ++ y) → w.grownBy w' v.ownBlock → (v'.ownBlock = v.ownBlock ∨ v'.ownBlock = some w.heap.size) → wpList Try.prog ops Q rest (a.put dst v') w') :
    wpList Try.prog ops Q (⟨dst, .call { callee := .builtin .append, args := #[s, x], argTypes := #[t, t] }, ty, pos, aft, none⟩ :: rest) a w := by
  subst hm
  refine wpList_append_own_at (w := w) (o := ⟨dst, .call { callee := .builtin .append, args := #[s, x], argTypes := #[t, t] }, ty, pos, aft, none⟩) rfl s x t rfl B e inf z k by_ ht hi hz hsz hby hzs hk0 v l.length (flat enc l) hs hown
    ⟨b, o, none⟩ y.length c (flat enc y) hx (flat_len hk y) (fun j u hu => ?_) (fun u hu => ?_) (by unfold maxLen; omega) ?_ hB ?_
  · have hj : j < y.length * k := by have := (List.getElem?_eq_some_iff.1 hu).1; rwa [flat_len hk] at this
    have hq : j / k < y.length := Nat.div_lt_of_lt_mul (by rw [Nat.mul_comm]; exact hj)
    have hm : j % k < k := Nat.mod_lt _ hk0
    have hjj : j / k * k + j % k = j := by rw [Nat.mul_comm]; exact Nat.div_add_mod j k
    have e := flat_get hk y (j / k) hq (j % k) hm
    rw [hjj, hu] at e
    rw [Addr.add_mid]
    have := hsrc (j / k) hq (j % k) hm
    rw [Nat.add_assoc, hjj] at this
    rw [this]
    exact e.symm
  · obtain ⟨z, -, hz⟩ := List.mem_flatMap.1 hu
    exact h1c z u hz
  · have : (l.length + y.length) * by_ ≤ 100000 * 1000 := Nat.mul_le_mul hsm hb48
    omega
  · intro v' w' r1 r2 _ r4
    refine h v' w' ?_ r2 r4
    show w'.ownsRow B e k v' (l ++ y).length (flat enc (l ++ y))
    rw [List.length_append, show flat enc (l ++ y) = flat enc l ++ flat enc y from by simp [flat]]
    exact r1
theorem OwnE.one {w : World} {B : Nat} {v : Value} {l : List α} (h : OwnE enc e k w B v l) : v.oneCell' = true := by
  rcases h.form with ⟨rfl, _⟩ | ⟨g', cap, cur, rfl, _⟩ <;> rfl
end
theorem wpl_appIs {ops : Array Oper} {rest : List Oper} {a : Act} {w : World} {Q : Exit → Act → World → Prop} (dst : Option Tmp) (ty : TypeId) (pos : String) (aft : Array Edge) (s x : Operand)
    (B : Nat) (v : Value) (l y : List Int) (b o c m : Nat) (hm : y.length = m)
    (hs : a.eval s = v) (hx : a.eval x = .slice (some ⟨b, o, none⟩) m c) (hown : OwnI w B v l) (hsrc : ∀ (i : Nat) (hi : i < y.length) (j : Nat), j < 1 → w.cell? ⟨b, o + i * 1 + j, none⟩ = (encI y[i])[j]?) (hsm : l.length + y.length ≤ 100000) (hB : B ≤ w.heap.size)
    (h : ∀ v' w', OwnI w' B v' (l ++ y) → w.grownBy w' v.ownBlock → (v'.ownBlock = v.ownBlock ∨ v'.ownBlock = some w.heap.size) → wpList Try.prog ops Q rest (a.put dst v') w') :
    wpList Try.prog ops Q (⟨dst, .call { callee := .builtin .append, args := #[s, x], argTypes := #[22, 22] }, ty, pos, aft, none⟩ :: rest) a w :=
  wpl_appN 22 _ _ 8 Try.underlying22 Try.type3 rfl rfl rfl rfl (by decide) (by decide) encI_len encI_one dst ty pos aft s x B v l y b o c m hm hs hx hown hsrc hsm hB h
theorem wpl_appHs {ops : Array Oper} {rest : List Oper} {a : Act} {w : World} {Q : Exit → Act → World → Prop} (dst : Option Tmp) (ty : TypeId) (pos : String) (aft : Array Edge) (s x : Operand)
    (B : Nat) (v : Value) (l y : List Hd) (b o c m : Nat) (hm : y.length = m)
    (hs : a.eval s = v) (hx : a.eval x = .slice (some ⟨b, o, none⟩) m c) (hown : OwnR w B v l) (hsrc : ∀ (i : Nat) (hi : i < y.length) (j : Nat), j < 3 → w.cell? ⟨b, o + i * 3 + j, none⟩ = (encH y[i])[j]?) (hsm : l.length + y.length ≤ 100000) (hB : B ≤ w.heap.size)
    (h : ∀ v' w', OwnR w' B v' (l ++ y) → w.grownBy w' v.ownBlock → (v'.ownBlock = v.ownBlock ∨ v'.ownBlock = some w.heap.size) → wpList Try.prog ops Q rest (a.put dst v') w') :
    wpList Try.prog ops Q (⟨dst, .call { callee := .builtin .append, args := #[s, x], argTypes := #[39, 39] }, ty, pos, aft, none⟩ :: rest) a w :=
  wpl_appN 39 _ _ 24 Try.underlying39 Try.type44 rfl rfl rfl rfl (by decide) (by decide) encH_len encH_one dst ty pos aft s x B v l y b o c m hm hs hx hown hsrc hsm hB h
/-! 'append' of nothing -/
theorem wpl_appZI {ops : Array Oper} {rest : List Oper} {a : Act} {w : World} {Q : Exit → Act → World → Prop} (dst : Option Tmp) (ty : TypeId) (pos : String) (aft : Array Edge) (s x : Operand)
    (B c : Nat) (v : Value) (l : List Int) (hs : a.eval s = v) (hx : a.eval x = .slice none 0 c) (hown : OwnI w B v l)
    (h : wpList Try.prog ops Q rest (a.put dst v) w) :
    wpList Try.prog ops Q (⟨dst, .call { callee := .builtin .append, args := #[s, x], argTypes := #[22, 22] }, ty, pos, aft, none⟩ :: rest) a w := by
  refine wpList_plain rfl fun K' hK' => ?_
  unfold Oper.wp execOp
  simp only [resolve, invoke, builtin, Sem.run_bind, Sem.run_pure, Result.andThen_ok, List.map_toArray, List.map_cons, List.map_nil, hs, hx]
  have hr : (Builtin.append_ #[22, 22] ty #[v, .slice none 0 c]).run Try.prog w = .ok v w := by
    have hu := Try.underlying22
    rcases hown.form with ⟨rfl, _⟩ | ⟨g', cap, cur, rfl, h1, h2, h3, _⟩
    · simp [Builtin.append_, hu, Builtin.lenOf, Builtin.firstCells]
    · simp [Builtin.append_, hu, h3, Builtin.lenOf, Builtin.firstCells, storeCells]
  rw [hr]
  exact hK' _ _ h
theorem wpl_appZH {ops : Array Oper} {rest : List Oper} {a : Act} {w : World} {Q : Exit → Act → World → Prop} (dst : Option Tmp) (ty : TypeId) (pos : String) (aft : Array Edge) (s x : Operand)
    (B c : Nat) (v : Value) (l : List Hd) (hs : a.eval s = v) (hx : a.eval x = .slice none 0 c) (hown : OwnR w B v l)
    (h : wpList Try.prog ops Q rest (a.put dst v) w) :
    wpList Try.prog ops Q (⟨dst, .call { callee := .builtin .append, args := #[s, x], argTypes := #[39, 39] }, ty, pos, aft, none⟩ :: rest) a w := by
  refine wpList_plain rfl fun K' hK' => ?_
  unfold Oper.wp execOp
  simp only [resolve, invoke, builtin, Sem.run_bind, Sem.run_pure, Result.andThen_ok, List.map_toArray, List.map_cons, List.map_nil, hs, hx]
  have hr : (Builtin.append_ #[39, 39] ty #[v, .slice none 0 c]).run Try.prog w = .ok v w := by
    have hu := Try.underlying39
    rcases hown.form with ⟨rfl, _⟩ | ⟨g', cap, cur, rfl, h1, h2, h3, _⟩
    · simp [Builtin.append_, hu, Builtin.lenOf, Builtin.firstCells]
    · simp [Builtin.append_, hu, h3, Builtin.lenOf, Builtin.firstCells, storeCells]
  rw [hr]
  exact hK' _ _ h

end Go.Proofs.Ytnajombhlmbopaa
