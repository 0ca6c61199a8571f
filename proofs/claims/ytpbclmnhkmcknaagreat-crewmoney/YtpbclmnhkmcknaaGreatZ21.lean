/-
  Texts of one proof, in their order: DoAppE, CRead, FeFld, FeNum, FeROne, CStep, CIn.
-/
import Derived.IntWalk
import Derived.Deep.Slices
import Derived.Deep.Fields
import Derived.ChangeSame
import Derived.ProofKit
import Derived.OpenShut
import Derived.Test.YtpbclmnhkmcknaaGreatZ20
namespace Go.Proofs.YtpbclmnhkmcknaaGreat.Do
open Go.Proofs Go.RowKit Go.Maps
set_option maxRecDepth 100000
set_option linter.unusedVariables false
set_option linter.unusedSimpArgs false

theorem wpl_appI {ops : Array Oper} {rest : List Oper} {a : Act} {w : World} {Q : Exit → Act → World → Prop} (dst : Option Tmp) (ty : TypeId) (pos : String) (aft : Array Edge) (s x : Operand)
    (B : Nat) (v : Value) (l : List Int) (g : Nat) (z : Int)
    (hs : a.eval s = v) (hx : a.eval x = .slice (some ⟨g, 0, none⟩) 1 1) (hown : OwnI w B v l) (hsrc : Lies w g 3 #[.int .i64 z]) (hsm : l.length ≤ 100000) (hB : B ≤ w.heap.size)
    (h : ∀ v' w', OwnI w' B v' (l ++ [z]) → w.grownBy w' v.ownBlock → (v'.ownBlock = v.ownBlock ∨ v'.ownBlock = some w.heap.size) → wpList Tryz.prog ops Q rest (a.put dst v') w') :
    wpList Tryz.prog ops Q (⟨dst, .call { callee := .builtin .append, args := #[s, x], argTypes := #[41, 41] }, ty, pos, aft, none⟩ :: rest) a w :=
  wpl_app1 41 _ _ 8 Tryz.underlying41 Tryz.type3 rfl rfl rfl rfl (by decide) (by decide) encI_len encI_one dst ty pos aft s x B v l g z hs hx hown hsrc hsm hB h
theorem wpl_appH {ops : Array Oper} {rest : List Oper} {a : Act} {w : World} {Q : Exit → Act → World → Prop} (dst : Option Tmp) (ty : TypeId) (pos : String) (aft : Array Edge) (s x : Operand)
    (B : Nat) (v : Value) (l : List Hd) (g : Nat) (o d : Nat) (f : Int)
    (hs : a.eval s = v) (hx : a.eval x = .slice (some ⟨g, 0, none⟩) 1 1) (hown : OwnR w B v l) (hsrc : Lies w g 160 #[.int .u32 (o : Int), .int .i64 (d : Int), .int .i64 f]) (hsm : l.length ≤ 100000) (hB : B ≤ w.heap.size)
    (h : ∀ v' w', OwnR w' B v' (l ++ [⟨o, d, f⟩]) → w.grownBy w' v.ownBlock → (v'.ownBlock = v.ownBlock ∨ v'.ownBlock = some w.heap.size) → wpList Tryz.prog ops Q rest (a.put dst v') w') :
    wpList Tryz.prog ops Q (⟨dst, .call { callee := .builtin .append, args := #[s, x], argTypes := #[156, 156] }, ty, pos, aft, none⟩ :: rest) a w :=
  wpl_app1 156 _ _ 24 Tryz.underlying156 Tryz.type160 rfl rfl rfl rfl (by decide) (by decide) encH_len encH_one dst ty pos aft s x B v l g ⟨o, d, f⟩ hs hx hown hsrc hsm hB h

section
variable {α : Type} {enc : α → List Value} {e : TypeId} {k : Nat}
/-- 'append' of many elements. -/
theorem wpl_appN (t : TypeId) (inf : TypeInfo) (z : Value) (by_ : Nat) (ht : Tryz.prog.underlying t = some (.slice e)) (hi : Tryz.prog.info? e = some inf) (hz : inf.zero = some z) (hsz : inf.size = k) (hby : inf.bytes = by_) (hzs : z.cells.size = k) (hk0 : 0 < k) (hb48 : by_ ≤ 1000)
    (hk : ∀ x, (enc x).length = k) (h1c : ∀ x, ∀ v ∈ enc x, v.oneCell' = true)
    {ops : Array Oper} {rest : List Oper} {a : Act} {w : World} {Q : Exit → Act → World → Prop} (dst : Option Tmp) (ty : TypeId) (pos : String) (aft : Array Edge) (s x : Operand)
    (B : Nat) (v : Value) (l y : List α) (b o c m : Nat) (hm : y.length = m)
    (hs : a.eval s = v) (hx : a.eval x = .slice (some ⟨b, o, none⟩) m c) (hown : OwnE enc e k w B v l) (hsrc : ∀ (i : Nat) (hi : i < y.length) (j : Nat), j < k → w.cell? ⟨b, o + i * k + j, none⟩ = (enc y[i])[j]?) (hsm : l.length + y.length ≤ 100000) (hB : B ≤ w.heap.size)
    (h : ∀ v' w', OwnE enc e k w' B v' (l ++ y) → w.grownBy w' v.ownBlock → (v'.ownBlock = v.ownBlock ∨ v'.ownBlock = some w.heap.size) → wpList Tryz.prog ops Q rest (a.put dst v') w') :
    wpList Tryz.prog ops Q (⟨dst, .call { callee := .builtin .append, args := #[s, x], argTypes := #[t, t] }, ty, pos, aft, none⟩ :: rest) a w := by
  subst hm
  refine wpList_append_own_at (w := w) (o := ⟨dst, .call { callee := .builtin .append, args := #[s, x], argTypes := #[t, t] }, ty, pos, aft, none⟩) rfl s x t rfl B e inf z k by_ ht hi hz hsz hby hzs hk0 v l.length (flat enc l) hs hown
    ⟨b, o, none⟩ y.length c (flat enc y) hx (flat_len hk y) (fun j u hu => ?_) (fun u hu => ?_) (by unfold maxLen; omega) ?_ hB ?_
  · have hj : j < y.length * k := by have := (List.getElem?_eq_some_iff.1 hu).1; rwa [flat_len hk] at this
    have hq : j / k < y.length := Nat.div_lt_of_lt_mul (by rw [Nat.mul_comm]; exact hj)
    have hm : j % k < k := Nat.mod_lt _ hk0
    have hjj : j / k * k + j % k = j := by rw [Nat.mul_comm]; exact Nat.div_add_mod j k
    have e := flat_get hk y (j / k) hq (j % k) hm
    rw [hjj, hu] at e
    rw [Addr.add_mid]
    have := hsrc (j / k) hq (j % k) hm
    rw [Nat.add_assoc, hjj] at this
    rw [this]
    exact e.symm
  · obtain ⟨z, -, hz⟩ := List.mem_flatMap.1 hu
    exact h1c z u hz
  · have : (l.length + y.length) * by_ ≤ 100000 * 1000 := Nat.mul_le_mul hsm hb48
    omega
  · intro v' w' r1 r2 _ r4
    refine h v' w' ?_ r2 r4
    show w'.ownsRow B e k v' (l ++ y).length (flat enc (l ++ y))
    rw [List.length_append, show flat enc (l ++ y) = flat enc l ++ flat enc y from by simp [flat]]
    exact r1
theorem OwnE.one {w : World} {B : Nat} {v : Value} {l : List α} (h : OwnE enc e k w B v l) : v.oneCell' = true := by
  rcases h.form with ⟨rfl, _⟩ | ⟨g', cap, cur, rfl, _⟩ <;> rfl
end
theorem wpl_appIs {ops : Array Oper} {rest : List Oper} {a : Act} {w : World} {Q : Exit → Act → World → Prop} (dst : Option Tmp) (ty : TypeId) (pos : String) (aft : Array Edge) (s x : Operand)
    (B : Nat) (v : Value) (l y : List Int) (b o c m : Nat) (hm : y.length = m)
    (hs : a.eval s = v) (hx : a.eval x = .slice (some ⟨b, o, none⟩) m c) (hown : OwnI w B v l) (hsrc : ∀ (i : Nat) (hi : i < y.length) (j : Nat), j < 1 → w.cell? ⟨b, o + i * 1 + j, none⟩ = (encI y[i])[j]?) (hsm : l.length + y.length ≤ 100000) (hB : B ≤ w.heap.size)
    (h : ∀ v' w', OwnI w' B v' (l ++ y) → w.grownBy w' v.ownBlock → (v'.ownBlock = v.ownBlock ∨ v'.ownBlock = some w.heap.size) → wpList Tryz.prog ops Q rest (a.put dst v') w') :
    wpList Tryz.prog ops Q (⟨dst, .call { callee := .builtin .append, args := #[s, x], argTypes := #[41, 41] }, ty, pos, aft, none⟩ :: rest) a w :=
  wpl_appN 41 _ _ 8 Tryz.underlying41 Tryz.type3 rfl rfl rfl rfl (by decide) (by decide) encI_len encI_one dst ty pos aft s x B v l y b o c m hm hs hx hown hsrc hsm hB h
theorem wpl_appHs {ops : Array Oper} {rest : List Oper} {a : Act} {w : World} {Q : Exit → Act → World → Prop} (dst : Option Tmp) (ty : TypeId) (pos : String) (aft : Array Edge) (s x : Operand)
    (B : Nat) (v : Value) (l y : List Hd) (b o c m : Nat) (hm : y.length = m)
    (hs : a.eval s = v) (hx : a.eval x = .slice (some ⟨b, o, none⟩) m c) (hown : OwnR w B v l) (hsrc : ∀ (i : Nat) (hi : i < y.length) (j : Nat), j < 3 → w.cell? ⟨b, o + i * 3 + j, none⟩ = (encH y[i])[j]?) (hsm : l.length + y.length ≤ 100000) (hB : B ≤ w.heap.size)
    (h : ∀ v' w', OwnR w' B v' (l ++ y) → w.grownBy w' v.ownBlock → (v'.ownBlock = v.ownBlock ∨ v'.ownBlock = some w.heap.size) → wpList Tryz.prog ops Q rest (a.put dst v') w') :
    wpList Tryz.prog ops Q (⟨dst, .call { callee := .builtin .append, args := #[s, x], argTypes := #[156, 156] }, ty, pos, aft, none⟩ :: rest) a w :=
  wpl_appN 156 _ _ 24 Tryz.underlying156 Tryz.type160 rfl rfl rfl rfl (by decide) (by decide) encH_len encH_one dst ty pos aft s x B v l y b o c m hm hs hx hown hsrc hsm hB h
/-! 'append' of nothing -/
theorem wpl_appZI {ops : Array Oper} {rest : List Oper} {a : Act} {w : World} {Q : Exit → Act → World → Prop} (dst : Option Tmp) (ty : TypeId) (pos : String) (aft : Array Edge) (s x : Operand)
    (B c : Nat) (v : Value) (l : List Int) (hs : a.eval s = v) (hx : a.eval x = .slice none 0 c) (hown : OwnI w B v l)
    (h : wpList Tryz.prog ops Q rest (a.put dst v) w) :
    wpList Tryz.prog ops Q (⟨dst, .call { callee := .builtin .append, args := #[s, x], argTypes := #[41, 41] }, ty, pos, aft, none⟩ :: rest) a w := by
  refine wpList_plain rfl fun K' hK' => ?_
  unfold Oper.wp execOp
  simp only [resolve, invoke, builtin, Sem.run_bind, Sem.run_pure, Result.andThen_ok, List.map_toArray, List.map_cons, List.map_nil, hs, hx]
  have hr : (Builtin.append_ #[41, 41] ty #[v, .slice none 0 c]).run Tryz.prog w = .ok v w := by
    have hu := Tryz.underlying41
    rcases hown.form with ⟨rfl, _⟩ | ⟨g', cap, cur, rfl, h1, h2, h3, _⟩
    · simp [Builtin.append_, hu, Builtin.lenOf, Builtin.firstCells]
    · simp [Builtin.append_, hu, h3, Builtin.lenOf, Builtin.firstCells, storeCells]
  rw [hr]
  exact hK' _ _ h
theorem wpl_appZH {ops : Array Oper} {rest : List Oper} {a : Act} {w : World} {Q : Exit → Act → World → Prop} (dst : Option Tmp) (ty : TypeId) (pos : String) (aft : Array Edge) (s x : Operand)
    (B c : Nat) (v : Value) (l : List Hd) (hs : a.eval s = v) (hx : a.eval x = .slice none 0 c) (hown : OwnR w B v l)
    (h : wpList Tryz.prog ops Q rest (a.put dst v) w) :
    wpList Tryz.prog ops Q (⟨dst, .call { callee := .builtin .append, args := #[s, x], argTypes := #[156, 156] }, ty, pos, aft, none⟩ :: rest) a w := by
  refine wpList_plain rfl fun K' hK' => ?_
  unfold Oper.wp execOp
  simp only [resolve, invoke, builtin, Sem.run_bind, Sem.run_pure, Result.andThen_ok, List.map_toArray, List.map_cons, List.map_nil, hs, hx]
  have hr : (Builtin.append_ #[156, 156] ty #[v, .slice none 0 c]).run Tryz.prog w = .ok v w := by
    have hu := Tryz.underlying156
    rcases hown.form with ⟨rfl, _⟩ | ⟨g', cap, cur, rfl, h1, h2, h3, _⟩
    · simp [Builtin.append_, hu, Builtin.lenOf, Builtin.firstCells]
    · simp [Builtin.append_, hu, h3, Builtin.lenOf, Builtin.firstCells, storeCells]
  rw [hr]
  exact hK' _ _ h

end Go.Proofs.YtpbclmnhkmcknaaGreat.Do

namespace Go.Proofs.YtpbclmnhkmcknaaGreat
open Go.RowKit
open Fe (Lies Own Bys Reads NF Kx Kp Note)
set_option maxRecDepth 100000
set_option linter.unusedVariables false
set_option linter.unusedSimpArgs false

theorem wpl_appN68 {ops : Array Oper} {rest : List Oper} {a : Act} {w : World} {Q : Exit → Act → World → Prop} (dst : Option Tmp) (ty : TypeId) (pos : String) (aft : Array Edge) (s x : Operand)
    (B : Nat) (v : Value) (l y : List Ef) (b o c m : Nat) (hm : y.length = m)
    (hs : a.eval s = v) (hx : a.eval x = .slice (some ⟨b, o, none⟩) m c) (hown : OwnF w B v l) (hsrc : ∀ (i : Nat) (hi : i < y.length) (j : Nat), j < 3 → w.cell? ⟨b, o + i * 3 + j, none⟩ = (encF y[i])[j]?) (hsm : l.length + y.length ≤ 100000) (hB : B ≤ w.heap.size)
    (h : ∀ v' w', OwnF w' B v' (l ++ y) → w.grownBy w' v.ownBlock → (v'.ownBlock = v.ownBlock ∨ v'.ownBlock = some w.heap.size) → wpList Tryz.prog ops Q rest (a.put dst v') w') :
    wpList Tryz.prog ops Q (⟨dst, .call { callee := .builtin .append, args := #[s, x], argTypes := #[68, 68] }, ty, pos, aft, none⟩ :: rest) a w :=
  Do.wpl_appN (enc := encF) (e := 83) (k := 3) 68 _ _ 24 Tryz.underlying68 Tryz.type83 rfl rfl rfl rfl (by decide) (by decide) encF_len encF_one dst ty pos aft s x B v l y b o c m hm hs hx hown hsrc hsm hB h
theorem wpl_appN69 {ops : Array Oper} {rest : List Oper} {a : Act} {w : World} {Q : Exit → Act → World → Prop} (dst : Option Tmp) (ty : TypeId) (pos : String) (aft : Array Edge) (s x : Operand)
    (B : Nat) (v : Value) (l y : List Sl) (b o c m : Nat) (hm : y.length = m)
    (hs : a.eval s = v) (hx : a.eval x = .slice (some ⟨b, o, none⟩) m c) (hown : OwnV w B v l) (hsrc : ∀ (i : Nat) (hi : i < y.length) (j : Nat), j < 1 → w.cell? ⟨b, o + i * 1 + j, none⟩ = (encV y[i])[j]?) (hsm : l.length + y.length ≤ 100000) (hB : B ≤ w.heap.size)
    (h : ∀ v' w', OwnV w' B v' (l ++ y) → w.grownBy w' v.ownBlock → (v'.ownBlock = v.ownBlock ∨ v'.ownBlock = some w.heap.size) → wpList Tryz.prog ops Q rest (a.put dst v') w') :
    wpList Tryz.prog ops Q (⟨dst, .call { callee := .builtin .append, args := #[s, x], argTypes := #[69, 69] }, ty, pos, aft, none⟩ :: rest) a w :=
  Do.wpl_appN (enc := encV) (e := 22) (k := 1) 69 _ _ 24 Tryz.underlying69 Tryz.type22 rfl rfl rfl rfl (by decide) (by decide) encV_len encV_one dst ty pos aft s x B v l y b o c m hm hs hx hown hsrc hsm hB h

theorem run_nilS68 (a : Option Addr) (n c : Nat) (w : World) : (binOp .eql 68 (.slice a n c) (.slice none 0 0)).run Tryz.prog w = .ok (.bool a.isNone) w := by
  have h := run_equal_slice_nil (P := Tryz.prog) w 68 83 a n c Tryz.underlying68
  simp only [binOp, Sem.run_bind, h, Result.andThen_ok, Sem.run_pure]
theorem OwnF_made0 (w : World) : OwnF (w.alloc (.cells #[] 83)) w.heap.size (.slice (some ⟨w.heap.size, 0, none⟩) 0 0) [] :=
  World.ownsRow_made w #[] 0 (Nat.le_refl _) (by unfold maxLen; omega) rfl
set_option maxHeartbeats 1000000 in
theorem cloneF_any {B : Nat} {v : Value} {l : List Ef} (w : World) (h : OwnF w B v l) (hl : l.length ≤ 1000) :
    Calls Tryz.prog 75 #[v] w fun x w' => ∃ v', x = .returned v' ∧ OwnF w' w.heap.size v' l ∧ Below w.heap.size w w' := by
  rcases St.OwnE.form h with ⟨rfl, rfl⟩ | ⟨g, cap, cur, rfl, h1, h2, h3, h4, h5, h6⟩
  · have hq := run_nilS68 none 0 0
    rw [show (none : Option Addr).isNone = true from rfl] at hq
    clear h
    go_enter Tryz.func75, Tryz.ntmps75
    go_wp2
    go_ret
    exact ⟨_, rfl, St.OwnE.nil _ _, Below.refl _ _⟩
  · have hq := run_nilS68 (some ⟨g, 0, none⟩) l.length cap
    rw [show (some (⟨g, 0, none⟩ : Addr)).isNone = false from rfl] at hq
    have HO := Lib.hid (OwnF_made0 w)
    have HB := Lib.hid (Fe.below1 w (.cells #[] 83))
    have HBZ : Hid (w.heap.size ≤ (w.alloc (.cells #[] 83)).heap.size) := Lib.hid (by simp)
    have HLL := Lib.hid (Eq.refl l.length)
    have HSRC : Hid (∀ (i : Nat) (hi : i < l.length) (j : Nat), j < 3 → (w.alloc (.cells #[] 83)).cell? ⟨g, 0 + i * 3 + j, none⟩ = (encF l[i])[j]?) := Lib.hid (fun i hi j hj => by
      obtain ⟨g', e1, -, -, hc⟩ := (St.OwnE.cell h encF_len).2.2.2.2 i hi
      injection e1 with e1
      injection e1 with e1
      subst e1
      have := HB.out.cell (p := ⟨g, i * 3 + j, none⟩) h2.lt
      rw [Nat.zero_add, this]
      exact (hc j hj).1)
    have HSM : Hid (([] : List Ef).length + l.length ≤ 100000) := Lib.hid (by simp; omega)
    clear h h1 h2 h3 h4 h5 h6
    go_enter Tryz.func75, Tryz.ntmps75
    go_wp2_with (first
      | ((with_reducible refine wpl_appN68 (some 7) _ _ _ (.tmp 5) (.tmp 6) w.heap.size (.slice (some ⟨w.heap.size, 0, none⟩) 0 0) [] l g 0 cap l.length HLL.out ?hs ?hx HO.out HSRC.out HSM.out HBZ.out ?_); (case hs => rfl); (case hx => rfl); (intro v4 w4 ho4 hg4 hb4)))
    go_ret
    exact ⟨_, rfl, ho4, HB.out.grown hg4 HBZ.out (fun q hq => by
      have e : w.heap.size = q := by simpa [Value.ownBlock] using hq
      exact Nat.le_of_eq e)⟩

theorem run_nilS69 (a : Option Addr) (n c : Nat) (w : World) : (binOp .eql 69 (.slice a n c) (.slice none 0 0)).run Tryz.prog w = .ok (.bool a.isNone) w := by
  have h := run_equal_slice_nil (P := Tryz.prog) w 69 22 a n c Tryz.underlying69
  simp only [binOp, Sem.run_bind, h, Result.andThen_ok, Sem.run_pure]
theorem OwnV_made0 (w : World) : OwnV (w.alloc (.cells #[] 22)) w.heap.size (.slice (some ⟨w.heap.size, 0, none⟩) 0 0) [] :=
  World.ownsRow_made w #[] 0 (Nat.le_refl _) (by unfold maxLen; omega) rfl
set_option maxHeartbeats 1000000 in
theorem cloneV_any {B : Nat} {v : Value} {l : List Sl} (w : World) (h : OwnV w B v l) (hl : l.length ≤ 1000) :
    Calls Tryz.prog 73 #[v] w fun x w' => ∃ v', x = .returned v' ∧ OwnV w' w.heap.size v' l ∧ Below w.heap.size w w' := by
  rcases St.OwnE.form h with ⟨rfl, rfl⟩ | ⟨g, cap, cur, rfl, h1, h2, h3, h4, h5, h6⟩
  · have hq := run_nilS69 none 0 0
    rw [show (none : Option Addr).isNone = true from rfl] at hq
    clear h
    go_enter Tryz.func73, Tryz.ntmps73
    go_wp2
    go_ret
    exact ⟨_, rfl, St.OwnE.nil _ _, Below.refl _ _⟩
  · have hq := run_nilS69 (some ⟨g, 0, none⟩) l.length cap
    rw [show (some (⟨g, 0, none⟩ : Addr)).isNone = false from rfl] at hq
    have HO := Lib.hid (OwnV_made0 w)
    have HB := Lib.hid (Fe.below1 w (.cells #[] 22))
    have HBZ : Hid (w.heap.size ≤ (w.alloc (.cells #[] 22)).heap.size) := Lib.hid (by simp)
    have HLL := Lib.hid (Eq.refl l.length)
    have HSRC : Hid (∀ (i : Nat) (hi : i < l.length) (j : Nat), j < 1 → (w.alloc (.cells #[] 22)).cell? ⟨g, 0 + i * 1 + j, none⟩ = (encV l[i])[j]?) := Lib.hid (fun i hi j hj => by
      obtain ⟨g', e1, -, -, hc⟩ := (St.OwnE.cell h encV_len).2.2.2.2 i hi
      injection e1 with e1
      injection e1 with e1
      subst e1
      have := HB.out.cell (p := ⟨g, i * 1 + j, none⟩) h2.lt
      rw [Nat.zero_add, this]
      exact (hc j hj).1)
    have HSM : Hid (([] : List Sl).length + l.length ≤ 100000) := Lib.hid (by simp; omega)
    clear h h1 h2 h3 h4 h5 h6
    go_enter Tryz.func73, Tryz.ntmps73
    go_wp2_with (first
      | ((with_reducible refine wpl_appN69 (some 7) _ _ _ (.tmp 5) (.tmp 6) w.heap.size (.slice (some ⟨w.heap.size, 0, none⟩) 0 0) [] l g 0 cap l.length HLL.out ?hs ?hx HO.out HSRC.out HSM.out HBZ.out ?_); (case hs => rfl); (case hx => rfl); (intro v4 w4 ho4 hg4 hb4)))
    go_ret
    exact ⟨_, rfl, ho4, HB.out.grown hg4 HBZ.out (fun q hq => by
      have e : w.heap.size = q := by simpa [Value.ownBlock] using hq
      exact Nat.le_of_eq e)⟩

set_option maxHeartbeats 1000000 in
theorem epoch_crew {b : CB} {q : Cq} (w : World) (h : CAt w b q) : Calls Tryz.prog 26 #[.pointer (some ⟨b.c, 0, none⟩)] w fun x w' => x = .returned (.int .u32 (q.f.ep : Int)) ∧ w = w' := by
  obtain ⟨c0, c1, c2, c3, c4, c5, c6⟩ := Lies_cells7 h.c
  clear h
  go_enter Tryz.func26, Tryz.ntmps26
  go_wp2
  go_ret
  exact ⟨rfl, rfl⟩

set_option maxHeartbeats 1000000 in
theorem effects_crew {R : List Int} {b : CB} {q : Cq}  (w : World) (h : CAt w b q) (hI : CInv R q) : Calls Tryz.prog 29 #[.pointer (some ⟨b.c, 0, none⟩)] w fun x w' => ∃ v, x = .returned v ∧ OwnF w' w.heap.size v q.E ∧ Below w.heap.size w w' := by
  obtain ⟨c0, c1, c2, c3, c4, c5, c6⟩ := Lies_cells7 h.c
  have C := Lib.hid (cloneF_any w h.e (by have h1 := hI.el; have h2 := hI.n; omega))
  clear h hI
  go_enter Tryz.func29, Tryz.ntmps29
  go_wp2_with fail
  with_reducible refine C.out.mono ?_
  rintro x w1 ⟨v, rfl, ho, hb⟩
  go_wp2
  go_ret
  exact ⟨_, rfl, ho, hb⟩

set_option maxHeartbeats 1000000 in
theorem goods_crew {R : List Int} {b : CB} {q : Cq}  (w : World) (h : CAt w b q) (hI : CInv R q) : Calls Tryz.prog 32 #[.pointer (some ⟨b.c, 0, none⟩)] w fun x w' => ∃ v, x = .returned v ∧ St.OwnG w' w.heap.size v (St.goodsL q.s.K) ∧ Below w.heap.size w w' := by
  obtain ⟨c0, c1, c2, c3, c4, c5, c6⟩ := Lies_cells7 h.c
  have C := Lib.hid (St.goods_any b.s q.s w h.s hI.s.ks (by have h1 := hI.s.kz; omega))
  clear h hI
  go_enter Tryz.func32, Tryz.ntmps32
  go_wp2_with fail
  with_reducible refine C.out.mono ?_
  rintro x w1 ⟨v, rfl, ho, hb⟩
  go_wp2
  go_ret
  exact ⟨_, rfl, ho, hb⟩

set_option maxHeartbeats 1000000 in
theorem accts_crew {R : List Int} {b : CB} {q : Cq}  (w : World) (h : CAt w b q) (hI : CInv R q) : Calls Tryz.prog 35 #[.pointer (some ⟨b.c, 0, none⟩)] w fun x w' => ∃ v, x = .returned v ∧ Pu.OwnG w' w.heap.size v q.p.K ∧ Below w.heap.size w w' := by
  obtain ⟨c0, c1, c2, c3, c4, c5, c6⟩ := Lies_cells7 h.c
  have C := Lib.hid (Pu.accts_any b.p q.p w h.p hI.p.ks (by have h1 := hI.p.kz; omega))
  clear h hI
  go_enter Tryz.func35, Tryz.ntmps35
  go_wp2_with fail
  with_reducible refine C.out.mono ?_
  rintro x w1 ⟨v, rfl, ho, hb⟩
  go_wp2
  go_ret
  exact ⟨_, rfl, ho, hb⟩

set_option maxHeartbeats 1000000 in
theorem room_crew {R : List Int} {b : CB} {q : Cq} (d : Int) (w : World) (h : CAt w b q) (hI : CInv R q) : Calls Tryz.prog 37 #[.pointer (some ⟨b.c, 0, none⟩), .int .i64 d] w fun x w' => x = .returned (.int .i64 (Do.roomI q.d.F d)) ∧ w = w' := by
  obtain ⟨c0, c1, c2, c3, c4, c5, c6⟩ := Lies_cells7 h.c
  have C := Lib.hid (Do.room_same b.d q.d d w h.d (by have h1 := hI.d.fl; have h2 := hI.d.fz; omega))
  clear h hI
  go_enter Tryz.func37, Tryz.ntmps37
  go_wp2_with fail
  with_reducible refine C.out.mono ?_
  rintro x w1 ⟨rfl, rfl⟩
  go_wp2
  go_ret
  exact ⟨rfl, rfl⟩

end Go.Proofs.YtpbclmnhkmcknaaGreat

namespace Go.Proofs.YtpbclmnhkmcknaaGreat.Fe
open Go.RowKit
set_option maxRecDepth 100000
set_option linter.unusedSimpArgs false
set_option linter.unusedVariables false

/-- A row of fields, three cells each, in a block of its own. -/
abbrev FRow (w : World) (B : Nat) (v : Value) (n : Nat) (xs : List Value) : Prop := w.ownsRow B 101 3 v n xs
theorem frow_ne {w : World} {B p : Nat} {v : Value} {n : Nat} {xs : List Value} {t : TypeId} {cs : Array Value} (h : FRow w B v n xs) (hp : Lies w p t cs) (ht : t ≠ 101) : some p ≠ v.ownBlock := by
  rcases h.2 with ⟨rfl, _⟩ | ⟨g, cap, cur, rfl, _, hg, _⟩
  · simp [Value.ownBlock]
  · intro e
    have : p = g := by simpa [Value.ownBlock] using e
    subst this
    unfold Lies at hp
    rw [hg] at hp
    injection hp with hp
    injection hp with _ h2
    exact ht h2.symm
theorem frow_block {w : World} {B : Nat} {v : Value} {n : Nat} {xs : List Value} (h : FRow w B v n xs) : ∀ k, v.ownBlock = some k → B ≤ k := by
  intro k hk
  rcases h.2 with ⟨rfl, _⟩ | ⟨g, cap, cur, rfl, hb, _⟩
  · cases hk
  · simp [Value.ownBlock] at hk; omega
theorem frow_alloc {w : World} {B : Nat} {v : Value} {n : Nat} {xs : List Value} (h : FRow w B v n xs) (o : Obj) : FRow (w.alloc o) B v n xs := by
  obtain ⟨h0, h1⟩ := h
  refine ⟨h0, ?_⟩
  rcases h1 with h1 | ⟨g, cap, cur, hv, hg0, hg, hr⟩
  · exact .inl h1
  · exact .inr ⟨g, cap, cur, hv, hg0, Lies.alloc hg o, hr⟩
theorem frow_mono {w : World} {B B' : Nat} {v : Value} {n : Nat} {xs : List Value} (h : FRow w B v n xs) (hb : B' ≤ B) : FRow w B' v n xs := by
  obtain ⟨h0, h1⟩ := h
  refine ⟨h0, ?_⟩
  rcases h1 with h1 | ⟨g, cap, cur, hv, hg, hr⟩
  · exact .inl h1
  · exact .inr ⟨g, cap, cur, hv, Nat.le_trans hb hg, hr⟩
theorem frow_made {w : World} {B g n : Nat} {C : Array Value} (h : Lies w g 101 C) (hB : B ≤ g) (hn : C.size = n * 3) (hm : n ≤ 1000) : FRow w B (.slice (some ⟨g, 0, none⟩) n n) n C.toList :=
  ⟨by simp [hn], .inr ⟨g, n, C, rfl, hB, h, Nat.le_refl _, by unfold maxLen; omega, hn, List.take_of_length_le (by rw [Array.length_toList, hn]; exact Nat.le_refl _)⟩⟩

set_option maxRecDepth 100000 in
/-- 'append' of fields onto a row of the call's own. -/
theorem wpl_appendF {ops : Array Oper} {rest : List Oper} {a : Act} {w : World} {Q : Exit → Act → World → Prop} (dst : Option Tmp) (ty : TypeId) (pos : String) (aft : Array Edge) (s x : Operand)
    (B : Nat) (v : Value) (n : Nat) (xs : List Value) (g m : Nat) (C : Array Value)
    (hs : a.eval s = v) (hx : a.eval x = .slice (some ⟨g, 0, none⟩) m m) (hown : FRow w B v n xs) (hg : Lies w g 101 C) (hC : C.size = m * 3) (hone : ∀ u ∈ C.toList, u.oneCell' = true) (hsm : n + m ≤ 10000) (hB : B ≤ w.heap.size)
    (h : ∀ v' w', FRow w' B v' (n + m) (xs ++ C.toList) → w.grownBy w' v.ownBlock → wpList Tryz.prog ops Q rest (a.put dst v') w') :
    wpList Tryz.prog ops Q (⟨dst, .call { callee := .builtin .append, args := #[s, x], argTypes := #[102, 102] }, ty, pos, aft, none⟩ :: rest) a w := by
  refine wpList_append_own_at (w := w) (o := ⟨dst, .call { callee := .builtin .append, args := #[s, x], argTypes := #[102, 102] }, ty, pos, aft, none⟩) rfl s x 102 rfl B 101 _ (.agg #[.int .i64 0, .int .u64 0, .slice none 0 0]) 3 40 Tryz.underlying102 Tryz.type101 rfl rfl rfl rfl (by decide) v n xs hs hown
      ⟨g, 0, none⟩ m m C.toList hx (by simp [hC]) ?_ hone (by unfold maxLen; omega) (by omega) hB ?_
  · intro j u hu
    rw [add_off, Nat.zero_add, hg.cell]
    simpa using hu
  · intro v' w' h1 h2 _ _
    exact h v' w' h1 h2

/-- A field: its size, its number, its text. -/
structure Fld where
  size : Nat
  n : Nat
  T : Value
  t : List Nat
def Fld.cells (f : Fld) : List Value := [.int .i64 (f.size : Nat), .int .u64 (f.n : Nat), f.T]
def Fld.enc (f : Fld) : List Nat := if f.size = 0 then Ent.txt f.t else Ent.be f.size f.n
/-- It may be a field, and lies there. -/
structure Fld.Good (w : World) (f : Fld) : Prop where
  s : f.size = 0 ∨ f.size = 1 ∨ f.size = 4 ∨ f.size = 8
  n : f.n < 256 ^ f.size
  T : ∃ A c, f.T = .slice A f.t.length c ∧ Bys w A f.t.length f.t ∧ (A = none → c = 0)
  t : f.size ≠ 0 → f.t = []
  l : f.t.length ≤ 255
abbrev num (s n : Nat) : Fld := ⟨s, n, .slice none 0 0, []⟩

end Go.Proofs.YtpbclmnhkmcknaaGreat.Fe

namespace Go.Proofs.YtpbclmnhkmcknaaGreat.Fe
open Go.RowKit
set_option maxRecDepth 100000


/-- The j lowest bytes of n, the lowest first. -/
def lel (j n : Nat) : List Nat := (List.range j).map fun i => n / 256 ^ i % 256
theorem lel_len (j n : Nat) : (lel j n).length = j := by simp [lel]
theorem lel_succ (j n : Nat) : lel (j + 1) n = lel j n ++ [n / 256 ^ j % 256] := by
  unfold lel; rw [List.range_succ, List.map_append]; rfl
theorem lel_at (j n i : Nat) (h : i < j) : (lel j n).getD i 0 = n / 256 ^ i % 256 := by simp [lel, List.getD, h]
theorem be_at (k n i : Nat) (h : i < k) : (Ent.be k n).getD i 0 = n / 256 ^ (k - 1 - i) % 256 := by
  simp [Ent.be, List.getD, h]
  rw [show (256 : Nat) = 2 ^ 8 from rfl, ← Nat.pow_mul]

def Nu1R (w : World) (n k : Nat) (x v i : Value) (wr : World) : Prop :=
  ∃ j : Nat, j ≤ k ∧ i = .int .i64 j ∧ x = .int .u64 (n / 256 ^ j : Nat) ∧ Own wr w.heap.size v (lel j n) ∧ Below w.heap.size w wr
def Nu2R (w2 : World) (n k : Nat) (v i : Value) (wr : World) : Prop :=
  ∃ j : Nat, j ≤ k ∧ i = .int .i64 ((j : Int) - 1) ∧ Own wr w2.heap.size v ((Ent.be k n).take (k - j)) ∧ Below w2.heap.size w2 wr
def NumPost (w : World) (n k : Nat) (e : Ending) (w' : World) : Prop := ∃ v, e = .returned v ∧ Own w' w.heap.size v (Ent.be k n) ∧ Below w.heap.size w w'

set_option maxHeartbeats 1000000 in
theorem num_any (n k : Nat) (w : World) (hk : k ≤ 8) (hn : n ≤ 18446744073709551615) :
    Calls Tryz.prog 122 #[.int .u64 n, .int .i64 k] w (NumPost w n k) := by
  go_enter Tryz.func122, Tryz.ntmps122
  go_wp2_with fail
  go_loopw [0, 5, 6] (Nu1R w n k) (fun _ _ i _ => k - (intOf i).toNat)
  case atStart => exact ⟨0, by omega, rfl, val_int (by rw [Nat.pow_zero, Nat.div_one]), Own.nil _ _, Below.refl _ _⟩
  case round =>
    obtain ⟨j, hj, rfl, rfl, hO, hbel⟩ := hrel
    have hxl : n / 256 ^ j ≤ 18446744073709551615 := Nat.le_trans (Nat.div_le_self _ _) hn
    have hsu := lel_succ j n
    have hll := lel_len j n
    by_cases hlt : j < k
    · have hdiv : n / 256 ^ (j + 1) = n / 256 ^ j / 256 := by rw [Nat.pow_succ, Nat.div_div_eq_div_mul]
      generalize n / 256 ^ j = x at *
      have hx : x % 256 < 256 := Nat.mod_lt _ (by decide)
      have HO := Lib.hid hO
      have HSU := Lib.hid hsu
      have HDIV := Lib.hid hdiv
      have HLL := Lib.hid hll
      clear hO hsu hdiv hll
      have hbys : ∀ W : World, Bys (W.alloc (.cells #[.int .u8 ((x : Int) % 256)] 5)) (some ⟨W.heap.size, 0, none⟩) 1 [x % 256] := fun W => Bys.const W _ [x % 256] (0, 0) 1 (by simp) rfl (by simpa using hx)
      have HBYS := Lib.hid hbys
      clear hbys
      go_wp2_with (first
        | ((with_reducible refine wpl_append (some 19) _ _ _ (.tmp 14) (.tmp 18) w.heap.size _ (lel j n) (some ⟨wr.heap.size, 0, none⟩) 1 1 [x % 256] ?hs ?hx (HO.out.alloc _) (HBYS.out _) ?ha ?hm ?hz ?_); (case hs => rfl); (case hx => rfl); (case ha => (intro h; cases h)); (case hm => (rw [HLL.out]; omega)); (case hz => exact Nat.le_trans hbel.size (by simp)); (intro v' w' ho hg hv)))
      go_roundw
      case rel => exact ⟨j + 1, by omega, by go_num, val_int (by rw [HDIV.out]; omega), by rw [HSU.out]; exact ho, (HO.out.alloc _).grows hg (hbel.alloc hbel.size _) (Nat.le_refl _) (Nat.le_trans hbel.size (by simp))⟩
      case measure => simp [intOf]; omega
    · have hjk : j = k := by omega
      subst hjk
      obtain ⟨A, c, rfl, hB, _, _, _⟩ := hO.slice
      rw [hll] at hB ⊢
      have HB := Lib.hid hB
      clear hO hB hsu hll hxl
      generalize n / 256 ^ j = x0
      obtain ⟨w2, hw2⟩ : ∃ w2, w2 = wr := ⟨wr, rfl⟩
      subst hw2
      go_wp2_with fail
      go_loopw [7, 8] (Nu2R w2 n j) (fun _ i _ => ((intOf i) + 1).toNat)
      case atStart => exact ⟨j, Nat.le_refl _, rfl, by rw [Nat.sub_self, List.take_zero]; exact Own.nil _ _, Below.refl _ _⟩
      case round =>
        obtain ⟨i, hi, rfl, hO, hb2⟩ := hrel
        rcases i with _ | i
        · rw [show ((0 : Nat) : Int) - 1 = -1 from rfl]
          rw [Nat.sub_zero, List.take_of_length_le (by rw [Ent.be_len]; exact Nat.le_refl _)] at hO
          have HO := Lib.hid hO
          clear hO
          go_wp2
          go_ret
          exact ⟨_, rfl, HO.out.mono hbel.size, hbel.trans (hb2.mono hbel.size)⟩
        · rw [show ((i + 1 : Nat) : Int) - 1 = (i : Int) from by omega]
          obtain ⟨b, off, rfl, hc⟩ := HB.out.2.2 (by omega)
          have hci := hc i (by omega)
          rw [lel_at j n i (by omega)] at hci
          have hcw := (hb2.cell (block_lt_of_cell hci)).trans hci
          have htk : (Ent.be j n).take (j - i) = (Ent.be j n).take (j - (i + 1)) ++ [n / 256 ^ i % 256] := by
            rw [show j - i = j - (i + 1) + 1 by omega, take_one _ _ (by rw [Ent.be_len]; omega), be_at j n _ (by omega), show j - 1 - (j - (i + 1)) = i by omega]
          have hy : n / 256 ^ i % 256 < 256 := Nat.mod_lt _ (by decide)
          have htl : ((Ent.be j n).take (j - (i + 1))).length ≤ 8 := by rw [List.length_take, Ent.be_len]; omega
          generalize n / 256 ^ i % 256 = y at *
          have HO := Lib.hid hO
          have HTK := Lib.hid htk
          clear hO htk hc hci
          go_wp2_with (first
            | ((with_reducible refine wpl_append (some 34) _ _ _ (.tmp 28) (.tmp 33) w2.heap.size _ ((Ent.be j n).take (j - (i + 1))) (some ⟨wr.heap.size, 0, none⟩) 1 1 [y] ?hs ?hx (HO.out.alloc _) (Bys.const wr _ [y] (0, 0) 1 rfl rfl ?hb) ?ha ?hm ?hz ?_); (case hs => rfl); (case hx => rfl); (case hb => (simp; omega)); (case ha => (intro h; cases h)); (case hm => omega); (case hz => exact Nat.le_trans hb2.size (by simp)); (intro v' w' ho hg hv)))
          go_roundw
          case rel => exact ⟨i, by omega, rfl, by rw [HTK.out]; exact ho, (HO.out.alloc _).grows hg (hb2.alloc hb2.size _) (Nat.le_refl _) (Nat.le_trans hb2.size (by simp))⟩
          case measure => simp [intOf]


end Go.Proofs.YtpbclmnhkmcknaaGreat.Fe

namespace Go.Proofs.YtpbclmnhkmcknaaGreat.Fe
open Go.RowKit
set_option maxRecDepth 100000
set_option linter.unusedVariables false

def OnePost (l : List Nat) (w : World) (x : Ending) (w' : World) : Prop :=
  ∃ v, x = .returned (.tuple #[v, .int .i64 0]) ∧ Own w' w.heap.size v l ∧ Below w.heap.size w w'

set_option maxRecDepth 100000 in
set_option maxHeartbeats 1000000 in
theorem one_text (A : Option Addr) (c : Nat) (t : List Nat) (w : World) (hB : Bys w A t.length t) (hA : A = none → c = 0) (hl : t.length ≤ 255) :
    Calls Tryz.prog 83 #[.agg #[.int .i64 0, .int .u64 0, .slice A t.length c]] w (OnePost (Ent.txt t) w) := by
  obtain ⟨n, hn⟩ : ∃ n, t.length = n := ⟨_, rfl⟩
  rw [hn] at hB hl ⊢
  have HB := Lib.hid hB
  have HA := Lib.hid hA
  have hown : Own ((w.alloc (.cells #[.int .i64 0, .int .u64 0, .slice A n c] 101)).alloc (.cells #[.int .u8 (n : Nat)] 5)) w.heap.size (.slice (some ⟨w.heap.size + 1, 0, none⟩) 1 1) [n] :=
    Own.made (l := [n]) (Lies.made2 w _ 5 _) (by omega) (by simp; omega) (by unfold maxLen; simp)
  have HO := Lib.hid hown
  have hb2 := below2 w (.cells #[.int .i64 0, .int .u64 0, .slice A n c] 101) (.cells #[.int .u8 (n : Nat)] 5)
  have HB2 := Lib.hid (HB.out.below hb2)
  have HBB := Lib.hid hb2
  have he : Ent.txt t = [n] ++ t := by unfold Ent.txt; rw [hn, Ent.be_one n (by omega)]
  have HEE := Lib.hid he
  clear hB hA hown hb2 he hn
  go_enter Tryz.func83, Tryz.ntmps83
  go_wp2_with (first
    | ((with_reducible refine wpl_append (some 24) _ _ _ (.tmp 21) (.tmp 23) w.heap.size (.slice (some ⟨w.heap.size + 1, 0, none⟩) 1 1) [n] A n c t ?hs ?hx HO.out HB2.out HA.out ?hm ?hz ?_); (case hs => rfl); (case hx => rfl); (case hm => (simp; omega)); (case hz => (simp; omega)); (intro v' w' ho hg hv); (have HO2 := Lib.hid ho); (have HG := Lib.hid hg); (clear ho hg hv)))
  go_ret2
  exact ⟨_, rfl, by rw [HEE.out]; exact HO2.out, HO.out.grows HG.out HBB.out (Nat.le_refl _) HBB.out.size⟩

set_option maxRecDepth 100000 in
set_option maxHeartbeats 1000000 in
theorem one_1 (n : Nat) (w : World) (hn : n < 256) : Calls Tryz.prog 83 #[.agg #[.int .i64 1, .int .u64 (n : Nat), .slice none 0 0]] w (OnePost (Ent.be 1 n) w) := by
  have C1 := Lib.hid (fun W => num_any n 1 W (by omega) (by omega))
  rw [show ((1 : Nat) : Int) = 1 from rfl] at C1
  go_enter Tryz.func83, Tryz.ntmps83
  go_wp2_with fail
  with_reducible refine (C1.out _).mono ?_
  rintro x w1 ⟨v, rfl, hO, hb⟩
  have HO := Lib.hid hO
  clear hO
  go_wp2
  go_ret2
  exact ⟨v, rfl, HO.out.mono (by simp), ((Below.refl w.heap.size w).alloc (Nat.le_refl _) _).trans (hb.mono (by simp))⟩
set_option maxRecDepth 100000 in
set_option maxHeartbeats 1000000 in
theorem one_4 (n : Nat) (w : World) (hn : n < 4294967296) : Calls Tryz.prog 83 #[.agg #[.int .i64 4, .int .u64 (n : Nat), .slice none 0 0]] w (OnePost (Ent.be 4 n) w) := by
  have C1 := Lib.hid (fun W => num_any n 4 W (by omega) (by omega))
  rw [show ((4 : Nat) : Int) = 4 from rfl] at C1
  have p1 : (2 : Int) ^ 32 = 4294967296 := by rfl
  have p2 : (2 : Nat) ^ 32 = 4294967296 := by rfl
  have hd : decide ((4294967296 : Int) ≤ ((n : Nat) : Int)) = false := by rw [decide_eq_false_iff_not]; omega
  have hd2 : decide ((4294967296 : Nat) ≤ n) = false := by rw [decide_eq_false_iff_not]; omega
  go_enter Tryz.func83, Tryz.ntmps83
  go_wp2_with fail
  with_reducible refine (C1.out _).mono ?_
  rintro x w1 ⟨v, rfl, hO, hb⟩
  have HO := Lib.hid hO
  clear hO
  go_wp2
  go_ret2
  exact ⟨v, rfl, HO.out.mono (by simp), ((Below.refl w.heap.size w).alloc (Nat.le_refl _) _).trans (hb.mono (by simp))⟩
set_option maxRecDepth 100000 in
set_option maxHeartbeats 1000000 in
theorem one_8 (n : Nat) (w : World) (hn : n < 18446744073709551616) : Calls Tryz.prog 83 #[.agg #[.int .i64 8, .int .u64 (n : Nat), .slice none 0 0]] w (OnePost (Ent.be 8 n) w) := by
  have C1 := Lib.hid (fun W => num_any n 8 W (by omega) (by omega))
  rw [show ((8 : Nat) : Int) = 8 from rfl] at C1
  go_enter Tryz.func83, Tryz.ntmps83
  go_wp2_with fail
  with_reducible refine (C1.out _).mono ?_
  rintro x w1 ⟨v, rfl, hO, hb⟩
  have HO := Lib.hid hO
  clear hO
  go_wp2
  go_ret2
  exact ⟨v, rfl, HO.out.mono (by simp), ((Below.refl w.heap.size w).alloc (Nat.le_refl _) _).trans (hb.mono (by simp))⟩

/-- A field that may be: a number without a text, or a text without a number. -/
def Fld.May (w : World) (f : Fld) : Prop :=
  (f.size = 1 ∧ f.n < 256 ∧ f.T = .slice none 0 0) ∨ (f.size = 4 ∧ f.n < 4294967296 ∧ f.T = .slice none 0 0) ∨ (f.size = 8 ∧ f.n < 18446744073709551616 ∧ f.T = .slice none 0 0) ∨
  (f.size = 0 ∧ f.n = 0 ∧ ∃ A c, f.T = .slice A f.t.length c ∧ Bys w A f.t.length f.t ∧ (A = none → c = 0) ∧ f.t.length ≤ 255)
theorem Fld.May.below {w w' : World} {f : Fld} (h : f.May w) (hb : Below w.heap.size w w') : f.May w' := by
  rcases h with h | h | h | ⟨h1, h2, A, c, h3, h4, h5⟩
  · exact .inl h
  · exact .inr (.inl h)
  · exact .inr (.inr (.inl h))
  · exact .inr (.inr (.inr ⟨h1, h2, A, c, h3, h4.below hb, h5⟩))
theorem one_any (f : Fld) (w : World) (h : f.May w) : Calls Tryz.prog 83 #[.agg #[.int .i64 (f.size : Nat), .int .u64 (f.n : Nat), f.T]] w (OnePost f.enc w) := by
  obtain ⟨s, n, T, t⟩ := f
  rcases h with ⟨h1, h2, h3⟩ | ⟨h1, h2, h3⟩ | ⟨h1, h2, h3⟩ | ⟨h1, h2, A, c, h3, h4, h5, h6⟩
  all_goals simp only at h1 h2 h3
  · subst h1 h3; exact one_1 n w h2
  · subst h1 h3; exact one_4 n w h2
  · subst h1 h3; exact one_8 n w h2
  · subst h1 h2 h3; exact one_text A c t w h4 h5 h6

/-- A slice of fields. -/
def Flds (w : World) (g : Nat) (fs : List Fld) : Prop :=
  ∀ i (h : i < fs.length), fs[i].May w ∧ w.cell? ⟨g, i * 3, none⟩ = some (.int .i64 (fs[i].size : Nat)) ∧ w.cell? ⟨g, i * 3 + 1, none⟩ = some (.int .u64 (fs[i].n : Nat)) ∧ w.cell? ⟨g, i * 3 + 2, none⟩ = some fs[i].T
theorem Flds.below {w w' : World} {g : Nat} {fs : List Fld} (h : Flds w g fs) (hb : Below w.heap.size w w') : Flds w' g fs := fun i hi => by
  obtain ⟨h1, h2, h3, h4⟩ := h i hi
  exact ⟨h1.below hb, (hb.cell (block_lt_of_cell h2)).trans h2, (hb.cell (block_lt_of_cell h3)).trans h3, (hb.cell (block_lt_of_cell h4)).trans h4⟩

def RpR (w : World) (n : Nat) (fs : List Fld) (o i : Value) (wr : World) : Prop :=
  ∃ k : Nat, k ≤ n ∧ i = .int .i64 k ∧ Own wr w.heap.size o ((fs.take k).flatMap Fld.enc) ∧ Below w.heap.size w wr

theorem enc_le (w : World) (f : Fld) (h : f.May w) : f.enc.length ≤ 256 := by
  unfold Fld.enc
  rcases h with ⟨h1, _⟩ | ⟨h1, _⟩ | ⟨h1, _⟩ | ⟨h1, _, _, _, _, _, _, h6⟩
  · rw [h1, if_neg (by decide), Ent.be_len]; decide
  · rw [h1, if_neg (by decide), Ent.be_len]; decide
  · rw [h1, if_neg (by decide), Ent.be_len]; decide
  · rw [if_pos h1]; unfold Ent.txt; rw [List.length_append, Ent.be_len]; omega
theorem flat_le (w : World) : ∀ (fs : List Fld), (∀ f ∈ fs, f.May w) → (fs.flatMap Fld.enc).length ≤ fs.length * 256
  | [], _ => by simp
  | f :: r, h => by
    have h1 := enc_le w f (h f (by simp))
    have h2 := flat_le w r (fun x hx => h x (by simp [hx]))
    rw [List.flatMap_cons, List.length_append, List.length_cons]
    omega

set_option maxRecDepth 100000 in
set_option maxHeartbeats 2000000 in
theorem rput_any (g n cap : Nat) (fs : List Fld) (w : World) (hF : Flds w g fs) (hn : fs.length = n) (hl : n ≤ 2000) :
    Calls Tryz.prog 48 #[.slice (some ⟨g, 0, none⟩) n cap] w (OnePost (fs.flatMap Fld.enc) w) := by
  have hmay : ∀ k, ((fs.take k).flatMap Fld.enc).length ≤ 512000 := fun k => by
    have := flat_le w (fs.take k) (fun f hf => by
      obtain ⟨i, hi, rfl⟩ := List.mem_iff_getElem.1 (List.mem_of_mem_take hf)
      exact (hF i hi).1)
    rw [List.length_take] at this
    omega
  have HF := Lib.hid hF
  have HN := Lib.hid hn
  have HMAY := Lib.hid hmay
  clear hF hn hmay
  go_enter Tryz.func48, Tryz.ntmps48
  go_wp2_with fail
  go_loopw [4, 5] (RpR w n fs) (fun _ i _ => n - (intOf i).toNat)
  case atStart => exact ⟨0, by omega, rfl, by rw [List.take_zero]; exact Own.nil _ _, Below.refl _ _⟩
  case round =>
    obtain ⟨k, hk, rfl, hO, hbel⟩ := hrel
    have HO := Lib.hid hO
    have HBE := Lib.hid hbel
    clear hO hbel
    by_cases hlt : k < n
    · have hkl : k < fs.length := by rw [HN.out]; exact hlt
      obtain ⟨f1, f2, f3, f4⟩ := (HF.out.below HBE.out) k hkl
      have C1 := Lib.hid (one_any (fs[k]'hkl) wr f1)
      have hel := enc_le wr _ f1
      have htk : (fs.take (k + 1)).flatMap Fld.enc = (fs.take k).flatMap Fld.enc ++ (fs[k]'hkl).enc := by
        rw [List.take_succ_eq_append_getElem hkl, List.flatMap_append]; simp
      have hT : ∃ A m c, (fs[k]'hkl).T = .slice A m c := by
        rcases f1 with ⟨_, _, h⟩ | ⟨_, _, h⟩ | ⟨_, _, h⟩ | ⟨_, _, A, c, h, _⟩
        · exact ⟨_, _, _, h⟩
        · exact ⟨_, _, _, h⟩
        · exact ⟨_, _, _, h⟩
        · exact ⟨_, _, _, h⟩
      obtain ⟨A0, m0, c0, hT⟩ := hT
      rw [hT] at f4 C1
      have hi1 : (k : Int) < (n : Int) := by omega
      have HTK := Lib.hid htk
      clear htk f1
      generalize (fs[k]'hkl) = f at *
      have hmk := HMAY.out k
      have HMK := Lib.hid hmk
      clear hT hmk
      go_wp2_with fail
      with_reducible refine C1.out.mono ?_
      rintro x w2 ⟨v2, rfl, hO2, hb2⟩
      obtain ⟨A2, c2, rfl, hB2, _, _, hA2⟩ := hO2.slice
      obtain ⟨m2, hm2⟩ : ∃ q, f.enc.length = q := ⟨_, rfl⟩
      rw [hm2] at hB2 hel ⊢
      have HB2 := Lib.hid hB2
      have HA2 := Lib.hid hA2
      have HO1 := Lib.hid (HO.out.belowOwn hb2)
      have BB2 := Lib.hid (HBE.out.trans (hb2.mono HBE.out.size))
      clear hO2 hB2 hA2 hb2 f2 f3 f4 C1
      go_wp2_with (first
        | ((with_reducible refine wpl_append (some 27) _ _ _ (.tmp 25) (.tmp 26) w.heap.size _ ((fs.take k).flatMap Fld.enc) A2 m2 c2 f.enc ?hs ?hx HO1.out HB2.out HA2.out ?hm ?hz ?_); (case hs => rfl); (case hx => rfl); (case hm => (have := HMK.out; omega)); (case hz => exact BB2.out.size); (intro v' w' ho hg hv); (have HO3 := Lib.hid ho); (have HG3 := Lib.hid hg); (clear ho hg hv)))
      go_roundw
      case rel => exact ⟨k + 1, by omega, by go_num, by rw [HTK.out]; exact HO3.out, HO1.out.grows HG3.out BB2.out (Nat.le_refl _) BB2.out.size⟩
      case measure => simp [intOf]; omega
    · have hkn : k = n := by omega
      subst hkn
      have htk : fs.take k = fs := List.take_of_length_le (by rw [HN.out]; exact Nat.le_refl _)
      have HTK := Lib.hid htk
      clear htk
      go_wp2
      go_ret2
      exact ⟨_, rfl, by have := HO.out; rw [HTK.out] at this; exact this, HBE.out⟩

end Go.Proofs.YtpbclmnhkmcknaaGreat.Fe

namespace Go.Proofs.YtpbclmnhkmcknaaGreat
open Go.RowKit
open Fe (Lies Own Bys Reads NF Kx Kp Note)
set_option maxRecDepth 100000
set_option linter.unusedVariables false
set_option linter.unusedSimpArgs false

set_option maxHeartbeats 4000000 in
theorem rencode_any (k : Wk) (A : Option Addr) (c : Nat) (w : World) (hB : Bys w A k.x.length k.x) (hA : A = none → c = 0) (hx : k.x.length ≤ maxLen) :
    Calls Tryz.prog 13 #[.agg #[.int .i64 k.t, .int .i64 k.n, .slice A k.x.length c]] w (EncPost w k) := by
  cases hv : wkB k
  · obtain ⟨t, n, x⟩ := k
    have hv2 : ¬ (1 ≤ t ∧ t ≤ 6 ∧ 0 ≤ n ∧ n ≤ 1000000000 ∧ x.length ≤ 32) := fun h => by rw [(wkB_iff ⟨t, n, x⟩).2 h] at hv; cases hv
    unfold EncPost
    rw [hv]
    dsimp only at *
    clear hB hA hv
    generalize x.length = m at *
    obtain ⟨b1, h1⟩ : ∃ b, decide (t < 1) = b := ⟨_, rfl⟩
    obtain ⟨b2, h2⟩ : ∃ b, decide (6 < t) = b := ⟨_, rfl⟩
    obtain ⟨b3, h3⟩ : ∃ b, decide (n < 0) = b := ⟨_, rfl⟩
    obtain ⟨b4, h4⟩ : ∃ b, decide (1000000000 < n) = b := ⟨_, rfl⟩
    obtain ⟨b5, h5⟩ : ∃ b, decide (32 < (m : Int)) = b := ⟨_, rfl⟩
    have h6 : decide (32 < m) = b5 := by rw [← h5]; exact decide_eq_decide.2 (by omega)
    have hz : b1 || (b2 || (b3 || (b4 || b5))) := by
      rw [← h1, ← h2, ← h3, ← h4, ← h5]
      simp only [Bool.or_eq_true, decide_eq_true_eq]
      omega
    clear hv2
    cases b1 <;> cases b2 <;> cases b3 <;> cases b4 <;> cases b5
    all_goals first
      | (exact absurd hz (by decide))
      | (go_enter Tryz.func13, Tryz.ntmps13; go_wp2; go_ret2; exact ⟨Fe.below1 _ _, .inl ⟨by first | trivial | rfl, rfl⟩⟩)
  · obtain ⟨h1, h2, h3, h4, h5⟩ := (wkB_iff k).1 hv
    obtain ⟨t, n, x⟩ := k
    dsimp only at *
    obtain ⟨tn, rfl⟩ : ∃ tn : Nat, t = (tn : Int) := ⟨t.toNat, by omega⟩
    obtain ⟨nn, rfl⟩ : ∃ nn : Nat, n = (nn : Int) := ⟨n.toNat, by omega⟩
    have HE : Hid (encW ⟨(tn : Int), (nn : Int), x⟩ = [Fe.num 1 tn, Fe.num 4 nn, ⟨0, 0, .slice A x.length c, x⟩].flatMap Fe.Fld.enc) := Lib.hid (by simp [encW, Fe.Fld.enc])
    have e1 : IntKind.u64.wrap (tn : Int) = (tn : Int) := by rw [IntKind.wrap_u64]; omega
    have e2 : IntKind.u64.wrap (nn : Int) = (nn : Int) := by rw [IntKind.wrap_u64]; omega
    have d1 : decide ((tn : Int) < 1) = false := by simp; omega
    have d2 : decide ((6 : Int) < (tn : Int)) = false := by simp; omega
    have d2' : decide (6 < tn) = false := by simp; omega
    have d3 : decide ((nn : Int) < 0) = false := by simp
    have d4 : decide ((1000000000 : Int) < (nn : Int)) = false := by simp; omega
    have d4' : decide (1000000000 < nn) = false := by simp; omega
    have d5 : decide ((32 : Int) < (x.length : Int)) = false := by simp; omega
    have d5' : decide (32 < x.length) = false := by simp; omega
    have d1' : decide (tn < 1) = false := by simp; omega
    have HF : Hid (Fe.Flds ((w.alloc (.cells #[.int .i64 (tn : Int), .int .i64 (nn : Int), .slice A x.length c] 24)).alloc (.cells #[.int .i64 1, .int .u64 (tn : Int), .slice none 0 0, .int .i64 4, .int .u64 (nn : Int), .slice none 0 0, .int .i64 0, .int .u64 0, .slice A x.length c] 101)) (w.heap.size + 1) [Fe.num 1 tn, Fe.num 4 nn, ⟨0, 0, .slice A x.length c, x⟩]) := Lib.hid (by
      have L := Lies.made2 w (.cells #[.int .i64 (tn : Int), .int .i64 (nn : Int), .slice A x.length c] 24) 101 #[.int .i64 1, .int .u64 (tn : Int), .slice none 0 0, .int .i64 4, .int .u64 (nn : Int), .slice none 0 0, .int .i64 0, .int .u64 0, .slice A x.length c]
      intro i hi
      have hi3 : i < 3 := hi
      rcases (by omega : i = 0 ∨ i = 1 ∨ i = 2) with rfl | rfl | rfl
      · exact ⟨.inl ⟨rfl, (show tn < 256 by omega), rfl⟩, L.cell 0, L.cell 1, L.cell 2⟩
      · exact ⟨.inr (.inl ⟨rfl, (show nn < 4294967296 by omega), rfl⟩), L.cell 3, L.cell 4, L.cell 5⟩
      · exact ⟨.inr (.inr (.inr ⟨rfl, rfl, A, c, rfl, hB.below (Fe.below2 w _ _), hA, (show x.length ≤ 255 by omega)⟩)), L.cell 6, L.cell 7, L.cell 8⟩)
    have BB := Lib.hid (Fe.below2 w (.cells #[.int .i64 (tn : Int), .int .i64 (nn : Int), .slice A x.length c] 24) (.cells #[.int .i64 1, .int .u64 (tn : Int), .slice none 0 0, .int .i64 4, .int .u64 (nn : Int), .slice none 0 0, .int .i64 0, .int .u64 0, .slice A x.length c] 101))
    unfold EncPost
    rw [hv]
    clear hv hB hA h1 h2 h3 h4 h5
    go_enter Tryz.func13, Tryz.ntmps13
    go_wp2_with fail
    with_reducible refine (Fe.rput_any (w.heap.size + 1) 3 3 _ _ HF.out rfl (by decide)).mono ?_
    rintro e w2 ⟨v, rfl, ho, hb⟩
    have HO := Lib.hid (ho.mono BB.out.size)
    have B2 := Lib.hid (BB.out.trans (hb.mono BB.out.size))
    clear ho hb
    go_wp2
    go_ret2
    exact ⟨B2.out, .inr ⟨by first | trivial | rfl, v, rfl, by rw [HE.out]; exact HO.out⟩⟩
/-- A note that asks for a work. -/
abbrev stN (ep od : Nat) (st : Int) (un : Bool) (l : List Nat) : Note := ⟨7, ep, 0, 0, 0, od, st, un, 0, [], l⟩
def datW (k : Wk) : List Nat := if wkB k = true then encW k else []
set_option maxHeartbeats 4000000 in
theorem step_any (ep od : Nat) (st : Int) (un : Bool) (k : Wk) (A : Option Addr) (c : Nat) (w : World) (hB : Bys w A k.x.length k.x) (hA : A = none → c = 0) (hx : k.x.length ≤ maxLen) :
    Calls Tryz.prog 40 #[.int .u32 (ep : Int), .int .u32 (od : Int), .int .i64 st, .bool un, .agg #[.int .i64 k.t, .int .i64 k.n, .slice A k.x.length c]] w fun x w' =>
      ∃ A2 c2, x = .returned (.agg (Fe.evs (stN ep od st un (datW k)) (.slice none 0 0) (.slice A2 (datW k).length c2))) ∧ Own w' w.heap.size (.slice A2 (datW k).length c2) (datW k) ∧ Below w.heap.size w w' := by
  have LW := Lib.hid ((Lies.made w 24 #[.int .i64 k.t, .int .i64 k.n, .slice A k.x.length c]).alloc (.cells NZ 55))
  have LR := Lib.hid (Lies.made2 w (.cells #[.int .i64 k.t, .int .i64 k.n, .slice A k.x.length c] 24) 55 NZ)
  have BB := Lib.hid (Fe.below2 w (.cells #[.int .i64 k.t, .int .i64 k.n, .slice A k.x.length c] 24) (.cells NZ 55))
  have CE := Lib.hid (rencode_any k A c _ (hB.below BB.out) hA hx)
  obtain ⟨c0, c1, c2⟩ := LW.out.cells3
  unfold EncPost at CE
  have HDW : Hid (datW k = if wkB k = true then encW k else []) := Lib.hid rfl
  clear hB
  go_enter Tryz.func40, Tryz.ntmps40
  go_wp2_with fail
  with_reducible refine CE.out.mono ?_
  rintro x w2 ⟨hb, ⟨hv, rfl⟩ | ⟨hv, v, rfl, ho⟩⟩
  · have HD0 : Hid (datW k = []) := Lib.hid (by rw [HDW.out, if_neg (by rw [hv]; decide)])
    have LR2 := Lib.hid (LR.out.below hb LR.out.lt)
    have BB2 := Lib.hid (BB.out.trans (hb.mono BB.out.size))
    clear hb hv CE
    obtain ⟨r0, r1, r2, r3, r4, r5, r6, r7, r8, r9, r10⟩ := LR2.out.cells11
    obtain ⟨s0, s1, s2, s3, s4, s5, s6, s7, s8, s9, s10⟩ := LR2.out.free11
    go_wp2
    rw [nest11]
    refine ret_note (w.heap.size + 1) _ rfl rfl (Lies_put11 LR2.out rfl _ _ _ _ _ _ _ _ _ _ _) rfl rfl ?_
    refine ⟨none, 0, by rw [HD0.out]; rfl, by rw [HD0.out]; exact Own.nil _ _, ?_⟩
    exact (put11_chg _ (w.heap.size + 1) _ _ _ _ _ _ _ _ _ _ _).below BB2.out BB2.out.size (fun i hi => by rw [show i = w.heap.size + 1 from hi]; exact Nat.le_succ _)
  · have HD0 : Hid (datW k = encW k) := Lib.hid (by rw [HDW.out, if_pos hv])
    have LR2 := Lib.hid (LR.out.below hb LR.out.lt)
    have BB2 := Lib.hid (BB.out.trans (hb.mono BB.out.size))
    have HO2 := Lib.hid (ho.mono BB.out.size)
    obtain ⟨A2, c2', rfl, -⟩ := ho.slice
    clear hb hv ho CE
    obtain ⟨r0, r1, r2, r3, r4, r5, r6, r7, r8, r9, r10⟩ := LR2.out.cells11
    obtain ⟨s0, s1, s2, s3, s4, s5, s6, s7, s8, s9, s10⟩ := LR2.out.free11
    go_wp2
    rw [nest11]
    refine ret_note (w.heap.size + 1) _ rfl rfl (Lies_put11 LR2.out rfl _ _ _ _ _ _ _ _ _ _ _) rfl rfl ?_
    refine ⟨A2, c2', by rw [HD0.out]; rfl, by rw [HD0.out]; exact Own_same HO2.out fun i hi => (put11_chg _ (w.heap.size + 1) _ _ _ _ _ _ _ _ _ _ _).block i (HO2.out.lt i hi) ((Kb.row HO2.out.1 hi).ne (Kb.of LR2.out) (by decide)), ?_⟩
    exact (put11_chg _ (w.heap.size + 1) _ _ _ _ _ _ _ _ _ _ _).below BB2.out BB2.out.size (fun i hi => by rw [show i = w.heap.size + 1 from hi]; exact Nat.le_succ _)

end Go.Proofs.YtpbclmnhkmcknaaGreat

namespace Go.Proofs.YtpbclmnhkmcknaaGreat
open Go.RowKit
open Fe (Lies Own Bys Reads NF Kx Kp Note)
set_option maxRecDepth 100000
set_option linter.unusedVariables false
set_option linter.unusedSimpArgs false

open Go.ChangeShapes Go.WideShapes
/-- A slice of bytes that came in. -/
def InBytes (w : World) (a : Option Addr) (len cap : Nat) (l : List Nat) : Prop := Bys w a len l ∧ len ≤ cap ∧ cap ≤ maxLen ∧ (a = none → cap = 0)
theorem InBytes.below {w w' : World} {a : Option Addr} {len cap : Nat} {l : List Nat} (h : InBytes w a len cap l) (hb : Below w.heap.size w w') : InBytes w' a len cap l := ⟨h.1.below hb, h.2⟩
theorem i64_bnd {z : Int} (h : (Lit.int IntKind.i64 z).wf = true) : Fe.in64 z := by
  have := bounds_i64 h
  unfold Fe.in64
  omega

/-- An ask. -/
structure Ax where
  e : Nat
  o : Nat
  s : Int
  u : Bool
  k : Wk
  A : Option Addr
  c : Nat
  r : List Nat
  B : Option Addr
  d : Nat
abbrev ax8 (x : Ax) : Array Value := #[.int .u32 (x.e : Int), .int .u32 (x.o : Int), .int .i64 x.s, .bool x.u, .int .i64 x.k.t, .int .i64 x.k.n, .slice x.A x.k.x.length x.c, .slice x.B x.r.length x.d]
structure AT (w : World) (x : Ax) : Prop where
  e : x.e < 4294967296
  o : x.o < 4294967296
  s : Fe.in64 x.s
  t : Fe.in64 x.k.t
  n : Fe.in64 x.k.n
  kx : InBytes w x.A x.k.x.length x.c x.k.x
  rr : InBytes w x.B x.r.length x.d x.r
theorem AT.below {w w' : World} {x : Ax} (h : AT w x) (hb : Below w.heap.size w w') : AT w' x := ⟨h.e, h.o, h.s, h.t, h.n, h.kx.below hb, h.rr.below hb⟩
def As (w : World) (A : Option Addr) (n : Nat) (X : Nat → Ax) : Prop :=
  (0 < n → ∃ b off, A = some ⟨b, off, none⟩ ∧ ∀ i, i < n → ∀ j, j < 8 → w.cell? ⟨b, off + i * 8 + j, none⟩ = (ax8 (X i)).toList[j]?) ∧ ∀ i, i < n → AT w (X i)
theorem As.below {w w' : World} {A : Option Addr} {n : Nat} {X : Nat → Ax} (h : As w A n X) (hb : Below w.heap.size w w') : As w' A n X := by
  refine ⟨fun h0 => ?_, fun i hi => (h.2 i hi).below hb⟩
  obtain ⟨b, off, e, hc⟩ := h.1 h0
  refine ⟨b, off, e, fun i hi j hj => ?_⟩
  have := hc i hi j hj
  have hs : (ax8 (X i)).toList[j]? = some ((ax8 (X i)).toList[j]'(by simpa using hj)) := List.getElem?_eq_getElem _
  rw [hs] at this ⊢
  rw [hb.cell (block_lt_of_cell this)]
  exact this
theorem As.at {w : World} {b off n : Nat} {X : Nat → Ax} (h : As w (some ⟨b, off, none⟩) n X) (i : Nat) (hi : i < n) :
    w.cell? ⟨b, off + i * 8, none⟩ = some (.int .u32 ((X i).e : Int)) ∧ w.cell? ⟨b, off + i * 8 + 1, none⟩ = some (.int .u32 ((X i).o : Int)) ∧ w.cell? ⟨b, off + i * 8 + 2, none⟩ = some (.int .i64 (X i).s) ∧ w.cell? ⟨b, off + i * 8 + 3, none⟩ = some (.bool (X i).u) ∧ w.cell? ⟨b, off + i * 8 + 4, none⟩ = some (.int .i64 (X i).k.t) ∧ w.cell? ⟨b, off + i * 8 + 5, none⟩ = some (.int .i64 (X i).k.n) ∧ w.cell? ⟨b, off + i * 8 + 6, none⟩ = some (.slice (X i).A (X i).k.x.length (X i).c) ∧ w.cell? ⟨b, off + i * 8 + 7, none⟩ = some (.slice (X i).B (X i).r.length (X i).d) := by
  obtain ⟨b', off', e, hc⟩ := h.1 (by omega)
  injection e with e
  injection e with e1 e2 _
  subst e1 e2
  exact ⟨hc i hi 0 (by omega), hc i hi 1 (by omega), hc i hi 2 (by omega), hc i hi 3 (by omega), hc i hi 4 (by omega), hc i hi 5 (by omega), hc i hi 6 (by omega), hc i hi 7 (by omega)⟩
/-- A list of asks that came in. -/
def AV (w : World) (A : Option Addr) (n c : Nat) (X : Nat → Ax) : Prop := n ≤ c ∧ c ≤ maxLen ∧ (A = none → c = 0) ∧ As w A n X
theorem AV.below {w w' : World} {A : Option Addr} {n c : Nat} {X : Nat → Ax} (h : AV w A n c X) (hb : Below w.heap.size w w') : AV w' A n c X := by
  obtain ⟨h1, h2, h3, h4⟩ := h
  exact ⟨h1, h2, h3, h4.below hb⟩
section
variable {H : Type} {enc : TypeId × Value → H} {w : World}
theorem in_bytes {fuel : Nat} {c : Value} {x : DataW H × List MemPlace} (h : DataW.trod enc Tryz.prog w 0 (fun _ => true) true fuel 22 [c] = some x) : ∃ a len cap l, c = .slice a len cap ∧ InBytes w a len cap l := by
  rcases open_ints Tryz.underlying22 Tryz.underlying5 (by kernel_rfl) h with ⟨hcs, _⟩ | ⟨x, l, c', zs, hcs, _, hl, hm, hz, _, hcell, hwz⟩
  · simp only [List.cons.injEq, and_true] at hcs
    obtain ⟨q, hq⟩ := Fe.IsRow.bys (w := w) (zs := []) (.inl ⟨rfl, rfl, rfl, rfl⟩)
    exact ⟨_, _, _, q, hcs, hq⟩
  · simp only [List.cons.injEq, and_true] at hcs
    obtain ⟨q, hq⟩ := Fe.IsRow.bys (w := w) (a := some x) (len := l) (cap := c') (zs := zs) (.inr ⟨_, rfl, hl, hm, by simpa using hz, hcell, hwz⟩)
    exact ⟨_, _, _, q, hcs, hq⟩
theorem in_u32 {fuel : Nat} {c : Value} {x : DataW H × List MemPlace} (h : DataW.trod enc Tryz.prog w 0 (fun _ => true) true fuel 52 [c] = some x) : ∃ n : Nat, c = .int .u32 (n : Nat) ∧ n < 4294967296 := by
  obtain ⟨z, h1, _, h2⟩ := DataW.trod_int Tryz.underlying52 h
  simp only [List.cons.injEq, and_true] at h1
  have := bounds_u32 h2
  exact ⟨z.toNat, by rw [h1, Int.toNat_of_nonneg this.1], by omega⟩
theorem in_i64 {fuel : Nat} {c : Value} {x : DataW H × List MemPlace} (h : DataW.trod enc Tryz.prog w 0 (fun _ => true) true fuel 3 [c] = some x) : ∃ z : Int, c = .int .i64 z ∧ Fe.in64 z := by
  obtain ⟨z, h1, _, h2⟩ := DataW.trod_int Tryz.underlying3 h
  simp only [List.cons.injEq, and_true] at h1
  exact ⟨z, h1, i64_bnd h2⟩
theorem in_bool {fuel : Nat} {c : Value} {x : DataW H × List MemPlace} (h : DataW.trod enc Tryz.prog w 0 (fun _ => true) true fuel 4 [c] = some x) : ∃ b : Bool, c = .bool b := by
  obtain ⟨b, h1, _⟩ := DataW.trod_bool Tryz.underlying4 h
  simp only [List.cons.injEq, and_true] at h1
  exact ⟨b, h1⟩

set_option maxRecDepth 100000 in
theorem in_work {fuel : Nat} {cs : List Value} {x : DataW H × List MemPlace} (h : DataW.trod enc Tryz.prog w 0 (fun _ => true) true fuel 24 cs = some x) :
    ∃ (k : Wk) (A : Option Addr) (c : Nat), cs = [.int .i64 k.t, .int .i64 k.n, .slice A k.x.length c] ∧ Fe.in64 k.t ∧ Fe.in64 k.n ∧ InBytes w A k.x.length c k.x := by
  have k3 : Tryz.prog.cellsOf 3 = 1 := by kernel_rfl
  have k22 : Tryz.prog.cellsOf 22 = 1 := by kernel_rfl
  have k24 : Tryz.prog.cellsOf 24 = 3 := by kernel_rfl
  obtain ⟨xs, n, _, _, hlen, hxl, hg⟩ := DataW.trod_struct Tryz.underlying24 h
  rw [k24] at hlen
  match cs, hlen, xs, hxl with
  | [c0, c1, c2], _, [y0, y1, y2], _ =>
    have t0 : DataW.trod enc Tryz.prog w 0 (fun _ => true) true n 3 [c0] = some y0 := by
      have := hg 0 _ rfl
      change DataW.trod enc Tryz.prog w 0 (fun _ => true) true n 3 (([c0, c1, c2].drop 0).take (Tryz.prog.cellsOf 3)) = some y0 at this
      rw [k3] at this
      exact this
    have t1 : DataW.trod enc Tryz.prog w 0 (fun _ => true) true n 3 [c1] = some y1 := by
      have := hg 1 _ rfl
      change DataW.trod enc Tryz.prog w 0 (fun _ => true) true n 3 (([c0, c1, c2].drop 1).take (Tryz.prog.cellsOf 3)) = some y1 at this
      rw [k3] at this
      exact this
    have t2 : DataW.trod enc Tryz.prog w 0 (fun _ => true) true n 22 [c2] = some y2 := by
      have := hg 2 _ rfl
      change DataW.trod enc Tryz.prog w 0 (fun _ => true) true n 22 (([c0, c1, c2].drop 2).take (Tryz.prog.cellsOf 22)) = some y2 at this
      rw [k22] at this
      exact this
    obtain ⟨z0, rfl, b0⟩ := in_i64 t0
    obtain ⟨z1, rfl, b1⟩ := in_i64 t1
    obtain ⟨A1, n1, d1, l1, rfl, h1, h2, h3, h4⟩ := in_bytes t2
    have e1 := h1.1
    subst e1
    exact ⟨⟨z0, z1, l1⟩, A1, d1, rfl, b0, b1, h1, h2, h3, h4⟩
set_option maxRecDepth 100000 in
theorem in_ask {fuel : Nat} {cs : List Value} {x : DataW H × List MemPlace} (h : DataW.trod enc Tryz.prog w 0 (fun _ => true) true fuel 57 cs = some x) :
    ∃ y : Ax, cs = (ax8 y).toList ∧ AT w y := by
  have k3 : Tryz.prog.cellsOf 3 = 1 := by kernel_rfl
  have k4 : Tryz.prog.cellsOf 4 = 1 := by kernel_rfl
  have k52 : Tryz.prog.cellsOf 52 = 1 := by kernel_rfl
  have k22 : Tryz.prog.cellsOf 22 = 1 := by kernel_rfl
  have k24 : Tryz.prog.cellsOf 24 = 3 := by kernel_rfl
  have k57 : Tryz.prog.cellsOf 57 = 8 := by kernel_rfl
  obtain ⟨xs, n, _, _, hlen, hxl, hg⟩ := DataW.trod_struct Tryz.underlying57 h
  rw [k57] at hlen
  match cs, hlen, xs, hxl with
  | [c0, c1, c2, c3, c4, c5, c6, c7], _, [y0, y1, y2, y3, y4, y5], _ =>
    have t0 : DataW.trod enc Tryz.prog w 0 (fun _ => true) true n 52 [c0] = some y0 := by
      have := hg 0 _ rfl
      change DataW.trod enc Tryz.prog w 0 (fun _ => true) true n 52 (([c0, c1, c2, c3, c4, c5, c6, c7].drop 0).take (Tryz.prog.cellsOf 52)) = some y0 at this
      rw [k52] at this
      exact this
    have t1 : DataW.trod enc Tryz.prog w 0 (fun _ => true) true n 52 [c1] = some y1 := by
      have := hg 1 _ rfl
      change DataW.trod enc Tryz.prog w 0 (fun _ => true) true n 52 (([c0, c1, c2, c3, c4, c5, c6, c7].drop 1).take (Tryz.prog.cellsOf 52)) = some y1 at this
      rw [k52] at this
      exact this
    have t2 : DataW.trod enc Tryz.prog w 0 (fun _ => true) true n 3 [c2] = some y2 := by
      have := hg 2 _ rfl
      change DataW.trod enc Tryz.prog w 0 (fun _ => true) true n 3 (([c0, c1, c2, c3, c4, c5, c6, c7].drop 2).take (Tryz.prog.cellsOf 3)) = some y2 at this
      rw [k3] at this
      exact this
    have t3 : DataW.trod enc Tryz.prog w 0 (fun _ => true) true n 4 [c3] = some y3 := by
      have := hg 3 _ rfl
      change DataW.trod enc Tryz.prog w 0 (fun _ => true) true n 4 (([c0, c1, c2, c3, c4, c5, c6, c7].drop 3).take (Tryz.prog.cellsOf 4)) = some y3 at this
      rw [k4] at this
      exact this
    have t4 : DataW.trod enc Tryz.prog w 0 (fun _ => true) true n 24 [c4, c5, c6] = some y4 := by
      have := hg 4 _ rfl
      change DataW.trod enc Tryz.prog w 0 (fun _ => true) true n 24 (([c0, c1, c2, c3, c4, c5, c6, c7].drop 4).take (Tryz.prog.cellsOf 24)) = some y4 at this
      rw [k24] at this
      exact this
    have t5 : DataW.trod enc Tryz.prog w 0 (fun _ => true) true n 22 [c7] = some y5 := by
      have := hg 5 _ rfl
      change DataW.trod enc Tryz.prog w 0 (fun _ => true) true n 22 (([c0, c1, c2, c3, c4, c5, c6, c7].drop 7).take (Tryz.prog.cellsOf 22)) = some y5 at this
      rw [k22] at this
      exact this
    obtain ⟨z0, rfl, b0⟩ := in_u32 t0
    obtain ⟨z1, rfl, b1⟩ := in_u32 t1
    obtain ⟨z2, rfl, b2⟩ := in_i64 t2
    obtain ⟨z3, rfl⟩ := in_bool t3
    obtain ⟨k, A, c, hk, b4, b5, h6⟩ := in_work t4
    simp only [List.cons.injEq, and_true] at hk
    obtain ⟨rfl, rfl, rfl⟩ := hk
    obtain ⟨A1, n1, d1, l1, rfl, h1, h2, h3, h4⟩ := in_bytes t5
    have e1 := h1.1
    subst e1
    exact ⟨⟨z0, z1, z2, z3, k, A, c, l1, A1, d1⟩, rfl, ⟨b0, b1, b2, b4, b5, h6, h1, h2, h3, h4⟩⟩
set_option maxRecDepth 100000 in
theorem in_asks {v0 : Option Addr} {n0 c0 : Nat} {d : DataW H} {p : List MemPlace} (h : DataW.Trod enc Tryz.prog w 0 (fun _ => true) true 44 (.slice v0 n0 c0) d p) : ∃ X, AV w v0 n0 c0 X := by
  obtain ⟨fuel, hf⟩ := h
  have k57 : Tryz.prog.cellsOf 57 = 8 := by kernel_rfl
  have hf' : DataW.trod enc Tryz.prog w 0 (fun _ => true) true fuel 44 [.slice v0 n0 c0] = some (d, p) := hf
  rcases Deep.open_slice Tryz.underlying44 hf' with ⟨hcs, _⟩ | ⟨x, l, c, m, n, D, Pl, hcs, _, hl, hm, hmm, _, hi⟩
  · simp at hcs
    obtain ⟨rfl, rfl, rfl⟩ := hcs
    exact ⟨fun _ => ⟨0, 0, 0, false, ⟨0, 0, []⟩, none, 0, [], none, 0⟩, Nat.le_refl _, by unfold maxLen; omega, fun _ => rfl, fun h => absurd h (Nat.lt_irrefl 0), fun i hi => absurd hi (Nat.not_lt_zero i)⟩
  · simp at hcs
    obtain ⟨rfl, rfl, rfl⟩ := hcs
    have hm2 : m = c0 := by rw [hmm]; rfl
    subst hm2
    have each : ∀ i, i < n0 → ∃ y : Ax, AT w y ∧ ∀ j v, (ax8 y).toList[j]? = some v → w.cell? (x.add (i * 8 + j)) = some v := fun i hi2 => by
      obtain ⟨cs', hc, ht⟩ := hi i (by omega)
      rw [k57] at hc
      obtain ⟨y, h1, h2⟩ := in_ask ht
      obtain ⟨_, hcl, hat⟩ := World.cells?_some hc
      refine ⟨y, h2, fun j v hj => ?_⟩
      rw [← h1] at hj
      have hjl : j < 8 := by have := (List.getElem?_eq_some_iff.1 hj).1; omega
      rw [← Go.Deep.add_add, hat j hjl, hj]
    have zy : Ax := ⟨0, 0, 0, false, ⟨0, 0, []⟩, none, 0, [], none, 0⟩
    obtain ⟨X, hX⟩ : ∃ X : Nat → Ax, ∀ i, i < n0 → AT w (X i) ∧ ∀ j v, (ax8 (X i)).toList[j]? = some v → w.cell? (x.add (i * 8 + j)) = some v :=
      ⟨fun i => if h : i < n0 then (each i h).choose else zy, fun i hi2 => by dsimp only; rw [dif_pos hi2]; exact (each i hi2).choose_spec⟩
    refine ⟨X, hl, hm, (fun h => by cases h), fun h0 => ?_, fun i hi2 => (hX i hi2).1⟩
    obtain ⟨b, off, spot⟩ := x
    have hspot : spot = none := by
      have := (hX 0 h0).2 0 _ rfl
      simpa [Addr.add] using World.cell?_spot this
    subst hspot
    refine ⟨b, off, rfl, fun i hi2 j hj => ?_⟩
    have hs : (ax8 (X i)).toList[j]? = some ((ax8 (X i)).toList[j]'(by simpa using hj)) := List.getElem?_eq_getElem _
    have := (hX i hi2).2 j _ hs
    rw [Fe.add_off, ← Nat.add_assoc] at this
    rw [this, hs]
end

end Go.Proofs.YtpbclmnhkmcknaaGreat
