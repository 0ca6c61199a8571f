/-
  The contract of the document's 'fields': for every entry.
-/
import Derived.Test.YtccpmalefdnhdaaEntVal
import Derived.Test.YtccpmalefdnhdaaWA
import Derived.IntWalk
namespace Go.Proofs.Ytccpmalefdnhdaa
open Go.RowKit
set_option linter.unusedSimpArgs false
set_option linter.unusedVariables false

/-- A row of fields, three cells each, in a block of its own. -/
abbrev FRow (w : World) (B : Nat) (v : Value) (n : Nat) (xs : List Value) : Prop := w.ownsRow B 92 3 v n xs
theorem frow_ne {w : World} {B p : Nat} {v : Value} {n : Nat} {xs : List Value} {t : TypeId} {cs : Array Value} (h : FRow w B v n xs) (hp : Lies w p t cs) (ht : t ≠ 92) : some p ≠ v.ownBlock := by
  rcases h.2 with ⟨rfl, _⟩ | ⟨g, cap, cur, rfl, _, hg, _⟩
  · simp [Value.ownBlock]
  · intro e
    have : p = g := by simpa [Value.ownBlock] using e
    subst this
    unfold Lies at hp
    rw [hg] at hp
    injection hp with hp
    injection hp with _ h2
    exact ht h2.symm
theorem frow_block {w : World} {B : Nat} {v : Value} {n : Nat} {xs : List Value} (h : FRow w B v n xs) : ∀ k, v.ownBlock = some k → B ≤ k := by
  intro k hk
  rcases h.2 with ⟨rfl, _⟩ | ⟨g, cap, cur, rfl, hb, _⟩
  · cases hk
  · simp [Value.ownBlock] at hk; omega
theorem frow_alloc {w : World} {B : Nat} {v : Value} {n : Nat} {xs : List Value} (h : FRow w B v n xs) (o : Obj) : FRow (w.alloc o) B v n xs := by
  obtain ⟨h0, h1⟩ := h
  refine ⟨h0, ?_⟩
  rcases h1 with h1 | ⟨g, cap, cur, hv, hg0, hg, hr⟩
  · exact .inl h1
  · exact .inr ⟨g, cap, cur, hv, hg0, Lies.alloc hg o, hr⟩
theorem frow_mono {w : World} {B B' : Nat} {v : Value} {n : Nat} {xs : List Value} (h : FRow w B v n xs) (hb : B' ≤ B) : FRow w B' v n xs := by
  obtain ⟨h0, h1⟩ := h
  refine ⟨h0, ?_⟩
  rcases h1 with h1 | ⟨g, cap, cur, hv, hg, hr⟩
  · exact .inl h1
  · exact .inr ⟨g, cap, cur, hv, Nat.le_trans hb hg, hr⟩
theorem frow_made {w : World} {B g n : Nat} {C : Array Value} (h : Lies w g 92 C) (hB : B ≤ g) (hn : C.size = n * 3) (hm : n ≤ 1000) : FRow w B (.slice (some ⟨g, 0, none⟩) n n) n C.toList :=
  ⟨by simp [hn], .inr ⟨g, n, C, rfl, hB, h, Nat.le_refl _, by unfold maxLen; omega, hn, List.take_of_length_le (by rw [Array.length_toList, hn]; exact Nat.le_refl _)⟩⟩

set_option maxRecDepth 100000 in
/-- 'append' of fields onto a row of the call's own. -/
theorem wpl_appendF {ops : Array Oper} {rest : List Oper} {a : Act} {w : World} {Q : Exit → Act → World → Prop} (dst : Option Tmp) (ty : TypeId) (pos : String) (aft : Array Edge) (s x : Operand)
    (B : Nat) (v : Value) (n : Nat) (xs : List Value) (g m : Nat) (C : Array Value)
    (hs : a.eval s = v) (hx : a.eval x = .slice (some ⟨g, 0, none⟩) m m) (hown : FRow w B v n xs) (hg : Lies w g 92 C) (hC : C.size = m * 3) (hone : ∀ u ∈ C.toList, u.oneCell' = true) (hsm : n + m ≤ 100) (hB : B ≤ w.heap.size)
    (h : ∀ v' w', FRow w' B v' (n + m) (xs ++ C.toList) → w.grownBy w' v.ownBlock → wpList Try.prog ops Q rest (a.put dst v') w') :
    wpList Try.prog ops Q (⟨dst, .call { callee := .builtin .append, args := #[s, x], argTypes := #[69, 69] }, ty, pos, aft, none⟩ :: rest) a w := by
  refine wpList_append_own_at (w := w) (o := ⟨dst, .call { callee := .builtin .append, args := #[s, x], argTypes := #[69, 69] }, ty, pos, aft, none⟩) rfl s x 69 rfl B 92 _ (.agg #[.int .i64 0, .int .u64 0, .slice none 0 0]) 3 40 Try.underlying69 Try.type92 rfl rfl rfl rfl (by decide) v n xs hs hown
      ⟨g, 0, none⟩ m m C.toList hx (by simp [hC]) ?_ hone (by unfold maxLen; omega) (by omega) hB ?_
  · intro j u hu
    rw [add_off, Nat.zero_add, hg.cell]
    simpa using hu
  · intro v' w' h1 h2 _ _
    exact h v' w' h1 h2

/-- A field: its size, its number, its text. -/
structure Fld where
  size : Nat
  n : Nat
  T : Value
  t : List Nat
def Fld.cells (f : Fld) : List Value := [.int .i64 (f.size : Nat), .int .u64 (f.n : Nat), f.T]
def Fld.enc (f : Fld) : List Nat := if f.size = 0 then Ent.txt f.t else Ent.be f.size f.n
/-- It may be a field, and lies there. -/
structure Fld.Good (w : World) (f : Fld) : Prop where
  s : f.size = 0 ∨ f.size = 1 ∨ f.size = 4 ∨ f.size = 8
  n : f.n < 256 ^ f.size
  T : ∃ A c, f.T = .slice A f.t.length c ∧ Bys w A f.t.length f.t ∧ (A = none → c = 0)
  t : f.size ≠ 0 → f.t = []
  l : f.t.length ≤ 255
def okF (e : Entry) : Bool :=
  if e.kind = 1 then true
  else if e.kind = 2 then decide (1 ≤ e.order ∧ 1 ≤ e.key.length ∧ e.key.length ≤ 32 ∧ e.data.length ≤ 200)
  else if e.kind = 3 then decide (1 ≤ e.order ∧ 0 ≤ e.step ∧ e.step ≤ 15 ∧ 1 ≤ e.tri ∧ e.tri ≤ 255)
  else if e.kind = 4 then decide (1 ≤ e.order ∧ 0 ≤ e.step ∧ e.step ≤ 15 ∧ 1 ≤ e.tri ∧ e.tri ≤ 255 ∧ 1 ≤ e.code ∧ e.code ≤ 3)
  else if e.kind = 5 then decide (1 ≤ e.order ∧ 1 ≤ e.code ∧ e.code ≤ 3)
  else if e.kind = 6 then decide (e.code = 1 ∨ e.code = 2)
  else if e.kind = 7 then decide (e.mark < e.lsn)
  else false
abbrev num (s n : Nat) : Fld := ⟨s, n, .slice none 0 0, []⟩
/-- What a kind names, as fields. -/
def fldsOf (e : Entry) (K D : Value) : List Fld :=
  [num 1 e.kind.toNat, num 8 e.lsn, num 4 e.epoch] ++
  (if e.kind = 2 then [num 4 e.order, ⟨0, 0, K, e.key⟩, ⟨0, 0, D, e.data⟩]
   else if e.kind = 3 then [num 4 e.order, num 1 e.step.toNat, num 1 (Ent.b2n e.undo), num 1 e.tri.toNat]
   else if e.kind = 4 then [num 4 e.order, num 1 e.step.toNat, num 1 (Ent.b2n e.undo), num 1 e.tri.toNat, num 1 e.code.toNat]
   else if e.kind = 5 then [num 4 e.order, num 1 e.code.toNat]
   else if e.kind = 6 then [num 1 e.code.toNat]
   else if e.kind = 7 then [num 8 e.mark]
   else [])
def FldsPost (e : Entry) (K D : Value) (w : World) (x : Ending) (w' : World) : Prop :=
  ∃ v, x = .returned (.tuple #[v, .bool (okF e)]) ∧ Below w.heap.size w w' ∧ (okF e = true → FRow w' w.heap.size v (fldsOf e K D).length ((fldsOf e K D).flatMap Fld.cells))

set_option maxRecDepth 100000 in
set_option maxHeartbeats 4000000 in
theorem flds1_0_f (e : Entry) (A1 A2 : Option Addr) (c1 c2 : Nat) (w : World) (hV : EntV w e A1 A2 c1 c2) (hkd : e.kind = 1) (hun : e.undo = false) :
    Calls Try.prog 37 #[.agg (evs e (.slice A1 e.key.length c1) (.slice A2 e.data.length c2))] w (FldsPost e (.slice A1 e.key.length c1) (.slice A2 e.data.length c2) w) := by
  have hokf : okF e = true := by unfold okF; rw [hkd]; rfl
  unfold FldsPost
  rw [hokf]
  have hfl : (fldsOf e (.slice A1 e.key.length c1) (.slice A2 e.data.length c2)) = (fldsOf e (.slice A1 e.key.length c1) (.slice A2 e.data.length c2)) := rfl
  obtain ⟨n1, h_n1⟩ : ∃ q, e.key.length = q := ⟨_, rfl⟩
  obtain ⟨n2, h_n2⟩ : ∃ q, e.data.length = q := ⟨_, rfl⟩
  obtain ⟨od, h_od⟩ : ∃ q, e.order = q := ⟨_, rfl⟩
  obtain ⟨st, h_st⟩ : ∃ q, e.step = q := ⟨_, rfl⟩
  obtain ⟨tr, h_tr⟩ : ∃ q, e.tri = q := ⟨_, rfl⟩
  obtain ⟨cd, h_cd⟩ : ∃ q, e.code = q := ⟨_, rfl⟩
  obtain ⟨mk, h_mk⟩ : ∃ q, e.mark = q := ⟨_, rfl⟩
  obtain ⟨ls, h_ls⟩ : ∃ q, e.lsn = q := ⟨_, rfl⟩
  have hls := hV.b.lsn
  have hod := hV.b.order
  have hmk := hV.b.mark
  have hepb := hV.b.epoch
  obtain ⟨ep, h_ep⟩ : ∃ q, e.epoch = q := ⟨_, rfl⟩
  rw [h_ls] at hls
  rw [h_od] at hod
  rw [h_mk] at hmk
  rw [h_ep] at hepb
  have hfe : fldsOf e (.slice A1 e.key.length c1) (.slice A2 e.data.length c2) = [num 1 1, num 8 ls, num 4 ep] := by
    unfold fldsOf; rw [hkd, h_ls, h_ep, h_n1, h_n2]; simp [num, h_od, h_mk, hun, Ent.b2n]
  clear hfl
  unfold evs
  rw [h_n1, h_n2, h_ls, h_ep, h_od, h_st, h_tr, h_cd, h_mk, hun, hkd]
  rw [h_n1, h_n2] at hfe
  rw [hfe]
  clear hV hokf h_n1 h_n2 h_ls h_ep h_od h_st h_tr h_cd h_mk hun hkd hfe
  go_enter Try.func37, Try.ntmps37
  go_wp2
  go_ret2
  exact ⟨_, rfl, (((Below.refl w.heap.size w).alloc (Nat.le_refl _) _).alloc (by simp) _).alloc (by simp; omega) _, fun _ => frow_made ((Lies.made2 w _ 92 _).alloc _) (by omega) rfl (by omega)⟩

set_option maxRecDepth 100000 in
set_option maxHeartbeats 4000000 in
theorem flds1_0_t (e : Entry) (A1 A2 : Option Addr) (c1 c2 : Nat) (w : World) (hV : EntV w e A1 A2 c1 c2) (hkd : e.kind = 1) (hun : e.undo = true) :
    Calls Try.prog 37 #[.agg (evs e (.slice A1 e.key.length c1) (.slice A2 e.data.length c2))] w (FldsPost e (.slice A1 e.key.length c1) (.slice A2 e.data.length c2) w) := by
  have hokf : okF e = true := by unfold okF; rw [hkd]; rfl
  unfold FldsPost
  rw [hokf]
  have hfl : (fldsOf e (.slice A1 e.key.length c1) (.slice A2 e.data.length c2)) = (fldsOf e (.slice A1 e.key.length c1) (.slice A2 e.data.length c2)) := rfl
  obtain ⟨n1, h_n1⟩ : ∃ q, e.key.length = q := ⟨_, rfl⟩
  obtain ⟨n2, h_n2⟩ : ∃ q, e.data.length = q := ⟨_, rfl⟩
  obtain ⟨od, h_od⟩ : ∃ q, e.order = q := ⟨_, rfl⟩
  obtain ⟨st, h_st⟩ : ∃ q, e.step = q := ⟨_, rfl⟩
  obtain ⟨tr, h_tr⟩ : ∃ q, e.tri = q := ⟨_, rfl⟩
  obtain ⟨cd, h_cd⟩ : ∃ q, e.code = q := ⟨_, rfl⟩
  obtain ⟨mk, h_mk⟩ : ∃ q, e.mark = q := ⟨_, rfl⟩
  obtain ⟨ls, h_ls⟩ : ∃ q, e.lsn = q := ⟨_, rfl⟩
  have hls := hV.b.lsn
  have hod := hV.b.order
  have hmk := hV.b.mark
  have hepb := hV.b.epoch
  obtain ⟨ep, h_ep⟩ : ∃ q, e.epoch = q := ⟨_, rfl⟩
  rw [h_ls] at hls
  rw [h_od] at hod
  rw [h_mk] at hmk
  rw [h_ep] at hepb
  have hfe : fldsOf e (.slice A1 e.key.length c1) (.slice A2 e.data.length c2) = [num 1 1, num 8 ls, num 4 ep] := by
    unfold fldsOf; rw [hkd, h_ls, h_ep, h_n1, h_n2]; simp [num, h_od, h_mk, hun, Ent.b2n]
  clear hfl
  unfold evs
  rw [h_n1, h_n2, h_ls, h_ep, h_od, h_st, h_tr, h_cd, h_mk, hun, hkd]
  rw [h_n1, h_n2] at hfe
  rw [hfe]
  clear hV hokf h_n1 h_n2 h_ls h_ep h_od h_st h_tr h_cd h_mk hun hkd hfe
  go_enter Try.func37, Try.ntmps37
  go_wp2
  go_ret2
  exact ⟨_, rfl, (((Below.refl w.heap.size w).alloc (Nat.le_refl _) _).alloc (by simp) _).alloc (by simp; omega) _, fun _ => frow_made ((Lies.made2 w _ 92 _).alloc _) (by omega) rfl (by omega)⟩

set_option maxRecDepth 100000 in
set_option maxHeartbeats 4000000 in
theorem flds0_0_f (e : Entry) (A1 A2 : Option Addr) (c1 c2 : Nat) (w : World) (hV : EntV w e A1 A2 c1 c2) (hkd : e.kind < 1 ∨ 7 < e.kind) (hun : e.undo = false) :
    Calls Try.prog 37 #[.agg (evs e (.slice A1 e.key.length c1) (.slice A2 e.data.length c2))] w (FldsPost e (.slice A1 e.key.length c1) (.slice A2 e.data.length c2) w) := by
  have hokf : okF e = false := by unfold okF; rw [if_neg (by omega), if_neg (by omega), if_neg (by omega), if_neg (by omega), if_neg (by omega), if_neg (by omega), if_neg (by omega)]
  unfold FldsPost
  rw [hokf]
  obtain ⟨n1, h_n1⟩ : ∃ q, e.key.length = q := ⟨_, rfl⟩
  obtain ⟨n2, h_n2⟩ : ∃ q, e.data.length = q := ⟨_, rfl⟩
  obtain ⟨od, h_od⟩ : ∃ q, e.order = q := ⟨_, rfl⟩
  obtain ⟨st, h_st⟩ : ∃ q, e.step = q := ⟨_, rfl⟩
  obtain ⟨tr, h_tr⟩ : ∃ q, e.tri = q := ⟨_, rfl⟩
  obtain ⟨cd, h_cd⟩ : ∃ q, e.code = q := ⟨_, rfl⟩
  obtain ⟨mk, h_mk⟩ : ∃ q, e.mark = q := ⟨_, rfl⟩
  obtain ⟨ls, h_ls⟩ : ∃ q, e.lsn = q := ⟨_, rfl⟩
  have hls := hV.b.lsn
  have hod := hV.b.order
  have hmk := hV.b.mark
  have hepb := hV.b.epoch
  obtain ⟨ep, h_ep⟩ : ∃ q, e.epoch = q := ⟨_, rfl⟩
  rw [h_ls] at hls
  rw [h_od] at hod
  rw [h_mk] at hmk
  rw [h_ep] at hepb
  unfold evs
  rw [h_n1, h_n2, h_ls, h_ep, h_od, h_st, h_tr, h_cd, h_mk, hun]
  obtain ⟨kd, h_kd⟩ : ∃ q, e.kind = q := ⟨_, rfl⟩
  rw [h_kd] at hkd ⊢
  have bk1 : (kd == 1) = false := by rw [beq_eq_false_iff_ne]; omega
  have bk2 : (kd == 2) = false := by rw [beq_eq_false_iff_ne]; omega
  have bk3 : (kd == 3) = false := by rw [beq_eq_false_iff_ne]; omega
  have bk4 : (kd == 4) = false := by rw [beq_eq_false_iff_ne]; omega
  have bk5 : (kd == 5) = false := by rw [beq_eq_false_iff_ne]; omega
  have bk6 : (kd == 6) = false := by rw [beq_eq_false_iff_ne]; omega
  have bk7 : (kd == 7) = false := by rw [beq_eq_false_iff_ne]; omega
  clear hV hokf h_n1 h_n2 h_ls h_ep h_od h_st h_tr h_cd h_mk hun h_kd
  go_enter Try.func37, Try.ntmps37
  go_wp2
  go_ret2
  exact ⟨_, rfl, (((Below.refl w.heap.size w).alloc (Nat.le_refl _) _).alloc (by simp) _).alloc (by simp; omega) _, fun h => by cases h⟩

set_option maxRecDepth 100000 in
set_option maxHeartbeats 4000000 in
theorem flds0_0_t (e : Entry) (A1 A2 : Option Addr) (c1 c2 : Nat) (w : World) (hV : EntV w e A1 A2 c1 c2) (hkd : e.kind < 1 ∨ 7 < e.kind) (hun : e.undo = true) :
    Calls Try.prog 37 #[.agg (evs e (.slice A1 e.key.length c1) (.slice A2 e.data.length c2))] w (FldsPost e (.slice A1 e.key.length c1) (.slice A2 e.data.length c2) w) := by
  have hokf : okF e = false := by unfold okF; rw [if_neg (by omega), if_neg (by omega), if_neg (by omega), if_neg (by omega), if_neg (by omega), if_neg (by omega), if_neg (by omega)]
  unfold FldsPost
  rw [hokf]
  obtain ⟨n1, h_n1⟩ : ∃ q, e.key.length = q := ⟨_, rfl⟩
  obtain ⟨n2, h_n2⟩ : ∃ q, e.data.length = q := ⟨_, rfl⟩
  obtain ⟨od, h_od⟩ : ∃ q, e.order = q := ⟨_, rfl⟩
  obtain ⟨st, h_st⟩ : ∃ q, e.step = q := ⟨_, rfl⟩
  obtain ⟨tr, h_tr⟩ : ∃ q, e.tri = q := ⟨_, rfl⟩
  obtain ⟨cd, h_cd⟩ : ∃ q, e.code = q := ⟨_, rfl⟩
  obtain ⟨mk, h_mk⟩ : ∃ q, e.mark = q := ⟨_, rfl⟩
  obtain ⟨ls, h_ls⟩ : ∃ q, e.lsn = q := ⟨_, rfl⟩
  have hls := hV.b.lsn
  have hod := hV.b.order
  have hmk := hV.b.mark
  have hepb := hV.b.epoch
  obtain ⟨ep, h_ep⟩ : ∃ q, e.epoch = q := ⟨_, rfl⟩
  rw [h_ls] at hls
  rw [h_od] at hod
  rw [h_mk] at hmk
  rw [h_ep] at hepb
  unfold evs
  rw [h_n1, h_n2, h_ls, h_ep, h_od, h_st, h_tr, h_cd, h_mk, hun]
  obtain ⟨kd, h_kd⟩ : ∃ q, e.kind = q := ⟨_, rfl⟩
  rw [h_kd] at hkd ⊢
  have bk1 : (kd == 1) = false := by rw [beq_eq_false_iff_ne]; omega
  have bk2 : (kd == 2) = false := by rw [beq_eq_false_iff_ne]; omega
  have bk3 : (kd == 3) = false := by rw [beq_eq_false_iff_ne]; omega
  have bk4 : (kd == 4) = false := by rw [beq_eq_false_iff_ne]; omega
  have bk5 : (kd == 5) = false := by rw [beq_eq_false_iff_ne]; omega
  have bk6 : (kd == 6) = false := by rw [beq_eq_false_iff_ne]; omega
  have bk7 : (kd == 7) = false := by rw [beq_eq_false_iff_ne]; omega
  clear hV hokf h_n1 h_n2 h_ls h_ep h_od h_st h_tr h_cd h_mk hun h_kd
  go_enter Try.func37, Try.ntmps37
  go_wp2
  go_ret2
  exact ⟨_, rfl, (((Below.refl w.heap.size w).alloc (Nat.le_refl _) _).alloc (by simp) _).alloc (by simp; omega) _, fun h => by cases h⟩

end Go.Proofs.Ytccpmalefdnhdaa
