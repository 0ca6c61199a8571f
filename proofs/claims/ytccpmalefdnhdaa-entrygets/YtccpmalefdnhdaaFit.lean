/-
  The contracts of entry.Check and of what it calls: for every entry.
-/
import Derived.Test.YtccpmalefdnhdaaLists
namespace Go.Proofs.Ytccpmalefdnhdaa
open Go.RowKit

/-- An entry's cells. -/
abbrev evs (e : Entry) (K D : Value) : Array Value := #[.int .i64 e.kind, .int .u64 (e.lsn : Nat), .int .u32 (e.epoch : Nat), .int .u32 (e.order : Nat), .int .i64 e.step, .bool e.undo, .int .i64 e.tri, .int .i64 e.code, .int .u64 (e.mark : Nat), K, D]
/-- What a kind names, as a value. -/
abbrev pvs (o t s : Bool) (c : Nat) (m : Bool) : Array Value := #[.bool o, .bool t, .bool s, .int .i64 (c : Nat), .bool m]

theorem ret_bool {a b : Bool} (h : a = b) : Ending.returned (.bool a) = .returned (.bool b) := by rw [h]
theorem below2 (w : World) (o p : Obj) : Below w.heap.size w ((w.alloc o).alloc p) := ((Below.refl _ _).alloc (Nat.le_refl _) _).alloc (by simp) _
theorem range_of_lies {w : World} {g : Nat} {t : TypeId} {cs : Array Value} (h : Lies w g t cs) : w.rangeAt g 0 cs.toList := fun j v hv => by
  rw [Nat.zero_add, h.cell]
  simpa using hv
theorem Lies.cellsE {w : World} {g : Nat} {e : Entry} {K D : Value} (h : Lies w g 26 (evs e K D)) : w.cell? ⟨g, 0, none⟩ = some (.int .i64 e.kind) ∧ w.cell? ⟨g, 1, none⟩ = some (.int .u64 (e.lsn : Nat)) ∧ w.cell? ⟨g, 2, none⟩ = some (.int .u32 (e.epoch : Nat)) ∧ w.cell? ⟨g, 3, none⟩ = some (.int .u32 (e.order : Nat)) ∧ w.cell? ⟨g, 4, none⟩ = some (.int .i64 e.step) ∧ w.cell? ⟨g, 5, none⟩ = some (.bool e.undo) ∧ w.cell? ⟨g, 6, none⟩ = some (.int .i64 e.tri) ∧ w.cell? ⟨g, 7, none⟩ = some (.int .i64 e.code) ∧ w.cell? ⟨g, 8, none⟩ = some (.int .u64 (e.mark : Nat)) ∧ w.cell? ⟨g, 9, none⟩ = some (K) ∧ w.cell? ⟨g, 10, none⟩ = some (D) :=
  ⟨h.cell 0, h.cell 1, h.cell 2, h.cell 3, h.cell 4, h.cell 5, h.cell 6, h.cell 7, h.cell 8, h.cell 9, h.cell 10⟩
theorem Lies.cellsP {w : World} {g : Nat} {o t s m : Bool} {c : Nat} (h : Lies w g 63 (pvs o t s c m)) : w.cell? ⟨g, 0, none⟩ = some (.bool o) ∧ w.cell? ⟨g, 1, none⟩ = some (.bool t) ∧ w.cell? ⟨g, 2, none⟩ = some (.bool s) ∧ w.cell? ⟨g, 3, none⟩ = some (.int .i64 (c : Nat)) ∧ w.cell? ⟨g, 4, none⟩ = some (.bool m) :=
  ⟨h.cell 0, h.cell 1, h.cell 2, h.cell 3, h.cell 4⟩

set_option maxHeartbeats 400000 in
theorem fitOrder_any (o t s m : Bool) (c : Nat) (e : Entry) (K D : Value) (w : World) :
    Calls Try.prog 53 #[.agg (pvs o t s c m), .agg (evs e K D)] w fun x w' => x = .returned (.bool (Ent.fitO o e)) ∧ Below w.heap.size w w' := by
  go_enter Try.func53, Try.ntmps53
  go_wp2
  go_ret
  refine ⟨ret_bool ?_, below2 _ _ _⟩
  unfold Ent.fitO
  rw [Bool.eq_iff_iff]
  cases o <;> simp <;> omega

set_option maxHeartbeats 400000 in
theorem fitTexts_any (o t s m : Bool) (c : Nat) (e : Entry) (A1 A2 : Option Addr) (c1 c2 : Nat) (w : World) :
    Calls Try.prog 54 #[.agg (pvs o t s c m), .agg (evs e (.slice A1 e.key.length c1) (.slice A2 e.data.length c2))] w fun x w' => x = .returned (.bool (Ent.fitT t e)) ∧ Below w.heap.size w w' := by
  obtain ⟨n, hn⟩ : ∃ n, e.key.length = n := ⟨_, rfl⟩
  obtain ⟨k, hk⟩ : ∃ k, e.data.length = k := ⟨_, rfl⟩
  unfold Ent.fitT
  rw [hn, hk]
  cases t
  · by_cases h1 : n = 0
    · subst h1
      go_enter Try.func54, Try.ntmps54
      go_wp2
      go_ret
      refine ⟨ret_bool ?_, below2 _ _ _⟩
      first | (rw [Bool.eq_iff_iff]; done) | (rw [Bool.eq_iff_iff]; simp; done) | (rw [Bool.eq_iff_iff]; simp; omega)
    · have h2 : ((n : Int) == 0) = false := by rw [beq_eq_false_iff_ne]; omega
      go_enter Try.func54, Try.ntmps54
      go_wp2
      go_ret
      refine ⟨ret_bool ?_, below2 _ _ _⟩
      first | (rw [Bool.eq_iff_iff]; done) | (rw [Bool.eq_iff_iff]; simp; done) | (rw [Bool.eq_iff_iff]; simp; omega)
  · by_cases h1 : 1 ≤ n
    · by_cases h2 : n ≤ 32
      · go_enter Try.func54, Try.ntmps54
        go_wp2
        go_ret
        refine ⟨ret_bool ?_, below2 _ _ _⟩
        first | (rw [Bool.eq_iff_iff]; done) | (rw [Bool.eq_iff_iff]; simp; done) | (rw [Bool.eq_iff_iff]; simp; omega)
      · go_enter Try.func54, Try.ntmps54
        go_wp2
        go_ret
        refine ⟨ret_bool ?_, below2 _ _ _⟩
        first | (rw [Bool.eq_iff_iff]; done) | (rw [Bool.eq_iff_iff]; simp; done) | (rw [Bool.eq_iff_iff]; simp; omega)
    · go_enter Try.func54, Try.ntmps54
      go_wp2
      go_ret
      refine ⟨ret_bool ?_, below2 _ _ _⟩
      first | (rw [Bool.eq_iff_iff]; done) | (rw [Bool.eq_iff_iff]; simp; done) | (rw [Bool.eq_iff_iff]; simp; omega)

set_option maxHeartbeats 400000 in
theorem fitStep_any (o t s m : Bool) (c : Nat) (e : Entry) (K D : Value) (w : World) :
    Calls Try.prog 55 #[.agg (pvs o t s c m), .agg (evs e K D)] w fun x w' => x = .returned (.bool (Ent.fitS s e)) ∧ Below w.heap.size w w' := by
  obtain ⟨q, hq⟩ : ∃ q, e.step = q := ⟨_, rfl⟩
  obtain ⟨y, hy⟩ : ∃ y, e.tri = y := ⟨_, rfl⟩
  obtain ⟨u, hu⟩ : ∃ u, e.undo = u := ⟨_, rfl⟩
  unfold Ent.fitS
  unfold evs
  rw [hq, hy, hu]
  cases s
  · by_cases h1 : q = 0
    · subst h1
      cases u
      · go_enter Try.func55, Try.ntmps55
        go_wp2
        go_ret
        refine ⟨ret_bool ?_, below2 _ _ _⟩
        first | (rw [Bool.eq_iff_iff]; done) | (rw [Bool.eq_iff_iff]; simp; done) | (rw [Bool.eq_iff_iff]; simp; omega)
      · go_enter Try.func55, Try.ntmps55
        go_wp2
        go_ret
        refine ⟨ret_bool ?_, below2 _ _ _⟩
        first | (rw [Bool.eq_iff_iff]; done) | (rw [Bool.eq_iff_iff]; simp; done) | (rw [Bool.eq_iff_iff]; simp; omega)
    · have h2 : (q == 0) = false := by rw [beq_eq_false_iff_ne]; omega
      go_enter Try.func55, Try.ntmps55
      go_wp2
      go_ret
      refine ⟨ret_bool ?_, below2 _ _ _⟩
      first | (rw [Bool.eq_iff_iff]; done) | (rw [Bool.eq_iff_iff]; simp; done) | (rw [Bool.eq_iff_iff]; simp; omega)
  · by_cases h1 : 0 ≤ q
    · by_cases h2 : q < 16
      · by_cases h3 : 1 ≤ y
        · go_enter Try.func55, Try.ntmps55
          go_wp2
          go_ret
          refine ⟨ret_bool ?_, below2 _ _ _⟩
          first | (rw [Bool.eq_iff_iff]; done) | (rw [Bool.eq_iff_iff]; simp; done) | (rw [Bool.eq_iff_iff]; simp; omega)
        · go_enter Try.func55, Try.ntmps55
          go_wp2
          go_ret
          refine ⟨ret_bool ?_, below2 _ _ _⟩
          first | (rw [Bool.eq_iff_iff]; done) | (rw [Bool.eq_iff_iff]; simp; done) | (rw [Bool.eq_iff_iff]; simp; omega)
      · go_enter Try.func55, Try.ntmps55
        go_wp2
        go_ret
        refine ⟨ret_bool ?_, below2 _ _ _⟩
        first | (rw [Bool.eq_iff_iff]; done) | (rw [Bool.eq_iff_iff]; simp; done) | (rw [Bool.eq_iff_iff]; simp; omega)
    · go_enter Try.func55, Try.ntmps55
      go_wp2
      go_ret
      refine ⟨ret_bool ?_, below2 _ _ _⟩
      first | (rw [Bool.eq_iff_iff]; done) | (rw [Bool.eq_iff_iff]; simp; done) | (rw [Bool.eq_iff_iff]; simp; omega)

set_option maxHeartbeats 400000 in
theorem fitCode_any (o t s m : Bool) (c : Nat) (e : Entry) (K D : Value) (w : World) :
    Calls Try.prog 56 #[.agg (pvs o t s c m), .agg (evs e K D)] w fun x w' => x = .returned (.bool (Ent.fitC c e)) ∧ Below w.heap.size w w' := by
  obtain ⟨q, hq⟩ : ∃ q, e.code = q := ⟨_, rfl⟩
  unfold Ent.fitC
  unfold evs
  rw [hq]
  by_cases h0 : c = 0
  · subst h0
    go_enter Try.func56, Try.ntmps56
    go_wp2
    go_ret
    refine ⟨ret_bool ?_, below2 _ _ _⟩
    first | (rw [Bool.eq_iff_iff]; done) | (rw [Bool.eq_iff_iff]; simp; done) | (rw [Bool.eq_iff_iff]; simp; omega)
  · rw [if_neg h0]
    have h0b : ((c : Int) == 0) = false := by rw [beq_eq_false_iff_ne]; omega
    by_cases h1 : 1 ≤ q
    · go_enter Try.func56, Try.ntmps56
      go_wp2
      go_ret
      refine ⟨ret_bool ?_, below2 _ _ _⟩
      first | (rw [Bool.eq_iff_iff]; done) | (rw [Bool.eq_iff_iff]; simp; done) | (rw [Bool.eq_iff_iff]; simp; omega)
    · go_enter Try.func56, Try.ntmps56
      go_wp2
      go_ret
      refine ⟨ret_bool ?_, below2 _ _ _⟩
      first | (rw [Bool.eq_iff_iff]; done) | (rw [Bool.eq_iff_iff]; simp; done) | (rw [Bool.eq_iff_iff]; simp; omega)

set_option maxHeartbeats 400000 in
theorem fitMark_any (o t s m : Bool) (c : Nat) (e : Entry) (K D : Value) (w : World) :
    Calls Try.prog 57 #[.agg (pvs o t s c m), .agg (evs e K D)] w fun x w' => x = .returned (.bool (Ent.fitM m e)) ∧ Below w.heap.size w w' := by
  unfold Ent.fitM
  cases m
  · go_enter Try.func57, Try.ntmps57
    go_wp2
    go_ret
    refine ⟨ret_bool ?_, below2 _ _ _⟩
    first | (rw [Bool.eq_iff_iff]; done) | (rw [Bool.eq_iff_iff]; simp; done) | (rw [Bool.eq_iff_iff]; simp; omega)
  · go_enter Try.func57, Try.ntmps57
    go_wp2
    go_ret
    refine ⟨ret_bool ?_, below2 _ _ _⟩
    first | (rw [Bool.eq_iff_iff]; done) | (rw [Bool.eq_iff_iff]; simp; done) | (rw [Bool.eq_iff_iff]; simp; omega)

end Go.Proofs.Ytccpmalefdnhdaa
