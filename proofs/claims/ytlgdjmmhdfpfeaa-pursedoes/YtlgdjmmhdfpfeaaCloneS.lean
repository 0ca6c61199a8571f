/-
  The contracts of strings.Clone and isGood.
-/
import Derived.Test.YtlgdjmmhdfpfeaaSMath
import Derived.Lib.Strings
import Derived.Lib.Walk
import Derived.Lib.BufferWrite
import Derived.Lib.UnsafeStr
import Derived.Laws.MakeOwn
namespace Go.Proofs.Ytlgdjmmhdfpfeaa
open Go.RowKit
set_option maxRecDepth 100000
set_option linter.unusedVariables false
set_option linter.unusedSimpArgs false

set_option maxHeartbeats 4000000 in
theorem clone38 (s : ByteArray) (w : World) (hlim : s.size ≤ 281474976710656) :
    Calls Try.prog 44 #[.string s] w fun e w' => e = .returned (.string s) ∧ Below w.heap.size w w' := by
  by_cases h0 : s.size = 0
  · have hs : s = ⟨#[]⟩ := by
      apply ByteArray.ext
      exact Array.eq_empty_of_size_eq_zero h0
    subst hs
    go_enter Try.func44, Try.ntmps44
    go_wp2
    go_ret
    exact ⟨rfl, Below.refl _ _⟩
  · have hinfo : (Try.prog.info? 5).map (·.size) = some 1 := by kernel_rfl
    have hco : Try.prog.cellsOf 5 = 1 := by kernel_rfl
    obtain ⟨M, hM⟩ : ∃ M, M = madeCells (Value.int .u8 0).cells (((s.size : Nat) : Int).toNat * 1) := ⟨_, rfl⟩
    have hMs : M.size = s.size := by rw [hM, size_madeCells]; simp
    have hmk : ∀ W : World, (Instr.makeSlice 81 (.int .i64 (s.size : Int)) (.int .i64 (s.size : Int))).run Try.prog W = .ok (.slice (some ⟨W.heap.size, 0, none⟩) s.size s.size) (W.alloc (.cells M 5)) := fun W => by
      have h := run_make (P := Try.prog) W 81 5 _ (.int .u8 0) Try.underlying81 Try.type5 rfl .i64 .i64 (s.size : Int) (s.size : Int) (by omega) (by omega) (by show (1 : Int) * (s.size : Int) ≤ _; omega) (by omega)
      rw [h, hM]
      rfl
    clear hM
    have hcp := Lib.run_copy_row_string (P := Try.prog) (w.alloc (.cells M 5)) 81 9 3 5 w.heap.size 0 s.size s.size s M 5 Try.underlying81 hinfo (heap_alloc_new w _) (Nat.le_refl _) (by omega)
    obtain ⟨Y, hY⟩ : ∃ Y, Y = (M.toList.take 0 ++ Lib.byteCells s.data.toList ++ M.toList.drop (0 + s.size)).toArray := ⟨_, rfl⟩
    rw [← hY] at hcp
    have hYl : Y.toList = Lib.byteCells s.data.toList := by
      rw [hY, List.toList_toArray, List.take_zero, List.nil_append, List.drop_of_length_le (by rw [Array.length_toList]; omega), List.append_nil]
    have hYs : Y.size = s.size := by rw [← Array.length_toList, hYl, Lib.byteCells_length, ← Lib.size_eq]
    have hgY : ((w.alloc (.cells M 5)).setRow w.heap.size Y).heap[w.heap.size]? = some (.cells Y 5 (0, 0)) := setRow_heap _ _ M _ 5 (0, 0) (heap_alloc_new w _)
    have hne : s.data.toList ≠ [] := fun e => h0 (by rw [Lib.size_eq, e]; rfl)
    have hUS := Lib.run_unsafeString_row (P := Try.prog) ((w.alloc (.cells M 5)).setRow w.heap.size Y) 82 3 9 5 Try.underlying82 hco w.heap.size Y.size (by unfold World.shape?; rw [hgY]) s.data.toList hne (by rw [← Lib.size_eq]; omega) (by rw [← Lib.size_eq]; omega)
      (fun j x hx => Lib.cells_of_row hgY Y.size j _ (by rw [List.take_of_length_le (by rw [Array.length_toList]; exact Nat.le_refl _), hYl]; simp [Lib.byteCells, hx]))
    rw [← Lib.size_eq] at hUS
    clear hY
    go_enter Try.func44, Try.ntmps44
    go_wp2
    go_ret
    have hb1 : Below w.heap.size w (w.alloc (.cells M 5)) := (Below.refl _ w).alloc (Nat.le_refl _) _
    have hb2 : Below w.heap.size (w.alloc (.cells M 5)) ((w.alloc (.cells M 5)).setRow w.heap.size Y) := ⟨rfl, rfl, rfl, by simp, fun k hk => setRow_other _ _ _ _ (by omega)⟩
    exact ⟨rfl, Lib.below_freeze (hb1.trans hb2) (p := ⟨w.heap.size, 0, none⟩) (Nat.le_refl _) _⟩
theorem clone_any (x : List UInt8) (w : World) (hx : x.length ≤ 1000000) :
    Calls Try.prog 30 #[encStr x] w fun e w' => e = .returned (encStr x) ∧ Below w.heap.size w w' := by
  have C := clone38 ⟨x.toArray⟩ w (by simp [ByteArray.size]; omega)
  go_enter Try.func30, Try.ntmps30
  go_wp2_with fail
  with_reducible refine C.mono ?_
  rintro e w' ⟨rfl, hb⟩
  have HB := Lib.hid hb
  clear hb
  go_wp2
  go_ret
  exact ⟨rfl, HB.out⟩

/-- May such an account be at first? -/
def goodB (x : List UInt8) (m h : Int) : Bool := decide (1 ≤ x.length) && decide (x.length ≤ 32) && decide (0 ≤ m) && decide (m ≤ 1000000000) && decide (h = 0)
theorem goodB_iff {x : List UInt8} {m h : Int} : goodB x m h = true ↔ 1 ≤ x.length ∧ x.length ≤ 32 ∧ 0 ≤ m ∧ m ≤ 1000000000 ∧ h = 0 := by
  unfold goodB; simp [and_assoc]
set_option maxHeartbeats 1000000 in
theorem isGood_any (x : List UInt8) (m h : Int) (w : World) (hx : x.length ≤ 281474976710656) :
    Calls Try.prog 29 #[.agg #[encStr x, .int .i64 m, .int .i64 h]] w fun e w' => e = .returned (.bool (goodB x m h)) ∧ Below w.heap.size w w' := by
  have e1 : goodB x m h = (decide ((1 : Int) ≤ (x.length : Int)) && decide ((x.length : Int) ≤ 32) && decide (0 ≤ m) && decide (m ≤ 1000000000) && (h == 0)) := by
    unfold goodB
    rw [show decide (1 ≤ x.length) = decide ((1 : Int) ≤ (x.length : Int)) from decide_eq_decide.2 (by omega), show decide (x.length ≤ 32) = decide ((x.length : Int) ≤ 32) from decide_eq_decide.2 (by omega)]
    rfl
  rw [e1]
  clear e1
  obtain ⟨b1, h1⟩ : ∃ b, decide ((1 : Int) ≤ (x.length : Int)) = b := ⟨_, rfl⟩
  obtain ⟨b2, h2⟩ : ∃ b, decide ((x.length : Int) ≤ 32) = b := ⟨_, rfl⟩
  obtain ⟨b3, h3⟩ : ∃ b, decide (0 ≤ m) = b := ⟨_, rfl⟩
  obtain ⟨b4, h4⟩ : ∃ b, decide (m ≤ 1000000000) = b := ⟨_, rfl⟩
  obtain ⟨b5, h5⟩ : ∃ b, (h == 0) = b := ⟨_, rfl⟩
  rw [h1, h2, h3, h4, h5]
  cases b1 <;> cases b2 <;> cases b3 <;> cases b4 <;> cases b5
  all_goals
    go_enter Try.func29, Try.ntmps29
    go_wp2
    go_ret
    exact ⟨rfl, below1 _ _⟩

end Go.Proofs.Ytlgdjmmhdfpfeaa
