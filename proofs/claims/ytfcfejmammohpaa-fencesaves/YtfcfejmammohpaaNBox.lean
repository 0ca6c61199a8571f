/-
  A note's cells; the contracts of Names, ContainsRune, isZero, inBounds, lacksKey.
-/
import Derived.Test.YtfcfejmammohpaaLend
import Derived.Lib.OthersKept
import Derived.Lib.Bytealg
namespace Go.Proofs.Ytfcfejmammohpaa
open Go.RowKit
set_option maxRecDepth 100000

/-- A note's cells. -/
abbrev evs (e : Note) (K D : Value) : Array Value := #[.int .i64 e.kind, .int .u32 (e.epoch : Nat), .int .u32 (e.old : Nat), .int .u64 (e.lsn : Nat), .int .u64 (e.tick : Nat), .int .u32 (e.order : Nat), .int .i64 e.step, .bool e.undo, .int .i64 e.code, K, D]
theorem Lies.cellsE {w : World} {g : Nat} {e : Note} {K D : Value} (h : Lies w g 29 (evs e K D)) : w.cell? ⟨g, 0, none⟩ = some (.int .i64 e.kind) ∧ w.cell? ⟨g, 1, none⟩ = some (.int .u32 (e.epoch : Nat)) ∧ w.cell? ⟨g, 2, none⟩ = some (.int .u32 (e.old : Nat)) ∧ w.cell? ⟨g, 3, none⟩ = some (.int .u64 (e.lsn : Nat)) ∧ w.cell? ⟨g, 4, none⟩ = some (.int .u64 (e.tick : Nat)) ∧ w.cell? ⟨g, 5, none⟩ = some (.int .u32 (e.order : Nat)) ∧ w.cell? ⟨g, 6, none⟩ = some (.int .i64 e.step) ∧ w.cell? ⟨g, 7, none⟩ = some (.bool e.undo) ∧ w.cell? ⟨g, 8, none⟩ = some (.int .i64 e.code) ∧ w.cell? ⟨g, 9, none⟩ = some (K) ∧ w.cell? ⟨g, 10, none⟩ = some (D) :=
  ⟨h.cell 0, h.cell 1, h.cell 2, h.cell 3, h.cell 4, h.cell 5, h.cell 6, h.cell 7, h.cell 8, h.cell 9, h.cell 10⟩

/-- The text of a kind's letters. -/
def NamesPost (k : Int) (w : World) (x : Ending) (w' : World) : Prop := x = .returned (.string (str (Ent.lets k))) ∧ w' = w
theorem names_0 (k : Int) (w : World) (h : k < 1 ∨ 13 < k) : Calls Try.prog 88 #[.int .i64 k] w (NamesPost k w) := by
  have h1 : (k == 1) = false := by rw [beq_eq_false_iff_ne]; omega
  have h2 : (k == 2) = false := by rw [beq_eq_false_iff_ne]; omega
  have h3 : (k == 3) = false := by rw [beq_eq_false_iff_ne]; omega
  have h4 : (k == 4) = false := by rw [beq_eq_false_iff_ne]; omega
  have h5 : (k == 5) = false := by rw [beq_eq_false_iff_ne]; omega
  have h6 : (k == 6) = false := by rw [beq_eq_false_iff_ne]; omega
  have h7 : (k == 7) = false := by rw [beq_eq_false_iff_ne]; omega
  have h8 : (k == 8) = false := by rw [beq_eq_false_iff_ne]; omega
  have h9 : (k == 9) = false := by rw [beq_eq_false_iff_ne]; omega
  have h10 : (k == 10) = false := by rw [beq_eq_false_iff_ne]; omega
  have h11 : (k == 11) = false := by rw [beq_eq_false_iff_ne]; omega
  have h12 : (k == 12) = false := by rw [beq_eq_false_iff_ne]; omega
  have h13 : (k == 13) = false := by rw [beq_eq_false_iff_ne]; omega
  unfold NamesPost
  rw [Ent.lets_none k h]
  go_enter Try.func88, Try.ntmps88
  go_wp2
  go_ret
  exact ⟨rfl, rfl⟩
theorem names_1 (w : World) : Calls Try.prog 88 #[.int .i64 1] w (NamesPost 1 w) := by
  go_enter Try.func88, Try.ntmps88
  go_wp2
  go_ret
  exact ⟨rfl, rfl⟩
theorem names_2 (w : World) : Calls Try.prog 88 #[.int .i64 2] w (NamesPost 2 w) := by
  go_enter Try.func88, Try.ntmps88
  go_wp2
  go_ret
  exact ⟨rfl, rfl⟩
theorem names_3 (w : World) : Calls Try.prog 88 #[.int .i64 3] w (NamesPost 3 w) := by
  go_enter Try.func88, Try.ntmps88
  go_wp2
  go_ret
  exact ⟨rfl, rfl⟩
theorem names_4 (w : World) : Calls Try.prog 88 #[.int .i64 4] w (NamesPost 4 w) := by
  go_enter Try.func88, Try.ntmps88
  go_wp2
  go_ret
  exact ⟨rfl, rfl⟩
theorem names_5 (w : World) : Calls Try.prog 88 #[.int .i64 5] w (NamesPost 5 w) := by
  go_enter Try.func88, Try.ntmps88
  go_wp2
  go_ret
  exact ⟨rfl, rfl⟩
theorem names_6 (w : World) : Calls Try.prog 88 #[.int .i64 6] w (NamesPost 6 w) := by
  go_enter Try.func88, Try.ntmps88
  go_wp2
  go_ret
  exact ⟨rfl, rfl⟩
theorem names_7 (w : World) : Calls Try.prog 88 #[.int .i64 7] w (NamesPost 7 w) := by
  go_enter Try.func88, Try.ntmps88
  go_wp2
  go_ret
  exact ⟨rfl, rfl⟩
theorem names_8 (w : World) : Calls Try.prog 88 #[.int .i64 8] w (NamesPost 8 w) := by
  go_enter Try.func88, Try.ntmps88
  go_wp2
  go_ret
  exact ⟨rfl, rfl⟩
theorem names_9 (w : World) : Calls Try.prog 88 #[.int .i64 9] w (NamesPost 9 w) := by
  go_enter Try.func88, Try.ntmps88
  go_wp2
  go_ret
  exact ⟨rfl, rfl⟩
theorem names_10 (w : World) : Calls Try.prog 88 #[.int .i64 10] w (NamesPost 10 w) := by
  go_enter Try.func88, Try.ntmps88
  go_wp2
  go_ret
  exact ⟨rfl, rfl⟩
theorem names_11 (w : World) : Calls Try.prog 88 #[.int .i64 11] w (NamesPost 11 w) := by
  go_enter Try.func88, Try.ntmps88
  go_wp2
  go_ret
  exact ⟨rfl, rfl⟩
theorem names_12 (w : World) : Calls Try.prog 88 #[.int .i64 12] w (NamesPost 12 w) := by
  go_enter Try.func88, Try.ntmps88
  go_wp2
  go_ret
  exact ⟨rfl, rfl⟩
theorem names_13 (w : World) : Calls Try.prog 88 #[.int .i64 13] w (NamesPost 13 w) := by
  go_enter Try.func88, Try.ntmps88
  go_wp2
  go_ret
  exact ⟨rfl, rfl⟩
theorem names_any (k : Int) (w : World) : Calls Try.prog 88 #[.int .i64 k] w (NamesPost k w) := by
  by_cases h : k < 1 ∨ 13 < k
  · exact names_0 k w h
  · rcases Ent.kinds k (by omega) (by omega) with rfl | rfl | rfl | rfl | rfl | rfl | rfl | rfl | rfl | rfl | rfl | rfl | rfl
    · exact names_1 w
    · exact names_2 w
    · exact names_3 w
    · exact names_4 w
    · exact names_5 w
    · exact names_6 w
    · exact names_7 w
    · exact names_8 w
    · exact names_9 w
    · exact names_10 w
    · exact names_11 w
    · exact names_12 w
    · exact names_13 w

/-- 'strings.ContainsRune' of an ASCII letter. -/
theorem indexByte_mem (l : List UInt8) (c : UInt8) : decide (0 ≤ Lib.indexByte l c) = l.contains c := by
  induction l with
  | nil => rfl
  | cons b r ih =>
    have hge := Lib.indexByte_ge r c
    unfold Lib.indexByte
    by_cases hb : (b == c) = true
    · have : c = b := by simpa using (beq_iff_eq.1 hb).symm
      simp [this]
    · have hb' : (b == c) = false := by simpa using hb
      have hne : ¬ c = b := fun e => by rw [e] at hb'; simp at hb'
      rw [hb', List.contains_cons, show (c == b) = false from by simpa using hne, Bool.false_or, ← ih]
      simp only [Bool.false_eq_true, if_false]
      split
      · rename_i h
        have h : Lib.indexByte r c = -1 := by simpa using h
        rw [h]
      · rename_i h
        have h : Lib.indexByte r c ≠ -1 := by simpa using h
        rw [Bool.eq_iff_iff]
        simp
        omega
theorem mem_ofNat (s : List Nat) (c : Nat) (hs : ∀ x ∈ s, x < 256) (hc : c < 256) : (s.map UInt8.ofNat).contains (UInt8.ofNat c) = s.contains c := by
  rw [Bool.eq_iff_iff, List.contains_iff_mem, List.contains_iff_mem]
  constructor
  · intro h
    obtain ⟨x, h1, h2⟩ := List.mem_map.1 h
    have e := congrArg UInt8.toNat h2
    simp at e
    rw [Nat.mod_eq_of_lt (hs x h1), Nat.mod_eq_of_lt hc] at e
    rw [← e]; exact h1
  · exact fun h => List.mem_map.2 ⟨c, h, rfl⟩
theorem str_data (l : List Nat) : (str l).data.toList = l.map UInt8.ofNat := by simp [str, strOfNums]

set_option maxHeartbeats 1000000 in
set_option maxRecDepth 100000 in
theorem stringsliteIndexByte_any (s : ByteArray) (c : Int) (w : World) :
    Calls Try.prog 107 #[.string s, .int .u8 c] w fun e w' => e = .returned (.int .i64 (Lib.indexByte s.data.toList c.toNat.toUInt8)) ∧ w' = w := by
  go_enter Try.func107, Try.ntmps107
  go_wp2
  rw [run_callFunc_extern Try.func108 (by kernel_rfl) (by kernel_rfl) (by kernel_rfl) (e := Extern.BytealgIndexByte.indexByte) (by kernel_rfl), Lib.run_indexByteString]
  simp only [Result.andThen]
  rw [Oper.upon_value]
  go_wp2
  go_ret
  exact ⟨rfl, rfl⟩
theorem indexByte_any (s : ByteArray) (c : Int) (w : World) :
    Calls Try.prog 103 #[.string s, .int .u8 c] w fun e w' => e = .returned (.int .i64 (Lib.indexByte s.data.toList c.toNat.toUInt8)) ∧ w' = w := by
  go_enter Try.func103, Try.ntmps103
  go_wp2_with fail
  with_reducible refine (stringsliteIndexByte_any _ _ _).mono ?_
  rintro e w2 ⟨rfl, rfl⟩
  go_wp2
  go_ret
  exact ⟨rfl, rfl⟩
set_option maxHeartbeats 1000000 in
set_option maxRecDepth 100000 in
theorem indexRune_any (s : ByteArray) (c : Nat) (hc : c < 128) (w : World) :
    Calls Try.prog 102 #[.string s, .int .i32 (c : Nat)] w fun e w' => e = .returned (.int .i64 (Lib.indexByte s.data.toList (UInt8.ofNat c))) ∧ w' = w := by
  have hx := wrap_u8 c (by omega)
  have h1 : decide ((0 : Int) ≤ (c : Int)) = true := by rw [decide_eq_true_iff]; omega
  have h2 : decide ((c : Int) < (128 : Int)) = true := by rw [decide_eq_true_iff]; omega
  have h3 : decide (c < 128) = true := by rw [decide_eq_true_iff]; omega
  have C := Lib.hid (fun W => indexByte_any s (c : Nat) W)
  rw [show ((c : Nat) : Int).toNat.toUInt8 = UInt8.ofNat c from rfl] at C
  go_enter Try.func102, Try.ntmps102
  go_wp2_with fail
  with_reducible refine (C.out _).mono ?_
  rintro e w2 ⟨rfl, rfl⟩
  go_wp2
  go_ret
  exact ⟨rfl, rfl⟩
theorem contains_any (s : List Nat) (c : Nat) (hs : ∀ x ∈ s, x < 256) (hc : c < 128) (w : World) :
    Calls Try.prog 98 #[.string (str s), .int .i32 (c : Nat)] w fun e w' => e = .returned (.bool (s.contains c)) ∧ w' = w := by
  have C := Lib.hid (fun W => indexRune_any (str s) c hc W)
  have hr : decide (0 ≤ Lib.indexByte (str s).data.toList (UInt8.ofNat c)) = s.contains c := by rw [indexByte_mem, str_data, mem_ofNat s c hs (by omega)]
  generalize Lib.indexByte (str s).data.toList (UInt8.ofNat c) = q at *
  generalize s.contains c = r at *
  have HR := Lib.hid hr
  clear hr
  go_enter Try.func98, Try.ntmps98
  go_wp2_with fail
  with_reducible refine (C.out _).mono ?_
  rintro e w2 ⟨rfl, rfl⟩
  go_wp2
  go_ret
  exact ⟨ret_bool (by rw [← HR.out]), rfl⟩

end Go.Proofs.Ytfcfejmammohpaa
