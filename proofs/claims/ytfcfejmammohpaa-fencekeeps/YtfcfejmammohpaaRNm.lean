/-
  The contracts of the document's Names and has.
-/
import Derived.Test.YtfcfejmammohpaaNGet
namespace Go.Proofs.Ytfcfejmammohpaa
open Go.RowKit
set_option maxRecDepth 100000

/-- What the walk asks of a text of letters. -/
theorem str_get (s : List Nat) (hs : ∀ c ∈ s, c < 128) (j : Nat) : ∀ h : j < (str s).size, ((str s)[j]'h).toNat = s.getD j 0 := fun h => str_at s hs j h
theorem getD_mem (s : List Nat) (j : Nat) (hj : j < s.length) : s.getD j 0 ∈ s := by
  rw [List.getD_eq_getElem?_getD, List.getElem?_eq_getElem hj]
  exact List.getElem_mem hj

def RNamesPost (k : Int) (w : World) (x : Ending) (w' : World) : Prop := x = .returned (.string (str (Ent.lets k))) ∧ Below w.heap.size w w'
set_option maxRecDepth 100000 in
theorem rnames_lo (k : Int) (w : World) (h : k < 1) : Calls Try.prog 65 #[.int .i64 k] w (RNamesPost k w) := by
  unfold RNamesPost
  rw [Ent.lets_none k (.inl h)]
  go_enter Try.func65, Try.ntmps65
  go_wp2
  go_ret
  exact ⟨rfl, below1 _ _⟩
set_option maxRecDepth 100000 in
theorem rnames_hi (k : Int) (w : World) (h : 13 < k) : Calls Try.prog 65 #[.int .i64 k] w (RNamesPost k w) := by
  have h1 : ¬ k < 1 := by omega
  unfold RNamesPost
  rw [Ent.lets_none k (.inr h)]
  go_enter Try.func65, Try.ntmps65
  go_wp2
  go_ret
  exact ⟨rfl, below1 _ _⟩
set_option maxRecDepth 100000 in
theorem rnames_1 (w : World) : Calls Try.prog 65 #[.int .i64 1] w (RNamesPost 1 w) := by
  go_enter Try.func65, Try.ntmps65
  go_wp2
  go_ret
  exact ⟨rfl, below1 _ _⟩
set_option maxRecDepth 100000 in
theorem rnames_2 (w : World) : Calls Try.prog 65 #[.int .i64 2] w (RNamesPost 2 w) := by
  go_enter Try.func65, Try.ntmps65
  go_wp2
  go_ret
  exact ⟨rfl, below1 _ _⟩
set_option maxRecDepth 100000 in
theorem rnames_3 (w : World) : Calls Try.prog 65 #[.int .i64 3] w (RNamesPost 3 w) := by
  go_enter Try.func65, Try.ntmps65
  go_wp2
  go_ret
  exact ⟨rfl, below1 _ _⟩
set_option maxRecDepth 100000 in
theorem rnames_4 (w : World) : Calls Try.prog 65 #[.int .i64 4] w (RNamesPost 4 w) := by
  go_enter Try.func65, Try.ntmps65
  go_wp2
  go_ret
  exact ⟨rfl, below1 _ _⟩
set_option maxRecDepth 100000 in
theorem rnames_5 (w : World) : Calls Try.prog 65 #[.int .i64 5] w (RNamesPost 5 w) := by
  go_enter Try.func65, Try.ntmps65
  go_wp2
  go_ret
  exact ⟨rfl, below1 _ _⟩
set_option maxRecDepth 100000 in
theorem rnames_6 (w : World) : Calls Try.prog 65 #[.int .i64 6] w (RNamesPost 6 w) := by
  go_enter Try.func65, Try.ntmps65
  go_wp2
  go_ret
  exact ⟨rfl, below1 _ _⟩
set_option maxRecDepth 100000 in
theorem rnames_7 (w : World) : Calls Try.prog 65 #[.int .i64 7] w (RNamesPost 7 w) := by
  go_enter Try.func65, Try.ntmps65
  go_wp2
  go_ret
  exact ⟨rfl, below1 _ _⟩
set_option maxRecDepth 100000 in
theorem rnames_8 (w : World) : Calls Try.prog 65 #[.int .i64 8] w (RNamesPost 8 w) := by
  go_enter Try.func65, Try.ntmps65
  go_wp2
  go_ret
  exact ⟨rfl, below1 _ _⟩
set_option maxRecDepth 100000 in
theorem rnames_9 (w : World) : Calls Try.prog 65 #[.int .i64 9] w (RNamesPost 9 w) := by
  go_enter Try.func65, Try.ntmps65
  go_wp2
  go_ret
  exact ⟨rfl, below1 _ _⟩
set_option maxRecDepth 100000 in
theorem rnames_10 (w : World) : Calls Try.prog 65 #[.int .i64 10] w (RNamesPost 10 w) := by
  go_enter Try.func65, Try.ntmps65
  go_wp2
  go_ret
  exact ⟨rfl, below1 _ _⟩
set_option maxRecDepth 100000 in
theorem rnames_11 (w : World) : Calls Try.prog 65 #[.int .i64 11] w (RNamesPost 11 w) := by
  go_enter Try.func65, Try.ntmps65
  go_wp2
  go_ret
  exact ⟨rfl, below1 _ _⟩
set_option maxRecDepth 100000 in
theorem rnames_12 (w : World) : Calls Try.prog 65 #[.int .i64 12] w (RNamesPost 12 w) := by
  go_enter Try.func65, Try.ntmps65
  go_wp2
  go_ret
  exact ⟨rfl, below1 _ _⟩
set_option maxRecDepth 100000 in
theorem rnames_13 (w : World) : Calls Try.prog 65 #[.int .i64 13] w (RNamesPost 13 w) := by
  go_enter Try.func65, Try.ntmps65
  go_wp2
  go_ret
  exact ⟨rfl, below1 _ _⟩
theorem rnames_any (k : Int) (w : World) : Calls Try.prog 65 #[.int .i64 k] w (RNamesPost k w) := by
  by_cases h : k < 1
  · exact rnames_lo k w h
  · by_cases h2 : 13 < k
    · exact rnames_hi k w h2
    · rcases Ent.kinds k (by omega) (by omega) with rfl | rfl | rfl | rfl | rfl | rfl | rfl | rfl | rfl | rfl | rfl | rfl | rfl
      · exact rnames_1 w
      · exact rnames_2 w
      · exact rnames_3 w
      · exact rnames_4 w
      · exact rnames_5 w
      · exact rnames_6 w
      · exact rnames_7 w
      · exact rnames_8 w
      · exact rnames_9 w
      · exact rnames_10 w
      · exact rnames_11 w
      · exact rnames_12 w
      · exact rnames_13 w

def HsR (w : World) (s : List Nat) (c n : Nat) (i : Value) (wr : World) : Prop := wr = w ∧ ∃ j : Nat, j ≤ n ∧ i = .int .i64 (j : Nat) ∧ ∀ k, k < j → s.getD k 0 ≠ c
set_option maxRecDepth 100000 in
set_option maxHeartbeats 400000 in
theorem has_ref (k : Int) (c : Nat) (w : World) :
    Calls Try.prog 67 #[.int .i64 k, .int .u8 (c : Nat)] w (BoolPost ((Ent.lets k).contains c) w) := by
  have C := Lib.hid (fun W => rnames_any k W)
  unfold RNamesPost at C
  unfold BoolPost
  have hsz := str_size (Ent.lets k)
  have HGET := Lib.hid (str_get (Ent.lets k) (fun c hc => Ent.alpha_small c (Ent.lets_sub k c hc)))
  have hl := Ent.lets_len k
  generalize str (Ent.lets k) = S at *
  generalize Ent.lets k = s at *
  generalize hn : s.length = n at *
  have HN := Lib.hid hn
  clear hn
  go_enter Try.func67, Try.ntmps67
  go_wp2_with fail
  with_reducible refine (C.out _).mono ?_
  rintro x w1 ⟨rfl, hb1⟩
  go_wp2_with fail
  go_loopw [6] (HsR w1 s c n) (fun i _ => n - (intOf i).toNat)
  case atStart => exact ⟨rfl, 0, by omega, rfl, fun k hk => by omega⟩
  case round =>
    obtain ⟨rfl, j, hj, rfl, hf⟩ := hrel
    have HF := Lib.hid hf
    clear hf
    by_cases hp : j < n
    · have hv := HGET.out j
      have hj2 : (j : Int) < (n : Int) := by omega
      obtain ⟨d, hd⟩ : ∃ d, s.getD j 0 = d := ⟨_, rfl⟩
      rw [hd] at hv
      have HD := Lib.hid hd
      clear hd
      by_cases he : d = c
      · have hb : (((d : Nat) : Int) == ((c : Nat) : Int)) = true := by rw [beq_iff_eq, he]
        go_wp2
        go_ret
        refine ⟨ret_bool ?_, hb1⟩
        symm
        rw [List.contains_iff_mem, ← he, ← HD.out]
        exact getD_mem s j (by rw [HN.out]; exact hp)
      · have hb : (((d : Nat) : Int) == ((c : Nat) : Int)) = false := by rw [beq_eq_false_iff_ne]; omega
        go_wp2
        go_roundw
        case rel =>
          refine ⟨rfl, j + 1, by omega, by go_num, fun k hk => ?_⟩
          by_cases h : k < j
          · exact HF.out k h
          · have : k = j := by omega
            subst this
            rw [HD.out]; exact he
        case measure => simp [intOf]; omega
    · go_wp2
      go_ret
      refine ⟨ret_bool ?_, hb1⟩
      symm
      rw [Bool.eq_false_iff]
      intro hc
      rw [List.contains_iff_mem] at hc
      obtain ⟨k, hk, e⟩ := List.mem_iff_getElem.1 hc
      have hkn : k < n := by rw [← HN.out]; exact hk
      exact HF.out k (by omega) (by simp [List.getD, hk, e])

end Go.Proofs.Ytfcfejmammohpaa
