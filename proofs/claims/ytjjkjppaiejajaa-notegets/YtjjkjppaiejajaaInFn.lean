/-
  The contract of 'in': has a text a letter?
-/
import Derived.Test.YtjjkjppaiejajaaLongFn
namespace Go.Proofs.Ytjjkjppaiejajaa
open Go.RowKit

/-- What the walk asks of a text of letters. -/
theorem str_get (s : List Nat) (hs : ∀ c ∈ s, c < 128) (j : Nat) : ∀ h : j < (str s).size, ((str s)[j]'h).toNat = s.getD j 0 := fun h => str_at s hs j h

def InR (s : List Nat) (c n : Nat) (i : Value) (_ : World) : Prop := ∃ j : Nat, j ≤ n ∧ i = .int .i64 (j : Nat) ∧ ∀ k, k < j → s.getD k 0 ≠ c

set_option maxRecDepth 100000 in
set_option maxHeartbeats 400000 in
theorem in_any (s : List Nat) (hs : ∀ x ∈ s, x < 128) (hl : s.length ≤ 1000) (c : Nat) (w : World) :
    Calls Try.prog 26 #[.string (str s), .int .u8 (c : Nat)] w fun x w' => x = .returned (.bool (s.contains c)) ∧ w' = w := by
  have hsz := str_size s
  have HGET := Lib.hid (str_get s hs)
  generalize str s = S at *
  generalize hn : s.length = n at *
  have HN := Lib.hid hn
  clear hn hs
  go_enter Try.func26, Try.ntmps26
  go_wp2_with fail
  go_loopw [5] (fun i wr => wr = w ∧ InR s c n i wr) (fun i _ => n - (intOf i).toNat)
  case atStart => exact ⟨rfl, 0, by omega, rfl, fun k hk => by omega⟩
  case round =>
    obtain ⟨rfl, j, hj, rfl, hf⟩ := hrel
    have HF := Lib.hid hf
    clear hf
    by_cases hp : j < n
    · have hv := HGET.out j
      have hj2 : (j : Int) < (n : Int) := by omega
      obtain ⟨d, hd⟩ : ∃ d, s.getD j 0 = d := ⟨_, rfl⟩
      rw [hd] at hv
      have HD := Lib.hid hd
      clear hd
      by_cases he : d = c
      · have hb : (((d : Nat) : Int) == ((c : Nat) : Int)) = true := by rw [beq_iff_eq, he]
        go_wp2
        go_ret
        refine ⟨ret_bool ?_, rfl⟩
        symm
        rw [List.contains_iff_mem, ← he, ← HD.out]
        exact getD_mem s j (by rw [HN.out]; exact hp)
      · have hb : (((d : Nat) : Int) == ((c : Nat) : Int)) = false := by rw [beq_eq_false_iff_ne]; omega
        go_wp2
        go_roundw
        case rel =>
          refine ⟨trivial, j + 1, by omega, by go_num, fun k hk => ?_⟩
          by_cases h : k < j
          · exact HF.out k h
          · have : k = j := by omega
            subst this
            rw [HD.out]; exact he
        case measure => simp [intOf]; omega
    · go_wp2
      go_ret
      refine ⟨ret_bool ?_, rfl⟩
      symm
      rw [Bool.eq_false_iff]
      intro hc
      rw [List.contains_iff_mem] at hc
      obtain ⟨k, hk, e⟩ := List.mem_iff_getElem.1 hc
      have hkn : k < n := by rw [← HN.out]; exact hk
      exact HF.out k (by omega) (by simp [List.getD, hk, e])

end Go.Proofs.Ytjjkjppaiejajaa
