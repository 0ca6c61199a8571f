/-
  The contracts of More, Of and Holds: for every slice of bytes.
-/
import Derived.Test.YtaehagejmeimiaaStep
import Derived.Outline
import Derived.Deep.QuietTactic
import Derived.BigQuiet
namespace Go.Proofs.Ytaehagejmeimiaa
open Go.RowKit

/-- A slice of n bytes that reads as l. -/
def Bys (w : World) (a : Option Addr) (n : Nat) (l : List Nat) : Prop :=
  l.length = n ∧ (∀ c ∈ l, c < 256) ∧ (0 < n → ∃ b off, a = some ⟨b, off, none⟩ ∧ ∀ i, i < n → w.cell? ⟨b, off + i, none⟩ = some (.int .u8 (l.getD i 0 : Nat)))

theorem not_u32 (x : Nat) (h : x < 4294967296) : bits .xor .u32 IntKind.u32.max (x : Int) = ((Crc.ones ^^^ x : Nat) : Int) := by
  have := u32_xor_nat 4294967295 x (by decide) h
  exact this

theorem take_one (l : List Nat) (k : Nat) (h : k < l.length) : l.take (k + 1) = l.take k ++ [l.getD k 0] := by
  rw [List.take_succ_eq_append_getElem h]
  simp [List.getD, h]

theorem feed_one (R : Nat) (l : List Nat) (k : Nat) (h : k < l.length) : Crc.feed R (l.take (k + 1)) = Crc.stn 8 (Crc.feed R (l.take k) ^^^ l.getD k 0) := by
  rw [take_one l k h, Crc.feed_append, Crc.feed_cons, Crc.feed_nil]

theorem getD_lt (l : List Nat) (hl : ∀ c ∈ l, c < 256) (k : Nat) : l.getD k 0 < 256 := by
  rw [List.getD_eq_getElem?_getD]
  by_cases h : k < l.length
  · rw [List.getElem?_eq_getElem h]; exact hl _ (List.getElem_mem h)
  · rw [List.getElem?_eq_none (by omega)]; decide

set_option maxHeartbeats 400000 in
theorem more_any (s : Nat) (a : Option Addr) (n cap : Nat) (l : List Nat) (w : World) (hs : s < 4294967296) (hB : Bys w a n l) (hn : n ≤ maxLen) :
    Calls Try.prog 37 #[.int .u32 s, .slice a n cap] w fun e w' => e = .returned (.int .u32 (Crc.more s l : Nat)) ∧ w = w' := by
  unfold maxLen at hn
  have hR : Crc.ones ^^^ s < 4294967296 := Crc.xor_lt Crc.ones_lt hs
  have hnot := not_u32 s hs
  have hm : Crc.more s l = Crc.ones ^^^ Crc.feed (Crc.ones ^^^ s) l := rfl
  have HM := Lib.hid hm
  have HB := Lib.hid hB
  clear hB hm
  generalize Crc.ones ^^^ s = R at *
  go_enter Try.func37, Try.ntmps37
  go_wp2_with fail
  clear hnot
  go_loop [5, 12] (fun x i => ∃ k : Nat, k ≤ n ∧ i = .int .i64 k ∧ x = .int .u32 (Crc.feed R (l.take k) : Nat)) (fun _ i => n - (intOf i).toNat)
  case atStart => exact ⟨0, by omega, rfl, rfl⟩
  case round =>
    obtain ⟨k, hk, rfl, rfl⟩ := hrel
    have hfl := Crc.feed_lt R (l.take k) hR (fun c hc => HB.out.2.1 c (List.mem_of_mem_take hc))
    by_cases hlt : k < n
    · have hs1 := feed_one R l k (by rw [HB.out.1]; exact hlt)
      generalize hx : Crc.feed R (l.take k) = x at *
      have HX := Lib.hid hx
      have HS := Lib.hid hs1
      clear hx hs1
      obtain ⟨b, off, rfl, hc⟩ := HB.out.2.2 (by omega)
      have hck := hc k hlt
      have hby := getD_lt l HB.out.2.1 k
      clear hc
      generalize hy : l.getD k 0 = y at *
      have HY := Lib.hid hy
      clear hy
      have hxx := u32_xor_nat x y hfl (by omega)
      have hxl : x ^^^ y < 4294967296 := Crc.xor_lt hfl (by omega)
      go_wp2_with fail
      with_reducible refine (step_any (x ^^^ y) _ hxl).mono ?_
      rintro e w2 ⟨rfl, rfl⟩
      go_wp2
      go_round
      case rel => exact ⟨k + 1, by omega, by go_num, val_int (by rw [HS.out])⟩
      case measure => simp [intOf]; omega
    · have hk2 : k = n := by omega
      subst hk2
      rw [List.take_of_length_le (by rw [HB.out.1]; exact Nat.le_refl _)] at *
      generalize Crc.feed R l = x at *
      have hxx := not_u32 x hfl
      go_wp2
      go_ret
      exact ⟨ret_int (by rw [HM.out]), rfl⟩

set_option maxHeartbeats 400000 in
theorem of_bytes (a : Option Addr) (n cap : Nat) (l : List Nat) (w : World) (hB : Bys w a n l) (hn : n ≤ maxLen) :
    Calls Try.prog 38 #[.slice a n cap] w fun e w' => e = .returned (.int .u32 (Crc.crc l : Nat)) ∧ w = w' := by
  have HB := Lib.hid hB
  clear hB
  go_enter Try.func38, Try.ntmps38
  go_wp2_with fail
  refine (more_any 0 a n cap l _ (by decide) HB.out hn).mono ?_
  rintro e w2 ⟨rfl, rfl⟩
  go_wp2
  go_ret
  exact ⟨rfl, rfl⟩

end Go.Proofs.Ytaehagejmeimiaa
