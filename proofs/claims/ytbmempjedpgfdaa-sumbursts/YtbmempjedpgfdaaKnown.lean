/-
  The contract of 'known': the chapter's examples hold: it returns true.
-/
import Derived.Test.YtbmempjedpgfdaaJoin
import Derived.Test.YtbmempjedpgfdaaHolds
import Derived.Lib.SlBytesConst
namespace Go.Proofs.Ytbmempjedpgfdaa
open Go.RowKit

/-- A new row of these bytes. -/
theorem Bys.const (w : World) (C : Array Value) (l : List Nat) (fr : Nat × Nat) (n : Nat) (hC : C = (l.map (fun (c : Nat) => Value.int .u8 (c : Int))).toArray) (hn : l.length = n) (hl : ∀ c ∈ l, c < 256) : Bys (w.alloc (.cells C 5 fr)) (some ⟨w.heap.size, 0, none⟩) n l := by
  subst hC
  refine ⟨hn, hl, fun _ => ⟨_, _, rfl, fun i hi => ?_⟩⟩
  rw [Nat.zero_add, cell_of_row _ _ _ _ 5 fr (heap_alloc_new w _)]
  have : i < l.length := by omega
  simp [List.getD, this]

def nine : List Nat := [49, 50, 51, 52, 53, 54, 55, 56, 57]
def four : List Nat := [49, 50, 51, 52]
def five : List Nat := [53, 54, 55, 56, 57]
def closed : List Nat := [49, 50, 51, 52, 53, 54, 55, 56, 57, 38, 57, 244, 203]
theorem crc_nine : Crc.crc nine = 3421780262 := by decide +kernel
theorem join_nine : Crc.join (Crc.crc four) (Crc.crc five) 5 = 3421780262 := by decide +kernel
theorem holds_closed : holdsB closed = true := by decide +kernel
theorem Bys.none_ (w : World) : Bys w none 0 [] := ⟨rfl, (fun c hc => absurd hc (by simp)), (fun h => absurd h (by omega))⟩
theorem bys_nine (w : World) (fr : Nat × Nat) : Bys (w.alloc (.cells #[.int .u8 49, .int .u8 50, .int .u8 51, .int .u8 52, .int .u8 53, .int .u8 54, .int .u8 55, .int .u8 56, .int .u8 57] 5 fr)) (some ⟨w.heap.size, 0, none⟩) 9 nine := Bys.const w _ nine fr 9 rfl rfl (by decide)
theorem bys_four (w : World) (fr : Nat × Nat) : Bys (w.alloc (.cells #[.int .u8 49, .int .u8 50, .int .u8 51, .int .u8 52] 5 fr)) (some ⟨w.heap.size, 0, none⟩) 4 four := Bys.const w _ four fr 4 rfl rfl (by decide)
theorem bys_five (w : World) (fr : Nat × Nat) : Bys (w.alloc (.cells #[.int .u8 53, .int .u8 54, .int .u8 55, .int .u8 56, .int .u8 57] 5 fr)) (some ⟨w.heap.size, 0, none⟩) 5 five := Bys.const w _ five fr 5 rfl rfl (by decide)
theorem bys_closed (w : World) (fr : Nat × Nat) : Bys (w.alloc (.cells #[.int .u8 49, .int .u8 50, .int .u8 51, .int .u8 52, .int .u8 53, .int .u8 54, .int .u8 55, .int .u8 56, .int .u8 57, .int .u8 38, .int .u8 57, .int .u8 244, .int .u8 203] 5 fr)) (some ⟨w.heap.size, 0, none⟩) 13 closed := Bys.const w _ closed fr 13 rfl rfl (by decide)
theorem small_len (n : Nat) (h : n ≤ 1000000) : n ≤ maxLen := by unfold maxLen; omega

/-- Of, with a world of its own behind it. -/
theorem of_bytes' (a : Option Addr) (n cap : Nat) (l : List Nat) (w : World) (hB : Bys w a n l) (hn : n ≤ maxLen) :
    Calls Try.prog 11 #[.slice a n cap] w fun e w' => e = .returned (.int .u32 (Crc.crc l : Nat)) ∧ Below w.heap.size w w' :=
  (of_bytes a n cap l w hB hn).mono fun _ _ ⟨he, hw⟩ => ⟨he, hw ▸ Below.refl _ _⟩

theorem join5 (a b : Nat) (w : World) (ha : a < 4294967296) (hb : b < 4294967296) :
    Calls Try.prog 15 #[.int .u32 a, .int .u32 b, .int .u64 5] w fun e w' => e = .returned (.int .u32 (Crc.join a b 5 : Nat)) ∧ Below w.heap.size w w' := join_any a b 5 w ha hb (by decide)

set_option maxHeartbeats 400000 in
theorem known_any (w : World) : Calls Try.prog 9 #[] w fun e w' => e = .returned (.bool true) ∧ Below w.heap.size w w' := by
  have kc := fun (w : World) (C : Array Value) (n c : Nat) => Lib.run_convert_bytes_const (P := Try.prog) w 22 5 C n c Try.underlying22 Try.underlying5
  have l5 : Crc.crc five < 4294967296 := Crc.crc_lt _ (by decide)
  have l4 : Crc.crc four < 4294967296 := Crc.crc_lt _ (by decide)
  go_enter Try.func9, Try.ntmps9
  go_wp2_with fail
  with_reducible refine (of_bytes' _ _ _ nine _ (bys_nine _ _) (small_len _ (by omega))).mono ?_
  rintro e w2 ⟨rfl, hb2⟩
  rw [crc_nine]
  go_wp2_with fail
  with_reducible refine (of_bytes _ _ _ [] _ (Bys.none_ _) (small_len _ (by omega))).mono ?_
  rintro e w3 ⟨rfl, rfl⟩
  rw [Crc.crc_nil]
  go_wp2_with fail
  with_reducible refine (of_bytes' _ _ _ four _ (bys_four _ _) (small_len _ (by omega))).mono ?_
  rintro e w4 ⟨rfl, hb4⟩
  go_wp2_with fail
  with_reducible refine (of_bytes' _ _ _ five _ (bys_five _ _) (small_len _ (by omega))).mono ?_
  rintro e w5 ⟨rfl, hb5⟩
  go_wp2_with fail
  with_reducible refine (join5 _ _ _ l4 l5).mono ?_
  rintro e w6 ⟨rfl, hb6⟩
  rw [join_nine]
  go_wp2_with fail
  with_reducible refine (holds_any _ _ _ closed _ (bys_closed _ _) (Nat.le_refl _) (small_len _ (by omega))).mono ?_
  rintro e w7 ⟨rfl, hb7⟩
  rw [holds_closed]
  go_wp2
  go_ret
  have s2 := hb2.size
  have s4 := hb4.size
  have s5 := hb5.size
  have s6 := hb6.size
  rw [size_one] at s2 s4 s5
  refine ⟨rfl, ?_⟩
  have q2 := ((Below.refl w.heap.size w).alloc (Nat.le_refl _) _).trans (hb2.mono (by rw [size_one]; omega))
  have q4 := (q2.alloc (by omega) _).trans (hb4.mono (by rw [size_one]; omega))
  have q5 := (q4.alloc (by omega) _).trans (hb5.mono (by rw [size_one]; omega))
  have q6 := q5.trans (hb6.mono (by omega))
  exact (q6.alloc (by omega) _).trans (hb7.mono (by rw [size_one]; omega))

end Go.Proofs.Ytbmempjedpgfdaa
