/-
  The contract of Holds: for every slice of bytes.
-/
import Derived.Test.YtbmempjedpgfdaaMore
namespace Go.Proofs.Ytbmempjedpgfdaa
open Go.RowKit

theorem Bys.drewN {w : World} {a : Option Addr} {n : Nat} {l : List Nat} (h : Bys w a n l) (k : Nat) : Bys (w.drewN k) a n l := h
theorem Bys.front {w : World} {a : Option Addr} {n : Nat} {l : List Nat} (h : Bys w a n l) (m : Nat) (hm : m ≤ n) : Bys w a m (l.take m) := by
  obtain ⟨h1, h2, h3⟩ := h
  refine ⟨by rw [List.length_take]; omega, fun c hc => h2 c (List.mem_of_mem_take hc), fun h0 => ?_⟩
  obtain ⟨b, off, e, hc⟩ := h3 (by omega)
  refine ⟨b, off, e, fun i hi => ?_⟩
  rw [hc i (by omega)]
  simp [List.getD, hi]

/-- The last four bytes are the sum of those ahead of them, the lowest first. -/
def holdsB (l : List Nat) : Bool := decide (4 ≤ l.length ∧ l.drop (l.length - 4) = Crc.le (Crc.crc (l.take (l.length - 4))))

theorem le_getD (s k : Nat) (h : k < 4) : (Crc.le s).getD k 0 = s / 2 ^ (8 * k) % 256 := by
  rcases k with _ | _ | _ | _ | k
  · simp [Crc.le]
  · simp [Crc.le]
  · simp [Crc.le]
  · simp [Crc.le]
  · omega

theorem holdsB_no (l : List Nat) (h : l.length < 4) : holdsB l = false := by
  unfold holdsB; rw [decide_eq_false_iff_not]; omega
theorem holdsB_true (l : List Nat) (m : Nat) (hl : l.length = m + 4) (h : ∀ j, j < 4 → l.getD (m + j) 0 = (Crc.le (Crc.crc (l.take m))).getD j 0) : holdsB l = true := by
  unfold holdsB
  rw [hl, Nat.add_sub_cancel]
  rw [decide_eq_true_iff]
  refine ⟨by omega, ?_⟩
  apply List.ext_getElem
  · simp [hl, Crc.le]
  · intro i h1 h2
    have hi : i < 4 := by simpa [Crc.le] using h2
    have := h i hi
    simp only [List.getD_eq_getElem?_getD] at this
    rw [List.getElem?_eq_getElem (by omega), List.getElem?_eq_getElem h2] at this
    simpa using this
theorem holdsB_false (l : List Nat) (m k : Nat) (hl : l.length = m + 4) (h : l.getD (m + k) 0 ≠ (Crc.le (Crc.crc (l.take m))).getD k 0) : holdsB l = false := by
  unfold holdsB
  rw [hl, Nat.add_sub_cancel, decide_eq_false_iff_not]
  rintro ⟨_, e⟩
  apply h
  rw [← e]
  simp [List.getD]

theorem byte_cast (s k : Nat) : (s : Int) / 2 ^ (8 * k) % 256 = ((s / 2 ^ (8 * k) % 256 : Nat) : Int) := by
  rw [Int.natCast_emod, Int.natCast_ediv, Int.natCast_pow]; rfl
theorem byte_same (y s k : Nat) (h : y = s / 2 ^ (8 * k) % 256) : ((y : Int) != (s : Int) / 2 ^ (8 * k) % 256) = false := by
  rw [byte_cast, ← h]; simp
theorem byte_other (y s k : Nat) (h : ¬ y = s / 2 ^ (8 * k) % 256) : ((y : Int) != (s : Int) / 2 ^ (8 * k) % 256) = true := by
  rw [byte_cast, bne_iff_ne]
  generalize s / 2 ^ (8 * k) % 256 = z at *
  omega

set_option maxHeartbeats 400000 in
theorem holds_no (a : Option Addr) (n cap : Nat) (w : World) (h4 : n < 4) :
    Calls Try.prog 18 #[.slice a n cap] w fun e w' => e = .returned (.bool false) ∧ Below w.heap.size w w' := by
  go_enter Try.func18, Try.ntmps18
  go_wp2
  go_ret
  exact ⟨rfl, Below.refl _ _⟩

theorem below_drewN {B : Nat} {a w : World} (h : Below B a w) (n : Nat) : Below B a (w.drewN n) := ⟨h.os, h.tape, h.output, h.size, h.block⟩

set_option maxHeartbeats 400000 in
theorem holds_yes (a : Option Addr) (n cap : Nat) (l : List Nat) (w : World) (hB : Bys w a n l) (h4 : 4 ≤ n) (hcap : n ≤ cap) (hn : cap ≤ maxLen) :
    Calls Try.prog 18 #[.slice a n cap] w fun e w' => e = .returned (.bool (holdsB l)) ∧ Below w.heap.size w w' := by
  have hn1 : n ≤ maxLen := by omega
  obtain ⟨m, rfl⟩ : ∃ m, n = m + 4 := ⟨n - 4, by omega⟩
  obtain ⟨b, off, rfl, hc⟩ := hB.2.2 (by omega)
  have hF := hB.front m (by omega)
  have hsl := Crc.crc_lt (l.take m) hF.2.1
  have hyes := holdsB_true l m hB.1
  have hno := holdsB_false l m
  have HB := Lib.hid hB
  have HF := Lib.hid hF
  have HN := Lib.hid (show m ≤ maxLen by omega)
  have HY := Lib.hid hyes
  have HO := Lib.hid hno
  unfold maxLen at hn hn1
  have HC := Lib.hid hc
  clear hB hF hc hyes hno
  have hd0 : decide ((m : Int) + 4 < 4) = false := by simp; omega
  go_enter Try.func18, Try.ntmps18
  go_wp2_with fail
  go_quiet (fail)
  go_wp2_with fail
  with_reducible refine (of_bytes _ _ _ _ _ (HF.out.drewN _) HN.out).mono ?_
  rintro e w2 ⟨rfl, rfl⟩
  generalize Crc.crc (l.take m) = s at *
  go_wp2_with fail
  go_loop [25] (fun i => ∃ k : Nat, k ≤ 4 ∧ i = .int .i64 k ∧ ∀ j, j < k → l.getD (m + j) 0 = (Crc.le s).getD j 0) (fun i => 4 - (intOf i).toNat)
  case atStart => exact ⟨0, by omega, rfl, fun j hj => by omega⟩
  case round =>
    obtain ⟨k, hk, rfl, hall⟩ := hrel
    have HA := Lib.hid hall
    clear hall
    by_cases hlt : k < 4
    · have hck := HC.out (m + k) (by omega)
      rw [← Nat.add_assoc] at hck
      have hby := getD_lt l HB.out.2.1 (m + k)
      have hle := le_getD s k hlt
      generalize hy : l.getD (m + k) 0 = y at *
      have HYY := Lib.hid hy
      have HL := Lib.hid hle
      clear hy hle
      by_cases he : y = s / 2 ^ (8 * k) % 256
      · have hq := byte_same y s k he
        have HE := Lib.hid he
        clear he
        go_wp2
        go_round
        case rel =>
          refine ⟨k + 1, by omega, by go_num, fun j hj => ?_⟩
          by_cases hjk : j = k
          · subst hjk; rw [HYY.out, HL.out]; exact HE.out
          · exact HA.out j (by omega)
        case measure => simp [intOf]; omega
      · have hq := byte_other y s k he
        have HE := Lib.hid he
        clear he
        go_wp2
        go_ret
        exact ⟨by rw [HO.out k HB.out.1 (by rw [HYY.out, HL.out]; exact HE.out)]; rfl, below_drewN (Below.refl _ _) _⟩
    · have hk2 : k = 4 := by omega
      subst hk2
      go_wp2
      go_ret
      exact ⟨by rw [HY.out HA.out]; rfl, below_drewN (Below.refl _ _) _⟩

theorem holds_any (a : Option Addr) (n cap : Nat) (l : List Nat) (w : World) (hB : Bys w a n l) (hcap : n ≤ cap) (hn : cap ≤ maxLen) :
    Calls Try.prog 18 #[.slice a n cap] w fun e w' => e = .returned (.bool (holdsB l)) ∧ Below w.heap.size w w' := by
  by_cases h4 : 4 ≤ n
  · exact holds_yes a n cap l w hB h4 hcap hn
  · rw [holdsB_no l (by rw [hB.1]; omega)]
    exact holds_no a n cap w (by omega)

end Go.Proofs.Ytbmempjedpgfdaa
