/-
  The walk of SumPieces, out of the contracts.
-/
import Derived.Test.YtbmempjedpgfdaaLinWalk
namespace Go.Proofs.Ytbmempjedpgfdaa
open Go.RowKit

/-- A slice of n slices of bytes that reads as ls. -/
def Lists (w : World) (a : Option Addr) (n : Nat) (ls : List (List Nat)) : Prop :=
  ls.length = n ∧ (0 < n → ∃ b off, a = some ⟨b, off, none⟩ ∧ ∀ i, i < n → ∃ A m c, w.cell? ⟨b, off + i, none⟩ = some (.slice A m c) ∧ Bys w A m (ls.getD i []) ∧ m ≤ c ∧ c ≤ maxLen ∧ (A = none → c = 0))

/-- What the first i lists come to, each counted as 3000 at most. -/
def cnt (ls : List (List Nat)) : Nat → Nat
  | 0 => 0
  | i + 1 => cnt ls i + min (ls.getD i []).length 3000

theorem cnt_ge (ls : List (List Nat)) (i : Nat) (n : Nat) (hi : i < n) : min (ls.getD i []).length 3000 ≤ cnt ls n := by
  induction n with
  | zero => omega
  | succ n ih =>
    simp only [cnt]
    by_cases h : i = n
    · subst h; omega
    · have := ih (by omega); omega

def flat (ls : List (List Nat)) (k : Nat) : List Nat := (ls.take k).flatten
theorem flat_zero (ls : List (List Nat)) : flat ls 0 = [] := by simp [flat]
theorem flat_succ (ls : List (List Nat)) (k : Nat) (h : k < ls.length) : flat ls (k + 1) = flat ls k ++ ls.getD k [] := by
  unfold flat
  rw [List.take_succ_eq_append_getElem h, List.flatten_append]
  simp [List.getD, h]
theorem flat_len (ls : List (List Nat)) (n : Nat) (hn : n ≤ ls.length) (hs : ∀ i, i < n → (ls.getD i []).length ≤ 3000) : (flat ls n).length = cnt ls n := by
  induction n with
  | zero => simp [flat, cnt]
  | succ n ih =>
    rw [flat_succ ls n (by omega), List.length_append, ih (by omega) (fun i hi => hs i (by omega))]
    simp only [cnt]
    have := hs n (by omega)
    omega
theorem cnt_mono (ls : List (List Nat)) (k n : Nat) (h : k ≤ n) : cnt ls k ≤ cnt ls n := by
  induction n with
  | zero => have : k = 0 := by omega
            subst this; omega
  | succ n ih =>
    by_cases hk : k = n + 1
    · subst hk; omega
    · have := ih (by omega)
      simp only [cnt]; omega

def P1R (ls : List (List Nat)) (n : Nat) (x i : Value) : Prop :=
  ∃ k N : Nat, k ≤ n ∧ i = .int .i64 k ∧ x = .int .i64 N ∧ N = n + cnt ls k ∧ (N ≤ n ∨ N ≤ 6000)

def P2R (w : World) (ls : List (List Nat)) (n : Nat) (all s t i : Value) (wr : World) : Prop :=
  ∃ k : Nat, k ≤ n ∧ i = .int .i64 k ∧ Own wr w.heap.size all (flat ls k) ∧ s = .int .u32 (Crc.crc (flat ls k) : Nat) ∧ t = .int .u32 (Crc.crc (flat ls k) : Nat) ∧ Below w.heap.size w wr

theorem p1_step (ls : List (List Nat)) (n k N m x : Nat) (hk : k < n) (hN : N = n + cnt ls k) (hm : (ls.getD k []).length = m) (hx : min m 3000 = x) (hN3 : N ≤ 3000) :
    P1R ls n (.int .i64 ((N : Int) + (x : Int))) (.int .i64 ((k : Int) + 1)) := by
  refine ⟨k + 1, N + x, by omega, by go_num, by go_num, ?_, by omega⟩
  simp only [cnt]
  rw [hm, hx]; omega

theorem Own.belowOwn {w w' : World} {B : Nat} {v : Value} {l : List Nat} (h : Own w B v l) (hb : Below w.heap.size w w') : Own w' B v l := by
  obtain ⟨⟨h0, h1⟩, h2⟩ := h
  refine ⟨⟨h0, ?_⟩, h2⟩
  rcases h1 with h1 | ⟨g, cap, cur, hv, hg0, hg, hr⟩
  · exact .inl h1
  · exact .inr ⟨g, cap, cur, hv, hg0, Lies.below hg hb (Lies.lt hg), hr⟩

set_option maxHeartbeats 1000000 in
theorem pieces_any (a : Option Addr) (n cap : Nat) (ls : List (List Nat)) (w : World) (hL : Lists w a n ls) (hn : n ≤ maxLen) :
    Calls Try.prog 4 #[.slice a n cap] w fun e w' => e = .returned (.bool true) ∧ Below w.heap.size w w' := by
  unfold maxLen at hn
  have HL := Lib.hid hL
  clear hL
  go_enter Try.func4, Try.ntmps4
  go_wp2_with fail
  go_loop [3, 4] (P1R ls n) (fun _ i => n - (intOf i).toNat)
  case atStart => exact ⟨0, n, by omega, rfl, rfl, rfl, by omega⟩
  case round =>
    obtain ⟨k, N, hk, rfl, rfl, hN, hNb⟩ := hrel
    have HN := Lib.hid hN
    clear hN
    by_cases hlt : k < n
    · obtain ⟨b, off, rfl, hc⟩ := HL.out.2 (by omega)
      obtain ⟨A, m, c, hcell, hbys, hmc, hcm, _⟩ := hc k hlt
      unfold maxLen at hcm
      have hlen := hbys.1
      have HLEN := Lib.hid hlen
      clear hc hbys hlen
      by_cases hN3 : N ≤ 3000
      · have hd : decide ((N : Int) ≤ 3000) = true := by simp; omega
        by_cases hm3 : m ≤ 3000
        · go_wp2
          exact ⟨p1_step ls n k N m m hlt HN.out HLEN.out (by omega) hN3, by simp [intOf]; omega⟩
        · go_wp2
          exact ⟨p1_step ls n k N m 3000 hlt HN.out HLEN.out (by omega) hN3, by simp [intOf]; omega⟩
      · have hd : decide ((N : Int) ≤ 3000) = false := by simp; omega
        go_wp2_with fail
        with_reducible refine (known_any _).mono ?_
        rintro e w2 ⟨rfl, hb⟩
        go_wp2
        go_ret
        exact ⟨rfl, hb⟩
    · have hk2 : k = n := by omega
      subst hk2
      by_cases hN3 : N ≤ 3000
      · have hsm : ∀ i, i < k → (ls.getD i []).length ≤ 3000 := fun i hi => by
          have h1 := cnt_ge ls i k hi
          have h2 := HN.out
          omega
        have hfl : ∀ j, j ≤ k → (flat ls j).length ≤ 3000 := fun j hj => by
          rw [flat_len ls j (by rw [HL.out.1]; exact hj) (fun i hi => hsm i (by omega))]
          have h1 := cnt_mono ls j k hj
          have h2 := HN.out
          omega
        have HSM := Lib.hid hsm
        have HFL := Lib.hid hfl
        clear hsm hfl
        go_wp2_with fail
        with_reducible refine (of_bytes _ _ _ [] _ (Bys.none_ _) (small_len _ (by omega))).mono ?_
        rintro e w2 ⟨rfl, rfl⟩
        go_wp2_with fail
        with_reducible refine (of_bytes _ _ _ [] _ (Bys.none_ _) (small_len _ (by omega))).mono ?_
        rintro e w2 ⟨rfl, rfl⟩
        go_wp2_with fail
        go_loopw [5, 6, 7, 8] (P2R w ls k) (fun _ _ _ i _ => k - (intOf i).toNat)
        case atStart => exact ⟨0, by omega, rfl, by rw [flat_zero]; exact Own.nil _ _, by rw [flat_zero], by rw [flat_zero], Below.refl _ _⟩
        case round =>
          obtain ⟨j, hj, rfl, hO, rfl, rfl, hbel⟩ := hrel
          have HO := Lib.hid hO
          have hcl := Crc.crc_lt (flat ls j) hO.2
          have hfj := HFL.out j hj
          clear hO
          by_cases hlt2 : j < k
          · obtain ⟨b, off, rfl, hc⟩ := HL.out.2 (by omega)
            obtain ⟨A, m, c, hcell, hbys, hmc, hcm, hA⟩ := hc j hlt2
            have hmj : m ≤ 3000 := by rw [← hbys.1]; exact HSM.out j hlt2
            have hsuc := flat_succ ls j (by rw [HL.out.1]; exact hlt2)
            have hc1 := (hbel.cell (block_lt_of_cell hcell)).trans hcell
            have HCELL := Lib.hid hcell
            have HBY := Lib.hid hbys
            have HBY1 := Lib.hid (hbys.below hbel)
            have HSUC := Lib.hid hsuc
            have HA := Lib.hid hA
            have hji : (j : Int) < (k : Int) := by omega
            unfold maxLen at hcm
            clear hcell hbys hsuc hA hc
            generalize ls.getD j [] = lj at *
            go_wp2_with (first
              | ((with_reducible refine wpl_append (some 45) _ _ _ (.tmp 40) (.tmp 44) w.heap.size _ (flat ls j) A m c lj ?hs ?hx HO.out HBY1.out HA.out ?hm hbel.size ?_); (case hs => rfl); (case hx => rfl); (case hm => omega); (intro v' w' ho hg hv); (have hb2 := HO.out.grows hg hbel (Nat.le_refl _) hbel.size); (have hc2 := (hb2.cell (block_lt_of_cell HCELL.out)).trans HCELL.out); (clear hv)))
            have HBY2 := Lib.hid (HBY.out.below hb2)
            have hcl2 := Crc.crc_lt lj HBY.out.2.1
            with_reducible refine (more_any _ _ _ _ _ _ hcl HBY2.out (small_len _ (by omega))).mono ?_
            rintro e w3 ⟨rfl, rfl⟩
            have hmj : Crc.more (Crc.crc (flat ls j)) lj = Crc.crc (flat ls (j + 1)) := by rw [HSUC.out, Crc.more_crc]
            have hjj : Crc.join (Crc.crc (flat ls j)) (Crc.crc lj) m = Crc.crc (flat ls (j + 1)) := by rw [HSUC.out, ← Crc.join_crc, HBY.out.1]
            rw [hmj]
            have o1 := of_bytes A m c lj w'.drew HBY2.out.drew (small_len _ (by omega))
            have j1 := join_any (Crc.crc (flat ls j)) (Crc.crc lj) m w'.drew hcl hcl2 (by omega)
            rw [hjj] at j1
            have O1 := Lib.hid o1
            have J1 := Lib.hid j1
            clear o1 j1 hmj hjj hc1
            have hwm : IntKind.u64.wrap (m : Int) = (m : Int) := by rw [IntKind.wrap_u64]; omega
            go_wp2_with fail
            go_region_held3 (fun w' => w'.cell? ⟨b, off + j, none⟩ = some (.slice A m c))
              (first | go_keep | exact hc5)
              (first
                | (go_at_call 11; (with_reducible refine O1.out.mono ?_); rintro e w4 ⟨rfl, rfl⟩)
                | (go_at_call 15; (with_reducible refine J1.out.mono ?_); rintro e w5 ⟨rfl, hb5⟩; have hc5 := (hb5.cell (block_lt_of_cell hc2)).trans hc2))
            go_wp2
            have hb25 := hb2.trans ((below_drewN (Below.refl _ _) 1 : Below w.heap.size w' (w'.drewN 1)).trans (hb5.mono hb2.size))
            go_roundw
            case rel => exact ⟨j + 1, by omega, by go_num, by rw [HSUC.out]; exact ho.drew.belowOwn hb5, rfl, rfl, hb25⟩
            case measure => simp [intOf]; omega
          · have hjk : j = k := by omega
            subst hjk
            obtain ⟨A, c, rfl, hBz, hc1, hc2, hc3⟩ := HO.out.slice
            have hlen := HFL.out j hj
            have HBZ := Lib.hid hBz
            clear hBz
            go_wp2_with fail
            with_reducible refine (of_bytes _ _ _ _ _ HBZ.out (small_len _ (by omega))).mono ?_
            rintro e w4 ⟨rfl, rfl⟩
            go_wp2_with fail
            with_reducible refine (known_any _).mono ?_
            rintro e w5 ⟨rfl, hb5⟩
            go_wp2
            go_ret
            exact ⟨rfl, hbel.trans (hb5.mono hbel.size)⟩
      · go_wp2_with fail
        with_reducible refine (known_any _).mono ?_
        rintro e w2 ⟨rfl, hb⟩
        go_wp2
        go_ret
        exact ⟨rfl, hb⟩

end Go.Proofs.Ytbmempjedpgfdaa
