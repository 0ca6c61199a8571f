/-
  The contracts of oneZero, afterZeros and Join: for every argument.
-/
import Derived.Test.YtbmempjedpgfdaaTab
namespace Go.Proofs.Ytbmempjedpgfdaa
open Go.RowKit

theorem pow_lt (k : Nat) (h : k < 32) : 2 ^ k < 4294967296 := Nat.pow_lt_pow_right (n := 32) (by decide) h
theorem shl_one (k : Nat) (h : k < 32) : (2 : Int) ^ k % 4294967296 = ((2 ^ k : Nat) : Int) := by
  have := pow_lt k h
  have e : ((2 ^ k : Nat) : Int) = (2 : Int) ^ k := Int.natCast_pow 2 k
  rw [← e]
  generalize 2 ^ k = p at *
  omega
theorem and1_u64 (n : Nat) (h : n ≤ 18446744073709551615) : bits .and .u64 (n : Int) 1 = ((n % 2 : Nat) : Int) := by
  rw [and_one_u64 (n : Int) (by omega) (by omega)]; omega
theorem odd64_true (n : Nat) (h : n ≤ 18446744073709551615) (ho : n % 2 = 1) : (bits .and .u64 (n : Int) 1 == 1) = true := by
  rw [and1_u64 n h, ho]; rfl
theorem odd64_false (n : Nat) (h : n ≤ 18446744073709551615) (ho : ¬ n % 2 = 1) : (bits .and .u64 (n : Int) 1 == 1) = false := by
  rw [and1_u64 n h, beq_eq_false_iff_ne]; omega

def OzR (w : World) (i : Value) (wr : World) : Prop :=
  ∃ (k : Nat) (T Z : Array Value), k ≤ 32 ∧ i = .int .i64 k ∧ Lies wr w.heap.size 47 Z ∧ Z.size = 32 ∧ Lies wr (w.heap.size + 1) 47 T ∧ T.size = 32 ∧ (∀ j, j < k → T[j]? = some (.int .u32 (Crc.stn 8 (2 ^ j) : Nat))) ∧ Below w.heap.size w wr

set_option maxHeartbeats 400000 in
theorem oneZero_any (w : World) :
    Calls Try.prog 22 #[] w fun e w' => ∃ D, e = .returned (.agg D) ∧ Tab D (fun i => Crc.stn 8 (2 ^ i)) ∧ Below w.heap.size w w' := by
  go_enter Try.func22, Try.ntmps22
  go_wp2
  go_loopw [3] (OzR w) (fun i _ => 32 - (intOf i).toNat)
  case atStart =>
    exact ⟨0, _, _, by omega, rfl, (Lies.made w 47 _).alloc _, rfl, Lies.made2 w _ 47 _, rfl, fun j hj => by omega, ((Below.refl _ _).alloc (Nat.le_refl _) _).alloc (by simp) _⟩
  case round =>
    obtain ⟨k, T, Z, hk, rfl, hl1, hz1, hl2, hz2, hT, hbel⟩ := hrel
    have HT := Lib.hid hT
    have HZ1 := Lib.hid hz1
    have HZ2 := Lib.hid hz2
    clear hT hz1 hz2
    by_cases hlt : k < 32
    · have hc3 := (hl2.cell k).trans (Array.getElem?_eq_getElem (by rw [HZ2.out]; exact hlt))
      have hf3 := hl2.free k
      have hp := pow_lt k hlt
      go_wp2_with fail
      rw [shl_one k hlt]
      refine (step_any (2 ^ k) _ hp).mono ?_
      rintro e w2 ⟨rfl, rfl⟩
      go_wp2
      go_roundw
      case rel =>
        refine ⟨k + 1, _, Z, by omega, by go_num, hl1.other (a := ⟨w.heap.size + 1, k, none⟩) (by simp) _, HZ1.out, hl2.put k _, by rw [Array.size_setIfInBounds]; exact HZ2.out, fun j hj => ?_, hbel.setCell (by simp) _⟩
        have hz2 := HZ2.out
        rw [Array.getElem?_setIfInBounds]
        by_cases hjk : k = j
        · subst hjk; rw [if_pos rfl, if_pos (by omega)]
        · rw [if_neg hjk]; exact HT.out j (by omega)
      case measure => simp [intOf]; omega
    · have hk2 : k = 32 := by omega
      subst hk2
      have hTab : Tab T (fun i => Crc.stn 8 (2 ^ i)) := ⟨HZ2.out, HT.out⟩
      have hfin := hl1.puts T (by rw [HZ1.out, HZ2.out])
      have hbf := below_puts hbel (b := w.heap.size) (by omega) T.toList 0
      have HTab := Lib.hid hTab
      have HFin := Lib.hid hfin
      clear hTab hfin
      go_wp2_with (first
        | ((with_reducible refine wpl_load47 (some 12) _ _ _ (.tmp 1) _ T ?hx hl2 HZ2.out ?_); (case hx => rfl))
        | ((with_reducible refine wpl_store47 _ _ _ (.tmp 0) (.tmp 12) _ T Z _ ?hx ?hy hl1 HZ1.out HTab.out ?_); (case hx => rfl); (case hy => rfl)))
      refine bodyPost_ret (v := .agg T) (results_cell_row Try.results22 _ _ w.heap.size 47 T (0, 0) _ rfl HFin.out Try.underlying47 rfl (by rw [HZ2.out]; rfl)) rfl ⟨T, rfl, HTab.out, hbf⟩

def AzR (r n : Nat) (w : World) (x y p : Value) (wr : World) : Prop :=
  ∃ (r' n' m g : Nat) (C : Array Value), x = .int .u32 r' ∧ y = .int .u64 n' ∧ p = .pointer (some ⟨g, 0, none⟩) ∧ r' < 4294967296 ∧ n' ≤ n ∧ Lies wr g 47 C ∧ Tab C (fun i => Crc.stn (8 * m) (2 ^ i)) ∧ w.heap.size ≤ g ∧ Crc.stn (8 * m * n') r' = Crc.stn (8 * n) r ∧ Below w.heap.size w wr

theorem azr_step (r n : Nat) (w W : World) (x n' m : Nat) (Z E : Array Value) (hx : x < 4294967296) (hn : n' ≤ n) (hZ : Z.size = 32)
    (hE : Tab E (fun i => Crc.acc (fun i => Crc.stn (8 * m) (2 ^ i)) (Crc.stn (8 * m) (2 ^ i)) 32))
    (hA : ∀ x, x < 4294967296 → Crc.acc (fun i => Crc.stn (8 * m) (2 ^ i)) x 32 = Crc.stn (8 * m) x)
    (hb : Below w.heap.size w W) (he : Crc.stn (8 * (2 * m) * (n' / 2)) x = Crc.stn (8 * n) r) :
    AzR r n w (.int .u32 x) (.int .u64 ((n' : Int) / 2)) (.pointer (some ⟨W.heap.size, 0, none⟩)) ((W.alloc (.cells Z 47)).setCells W.heap.size 0 E.toList) := by
  refine ⟨x, n' / 2, 2 * m, W.heap.size, E, rfl, by simp, rfl, hx, by omega, (Lies.made W 47 Z).puts E (by rw [hE.len, hZ]), ⟨hE.1, fun i hi => ?_⟩, hb.size, he, below_puts (hb.alloc hb.size _) hb.size _ _⟩
  have := hE.2 i hi
  rw [this]
  have e : Crc.acc (fun i => Crc.stn (8 * m) (2 ^ i)) (Crc.stn (8 * m) (2 ^ i)) 32 = Crc.stn (8 * (2 * m)) (2 ^ i) := by
    rw [hA _ (Crc.stn_lt _ _ (pow_lt i hi)), ← Crc.stn_add]
    congr 1; omega
  show some (Value.int .u32 ((Crc.acc (fun i => Crc.stn (8 * m) (2 ^ i)) (Crc.stn (8 * m) (2 ^ i)) 32 : Nat) : Int)) = _
  rw [e]

theorem az_odd (m n' r' : Nat) (ho : n' % 2 = 1) : Crc.stn (8 * (2 * m) * (n' / 2)) (Crc.stn (8 * m) r') = Crc.stn (8 * m * n') r' := by
  rw [← Crc.stn_add]
  congr 1
  have h1 : n' = 2 * (n' / 2) + 1 := by omega
  generalize n' / 2 = q at *
  subst h1
  rw [Nat.mul_add, Nat.mul_one, Nat.add_comm, ← Nat.mul_assoc, ← Nat.mul_assoc]
  congr 2
  omega
theorem az_even (m n' r' : Nat) (ho : ¬ n' % 2 = 1) : Crc.stn (8 * (2 * m) * (n' / 2)) r' = Crc.stn (8 * m * n') r' := by
  congr 1
  have h1 : n' = 2 * (n' / 2) := by omega
  generalize n' / 2 = q at *
  subst h1
  rw [← Nat.mul_assoc, ← Nat.mul_assoc]
  congr 1
  omega

set_option maxHeartbeats 400000 in
theorem afterZeros_any (r n : Nat) (w : World) (hr : r < 4294967296) (hn : n ≤ 18446744073709551615) :
    Calls Try.prog 21 #[.int .u32 r, .int .u64 n] w fun e w' => e = .returned (.int .u32 (Crc.stn (8 * n) r : Nat)) ∧ Below w.heap.size w w' := by
  go_enter Try.func21, Try.ntmps21
  go_wp2_with fail
  refine (oneZero_any _).mono ?_
  rintro e w2 ⟨D, rfl, hD, hb⟩
  have HD := Lib.hid hD
  clear hD
  go_wp2_with (first
        | ((with_reducible refine wpl_store47 _ _ _ (.tmp 5) (.tmp 6) _ D _ _ ?hx ?hy (Lies.made _ 47 _) ?hz HD.out ?_); (case hx => rfl); (case hy => rfl); (case hz => rfl)))
  go_loopw [0, 1, 5] (AzR r n w) (fun _ n' _ _ => (intOf n').toNat)
  case atStart =>
    exact ⟨r, n, 1, _, D, rfl, rfl, rfl, hr, Nat.le_refl _, (Lies.made w2 47 _).puts D HD.out.1, HD.out, hb.size, by simp, below_puts (hb.alloc hb.size _) hb.size _ _⟩
  case round =>
    obtain ⟨r', n', m, g, C, rfl, rfl, rfl, hr', hn', hl, hC, hg, heq, hbel⟩ := hrel
    have HC := Lib.hid hC
    have HE := Lib.hid heq
    clear hC heq
    by_cases h0 : n' = 0
    · subst h0
      go_wp2
      go_ret
      exact ⟨ret_int (by rw [← HE.out]; rfl), hbel⟩
    · have hne : ((n' : Int) != 0) = true := by rw [bne_iff_ne]; omega
      have hfl : ∀ i, i < 32 → Crc.stn (8 * m) (2 ^ i) < 4294967296 := fun i hi => Crc.stn_lt _ _ (pow_lt i hi)
      have HF := Lib.hid hfl
      have hacc : ∀ x, x < 4294967296 → Crc.acc (fun i => Crc.stn (8 * m) (2 ^ i)) x 32 = Crc.stn (8 * m) x := fun x hx => by
        rw [Crc.acc_stn, Nat.mod_eq_of_lt (by simpa using hx)]
      have HA := Lib.hid hacc
      clear hfl hacc
      by_cases ho : n' % 2 = 1
      · have hodd := odd64_true n' (by omega) ho
        go_wp2_with (first
          | ((with_reducible refine wpl_load47 (some 14) _ _ _ (.tmp 5) _ C ?hx hl HC.out.len ?_); (case hx => rfl)))
        refine (of_any C _ r' _ HC.out hr' HF.out).mono ?_
        rintro e w3 ⟨rfl, hb3⟩
        rw [HA.out r' hr']
        have hl3 := hl.below hb3 hl.lt
        go_wp2_with (first
          | ((with_reducible refine wpl_load47 (some 17) _ _ _ (.tmp 5) _ C ?hx hl3 HC.out.len ?_); (case hx => rfl)))
        refine (squared_any C _ _ HC.out HF.out).mono ?_
        rintro e w4 ⟨E, rfl, hE, hb4⟩
        have HE2 := Lib.hid hE
        clear hE
        have hl4 := hl3.below hb4 hl3.lt
        have hl5 := hl4.puts E (by rw [HE2.out.len, HC.out.len])
        go_wp2_with (first
          | ((with_reducible refine wpl_store47 _ _ _ (.tmp 5) (.tmp 18) _ E C _ ?hx ?hy hl4 HC.out.len HE2.out ?_); (case hx => rfl); (case hy => rfl))
          | ((with_reducible refine wpl_load47 (some 19) _ _ _ (.tmp 5) _ E ?hx hl5 HE2.out.len ?_); (case hx => rfl))
          | ((with_reducible refine wpl_store47 _ _ _ (.tmp 5) (.tmp 19) _ E _ _ ?hx ?hy (Lies.made _ 47 _) ?hz HE2.out ?_); (case hx => rfl); (case hy => rfl); (case hz => rfl)))
        go_roundw
        case rel => exact azr_step r n w _ _ n' m _ E (Crc.stn_lt _ _ hr') hn' rfl HE2.out HA.out (below_puts ((hbel.trans (hb3.mono hbel.size)).trans (hb4.mono (Nat.le_trans hbel.size hb3.size))) hg _ _) ((az_odd m n' r' ho).trans HE.out)
        case measure => simp [intOf]; omega
      · have hodd := odd64_false n' (by omega) ho
        go_wp2_with (first
          | ((with_reducible refine wpl_load47 (some 17) _ _ _ (.tmp 5) _ C ?hx hl HC.out.len ?_); (case hx => rfl)))
        refine (squared_any C _ _ HC.out HF.out).mono ?_
        rintro e w4 ⟨E, rfl, hE, hb4⟩
        have HE2 := Lib.hid hE
        clear hE
        have hl4 := hl.below hb4 hl.lt
        have hl5 := hl4.puts E (by rw [HE2.out.len, HC.out.len])
        go_wp2_with (first
          | ((with_reducible refine wpl_store47 _ _ _ (.tmp 5) (.tmp 18) _ E C _ ?hx ?hy hl4 HC.out.len HE2.out ?_); (case hx => rfl); (case hy => rfl))
          | ((with_reducible refine wpl_load47 (some 19) _ _ _ (.tmp 5) _ E ?hx hl5 HE2.out.len ?_); (case hx => rfl))
          | ((with_reducible refine wpl_store47 _ _ _ (.tmp 5) (.tmp 19) _ E _ _ ?hx ?hy (Lies.made _ 47 _) ?hz HE2.out ?_); (case hx => rfl); (case hy => rfl); (case hz => rfl)))
        go_roundw
        case rel => exact azr_step r n w _ _ n' m _ E hr' hn' rfl HE2.out HA.out (below_puts (hbel.trans (hb4.mono hbel.size)) hg _ _) ((az_even m n' r' ho).trans HE.out)
        case measure => simp [intOf]; omega

set_option maxHeartbeats 400000 in
theorem join_any (a b n : Nat) (w : World) (ha : a < 4294967296) (hb : b < 4294967296) (hn : n ≤ 18446744073709551615) :
    Calls Try.prog 15 #[.int .u32 a, .int .u32 b, .int .u64 n] w fun e w' => e = .returned (.int .u32 (Crc.join a b n : Nat)) ∧ Below w.heap.size w w' := by
  have hx := u32_xor_nat (Crc.stn (8 * n) a) b (Crc.stn_lt _ _ ha) hb
  generalize hq : Crc.stn (8 * n) a = q at *
  have HQ := Lib.hid hq
  clear hq
  go_enter Try.func15, Try.ntmps15
  go_wp2_with fail
  refine (afterZeros_any a n _ ha hn).mono ?_
  rintro e w2 ⟨rfl, hb2⟩
  rw [HQ.out]
  go_wp2
  go_ret
  exact ⟨ret_int (by rw [Crc.join, HQ.out]), hb2⟩

end Go.Proofs.Ytbmempjedpgfdaa
