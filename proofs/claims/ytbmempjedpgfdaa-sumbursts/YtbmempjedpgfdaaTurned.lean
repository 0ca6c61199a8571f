/-
  The contract of 'turned': for every slice of at most a hundred thousand bytes, every place and every word.
-/
import Derived.Test.YtbmempjedpgfdaaCopy
namespace Go.Proofs.Ytbmempjedpgfdaa
open Go.RowKit

/-- What 'turned' leaves: a row of the call's own, whose number differs by v at place k; whether v is not nought. -/
def TurnedPost (w : World) (n : Nat) (l : List Nat) (e : Ending) (w' : World) : Prop :=
  ∃ A cap l' v k, e = .returned (.tuple #[.slice A n cap, .bool (decide (v ≠ 0))]) ∧ Bys w' A n l' ∧ n ≤ cap ∧ cap ≤ maxLen ∧ v < 4294967296 ∧ k ≤ 8 * n ∧ v <<< k < 2 ^ (8 * n) ∧ Crc.num l' = Crc.num l ^^^ v <<< k ∧ Below w.heap.size w w'

set_option maxHeartbeats 400000 in
theorem turned_nil (a : Option Addr) (cap : Nat) (at_ : Int) (by_ : Nat) (w : World) (hA : a = none → cap = 0) :
    Calls Try.prog 16 #[.slice a 0 cap, .int .i64 at_, .int .u32 by_] w (TurnedPost w 0 []) := by
  have HA := Lib.hid hA
  clear hA
  go_enter Try.func16, Try.ntmps16
  go_wp2_with fail
  with_reducible refine (copy_any _ _ _ [] _ ?hb HA.out (by omega)).mono ?_
  case hb => exact ⟨rfl, by simp, fun h => absurd h (by omega)⟩
  rintro e w2 ⟨v, rfl, hO, hb2⟩
  go_wp2
  go_ret2
  rcases hO.form with ⟨rfl, _⟩ | ⟨g, cap, cur, rfl, _⟩
  · exact ⟨none, 0, [], 0, 0, rfl, Bys.none_ _, by omega, by unfold maxLen; omega, by decide, by omega, by decide, by simp [Crc.num], hb2⟩
  · have := hO.bys
    exact ⟨_, _, [], 0, 0, rfl, this.1, this.2.1, this.2.2.1, by decide, by omega, by decide, by simp [Crc.num], hb2⟩

theorem from_ex (at_ : Int) (n : Nat) (h0 : 0 < n) (hn : n ≤ 100000) : ∃ f : Nat, f < 8 * n ∧ wrap64 ((IntKind.u64.wrap at_).tmod (8 * (n : Int))) = (f : Int) := by
  rw [IntKind.wrap_u64]
  have h1 : 0 ≤ at_ % 18446744073709551616 := by omega
  rw [Int.tmod_eq_emod_of_nonneg h1]
  generalize at_ % 18446744073709551616 = x at *
  have h2 := Int.emod_nonneg x (b := 8 * (n : Int)) (by omega)
  have h3 := Int.emod_lt_of_pos x (b := 8 * (n : Int)) (by omega)
  generalize x % (8 * (n : Int)) = y at *
  refine ⟨y.toNat, by omega, ?_⟩
  unfold wrap64
  omega

def wasB (b k : Nat) : Bool := decide (b % 2 ^ k ≠ 0)
/-- Behind i of the 32 bits. -/
def TuR (w : World) (l : List Nat) (n f by_ g c : Nat) (was i : Value) (wr : World) : Prop :=
  ∃ (k : Nat) (cur : Array Value) (li : List Nat), k ≤ 32 ∧ f + k ≤ 8 * n ∧ i = .int .i64 k ∧ was = .bool (wasB by_ k) ∧ Lies wr g 5 cur ∧ cur.size = c ∧ li.length = n ∧ (∀ x ∈ li, x < 256) ∧ (∀ j, j < n → cur[j]? = some (.int .u8 (li.getD j 0 : Nat))) ∧ Crc.num li = Crc.num l ^^^ (by_ % 2 ^ k) <<< f ∧ Below w.heap.size w wr

theorem pow8 (j : Nat) (h : j < 8) : 2 ^ j < 256 := Nat.pow_lt_pow_right (n := 8) (by decide) h
theorem xor_byte (y j : Nat) (hy : y < 256) (h : j < 8) : bits .xor .u8 (y : Int) ((2 : Int) ^ j % 256) = ((y ^^^ 2 ^ j : Nat) : Int) := by
  have hp := pow8 j h
  have e : (2 : Int) ^ j % 256 = ((2 ^ j : Nat) : Int) := by
    have e : ((2 ^ j : Nat) : Int) = (2 : Int) ^ j := Int.natCast_pow 2 j
    rw [← e]
    generalize 2 ^ j = p at *
    omega
  rw [e]
  exact u8_xor_nat y (2 ^ j) hy hp

theorem wasB_hit (b k : Nat) (ho : b / 2 ^ k % 2 = 1) : wasB b (k + 1) = true := by
  unfold wasB
  rw [decide_eq_true_iff, Nat.mod_pow_succ, ho, Nat.mul_one]
  have := Nat.two_pow_pos k
  omega
theorem mod_miss (b k : Nat) (ho : ¬ b / 2 ^ k % 2 = 1) : b % 2 ^ (k + 1) = b % 2 ^ k := by
  rw [Crc.mod_succ, if_neg ho, Nat.xor_zero]
theorem mod_hit (b k : Nat) (ho : b / 2 ^ k % 2 = 1) : b % 2 ^ (k + 1) = b % 2 ^ k ^^^ 2 ^ k := by
  rw [Crc.mod_succ, if_pos ho]

theorem tur_miss {w wr : World} {l : List Nat} {n f by_ g c k : Nat} {cur : Array Value} {li : List Nat} (hk : k < 32) (hfk : f + k < 8 * n) (hL : Lies wr g 5 cur) (hcs : cur.size = c) (hli : li.length = n) (hlb : ∀ x ∈ li, x < 256)
    (hcur : ∀ j, j < n → cur[j]? = some (.int .u8 (li.getD j 0 : Nat))) (hnum : Crc.num li = Crc.num l ^^^ (by_ % 2 ^ k) <<< f) (hbel : Below w.heap.size w wr) (ho : ¬ by_ / 2 ^ k % 2 = 1) :
    TuR w l n f by_ g c (.bool (wasB by_ k)) (.int .i64 ((k : Int) + 1)) wr :=
  ⟨k + 1, cur, li, by omega, by omega, by go_num, by rw [wasB, wasB, mod_miss by_ k ho], hL, hcs, hli, hlb, hcur, by rw [mod_miss by_ k ho]; exact hnum, hbel⟩

theorem tur_hit {w wr : World} {l : List Nat} {n f by_ g c k : Nat} {cur : Array Value} {li : List Nat} {y : Nat} (hk : k < 32) (hfk : f + k < 8 * n) (hL : Lies wr g 5 cur) (hcs : cur.size = c) (hnc : n ≤ c) (hli : li.length = n) (hlb : ∀ x ∈ li, x < 256)
    (hcur : ∀ j, j < n → cur[j]? = some (.int .u8 (li.getD j 0 : Nat))) (hnum : Crc.num li = Crc.num l ^^^ (by_ % 2 ^ k) <<< f) (hbel : Below w.heap.size w wr) (hg : w.heap.size ≤ g) (ho : by_ / 2 ^ k % 2 = 1) (hy : li.getD ((f + k) / 8) 0 = y) :
    TuR w l n f by_ g c (.bool true) (.int .i64 ((k : Int) + 1)) (wr.setCell ⟨g, (f + k) / 8, none⟩ (.int .u8 (bits .xor .u8 (y : Int) ((2 : Int) ^ ((f + k) % 8) % 256)))) := by
  have hyb : y < 256 := by rw [← hy]; exact getD_lt li hlb _
  have hj : (f + k) % 8 < 8 := by omega
  rw [xor_byte y ((f + k) % 8) hyb hj]
  have hset := Crc.num_set li (f + k) (by rw [hli]; omega)
  rw [hy] at hset
  refine ⟨k + 1, _, li.set ((f + k) / 8) (y ^^^ 2 ^ ((f + k) % 8)), by omega, by omega, by go_num, by rw [wasB_hit by_ k ho], hL.put ((f + k) / 8) _, by rw [Array.size_setIfInBounds]; exact hcs, by rw [List.length_set]; exact hli, ?_, ?_, ?_, hbel.setCell hg _⟩
  · intro x hx
    rcases List.mem_or_eq_of_mem_set hx with h | h
    · exact hlb x h
    · rw [h]; exact Nat.xor_lt_two_pow (n := 8) hyb (pow8 _ hj)
  · intro j hjn
    rw [Array.getElem?_setIfInBounds]
    by_cases hq : (f + k) / 8 = j
    · subst hq
      rw [if_pos rfl, if_pos (by omega)]
      have : (f + k) / 8 < li.length := by omega
      simp [List.getD, this]
    · rw [if_neg hq, hcur j hjn]
      simp [List.getD, hq]
  · rw [hset, hnum, mod_hit by_ k ho, Nat.shiftLeft_xor_distrib, Nat.xor_assoc]
    congr 2
    rw [Nat.shiftLeft_eq, ← Nat.pow_add]
    congr 1; omega

theorem tur_end {w wr : World} {l : List Nat} {n f by_ g c k : Nat} {cur : Array Value} {li : List Nat} (hfk : f + k ≤ 8 * n) (hby : by_ < 4294967296) (hL : Lies wr g 5 cur) (hnc : n ≤ c) (hc : c ≤ maxLen) (hli : li.length = n) (hlb : ∀ x ∈ li, x < 256)
    (hcur : ∀ j, j < n → cur[j]? = some (.int .u8 (li.getD j 0 : Nat))) (hnum : Crc.num li = Crc.num l ^^^ (by_ % 2 ^ k) <<< f) (hbel : Below w.heap.size w wr) :
    TurnedPost w n l (.returned (.tuple #[.slice (some ⟨g, 0, none⟩) n c, .bool (wasB by_ k)])) wr := by
  refine ⟨some ⟨g, 0, none⟩, c, li, by_ % 2 ^ k, f, rfl, ⟨hli, hlb, fun _ => ⟨g, 0, rfl, fun i hi => ?_⟩⟩, hnc, hc, Nat.lt_of_le_of_lt (Nat.mod_le _ _) hby, by omega, ?_, hnum, hbel⟩
  · rw [Nat.zero_add, hL.cell, hcur i hi]
  · rw [Nat.shiftLeft_eq]
    have h1 : by_ % 2 ^ k < 2 ^ k := Nat.mod_lt _ (Nat.two_pow_pos k)
    have h2 : by_ % 2 ^ k * 2 ^ f < 2 ^ k * 2 ^ f := Nat.mul_lt_mul_of_pos_right h1 (Nat.two_pow_pos f)
    rw [← Nat.pow_add] at h2
    exact Nat.lt_of_lt_of_le h2 (Nat.pow_le_pow_right (by decide) (by omega))

set_option maxHeartbeats 400000 in
theorem turned_any (a : Option Addr) (n cap : Nat) (at_ : Int) (by_ : Nat) (l : List Nat) (w : World) (hB : Bys w a n l) (hA : a = none → cap = 0) (h0 : 0 < n) (hn : n ≤ 100000) (hby : by_ < 4294967296) :
    Calls Try.prog 16 #[.slice a n cap, .int .i64 at_, .int .u32 by_] w (TurnedPost w n l) := by
  have HB := Lib.hid hB
  have HA := Lib.hid hA
  clear hA hB
  have hne : ((n : Int) == 0) = false := by rw [beq_eq_false_iff_ne]; omega
  go_enter Try.func16, Try.ntmps16
  go_wp2_with fail
  with_reducible refine (copy_any _ _ _ _ _ HB.out HA.out (by omega)).mono ?_
  rintro e w2 ⟨v, rfl, hO, hb2⟩
  rcases hO.form with ⟨_, hl⟩ | ⟨g, c, cur, hv, hg, hL, hc1, hc2, hc3, hcur⟩
  · have := HB.out.1
    rw [hl] at this
    simp at this
    omega
  rw [HB.out.1] at hv hc1 hcur
  rw [hv]
  go_wp2_with fail
  obtain ⟨f, hf, he⟩ := from_ex at_ n h0 hn
  rw [he]
  have hl2 := hO.2
  clear he hv hO
  go_loopw [9, 11] (TuR w l n f by_ g c) (fun _ i _ => 32 - (intOf i).toNat)
  case atStart => exact ⟨0, cur, l, by omega, by omega, rfl, by simp [wasB, Nat.mod_one], hL, hc3, HB.out.1, hl2, hcur, by simp [Nat.mod_one], hb2⟩
  case round =>
    clear hcur hL hc3
    obtain ⟨k, cur, li, hk, hfk, rfl, rfl, hL, hcs, hli, hlb, hcur, hnum, hbel⟩ := hrel
    have HL := Lib.hid hL
    have HCS := Lib.hid hcs
    have HLI := Lib.hid hli
    have HLB := Lib.hid hlb
    have HC := Lib.hid hcur
    have HNUM := Lib.hid hnum
    clear hL hcs hli hlb hcur hnum
    by_cases hlt : k < 32 ∧ f + k < 8 * n
    · obtain ⟨hlt1, hlt2⟩ := hlt
      by_cases ho : by_ / 2 ^ k % 2 = 1
      · have hb := bit_true by_ k hby ho
        have hck := (HL.out.cell ((f + k) / 8)).trans (HC.out ((f + k) / 8) (by omega))
        have hfr := HL.out.free ((f + k) / 8)
        have hyb := getD_lt li HLB.out ((f + k) / 8)
        have hd1 : decide ((f : Int) + (k : Int) < 8 * (n : Int)) = true := by simp; omega
        generalize hy : li.getD ((f + k) / 8) 0 = y at *
        have HY := Lib.hid hy
        have HO := Lib.hid ho
        clear hy ho
        go_wp2
        exact ⟨tur_hit hlt1 hlt2 HL.out HCS.out hc1 HLI.out HLB.out HC.out HNUM.out hbel hg HO.out HY.out, by simp [intOf]; omega⟩
      · have hb := bit_false by_ k hby ho
        have hd1 : decide ((f : Int) + (k : Int) < 8 * (n : Int)) = true := by simp; omega
        have HO := Lib.hid ho
        clear ho
        go_wp2
        exact ⟨tur_miss hlt1 hlt2 HL.out HCS.out HLI.out HLB.out HC.out HNUM.out hbel HO.out, by simp [intOf]; omega⟩
    · by_cases hlt1 : k < 32
      · have hd1 : decide ((f : Int) + (k : Int) < 8 * (n : Int)) = false := by simp; omega
        go_wp2
        go_ret2
        exact tur_end hfk hby HL.out hc1 hc2 HLI.out HLB.out HC.out HNUM.out hbel
      · go_wp2
        go_ret2
        exact tur_end hfk hby HL.out hc1 hc2 HLI.out HLB.out HC.out HNUM.out hbel

theorem turned_both (a : Option Addr) (n cap : Nat) (at_ : Int) (by_ : Nat) (l : List Nat) (w : World) (hB : Bys w a n l) (hA : a = none → cap = 0) (hn : n ≤ 100000) (hby : by_ < 4294967296) :
    Calls Try.prog 16 #[.slice a n cap, .int .i64 at_, .int .u32 by_] w (TurnedPost w n l) := by
  by_cases h0 : n = 0
  · subst h0
    have : l = [] := List.eq_nil_of_length_eq_zero hB.1
    subst this
    exact turned_nil a cap at_ by_ w hA
  · exact turned_any a n cap at_ by_ l w hB hA (by omega) hn hby

theorem le_len (s : Nat) : (Crc.le s).length = 4 := rfl
theorem le_small (s : Nat) : ∀ c ∈ Crc.le s, c < 256 := by
  intro c hc
  simp [Crc.le] at hc
  omega
theorem holdsB_le (l : List Nat) (s : Nat) : holdsB (l ++ Crc.le s) = decide (Crc.le s = Crc.le (Crc.crc l)) := by
  unfold holdsB
  rw [List.length_append, le_len, Nat.add_sub_cancel, List.drop_left, List.take_left]
  simp
theorem le_inj (s t : Nat) (hs : s < 4294967296) (ht : t < 4294967296) : Crc.le s = Crc.le t ↔ s = t := by
  constructor
  · intro h
    rw [← Crc.num_le s hs, h, Crc.num_le t ht]
  · intro h; rw [h]
theorem holdsB_own (l : List Nat) : holdsB (l ++ Crc.le (Crc.crc l)) = true := by rw [holdsB_le]; simp
theorem holdsB_other (l : List Nat) (o : Nat) (hl : ∀ c ∈ l, c < 256) (ho : o < 4294967296) : holdsB (l ++ Crc.le o) = ((o : Int) == (Crc.crc l : Int)) := by
  rw [holdsB_le]
  have h := le_inj o (Crc.crc l) ho (Crc.crc_lt l hl)
  by_cases e : o = Crc.crc l
  · rw [decide_eq_true (h.2 e), e]; simp
  · rw [decide_eq_false (fun e2 => e (h.1 e2))]
    symm
    rw [beq_eq_false_iff_ne]
    omega

/-- Four bytes are a number's. -/
theorem four_le (t : List Nat) (ht : t.length = 4) (hb : ∀ c ∈ t, c < 256) : ∃ s, s < 4294967296 ∧ t = Crc.le s := by
  match t, ht with
  | [a, b, c, d], _ =>
    have ha := hb a (by simp)
    have hb1 := hb b (by simp)
    have hc := hb c (by simp)
    have hd := hb d (by simp)
    refine ⟨a + 256 * b + 65536 * c + 16777216 * d, by omega, ?_⟩
    unfold Crc.le
    congr 1
    · omega
    · congr 1
      · omega
      · congr 1
        · omega
        · congr 1
          omega

/-- Whether bytes hold is to be seen by the register behind all of them. -/
theorem holdsB_feed (z : List Nat) (hz : ∀ c ∈ z, c < 256) (h4 : 4 ≤ z.length) : (holdsB z = true) ↔ Crc.feed Crc.ones z = Crc.stn 32 Crc.ones := by
  obtain ⟨s, hs, hs2⟩ := four_le (z.drop (z.length - 4)) (by simp; omega) (fun c hc => hz c (List.mem_of_mem_drop hc))
  have e : z = z.take (z.length - 4) ++ Crc.le s := by rw [← hs2, List.take_append_drop]
  generalize z.take (z.length - 4) = b at e
  subst e
  have hb : ∀ c ∈ b, c < 256 := fun c hc => hz c (List.mem_append_left _ hc)
  rw [← Crc.holds_iff b s hb hs, holdsB_le, decide_eq_true_iff, le_inj s _ hs (Crc.crc_lt b hb)]
  exact ⟨fun h => h.symm, fun h => h.symm⟩

theorem holdsB_turned (x z : List Nat) (v k : Nat) (hx : ∀ c ∈ x, c < 256) (hz : ∀ c ∈ z, c < 256) (h4 : 4 ≤ x.length) (hl : z.length = x.length) (hh : holdsB x = true) (hk : k ≤ 8 * x.length) (hv : v < 4294967296) (hlt : v <<< k < 2 ^ (8 * x.length)) (hd : Crc.num z = Crc.num x ^^^ v <<< k) :
    holdsB z = !decide (v ≠ 0) := by
  have h1 := (holdsB_feed x hx h4).1 hh
  have h2 := holdsB_feed z hz (by omega)
  have h3 := Crc.feed_differ Crc.ones z x v k hl hk hv hlt hd
  rw [h1] at h3
  rw [h3] at h2
  by_cases hv0 : v = 0
  · rw [h2.2 hv0]; simp [hv0]
  · have : holdsB z = false := by
      cases hq : holdsB z with
      | false => rfl
      | true => exact absurd (h2.1 hq) hv0
    rw [this]; simp [hv0]

end Go.Proofs.Ytbmempjedpgfdaa
