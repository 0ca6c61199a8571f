/-
  The walk of FrameTurned, out of the contracts.
-/
import Derived.Test.YtaehagejmeimiaaTurnMath
import Derived.Test.YtaehagejmeimiaaCutWalk
namespace Go.Proofs.Ytaehagejmeimiaa
open Go.RowKit

theorem mod_ex (u : Int) (n : Nat) (h0 : 0 < n) (hn : n ≤ 100000) : ∃ k : Nat, k < n ∧ wrap64 ((IntKind.u64.wrap u).tmod (n : Int)) = (k : Int) := by
  have h0 : 0 ≤ IntKind.u64.wrap u := by rw [IntKind.wrap_u64]; omega
  generalize IntKind.u64.wrap u = u at *
  rw [Int.tmod_eq_emod_of_nonneg h0]
  have h1 := Int.emod_nonneg u (show (n : Int) ≠ 0 by omega)
  have h2 := Int.emod_lt_of_pos u (show 0 < (n : Int) by omega)
  refine ⟨(u % (n : Int)).toNat, by omega, ?_⟩
  generalize u % (n : Int) = x at *
  unfold wrap64
  omega
theorem mod8_ex (u : Int) (n : Nat) (h0 : 0 < n) (hn : n ≤ 10000) : ∃ k : Nat, k < 8 * n ∧ wrap64 ((IntKind.u64.wrap u).tmod (8 * (n : Int))) = (k : Int) := by
  have := mod_ex u (8 * n) (by omega) (by omega)
  rwa [show ((8 * n : Nat) : Int) = 8 * (n : Int) from by omega] at this

def wasB (b k : Nat) : Bool := decide (b % 2 ^ k ≠ 0)
theorem pow8 (j : Nat) (h : j < 8) : 2 ^ j < 256 := Nat.pow_lt_pow_right (n := 8) (by decide) h
theorem xor_byte (y j : Nat) (hy : y < 256) (h : j < 8) : bits .xor .u8 (y : Int) ((2 : Int) ^ j % 256) = ((y ^^^ 2 ^ j : Nat) : Int) := by
  have hp := pow8 j h
  have e : (2 : Int) ^ j % 256 = ((2 ^ j : Nat) : Int) := by
    have e : ((2 ^ j : Nat) : Int) = (2 : Int) ^ j := Int.natCast_pow 2 j
    rw [← e]
    generalize 2 ^ j = p at *
    omega
  rw [e]
  exact u8_xor_nat y (2 ^ j) hy hp
theorem wasB_hit (b k : Nat) (ho : b / 2 ^ k % 2 = 1) : wasB b (k + 1) = true := by
  unfold wasB
  rw [decide_eq_true_iff, Nat.mod_pow_succ, ho, Nat.mul_one]
  have := Nat.two_pow_pos k
  omega
theorem mod_miss (b k : Nat) (ho : ¬ b / 2 ^ k % 2 = 1) : b % 2 ^ (k + 1) = b % 2 ^ k := by
  rw [Crc.mod_succ, if_neg ho, Nat.xor_zero]
theorem mod_hit (b k : Nat) (ho : b / 2 ^ k % 2 = 1) : b % 2 ^ (k + 1) = b % 2 ^ k ^^^ 2 ^ k := by
  rw [Crc.mod_succ, if_pos ho]
theorem bit_true (r k : Nat) (h : r < 4294967296) (ho : r / 2 ^ k % 2 = 1) : (bits .and .u32 ((r : Int) / 2 ^ k) 1 == 1) = true := by
  have hd : r / 2 ^ k < 4294967296 := Nat.lt_of_le_of_lt (Nat.div_le_self _ _) h
  have e : (r : Int) / 2 ^ k = ((r / 2 ^ k : Nat) : Int) := by rw [Int.natCast_ediv, Int.natCast_pow]; rfl
  rw [e]; exact odd_true _ hd ho
theorem bit_false (r k : Nat) (h : r < 4294967296) (ho : ¬ r / 2 ^ k % 2 = 1) : (bits .and .u32 ((r : Int) / 2 ^ k) 1 == 1) = false := by
  have hd : r / 2 ^ k < 4294967296 := Nat.lt_of_le_of_lt (Nat.div_le_self _ _) h
  have e : (r : Int) / 2 ^ k = ((r / 2 ^ k : Nat) : Int) := by rw [Int.natCast_ediv, Int.natCast_pow]; rfl
  rw [e]; exact odd_false _ hd ho

/-- The bytes as they stand behind some turns: those ahead, the piece that is turned, those behind. -/
structure Piece (wr : World) (g c : Nat) (pre mid post mi : List Nat) (v f : Nat) (cur : Array Value) : Prop where
  lies : Lies wr g 5 cur
  size : cur.size = c
  len : mi.length = mid.length
  small : ∀ x ∈ mi, x < 256
  cell : ∀ j, j < (pre ++ (mi ++ post)).length → cur[j]? = some (.int .u8 ((pre ++ (mi ++ post)).getD j 0 : Nat))
  num : Crc.num mi = Crc.num mid ^^^ v <<< f

/-- Of what was there only block g has turned. -/
def Only (w1 : World) (g : Nat) (wr : World) : Prop := ∀ j, j < w1.heap.size → j ≠ g → wr.heap[j]? = w1.heap[j]?
theorem Only.set {w1 wr : World} {g : Nat} (h : Only w1 g wr) (o : Nat) (u : Value) : Only w1 g (wr.setCell ⟨g, o, none⟩ u) := fun j hj hne => (heap_setCell_other wr ⟨g, o, none⟩ j u hne).trans (h j hj hne)
theorem Only.owns {w1 wr : World} {g : Nat} (h : Only w1 g wr) {cur : Array Value} (hg : Lies w1 g 5 cur) {B : Nat} {T : TypeId} {v : Value} {n : Nat} {xs : List Value} (hT : T ≠ 5) (ho : w1.ownsRow B T 1 v n xs) : wr.ownsRow B T 1 v n xs := by
  obtain ⟨h0, h1⟩ := ho
  refine ⟨h0, ?_⟩
  rcases h1 with h1 | ⟨g', cap, cu, hv, hg0, hh, hr⟩
  · exact .inl h1
  · refine .inr ⟨g', cap, cu, hv, hg0, (h g' (Lies.lt (t := T) hh) ?_).trans hh, hr⟩
    rintro rfl
    unfold Lies at hg
    rw [hh] at hg
    injection hg with hp
    injection hp with _ h2
    exact hT h2

def TuR (w w1 : World) (g c : Nat) (pre mid post : List Nat) (f by_ : Nat) (was i : Value) (wr : World) : Prop :=
  ∃ (k : Nat) (mi : List Nat) (cur : Array Value), k ≤ 32 ∧ f + k ≤ 8 * mid.length ∧ i = .int .i64 k ∧ was = .bool (wasB by_ k) ∧ Piece wr g c pre mid post mi (by_ % 2 ^ k) f cur ∧ Below w.heap.size w wr ∧ Only w1 g wr

theorem getD_mid (pre mi post : List Nat) (q : Nat) (h : q < mi.length) : (pre ++ (mi ++ post)).getD (pre.length + q) 0 = mi.getD q 0 := by
  rw [List.getD_eq_getElem?_getD, List.getD_eq_getElem?_getD, List.getElem?_append_right (by omega), show pre.length + q - pre.length = q by omega, List.getElem?_append_left h]
theorem set_mid (pre mi post : List Nat) (q y : Nat) (h : q < mi.length) : (pre ++ (mi ++ post)).set (pre.length + q) y = pre ++ (mi.set q y ++ post) := by
  rw [List.set_append_right _ _ (by omega), show pre.length + q - pre.length = q by omega, List.set_append_left q y h]

theorem Piece.hit {wr : World} {g c : Nat} {pre mid post mi : List Nat} {by_ f k : Nat} {cur : Array Value} (h : Piece wr g c pre mid post mi (by_ % 2 ^ k) f cur) (hfk : f + k < 8 * mid.length) (hc : (pre ++ (mi ++ post)).length ≤ c) (ho : by_ / 2 ^ k % 2 = 1)
    {y : Nat} (hy : mi.getD ((f + k) / 8) 0 = y) {q s : Nat} (hq : q = pre.length + (f + k) / 8) (hs : s = (f + k) % 8) :
    Piece (wr.setCell ⟨g, q, none⟩ (.int .u8 (bits .xor .u8 (y : Int) ((2 : Int) ^ s % 256)))) g c pre mid post (mi.set ((f + k) / 8) (y ^^^ 2 ^ ((f + k) % 8))) (by_ % 2 ^ (k + 1)) f
      (cur.setIfInBounds q (.int .u8 (bits .xor .u8 (y : Int) ((2 : Int) ^ s % 256)))) := by
  subst hs
  have hyb : y < 256 := by rw [← hy]; exact getD_lt mi h.small _
  have hj : (f + k) % 8 < 8 := by omega
  have hlen := h.len
  have hqm : (f + k) / 8 < mi.length := by rw [hlen]; omega
  rw [xor_byte y ((f + k) % 8) hyb hj]
  have hset := Crc.num_set mi (f + k) hqm
  rw [hy] at hset
  refine ⟨h.lies.put q _, by rw [Array.size_setIfInBounds]; exact h.size, by rw [List.length_set]; exact h.len, ?_, ?_, ?_⟩
  · intro x hx
    rcases List.mem_or_eq_of_mem_set hx with h1 | h1
    · exact h.small x h1
    · rw [h1]; exact Nat.xor_lt_two_pow (n := 8) hyb (pow8 _ hj)
  · intro j hjn
    rw [← set_mid pre mi post _ _ hqm, ← hq] at hjn ⊢
    rw [List.length_set] at hjn
    rw [Array.getElem?_setIfInBounds]
    by_cases hqj : q = j
    · subst hqj
      rw [if_pos rfl, if_pos (by rw [h.size]; omega)]
      rw [List.getD_eq_getElem?_getD, List.getElem?_set_self hjn]
      rfl
    · rw [if_neg hqj, h.cell j hjn, List.getD_eq_getElem?_getD, List.getD_eq_getElem?_getD, List.getElem?_set_ne hqj]
  · rw [hset, h.num, mod_hit by_ k ho, Nat.shiftLeft_xor_distrib, Nat.xor_assoc]
    congr 2
    rw [Nat.shiftLeft_eq, ← Nat.pow_add]
    congr 1; omega

theorem Piece.bys {wr : World} {g c : Nat} {pre mid post mi : List Nat} {v f : Nat} {cur : Array Value} (h : Piece wr g c pre mid post mi v f cur) (h1 : ∀ x ∈ pre, x < 256) (h2 : ∀ x ∈ post, x < 256) {L : Nat} (hL : (pre ++ (mi ++ post)).length = L) : Bys wr (some ⟨g, 0, none⟩) L (pre ++ (mi ++ post)) := by
  refine ⟨hL, ?_, fun _ => ⟨g, 0, rfl, fun i hi => ?_⟩⟩
  · intro x hx
    rcases List.mem_append.1 hx with hx | hx
    · exact h1 x hx
    · rcases List.mem_append.1 hx with hx | hx
      · exact h.small x hx
      · exact h2 x hx
  · rw [Nat.zero_add, h.lies.cell, h.cell i (by omega)]

/-- What is asked of the bytes ahead, in the middle and behind: with the middle as it was they are the row; with bits turned the row ends ahead of frame k. -/
structure Spot (good : List (List Nat)) (k : Nat) (pre mid post : List Nat) : Prop where
  same : pre ++ (mid ++ post) = Frm.row good
  small : (∀ x ∈ pre, x < 256) ∧ (∀ x ∈ mid, x < 256) ∧ ∀ x ∈ post, x < 256
  hurt : ∀ mi v f, mi.length = mid.length → (∀ x ∈ mi, x < 256) → f ≤ 8 * mid.length → v < 4294967296 → v <<< f < 2 ^ (8 * mid.length) → Crc.num mi = Crc.num mid ^^^ v <<< f → v ≠ 0 →
    ∃ r, pre ++ (mi ++ post) = Frm.row (good.take k) ++ r ∧ Frm.opn r = none ∧ Frm.endOf r = 31

theorem row_small (ls : List (List Nat)) (h : ∀ x ∈ ls, ∀ c ∈ x, c < 256) : ∀ c ∈ Frm.row ls, c < 256 := by
  induction ls with
  | nil => intro c hc; simp [Frm.row_nil] at hc
  | cons x t ih =>
    intro c hc
    rw [Frm.row_cons] at hc
    rcases List.mem_append.1 hc with hc | hc
    · exact Frm.frm_small x (h x (by simp)) c hc
    · exact ih (fun y hy => h y (by simp [hy])) c hc

theorem spot_body (good : List (List Nat)) (k : Nat) (hk : k < good.length) (hs : Frm.Short good) (hb : ∀ x ∈ good, ∀ c ∈ x, c < 256) :
    Spot good k (Frm.row (good.take k) ++ Frm.head good[k].length (Frm.chk good[k])) good[k] (Frm.row (good.drop (k + 1))) := by
  have hx := hs _ (List.getElem_mem hk)
  have hxb := hb _ (List.getElem_mem hk)
  refine ⟨by rw [List.append_assoc, ← Frm.row_mid good k hk], ⟨?_, hxb, row_small _ (fun x hx => hb x (List.mem_of_mem_drop hx))⟩, ?_⟩
  · intro c hc
    rcases List.mem_append.1 hc with hc | hc
    · exact row_small _ (fun x hx => hb x (List.mem_of_mem_take hx)) c hc
    · exact Frm.head_small _ _ c hc
  · intro mi v f h1 h2 h3 h4 h5 h6 h7
    refine ⟨Frm.head good[k].length (Frm.chk good[k]) ++ (mi ++ Frm.row (good.drop (k + 1))), by rw [List.append_assoc], ?_, Frm.endOf_head _ _ _⟩
    rw [← h1]
    exact Frm.opn_hurt mi _ _ (by omega) h2 (Frm.chk_lt _ hxb) (Frm.chk_turned _ _ v f h1 h3 h4 h5 h6 h7)

theorem spot_sum (good : List (List Nat)) (k : Nat) (hk : k < good.length) (hs : Frm.Short good) (hb : ∀ x ∈ good, ∀ c ∈ x, c < 256) :
    Spot good k (Frm.row (good.take k) ++ (215 :: 166 :: Frm.be 2 good[k].length)) (Frm.be 4 (Frm.chk good[k])) (good[k] ++ Frm.row (good.drop (k + 1))) := by
  have hx := hs _ (List.getElem_mem hk)
  have hxb := hb _ (List.getElem_mem hk)
  have hck := Frm.chk_lt good[k] hxb
  refine ⟨?_, ⟨?_, Frm.be_small _ _, ?_⟩, ?_⟩
  · rw [Frm.row_mid good k hk, Frm.head]
    simp only [List.append_assoc, List.cons_append]
  · intro c hc
    rcases List.mem_append.1 hc with hc | hc
    · exact row_small _ (fun x hx => hb x (List.mem_of_mem_take hx)) c hc
    · simp only [List.mem_cons] at hc
      rcases hc with rfl | rfl | hc
      · decide
      · decide
      · exact Frm.be_small _ _ c hc
  · intro c hc
    rcases List.mem_append.1 hc with hc | hc
    · exact hxb c hc
    · exact row_small _ (fun x hx => hb x (List.mem_of_mem_drop hx)) c hc
  · intro mi v f h1 h2 h3 h4 h5 h6 h7
    rw [Frm.be_len] at h1
    obtain ⟨s, hs1, rfl⟩ := Frm.be_val mi h1 h2
    have hne : s ≠ Frm.chk good[k] := by
      intro e
      rw [e] at h6
      have h8 : v <<< f = 0 := by
        have := congrArg (Crc.num (Frm.be 4 (Frm.chk good[k])) ^^^ ·) h6
        simp only [Nat.xor_self, ← Nat.xor_assoc, Nat.zero_xor] at this
        exact this.symm
      rw [Nat.shiftLeft_eq] at h8
      rcases Nat.mul_eq_zero.1 h8 with h | h
      · exact h7 h
      · exact absurd h (Nat.ne_of_gt (Nat.two_pow_pos f))
    refine ⟨Frm.head good[k].length s ++ (good[k] ++ Frm.row (good.drop (k + 1))), ?_, Frm.opn_hurt good[k] _ _ hx hxb hs1 hne, Frm.endOf_head _ _ _⟩
    rw [Frm.head]
    simp only [List.append_assoc, List.cons_append]

end Go.Proofs.Ytaehagejmeimiaa
