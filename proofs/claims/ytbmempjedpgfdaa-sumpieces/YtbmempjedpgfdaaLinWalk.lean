/-
  The walk of SumLinear, out of the contracts.
-/
import Derived.Test.YtbmempjedpgfdaaCopy
import Derived.StillTailTactics
import Derived.Deep.RegionHeld3
import Derived.Deep.AppendLies
import Derived.Laws.MakeOwn
namespace Go.Proofs.Ytbmempjedpgfdaa
open Go.RowKit

theorem Own.drew {w : World} {B : Nat} {v : Value} {l : List Nat} (h : Own w B v l) : Own w.drew B v l := h
theorem Bys.drew {w : World} {a : Option Addr} {n : Nat} {l : List Nat} (h : Bys w a n l) : Bys w.drew a n l := h

/-- 'append' of one byte onto a row of the call's own, where the order is open. -/
theorem stp_append {ops : Array Oper} {a : Act} {w : World} {K : Act → World → Prop} {Q : Exit → Act → World → Prop} {E : Prop} (dst : Option Tmp) (ty : TypeId) (pos : String) (aft : Array Edge) (s x : Operand)
    (B : Nat) (v : Value) (l : List Nat) (A : Option Addr) (m c : Nat) (news : List Nat)
    (hs : a.eval s = v) (hx : a.eval x = .slice A m c) (hown : Own w B v l) (hsrc : Bys w A m news) (hm : 0 < m) (hsm : l.length + m ≤ 1000000) (hB : B ≤ w.heap.size)
    (h : ∀ g cap w', Own w' B (.slice (some ⟨g, 0, none⟩) (l.length + m) cap) (l ++ news) → w.grownBy w' v.ownBlock → K (a.put dst (.slice (some ⟨g, 0, none⟩) (l.length + m) cap)) w') :
    if Region.wanted ⟨dst, .call { callee := .builtin .append, args := #[s, x], argTypes := #[22, 22] }, ty, pos, aft, none⟩ (yielded ops a.tmps) = true then Oper.wp Try.prog ⟨dst, .call { callee := .builtin .append, args := #[s, x], argTypes := #[22, 22] }, ty, pos, aft, none⟩ a w K Q else E := by
  obtain ⟨b, off, rfl, hc⟩ := hsrc.2.2 hm
  refine step_append_lies w (o := ⟨dst, .call { callee := .builtin .append, args := #[s, x], argTypes := #[22, 22] }, ty, pos, aft, none⟩) rfl s x 22 rfl B 5 _ (.int .u8 0) 1 1 Try.underlying22 Try.type5 rfl rfl rfl rfl (by decide) v l.length (vals l) hs hown.1
      ⟨b, off, none⟩ m c (vals news) hx (by simp [vals, hsrc.1]) (hsrc.cells _ rfl) (fun u hu => by simp only [vals, List.mem_map] at hu; obtain ⟨_, _, rfl⟩ := hu; rfl) hm (by unfold maxLen; omega) (by omega) hB w.heap.size rfl ?_
  intro g cap w' h1 h2 _ _
  refine h g cap w' ⟨?_, ?_⟩ h2
  · have e : (l ++ news).length = l.length + m := by rw [List.length_append, hsrc.1]
    rw [e]
    show w'.ownsRow B 5 1 _ (l.length + m) (vals (l ++ news))
    rw [show vals (l ++ news) = vals l ++ vals news from by simp [vals]]
    exact h1
  · intro c hc
    rcases List.mem_append.1 hc with h' | h'
    · exact hown.2 c h'
    · exact hsrc.2.1 c h'

theorem zip_one (la lb : List Nat) (k : Nat) (ha : k < la.length) (hb : k < lb.length) :
    List.zipWith (· ^^^ ·) (la.take (k + 1)) (lb.take (k + 1)) = List.zipWith (· ^^^ ·) (la.take k) (lb.take k) ++ [la.getD k 0 ^^^ lb.getD k 0] := by
  rw [take_one la k ha, take_one lb k hb, List.zipWith_append (by simp; omega)]
  rfl

/-- The cells of n new bytes. -/
def zrow (n : Nat) : Array Value := madeCells #[.int .u8 0] n
theorem run_zrow (n : Nat) (hn : n ≤ 1000000) (w : World) : (Instr.makeSlice 22 (.int .i64 (n : Int)) (.int .i64 (n : Int))).run Try.prog w = .ok (.slice (some ⟨w.heap.size, 0, none⟩) n n) (w.alloc (.cells (zrow n) 5)) := by
  have := run_make (P := Try.prog) w 22 5 _ (.int .u8 0) Try.underlying22 Try.type5 rfl .i64 .i64 (n : Int) (n : Int) (by omega) (by omega) (by show (1 : Int) * (n : Int) ≤ _; omega) (by omega)
  rw [this]
  show Result.ok (Value.slice _ (n : Int).toNat (n : Int).toNat) (w.alloc (.cells (madeCells #[.int .u8 0] ((n : Int).toNat * 1)) 5)) = _
  rw [Int.toNat_natCast, Nat.mul_one]
  rfl
theorem zrow_eq (n : Nat) : zrow n = ((List.replicate n 0).map (fun (c : Nat) => Value.int .u8 (c : Int))).toArray := by
  unfold zrow madeCells
  apply Array.ext
  · simp
  · intro i h1 h2
    simp [Nat.mod_one]
theorem bys_zrow (w : World) (n : Nat) : Bys (w.alloc (.cells (zrow n) 5)) (some ⟨w.heap.size, 0, none⟩) n (List.replicate n 0) :=
  Bys.const w _ _ (0, 0) n (zrow_eq n) (by simp) (by intro c hc; rw [List.eq_of_mem_replicate hc]; decide)

theorem Own.slice {w : World} {B : Nat} {v : Value} {l : List Nat} (h : Own w B v l) : ∃ A c, v = .slice A l.length c ∧ Bys w A l.length l ∧ l.length ≤ c ∧ c ≤ maxLen ∧ (A = none → c = 0) := by
  rcases h.form with ⟨hv, hl⟩ | ⟨g, cap, cur, hv, _⟩
  · subst hl
    exact ⟨none, 0, hv, Bys.none_ w, Nat.le_refl _, by unfold maxLen; omega, fun _ => rfl⟩
  · rw [hv] at h
    have := h.bys
    exact ⟨_, cap, hv, this.1, this.2.1, this.2.2.1, fun h0 => by cases h0⟩

theorem Bys.alloc {w : World} {a : Option Addr} {n : Nat} {l : List Nat} (h : Bys w a n l) (o : Obj) : Bys (w.alloc o) a n l := h.below ((Below.refl _ _).alloc (Nat.le_refl _) o)

/-- Behind k rounds. -/
def LiR (w : World) (la lb : List Nat) (n : Nat) (x i : Value) (wr : World) : Prop :=
  ∃ k : Nat, k ≤ n ∧ i = .int .i64 k ∧ Own wr w.heap.size x (List.zipWith (· ^^^ ·) (la.take k) (lb.take k)) ∧ Below w.heap.size w wr

theorem int_lt (k n m : Nat) (h : k < n) (h2 : n ≤ m) : (k : Int) < (m : Int) := by omega
theorem int_le (n m c : Nat) (h : n ≤ m) (h2 : m ≤ c) : (n : Int) ≤ (c : Int) := by omega

set_option maxHeartbeats 1000000 in
theorem lin_short (a b : Option Addr) (na ca nb cb n : Nat) (la lb : List Nat) (w : World) (hA : Bys w a na la) (hB : Bys w b nb lb) (hna : n ≤ na) (hnb : n ≤ nb) (hs : (n = na ∧ na ≤ nb) ∨ (n = nb ∧ nb < na)) (hn : n ≤ 3000) (hma : na ≤ maxLen) (hmb : nb ≤ maxLen) (hca : na ≤ ca) (hcb : nb ≤ cb) :
    Calls Try.prog 6 #[.slice a na ca, .slice b nb cb] w fun e w' => e = .returned (.bool true) ∧ Below w.heap.size w w' := by
  unfold maxLen at hma hmb
  have HA := Lib.hid hA
  have HB := Lib.hid hB
  clear hA hB
  have hka := int_le _ _ _ hna hca
  have hkb := int_le _ _ _ hnb hcb
  rcases hs with ⟨rfl, hs⟩ | ⟨rfl, hs⟩
  all_goals
    go_enter Try.func6, Try.ntmps6
    go_wp2_with fail
    go_loopw [6, 7] (LiR w la lb n) (fun _ i _ => n - (intOf i).toNat)
    case atStart => exact ⟨0, by omega, rfl, Own.nil _ _, Below.refl _ _⟩
    case round =>
      obtain ⟨k, hk, rfl, hO, hbel⟩ := hrel
      have HO := Lib.hid hO
      clear hO
      by_cases hlt : k < n
      · obtain ⟨ba, oa, rfl, hca1⟩ := HA.out.2.2 (by omega)
        obtain ⟨bb, ob, rfl, hcb1⟩ := HB.out.2.2 (by omega)
        have ha1 := hca1 k (by omega)
        have ha2 := hcb1 k (by omega)
        have hc1 := (hbel.cell (block_lt_of_cell ha1)).trans ha1
        have hc2 := (hbel.cell (block_lt_of_cell ha2)).trans ha2
        have hy1 := getD_lt la HA.out.2.1 k
        have hy2 := getD_lt lb HB.out.2.1 k
        have hzip := zip_one la lb k (by rw [HA.out.1]; omega) (by rw [HB.out.1]; omega)
        have hzl : (List.zipWith (· ^^^ ·) (la.take k) (lb.take k)).length ≤ 3000 := by simp; omega
        clear hca1 hcb1
        generalize la.getD k 0 = y1 at *
        generalize lb.getD k 0 = y2 at *
        generalize List.zipWith (· ^^^ ·) (la.take k) (lb.take k) = zk at *
        have hxx := u8_xor_nat y1 y2 hy1 hy2
        have hxb : y1 ^^^ y2 < 256 := Nat.xor_lt_two_pow (n := 8) hy1 hy2
        have hi1 := int_lt _ _ _ hlt hna
        have hi2 := int_lt _ _ _ hlt hnb
        have HC1 := Lib.hid ha1
        have HC2 := Lib.hid ha2
        have HZ := Lib.hid hzip
        clear ha1 ha2 hzip
        go_wp2_with fail
        go_region_held3 (fun w' => w'.cell? ⟨ba, oa + k, none⟩ = some (.int .u8 (y1 : Nat)) ∧ w'.cell? ⟨bb, ob + k, none⟩ = some (.int .u8 (y2 : Nat)))
          (first | go_keep | exact ⟨hk1, hk2⟩)
          ((refine stp_append (some 32) _ _ _ (.tmp 21) (.tmp 31) w.heap.size _ _ (some ⟨wr.heap.size, 0, none⟩) 1 1 [y1 ^^^ y2] (by rfl) (by rfl) (HO.out.alloc _).drew (Bys.const wr _ [y1 ^^^ y2] (0, 0) 1 (by rfl) (by rfl) (by simp; omega)).drew (by omega) (by omega) (Nat.le_trans hbel.size (by simp)) ?_; intro g cap w1 hown1 hgrow; have hb1 := (HO.out.alloc _).drew.grows hgrow ((hbel.alloc hbel.size _).drew) (Nat.le_refl _) (Nat.le_trans hbel.size (by simp)); have hk1 := (hb1.cell (block_lt_of_cell HC1.out)).trans HC1.out; have hk2 := (hb1.cell (block_lt_of_cell HC2.out)).trans HC2.out))
        go_wp2
        go_roundw
        case rel => exact ⟨k + 1, by omega, by go_num, by rw [HZ.out]; exact hown1, hb1⟩
        case measure => simp [intOf]; omega
      · have hk2 : n = k := by omega
        have hzl : (List.zipWith (· ^^^ ·) (la.take k) (lb.take k)).length = n := by simp [HA.out.1, HB.out.1]; omega
        have hlin := Crc.linear (la.take n) (lb.take n) (by rw [List.length_take, List.length_take, HA.out.1, HB.out.1]; omega)
        rw [show (la.take n).length = n from by rw [List.length_take, HA.out.1]; omega] at hlin
        have hO := HO.out
        clear HO
        subst hk2
        generalize List.zipWith (· ^^^ ·) (la.take n) (lb.take n) = Z at *
        obtain ⟨A, c, rfl, hBz, hc1, hc2, hc3⟩ := hO.slice
        rw [hzl] at *
        have hsm := small_len n (by omega)
        have zA0 := (HA.out.below hbel).front n (by omega)
        have zB0 := (HB.out.below hbel).front n (by omega)
        have oA0 := of_bytes a n ca (la.take n) wr.drew zA0.drew hsm
        have oB0 := of_bytes b n cb (lb.take n) wr.drew zB0.drew hsm
        have oZ0 := of_bytes A n c Z wr.drew hBz.drew hsm
        have oA1 := of_bytes a n ca (la.take n) (wr.alloc (.cells (zrow n) 5)).drew (zA0.alloc _).drew hsm
        have oB1 := of_bytes b n cb (lb.take n) (wr.alloc (.cells (zrow n) 5)).drew (zB0.alloc _).drew hsm
        have oZ1 := of_bytes A n c Z (wr.alloc (.cells (zrow n) 5)).drew (hBz.alloc _).drew hsm
        have oM1 := of_bytes (some ⟨wr.heap.size, 0, none⟩) n n _ (wr.alloc (.cells (zrow n) 5)).drew (bys_zrow wr n).drew hsm
        have l1 := Crc.crc_lt (la.take n) zA0.2.1
        have l2 := Crc.crc_lt (lb.take n) zB0.2.1
        have l3 := Crc.crc_lt Z hBz.2.1
        have l4 := Crc.crc_lt (List.replicate n 0) (bys_zrow wr n).2.1
        generalize Crc.crc (la.take n) = p at *
        generalize Crc.crc (lb.take n) = q at *
        generalize Crc.crc Z = r at *
        generalize Crc.crc (List.replicate n 0) = t at *
        have x1 := u32_xor_nat p q l1 l2
        have m1 := Crc.xor_lt l1 l2
        have x2 := u32_xor_nat (p ^^^ q) r m1 l3
        have m2 := Crc.xor_lt m1 l3
        have x3 := u32_xor_nat (p ^^^ q ^^^ r) t m2 l4
        rw [hlin] at x3
        generalize p ^^^ q ^^^ r = pqr at *
        generalize p ^^^ q = pq at *
        have hmk := run_zrow n (by omega)
        have O1 := Lib.hid oA0
        have O2 := Lib.hid oB0
        have O3 := Lib.hid oZ0
        have O4 := Lib.hid oA1
        have O5 := Lib.hid oB1
        have O6 := Lib.hid oZ1
        have O7 := Lib.hid oM1
        clear oA0 oB0 oZ0 oA1 oB1 oZ1 oM1 zA0 zB0 hBz hlin hO hzl
        go_wp2_with fail
        go_region_held3 (fun _ => True) (trivial)
          (first
            | (go_at_call 11; ((first | with_reducible refine O1.out.mono ?_ | with_reducible refine O2.out.mono ?_ | with_reducible refine O3.out.mono ?_ | with_reducible refine O4.out.mono ?_ | with_reducible refine O5.out.mono ?_ | with_reducible refine O6.out.mono ?_ | with_reducible refine O7.out.mono ?_)); rintro e w' ⟨rfl, rfl⟩)
            | (go_at_call 9; refine (known_any _).mono ?_; rintro e w9 ⟨rfl, hb9⟩))
        all_goals
          go_wp2
          go_ret
          exact ⟨rfl, ((hbel.alloc hbel.size _).drew).trans (hb9.mono (Nat.le_trans hbel.size (by simp)))⟩

set_option maxHeartbeats 400000 in
theorem lin_long (a b : Option Addr) (na ca nb cb : Nat) (w : World) (ha : 3000 < na) (hb : 3000 < nb) (hma : na ≤ maxLen) (hmb : nb ≤ maxLen) :
    Calls Try.prog 6 #[.slice a na ca, .slice b nb cb] w fun e w' => e = .returned (.bool true) ∧ Below w.heap.size w w' := by
  unfold maxLen at hma hmb
  by_cases hs : na ≤ nb
  all_goals
    go_enter Try.func6, Try.ntmps6
    go_wp2_with fail
    with_reducible refine (known_any _).mono ?_
    rintro e w2 ⟨rfl, hb⟩
    go_wp2
    go_ret
    exact ⟨rfl, hb⟩

end Go.Proofs.Ytbmempjedpgfdaa
