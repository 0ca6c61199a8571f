/-
  The contract of the document's own answer: for every slice of at most a hundred thousand bytes it is the checksum.
-/
import Derived.Test.YtaehagejmeimiaaTurn
import Derived.Test.YtaehagejmeimiaaBytes
import Derived.Test.YtaehagejmeimiaaMathBits
import Derived.Deep.QuietTactic
import Derived.BigQuiet
namespace Go.Proofs.Ytaehagejmeimiaa
open Go.RowKit

/-- The first m bits of a number, as cells. -/
def bitRow (N m : Nat) : List Value := (List.range m).map (fun j => Value.bool (N.testBit j))
theorem bitRow_succ (N m : Nat) : bitRow N (m + 1) = bitRow N m ++ [.bool (N.testBit m)] := by
  unfold bitRow; rw [List.range_succ, List.map_append]; rfl
theorem bitRow_len (N m : Nat) : (bitRow N m).length = m := by simp [bitRow]

/-- A row of bits in a block of its own. -/
def OwnB (w : World) (B : Nat) (v : Value) (N m : Nat) : Prop := w.ownsRow B 4 1 v m (bitRow N m)
theorem OwnB.nil (w : World) (B N : Nat) : OwnB w B (.slice none 0 0) N 0 := ⟨rfl, .inl ⟨rfl, rfl⟩⟩
theorem OwnB.alloc {w : World} {B : Nat} {v : Value} {N m : Nat} (h : OwnB w B v N m) (o : Obj) : OwnB (w.alloc o) B v N m := by
  obtain ⟨h0, h1⟩ := h
  refine ⟨h0, ?_⟩
  rcases h1 with h1 | ⟨g, cap, cur, hv, hb, hg, hr⟩
  · exact .inl h1
  · exact .inr ⟨g, cap, cur, hv, hb, Lies.alloc hg o, hr⟩
theorem OwnB.block {w : World} {B : Nat} {v : Value} {N m : Nat} (h : OwnB w B v N m) : ∀ k, v.ownBlock = some k → B ≤ k := by
  intro k hk
  obtain ⟨_, h1⟩ := h
  rcases h1 with ⟨rfl, _⟩ | ⟨g, cap, cur, rfl, hb, _⟩
  · cases hk
  · simp [Value.ownBlock] at hk; omega
theorem OwnB.grows {w w' a : World} {B B0 : Nat} {v : Value} {N m : Nat} (h : OwnB w B v N m) (hg : w.grownBy w' v.ownBlock) (hb : Below B0 a w) (h1 : B0 ≤ B) (h2 : B0 ≤ w.heap.size) : Below B0 a w' :=
  hb.grown hg h2 (fun k hk => Nat.le_trans h1 (h.block k hk))

/-- A slice of m bits. -/
def Bits (w : World) (a : Option Addr) (m N : Nat) : Prop := 0 < m → ∃ b, a = some ⟨b, 0, none⟩ ∧ ∀ i, i < m → w.cell? ⟨b, i, none⟩ = some (.bool (N.testBit i))
theorem Bits.below {w w' : World} {a : Option Addr} {m N : Nat} (h : Bits w a m N) (hb : Below w.heap.size w w') : Bits w' a m N := fun h0 => by
  obtain ⟨b, e, hc⟩ := h h0
  refine ⟨b, e, fun i hi => ?_⟩
  have := hc i hi
  rw [hb.cell (block_lt_of_cell this)]
  exact this
theorem OwnB.slice {w : World} {B : Nat} {v : Value} {N m : Nat} (h : OwnB w B v N m) : ∃ A c, v = .slice A m c ∧ Bits w A m N := by
  obtain ⟨_, ⟨hv, rfl⟩ | ⟨g, cap, cur, hv, hb, hg, hn, hm, hs, ht⟩⟩ := h
  · exact ⟨none, 0, hv, fun h0 => by omega⟩
  · refine ⟨_, cap, hv, fun _ => ⟨g, rfl, fun i hi => ?_⟩⟩
    have e : (cur.toList.take (m * 1))[i]? = (bitRow N m)[i]? := by rw [ht]
    rw [List.getElem?_take, if_pos (by omega), Array.getElem?_toList] at e
    rw [Lies.cell hg, e]
    simp [bitRow, hi]

/-- 'append' of one bit. -/
theorem wpl_append_bit {ops : Array Oper} {rest : List Oper} {a : Act} {w : World} {Q : Exit → Act → World → Prop} (dst : Option Tmp) (ty : TypeId) (pos : String) (aft : Array Edge) (s x : Operand)
    (B : Nat) (v : Value) (N m g : Nat)
    (hs : a.eval s = v) (hx : a.eval x = .slice (some ⟨g, 0, none⟩) 1 1) (hown : OwnB w B v N m) (hsrc : w.cell? ⟨g, 0, none⟩ = some (.bool (N.testBit m))) (hsm : m ≤ 1000000) (hB : B ≤ w.heap.size)
    (h : ∀ v' w', OwnB w' B v' N (m + 1) → w.grownBy w' v.ownBlock → wpList Try.prog ops Q rest (a.put dst v') w') :
    wpList Try.prog ops Q (⟨dst, .call { callee := .builtin .append, args := #[s, x], argTypes := #[69, 69] }, ty, pos, aft, none⟩ :: rest) a w := by
  refine wpList_append_own_at (w := w) (o := ⟨dst, .call { callee := .builtin .append, args := #[s, x], argTypes := #[69, 69] }, ty, pos, aft, none⟩) rfl s x 69 rfl B 4 _ (.bool false) 1 1 Try.underlying69 Try.type4 rfl rfl rfl rfl (by decide) v m (bitRow N m) hs hown
      ⟨g, 0, none⟩ 1 1 [.bool (N.testBit m)] hx rfl ?_ (fun u hu => by simp at hu; rw [hu]; rfl) (by unfold maxLen; omega) (by omega) hB ?_
  · intro j u hu
    rcases j with _ | j
    · simp at hu; subst hu; rw [add_off]; exact hsrc
    · simp at hu
  · intro v' w' h1 h2 _ _
    refine h v' w' ?_ h2
    show w'.ownsRow B 4 1 v' (m + 1) (bitRow N (m + 1))
    rw [bitRow_succ]
    exact h1

theorem bit_cell (w : World) (q r : Bool) (h : q = r) : (w.alloc (.cells #[.bool q] 4)).cell? ⟨w.heap.size, 0, none⟩ = some (.bool r) := by
  rw [h, cell_of_row _ _ _ _ 4 (0, 0) (heap_alloc_new w _)]; rfl
theorem bit_eq (l : List Nat) (hl : ∀ c ∈ l, c < 256) (i k y : Nat) (hk : k < 8) (hy : l.getD i 0 = y) : (((y : Int) / 2 ^ k).tmod 2 == 1) = (Crc.num l).testBit (8 * i + k) := by
  rw [Crc.num_testBit l hl i k hk, hy, Nat.testBit_eq_decide_div_mod_eq]
  have e : (y : Int) / 2 ^ k = ((y / 2 ^ k : Nat) : Int) := by rw [Int.natCast_ediv, Int.natCast_pow]; rfl
  rw [e]
  generalize y / 2 ^ k = z
  have e2 : ((z : Int)).tmod 2 = ((z % 2 : Nat) : Int) := by
    rw [Int.tmod_eq_emod_of_nonneg (by omega)]; omega
  rw [e2]
  by_cases h : z % 2 = 1
  · rw [h]; rfl
  · have : ¬ ((z % 2 : Nat) : Int) = 1 := by omega
    rw [beq_eq_false_iff_ne.2 this]; simp [h]

def O1R (w : World) (N n : Nat) (l i : Value) (wr : World) : Prop :=
  ∃ k : Nat, k ≤ n ∧ i = .int .i64 k ∧ OwnB wr w.heap.size l N (8 * k) ∧ Below w.heap.size w wr
def O2R (w : World) (N m : Nat) (l i : Value) (wr : World) : Prop :=
  ∃ k : Nat, k ≤ 8 ∧ i = .int .i64 k ∧ OwnB wr w.heap.size l N (m + k) ∧ Below w.heap.size w wr
/-- The register's row, block w1.heap.size; nothing that was there behind the first loop has turned. -/
def O3R (w1 : World) (i : Value) (wr : World) : Prop :=
  ∃ (k : Nat) (C : Array Value), k ≤ 32 ∧ i = .int .i64 k ∧ Lies wr w1.heap.size 70 C ∧ C.size = 32 ∧ (∀ j, j < k → C[j]? = some (.bool true)) ∧ Below w1.heap.size w1 wr
def O4R (w1 : World) (N m : Nat) (i : Value) (wr : World) : Prop :=
  ∃ (k : Nat) (C : Array Value), k ≤ m ∧ i = .int .i64 k ∧ Lies wr w1.heap.size 70 C ∧ BTab C (Crc.reg N k) ∧ Below w1.heap.size w1 wr
def O5R (w1 : World) (R : Nat) (i : Value) (wr : World) : Prop :=
  ∃ (k : Nat) (C : Array Value), k ≤ 31 ∧ i = .int .i64 k ∧ Lies wr w1.heap.size 70 C ∧ C.size = 32 ∧ (∀ j, j < 32 → C[j]? = some (.bool (R.testBit (if j < k then j + 1 else j)))) ∧ Below w1.heap.size w1 wr
def O6R (X : Nat) (n i : Value) : Prop := ∃ k : Nat, k ≤ 32 ∧ i = .int .i64 ((k : Int) - 1) ∧ n = .int .u32 (X / 2 ^ k : Nat)

theorem ones_bit : ∀ j, j < 32 → Crc.ones.testBit j = true := by decide
theorem btab_ones {C : Array Value} (hs : C.size = 32) (hC : ∀ j, j < 32 → C[j]? = some (.bool true)) (N : Nat) : BTab C (Crc.reg N 0) :=
  ⟨hs, fun j hj => by rw [Crc.reg_zero, ones_bit j hj]; exact hC j hj⟩

theorem o3_step {w1 wr : World} {C : Array Value} {k : Nat} (hk : k < 32) (hL : Lies wr w1.heap.size 70 C) (hs : C.size = 32) (hC : ∀ j, j < k → C[j]? = some (.bool true)) (hb : Below w1.heap.size w1 wr) :
    O3R w1 (.int .i64 ((k : Int) + 1)) (wr.setCell ⟨w1.heap.size, k, none⟩ (.bool true)) := by
  refine ⟨k + 1, _, by omega, by go_num, hL.put k _, by rw [Array.size_setIfInBounds]; exact hs, fun j hj => ?_, hb.setCell (Nat.le_refl _) _⟩
  rw [Array.getElem?_setIfInBounds]
  by_cases hq : k = j
  · subst hq; rw [if_pos rfl, if_pos (by omega)]
  · rw [if_neg hq]; exact hC j (by omega)

theorem o5_step {w1 wr : World} {C : Array Value} {R k : Nat} (hk : k < 31) (hL : Lies wr w1.heap.size 70 C) (hs : C.size = 32) (hC : ∀ j, j < 32 → C[j]? = some (.bool (R.testBit (if j < k then j + 1 else j)))) (hb : Below w1.heap.size w1 wr) :
    O5R w1 R (.int .i64 ((k : Int) + 1)) (wr.setCell ⟨w1.heap.size, k, none⟩ (.bool (R.testBit (k + 1)))) := by
  refine ⟨k + 1, _, by omega, by go_num, hL.put k _, by rw [Array.size_setIfInBounds]; exact hs, fun j hj => ?_, hb.setCell (Nat.le_refl _) _⟩
  rw [Array.getElem?_setIfInBounds]
  by_cases hq : k = j
  · subst hq; rw [if_pos rfl, if_pos (by omega), if_pos (by omega)]
  · rw [if_neg hq, hC j hj]
    by_cases h : j < k
    · rw [if_pos h, if_pos (by omega)]
    · rw [if_neg h, if_neg (by omega)]

theorem btab_half {C : Array Value} {R : Nat} (hR : R < 4294967296) (hs : C.size = 32) (hC : ∀ j, j < 32 → C[j]? = some (.bool (R.testBit (if j < 31 then j + 1 else j)))) : BTab (C.setIfInBounds 31 (.bool false)) (R / 2) := by
  refine ⟨by rw [Array.size_setIfInBounds]; exact hs, fun j hj => ?_⟩
  rw [Array.getElem?_setIfInBounds, Nat.testBit_div_two]
  by_cases hq : 31 = j
  · subst hq
    rw [if_pos rfl, if_pos (by omega), Nat.testBit_lt_two_pow (by simpa using hR)]
  · rw [if_neg hq, hC j hj, if_pos (by omega)]

theorem o6_hit (X k : Nat) (h : X.testBit k = true) : X / 2 ^ k = X / 2 ^ (k + 1) * 2 + 1 := by
  rw [Nat.testBit_eq_decide_div_mod_eq, decide_eq_true_iff] at h
  have : X / 2 ^ (k + 1) = X / 2 ^ k / 2 := by rw [Nat.pow_succ, Nat.div_div_eq_div_mul]
  omega
theorem o6_miss (X k : Nat) (h : X.testBit k = false) : X / 2 ^ k = X / 2 ^ (k + 1) * 2 := by
  rw [Nat.testBit_eq_decide_div_mod_eq, decide_eq_false_iff_not] at h
  have : X / 2 ^ (k + 1) = X / 2 ^ k / 2 := by rw [Nat.pow_succ, Nat.div_div_eq_div_mul]
  omega

set_option maxHeartbeats 1000000 in
theorem refOf_any (a : Option Addr) (n cap : Nat) (l : List Nat) (w : World) (hB : Bys w a n l) (hn : n ≤ 100000) :
    Calls Try.prog 33 #[.slice a n cap] w fun e w' => e = .returned (.int .u32 (Crc.crc l : Nat)) ∧ Below w.heap.size w w' := by
  have HB := Lib.hid hB
  have hcrc := Crc.reg_all l hB.2.1
  rw [hB.1] at hcrc
  have HCRC := Lib.hid hcrc
  clear hB hcrc
  go_enter Try.func33, Try.ntmps33
  go_wp2_with fail
  go_loopw [3, 4] (O1R w (Crc.num l) n) (fun _ i _ => n - (intOf i).toNat)
  case atStart => exact ⟨0, by omega, rfl, OwnB.nil _ _ _, Below.refl _ _⟩
  case round =>
    obtain ⟨i, hi, rfl, hO, hbel⟩ := hrel
    by_cases hlt : i < n
    · obtain ⟨b, off, rfl, hc⟩ := HB.out.2.2 (by omega)
      have ha := hc i hlt
      have hyb := getD_lt l HB.out.2.1 i
      clear hc
      generalize hy : l.getD i 0 = y at *
      have HA := Lib.hid ha
      have HY := Lib.hid hy
      have HO := Lib.hid hO
      clear ha hy hO
      go_wp2_with fail
      go_loopw [3, 5] (O2R w (Crc.num l) (8 * i)) (fun _ i _ => 8 - (intOf i).toNat)
      case atStart => exact ⟨0, by omega, rfl, HO.out, hbel⟩
      case round =>
        clear HO hbel
        obtain ⟨k, hk, rfl, hO, hbel⟩ := hrel
        have hcy := (hbel.cell (block_lt_of_cell HA.out)).trans HA.out
        have HO := Lib.hid hO
        clear hO
        by_cases hlt2 : k < 8
        · have HBIT := Lib.hid (bit_eq l HB.out.2.1 i k y hlt2 HY.out)
          go_wp2_with (first
            | ((with_reducible refine wpl_append_bit (some 34) _ _ _ (.tmp 23) (.tmp 33) w.heap.size _ (Crc.num l) (8 * i + k) wr.heap.size ?hs ?hx (HO.out.alloc _) ?hc ?hm ?hz ?_); (case hs => rfl); (case hx => rfl); (case hc => exact bit_cell _ _ _ HBIT.out); (case hm => omega); (case hz => exact Nat.le_trans hbel.size (by simp)); (intro v' w' ho hg)))
          go_roundw
          case rel => exact ⟨k + 1, by omega, by go_num, ho, (HO.out.alloc _).grows hg (hbel.alloc hbel.size _) (Nat.le_refl _) (Nat.le_trans hbel.size (by simp))⟩
          case measure => simp [intOf]; omega
        · have hk2 : k = 8 := by omega
          subst hk2
          go_wp2
          go_roundw
          case rel => exact ⟨i + 1, by omega, by go_num, HO.out, hbel⟩
          case measure => simp [intOf]; omega
    · have hi2 : i = n := by omega
      subst hi2
      obtain ⟨A, c, rfl, hbits⟩ := hO.slice
      clear hO
      have HBI := Lib.hid hbits
      clear hbits
      obtain ⟨w1, hw1⟩ : ∃ w1, w1 = wr := ⟨wr, rfl⟩
      subst hw1
      have hm : 8 * i ≤ 800000 := by omega
      generalize 8 * i = m at *
      generalize Crc.num l = N at *
      go_wp2_with fail
      go_loopw [7] (O3R w1) (fun i _ => 32 - (intOf i).toNat)
      case atStart => exact ⟨0, _, by omega, rfl, Lies.made w1 70 _, rfl, fun j hj => by omega, (Below.refl _ _).alloc (Nat.le_refl _) _⟩
      case round =>
        obtain ⟨k, C, hk, rfl, hL, hs, hC, hbl⟩ := hrel
        have HC := Lib.hid hC
        have HS := Lib.hid hs
        clear hC hs
        by_cases hlt2 : k < 32
        · have hcell := (hL.cell k).trans (Array.getElem?_eq_getElem (by rw [HS.out]; exact hlt2))
          have hfree := hL.free k
          go_wp2
          exact ⟨o3_step hlt2 hL HS.out HC.out hbl, by simp [intOf]; omega⟩
        · have hk2 : k = 32 := by omega
          subst hk2
          rw [show ((32 : Nat) : Int) = 32 from rfl]
          have HT0 := Lib.hid (btab_ones HS.out HC.out N)
          clear HC HS
          go_wp2_with fail
          go_loopw [8] (O4R w1 N m) (fun i _ => m - (intOf i).toNat)
          case atStart => exact ⟨0, C, by omega, rfl, hL, HT0.out, hbl⟩
          case round =>
            clear HT0 hL hbl
            obtain ⟨q, C, hq, rfl, hL, hT, hbl⟩ := hrel
            have HT := Lib.hid hT
            clear hT
            have hR := Crc.reg_lt N q
            have hsuc := (Crc.reg_succ N q).trans (Crc.st_bit _ _)
            by_cases hlt4 : q < m
            · obtain ⟨b, rfl, hcb⟩ := HBI.out (by omega)
              have hcq0 := hcb q hlt4
              have hcq := (hbl.cell (block_lt_of_cell hcq0)).trans hcq0
              have hc0 := (hL.cell 0).trans (HT.out.2 0 (by omega))
              have hqi : (q : Int) < (m : Int) := by omega
              clear hcb hcq0
              generalize hRR : Crc.reg N q = R at *
              have hC5 : ∀ j, j < 32 → C[j]? = some (.bool (R.testBit (if j < 0 then j + 1 else j))) := fun j hj => by rw [if_neg (by omega)]; exact HT.out.2 j hj
              have HC5 := Lib.hid hC5
              have HS5 := Lib.hid HT.out.1
              have HSUC := Lib.hid hsuc
              clear hC5 hsuc hRR
              generalize N.testBit q = ni at *
              generalize hr0 : R.testBit 0 = r0 at *
              have HR0 := Lib.hid hr0
              clear hr0
              go_wp2_with fail
              go_quiet (fail)
              have hL5 : Lies (wr.drewN nq) w1.heap.size 70 C := hL
              have hbl5 : Below w1.heap.size w1 (wr.drewN nq) := below_drewN hbl nq
              clear hcq hc0 hL hbl
              generalize wr.drewN nq = w5 at *
              go_wp2_with fail
              go_loopw [10] (O5R w1 R) (fun i _ => 31 - (intOf i).toNat)
              case atStart => exact ⟨0, C, by omega, rfl, hL5, HS5.out, HC5.out, hbl5⟩
              case round =>
                clear hL5 hbl5 HC5 HS5 HT
                obtain ⟨k, C, hk, rfl, hL, hs, hC, hbl⟩ := hrel
                have HC := Lib.hid hC
                have HS := Lib.hid hs
                clear hC hs
                by_cases hlt5 : k < 31
                · have e1 := HC.out (k + 1) (by omega)
                  rw [if_neg (by omega)] at e1
                  have hcell1 := (hL.cell (k + 1)).trans e1
                  have hcell := (hL.cell k).trans (Array.getElem?_eq_getElem (by rw [HS.out]; omega))
                  have hfree := hL.free k
                  clear e1
                  go_wp2
                  exact ⟨o5_step hlt5 hL HS.out HC.out hbl, by simp [intOf]; omega⟩
                · have hk5 : k = 31 := by omega
                  subst hk5
                  have HH := Lib.hid (btab_half hR HS.out HC.out)
                  have hcell := (hL.cell 31).trans (Array.getElem?_eq_getElem (by rw [HS.out]; omega))
                  have hfree := hL.free 31
                  have hL6 := hL.put 31 (.bool false)
                  have hbl6 := hbl.setCell (p := ⟨w1.heap.size, 31, none⟩) (Nat.le_refl _) (.bool false)
                  clear HC
                  cases r0 <;> cases ni
                  · go_wp2
                    exact ⟨⟨q + 1, _, by omega, by go_num, hL6, by rw [HSUC.out]; exact HH.out, hbl6⟩, by simp [intOf]; omega⟩
                  · go_wp2_with (first
                      | ((with_reducible refine wpl_load70 (some 66) _ _ _ (.tmp 6) _ _ ?hx hL6 HH.out.len ?_); (case hx => rfl)))
                    with_reducible refine (turn_any _ _ _ HH.out).mono ?_
                    rintro e w7 ⟨D, rfl, hD, hb7⟩
                    have HD := Lib.hid hD
                    have hL7 := hL6.below hb7 hL6.lt
                    clear hD
                    go_wp2_with (first
                      | ((with_reducible refine wpl_store70 _ _ _ (.tmp 6) (.tmp 67) _ D _ _ ?hx ?hy hL7 HH.out.len HD.out ?_); (case hx => rfl); (case hy => rfl)))
                    go_roundw
                    case rel => exact ⟨q + 1, D, by omega, by go_num, hL7.puts D (by rw [HD.out.len, HH.out.len]), by rw [HSUC.out]; exact HD.out, below_puts (hbl6.trans (hb7.mono hbl6.size)) (Nat.le_refl _) _ _⟩
                    case measure => simp [intOf]; omega
                  · go_wp2_with (first
                      | ((with_reducible refine wpl_load70 (some 66) _ _ _ (.tmp 6) _ _ ?hx hL6 HH.out.len ?_); (case hx => rfl)))
                    with_reducible refine (turn_any _ _ _ HH.out).mono ?_
                    rintro e w7 ⟨D, rfl, hD, hb7⟩
                    have HD := Lib.hid hD
                    have hL7 := hL6.below hb7 hL6.lt
                    clear hD
                    go_wp2_with (first
                      | ((with_reducible refine wpl_store70 _ _ _ (.tmp 6) (.tmp 67) _ D _ _ ?hx ?hy hL7 HH.out.len HD.out ?_); (case hx => rfl); (case hy => rfl)))
                    go_roundw
                    case rel => exact ⟨q + 1, D, by omega, by go_num, hL7.puts D (by rw [HD.out.len, HH.out.len]), by rw [HSUC.out]; exact HD.out, below_puts (hbl6.trans (hb7.mono hbl6.size)) (Nat.le_refl _) _ _⟩
                    case measure => simp [intOf]; omega
                  · go_wp2
                    exact ⟨⟨q + 1, _, by omega, by go_num, hL6, by rw [HSUC.out]; exact HH.out, hbl6⟩, by simp [intOf]; omega⟩
            · have hqm : q = m := by omega
              subst hqm
              have hX : Crc.ones ^^^ Crc.reg N q < 4294967296 := Crc.xor_lt Crc.ones_lt hR
              have hXb : ∀ j, j < 32 → (Crc.ones ^^^ Crc.reg N q).testBit j = !(Crc.reg N q).testBit j := fun j hj => by rw [Nat.testBit_xor, ones_bit j hj]; simp
              have HXB := Lib.hid hXb
              have hC6 := HT.out.2
              have HC6 := Lib.hid hC6
              clear hsuc hXb hC6 HT
              generalize Crc.ones ^^^ Crc.reg N q = X at *
              generalize Crc.reg N q = R at *
              go_wp2_with fail
              go_loop [11, 12] (O6R X) (fun _ i => ((intOf i) + 1).toNat)
              case atStart => exact ⟨32, by omega, rfl, val_int (by rw [Nat.div_eq_of_lt (by simpa using hX)]; rfl)⟩
              case round =>
                obtain ⟨k, hk, rfl, rfl⟩ := hrel
                rcases k with _ | k
                · rw [show ((0 : Nat) : Int) - 1 = -1 from rfl]
                  go_wp2
                  go_ret
                  exact ⟨ret_int (by rw [← HCRC.out]), hbel.trans (hbl.mono hbel.size)⟩
                · rw [show ((k + 1 : Nat) : Int) - 1 = (k : Int) from by omega]
                  have hcell := (hL.cell k).trans (HC6.out k (by omega))
                  have hxb := HXB.out k (by omega)
                  have h1 := o6_hit X k
                  have h2 := o6_miss X k
                  rw [hxb] at h1 h2
                  have hle : X / 2 ^ (k + 1) * 2 + 1 < 4294967296 := by
                    have h2 : X / 2 ^ (k + 1) ≤ X / 2 := Nat.div_le_div_left (by rw [Nat.pow_succ]; have := Nat.two_pow_pos k; omega) (by decide)
                    omega
                  have H1 := Lib.hid h1
                  have H2 := Lib.hid h2
                  clear h1 h2 hxb
                  generalize R.testBit k = rk at *
                  generalize X / 2 ^ (k + 1) = y at *
                  cases rk
                  · go_wp2
                    exact ⟨⟨k, by omega, rfl, val_int (by rw [H1.out rfl]; rfl)⟩, by simp [intOf]⟩
                  · go_wp2
                    exact ⟨⟨k, by omega, rfl, val_int (by rw [H2.out rfl]; rfl)⟩, by simp [intOf]⟩

end Go.Proofs.Ytaehagejmeimiaa
