/-
  The contract of 'turn': the bits of the divisor are turned over: for every 32 bits.
-/
import Derived.Test.YtaehagejmeimiaaBytes
import Derived.StillTailTactics
namespace Go.Proofs.Ytaehagejmeimiaa
open Go.RowKit

/-- 32 cells that are a number's bits. -/
def BTab (C : Array Value) (R : Nat) : Prop := C.size = 32 ∧ ∀ j, j < 32 → C[j]? = some (.bool (R.testBit j))

def tap (k : Nat) : Nat := [31, 30, 29, 27, 26, 24, 23, 21, 20, 19, 15, 9, 8, 5].getD k 0
/-- The first k taps' bits. -/
def tapx : Nat → Nat
  | 0 => 0
  | k + 1 => tapx k ^^^ 2 ^ tap k
theorem tapx_all : tapx 14 = Crc.poly := by decide +kernel
theorem tap_lt (k : Nat) (h : k < 14) : tap k < 32 := by
  have : ∀ k, k < 14 → tap k < 32 := by decide
  exact this k h

theorem BTab.len {C : Array Value} {R : Nat} (h : BTab C R) : C.size = 32 := h.1
theorem BTab.one {C : Array Value} {R : Nat} (h : BTab C R) : C.all (·.oneCell') = true := by
  rw [Array.all_eq_true]
  intro i hi
  have := h.2 i (by rw [← h.1]; exact hi)
  rw [Array.getElem?_eq_getElem hi] at this
  injection this with this
  rw [this]; rfl

theorem BTab.flip {C : Array Value} {R t : Nat} (h : BTab C R) (ht : t < 32) : BTab (C.setIfInBounds t (.bool (!R.testBit t))) (R ^^^ 2 ^ t) := by
  have hs := h.1
  refine ⟨by rw [Array.size_setIfInBounds]; exact hs, fun j hj => ?_⟩
  rw [Array.getElem?_setIfInBounds, Nat.testBit_xor, Nat.testBit_two_pow]
  by_cases hq : t = j
  · subst hq
    rw [if_pos rfl, if_pos (by omega)]
    simp
  · rw [if_neg hq, h.2 j hj]
    simp [hq]

/-- The whole row of bits is read, and is written. -/
theorem wpl_load70 {ops : Array Oper} {rest : List Oper} {a : Act} {w : World} {Q : Exit → Act → World → Prop} (dst : Option Tmp) (ty : TypeId) (pos : String) (aft : Array Edge) (x : Operand) (g : Nat) (T : Array Value)
    (hx : a.eval x = .pointer (some ⟨g, 0, none⟩)) (hg : Lies w g 70 T) (hT : T.size = 32) (h : wpList Try.prog ops Q rest (a.put dst (.agg T)) w) :
    wpList Try.prog ops Q (⟨dst, .load 70 x, ty, pos, aft, none⟩ :: rest) a w :=
  wpList_load_row (o := ⟨dst, .load 70 x, ty, pos, aft, none⟩) rfl 70 x rfl g hx 70 T (0, 0) _ hg Try.underlying70 rfl (by rw [hT]; rfl) h
theorem wpl_store70 {ops : Array Oper} {rest : List Oper} {a : Act} {w : World} {Q : Exit → Act → World → Prop} (ty : TypeId) (pos : String) (aft : Array Edge) (x y : Operand) (g : Nat) (T Z : Array Value) (R : Nat)
    (hx : a.eval x = .pointer (some ⟨g, 0, none⟩)) (hy : a.eval y = .agg T) (hg : Lies w g 70 Z) (hZ : Z.size = 32) (hT : BTab T R) (h : wpList Try.prog ops Q rest a (w.setCells g 0 T.toList)) :
    wpList Try.prog ops Q (⟨none, .store 70 x y, ty, pos, aft, none⟩ :: rest) a w :=
  wpList_store_mid (op := ⟨none, .store 70 x y, ty, pos, aft, none⟩) rfl 70 x y rfl g 0 T hx hy (hg.there T.size (by rw [hZ, hT.1]; exact Nat.le_refl _)) (by rw [hT.1]; rfl) hT.one h

def tapRow : Array Value := #[.int .i64 31, .int .i64 30, .int .i64 29, .int .i64 27, .int .i64 26, .int .i64 24, .int .i64 23, .int .i64 21, .int .i64 20, .int .i64 19, .int .i64 15, .int .i64 9, .int .i64 8, .int .i64 5]
theorem tapRow_at (k : Nat) (h : k < 14) : tapRow[k]? = some (.int .i64 (tap k : Nat)) := by
  rcases k with _ | _ | _ | _ | _ | _ | _ | _ | _ | _ | _ | _ | _ | _ | k <;> first | rfl | omega

/-- Behind k taps. -/
def TnR (R : Nat) (w : World) (i : Value) (wr : World) : Prop :=
  ∃ (k : Nat) (T Z : Array Value), k ≤ 14 ∧ i = .int .i64 k ∧ Lies wr w.heap.size 70 T ∧ BTab T (R ^^^ tapx k) ∧ Lies wr (w.heap.size + 1) 70 Z ∧ Z.size = 32 ∧ Lies wr (w.heap.size + 1 + 1) 3 tapRow ∧ Below w.heap.size w wr

set_option maxHeartbeats 400000 in
theorem turn_any (C : Array Value) (R : Nat) (w : World) (hC : BTab C R) :
    Calls Try.prog 40 #[.agg C] w fun e w' => ∃ D, e = .returned (.agg D) ∧ BTab D (R ^^^ Crc.poly) ∧ Below w.heap.size w w' := by
  have HC := Lib.hid hC
  clear hC
  go_enter Try.func40, Try.ntmps40
  go_wp2
  go_loopw [4] (TnR R w) (fun i _ => 14 - (intOf i).toNat)
  case atStart =>
    exact ⟨0, C, _, by omega, rfl, ((Lies.made w 70 C).alloc _).alloc _, by rw [tapx, Nat.xor_zero]; exact HC.out, (Lies.made2 w _ 70 _).alloc _, rfl, Lies.made3 w _ _ 3 _, (((Below.refl _ _).alloc (Nat.le_refl _) _).alloc (by simp) _).alloc (by simp; omega) _⟩
  case round =>
    obtain ⟨k, T, Z, hk, rfl, hl1, hT, hl2, hz2, hl3, hbel⟩ := hrel
    have HT := Lib.hid hT
    have HZ := Lib.hid hz2
    clear hT hz2
    by_cases hlt : k < 14
    · have htk := tap_lt k hlt
      have hc1 := (hl3.cell k).trans (tapRow_at k hlt)
      have hc2 := (hl1.cell (tap k)).trans (HT.out.2 (tap k) htk)
      have hf2 := hl1.free (tap k)
      have hfl := HT.out.flip htk
      have htx : tapx (k + 1) = tapx k ^^^ 2 ^ tap k := rfl
      rw [Nat.xor_assoc, ← htx] at hfl
      have HFL := Lib.hid hfl
      clear hfl htx
      generalize tap k = t at *
      generalize (R ^^^ tapx k).testBit t = q at *
      have hi1 : (k : Int) < 14 := by omega
      have hi2 : (t : Int) < 32 := by omega
      go_wp2_with fail
      go_still_tail 12, (by kernel_rfl)
      change wpList _ _ _ _ _ wr.drew
      go_wp2
      exact ⟨⟨k + 1, _, Z, by omega, by go_num, hl1.put t _, HFL.out, hl2.other (a := ⟨w.heap.size, t, none⟩) (by simp) _, HZ.out, hl3.other (a := ⟨w.heap.size, t, none⟩) (by simp; omega) _, (hbel.setCell (by simp) _).drew⟩, by simp [intOf]; omega⟩
    · have hk2 : k = 14 := by omega
      subst hk2
      have hTab := HT.out
      rw [tapx_all] at hTab
      have hfin := hl2.puts T (by rw [HZ.out, hTab.len])
      have hbf := below_puts hbel (b := w.heap.size + 1) (by omega) T.toList 0
      have HTab := Lib.hid hTab
      have HFin := Lib.hid hfin
      clear hTab hfin HT
      go_wp2_with (first
        | ((with_reducible refine wpl_load70 (some 24) _ _ _ (.tmp 1) _ T ?hx hl1 HTab.out.len ?_); (case hx => rfl))
        | ((with_reducible refine wpl_store70 _ _ _ (.tmp 2) (.tmp 24) _ T Z _ ?hx ?hy hl2 HZ.out HTab.out ?_); (case hx => rfl); (case hy => rfl)))
      refine bodyPost_ret (v := .agg T) (results_cell_row Try.results40 _ _ (w.heap.size + 1) 70 T (0, 0) _ rfl HFin.out Try.underlying70 rfl (by rw [HTab.out.len]; rfl)) rfl ⟨T, rfl, HTab.out, hbf⟩

end Go.Proofs.Ytaehagejmeimiaa
