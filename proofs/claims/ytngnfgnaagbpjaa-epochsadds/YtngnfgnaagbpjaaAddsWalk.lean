/-
  The walk of EpochsAdds, out of the contracts.
-/
import Derived.Test.YtngnfgnaagbpjaaKnown
import Derived.Test.YtngnfgnaagbpjaaEnMath
import Derived.Test.YtngnfgnaagbpjaaSame
import Derived.Test.YtngnfgnaagbpjaaIn
namespace Go.Proofs.Ytngnfgnaagbpjaa
open Go.RowKit
set_option linter.unusedVariables false

def AdOk (w : World) (t : Tbl) (k : Nat) (x : Ending) (w' : World) : Prop := ∃ A c, x = .returned (.tuple #[.slice A (k + 1) c, .int .i64 0]) ∧ Tab w' A (k + 1) (t.take (k + 1)) ∧ (A = none → c = 0) ∧ Below w.heap.size w w'
def AdBad (w : World) (x : Ending) (w' : World) : Prop := ∃ v, x = .returned (.tuple #[v, .int .i64 60]) ∧ Below w.heap.size w w'

theorem add_ok (A : Option Addr) (k c : Nat) (t : Tbl) (W : World) (hT : Tab W A k (t.take k)) (hA : A = none → c = 0) (hk : k < t.length) (hn : t.length ≤ 500) (hf : Fits t) (hM : isT t) :
    Calls Try.prog 23 #[.slice A k c, .agg #[.int .u32 (ep t k : Nat), .int .u64 (ls t k : Nat)]] W (AdOk W t k) := by
  refine (add_any A k c (ep t k) (ls t k) (t.take k) W hT hA (by omega) (hf k).1 (hf k).2).mono fun x w' h => ?_
  obtain ⟨v, rfl, ho, hb⟩ := h
  have hi : isT (t.take (k + 1)) := hM.take (k + 1)
  unfold addS at ho
  rw [← take_more t k hk] at ho ⊢
  rw [if_pos hi] at ho
  obtain ⟨A', c', rfl, h1, _, _, h4⟩ := ho.slice
  have hl : (t.take (k + 1)).length = k + 1 := by rw [List.length_take]; omega
  rw [hl] at h1 ⊢
  refine ⟨A', c', ?_, h1, h4, hb⟩
  unfold chk
  rw [if_pos hi]
  rfl
theorem add_bad (A : Option Addr) (k c e l : Nat) (t : Tbl) (W : World) (hT : Tab W A (k + 1) (t.take (k + 1))) (hA : A = none → c = 0) (hk : k < t.length) (hn : t.length ≤ 500) (he : e < 4294967296) (hl : l < 18446744073709551616) (h : e ≤ ep t k ∨ l ≤ ls t k) :
    Calls Try.prog 23 #[.slice A (k + 1) c, .agg #[.int .u32 (e : Nat), .int .u64 (l : Nat)]] W (AdBad W) := by
  refine (add_any A (k + 1) c e l (t.take (k + 1)) W hT hA (by omega) he hl).mono fun x w' h2 => ?_
  obtain ⟨v, rfl, ho, hb⟩ := h2
  refine ⟨v, ?_, hb⟩
  unfold chk
  rw [if_neg (add_not hk h)]
  rfl
theorem add_max (A : Option Addr) (k c e : Nat) (t : Tbl) (W : World) (hT : Tab W A (k + 1) (t.take (k + 1))) (hA : A = none → c = 0) (hk : k < t.length) (hn : t.length ≤ 500) (he : e < 4294967296) (h : e ≤ ep t k) :
    Calls Try.prog 23 #[.slice A (k + 1) c, .agg #[.int .u32 (e : Nat), .int .u64 18446744073709551615]] W (AdBad W) :=
  add_bad A k c e 18446744073709551615 t W hT hA hk hn he (by decide) (.inl h)

def AdR (w : World) (n c : Nat) (t : Tbl) (x i : Value) (wr : World) : Prop :=
  ∃ (k : Nat) (A : Option Addr) (cx : Nat), c ≤ k ∧ k ≤ n ∧ i = .int .i64 k ∧ x = .slice A k cx ∧ Tab wr A k (t.take k) ∧ (A = none → cx = 0) ∧ Below w.heap.size w wr

set_option maxRecDepth 100000 in
set_option maxHeartbeats 8000000 in
theorem epochsAdds_walk (a : Option Addr) (n cap : Nat) (t : Tbl) (l : Nat) (w : World) (hI : InTab w a n cap t) (hl : l < 18446744073709551616) :
    Calls Try.prog 9 #[.slice a n cap, .int .u64 (l : Int)] w fun x w' => x = .returned (.bool true) ∧ Below w.heap.size w w' := by
  obtain ⟨hT, hnc, hcm, hA⟩ := hI
  have HT := Lib.hid hT
  have HLEN := Lib.hid hT.1
  have C0 := Lib.hid (many_any a none n 0 cap 0 w)
  by_cases hn : 500 < n
  · rw [show manyB n 0 = true from by unfold manyB; rw [decide_eq_true_iff]; omega] at C0
    clear hT hA
    go_enter Try.func9, Try.ntmps9
    go_wp2_with fail
    with_reducible refine C0.out.mono ?_
    rintro x w1 ⟨rfl, rfl⟩
    go_wp2_with fail
    with_reducible refine (known_any _).mono ?_
    rintro x w2 ⟨rfl, hb⟩
    go_wp2
    go_ret
    exact ⟨rfl, hb⟩
  · rw [show manyB n 0 = false from by unfold manyB; rw [decide_eq_false_iff_not]; omega] at C0
    have C1 := Lib.hid (check_any a n cap t w hT (small_len _ (by omega)))
    rcases chk_cases t with ⟨hM, hc⟩ | ⟨hM, hc⟩
    · rw [hc] at C1
      have cc := fun W (h : Tab W a n t) => cut_any a n cap l t W h hA hnc (by omega)
      rw [show cutS t l = t.take (cL t l) from by unfold cutS; rw [if_pos hM]] at cc
      have C2 := Lib.hid cc
      have hcl := cL_le t l
      rw [hT.1] at hcl
      have HHI := Lib.hid (fun i => cL_hi (t := t) (l := l) (i := i))
      rw [HLEN.out] at HHI
      have HM := Lib.hid hM
      clear cc hT hA hM hc
      generalize cL t l = c at *
      go_enter Try.func9, Try.ntmps9
      go_wp2_with fail
      with_reducible refine C0.out.mono ?_
      rintro x w1 ⟨rfl, rfl⟩
      go_wp2_with fail
      with_reducible refine C1.out.mono ?_
      rintro x w2 ⟨rfl, hb⟩
      rw [show ((0 : Nat) : Int) = 0 from rfl]
      have B2 := Lib.hid hb
      clear hb
      go_wp2_with fail
      with_reducible refine (C2.out _ (HT.out.below B2.out)).mono ?_
      rintro x w3 ⟨v, rfl, ho, hb⟩
      have B3 := Lib.hid (B2.out.trans (hb.mono B2.out.size))
      obtain ⟨A, cx, rfl, hX, _, _, hAx⟩ := ho.slice
      have hlx : (t.take c).length = c := by rw [List.length_take, HLEN.out]; omega
      rw [hlx] at hX ⊢
      have HX := Lib.hid hX
      have HAX := Lib.hid hAx
      clear hb ho hX hAx hlx C0 C1 C2
      have hcn : decide (n < c) = false := by rw [decide_eq_false_iff_not]; omega
      have hcn2 : decide ((n : Int) < (c : Int)) = false := by rw [decide_eq_false_iff_not]; omega
      go_wp2_with fail
      go_loopw [5, 7] (AdR w n c t) (fun _ i _ => n - (intOf i).toNat)
      case atStart => exact ⟨c, A, cx, Nat.le_refl _, hcl, rfl, rfl, HX.out, HAX.out, B3.out⟩
      case round =>
        obtain ⟨k, A', c', hk1, hk2, rfl, rfl, hX', hA', hbel⟩ := hrel
        have HBE := Lib.hid hbel
        have HX' := Lib.hid hX'
        have HA' := Lib.hid hA'
        clear hbel hX' hA'
        by_cases hlt : k < n
        · obtain ⟨b, off, rfl, hat⟩ := (HT.out.below HBE.out).2.2 (by omega)
          obtain ⟨d0, d1⟩ := hat k hlt
          have hkn : (k : Int) < (n : Int) := by omega
          have hzl := HHI.out k hk1 hlt
          have hkt : k < t.length := by rw [HLEN.out]; exact hlt
          have hnt : t.length ≤ 500 := by rw [HLEN.out]; omega
          have E1 := Lib.hid (add_ok A' k c' t wr HX'.out HA'.out hkt hnt HT.out.2.1 HM.out)
          have E2 := Lib.hid (fun A2 c2 W h1 h2 => add_bad A2 k c2 (ep t k) (ls t k) t W h1 h2 hkt hnt (HT.out.2.1 k).1 (HT.out.2.1 k).2 (.inl (Nat.le_refl _)))
          have E3 := Lib.hid (fun A2 c2 W h1 h2 => add_max A2 k c2 (ep t k) t W h1 h2 hkt hnt (HT.out.2.1 k).1 (Nat.le_refl _))
          have HTC := Lib.hid (fun W (h : Below wr.heap.size wr W) => (⟨(h.cell (block_lt_of_cell d0)).trans d0, (h.cell (block_lt_of_cell d1)).trans d1⟩ : W.cell? ⟨b, off + k * 2, none⟩ = some (.int .u32 (ep t k : Nat)) ∧ W.cell? ⟨b, off + k * 2 + 1, none⟩ = some (.int .u64 (ls t k : Nat))))
          clear hat hkt hnt
          generalize ep t k = e at *
          generalize ls t k = z at *
          have g1 : decide (z ≤ l) = false := by rw [decide_eq_false_iff_not]; omega
          have g2 : decide ((z : Int) ≤ (l : Int)) = false := by rw [decide_eq_false_iff_not]; omega
          go_wp2_with fail
          with_reducible refine E1.out.mono ?_
          rintro x w4 ⟨A4, c4, rfl, hX4, hA4, hb4⟩
          have HX4 := Lib.hid hX4
          have HA4 := Lib.hid hA4
          have B4 := Lib.hid hb4
          obtain ⟨f0, f1⟩ := HTC.out w4 hb4
          clear hX4 hA4 hb4 d0 d1 E1
          go_wp2_with fail
          with_reducible refine (E2.out A4 c4 w4 HX4.out HA4.out).mono ?_
          rintro x w5 ⟨v5, rfl, hb5⟩
          have B5 := Lib.hid (B4.out.trans (hb5.mono B4.out.size))
          have HX5 := Lib.hid (HX4.out.below hb5)
          obtain ⟨d0, d1⟩ := HTC.out w5 B5.out
          clear f0 f1 hb5 E2
          go_wp2_with fail
          with_reducible refine (E3.out A4 c4 w5 HX5.out HA4.out).mono ?_
          rintro x w6 ⟨v6, rfl, hb6⟩
          have B6 := Lib.hid (HBE.out.trans ((B5.out.trans (hb6.mono B5.out.size)).mono HBE.out.size))
          have HX6 := Lib.hid (HX5.out.below hb6)
          clear d0 d1 hb6 E3 HTC
          go_wp2
          go_roundw
          case rel => exact ⟨k + 1, A4, c4, by omega, by omega, by go_num, rfl, HX6.out, HA4.out, B6.out⟩
          case measure => simp [intOf]; omega
        · have hkn : k = n := by omega
          subst hkn
          have hd1 : decide (k < k) = false := by simp
          have htt : t.take k = t := List.take_of_length_le (by rw [HLEN.out]; exact Nat.le_refl _)
          rw [htt] at HX'
          have E4 := Lib.hid (same_any A' a k k c' cap t t wr HX'.out (HT.out.below HBE.out) (by omega) (by omega))
          rw [show decide (t = t) = true from by simp] at E4
          clear htt
          go_wp2_with fail
          with_reducible refine E4.out.mono ?_
          rintro x w4 ⟨rfl, hb⟩
          have B4 := Lib.hid (HBE.out.trans (hb.mono HBE.out.size))
          clear hb
          go_wp2_with fail
          with_reducible refine (known_any _).mono ?_
          rintro x w5 ⟨rfl, hb⟩
          go_wp2
          go_ret
          exact ⟨rfl, B4.out.trans (hb.mono B4.out.size)⟩
    · rw [hc] at C1
      clear hT hA hM hc
      go_enter Try.func9, Try.ntmps9
      go_wp2_with fail
      with_reducible refine C0.out.mono ?_
      rintro x w1 ⟨rfl, rfl⟩
      go_wp2_with fail
      with_reducible refine C1.out.mono ?_
      rintro x w2 ⟨rfl, hb⟩
      rw [show ((60 : Nat) : Int) = 60 from rfl]
      have B2 := Lib.hid hb
      clear hb
      go_wp2_with fail
      with_reducible refine (known_any _).mono ?_
      rintro x w3 ⟨rfl, hb⟩
      go_wp2
      go_ret
      exact ⟨rfl, B2.out.trans (hb.mono B2.out.size)⟩

end Go.Proofs.Ytngnfgnaagbpjaa
