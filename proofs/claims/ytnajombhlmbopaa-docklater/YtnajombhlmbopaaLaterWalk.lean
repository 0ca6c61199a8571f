/-
  The walk of DockLater.
-/
import Derived.Test.YtnajombhlmbopaaLawB
namespace Go.Proofs.Ytnajombhlmbopaa
open Go.Proofs Go.RowKit
set_option maxRecDepth 100000
set_option linter.unusedVariables false
set_option linter.unusedSimpArgs false

theorem SW.other {w0 w w' : World} {R R1 : List Int} {b b1 : SB} {q q1 : Ss} (h : SW w0 w R b q) (h1 : SW w0 w' R1 b1 q1) (hF : Frm w w' b1) {B : Nat} (hB : ∀ i, b1.isMap i → i < B) (hs : B ≤ b.s) (hm : ∀ i, b.isMap i → B ≤ i) : SW w0 w' R b q :=
  ⟨hF.at_other h.ok (fun hx => by have := hB _ hx; omega) (fun i hi hx => by have := hB _ hx; have := hm i hi; omega), h.inv, h1.bel, h.lo⟩
/-- Who asks from a later day on, or for more, is not booked ahead. -/
theorem later {l : List Int} {lo hi nlo nhi : Int} (h1 : lo ≤ hi) (h2 : nlo ≤ nhi) (h3 : 0 ≤ lo) (h4 : 1 ≤ nlo) {y : Nat} (h : bookD ⟨l, []⟩ 1 hi nhi = some y) : hi ≤ (y : Int) ∧ ∃ x : Nat, bookD ⟨l, []⟩ 1 lo nlo = some x ∧ x ≤ y := by
  obtain ⟨-, hd⟩ := bookD_some.1 h
  obtain ⟨d1, d2, d3, d4⟩ := fday_some.1 hd
  refine ⟨d2, ?_⟩
  have hp : (1 : Nat) ≠ 0 ∧ 1 ≤ nlo ∧ 0 ≤ lo ∧ findH (Ss.mk l []).H 1 = none := ⟨by decide, h4, h3, rfl⟩
  cases hf : fday l lo nlo with
  | none => exact absurd ⟨Int.le_trans h1 d2, Int.le_trans h2 d3⟩ (fday_none.1 hf y d1)
  | some x =>
    refine ⟨x, bookD_some.2 ⟨hp, hf⟩, ?_⟩
    obtain ⟨e1, e2, e3, e4⟩ := fday_some.1 hf
    refine Nat.le_of_not_lt fun hlt => ?_
    exact e4 y hlt ⟨Int.le_trans h1 d2, Int.le_trans h2 d3⟩


set_option maxHeartbeats 16000000 in
theorem dockLater_walk (A : Option Addr) (n c : Nat) (l : List Int) (a1 a2 k1 k2 : Int) (w : World) (hG : Iin w A n l) (hn : n ≤ maxLen) (hIO : IntsOk l) (ha1 : in64 a1) (ha2 : in64 a2) (hk1 : in64 k1) (hk2 : in64 k2)
    (KN : ∀ W, Calls Try.prog 9 #[] W fun e w' => e = .returned (.bool true) ∧ Below W.heap.size W w') :
    Calls Try.prog 8 #[.slice A n c, .int .i64 a1, .int .i64 a2, .int .i64 k1, .int .i64 k2] w fun e w' => e = .returned (.bool true) ∧ Below w.heap.size w w' := by
  have HG := Lib.hid hG
  have HN := Lib.hid hG.1
  have HK := Lib.hid KN
  have HIO := Lib.hid hIO
  have hnn0 : (n : Int) ≤ 9223372036854775807 := by unfold maxLen at hn; omega
  clear hG KN hn hIO
  by_cases h200 : 200 < n
  · have e0 : decide ((200 : Int) < (n : Int)) = true := by simp; omega
    go_enter Try.func8, Try.ntmps8
    go_wp2_with fail
    with_reducible refine (HK.out _).mono ?_
    rintro e w2 ⟨rfl, hb⟩
    have HB := Lib.hid hb
    clear hb
    go_wp2
    go_ret
    exact ⟨rfl, HB.out⟩
  · have e0 : decide ((200 : Int) < (n : Int)) = false := by simp; omega
    go_enter Try.func8, Try.ntmps8
    go_wp2_with fail
    with_reducible refine (sw_new (Below.refl _ _) A n c l HG.out (by omega)).mono ?_
    rintro e w1 ⟨hb, ⟨h1, rfl⟩ | ⟨b, h1, rfl, hs, -⟩⟩
    · have HB := Lib.hid hb
      have HN1 := Lib.hid h1
      clear hb h1
      go_wp2_with fail
      with_reducible refine (sw_new HB.out A n c l (HG.out.below HB.out) (by omega)).mono ?_
      rintro e w2 ⟨hb, ⟨h1, rfl⟩ | ⟨b2, h1, rfl, hs, -⟩⟩
      · have HB2 := Lib.hid (HB.out.trans (hb.mono HB.out.size))
        clear hb h1
        go_wp2_with fail
        with_reducible refine (HK.out _).mono ?_
        rintro e w3 ⟨rfl, hb⟩
        have HB3 := Lib.hid (HB2.out.trans (hb.mono HB2.out.size))
        clear hb
        go_wp2
        go_ret
        exact ⟨rfl, HB3.out⟩
      · rw [HN1.out] at h1; cases h1
    · have S_1 := Lib.hid hs
      have HNO := Lib.hid h1
      clear hb h1 hs
      go_wp2_with fail
      with_reducible refine (sw_new S_1.out.bel A n c l (HG.out.below S_1.out.bel) (by omega)).mono ?_
      rintro e w2 ⟨hb, ⟨h1, rfl⟩ | ⟨b2, h1, rfl, hs, hlo1, hlo2⟩⟩
      · rw [HNO.out] at h1; cases h1
      · have T_2 := Lib.hid hs
        have S_2 := Lib.hid (S_1.out.below hb)
        have HLO := Lib.hid (And.intro (fun i hi => S_1.out.ok.map_lt (i := i) hi) (And.intro hlo1 hlo2))
        clear hb h1 hs hlo1 hlo2 S_1
        obtain ⟨lo, hlo⟩ : ∃ z, min a1 a2 = z := ⟨_, rfl⟩
        obtain ⟨nlo, hnlo⟩ : ∃ z, min k1 k2 = z := ⟨_, rfl⟩
        obtain ⟨hi, hhi⟩ : ∃ z, max a1 a2 = z := ⟨_, rfl⟩
        obtain ⟨nhi, hnhi⟩ : ∃ z, max k1 k2 = z := ⟨_, rfl⟩
        have b64 : in64 lo ∧ in64 nlo ∧ in64 hi ∧ in64 nhi ∧ lo ≤ hi ∧ nlo ≤ nhi := by unfold in64 at *; omega
        have HB64 := Lib.hid b64
        clear b64 ha1 ha2 hk1 hk2
        have C1 : Hid (Calls Try.prog 23 #[.pointer (some ⟨b.s, 0, none⟩), .int .u32 1, .int .i64 lo, .int .i64 nlo] w2 (SwPost2 w w2 l b (bookS ⟨l, []⟩ 1 lo nlo) (dayI (bookD ⟨l, []⟩ 1 lo nlo)) (verd (bookD ⟨l, []⟩ 1 lo nlo).isSome))) := Lib.hid (sw_book S_2.out 1 lo nlo (by decide) HB64.out.1 HB64.out.2.1 (by simp))
        go_wp2_with fail
        with_reducible refine C1.out.mono ?_
        rintro e w3 ⟨rfl, hs, hf⟩
        have S_3 := Lib.hid hs
        have T_3 := Lib.hid (T_2.out.other hs hf HLO.out.1 HLO.out.2.1 HLO.out.2.2)
        clear hs hf C1 T_2 S_2
        have C2 : Hid (Calls Try.prog 23 #[.pointer (some ⟨b2.s, 0, none⟩), .int .u32 1, .int .i64 hi, .int .i64 nhi] w3 (SwPost2 w w3 l b2 (bookS ⟨l, []⟩ 1 hi nhi) (dayI (bookD ⟨l, []⟩ 1 hi nhi)) (verd (bookD ⟨l, []⟩ 1 hi nhi).isSome))) := Lib.hid (sw_book T_3.out 1 hi nhi (by decide) HB64.out.2.2.1 HB64.out.2.2.2.1 (by simp))
        obtain ⟨D1, hD1⟩ : ∃ z, bookD ⟨l, []⟩ 1 lo nlo = z := ⟨_, rfl⟩
        obtain ⟨D2, hD2⟩ : ∃ z, bookD ⟨l, []⟩ 1 hi nhi = z := ⟨_, rfl⟩
        rw [hD2] at C2
        rw [hD1]
        have HD1 := Lib.hid hD1
        have HD2 := Lib.hid hD2
        clear hD1 hD2
        obtain ⟨u1, hu1⟩ : ∃ z, dayI D1 = z := ⟨_, rfl⟩
        obtain ⟨v1, hv1⟩ : ∃ z, verd D1.isSome = z := ⟨_, rfl⟩
        rw [hu1, hv1]
        have HU1 := Lib.hid hu1
        have HV1 := Lib.hid hv1
        clear hu1 hv1
        go_wp2_with fail
        with_reducible refine C2.out.mono ?_
        rintro e w4 ⟨rfl, hs, hf⟩
        have S_4 := Lib.hid hs
        clear hs hf C2 T_3
        cases D2 with
        | none =>
          have hu2 : dayI none = 0 := rfl
          have hv2 : verd (none : Option Nat).isSome = 2 := rfl
          rw [hu2, hv2]
          clear hu2 hv2
          go_wp2_with fail
          with_reducible refine (HK.out _).mono ?_
          rintro e w90 ⟨rfl, hb⟩
          have S_90 := Lib.hid (S_4.out.below hb)
          clear hb
          go_wp2
          go_ret
          exact ⟨rfl, S_90.out.bel⟩
        | some y =>
          have hu2 : dayI (some y) = (y : Int) := rfl
          have hv2 : verd (some y).isSome = 1 := rfl
          rw [hu2, hv2]
          clear hu2 hv2
          by_cases h5 : 0 ≤ lo
          · have e5 : decide (0 ≤ lo) = true := by simpa using h5
            by_cases h6 : 1 ≤ nlo
            · have e6 : decide (1 ≤ nlo) = true := by simpa using h6
              obtain ⟨hy, x, hx, hxy⟩ := later HB64.out.2.2.2.2.1 HB64.out.2.2.2.2.2 h5 h6 HD2.out
              rw [HD1.out] at hx
              subst hx
              obtain rfl : u1 = (x : Int) := HU1.out.symm
              obtain rfl : v1 = 1 := HV1.out.symm
              have e7 : decide ((y : Int) < (x : Int)) = false := by simp; omega
              have e8 : decide (y < x) = false := by simp; omega
              have e9 : decide ((y : Int) < hi) = false := by simp; omega
              clear hy hxy h5 h6
              go_wp2_with fail
              with_reducible refine (HK.out _).mono ?_
              rintro e w90 ⟨rfl, hb⟩
              have S_90 := Lib.hid (S_4.out.below hb)
              clear hb
              go_wp2
              go_ret
              exact ⟨rfl, S_90.out.bel⟩
            · have e6 : decide (1 ≤ nlo) = false := by simpa using h6
              go_wp2_with fail
              with_reducible refine (HK.out _).mono ?_
              rintro e w90 ⟨rfl, hb⟩
              have S_90 := Lib.hid (S_4.out.below hb)
              clear hb
              go_wp2
              go_ret
              exact ⟨rfl, S_90.out.bel⟩
          · have e5 : decide (0 ≤ lo) = false := by simpa using h5
            go_wp2_with fail
            with_reducible refine (HK.out _).mono ?_
            rintro e w90 ⟨rfl, hb⟩
            have S_90 := Lib.hid (S_4.out.below hb)
            clear hb
            go_wp2
            go_ret
            exact ⟨rfl, S_90.out.bel⟩

end Go.Proofs.Ytnajombhlmbopaa
