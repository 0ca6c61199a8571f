/-
  Texts of one proof, in their order: FeSearch, FeFind.
-/
import Derived.Test.YtpbclmnhkmcknaaGreatB05
namespace Go.Proofs.YtpbclmnhkmcknaaGreat.Fe
open Go.RowKit
set_option maxRecDepth 100000
set_option linter.unusedVariables false
set_option linter.unusedSimpArgs false

def BsR (w : World) (n : Nat) (T : Nat → Kp) (q : Int) (g : Nat) (cs : Array Value) (i j : Value) (wr : World) : Prop :=
  ∃ p r : Nat, p ≤ r ∧ r ≤ n ∧ i = .int .i64 p ∧ j = .int .i64 r ∧ (∀ k, k < p → (T k).k < q) ∧ (∀ k, r ≤ k → k < n → q ≤ (T k).k) ∧ Lies wr g 204 cs ∧ Below w.heap.size w wr
def BsPost (w : World) (n : Nat) (T : Nat → Kp) (q : Int) (x : Ending) (w' : World) : Prop :=
  x = .returned (.tuple #[.int .i64 (pos T q n : Nat), .bool (has n T q)]) ∧ Below w.heap.size w w'

set_option maxHeartbeats 8000000 in
theorem bsearch (A : Option Addr) (n c : Nat) (T : Nat → Kp) (o : Nat) (s : Int) (u : Bool) (w : World) (hF : FV w A n c T) (hok : okT n T) (hs : in64 s) :
    Calls Tryz.prog 133 #[.slice A n c, .agg (ky o s u), .func (.func 134) #[] #[]] w (BsPost w n T (kn o s u)) := by
  obtain ⟨_, _, _, X, hK, hX⟩ := hF
  have hn2 : n ≤ 200 := hok.1
  have HK := Lib.hid hK
  have HX := Lib.hid hX
  have HOK := Lib.hid hok
  have HS := Lib.hid hs
  have LB := Lib.hid (Lies.made w 204 (ky o s u))
  have HB := Lib.hid (below1 w (.cells (ky o s u) 204))
  clear hK hX hok hs
  unfold BsPost
  generalize hq : kn o s u = q
  have HQ := Lib.hid hq
  clear hq
  go_enter Tryz.func133, Tryz.ntmps133
  go_wp2_with fail
  go_loopw [9, 10] (BsR w n T q w.heap.size (ky o s u)) (fun i j _ => (intOf j).toNat - (intOf i).toNat)
  case atStart => exact ⟨0, n, by omega, by omega, rfl, rfl, (fun k h => by omega), (fun k h1 h2 => by omega), LB.out, HB.out⟩
  case round =>
    obtain ⟨p, r, hpq, hqn, rfl, rfl, hlo, hhi, hL, hbel⟩ := hrel
    have HLO := Lib.hid hlo
    have HHI := Lib.hid hhi
    have LY := Lib.hid hL
    have HBE := Lib.hid hbel
    clear hlo hhi hbel hL
    obtain ⟨y0, y1, y2⟩ := LY.out.cells3
    by_cases hlt : p < r
    · obtain ⟨h, hh⟩ : ∃ h, (p + r) / 2 = h := ⟨_, rfl⟩
      have hb1 : p ≤ h := by omega
      have hb2 : h < r := by omega
      have hmid : ((p : Int) + (r : Int)) / 2 = (h : Int) := by omega
      clear hh
      obtain ⟨b, off, rfl, _⟩ := HK.out.1 (by omega)
      have HKW := Lib.hid (HK.out.below HBE.out)
      obtain ⟨d0, d1, d2, d3, d4, d5⟩ := HKW.out.at h (by omega)
      have hi : (h : Int) < (n : Int) := by omega
      have HKT := Lib.hid (HKW.out.2 h (by omega))
      have HTJ := Lib.hid (HX.out h (by omega))
      have CC := Lib.hid (fun W => compareToKey_any (X h) o s u HKT.out.s HS.out W)
      have HKE : Hid ((X h).k.k = (T h).k) := Lib.hid (by rw [HTJ.out])
      rw [HKE.out, HQ.out] at CC
      have HMN := Lib.hid (fun k (h1 : k < h) => HOK.out.mono (i := k) (j := h) h1 (by omega))
      have HMX := Lib.hid (fun k (h1 : h < k) (h2 : k < n) => HOK.out.mono (i := h) (j := k) h1 h2)
      have HD := Lib.hid (fun W (hb : Below wr.drew.heap.size wr.drew W) => (HKW.out.drew.below hb).at h (by omega))
      clear HKW HKT HTJ HKE
      generalize X h = x0 at *
      obtain ⟨⟨xo, xs, xu, xa, xc, xr⟩, xK, xD⟩ := x0
      dsimp only at *
      generalize hlx : (T h).k = x at *
      have HLX := Lib.hid hlx
      clear hlx
      by_cases hx : x < q
      · rw [cmpI_lt hx] at CC
        go_wp2_with fail
        go_region_held3 (fun W => W.cell? ⟨b, off + h * 6, none⟩ = some (.int .u32 (xo : Int)) ∧ W.cell? ⟨b, off + h * 6 + 1, none⟩ = some (.int .i64 xs) ∧ W.cell? ⟨b, off + h * 6 + 2, none⟩ = some (.bool xu) ∧ W.cell? ⟨b, off + h * 6 + 3, none⟩ = some xK ∧ W.cell? ⟨b, off + h * 6 + 4, none⟩ = some (.int .i64 xc) ∧ W.cell? ⟨b, off + h * 6 + 5, none⟩ = some xD ∧ W.cell? ⟨w.heap.size, 0, none⟩ = some (.int .u32 (o : Int)) ∧ W.cell? ⟨w.heap.size, 1, none⟩ = some (.int .i64 s) ∧ W.cell? ⟨w.heap.size, 2, none⟩ = some (.bool u)) (first | go_keep | (obtain ⟨f0, f1, f2, f3, f4, f5⟩ := HD2.out; obtain ⟨g0, g1, g2⟩ := LY2.out.cells3; exact ⟨f0, f1, f2, f3, f4, f5, g0, g1, g2⟩))
          (first
          | (go_at_call 134; (with_reducible refine (CC.out _).mono ?_); (rintro y w2 ⟨rfl, hb⟩); (have HB2 := Lib.hid (HBE.out.drew.trans (hb.mono HBE.out.size))); (have LY2 := Lib.hid (Lies.below (Lies.drew LY.out) hb (Lies.lt LY.out))); (have HD2 := Lib.hid (HD.out _ hb)); clear hb))
        clear CC HD d0 d1 d2 d3 d4 d5 y0 y1 y2
        go_wp2
        go_roundw
        case rel =>
          refine ⟨h + 1, r, by omega, hqn, by go_num, rfl, fun k hk => ?_, HHI.out, LY2.out, HB2.out⟩
          by_cases hkh : k = h
          · rw [hkh, HLX.out]; exact hx
          · have := HMN.out k (by omega); omega
        case measure => simp [intOf]; omega
      · obtain ⟨c0, hc0, hc⟩ : ∃ c0 : Int, 0 ≤ c0 ∧ cmpI x q = c0 := ⟨_, by unfold cmpI; rw [if_neg hx]; split <;> omega, rfl⟩
        rw [hc] at CC
        clear hc
        have hcd : decide (c0 < 0) = false := by rw [decide_eq_false_iff_not]; omega
        go_wp2_with fail
        go_region_held3 (fun W => W.cell? ⟨b, off + h * 6, none⟩ = some (.int .u32 (xo : Int)) ∧ W.cell? ⟨b, off + h * 6 + 1, none⟩ = some (.int .i64 xs) ∧ W.cell? ⟨b, off + h * 6 + 2, none⟩ = some (.bool xu) ∧ W.cell? ⟨b, off + h * 6 + 3, none⟩ = some xK ∧ W.cell? ⟨b, off + h * 6 + 4, none⟩ = some (.int .i64 xc) ∧ W.cell? ⟨b, off + h * 6 + 5, none⟩ = some xD ∧ W.cell? ⟨w.heap.size, 0, none⟩ = some (.int .u32 (o : Int)) ∧ W.cell? ⟨w.heap.size, 1, none⟩ = some (.int .i64 s) ∧ W.cell? ⟨w.heap.size, 2, none⟩ = some (.bool u)) (first | go_keep | (obtain ⟨f0, f1, f2, f3, f4, f5⟩ := HD2.out; obtain ⟨g0, g1, g2⟩ := LY2.out.cells3; exact ⟨f0, f1, f2, f3, f4, f5, g0, g1, g2⟩))
          (first
          | (go_at_call 134; (with_reducible refine (CC.out _).mono ?_); (rintro y w2 ⟨rfl, hb⟩); (have HB2 := Lib.hid (HBE.out.drew.trans (hb.mono HBE.out.size))); (have LY2 := Lib.hid (Lies.below (Lies.drew LY.out) hb (Lies.lt LY.out))); (have HD2 := Lib.hid (HD.out _ hb)); clear hb))
        clear CC HD d0 d1 d2 d3 d4 d5 y0 y1 y2
        go_wp2
        go_roundw
        case rel =>
          refine ⟨p, h, by omega, by omega, rfl, rfl, HLO.out, fun k hk1 hk2 => ?_, LY2.out, HB2.out⟩
          by_cases hkh : k = h
          · rw [hkh, HLX.out]; omega
          · have := HMX.out k (by omega) hk2; omega
        case measure => simp [intOf]; omega
    · have hpq2 : r = p := by omega
      subst hpq2
      have HPOS := Lib.hid (pos_eq (n := n) hqn HLO.out HHI.out)
      have HHAS : Hid (has n T q = decide (r < n ∧ (T r).k = q)) := Lib.hid (by unfold has; rw [HPOS.out])
      by_cases hin : r < n
      · obtain ⟨b, off, rfl, _⟩ := HK.out.1 (by omega)
        have HKW := Lib.hid (HK.out.below HBE.out)
        obtain ⟨d0, d1, d2, d3, d4, d5⟩ := HKW.out.at r hin
        have hi : (r : Int) < (n : Int) := by omega
        have HKT := Lib.hid (HKW.out.2 r hin)
        have HTJ := Lib.hid (HX.out r hin)
        have CC := Lib.hid (fun W => compareToKey_any (X r) o s u HKT.out.s HS.out W)
        have HKE : Hid ((X r).k.k = (T r).k) := Lib.hid (by rw [HTJ.out])
        rw [HKE.out, HQ.out] at CC
        have HD := Lib.hid (fun W (hb : Below wr.drew.heap.size wr.drew W) => (HKW.out.drew.below hb).at r hin)
        clear HKW HKT HTJ HKE
        generalize X r = x0 at *
        obtain ⟨⟨xo, xs, xu, xa, xc, xr⟩, xK, xD⟩ := x0
        dsimp only at *
        generalize hlx : (T r).k = x at *
        have HLX := Lib.hid hlx
        clear hlx
        by_cases hx : x = q
        · rw [cmpI_eq hx] at CC
          have HH : Hid (has n T q = true) := Lib.hid (by rw [HHAS.out, decide_eq_true_iff]; exact ⟨hin, hx⟩)
          clear hx
          go_wp2_with fail
          go_region_held3 (fun W => W.cell? ⟨b, off + r * 6, none⟩ = some (.int .u32 (xo : Int)) ∧ W.cell? ⟨b, off + r * 6 + 1, none⟩ = some (.int .i64 xs) ∧ W.cell? ⟨b, off + r * 6 + 2, none⟩ = some (.bool xu) ∧ W.cell? ⟨b, off + r * 6 + 3, none⟩ = some xK ∧ W.cell? ⟨b, off + r * 6 + 4, none⟩ = some (.int .i64 xc) ∧ W.cell? ⟨b, off + r * 6 + 5, none⟩ = some xD ∧ W.cell? ⟨w.heap.size, 0, none⟩ = some (.int .u32 (o : Int)) ∧ W.cell? ⟨w.heap.size, 1, none⟩ = some (.int .i64 s) ∧ W.cell? ⟨w.heap.size, 2, none⟩ = some (.bool u)) (first | go_keep | (obtain ⟨f0, f1, f2, f3, f4, f5⟩ := HD2.out; obtain ⟨g0, g1, g2⟩ := LY2.out.cells3; exact ⟨f0, f1, f2, f3, f4, f5, g0, g1, g2⟩))
            (first
            | (go_at_call 134; (with_reducible refine (CC.out _).mono ?_); (rintro y w2 ⟨rfl, hb⟩); (have HB2 := Lib.hid (HBE.out.drew.trans (hb.mono HBE.out.size))); (have LY2 := Lib.hid (Lies.below (Lies.drew LY.out) hb (Lies.lt LY.out))); (have HD2 := Lib.hid (HD.out _ hb)); clear hb))
          clear CC HD d0 d1 d2 d3 d4 d5 y0 y1 y2
          go_wp2
          go_ret2
          exact ⟨by rw [HPOS.out, HH.out]; rfl, HB2.out⟩
        · obtain ⟨c0, hc0, hc⟩ : ∃ c0 : Int, c0 ≠ 0 ∧ cmpI x q = c0 := ⟨_, by unfold cmpI; split; omega; split <;> omega, rfl⟩
          rw [hc] at CC
          clear hc
          have hcd : (c0 == 0) = false := by rw [beq_eq_false_iff_ne]; omega
          have HH : Hid (has n T q = false) := Lib.hid (by rw [HHAS.out, decide_eq_false_iff_not]; exact fun e => hx e.2)
          clear hx hc0
          go_wp2_with fail
          go_region_held3 (fun W => W.cell? ⟨b, off + r * 6, none⟩ = some (.int .u32 (xo : Int)) ∧ W.cell? ⟨b, off + r * 6 + 1, none⟩ = some (.int .i64 xs) ∧ W.cell? ⟨b, off + r * 6 + 2, none⟩ = some (.bool xu) ∧ W.cell? ⟨b, off + r * 6 + 3, none⟩ = some xK ∧ W.cell? ⟨b, off + r * 6 + 4, none⟩ = some (.int .i64 xc) ∧ W.cell? ⟨b, off + r * 6 + 5, none⟩ = some xD ∧ W.cell? ⟨w.heap.size, 0, none⟩ = some (.int .u32 (o : Int)) ∧ W.cell? ⟨w.heap.size, 1, none⟩ = some (.int .i64 s) ∧ W.cell? ⟨w.heap.size, 2, none⟩ = some (.bool u)) (first | go_keep | (obtain ⟨f0, f1, f2, f3, f4, f5⟩ := HD2.out; obtain ⟨g0, g1, g2⟩ := LY2.out.cells3; exact ⟨f0, f1, f2, f3, f4, f5, g0, g1, g2⟩))
            (first
            | (go_at_call 134; (with_reducible refine (CC.out _).mono ?_); (rintro y w2 ⟨rfl, hb⟩); (have HB2 := Lib.hid (HBE.out.drew.trans (hb.mono HBE.out.size))); (have LY2 := Lib.hid (Lies.below (Lies.drew LY.out) hb (Lies.lt LY.out))); (have HD2 := Lib.hid (HD.out _ hb)); clear hb))
          clear CC HD d0 d1 d2 d3 d4 d5 y0 y1 y2
          go_wp2
          go_ret2
          exact ⟨by rw [HPOS.out, HH.out]; rfl, HB2.out⟩
      · have hqq : decide (r < n) = false := by rw [decide_eq_false_iff_not]; exact hin
        have HH : Hid (has n T q = false) := Lib.hid (by rw [HHAS.out, decide_eq_false_iff_not]; exact fun e => hin e.1)
        go_wp2_with fail
        clear y0 y1 y2
        refine wp_region_noPanic ?_
        refine wp_region_held_drew (S := fun W => Lies W w.heap.size 204 (ky o s u)) (by kernel_rfl) LY.out (fun hH0 => ?_)
        refine any_take 0 35 ?vk1x0 rfl rfl (by kernel_rfl) (by kernel_rfl) (by kernel_rfl) (fun _ _ _ h => h) (by rfl) ?hyk1x0 hH0 ?restk1x0
        case hyk1x0 => ((intro W hSw); obtain ⟨o0_0, o0_1, o0_2⟩ := Lies.cells3 hSw; go_simp; (try with_reducible rfl))
        try simp only [Act.put, List.setIfInBounds_toArray, List.set_cons_zero, List.set_cons_succ]
        refine any_take 1 36 ?vk1x1 rfl rfl (by kernel_rfl) (by kernel_rfl) (by kernel_rfl) (fun _ _ _ h => h) (by rfl) ?hyk1x1 hH0 ?restk1x1
        case hyk1x1 => ((intro W hSw); obtain ⟨o0_0, o0_1, o0_2⟩ := Lies.cells3 hSw; go_simp; (try with_reducible rfl))
        try simp only [Act.put, List.setIfInBounds_toArray, List.set_cons_zero, List.set_cons_succ]
        refine any_take 2 37 ?vk1x2 rfl rfl (by kernel_rfl) (by kernel_rfl) (by kernel_rfl) (fun _ _ _ h => h) (by rfl) ?hyk1x2 hH0 ?restk1x2
        case hyk1x2 => ((intro W hSw); obtain ⟨o0_0, o0_1, o0_2⟩ := Lies.cells3 hSw; go_simp; (try with_reducible rfl))
        try simp only [Act.put, List.setIfInBounds_toArray, List.set_cons_zero, List.set_cons_succ]
        refine any_take 3 38 ?vk1x3 rfl rfl (by kernel_rfl) (by kernel_rfl) (by kernel_rfl) (fun _ _ _ h => h) (by rfl) ?hyk1x3 hH0 ?restk1x3
        case hyk1x3 => ((intro W hSw); obtain ⟨o0_0, o0_1, o0_2⟩ := Lies.cells3 hSw; go_simp; (try with_reducible rfl))
        try simp only [Act.put, List.setIfInBounds_toArray, List.set_cons_zero, List.set_cons_succ]
        refine any_take 4 39 ?vk1x4 rfl rfl (by kernel_rfl) (by kernel_rfl) (by kernel_rfl) (fun _ _ _ h => h) (by rfl) ?hyk1x4 hH0 ?restk1x4
        case hyk1x4 => ((intro W hSw); obtain ⟨o0_0, o0_1, o0_2⟩ := Lies.cells3 hSw; go_simp; (try with_reducible rfl))
        try simp only [Act.put, List.setIfInBounds_toArray, List.set_cons_zero, List.set_cons_succ]
        refine any_skip 5 40 rfl rfl (by kernel_rfl) (by kernel_rfl) (by kernel_rfl) (fun _ _ _ h => h) (by rfl) hH0 ?_
        try simp only [Act.put, List.setIfInBounds_toArray, List.set_cons_zero, List.set_cons_succ]
        refine any_skip 6 41 rfl rfl (by kernel_rfl) (by kernel_rfl) (by kernel_rfl) (fun _ _ _ h => h) (by rfl) hH0 ?_
        try simp only [Act.put, List.setIfInBounds_toArray, List.set_cons_zero, List.set_cons_succ]
        refine any_skip 7 42 rfl rfl (by kernel_rfl) (by kernel_rfl) (by kernel_rfl) (fun _ _ _ h => h) (by rfl) hH0 ?_
        try simp only [Act.put, List.setIfInBounds_toArray, List.set_cons_zero, List.set_cons_succ]
        refine any_skip 8 43 rfl rfl (by kernel_rfl) (by kernel_rfl) (by kernel_rfl) (fun _ _ _ h => h) (by rfl) hH0 ?_
        try simp only [Act.put, List.setIfInBounds_toArray, List.set_cons_zero, List.set_cons_succ]
        refine any_skip 9 44 rfl rfl (by kernel_rfl) (by kernel_rfl) (by kernel_rfl) (fun _ _ _ h => h) (by rfl) hH0 ?_
        try simp only [Act.put, List.setIfInBounds_toArray, List.set_cons_zero, List.set_cons_succ]
        refine any_skip 10 45 rfl rfl (by kernel_rfl) (by kernel_rfl) (by kernel_rfl) (fun _ _ _ h => h) (by rfl) hH0 ?_
        try simp only [Act.put, List.setIfInBounds_toArray, List.set_cons_zero, List.set_cons_succ]
        refine any_skip 11 46 rfl rfl (by kernel_rfl) (by kernel_rfl) (by kernel_rfl) (fun _ _ _ h => h) (by rfl) hH0 ?_
        try simp only [Act.put, List.setIfInBounds_toArray, List.set_cons_zero, List.set_cons_succ]
        refine any_skip 12 47 rfl rfl (by kernel_rfl) (by kernel_rfl) (by kernel_rfl) (fun _ _ _ h => h) (by rfl) hH0 ?_
        try simp only [Act.put, List.setIfInBounds_toArray, List.set_cons_zero, List.set_cons_succ]
        refine any_take 13 48 ?vk1x13 rfl rfl (by kernel_rfl) (by kernel_rfl) (by kernel_rfl) (fun _ _ _ h => h) (by rfl) ?hyk1x13 hH0 ?restk1x13
        case hyk1x13 => ((intro W hSw); obtain ⟨o0_0, o0_1, o0_2⟩ := Lies.cells3 hSw; go_simp; (try with_reducible rfl))
        try simp only [Act.put, List.setIfInBounds_toArray, List.set_cons_zero, List.set_cons_succ]
        refine any_take 14 6 ?vk1x14 rfl rfl (by kernel_rfl) (by kernel_rfl) (by kernel_rfl) (fun _ _ _ h => h) (by rfl) ?hyk1x14 hH0 ?restk1x14
        case hyk1x14 => ((intro W hSw); obtain ⟨o0_0, o0_1, o0_2⟩ := Lies.cells3 hSw; go_simp; (try with_reducible rfl))
        try simp only [Act.put, List.setIfInBounds_toArray, List.set_cons_zero, List.set_cons_succ]
        refine any_take 15 7 ?vk1x15 rfl rfl (by kernel_rfl) (by kernel_rfl) (by kernel_rfl) (fun _ _ _ h => h) (by rfl) ?hyk1x15 hH0 ?restk1x15
        case hyk1x15 => ((intro W hSw); obtain ⟨o0_0, o0_1, o0_2⟩ := Lies.cells3 hSw; go_simp; (try with_reducible rfl))
        try simp only [Act.put, List.setIfInBounds_toArray, List.set_cons_zero, List.set_cons_succ]
        clear hH0
        refine wpAnyH_done (by kernel_rfl) ?_ _
        refine NoPanic.normal ?_
        go_wp2
        go_ret2
        exact ⟨by rw [HPOS.out, HH.out]; rfl, HBE.out.drew⟩

set_option maxHeartbeats 1000000 in
theorem search_any (A : Option Addr) (n c : Nat) (T : Nat → Kp) (o : Nat) (s : Int) (u : Bool) (w : World) (hF : FV w A n c T) (hok : okT n T) (hs : in64 s) :
    Calls Tryz.prog 103 #[.slice A n c, .agg (ky o s u)] w (BsPost w n T (kn o s u)) := by
  have CC := Lib.hid (bsearch A n c T o s u (w.alloc (.cells (ky o s u) 204)) (hF.alloc _) hok hs)
  have HB := Lib.hid (below1 w (.cells (ky o s u) 204))
  clear hF hok hs
  unfold BsPost at *
  generalize kn o s u = q at *
  generalize pos T q n = m at *
  generalize has n T q = f at *
  go_enter Tryz.func103, Tryz.ntmps103
  go_wp2_with fail
  with_reducible refine CC.out.mono ?_
  rintro y w2 ⟨rfl, hb⟩
  have HB2 := Lib.hid (HB.out.trans (hb.mono HB.out.size))
  clear hb
  go_wp2
  go_ret2
  exact ⟨rfl, HB2.out⟩

end Go.Proofs.YtpbclmnhkmcknaaGreat.Fe

namespace Go.Proofs.YtpbclmnhkmcknaaGreat.Fe
open Go.RowKit
set_option maxRecDepth 100000
set_option linter.unusedVariables false
set_option linter.unusedSimpArgs false

theorem KT.lens {x : Kx} (h : vk x.k = true) : x.k.a.length ≤ 255 ∧ x.k.r.length ≤ 255 := by
  have := (vk_iff _).1 h
  omega
/-- What Find answers. -/
def FindPost (w : World) (k : Kp) (f : Bool) (e : Ending) (w' : World) : Prop := ∃ y, e = .returned (.tuple #[.agg (kc y), .bool f]) ∧ NewK w' w.heap.size k y ∧ Below w.heap.size w w'
theorem newK_zero (w : World) (B : Nat) : NewK w B kz ⟨kz, .slice none 0 0, .slice none 0 0⟩ := ⟨rfl, Own.nil w B, Own.nil w B⟩
theorem findK_no {n : Nat} {T : Nat → Kp} {q : Int} (h : findB n T q = false) : findK n T q = kz := by
  unfold findB at h; unfold findK
  rw [if_neg (by rintro ⟨a, b⟩; rw [a, b] at h; cases h)]
set_option maxHeartbeats 8000000 in
theorem find_any (ep : Nat) (A : Option Addr) (n c : Nat) (T : Nat → Kp) (o : Nat) (s : Int) (u : Bool) (w : World) (hF : FV w A n c T) (hs : in64 s) :
    Calls Tryz.prog 97 #[.agg #[.int .u32 (ep : Int), .slice A n c], .int .u32 (o : Int), .int .i64 s, .bool u] w (FindPost w (findK n T (kn o s u)) (findB n T (kn o s u))) := by
  have CC := Lib.hid (fun W (h : FV W A n c T) => check_fence ep A n c T W h)
  have HF := Lib.hid hF
  have LF := Lib.hid ((Lies.made w 64 #[.int .u32 (ep : Int), .slice A n c]).alloc (.cells #[.int .u32 0, .int .i64 0, .bool false, .slice none 0 0, .int .i64 0, .slice none 0 0] 130))
  have LR := Lib.hid (Lies.made2 w (.cells #[.int .u32 (ep : Int), .slice A n c] 64) 130 #[.int .u32 0, .int .i64 0, .bool false, .slice none 0 0, .int .i64 0, .slice none 0 0])
  have BB := Lib.hid (below2 w (.cells #[.int .u32 (ep : Int), .slice A n c] 64) (.cells #[.int .u32 0, .int .i64 0, .bool false, .slice none 0 0, .int .i64 0, .slice none 0 0] 130))
  have HF0 := Lib.hid (hF.below BB.out)
  cases hok : okB n T
  · have HFB : Hid (findB n T (kn o s u) = false) := Lib.hid (by unfold findB; rw [hok]; rfl)
    rw [chkC_bad hok] at CC
    have HFK := Lib.hid (findK_no HFB.out)
    rw [HFB.out, HFK.out]
    clear hF hs hok HFB HFK
    go_enter Tryz.func97, Tryz.ntmps97
    go_wp2_with fail
    with_reducible refine (CC.out _ HF0.out).mono ?_
    rintro x w1 ⟨rfl, hb⟩
    have LF_1 := Lib.hid ((Lies.below LF.out hb LF.out.lt))
    have LR_1 := Lib.hid ((Lies.below LR.out hb LR.out.lt))
    have BB_1 := Lib.hid (BB.out.trans (hb.mono BB.out.size))
    clear hb
    obtain ⟨c0_0, c0_1⟩ := LF_1.out.cells2
    obtain ⟨f0_0, f0_1⟩ := LF_1.out.free2
    obtain ⟨c1_0, c1_1, c1_2, c1_3, c1_4, c1_5⟩ := LR_1.out.cells6
    obtain ⟨f1_0, f1_1, f1_2, f1_3, f1_4, f1_5⟩ := LR_1.out.free6
    go_wp2
    exact ret_keptB (w.heap.size + 1) 130 _ rfl rfl (LR_1.out.put6 _ _ _ _ _ _) rfl rfl ⟨_, rfl, newK_zero _ _, below_put6 BB_1.out (Nat.le_succ _) _ _ _ _ _ _⟩
  · rw [chkC_ok hok] at CC
    have HOK := Lib.hid ((okB_iff n T).1 hok)
    have CS := Lib.hid (fun W (h : FV W A n c T) => search_any A n c T o s u W h HOK.out hs)
    have HFB : Hid (findB n T (kn o s u) = has n T (kn o s u)) := Lib.hid (by unfold findB; rw [hok]; rfl)
    cases hh : has n T (kn o s u)
    · rw [hh] at HFB
      have HFK := Lib.hid (findK_no HFB.out)
      rw [HFB.out, HFK.out]
      unfold BsPost at CS
      rw [hh] at CS
      clear hF hs hok HFB HFK hh
      generalize pos T (kn o s u) n = m at *
      go_enter Tryz.func97, Tryz.ntmps97
      go_wp2_with fail
      with_reducible refine (CC.out _ HF0.out).mono ?_
      rintro x w1 ⟨rfl, hb⟩
      have LF_1 := Lib.hid ((Lies.below LF.out hb LF.out.lt))
      have LR_1 := Lib.hid ((Lies.below LR.out hb LR.out.lt))
      have BB_1 := Lib.hid (BB.out.trans (hb.mono BB.out.size))
      have HF0_1 := Lib.hid (HF0.out.below hb)
      clear hb
      obtain ⟨c0_0, c0_1⟩ := LF_1.out.cells2
      obtain ⟨f0_0, f0_1⟩ := LF_1.out.free2
      obtain ⟨c1_0, c1_1, c1_2, c1_3, c1_4, c1_5⟩ := LR_1.out.cells6
      obtain ⟨f1_0, f1_1, f1_2, f1_3, f1_4, f1_5⟩ := LR_1.out.free6
      go_wp2_with fail
      with_reducible refine (CS.out _ HF0_1.out).mono ?_
      rintro x w2 ⟨rfl, hb⟩
      have LF_2 := Lib.hid ((Lies.below LF_1.out hb LF_1.out.lt))
      have LR_2 := Lib.hid ((Lies.below LR_1.out hb LR_1.out.lt))
      have BB_2 := Lib.hid (BB_1.out.trans (hb.mono BB_1.out.size))
      have HF0_2 := Lib.hid (HF0_1.out.below hb)
      clear hb
      clear c0_0 c0_1 f0_0 f0_1 c1_0 c1_1 c1_2 c1_3 c1_4 c1_5 f1_0 f1_1 f1_2 f1_3 f1_4 f1_5
      obtain ⟨c0_0, c0_1⟩ := LF_2.out.cells2
      obtain ⟨f0_0, f0_1⟩ := LF_2.out.free2
      obtain ⟨c1_0, c1_1, c1_2, c1_3, c1_4, c1_5⟩ := LR_2.out.cells6
      obtain ⟨f1_0, f1_1, f1_2, f1_3, f1_4, f1_5⟩ := LR_2.out.free6
      go_wp2
      exact ret_keptB (w.heap.size + 1) 130 _ rfl rfl (LR_2.out.put6 _ _ _ _ _ _) rfl rfl ⟨_, rfl, newK_zero _ _, below_put6 BB_2.out (Nat.le_succ _) _ _ _ _ _ _⟩
    · rw [hh] at HFB
      obtain ⟨hm, hmk⟩ := has_at hh
      have HFK : Hid (findK n T (kn o s u) = T (pos T (kn o s u) n)) := Lib.hid (by unfold findK; rw [if_pos ⟨hok, hh⟩])
      rw [HFB.out, HFK.out]
      unfold BsPost at CS
      rw [hh] at CS
      clear hs hok HFB HFK hh hmk
      generalize pos T (kn o s u) n = m at *
      obtain ⟨_, _, _, X, hK, hX⟩ := hF
      obtain ⟨b, off, rfl, _⟩ := hK.1 (by omega)
      have hi : (m : Int) < (n : Int) := by omega
      have HVM : Hid (vk (X m).k = true) := Lib.hid (by rw [hX m hm]; exact (HOK.out.2 m hm).1)
      have HLN := Lib.hid (KT.lens HVM.out)
      have CL := Lib.hid (fun W (hW : Below w.heap.size w W) => clone_any (X m) W ((hK.below hW).2 m hm) (Nat.le_trans HLN.out.1 (by decide)) (Nat.le_trans HLN.out.2 (by decide)))
      have HAT := Lib.hid (fun W (hW : Below w.heap.size w W) => (hK.below hW).at m hm)
      have HE := Lib.hid (hX m hm)
      rw [HE.out] at CL
      rw [← HE.out]
      rw [← HE.out] at CL
      clear hK hX
      obtain ⟨xj, hxj⟩ : ∃ x, X m = x := ⟨_, rfl⟩
      rw [hxj] at CL HAT HLN HVM HE ⊢
      clear hxj HE
      obtain ⟨⟨xo, xs, xu, xa, xc, xr⟩, xK, xD⟩ := xj
      dsimp only at *
      go_enter Tryz.func97, Tryz.ntmps97
      go_wp2_with fail
      with_reducible refine (CC.out _ HF0.out).mono ?_
      rintro x w1 ⟨rfl, hb⟩
      have LF_1 := Lib.hid ((Lies.below LF.out hb LF.out.lt))
      have LR_1 := Lib.hid ((Lies.below LR.out hb LR.out.lt))
      have BB_1 := Lib.hid (BB.out.trans (hb.mono BB.out.size))
      have HF0_1 := Lib.hid (HF0.out.below hb)
      clear hb
      obtain ⟨c0_0, c0_1⟩ := LF_1.out.cells2
      obtain ⟨f0_0, f0_1⟩ := LF_1.out.free2
      obtain ⟨c1_0, c1_1, c1_2, c1_3, c1_4, c1_5⟩ := LR_1.out.cells6
      obtain ⟨f1_0, f1_1, f1_2, f1_3, f1_4, f1_5⟩ := LR_1.out.free6
      go_wp2_with fail
      with_reducible refine (CS.out _ HF0_1.out).mono ?_
      rintro x w2 ⟨rfl, hb⟩
      have LF_2 := Lib.hid ((Lies.below LF_1.out hb LF_1.out.lt))
      have LR_2 := Lib.hid ((Lies.below LR_1.out hb LR_1.out.lt))
      have BB_2 := Lib.hid (BB_1.out.trans (hb.mono BB_1.out.size))
      have HF0_2 := Lib.hid (HF0_1.out.below hb)
      clear hb
      clear c0_0 c0_1 f0_0 f0_1 c1_0 c1_1 c1_2 c1_3 c1_4 c1_5 f1_0 f1_1 f1_2 f1_3 f1_4 f1_5
      obtain ⟨c0_0, c0_1⟩ := LF_2.out.cells2
      obtain ⟨f0_0, f0_1⟩ := LF_2.out.free2
      obtain ⟨c1_0, c1_1, c1_2, c1_3, c1_4, c1_5⟩ := LR_2.out.cells6
      obtain ⟨f1_0, f1_1, f1_2, f1_3, f1_4, f1_5⟩ := LR_2.out.free6
      obtain ⟨q0, q1, q2, q3, q4, q5⟩ := HAT.out _ BB_2.out
      go_wp2_with fail
      with_reducible refine (CL.out _ BB_2.out).mono ?_
      rintro x w3 ⟨y, rfl, hy, hb⟩
      have NY := Lib.hid hy
      clear hy
      obtain ⟨E1, d1, z1, -⟩ := NY.out.2.1.slice
      obtain ⟨E2, d2, z2, -⟩ := NY.out.2.2.slice
      clear q0 q1 q2 q3 q4 q5
      have hyk := NY.out.1
      obtain ⟨yk, yK, yD⟩ := y
      dsimp only at *
      subst z1 z2 hyk
      try dsimp only at *
      have LF_3 := Lib.hid ((Lies.below LF_2.out hb LF_2.out.lt))
      have LR_3 := Lib.hid ((Lies.below LR_2.out hb LR_2.out.lt))
      have BB_3 := Lib.hid (BB_2.out.trans (hb.mono BB_2.out.size))
      have HF0_3 := Lib.hid (HF0_2.out.below hb)
      clear hb
      clear c0_0 c0_1 f0_0 f0_1 c1_0 c1_1 c1_2 c1_3 c1_4 c1_5 f1_0 f1_1 f1_2 f1_3 f1_4 f1_5
      obtain ⟨c0_0, c0_1⟩ := LF_3.out.cells2
      obtain ⟨f0_0, f0_1⟩ := LF_3.out.free2
      obtain ⟨c1_0, c1_1, c1_2, c1_3, c1_4, c1_5⟩ := LR_3.out.cells6
      obtain ⟨f1_0, f1_1, f1_2, f1_3, f1_4, f1_5⟩ := LR_3.out.free6
      go_wp2
      refine ret_keptB (w.heap.size + 1) 130 _ rfl rfl (LR_3.out.put6 _ _ _ _ _ _) rfl rfl ⟨⟨_, _, _⟩, rfl, ⟨rfl, ?_, ?_⟩, below_put6 BB_3.out (Nat.le_succ _) _ _ _ _ _ _⟩
      · exact (NY.out.2.1.put6 LR_3.out (by decide) _ _ _ _ _ _).mono BB_2.out.size
      · exact (NY.out.2.2.put6 LR_3.out (by decide) _ _ _ _ _ _).mono BB_2.out.size

end Go.Proofs.YtpbclmnhkmcknaaGreat.Fe
