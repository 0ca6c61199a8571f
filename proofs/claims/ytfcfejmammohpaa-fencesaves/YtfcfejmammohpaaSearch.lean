/-
  The contracts of the binary search and of search: for every list that may be.
-/
import Derived.Test.YtfcfejmammohpaaCmp
import Derived.Test.YtfcfejmammohpaaRegLaw
namespace Go.Proofs.Ytfcfejmammohpaa
open Go.RowKit
set_option maxRecDepth 100000
set_option linter.unusedVariables false
set_option linter.unusedSimpArgs false

theorem Lies.drewN {w : World} {g : Nat} {t : TypeId} {cs : Array Value} (h : Lies w g t cs) (k : Nat) : Lies (w.drewN k) g t cs := h
def BsR (w : World) (n : Nat) (T : Nat → Kp) (q : Int) (g : Nat) (cs : Array Value) (i j : Value) (wr : World) : Prop :=
  ∃ p r : Nat, p ≤ r ∧ r ≤ n ∧ i = .int .i64 p ∧ j = .int .i64 r ∧ (∀ k, k < p → (T k).k < q) ∧ (∀ k, r ≤ k → k < n → q ≤ (T k).k) ∧ Lies wr g 85 cs ∧ Below w.heap.size w wr
def BsPost (w : World) (n : Nat) (T : Nat → Kp) (q : Int) (x : Ending) (w' : World) : Prop :=
  x = .returned (.tuple #[.int .i64 (pos T q n : Nat), .bool (has n T q)]) ∧ Below w.heap.size w w'

set_option maxHeartbeats 8000000 in
theorem bsearch (A : Option Addr) (n c : Nat) (T : Nat → Kp) (o : Nat) (s : Int) (u : Bool) (w : World) (hF : FV w A n c T) (hok : okT n T) (hs : in64 s) :
    Calls Try.prog 68 #[.slice A n c, .agg (ky o s u), .func (.func 69) #[] #[]] w (BsPost w n T (kn o s u)) := by
  obtain ⟨_, _, _, X, hK, hX⟩ := hF
  have hn2 : n ≤ 200 := hok.1
  have HK := Lib.hid hK
  have HX := Lib.hid hX
  have HOK := Lib.hid hok
  have HS := Lib.hid hs
  have LB := Lib.hid (Lies.made w 85 (ky o s u))
  have HB := Lib.hid (below1 w (.cells (ky o s u) 85))
  clear hK hX hok hs
  unfold BsPost
  generalize hq : kn o s u = q
  have HQ := Lib.hid hq
  clear hq
  go_enter Try.func68, Try.ntmps68
  go_wp2_with fail
  go_loopw [9, 10] (BsR w n T q w.heap.size (ky o s u)) (fun i j _ => (intOf j).toNat - (intOf i).toNat)
  case atStart => exact ⟨0, n, by omega, by omega, rfl, rfl, (fun k h => by omega), (fun k h1 h2 => by omega), LB.out, HB.out⟩
  case round =>
    obtain ⟨p, r, hpq, hqn, rfl, rfl, hlo, hhi, hL, hbel⟩ := hrel
    have HLO := Lib.hid hlo
    have HHI := Lib.hid hhi
    have LY := Lib.hid hL
    have HBE := Lib.hid hbel
    clear hlo hhi hbel hL
    obtain ⟨y0, y1, y2⟩ := LY.out.cells3
    by_cases hlt : p < r
    · obtain ⟨h, hh⟩ : ∃ h, (p + r) / 2 = h := ⟨_, rfl⟩
      have hb1 : p ≤ h := by omega
      have hb2 : h < r := by omega
      have hmid : ((p : Int) + (r : Int)) / 2 = (h : Int) := by omega
      clear hh
      obtain ⟨b, off, rfl, _⟩ := HK.out.1 (by omega)
      have HKW := Lib.hid (HK.out.below HBE.out)
      obtain ⟨d0, d1, d2, d3, d4, d5⟩ := HKW.out.at h (by omega)
      have hi : (h : Int) < (n : Int) := by omega
      have HKT := Lib.hid (HKW.out.2 h (by omega))
      have HTJ := Lib.hid (HX.out h (by omega))
      have CC := Lib.hid (fun W => compareToKey_any (X h) o s u HKT.out.s HS.out W)
      have HKE : Hid ((X h).k.k = (T h).k) := Lib.hid (by rw [HTJ.out])
      rw [HKE.out, HQ.out] at CC
      have HMN := Lib.hid (fun k (h1 : k < h) => HOK.out.mono (i := k) (j := h) h1 (by omega))
      have HMX := Lib.hid (fun k (h1 : h < k) (h2 : k < n) => HOK.out.mono (i := h) (j := k) h1 h2)
      have HD := Lib.hid (fun W (hb : Below wr.drew.heap.size wr.drew W) => (HKW.out.drew.below hb).at h (by omega))
      clear HKW HKT HTJ HKE
      generalize X h = x0 at *
      obtain ⟨⟨xo, xs, xu, xa, xc, xr⟩, xK, xD⟩ := x0
      dsimp only at *
      generalize hlx : (T h).k = x at *
      have HLX := Lib.hid hlx
      clear hlx
      by_cases hx : x < q
      · rw [cmpI_lt hx] at CC
        go_wp2_with fail
        go_region_held3 (fun W => W.cell? ⟨b, off + h * 6, none⟩ = some (.int .u32 (xo : Int)) ∧ W.cell? ⟨b, off + h * 6 + 1, none⟩ = some (.int .i64 xs) ∧ W.cell? ⟨b, off + h * 6 + 2, none⟩ = some (.bool xu) ∧ W.cell? ⟨b, off + h * 6 + 3, none⟩ = some xK ∧ W.cell? ⟨b, off + h * 6 + 4, none⟩ = some (.int .i64 xc) ∧ W.cell? ⟨b, off + h * 6 + 5, none⟩ = some xD ∧ W.cell? ⟨w.heap.size, 0, none⟩ = some (.int .u32 (o : Int)) ∧ W.cell? ⟨w.heap.size, 1, none⟩ = some (.int .i64 s) ∧ W.cell? ⟨w.heap.size, 2, none⟩ = some (.bool u)) (first | go_keep | (obtain ⟨f0, f1, f2, f3, f4, f5⟩ := HD2.out; obtain ⟨g0, g1, g2⟩ := LY2.out.cells3; exact ⟨f0, f1, f2, f3, f4, f5, g0, g1, g2⟩))
          (first
          | (go_at_call 69; (with_reducible refine (CC.out _).mono ?_); (rintro y w2 ⟨rfl, hb⟩); (have HB2 := Lib.hid (HBE.out.drew.trans (hb.mono HBE.out.size))); (have LY2 := Lib.hid (Lies.below (Lies.drew LY.out) hb (Lies.lt LY.out))); (have HD2 := Lib.hid (HD.out _ hb)); clear hb))
        clear CC HD d0 d1 d2 d3 d4 d5 y0 y1 y2
        go_wp2
        go_roundw
        case rel =>
          refine ⟨h + 1, r, by omega, hqn, by go_num, rfl, fun k hk => ?_, HHI.out, LY2.out, HB2.out⟩
          by_cases hkh : k = h
          · rw [hkh, HLX.out]; exact hx
          · have := HMN.out k (by omega); omega
        case measure => simp [intOf]; omega
      · obtain ⟨c0, hc0, hc⟩ : ∃ c0 : Int, 0 ≤ c0 ∧ cmpI x q = c0 := ⟨_, by unfold cmpI; rw [if_neg hx]; split <;> omega, rfl⟩
        rw [hc] at CC
        clear hc
        have hcd : decide (c0 < 0) = false := by rw [decide_eq_false_iff_not]; omega
        go_wp2_with fail
        go_region_held3 (fun W => W.cell? ⟨b, off + h * 6, none⟩ = some (.int .u32 (xo : Int)) ∧ W.cell? ⟨b, off + h * 6 + 1, none⟩ = some (.int .i64 xs) ∧ W.cell? ⟨b, off + h * 6 + 2, none⟩ = some (.bool xu) ∧ W.cell? ⟨b, off + h * 6 + 3, none⟩ = some xK ∧ W.cell? ⟨b, off + h * 6 + 4, none⟩ = some (.int .i64 xc) ∧ W.cell? ⟨b, off + h * 6 + 5, none⟩ = some xD ∧ W.cell? ⟨w.heap.size, 0, none⟩ = some (.int .u32 (o : Int)) ∧ W.cell? ⟨w.heap.size, 1, none⟩ = some (.int .i64 s) ∧ W.cell? ⟨w.heap.size, 2, none⟩ = some (.bool u)) (first | go_keep | (obtain ⟨f0, f1, f2, f3, f4, f5⟩ := HD2.out; obtain ⟨g0, g1, g2⟩ := LY2.out.cells3; exact ⟨f0, f1, f2, f3, f4, f5, g0, g1, g2⟩))
          (first
          | (go_at_call 69; (with_reducible refine (CC.out _).mono ?_); (rintro y w2 ⟨rfl, hb⟩); (have HB2 := Lib.hid (HBE.out.drew.trans (hb.mono HBE.out.size))); (have LY2 := Lib.hid (Lies.below (Lies.drew LY.out) hb (Lies.lt LY.out))); (have HD2 := Lib.hid (HD.out _ hb)); clear hb))
        clear CC HD d0 d1 d2 d3 d4 d5 y0 y1 y2
        go_wp2
        go_roundw
        case rel =>
          refine ⟨p, h, by omega, by omega, rfl, rfl, HLO.out, fun k hk1 hk2 => ?_, LY2.out, HB2.out⟩
          by_cases hkh : k = h
          · rw [hkh, HLX.out]; omega
          · have := HMX.out k (by omega) hk2; omega
        case measure => simp [intOf]; omega
    · have hpq2 : r = p := by omega
      subst hpq2
      have HPOS := Lib.hid (pos_eq (n := n) hqn HLO.out HHI.out)
      have HHAS : Hid (has n T q = decide (r < n ∧ (T r).k = q)) := Lib.hid (by unfold has; rw [HPOS.out])
      by_cases hin : r < n
      · obtain ⟨b, off, rfl, _⟩ := HK.out.1 (by omega)
        have HKW := Lib.hid (HK.out.below HBE.out)
        obtain ⟨d0, d1, d2, d3, d4, d5⟩ := HKW.out.at r hin
        have hi : (r : Int) < (n : Int) := by omega
        have HKT := Lib.hid (HKW.out.2 r hin)
        have HTJ := Lib.hid (HX.out r hin)
        have CC := Lib.hid (fun W => compareToKey_any (X r) o s u HKT.out.s HS.out W)
        have HKE : Hid ((X r).k.k = (T r).k) := Lib.hid (by rw [HTJ.out])
        rw [HKE.out, HQ.out] at CC
        have HD := Lib.hid (fun W (hb : Below wr.drew.heap.size wr.drew W) => (HKW.out.drew.below hb).at r hin)
        clear HKW HKT HTJ HKE
        generalize X r = x0 at *
        obtain ⟨⟨xo, xs, xu, xa, xc, xr⟩, xK, xD⟩ := x0
        dsimp only at *
        generalize hlx : (T r).k = x at *
        have HLX := Lib.hid hlx
        clear hlx
        by_cases hx : x = q
        · rw [cmpI_eq hx] at CC
          have HH : Hid (has n T q = true) := Lib.hid (by rw [HHAS.out, decide_eq_true_iff]; exact ⟨hin, hx⟩)
          clear hx
          go_wp2_with fail
          go_region_held3 (fun W => W.cell? ⟨b, off + r * 6, none⟩ = some (.int .u32 (xo : Int)) ∧ W.cell? ⟨b, off + r * 6 + 1, none⟩ = some (.int .i64 xs) ∧ W.cell? ⟨b, off + r * 6 + 2, none⟩ = some (.bool xu) ∧ W.cell? ⟨b, off + r * 6 + 3, none⟩ = some xK ∧ W.cell? ⟨b, off + r * 6 + 4, none⟩ = some (.int .i64 xc) ∧ W.cell? ⟨b, off + r * 6 + 5, none⟩ = some xD ∧ W.cell? ⟨w.heap.size, 0, none⟩ = some (.int .u32 (o : Int)) ∧ W.cell? ⟨w.heap.size, 1, none⟩ = some (.int .i64 s) ∧ W.cell? ⟨w.heap.size, 2, none⟩ = some (.bool u)) (first | go_keep | (obtain ⟨f0, f1, f2, f3, f4, f5⟩ := HD2.out; obtain ⟨g0, g1, g2⟩ := LY2.out.cells3; exact ⟨f0, f1, f2, f3, f4, f5, g0, g1, g2⟩))
            (first
            | (go_at_call 69; (with_reducible refine (CC.out _).mono ?_); (rintro y w2 ⟨rfl, hb⟩); (have HB2 := Lib.hid (HBE.out.drew.trans (hb.mono HBE.out.size))); (have LY2 := Lib.hid (Lies.below (Lies.drew LY.out) hb (Lies.lt LY.out))); (have HD2 := Lib.hid (HD.out _ hb)); clear hb))
          clear CC HD d0 d1 d2 d3 d4 d5 y0 y1 y2
          go_wp2
          go_ret2
          exact ⟨by rw [HPOS.out, HH.out]; rfl, HB2.out⟩
        · obtain ⟨c0, hc0, hc⟩ : ∃ c0 : Int, c0 ≠ 0 ∧ cmpI x q = c0 := ⟨_, by unfold cmpI; split; omega; split <;> omega, rfl⟩
          rw [hc] at CC
          clear hc
          have hcd : (c0 == 0) = false := by rw [beq_eq_false_iff_ne]; omega
          have HH : Hid (has n T q = false) := Lib.hid (by rw [HHAS.out, decide_eq_false_iff_not]; exact fun e => hx e.2)
          clear hx hc0
          go_wp2_with fail
          go_region_held3 (fun W => W.cell? ⟨b, off + r * 6, none⟩ = some (.int .u32 (xo : Int)) ∧ W.cell? ⟨b, off + r * 6 + 1, none⟩ = some (.int .i64 xs) ∧ W.cell? ⟨b, off + r * 6 + 2, none⟩ = some (.bool xu) ∧ W.cell? ⟨b, off + r * 6 + 3, none⟩ = some xK ∧ W.cell? ⟨b, off + r * 6 + 4, none⟩ = some (.int .i64 xc) ∧ W.cell? ⟨b, off + r * 6 + 5, none⟩ = some xD ∧ W.cell? ⟨w.heap.size, 0, none⟩ = some (.int .u32 (o : Int)) ∧ W.cell? ⟨w.heap.size, 1, none⟩ = some (.int .i64 s) ∧ W.cell? ⟨w.heap.size, 2, none⟩ = some (.bool u)) (first | go_keep | (obtain ⟨f0, f1, f2, f3, f4, f5⟩ := HD2.out; obtain ⟨g0, g1, g2⟩ := LY2.out.cells3; exact ⟨f0, f1, f2, f3, f4, f5, g0, g1, g2⟩))
            (first
            | (go_at_call 69; (with_reducible refine (CC.out _).mono ?_); (rintro y w2 ⟨rfl, hb⟩); (have HB2 := Lib.hid (HBE.out.drew.trans (hb.mono HBE.out.size))); (have LY2 := Lib.hid (Lies.below (Lies.drew LY.out) hb (Lies.lt LY.out))); (have HD2 := Lib.hid (HD.out _ hb)); clear hb))
          clear CC HD d0 d1 d2 d3 d4 d5 y0 y1 y2
          go_wp2
          go_ret2
          exact ⟨by rw [HPOS.out, HH.out]; rfl, HB2.out⟩
      · have hqq : decide (r < n) = false := by rw [decide_eq_false_iff_not]; exact hin
        have HH : Hid (has n T q = false) := Lib.hid (by rw [HHAS.out, decide_eq_false_iff_not]; exact fun e => hin e.1)
        go_wp2_with fail
        clear y0 y1 y2
        refine wp_region_noPanic ?_
        refine wp_region_held_drew (S := fun W => Lies W w.heap.size 85 (ky o s u)) (by kernel_rfl) LY.out (fun hH0 => ?_)
        refine any_take 0 35 ?vk1x0 rfl rfl (by kernel_rfl) (by kernel_rfl) (by kernel_rfl) (fun _ _ _ h => h) (by rfl) ?hyk1x0 hH0 ?restk1x0
        case hyk1x0 => ((intro W hSw); obtain ⟨o0_0, o0_1, o0_2⟩ := Lies.cells3 hSw; go_simp; (try with_reducible rfl))
        try simp only [Act.put, List.setIfInBounds_toArray, List.set_cons_zero, List.set_cons_succ]
        refine any_take 1 36 ?vk1x1 rfl rfl (by kernel_rfl) (by kernel_rfl) (by kernel_rfl) (fun _ _ _ h => h) (by rfl) ?hyk1x1 hH0 ?restk1x1
        case hyk1x1 => ((intro W hSw); obtain ⟨o0_0, o0_1, o0_2⟩ := Lies.cells3 hSw; go_simp; (try with_reducible rfl))
        try simp only [Act.put, List.setIfInBounds_toArray, List.set_cons_zero, List.set_cons_succ]
        refine any_take 2 37 ?vk1x2 rfl rfl (by kernel_rfl) (by kernel_rfl) (by kernel_rfl) (fun _ _ _ h => h) (by rfl) ?hyk1x2 hH0 ?restk1x2
        case hyk1x2 => ((intro W hSw); obtain ⟨o0_0, o0_1, o0_2⟩ := Lies.cells3 hSw; go_simp; (try with_reducible rfl))
        try simp only [Act.put, List.setIfInBounds_toArray, List.set_cons_zero, List.set_cons_succ]
        refine any_take 3 38 ?vk1x3 rfl rfl (by kernel_rfl) (by kernel_rfl) (by kernel_rfl) (fun _ _ _ h => h) (by rfl) ?hyk1x3 hH0 ?restk1x3
        case hyk1x3 => ((intro W hSw); obtain ⟨o0_0, o0_1, o0_2⟩ := Lies.cells3 hSw; go_simp; (try with_reducible rfl))
        try simp only [Act.put, List.setIfInBounds_toArray, List.set_cons_zero, List.set_cons_succ]
        refine any_take 4 39 ?vk1x4 rfl rfl (by kernel_rfl) (by kernel_rfl) (by kernel_rfl) (fun _ _ _ h => h) (by rfl) ?hyk1x4 hH0 ?restk1x4
        case hyk1x4 => ((intro W hSw); obtain ⟨o0_0, o0_1, o0_2⟩ := Lies.cells3 hSw; go_simp; (try with_reducible rfl))
        try simp only [Act.put, List.setIfInBounds_toArray, List.set_cons_zero, List.set_cons_succ]
        refine any_skip 5 40 rfl rfl (by kernel_rfl) (by kernel_rfl) (by kernel_rfl) (fun _ _ _ h => h) (by rfl) hH0 ?_
        try simp only [Act.put, List.setIfInBounds_toArray, List.set_cons_zero, List.set_cons_succ]
        refine any_skip 6 41 rfl rfl (by kernel_rfl) (by kernel_rfl) (by kernel_rfl) (fun _ _ _ h => h) (by rfl) hH0 ?_
        try simp only [Act.put, List.setIfInBounds_toArray, List.set_cons_zero, List.set_cons_succ]
        refine any_skip 7 42 rfl rfl (by kernel_rfl) (by kernel_rfl) (by kernel_rfl) (fun _ _ _ h => h) (by rfl) hH0 ?_
        try simp only [Act.put, List.setIfInBounds_toArray, List.set_cons_zero, List.set_cons_succ]
        refine any_skip 8 43 rfl rfl (by kernel_rfl) (by kernel_rfl) (by kernel_rfl) (fun _ _ _ h => h) (by rfl) hH0 ?_
        try simp only [Act.put, List.setIfInBounds_toArray, List.set_cons_zero, List.set_cons_succ]
        refine any_skip 9 44 rfl rfl (by kernel_rfl) (by kernel_rfl) (by kernel_rfl) (fun _ _ _ h => h) (by rfl) hH0 ?_
        try simp only [Act.put, List.setIfInBounds_toArray, List.set_cons_zero, List.set_cons_succ]
        refine any_skip 10 45 rfl rfl (by kernel_rfl) (by kernel_rfl) (by kernel_rfl) (fun _ _ _ h => h) (by rfl) hH0 ?_
        try simp only [Act.put, List.setIfInBounds_toArray, List.set_cons_zero, List.set_cons_succ]
        refine any_skip 11 46 rfl rfl (by kernel_rfl) (by kernel_rfl) (by kernel_rfl) (fun _ _ _ h => h) (by rfl) hH0 ?_
        try simp only [Act.put, List.setIfInBounds_toArray, List.set_cons_zero, List.set_cons_succ]
        refine any_skip 12 47 rfl rfl (by kernel_rfl) (by kernel_rfl) (by kernel_rfl) (fun _ _ _ h => h) (by rfl) hH0 ?_
        try simp only [Act.put, List.setIfInBounds_toArray, List.set_cons_zero, List.set_cons_succ]
        refine any_take 13 48 ?vk1x13 rfl rfl (by kernel_rfl) (by kernel_rfl) (by kernel_rfl) (fun _ _ _ h => h) (by rfl) ?hyk1x13 hH0 ?restk1x13
        case hyk1x13 => ((intro W hSw); obtain ⟨o0_0, o0_1, o0_2⟩ := Lies.cells3 hSw; go_simp; (try with_reducible rfl))
        try simp only [Act.put, List.setIfInBounds_toArray, List.set_cons_zero, List.set_cons_succ]
        refine any_take 14 6 ?vk1x14 rfl rfl (by kernel_rfl) (by kernel_rfl) (by kernel_rfl) (fun _ _ _ h => h) (by rfl) ?hyk1x14 hH0 ?restk1x14
        case hyk1x14 => ((intro W hSw); obtain ⟨o0_0, o0_1, o0_2⟩ := Lies.cells3 hSw; go_simp; (try with_reducible rfl))
        try simp only [Act.put, List.setIfInBounds_toArray, List.set_cons_zero, List.set_cons_succ]
        refine any_take 15 7 ?vk1x15 rfl rfl (by kernel_rfl) (by kernel_rfl) (by kernel_rfl) (fun _ _ _ h => h) (by rfl) ?hyk1x15 hH0 ?restk1x15
        case hyk1x15 => ((intro W hSw); obtain ⟨o0_0, o0_1, o0_2⟩ := Lies.cells3 hSw; go_simp; (try with_reducible rfl))
        try simp only [Act.put, List.setIfInBounds_toArray, List.set_cons_zero, List.set_cons_succ]
        clear hH0
        refine wpAnyH_done (by kernel_rfl) ?_ _
        refine NoPanic.normal ?_
        go_wp2
        go_ret2
        exact ⟨by rw [HPOS.out, HH.out]; rfl, HBE.out.drew⟩

set_option maxHeartbeats 1000000 in
theorem search_any (A : Option Addr) (n c : Nat) (T : Nat → Kp) (o : Nat) (s : Int) (u : Bool) (w : World) (hF : FV w A n c T) (hok : okT n T) (hs : in64 s) :
    Calls Try.prog 42 #[.slice A n c, .agg (ky o s u)] w (BsPost w n T (kn o s u)) := by
  have CC := Lib.hid (bsearch A n c T o s u (w.alloc (.cells (ky o s u) 85)) (hF.alloc _) hok hs)
  have HB := Lib.hid (below1 w (.cells (ky o s u) 85))
  clear hF hok hs
  unfold BsPost at *
  generalize kn o s u = q at *
  generalize pos T q n = m at *
  generalize has n T q = f at *
  go_enter Try.func42, Try.ntmps42
  go_wp2_with fail
  with_reducible refine CC.out.mono ?_
  rintro y w2 ⟨rfl, hb⟩
  have HB2 := Lib.hid (HB.out.trans (hb.mono HB.out.size))
  clear hb
  go_wp2
  go_ret2
  exact ⟨rfl, HB2.out⟩

end Go.Proofs.Ytfcfejmammohpaa
