/-
  The walk of StockMost.
-/
import Derived.Test.YtimoobhnhldgbaaKnown
import Derived.Deep.DeepCutAuto
namespace Go.Proofs.Ytimoobhnhldgbaa
open Go.Proofs Go.RowKit
set_option maxRecDepth 100000
set_option linter.unusedVariables false
set_option linter.unusedSimpArgs false

theorem Short.names {l : List Gd} {a : List Ac} (h : Short l a) : ∀ g ∈ l, g.n.length ≤ 1000000 := fun g hg => by have := h.2.1 g hg; omega
theorem idx_of (wh : Int) (n : Nat) (h0 : 0 < n) (h : n ≤ 200) : ∃ j : Nat, wrap64 ((IntKind.u64.wrap wh).tmod (n : Int)) = (j : Int) ∧ j < n ∧ IntKind.i64.wrap ((IntKind.u64.wrap wh).tmod (n : Int)) = (j : Int) := by
  have h1 : 0 ≤ IntKind.u64.wrap wh := by rw [IntKind.wrap_u64]; omega
  have h2 : (IntKind.u64.wrap wh).tmod (n : Int) = (IntKind.u64.wrap wh) % (n : Int) := Int.tmod_eq_emod_of_nonneg h1
  have h3 : 0 ≤ (IntKind.u64.wrap wh) % (n : Int) := Int.emod_nonneg _ (by omega)
  have h4 : (IntKind.u64.wrap wh) % (n : Int) < (n : Int) := Int.emod_lt_of_pos _ (by omega)
  rw [h2]
  generalize (IntKind.u64.wrap wh) % (n : Int) = r at *
  have h5 : wrap64 r = r := by unfold wrap64; omega
  have h6 : IntKind.i64.wrap r = r := IntWalk.i64_in _ (by omega)
  exact ⟨r.toNat, by rw [h5]; omega, by omega, by rw [h6]; omega⟩
theorem cell_alloc {w : World} {b o : Nat} {v : Value} (h : w.cell? ⟨b, o, none⟩ = some v) (hb : b < w.heap.size) (cs : Array Value) : (w.alloc (.cells cs 46)).cell? ⟨b, o, none⟩ = some v := by
  rw [(below1 w (.cells cs 46)).cell (p := ⟨b, o, none⟩) hb]; exact h
theorem sw_put2 {w0 w : World} {b : SB} {q : Ss} (h : SW w0 w b q) {g : Nat} {t : TypeId} {x y : Value} (hL : Lies w g t #[x, y]) (hn : b.s ≠ g) (hg : w0.heap.size ≤ g) (v0 v1 : Value) : SW w0 ((w.setCell ⟨g, 0, none⟩ v0).setCell ⟨g, 1, none⟩ v1) b q := by
  have h1 := h.ok.setCell hL (Ne.symm hn) 0 v0
  have hL1 := hL.put 0 v0
  have h2 := h1.setCell hL1 (Ne.symm hn) 1 v1
  exact ⟨h2, h.inv, (h.bel.setCell (p := ⟨g, 0, none⟩) hg v0).setCell (p := ⟨g, 1, none⟩) hg v1, h.lo⟩
theorem ain_nil (w : World) : Ain w none 0 [] := ⟨rfl, fun h => absurd h (by simp)⟩

set_option maxHeartbeats 8000000 in
theorem stockMost_walk (A : Option Addr) (n c : Nat) (l : List Gd) (wh : Int) (o : Nat) (w : World) (hG : Gin w A n l) (hn : n ≤ maxLen) (hL : GoodsOk l) (hw : in64 wh) (ho : o < 4294967296)
    (KN : ∀ W, Calls Try.prog 10 #[] W fun e w' => e = .returned (.bool true) ∧ Below W.heap.size W w') :
    Calls Try.prog 6 #[.slice A n c, .int .i64 wh, .int .u32 (o : Int)] w fun e w' => e = .returned (.bool true) ∧ Below w.heap.size w w' := by
  have HG := Lib.hid hG
  have HL := Lib.hid hL
  have HN := Lib.hid hG.1
  have HK := Lib.hid KN
  have HW := Lib.hid hw
  have HC := Lib.hid (long_any A n c l none 0 0 [] w hG (ain_nil w) (by unfold maxLen; omega) hn)
  clear hG hL KN hw
  go_enter Try.func6, Try.ntmps6
  go_wp2_with fail
  with_reducible refine HC.out.mono ?_
  rintro e w1 ⟨rfl, rfl | ⟨rfl, hs⟩⟩
  · go_wp2_with fail
    with_reducible refine (HK.out _).mono ?_
    rintro e w2 ⟨rfl, hb⟩
    have HB := Lib.hid hb
    clear hb
    go_wp2
    go_ret
    exact ⟨rfl, HB.out⟩
  · have HS := Lib.hid hs
    have hn2 : n ≤ 200 := by have := hs.1; have := HN.out; omega
    clear hs HC hn
    go_wp2_with fail
    with_reducible refine (sw_new (Below.refl _ _) A n c l HG.out (by omega) HS.out.names).mono ?_
    rintro e w1 ⟨hb, ⟨h1, rfl⟩ | ⟨K, b, h1, rfl, hs, -⟩⟩
    · have HB := Lib.hid hb
      clear hb h1
      go_wp2_with fail
      with_reducible refine (HK.out _).mono ?_
      rintro e w2 ⟨rfl, hb⟩
      have HB2 := Lib.hid (HB.out.trans (hb.mono HB.out.size))
      clear hb
      go_wp2
      go_ret
      exact ⟨rfl, HB2.out⟩
    · have S_1 := Lib.hid hs
      have HNW := Lib.hid (newOf_some h1).2.2
      clear hb h1 hs
      have hlen : K.length = n := by rw [HNW.out.len, HN.out]
      have HLEN := Lib.hid hlen
      clear hlen
      by_cases hn0 : n = 0
      · subst hn0
        go_wp2_with fail
        with_reducible refine (HK.out _).mono ?_
        rintro e w2 ⟨rfl, hb⟩
        have S_2 := Lib.hid (S_1.out.below hb)
        clear hb
        go_wp2
        go_ret
        exact ⟨rfl, S_2.out.bel⟩
      · have en : ((n : Int) == 0) = false := by rw [beq_eq_false_iff_ne]; omega
        by_cases ho0 : o = 0
        · subst ho0
          go_wp2_with fail
          with_reducible refine (HK.out _).mono ?_
          rintro e w2 ⟨rfl, hb⟩
          have S_2 := Lib.hid (S_1.out.below hb)
          clear hb
          go_wp2
          go_ret
          exact ⟨rfl, S_2.out.bel⟩
        · have eo : ((o : Int) == 0) = false := by rw [beq_eq_false_iff_ne]; omega
          go_wp2_with fail
          with_reducible refine (sw_goods S_1.out).mono ?_
          rintro e w2 ⟨v2, rfl, hr, hs, hf⟩
          have S_2 := Lib.hid hs
          have RG_2 := Lib.hid hr
          clear hr hs hf
          obtain ⟨A2, c2, rfl, hg2, hc2⟩ := RG_2.out.gin
          have e5 : (goodsL K).length = n := by unfold goodsL; rw [List.length_map]; exact HLEN.out
          dsimp only at hg2 hc2 ⊢
          rw [e5] at hg2 hc2 ⊢
          have HG2 := Lib.hid hg2
          have HE5 := Lib.hid e5
          clear hg2 hc2 e5
          obtain ⟨b2, off, rfl, hbl, hcell⟩ := HG2.out.2 (by omega)
          obtain ⟨j, hj1, hj2, hj3⟩ := idx_of wh n (by omega) (by omega)
          have HJ3 := Lib.hid hj3
          clear hj3
          have hjl : j < (goodsL K).length := by rw [HE5.out]; exact hj2
          have hjk : j < K.length := by rw [HLEN.out]; exact hj2
          obtain ⟨x0, x1⟩ := hcell j hjl
          obtain ⟨k, hk⟩ : ∃ k, K[j] = k := ⟨_, rfl⟩
          have hgk : (goodsL K)[j] = ⟨k.n, k.f⟩ := by simp [goodsL, hk]
          rw [hgk] at x0 x1
          have hkm : k ∈ K := hk ▸ List.getElem_mem hjk
          have hgd := goodB_iff.1 (HNW.out.good k hkm).1
          have hf1 : 0 ≤ k.f := hgd.2.2.1
          have hf2 : k.f ≤ 1000000 := hgd.2.2.2
          have hij : (j : Int) < (n : Int) := by omega
          have HKM := Lib.hid hkm
          have HKJ : Hid (K[j]? = some k) := Lib.hid (by rw [List.getElem?_eq_getElem hjk, hk])
          have HFK := Lib.hid (HNW.out.ks.find hkm)
          have HKL : Hid (k.n.length ≤ maxLen) := Lib.hid (by have := hgd.2.1; unfold maxLen; omega)
          clear hcell hk hgk hkm hgd
          go_wp2_with fail
          have S_2b := Lib.hid (S_2.out.alloc (.cells #[encStr k.n, .int .i64 k.f] 46))
          have RG_2b := Lib.hid (RG_2.out.below (below1 w2 (.cells #[encStr k.n, .int .i64 k.f] 46)))
          have L_2 := Lib.hid (Lies.made w2 46 #[encStr k.n, .int .i64 k.f])
          have hv1 : holdV ⟨K, []⟩ o k.n (k.f + 1) = false := by
            rw [← Bool.not_eq_true, holdV_iff]
            rintro ⟨-, -, -, k', h1, h2⟩
            rw [HFK.out] at h1
            injection h1 with h1
            subst h1
            omega
          have C2 := Lib.hid (sw_hold S_2b.out o k.n (k.f + 1) ho HKL.out (by unfold in64; omega) (by show 0 ≤ 1000; omega))
          rw [hv1, holdS_no hv1] at C2
          clear hv1 x0 x1
          with_reducible refine C2.out.mono ?_
          rintro e w3 ⟨rfl, hs, hf⟩
          have S_3 := Lib.hid hs
          have RG_3 := Lib.hid (RG_2b.out.frm hf)
          have L_3 := Lib.hid (hf.lies L_2.out (by have := S_2.out.ok.ok.lt; omega) (by have := S_2.out.ok.oh.lt; omega))
          clear hs hf C2 S_2b RG_2b L_2
          obtain ⟨p0, p1⟩ := L_3.out.cells2
          obtain ⟨q4, hq4⟩ : ∃ q4, holdS ⟨K, []⟩ o k.n k.f = q4 := ⟨_, rfl⟩
          have HV4 : Hid (holdV ⟨K, []⟩ o k.n k.f = decide (0 < k.f)) := Lib.hid (by
            rw [Bool.eq_iff_iff, holdV_iff, decide_eq_true_iff]
            exact ⟨fun h => by have := h.2.1; omega, fun h => ⟨ho0, by omega, rfl, k, HFK.out, by omega⟩⟩)
          have HQ4 : Hid ((goodsL q4.K).length = n ∧ (goodsL q4.K)[j]? = some ⟨k.n, 0⟩ ∧ q4.H.length ≤ 1) := Lib.hid (by
            rw [← hq4]
            refine ⟨?_, ?_, ?_⟩
            · have := congrArg List.length (holdS_len ⟨K, []⟩ o k.n k.f).2
              rw [List.length_map, List.length_map] at this
              unfold goodsL
              rw [List.length_map, this]
              exact HLEN.out
            · by_cases h0 : 0 < k.f
              · rw [holdS_yes (k := k) (by rw [HV4.out]; simpa using h0) HFK.out]
                show ((updK K ⟨k.n, k.f - k.f, k.g⟩).map _)[j]? = _
                rw [List.getElem?_map]
                unfold updK
                rw [List.getElem?_map, HKJ.out]
                simp
              · rw [holdS_no (by rw [HV4.out]; simpa using h0)]
                show (K.map _)[j]? = _
                rw [List.getElem?_map, HKJ.out]
                have : k.f = 0 := by omega
                simp [this]
            · have := (holdS_len ⟨K, []⟩ o k.n k.f).1
              exact this)
          have C3 := Lib.hid (sw_hold S_3.out o k.n k.f ho HKL.out (by unfold in64; omega) (by show 0 ≤ 1000; omega))
          rw [HV4.out, hq4] at C3
          clear hq4
          go_wp2_with fail
          with_reducible refine C3.out.mono ?_
          rintro e w4 ⟨rfl, hs, hf⟩
          have S_4 := Lib.hid hs
          have RG_4 := Lib.hid (RG_3.out.frm hf)
          have L_4 := Lib.hid (hf.lies L_3.out (by have := S_3.out.ok.ok.lt; have := L_3.out.lt; have := S_2.out.ok.ok.lt; omega) (by have := S_2.out.ok.oh.lt; omega))
          clear hs hf C3 p0 p1
          obtain ⟨p0, p1⟩ := L_4.out.cells2
          have HBX := Lib.hid L_4.out.lt
          by_cases hf0 : 0 < k.f
          · have d0 : decide (0 < k.f) = true := by simpa using hf0
            rw [d0]
            unfold verd
            rw [if_pos rfl]
            go_wp2_with fail
            have eu : IntKind.u64.wrap (n : Int) = (n : Int) := by rw [IntKind.wrap_u64]; omega
            have ej2 : IntKind.i64.wrap ((IntKind.u64.wrap wh).tmod (n : Int)) = (j : Int) := HJ3.out
            have HG5 : Hid ((goodsL q4.K)[j]'(by rw [HQ4.out.1]; exact hj2) = ⟨k.n, 0⟩) := Lib.hid (by
              have h1 := HQ4.out.2.1
              rw [List.getElem?_eq_getElem (by rw [HQ4.out.1]; exact hj2)] at h1
              exact Option.some.inj h1)
            have HLT4 : Hid (b.s ≠ w4.heap.size) := Lib.hid (Nat.ne_of_lt S_4.out.ok.c.lt)
            go_cut [13] (fun s13 W => ∃ g, s13 = .pointer (some ⟨g, 0, none⟩) ∧ Lies W g 46 #[encStr k.n, .int .i64 0] ∧ Lies W w2.heap.size 46 #[encStr k.n, .int .i64 k.f] ∧ SW w W b q4)
            case first =>
              refine wp_region_noPanic ?_
              refine wp_region_held_drew (S := fun W => True) (by kernel_rfl) trivial (fun hH0 => ?_)
              refine any_take 0 81 ?vrp0 rfl rfl (by kernel_rfl) (by kernel_rfl) (by kernel_rfl) (fun _ _ _ h => h) (by rfl) ?hyrp0 hH0 ?restrp0
              case hyrp0 => ((intro W hSw); go_simp; (try with_reducible rfl))
              try simp only [Act.put, List.setIfInBounds_toArray, List.set_cons_zero, List.set_cons_succ]
              refine any_take 2 83 ?vrp2 rfl rfl (by kernel_rfl) (by kernel_rfl) (by kernel_rfl) (fun _ _ _ h => h) (by rfl) ?hyrp2 hH0 ?restrp2
              case hyrp2 => ((intro W hSw); go_simp; (try with_reducible rfl))
              try simp only [Act.put, List.setIfInBounds_toArray, List.set_cons_zero, List.set_cons_succ]
              refine any_take 3 84 ?vrp3 rfl rfl (by kernel_rfl) (by kernel_rfl) (by kernel_rfl) (fun _ _ _ h => h) (by rfl) ?hyrp3 hH0 ?restrp3
              case hyrp3 => ((intro W hSw); go_simp; (try with_reducible rfl))
              try simp only [Act.put, List.setIfInBounds_toArray, List.set_cons_zero, List.set_cons_succ]
              refine any_take 4 85 ?vrp4 rfl rfl (by kernel_rfl) (by kernel_rfl) (by kernel_rfl) (fun _ _ _ h => h) (by rfl) ?hyrp4 hH0 ?restrp4
              case hyrp4 => ((intro W hSw); go_simp; (try with_reducible rfl))
              try simp only [Act.put, List.setIfInBounds_toArray, List.set_cons_zero, List.set_cons_succ]
              refine any_take 5 86 ?vrp5 rfl rfl (by kernel_rfl) (by kernel_rfl) (by kernel_rfl) (fun _ _ _ h => h) (by rfl) ?hyrp5 hH0 ?restrp5
              case hyrp5 => ((intro W hSw); go_simp; (try with_reducible rfl))
              try simp only [Act.put, List.setIfInBounds_toArray, List.set_cons_zero, List.set_cons_succ]
              refine any_take 6 87 ?vrp6 rfl rfl (by kernel_rfl) (by kernel_rfl) (by kernel_rfl) (fun _ _ _ h => h) (by rfl) ?hyrp6 hH0 ?restrp6
              case hyrp6 => ((intro W hSw); go_simp; (try with_reducible rfl))
              try simp only [Act.put, List.setIfInBounds_toArray, List.set_cons_zero, List.set_cons_succ]
              refine any_take 7 88 ?vrp7 rfl rfl (by kernel_rfl) (by kernel_rfl) (by kernel_rfl) (fun _ _ _ h => h) (by rfl) ?hyrp7 hH0 ?restrp7
              case hyrp7 => ((intro W hSw); go_simp; (try with_reducible rfl))
              try simp only [Act.put, List.setIfInBounds_toArray, List.set_cons_zero, List.set_cons_succ]
              refine any_take 8 89 ?vrp8 rfl rfl (by kernel_rfl) (by kernel_rfl) (by kernel_rfl) (fun _ _ _ h => h) (by rfl) ?hyrp8 hH0 ?restrp8
              case hyrp8 => ((intro W hSw); go_simp; (try with_reducible rfl))
              try simp only [Act.put, List.setIfInBounds_toArray, List.set_cons_zero, List.set_cons_succ]
              refine wpAnyH_ready (rs := [1, 11]) (by kernel_rfl) (by simp) ?_
              refine AllReadyH.cons rfl (fun K' hK => ?_) (AllReadyH.cons rfl (fun K' hK => ?_) AllReadyH.nil)
              · go_simp
                go_at_call 16
                with_reducible refine (sw_goods S_4.out.drew).mono ?_
                rintro e w5 ⟨v5, rfl, hr, hs, hf⟩
                have S_5 := Lib.hid hs
                have RG_5 := Lib.hid hr
                have L_5 := Lib.hid (Lies.below (w := w4.drew) L_4.out hf (Lies.lt L_4.out))
                refine hK.out _ _ trivial (fun hH1 => ?_)
                clear hK K' hH0 hr hs hf
                try simp only [Act.put, List.setIfInBounds_toArray, List.set_cons_zero, List.set_cons_succ]
                obtain ⟨A5, c5, rfl, hg5, hc5⟩ := RG_5.out.gin
                (try dsimp only at hg5)
                (try dsimp only at hc5)
                rw [HQ4.out.1] at hg5 hc5 ⊢
                obtain ⟨b5, off5, rfl, hb5, hcell5⟩ := hg5.2 (by omega)
                obtain ⟨z0, z1⟩ := hcell5 j (by rw [HQ4.out.1]; exact hj2)
                rw [HG5.out] at z0 z1
                have HZ := Lib.hid hb5
                clear hcell5 hg5 hc5 hb5
                refine any_take 9 90 ?vsp9 rfl rfl (by kernel_rfl) (by kernel_rfl) (by kernel_rfl) (fun _ _ _ h => h) (by rfl) ?hysp9 hH1 ?restsp9
                case hysp9 => ((intro W hSw); go_simp; (try with_reducible rfl))
                try simp only [Act.put, List.setIfInBounds_toArray, List.set_cons_zero, List.set_cons_succ]
                refine wpAnyH_ready (rs := [10, 11]) (by kernel_rfl) (by simp) ?_
                refine AllReadyH.cons rfl (fun K' hK => ?_) (AllReadyH.cons rfl (fun K' hK => ?_) AllReadyH.nil)
                · go_simp
                  refine hK.out _ _ trivial (fun hH2 => ?_)
                  clear hK K' hH1
                  try simp only [Act.put, List.setIfInBounds_toArray, List.set_cons_zero, List.set_cons_succ]
                  refine wpAnyH_ready (rs := [11]) (by kernel_rfl) (by simp) ?_
                  refine AllReadyH.cons rfl (fun K' hK => ?_) AllReadyH.nil
                  go_simp
                  refine hK.out _ _ trivial (fun hH3 => ?_)
                  clear hK K' hH2
                  try simp only [Act.put, List.setIfInBounds_toArray, List.set_cons_zero, List.set_cons_succ]
                  refine wpAnyH_ready (rs := [12]) (by kernel_rfl) (by simp) ?_
                  refine AllReadyH.cons rfl (fun K' hK => ?_) AllReadyH.nil
                  go_simp
                  refine hK.out _ _ trivial (fun hH4 => ?_)
                  clear hK K' hH3
                  try simp only [Act.put, List.setIfInBounds_toArray, List.set_cons_zero, List.set_cons_succ]
                  clear hH4
                  refine wpAnyH_done (by kernel_rfl) ?_ _
                  refine NoPanic.normal ?_
                  go_wp2_with fail
                  go_meet
                  exact ⟨w5.heap.size, rfl, Lies.made w5 46 #[encStr k.n, .int .i64 0], Lies.alloc (w := w5) L_5.out _, SW.alloc (w := w5) S_5.out _⟩
                · go_simp
                  refine hK.out _ _ trivial (fun hH2 => ?_)
                  clear hK K' hH1
                  try simp only [Act.put, List.setIfInBounds_toArray, List.set_cons_zero, List.set_cons_succ]
                  have z0' := cell_alloc (w := w5) z0 HZ.out #[.string ⟨#[]⟩, .int .i64 0]
                  have z1' := cell_alloc (w := w5) z1 HZ.out #[.string ⟨#[]⟩, .int .i64 0]
                  refine wpAnyH_ready (rs := [10]) (by kernel_rfl) (by simp) ?_
                  refine AllReadyH.cons rfl (fun K' hK => ?_) AllReadyH.nil
                  go_simp
                  refine hK.out _ _ trivial (fun hH3 => ?_)
                  clear hK K' hH2
                  try simp only [Act.put, List.setIfInBounds_toArray, List.set_cons_zero, List.set_cons_succ]
                  refine wpAnyH_ready (rs := [12]) (by kernel_rfl) (by simp) ?_
                  refine AllReadyH.cons rfl (fun K' hK => ?_) AllReadyH.nil
                  go_simp
                  refine hK.out _ _ trivial (fun hH4 => ?_)
                  clear hK K' hH3
                  try simp only [Act.put, List.setIfInBounds_toArray, List.set_cons_zero, List.set_cons_succ]
                  clear hH4
                  refine wpAnyH_done (by kernel_rfl) ?_ _
                  refine NoPanic.normal ?_
                  go_wp2_with fail
                  go_meet
                  exact ⟨w5.heap.size, rfl, Lies.made w5 46 #[encStr k.n, .int .i64 0], Lies.alloc (w := w5) L_5.out _, SW.alloc (w := w5) S_5.out _⟩
              · go_simp
                refine hK.out _ _ trivial (fun hH1 => ?_)
                clear hK K' hH0
                try simp only [Act.put, List.setIfInBounds_toArray, List.set_cons_zero, List.set_cons_succ]
                refine wpAnyH_ready (rs := [1]) (by kernel_rfl) (by simp) ?_
                refine AllReadyH.cons rfl (fun K' hK => ?_) AllReadyH.nil
                go_simp
                go_at_call 16
                with_reducible refine (sw_goods (SW.alloc S_4.out _).drew).mono ?_
                rintro e w5 ⟨v5, rfl, hr, hs, hf⟩
                have S_5 := Lib.hid hs
                have RG_5 := Lib.hid hr
                have L_5 := Lib.hid (Lies.below (w := (w4.alloc (.cells #[.string ⟨#[]⟩, .int .i64 0] 46)).drew) (Lies.alloc (w := w4) L_4.out (.cells #[.string ⟨#[]⟩, .int .i64 0] 46)) hf (Lies.lt (Lies.alloc (w := w4) L_4.out (.cells #[.string ⟨#[]⟩, .int .i64 0] 46))))
                have M_5 := Lib.hid (Lies.below (w := (w4.alloc (.cells #[.string ⟨#[]⟩, .int .i64 0] 46)).drew) (Lies.made w4 46 #[.string ⟨#[]⟩, .int .i64 0]) hf (Lies.lt (Lies.made w4 46 #[.string ⟨#[]⟩, .int .i64 0])))
                refine hK.out _ _ trivial (fun hH2 => ?_)
                clear hK K' hH1 hr hs hf
                try simp only [Act.put, List.setIfInBounds_toArray, List.set_cons_zero, List.set_cons_succ]
                obtain ⟨A5, c5, rfl, hg5, hc5⟩ := RG_5.out.gin
                (try dsimp only at hg5)
                (try dsimp only at hc5)
                rw [HQ4.out.1] at hg5 hc5 ⊢
                obtain ⟨b5, off5, rfl, hb5, hcell5⟩ := hg5.2 (by omega)
                obtain ⟨z0, z1⟩ := hcell5 j (by rw [HQ4.out.1]; exact hj2)
                rw [HG5.out] at z0 z1
                have HZ := Lib.hid hb5
                clear hcell5 hg5 hc5 hb5
                refine any_take 9 90 ?vtp9 rfl rfl (by kernel_rfl) (by kernel_rfl) (by kernel_rfl) (fun _ _ _ h => h) (by rfl) ?hytp9 hH2 ?resttp9
                case hytp9 => ((intro W hSw); go_simp; (try with_reducible rfl))
                try simp only [Act.put, List.setIfInBounds_toArray, List.set_cons_zero, List.set_cons_succ]
                obtain ⟨m0, m1⟩ := M_5.out.cells2
                obtain ⟨mf0, mf1⟩ := M_5.out.free2
                refine wpAnyH_ready (rs := [10]) (by kernel_rfl) (by simp) ?_
                refine AllReadyH.cons rfl (fun K' hK => ?_) AllReadyH.nil
                go_simp
                refine hK.out _ _ trivial (fun hH3 => ?_)
                clear hK K' hH2
                try simp only [Act.put, List.setIfInBounds_toArray, List.set_cons_zero, List.set_cons_succ]
                refine wpAnyH_ready (rs := [12]) (by kernel_rfl) (by simp) ?_
                refine AllReadyH.cons rfl (fun K' hK => ?_) AllReadyH.nil
                go_simp
                refine hK.out _ _ trivial (fun hH4 => ?_)
                clear hK K' hH3
                try simp only [Act.put, List.setIfInBounds_toArray, List.set_cons_zero, List.set_cons_succ]
                clear hH4
                refine wpAnyH_done (by kernel_rfl) ?_ _
                refine NoPanic.normal ?_
                go_wp2_with fail
                go_meet
                exact ⟨w4.heap.size, rfl, (M_5.out.put 0 (encStr k.n)).put 1 (.int .i64 0), (L_5.out.other (a := ⟨w4.heap.size, 0, none⟩) (Nat.ne_of_lt HBX.out) _).other (a := ⟨w4.heap.size, 1, none⟩) (Nat.ne_of_lt HBX.out) _, sw_put2 S_5.out M_5.out HLT4.out S_4.out.bel.size _ _⟩
            case rest =>
              obtain ⟨g13, rfl, hM, hL6, hS6⟩ := hcut
              have M_6 := Lib.hid hM
              have L_6 := Lib.hid hL6
              have S_6 := Lib.hid hS6
              clear hM hL6 hS6 p0 p1
              obtain ⟨p0, p1⟩ := L_6.out.cells2
              obtain ⟨m0, m1⟩ := M_6.out.cells2
              go_wp2_with fail
              with_reducible refine (HK.out _).mono ?_
              rintro e w7 ⟨rfl, hb⟩
              have S_7 := Lib.hid (S_6.out.below hb)
              clear hb
              go_wp2
              go_ret
              exact ⟨rfl, S_7.out.bel⟩
          · have d0 : decide (0 < k.f) = false := by simpa using hf0
            have hk0 : k.f = 0 := by omega
            rw [d0]
            unfold verd
            rw [if_neg (by decide)]
            clear hk0
            go_wp2_with fail
            have eu : IntKind.u64.wrap (n : Int) = (n : Int) := by rw [IntKind.wrap_u64]; omega
            have ej2 : IntKind.i64.wrap ((IntKind.u64.wrap wh).tmod (n : Int)) = (j : Int) := HJ3.out
            have HG5 : Hid ((goodsL q4.K)[j]'(by rw [HQ4.out.1]; exact hj2) = ⟨k.n, 0⟩) := Lib.hid (by
              have h1 := HQ4.out.2.1
              rw [List.getElem?_eq_getElem (by rw [HQ4.out.1]; exact hj2)] at h1
              exact Option.some.inj h1)
            have HLT4 : Hid (b.s ≠ w4.heap.size) := Lib.hid (Nat.ne_of_lt S_4.out.ok.c.lt)
            go_cut [13] (fun s13 W => ∃ g, s13 = .pointer (some ⟨g, 0, none⟩) ∧ Lies W g 46 #[encStr k.n, .int .i64 0] ∧ Lies W w2.heap.size 46 #[encStr k.n, .int .i64 k.f] ∧ SW w W b q4)
            case first =>
              refine wp_region_noPanic ?_
              refine wp_region_held_drew (S := fun W => True) (by kernel_rfl) trivial (fun hH0 => ?_)
              refine any_take 0 81 ?vrq0 rfl rfl (by kernel_rfl) (by kernel_rfl) (by kernel_rfl) (fun _ _ _ h => h) (by rfl) ?hyrq0 hH0 ?restrq0
              case hyrq0 => ((intro W hSw); go_simp; (try with_reducible rfl))
              try simp only [Act.put, List.setIfInBounds_toArray, List.set_cons_zero, List.set_cons_succ]
              refine any_take 2 83 ?vrq2 rfl rfl (by kernel_rfl) (by kernel_rfl) (by kernel_rfl) (fun _ _ _ h => h) (by rfl) ?hyrq2 hH0 ?restrq2
              case hyrq2 => ((intro W hSw); go_simp; (try with_reducible rfl))
              try simp only [Act.put, List.setIfInBounds_toArray, List.set_cons_zero, List.set_cons_succ]
              refine any_take 3 84 ?vrq3 rfl rfl (by kernel_rfl) (by kernel_rfl) (by kernel_rfl) (fun _ _ _ h => h) (by rfl) ?hyrq3 hH0 ?restrq3
              case hyrq3 => ((intro W hSw); go_simp; (try with_reducible rfl))
              try simp only [Act.put, List.setIfInBounds_toArray, List.set_cons_zero, List.set_cons_succ]
              refine any_take 4 85 ?vrq4 rfl rfl (by kernel_rfl) (by kernel_rfl) (by kernel_rfl) (fun _ _ _ h => h) (by rfl) ?hyrq4 hH0 ?restrq4
              case hyrq4 => ((intro W hSw); go_simp; (try with_reducible rfl))
              try simp only [Act.put, List.setIfInBounds_toArray, List.set_cons_zero, List.set_cons_succ]
              refine any_take 5 86 ?vrq5 rfl rfl (by kernel_rfl) (by kernel_rfl) (by kernel_rfl) (fun _ _ _ h => h) (by rfl) ?hyrq5 hH0 ?restrq5
              case hyrq5 => ((intro W hSw); go_simp; (try with_reducible rfl))
              try simp only [Act.put, List.setIfInBounds_toArray, List.set_cons_zero, List.set_cons_succ]
              refine any_take 6 87 ?vrq6 rfl rfl (by kernel_rfl) (by kernel_rfl) (by kernel_rfl) (fun _ _ _ h => h) (by rfl) ?hyrq6 hH0 ?restrq6
              case hyrq6 => ((intro W hSw); go_simp; (try with_reducible rfl))
              try simp only [Act.put, List.setIfInBounds_toArray, List.set_cons_zero, List.set_cons_succ]
              refine any_take 7 88 ?vrq7 rfl rfl (by kernel_rfl) (by kernel_rfl) (by kernel_rfl) (fun _ _ _ h => h) (by rfl) ?hyrq7 hH0 ?restrq7
              case hyrq7 => ((intro W hSw); go_simp; (try with_reducible rfl))
              try simp only [Act.put, List.setIfInBounds_toArray, List.set_cons_zero, List.set_cons_succ]
              refine any_take 8 89 ?vrq8 rfl rfl (by kernel_rfl) (by kernel_rfl) (by kernel_rfl) (fun _ _ _ h => h) (by rfl) ?hyrq8 hH0 ?restrq8
              case hyrq8 => ((intro W hSw); go_simp; (try with_reducible rfl))
              try simp only [Act.put, List.setIfInBounds_toArray, List.set_cons_zero, List.set_cons_succ]
              refine wpAnyH_ready (rs := [1, 11]) (by kernel_rfl) (by simp) ?_
              refine AllReadyH.cons rfl (fun K' hK => ?_) (AllReadyH.cons rfl (fun K' hK => ?_) AllReadyH.nil)
              · go_simp
                go_at_call 16
                with_reducible refine (sw_goods S_4.out.drew).mono ?_
                rintro e w5 ⟨v5, rfl, hr, hs, hf⟩
                have S_5 := Lib.hid hs
                have RG_5 := Lib.hid hr
                have L_5 := Lib.hid (Lies.below (w := w4.drew) L_4.out hf (Lies.lt L_4.out))
                refine hK.out _ _ trivial (fun hH1 => ?_)
                clear hK K' hH0 hr hs hf
                try simp only [Act.put, List.setIfInBounds_toArray, List.set_cons_zero, List.set_cons_succ]
                obtain ⟨A5, c5, rfl, hg5, hc5⟩ := RG_5.out.gin
                (try dsimp only at hg5)
                (try dsimp only at hc5)
                rw [HQ4.out.1] at hg5 hc5 ⊢
                obtain ⟨b5, off5, rfl, hb5, hcell5⟩ := hg5.2 (by omega)
                obtain ⟨z0, z1⟩ := hcell5 j (by rw [HQ4.out.1]; exact hj2)
                rw [HG5.out] at z0 z1
                have HZ := Lib.hid hb5
                clear hcell5 hg5 hc5 hb5
                refine any_take 9 90 ?vsq9 rfl rfl (by kernel_rfl) (by kernel_rfl) (by kernel_rfl) (fun _ _ _ h => h) (by rfl) ?hysq9 hH1 ?restsq9
                case hysq9 => ((intro W hSw); go_simp; (try with_reducible rfl))
                try simp only [Act.put, List.setIfInBounds_toArray, List.set_cons_zero, List.set_cons_succ]
                refine wpAnyH_ready (rs := [10, 11]) (by kernel_rfl) (by simp) ?_
                refine AllReadyH.cons rfl (fun K' hK => ?_) (AllReadyH.cons rfl (fun K' hK => ?_) AllReadyH.nil)
                · go_simp
                  refine hK.out _ _ trivial (fun hH2 => ?_)
                  clear hK K' hH1
                  try simp only [Act.put, List.setIfInBounds_toArray, List.set_cons_zero, List.set_cons_succ]
                  refine wpAnyH_ready (rs := [11]) (by kernel_rfl) (by simp) ?_
                  refine AllReadyH.cons rfl (fun K' hK => ?_) AllReadyH.nil
                  go_simp
                  refine hK.out _ _ trivial (fun hH3 => ?_)
                  clear hK K' hH2
                  try simp only [Act.put, List.setIfInBounds_toArray, List.set_cons_zero, List.set_cons_succ]
                  refine wpAnyH_ready (rs := [12]) (by kernel_rfl) (by simp) ?_
                  refine AllReadyH.cons rfl (fun K' hK => ?_) AllReadyH.nil
                  go_simp
                  refine hK.out _ _ trivial (fun hH4 => ?_)
                  clear hK K' hH3
                  try simp only [Act.put, List.setIfInBounds_toArray, List.set_cons_zero, List.set_cons_succ]
                  clear hH4
                  refine wpAnyH_done (by kernel_rfl) ?_ _
                  refine NoPanic.normal ?_
                  go_wp2_with fail
                  go_meet
                  exact ⟨w5.heap.size, rfl, Lies.made w5 46 #[encStr k.n, .int .i64 0], Lies.alloc (w := w5) L_5.out _, SW.alloc (w := w5) S_5.out _⟩
                · go_simp
                  refine hK.out _ _ trivial (fun hH2 => ?_)
                  clear hK K' hH1
                  try simp only [Act.put, List.setIfInBounds_toArray, List.set_cons_zero, List.set_cons_succ]
                  have z0' := cell_alloc (w := w5) z0 HZ.out #[.string ⟨#[]⟩, .int .i64 0]
                  have z1' := cell_alloc (w := w5) z1 HZ.out #[.string ⟨#[]⟩, .int .i64 0]
                  refine wpAnyH_ready (rs := [10]) (by kernel_rfl) (by simp) ?_
                  refine AllReadyH.cons rfl (fun K' hK => ?_) AllReadyH.nil
                  go_simp
                  refine hK.out _ _ trivial (fun hH3 => ?_)
                  clear hK K' hH2
                  try simp only [Act.put, List.setIfInBounds_toArray, List.set_cons_zero, List.set_cons_succ]
                  refine wpAnyH_ready (rs := [12]) (by kernel_rfl) (by simp) ?_
                  refine AllReadyH.cons rfl (fun K' hK => ?_) AllReadyH.nil
                  go_simp
                  refine hK.out _ _ trivial (fun hH4 => ?_)
                  clear hK K' hH3
                  try simp only [Act.put, List.setIfInBounds_toArray, List.set_cons_zero, List.set_cons_succ]
                  clear hH4
                  refine wpAnyH_done (by kernel_rfl) ?_ _
                  refine NoPanic.normal ?_
                  go_wp2_with fail
                  go_meet
                  exact ⟨w5.heap.size, rfl, Lies.made w5 46 #[encStr k.n, .int .i64 0], Lies.alloc (w := w5) L_5.out _, SW.alloc (w := w5) S_5.out _⟩
              · go_simp
                refine hK.out _ _ trivial (fun hH1 => ?_)
                clear hK K' hH0
                try simp only [Act.put, List.setIfInBounds_toArray, List.set_cons_zero, List.set_cons_succ]
                refine wpAnyH_ready (rs := [1]) (by kernel_rfl) (by simp) ?_
                refine AllReadyH.cons rfl (fun K' hK => ?_) AllReadyH.nil
                go_simp
                go_at_call 16
                with_reducible refine (sw_goods (SW.alloc S_4.out _).drew).mono ?_
                rintro e w5 ⟨v5, rfl, hr, hs, hf⟩
                have S_5 := Lib.hid hs
                have RG_5 := Lib.hid hr
                have L_5 := Lib.hid (Lies.below (w := (w4.alloc (.cells #[.string ⟨#[]⟩, .int .i64 0] 46)).drew) (Lies.alloc (w := w4) L_4.out (.cells #[.string ⟨#[]⟩, .int .i64 0] 46)) hf (Lies.lt (Lies.alloc (w := w4) L_4.out (.cells #[.string ⟨#[]⟩, .int .i64 0] 46))))
                have M_5 := Lib.hid (Lies.below (w := (w4.alloc (.cells #[.string ⟨#[]⟩, .int .i64 0] 46)).drew) (Lies.made w4 46 #[.string ⟨#[]⟩, .int .i64 0]) hf (Lies.lt (Lies.made w4 46 #[.string ⟨#[]⟩, .int .i64 0])))
                refine hK.out _ _ trivial (fun hH2 => ?_)
                clear hK K' hH1 hr hs hf
                try simp only [Act.put, List.setIfInBounds_toArray, List.set_cons_zero, List.set_cons_succ]
                obtain ⟨A5, c5, rfl, hg5, hc5⟩ := RG_5.out.gin
                (try dsimp only at hg5)
                (try dsimp only at hc5)
                rw [HQ4.out.1] at hg5 hc5 ⊢
                obtain ⟨b5, off5, rfl, hb5, hcell5⟩ := hg5.2 (by omega)
                obtain ⟨z0, z1⟩ := hcell5 j (by rw [HQ4.out.1]; exact hj2)
                rw [HG5.out] at z0 z1
                have HZ := Lib.hid hb5
                clear hcell5 hg5 hc5 hb5
                refine any_take 9 90 ?vtq9 rfl rfl (by kernel_rfl) (by kernel_rfl) (by kernel_rfl) (fun _ _ _ h => h) (by rfl) ?hytq9 hH2 ?resttq9
                case hytq9 => ((intro W hSw); go_simp; (try with_reducible rfl))
                try simp only [Act.put, List.setIfInBounds_toArray, List.set_cons_zero, List.set_cons_succ]
                obtain ⟨m0, m1⟩ := M_5.out.cells2
                obtain ⟨mf0, mf1⟩ := M_5.out.free2
                refine wpAnyH_ready (rs := [10]) (by kernel_rfl) (by simp) ?_
                refine AllReadyH.cons rfl (fun K' hK => ?_) AllReadyH.nil
                go_simp
                refine hK.out _ _ trivial (fun hH3 => ?_)
                clear hK K' hH2
                try simp only [Act.put, List.setIfInBounds_toArray, List.set_cons_zero, List.set_cons_succ]
                refine wpAnyH_ready (rs := [12]) (by kernel_rfl) (by simp) ?_
                refine AllReadyH.cons rfl (fun K' hK => ?_) AllReadyH.nil
                go_simp
                refine hK.out _ _ trivial (fun hH4 => ?_)
                clear hK K' hH3
                try simp only [Act.put, List.setIfInBounds_toArray, List.set_cons_zero, List.set_cons_succ]
                clear hH4
                refine wpAnyH_done (by kernel_rfl) ?_ _
                refine NoPanic.normal ?_
                go_wp2_with fail
                go_meet
                exact ⟨w4.heap.size, rfl, (M_5.out.put 0 (encStr k.n)).put 1 (.int .i64 0), (L_5.out.other (a := ⟨w4.heap.size, 0, none⟩) (Nat.ne_of_lt HBX.out) _).other (a := ⟨w4.heap.size, 1, none⟩) (Nat.ne_of_lt HBX.out) _, sw_put2 S_5.out M_5.out HLT4.out S_4.out.bel.size _ _⟩
            case rest =>
              obtain ⟨g13, rfl, hM, hL6, hS6⟩ := hcut
              have M_6 := Lib.hid hM
              have L_6 := Lib.hid hL6
              have S_6 := Lib.hid hS6
              clear hM hL6 hS6 p0 p1
              obtain ⟨p0, p1⟩ := L_6.out.cells2
              obtain ⟨m0, m1⟩ := M_6.out.cells2
              go_wp2_with fail
              with_reducible refine (HK.out _).mono ?_
              rintro e w7 ⟨rfl, hb⟩
              have S_7 := Lib.hid (S_6.out.below hb)
              clear hb
              go_wp2
              go_ret
              exact ⟨rfl, S_7.out.bel⟩

end Go.Proofs.Ytimoobhnhldgbaa
