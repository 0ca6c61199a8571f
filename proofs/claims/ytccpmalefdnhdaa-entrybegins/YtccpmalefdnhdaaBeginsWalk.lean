/-
  The walk of EntryBegins, out of the contracts.
-/
import Derived.Test.YtccpmalefdnhdaaBgRow
import Derived.Test.YtccpmalefdnhdaaEpochsWalk
import Derived.IntWalk
namespace Go.Proofs.Ytccpmalefdnhdaa
open Go.RowKit
set_option linter.unusedVariables false

set_option maxHeartbeats 400000 in
theorem begins_long (a : Option Addr) (n cap : Nat) (z : Int) (w : World) (hn : 200 < n) (hm : n ≤ maxLen) :
    Calls Try.prog 8 #[.slice a n cap, .int .i64 z] w fun e w' => e = .returned (.bool true) ∧ Below w.heap.size w w' := by
  unfold maxLen at hm
  go_enter Try.func8, Try.ntmps8
  go_wp2_with fail
  with_reducible refine (known_any _).mono ?_
  rintro e w2 ⟨rfl, hb⟩
  go_wp2
  go_ret
  exact ⟨rfl, hb⟩

theorem u64_nonneg (z : Int) : 0 ≤ IntKind.u64.wrap z := by
  unfold IntKind.wrap
  simp only [IntKind.signed, IntKind.bits]
  simp
  omega
theorem rowE_full {es : List Entry} {n : Nat} (h : n = es.length) : Ent.rowE es n = 0 := by unfold Ent.rowE; rw [if_pos h]

theorem ents_mid {w : World} {b off n cap : Nat} {es : List Entry} (h : Ents w (some ⟨b, off, none⟩) n es) (m k : Nat) (hm : m ≤ n) (hk : k ≤ m) (hc : n ≤ cap) :
    Ents w (if cap = k then some ⟨b, off, none⟩ else some ⟨b, off + k * 11, none⟩) (m - k) ((es.take m).drop k) := by
  have h1 := (h.front m hm).cut k hk
  by_cases hck : cap = k
  · refine ⟨h1.1, fun h0 => by omega⟩
  · rw [if_neg hck]; exact h1

theorem row_only {w : World} {es : List Entry} {n : Nat} {x : Ending} {w' : World} (hr : Ent.RowIs es n) (h : RowPost w es x w') :
    x = .returned (.tuple #[.int .i64 (n : Nat), .int .i64 (Ent.rowE es n : Nat)]) ∧ Below w.heap.size w w' := by
  obtain ⟨m, h1, h2, h3⟩ := h
  obtain rfl := h1.uniq hr
  exact ⟨h2, h3⟩

set_option maxRecDepth 100000 in
set_option maxHeartbeats 4000000 in
theorem begins_mid (b off : Nat) (n cap : Nat) (es : List Entry) (z : Int) (w : World) (hI : InEnts w (some ⟨b, off, none⟩) n cap es) (h0 : 0 < n) (hn : n ≤ 200) :
    Calls Try.prog 8 #[.slice (some ⟨b, off, none⟩) n cap, .int .i64 z] w fun e w' => e = .returned (.bool true) ∧ Below w.heap.size w w' := by
  obtain ⟨hE, hnc, hcm, _⟩ := hI
  unfold maxLen at hcm
  have hlen := hE.1
  have HE := Lib.hid hE
  have HLEN := Lib.hid hlen
  have C1 := Lib.hid (row_any (some ⟨b, off, none⟩) n cap es w hE (small_len _ (by omega)))
  clear hE hlen
  have hn5 : decide ((200 : Int) < (n : Int)) = false := by rw [decide_eq_false_iff_not]; omega
  go_enter Try.func8, Try.ntmps8
  go_wp2_with fail
  with_reducible refine C1.out.mono ?_
  rintro x w1 ⟨m, hm, rfl, hb1⟩
  have hmn : m ≤ n := by rw [← HLEN.out]; exact hm.1
  have HM := Lib.hid hm
  have HB1 := Lib.hid hb1
  obtain ⟨er, her⟩ : ∃ q, Ent.rowE es m = q := ⟨_, rfl⟩
  rw [her]
  clear hm her hb1 C1
  obtain ⟨u, hu⟩ : ∃ u : Nat, IntKind.u64.wrap z = (u : Int) := ⟨(IntKind.u64.wrap z).toNat, by have := u64_nonneg z; omega⟩
  obtain ⟨m1, hm1⟩ : ∃ q, m + 1 = q := ⟨_, rfl⟩
  have hq1 : IntKind.i64.wrap ((m : Int) + 1) = ((m1 : Nat) : Int) := by rw [IntWalk.i64_in _ (by omega)]; omega
  obtain ⟨k, hk⟩ : ∃ q, u % m1 = q := ⟨_, rfl⟩
  have hkm : k ≤ m := by have := Nat.mod_lt u (show 0 < m1 by omega); omega
  have hqk0 : ((u : Int) % (m1 : Int)) = (k : Int) := by rw [← hk]; exact (Int.natCast_emod u m1).symm
  have hm1p : 0 < m1 := by omega
  have hm1q : m1 ≤ 201 := by omega
  have hm1r : (m1 : Int) ≠ 0 := by omega
  have hq2 : IntKind.u64.wrap (m1 : Int) = (m1 : Int) := IntWalk.u64_in _ (by omega)
  have hqk : wrap64 ((u : Int) % (m1 : Int)) = (k : Int) := by rw [hqk0]; exact IntWalk.wrap64_in _ (by omega)
  have HK := Lib.hid hk
  have HM1 := Lib.hid hm1
  clear hk hqk0 hm1
  have hd1 : decide ((m : Int) < 0) = false := by rw [decide_eq_false_iff_not]; omega
  have hd2 : decide (n < m) = false := by rw [decide_eq_false_iff_not]; omega
  have b1 : (k : Int) ≤ (cap : Int) := by omega
  have b2 : (k : Int) ≤ (m : Int) := by omega
  have b3 : (m : Int) ≤ (cap : Int) := by omega
  have htk : (es.take k).length = k := by rw [List.length_take, HLEN.out]; omega
  have c2 := (row_any (some ⟨b, off, none⟩) k cap (es.take k) w1 ((HE.out.below HB1.out).front k (by omega)) (small_len _ (by omega))).mono fun x w' h => row_only (Ent.row_take HM.out hkm) h
  rw [rowE_full htk.symm] at c2
  have C2 := Lib.hid c2
  clear c2 htk
  go_wp2_with fail
  with_reducible refine C2.out.mono ?_
  rintro x w2 ⟨rfl, hb2⟩
  have HB2 := Lib.hid (HB1.out.trans (hb2.mono HB1.out.size))
  clear hb2 C2
  have htk : ((es.take m).drop k).length = m - k := by rw [List.length_drop, List.length_take, HLEN.out]; omega
  obtain ⟨AD, hAD⟩ : ∃ AD, (if cap = k then some (⟨b, off, none⟩ : Addr) else some ⟨b, off + k * 11, none⟩) = AD := ⟨_, rfl⟩
  have c3 := (row_any AD (m - k) (cap - k) ((es.take m).drop k) w2 (hAD ▸ ents_mid (HE.out.below HB2.out) m k hmn hkm hnc) (small_len _ (by omega))).mono fun x w' h => row_only (Ent.row_mid HM.out hkm) h
  rw [rowE_full htk.symm] at c3
  obtain ⟨mk, hmk⟩ : ∃ q, m - k = q := ⟨_, rfl⟩
  have hqm : IntKind.i64.wrap ((m : Int) - (k : Int)) = ((mk : Nat) : Int) := by rw [IntWalk.i64_in _ (by omega)]; omega
  have HMK := Lib.hid hmk
  rw [hmk] at c3
  have C3 := Lib.hid c3
  clear c3 htk
  --CUT
  go_wp2_with fail
  with_reducible refine C3.out.mono ?_
  rintro x w3 ⟨rfl, hb3⟩
  have HB3 := Lib.hid (HB2.out.trans (hb3.mono HB2.out.size))
  clear hb3 C3 hmk hAD
  have hd3 : decide ((m : Int) < (n : Int)) = decide (m < n) := by rw [decide_eq_decide]; omega
  by_cases hlt : m < n
  · have hd4 : decide (m < n) = true := by simpa using hlt
    have b4 : (m1 : Int) ≤ (cap : Int) := by have := HM1.out; omega
    have c4 := (row_any (some ⟨b, off, none⟩) m1 cap (es.take m1) w3 ((HE.out.below HB3.out).front m1 (by have := HM1.out; omega)) (small_len _ (by omega))).mono fun x w' h => row_only (show Ent.RowIs (es.take m1) m by rw [← HM1.out]; exact Ent.row_next HM.out (by rw [HLEN.out]; exact hlt)) h
    rw [show Ent.rowE (es.take m1) m = 41 by unfold Ent.rowE; rw [if_neg (by rw [List.length_take, HLEN.out]; have := HM1.out; omega)], show ((41 : Nat) : Int) = 41 from rfl] at c4
    have C4 := Lib.hid c4
    clear c4
    go_wp2_with fail
    with_reducible refine C4.out.mono ?_
    rintro x w4 ⟨rfl, hb4⟩
    have HB4 := Lib.hid (HB3.out.trans (hb4.mono HB3.out.size))
    clear hb4 C4 HB3
    by_cases hm0 : m = 0
    · have hd5 : decide (m = 0) = true := by simpa using hm0
      have hd6 : decide ((m : Int) = 0) = true := by rw [decide_eq_true_iff]; omega
      have hd7 : (m == 0) = true := by rw [beq_iff_eq]; omega
      have hd8 : ((m : Int) == 0) = true := by rw [beq_iff_eq]; omega
      clear hm0
      go_wp2_with fail
      with_reducible refine (known_any _).mono ?_
      rintro x w5 ⟨rfl, hb5⟩
      go_wp2
      go_ret
      exact ⟨rfl, HB4.out.trans (hb5.mono HB4.out.size)⟩
    · have hd5 : decide (m = 0) = false := by simpa using hm0
      have hd6 : decide ((m : Int) = 0) = false := by rw [decide_eq_false_iff_not]; omega
      have hd7 : (m == 0) = false := by rw [beq_eq_false_iff_ne]; omega
      have hd8 : ((m : Int) == 0) = false := by rw [beq_eq_false_iff_ne]; omega
      have hml : m - 1 < es.length := by rw [HLEN.out]; omega
      obtain ⟨e, he⟩ : ∃ e, es[m - 1]'hml = e := ⟨_, rfl⟩
      obtain ⟨b', off', hbo, hat⟩ := HE.out.2 h0
      injection hbo with hbo
      injection hbo with q1 q2 _
      subst q1 q2
      obtain ⟨A1, A2, c1, c2, hV, hrg⟩ := (hat (m - 1) hml).below HB4.out
      have hok : Ent.ok (es[m - 1]'hml) = true := (good_at (HM.out.2.1 (m - 1) (by omega)) hml).1
      rw [he] at hV hrg hok
      have HV := Lib.hid hV
      have HOK := Lib.hid hok
      have HEE := Lib.hid (show es[m - 1]? = some e by rw [List.getElem?_eq_getElem hml, he])
      obtain ⟨e0, e1, e2, e3, e4, e5, e6, e7, e8, e9, e10⟩ := range_cells hrg
      clear hat hV hrg hok he hml e0 e3 e4 e5 e6 e7 e8 e9 e10
      by_cases hmax : e.lsn = 18446744073709551615
      · rw [hmax, show ((18446744073709551615 : Nat) : Int) = 18446744073709551615 from rfl] at e1
        go_wp2_with fail
        with_reducible refine (known_any _).mono ?_
        rintro x w5 ⟨rfl, hb5⟩
        go_wp2
        go_ret
        exact ⟨rfl, HB4.out.trans (hb5.mono HB4.out.size)⟩
      · have hm1' : ((e.lsn : Int) == 18446744073709551615) = false := by rw [beq_eq_false_iff_ne]; omega
        have hm2' : decide ((e.lsn : Int) = 18446744073709551615) = false := by rw [decide_eq_false_iff_not]; omega
        have hm3' : (e.lsn == 18446744073709551615) = false := by rw [beq_eq_false_iff_ne]; exact hmax
        have hm4' : decide (e.lsn = 18446744073709551615) = false := by rw [decide_eq_false_iff_not]; exact hmax
        have hbl := HV.out.b.lsn
        obtain ⟨ls, hls⟩ : ∃ q, e.lsn + 1 = q := ⟨_, rfl⟩
        have hlw : IntKind.u64.wrap ((e.lsn : Int) + 1) = ((ls : Nat) : Int) := by rw [IntWalk.u64_in _ (by omega)]; omega
        obtain ⟨news, nl, nr, no, nc⟩ := ents_cells ((HE.out.below HB4.out).front m hmn)
        have NL := Lib.hid nl
        have NR := Lib.hid nr
        have NO := Lib.hid no
        have NC := Lib.hid nc
        have HLS := Lib.hid hls
        have HNIL := Lib.hid (erow_nil w4 w4.heap.size)
        have HMAX := Lib.hid hmax
        have hms : 0 + m ≤ 1000 := by omega
        clear nl nr no nc hls hbl hmax
        go_wp2_with (first
          | fail
          | ((with_reducible refine wpl_appendE (some 109) _ _ _ (.tmp 105) (.tmp 108) w4.heap.size (.slice none 0 0) 0 [] b off m cap news ?hs ?hx HNIL.out NL.out NR.out NO.out hms (Nat.le_refl _) ?_); (case hs => rfl); (case hx => rfl); (intro v6 w6 ho6 hg6)))
        --REG
        rw [Nat.zero_add, List.nil_append] at ho6
        have hb6 := (Below.refl w4.heap.size w4).grown hg6 (Nat.le_refl _) (fun q hq => by cases hq)
        have HO6 := Lib.hid ho6
        have HB6 := Lib.hid hb6
        have ep := HV.out.b.epoch
        obtain ⟨qm, hqm'⟩ : ∃ q, m - 1 = q := ⟨_, rfl⟩
        rw [hqm'] at e1 e2
        have hqz : IntKind.i64.wrap ((m : Int) - 1) = ((qm : Nat) : Int) := by rw [IntWalk.i64_in _ (by omega)]; omega
        have hqz2 : ((qm : Nat) : Int) < (n : Int) := by omega
        have hqz3 : (0 : Int) ≤ ((qm : Nat) : Int) := by omega
        have HQM := Lib.hid hqm'
        clear hqm'
        have HCC := Lib.hid (fun W (h : Below w4.heap.size w4 W) => (⟨(h.cell (block_lt_of_cell e1)).trans e1, (h.cell (block_lt_of_cell e2)).trans e2⟩ : W.cell? ⟨b, off + qm * 11 + 1, none⟩ = some (.int .u64 (e.lsn : Nat)) ∧ W.cell? ⟨b, off + qm * 11 + 2, none⟩ = some (.int .u32 (e.epoch : Nat))))
        clear ho6 hb6 hg6 e1 e2
        go_wp2_with fail
        refine wp_region_noPanic ?_
        refine wp_region_held_drew (S := (fun W => W.cell? ⟨b, off + qm * 11 + 1, none⟩ = some (.int .u64 (e.lsn : Nat)) ∧ W.cell? ⟨b, off + qm * 11 + 2, none⟩ = some (.int .u32 (e.epoch : Nat)))) (by kernel_rfl) (HCC.out _ HB6.out.drew) (fun hH => ?_)
        refine any_take 0 110 ?va0 rfl rfl (by kernel_rfl) (by kernel_rfl) (by kernel_rfl) (fun _ _ _ h => h) (by rfl) ?hya0 hH ?resta0
        case hya0 => ((intro W hSw); go_simp; (try with_reducible rfl))
        try simp only [Act.put, List.setIfInBounds_toArray, List.set_cons_zero, List.set_cons_succ]
        refine any_take 1 111 ?va1 rfl rfl (by kernel_rfl) (by kernel_rfl) (by kernel_rfl) (fun _ _ _ h => h) (by rfl) ?hya1 hH ?resta1
        case hya1 => ((intro W hSw); go_simp; (try with_reducible rfl))
        try simp only [Act.put, List.setIfInBounds_toArray, List.set_cons_zero, List.set_cons_succ]
        refine any_take 2 112 ?va2 rfl rfl (by kernel_rfl) (by kernel_rfl) (by kernel_rfl) (fun _ _ _ h => h) (by rfl) ?hya2 hH ?resta2
        case hya2 => ((intro W hSw); go_simp; (try with_reducible rfl))
        try simp only [Act.put, List.setIfInBounds_toArray, List.set_cons_zero, List.set_cons_succ]
        refine any_take 3 113 ?va3 rfl rfl (by kernel_rfl) (by kernel_rfl) (by kernel_rfl) (fun _ _ _ h => h) (by rfl) ?hya3 hH ?resta3
        case hya3 => ((intro W hSw); go_simp; (try with_reducible rfl))
        try simp only [Act.put, List.setIfInBounds_toArray, List.set_cons_zero, List.set_cons_succ]
        refine any_take 4 114 ?va4 rfl rfl (by kernel_rfl) (by kernel_rfl) (by kernel_rfl) (fun _ _ _ h => h) (by rfl) ?hya4 hH ?resta4
        case hya4 => ((intro W hSw); go_simp; (try with_reducible rfl))
        try simp only [Act.put, List.setIfInBounds_toArray, List.set_cons_zero, List.set_cons_succ]
        refine any_take 5 115 ?va5 rfl rfl (by kernel_rfl) (by kernel_rfl) (by kernel_rfl) (fun _ _ _ h => h) (by rfl) ?hya5 hH ?resta5
        case hya5 => ((intro W hSw); go_simp; (try with_reducible rfl))
        try simp only [Act.put, List.setIfInBounds_toArray, List.set_cons_zero, List.set_cons_succ]
        refine any_take 6 116 ?va6 rfl rfl (by kernel_rfl) (by kernel_rfl) (by kernel_rfl) (fun _ _ _ h => h) (by rfl) ?hya6 hH ?resta6
        case hya6 => ((intro W hSw); (obtain ⟨g0, g1⟩ := hSw); go_simp; (try with_reducible rfl))
        try simp only [Act.put, List.setIfInBounds_toArray, List.set_cons_zero, List.set_cons_succ]
        refine any_take 7 117 ?va7 rfl rfl (by kernel_rfl) (by kernel_rfl) (by kernel_rfl) (fun _ _ _ h => h) (by rfl) ?hya7 hH ?resta7
        case hya7 => ((intro W hSw); go_simp; (try with_reducible rfl))
        try simp only [Act.put, List.setIfInBounds_toArray, List.set_cons_zero, List.set_cons_succ]
        refine any_take 8 118 ?va8 rfl rfl (by kernel_rfl) (by kernel_rfl) (by kernel_rfl) (fun _ _ _ h => h) (by rfl) ?hya8 hH ?resta8
        case hya8 => ((intro W hSw); go_simp; (try with_reducible rfl))
        try simp only [Act.put, List.setIfInBounds_toArray, List.set_cons_zero, List.set_cons_succ]
        refine any_take 9 119 ?va9 rfl rfl (by kernel_rfl) (by kernel_rfl) (by kernel_rfl) (fun _ _ _ h => h) (by rfl) ?hya9 hH ?resta9
        case hya9 => ((intro W hSw); go_simp; (try with_reducible rfl))
        try simp only [Act.put, List.setIfInBounds_toArray, List.set_cons_zero, List.set_cons_succ]
        refine any_take 10 120 ?va10 rfl rfl (by kernel_rfl) (by kernel_rfl) (by kernel_rfl) (fun _ _ _ h => h) (by rfl) ?hya10 hH ?resta10
        case hya10 => ((intro W hSw); go_simp; (try with_reducible rfl))
        try simp only [Act.put, List.setIfInBounds_toArray, List.set_cons_zero, List.set_cons_succ]
        refine any_take 11 121 ?va11 rfl rfl (by kernel_rfl) (by kernel_rfl) (by kernel_rfl) (fun _ _ _ h => h) (by rfl) ?hya11 hH ?resta11
        case hya11 => ((intro W hSw); go_simp; (try with_reducible rfl))
        try simp only [Act.put, List.setIfInBounds_toArray, List.set_cons_zero, List.set_cons_succ]
        refine any_take 12 122 ?va12 rfl rfl (by kernel_rfl) (by kernel_rfl) (by kernel_rfl) (fun _ _ _ h => h) (by rfl) ?hya12 hH ?resta12
        case hya12 => ((intro W hSw); go_simp; (try with_reducible rfl))
        try simp only [Act.put, List.setIfInBounds_toArray, List.set_cons_zero, List.set_cons_succ]
        refine any_take 13 123 ?va13 rfl rfl (by kernel_rfl) (by kernel_rfl) (by kernel_rfl) (fun _ _ _ h => h) (by rfl) ?hya13 hH ?resta13
        case hya13 => ((intro W hSw); (obtain ⟨g0, g1⟩ := hSw); go_simp; (try with_reducible rfl))
        try simp only [Act.put, List.setIfInBounds_toArray, List.set_cons_zero, List.set_cons_succ]
        refine any_take 14 124 ?va14 rfl rfl (by kernel_rfl) (by kernel_rfl) (by kernel_rfl) (fun _ _ _ h => h) (by rfl) ?hya14 hH ?resta14
        case hya14 => ((intro W hSw); go_simp; (try with_reducible rfl))
        try simp only [Act.put, List.setIfInBounds_toArray, List.set_cons_zero, List.set_cons_succ]
        --15
        refine wpAnyH_ready (rs := [15]) (by kernel_rfl) (by simp) ?_
        refine AllReadyH.cons rfl (fun K hK => ?_) AllReadyH.nil
        go_simp
        have LY := Lib.hid (show Lies (w6.alloc (.cells #[.int .i64 6, .int .u64 (ls : Nat), .int .u32 (e.epoch : Nat), .int .u32 0, .int .i64 0, .bool false, .int .i64 0, .int .i64 2, .int .u64 0, .slice none 0 0, .slice none 0 0] 26)).drew w6.heap.size 26 (moreC ls e.epoch) from Lies.made w6 26 (moreC ls e.epoch))
        have HB7 := Lib.hid (HB6.out.alloc HB6.out.size (.cells #[.int .i64 6, .int .u64 (ls : Nat), .int .u32 (e.epoch : Nat), .int .u32 0, .int .i64 0, .bool false, .int .i64 0, .int .i64 2, .int .u64 0, .slice none 0 0, .slice none 0 0] 26)).drew
        have HO7 := Lib.hid (show ERow (w6.alloc (.cells #[.int .i64 6, .int .u64 (ls : Nat), .int .u32 (e.epoch : Nat), .int .u32 0, .int .i64 0, .bool false, .int .i64 0, .int .i64 2, .int .u64 0, .slice none 0 0, .slice none 0 0] 26)).drew w4.heap.size v6 m news from erow_alloc HO6.out _)
        refine hK.out _ _ (HCC.out _ HB7.out) (fun hH2 => ?_)
        clear hK K
        try simp only [Act.put, List.setIfInBounds_toArray, List.set_cons_zero, List.set_cons_succ]
        refine wpAnyH_ready (rs := [16]) (by kernel_rfl) (by simp) ?_
        refine AllReadyH.cons rfl (fun K hK => ?_) AllReadyH.nil
        refine stp_appendE (some 126) _ _ _ (.tmp 110) (.tmp 125) w4.heap.size v6 m news w6.heap.size (moreC ls e.epoch) rfl rfl HO7.out LY.out rfl (by simp [Value.oneCell']) (by omega) HB7.out.size ?_
        intro g c7 w7 ho7 hg7
        have HB8 := Lib.hid (HB7.out.grown hg7 HB7.out.size (fun q hq => erow_block HO7.out q hq))
        have HO8 := Lib.hid ho7
        rw [HM1.out]
        refine hK.out _ _ (HCC.out _ HB8.out) (fun hH3 => ?_)
        clear hK K ho7 hg7
        try simp only [Act.put, List.setIfInBounds_toArray, List.set_cons_zero, List.set_cons_succ]
        refine any_take 17 14 ?va17 rfl rfl (by kernel_rfl) (by kernel_rfl) (by kernel_rfl) (fun _ _ _ h => h) (by rfl) ?hya17 hH3 ?resta17
        case hya17 => ((intro W hSw); go_simp; (try with_reducible rfl))
        try simp only [Act.put, List.setIfInBounds_toArray, List.set_cons_zero, List.set_cons_succ]
        refine wpAnyH_done (by kernel_rfl) ?_ _
        refine NoPanic.normal ?_
        have hents := erow_more HO8.out (es := es) (by rw [List.length_take, HLEN.out]; omega) NL.out NC.out HB8.out (by have := HLS.out; have := HV.out.b.lsn; have := HMAX.out; omega) HV.out.b.epoch
        have hrow := Ent.row_more HM.out e (moreE ls e.epoch) HEE.out (by omega) (moreE_ok (by have := HLS.out; omega) ((Ent.ok_iff e).1 HOK.out).epoch) ⟨HLS.out.symm, .inl rfl⟩
        have c9 := (row_any (some ⟨g, 0, none⟩) (m + 1) c7 (es.take m ++ [moreE ls e.epoch]) w7 hents (small_len _ (by omega))).mono fun x w' h => row_only hrow h
        rw [rowE_full (by rw [List.length_append, List.length_take, HLEN.out, Nat.min_eq_left hmn]; rfl), HM1.out] at c9
        have C9 := Lib.hid c9
        clear hH hH2 hH3 hents hrow c9
        go_wp2_with fail
        with_reducible refine C9.out.mono ?_
        rintro x w9 ⟨rfl, hb9⟩
        have HB9 := Lib.hid (HB8.out.trans (hb9.mono HB8.out.size))
        clear hb9 C9
        go_wp2_with fail
        with_reducible refine (known_any _).mono ?_
        rintro x w10 ⟨rfl, hb10⟩
        go_wp2
        go_ret
        have hx := HB9.out.trans (hb10.mono HB9.out.size)
        exact ⟨rfl, HB4.out.trans (hx.mono HB4.out.size)⟩
  · have hd4 : decide (m < n) = false := by simpa using hlt
    by_cases hm0 : m = 0
    · have hd5 : decide (m = 0) = true := by simpa using hm0
      have hd6 : decide ((m : Int) = 0) = true := by rw [decide_eq_true_iff]; omega
      have hd7 : (m == 0) = true := by rw [beq_iff_eq]; omega
      have hd8 : ((m : Int) == 0) = true := by rw [beq_iff_eq]; omega
      clear hm0
      go_wp2_with fail
      with_reducible refine (known_any _).mono ?_
      rintro x w5 ⟨rfl, hb5⟩
      go_wp2
      go_ret
      exact ⟨rfl, HB3.out.trans (hb5.mono HB3.out.size)⟩
    · have hd5 : decide (m = 0) = false := by simpa using hm0
      have hd6 : decide ((m : Int) = 0) = false := by rw [decide_eq_false_iff_not]; omega
      have hd7 : (m == 0) = false := by rw [beq_eq_false_iff_ne]; omega
      have hd8 : ((m : Int) == 0) = false := by rw [beq_eq_false_iff_ne]; omega
      have hml : m - 1 < es.length := by rw [HLEN.out]; omega
      obtain ⟨e, he⟩ : ∃ e, es[m - 1]'hml = e := ⟨_, rfl⟩
      obtain ⟨b', off', hbo, hat⟩ := HE.out.2 h0
      injection hbo with hbo
      injection hbo with q1 q2 _
      subst q1 q2
      obtain ⟨A1, A2, c1, c2, hV, hrg⟩ := (hat (m - 1) hml).below HB3.out
      have hok : Ent.ok (es[m - 1]'hml) = true := (good_at (HM.out.2.1 (m - 1) (by omega)) hml).1
      rw [he] at hV hrg hok
      have HV := Lib.hid hV
      have HOK := Lib.hid hok
      have HEE := Lib.hid (show es[m - 1]? = some e by rw [List.getElem?_eq_getElem hml, he])
      obtain ⟨e0, e1, e2, e3, e4, e5, e6, e7, e8, e9, e10⟩ := range_cells hrg
      clear hat hV hrg hok he hml e0 e3 e4 e5 e6 e7 e8 e9 e10
      by_cases hmax : e.lsn = 18446744073709551615
      · rw [hmax, show ((18446744073709551615 : Nat) : Int) = 18446744073709551615 from rfl] at e1
        go_wp2_with fail
        with_reducible refine (known_any _).mono ?_
        rintro x w5 ⟨rfl, hb5⟩
        go_wp2
        go_ret
        exact ⟨rfl, HB3.out.trans (hb5.mono HB3.out.size)⟩
      · have hm1' : ((e.lsn : Int) == 18446744073709551615) = false := by rw [beq_eq_false_iff_ne]; omega
        have hm2' : decide ((e.lsn : Int) = 18446744073709551615) = false := by rw [decide_eq_false_iff_not]; omega
        have hm3' : (e.lsn == 18446744073709551615) = false := by rw [beq_eq_false_iff_ne]; exact hmax
        have hm4' : decide (e.lsn = 18446744073709551615) = false := by rw [decide_eq_false_iff_not]; exact hmax
        have hbl := HV.out.b.lsn
        obtain ⟨ls, hls⟩ : ∃ q, e.lsn + 1 = q := ⟨_, rfl⟩
        have hlw : IntKind.u64.wrap ((e.lsn : Int) + 1) = ((ls : Nat) : Int) := by rw [IntWalk.u64_in _ (by omega)]; omega
        obtain ⟨news, nl, nr, no, nc⟩ := ents_cells ((HE.out.below HB3.out).front m hmn)
        have NL := Lib.hid nl
        have NR := Lib.hid nr
        have NO := Lib.hid no
        have NC := Lib.hid nc
        have HLS := Lib.hid hls
        have HNIL := Lib.hid (erow_nil w3 w3.heap.size)
        have HMAX := Lib.hid hmax
        have hms : 0 + m ≤ 1000 := by omega
        clear nl nr no nc hls hbl hmax
        go_wp2_with (first
          | fail
          | ((with_reducible refine wpl_appendE (some 109) _ _ _ (.tmp 105) (.tmp 108) w3.heap.size (.slice none 0 0) 0 [] b off m cap news ?hs ?hx HNIL.out NL.out NR.out NO.out hms (Nat.le_refl _) ?_); (case hs => rfl); (case hx => rfl); (intro v6 w6 ho6 hg6)))
        --REG
        rw [Nat.zero_add, List.nil_append] at ho6
        have hb6 := (Below.refl w3.heap.size w3).grown hg6 (Nat.le_refl _) (fun q hq => by cases hq)
        have HO6 := Lib.hid ho6
        have HB6 := Lib.hid hb6
        have ep := HV.out.b.epoch
        obtain ⟨qm, hqm'⟩ : ∃ q, m - 1 = q := ⟨_, rfl⟩
        rw [hqm'] at e1 e2
        have hqz : IntKind.i64.wrap ((m : Int) - 1) = ((qm : Nat) : Int) := by rw [IntWalk.i64_in _ (by omega)]; omega
        have hqz2 : ((qm : Nat) : Int) < (n : Int) := by omega
        have hqz3 : (0 : Int) ≤ ((qm : Nat) : Int) := by omega
        have HQM := Lib.hid hqm'
        clear hqm'
        have HCC := Lib.hid (fun W (h : Below w3.heap.size w3 W) => (⟨(h.cell (block_lt_of_cell e1)).trans e1, (h.cell (block_lt_of_cell e2)).trans e2⟩ : W.cell? ⟨b, off + qm * 11 + 1, none⟩ = some (.int .u64 (e.lsn : Nat)) ∧ W.cell? ⟨b, off + qm * 11 + 2, none⟩ = some (.int .u32 (e.epoch : Nat))))
        clear ho6 hb6 hg6 e1 e2
        go_wp2_with fail
        refine wp_region_noPanic ?_
        refine wp_region_held_drew (S := (fun W => W.cell? ⟨b, off + qm * 11 + 1, none⟩ = some (.int .u64 (e.lsn : Nat)) ∧ W.cell? ⟨b, off + qm * 11 + 2, none⟩ = some (.int .u32 (e.epoch : Nat)))) (by kernel_rfl) (HCC.out _ HB6.out.drew) (fun hH => ?_)
        refine any_take 0 110 ?vb0 rfl rfl (by kernel_rfl) (by kernel_rfl) (by kernel_rfl) (fun _ _ _ h => h) (by rfl) ?hyb0 hH ?restb0
        case hyb0 => ((intro W hSw); go_simp; (try with_reducible rfl))
        try simp only [Act.put, List.setIfInBounds_toArray, List.set_cons_zero, List.set_cons_succ]
        refine any_take 1 111 ?vb1 rfl rfl (by kernel_rfl) (by kernel_rfl) (by kernel_rfl) (fun _ _ _ h => h) (by rfl) ?hyb1 hH ?restb1
        case hyb1 => ((intro W hSw); go_simp; (try with_reducible rfl))
        try simp only [Act.put, List.setIfInBounds_toArray, List.set_cons_zero, List.set_cons_succ]
        refine any_take 2 112 ?vb2 rfl rfl (by kernel_rfl) (by kernel_rfl) (by kernel_rfl) (fun _ _ _ h => h) (by rfl) ?hyb2 hH ?restb2
        case hyb2 => ((intro W hSw); go_simp; (try with_reducible rfl))
        try simp only [Act.put, List.setIfInBounds_toArray, List.set_cons_zero, List.set_cons_succ]
        refine any_take 3 113 ?vb3 rfl rfl (by kernel_rfl) (by kernel_rfl) (by kernel_rfl) (fun _ _ _ h => h) (by rfl) ?hyb3 hH ?restb3
        case hyb3 => ((intro W hSw); go_simp; (try with_reducible rfl))
        try simp only [Act.put, List.setIfInBounds_toArray, List.set_cons_zero, List.set_cons_succ]
        refine any_take 4 114 ?vb4 rfl rfl (by kernel_rfl) (by kernel_rfl) (by kernel_rfl) (fun _ _ _ h => h) (by rfl) ?hyb4 hH ?restb4
        case hyb4 => ((intro W hSw); go_simp; (try with_reducible rfl))
        try simp only [Act.put, List.setIfInBounds_toArray, List.set_cons_zero, List.set_cons_succ]
        refine any_take 5 115 ?vb5 rfl rfl (by kernel_rfl) (by kernel_rfl) (by kernel_rfl) (fun _ _ _ h => h) (by rfl) ?hyb5 hH ?restb5
        case hyb5 => ((intro W hSw); go_simp; (try with_reducible rfl))
        try simp only [Act.put, List.setIfInBounds_toArray, List.set_cons_zero, List.set_cons_succ]
        refine any_take 6 116 ?vb6 rfl rfl (by kernel_rfl) (by kernel_rfl) (by kernel_rfl) (fun _ _ _ h => h) (by rfl) ?hyb6 hH ?restb6
        case hyb6 => ((intro W hSw); (obtain ⟨g0, g1⟩ := hSw); go_simp; (try with_reducible rfl))
        try simp only [Act.put, List.setIfInBounds_toArray, List.set_cons_zero, List.set_cons_succ]
        refine any_take 7 117 ?vb7 rfl rfl (by kernel_rfl) (by kernel_rfl) (by kernel_rfl) (fun _ _ _ h => h) (by rfl) ?hyb7 hH ?restb7
        case hyb7 => ((intro W hSw); go_simp; (try with_reducible rfl))
        try simp only [Act.put, List.setIfInBounds_toArray, List.set_cons_zero, List.set_cons_succ]
        refine any_take 8 118 ?vb8 rfl rfl (by kernel_rfl) (by kernel_rfl) (by kernel_rfl) (fun _ _ _ h => h) (by rfl) ?hyb8 hH ?restb8
        case hyb8 => ((intro W hSw); go_simp; (try with_reducible rfl))
        try simp only [Act.put, List.setIfInBounds_toArray, List.set_cons_zero, List.set_cons_succ]
        refine any_take 9 119 ?vb9 rfl rfl (by kernel_rfl) (by kernel_rfl) (by kernel_rfl) (fun _ _ _ h => h) (by rfl) ?hyb9 hH ?restb9
        case hyb9 => ((intro W hSw); go_simp; (try with_reducible rfl))
        try simp only [Act.put, List.setIfInBounds_toArray, List.set_cons_zero, List.set_cons_succ]
        refine any_take 10 120 ?vb10 rfl rfl (by kernel_rfl) (by kernel_rfl) (by kernel_rfl) (fun _ _ _ h => h) (by rfl) ?hyb10 hH ?restb10
        case hyb10 => ((intro W hSw); go_simp; (try with_reducible rfl))
        try simp only [Act.put, List.setIfInBounds_toArray, List.set_cons_zero, List.set_cons_succ]
        refine any_take 11 121 ?vb11 rfl rfl (by kernel_rfl) (by kernel_rfl) (by kernel_rfl) (fun _ _ _ h => h) (by rfl) ?hyb11 hH ?restb11
        case hyb11 => ((intro W hSw); go_simp; (try with_reducible rfl))
        try simp only [Act.put, List.setIfInBounds_toArray, List.set_cons_zero, List.set_cons_succ]
        refine any_take 12 122 ?vb12 rfl rfl (by kernel_rfl) (by kernel_rfl) (by kernel_rfl) (fun _ _ _ h => h) (by rfl) ?hyb12 hH ?restb12
        case hyb12 => ((intro W hSw); go_simp; (try with_reducible rfl))
        try simp only [Act.put, List.setIfInBounds_toArray, List.set_cons_zero, List.set_cons_succ]
        refine any_take 13 123 ?vb13 rfl rfl (by kernel_rfl) (by kernel_rfl) (by kernel_rfl) (fun _ _ _ h => h) (by rfl) ?hyb13 hH ?restb13
        case hyb13 => ((intro W hSw); (obtain ⟨g0, g1⟩ := hSw); go_simp; (try with_reducible rfl))
        try simp only [Act.put, List.setIfInBounds_toArray, List.set_cons_zero, List.set_cons_succ]
        refine any_take 14 124 ?vb14 rfl rfl (by kernel_rfl) (by kernel_rfl) (by kernel_rfl) (fun _ _ _ h => h) (by rfl) ?hyb14 hH ?restb14
        case hyb14 => ((intro W hSw); go_simp; (try with_reducible rfl))
        try simp only [Act.put, List.setIfInBounds_toArray, List.set_cons_zero, List.set_cons_succ]
        --15
        refine wpAnyH_ready (rs := [15]) (by kernel_rfl) (by simp) ?_
        refine AllReadyH.cons rfl (fun K hK => ?_) AllReadyH.nil
        go_simp
        have LY := Lib.hid (show Lies (w6.alloc (.cells #[.int .i64 6, .int .u64 (ls : Nat), .int .u32 (e.epoch : Nat), .int .u32 0, .int .i64 0, .bool false, .int .i64 0, .int .i64 2, .int .u64 0, .slice none 0 0, .slice none 0 0] 26)).drew w6.heap.size 26 (moreC ls e.epoch) from Lies.made w6 26 (moreC ls e.epoch))
        have HB7 := Lib.hid (HB6.out.alloc HB6.out.size (.cells #[.int .i64 6, .int .u64 (ls : Nat), .int .u32 (e.epoch : Nat), .int .u32 0, .int .i64 0, .bool false, .int .i64 0, .int .i64 2, .int .u64 0, .slice none 0 0, .slice none 0 0] 26)).drew
        have HO7 := Lib.hid (show ERow (w6.alloc (.cells #[.int .i64 6, .int .u64 (ls : Nat), .int .u32 (e.epoch : Nat), .int .u32 0, .int .i64 0, .bool false, .int .i64 0, .int .i64 2, .int .u64 0, .slice none 0 0, .slice none 0 0] 26)).drew w3.heap.size v6 m news from erow_alloc HO6.out _)
        refine hK.out _ _ (HCC.out _ HB7.out) (fun hH2 => ?_)
        clear hK K
        try simp only [Act.put, List.setIfInBounds_toArray, List.set_cons_zero, List.set_cons_succ]
        refine wpAnyH_ready (rs := [16]) (by kernel_rfl) (by simp) ?_
        refine AllReadyH.cons rfl (fun K hK => ?_) AllReadyH.nil
        refine stp_appendE (some 126) _ _ _ (.tmp 110) (.tmp 125) w3.heap.size v6 m news w6.heap.size (moreC ls e.epoch) rfl rfl HO7.out LY.out rfl (by simp [Value.oneCell']) (by omega) HB7.out.size ?_
        intro g c7 w7 ho7 hg7
        have HB8 := Lib.hid (HB7.out.grown hg7 HB7.out.size (fun q hq => erow_block HO7.out q hq))
        have HO8 := Lib.hid ho7
        rw [HM1.out]
        refine hK.out _ _ (HCC.out _ HB8.out) (fun hH3 => ?_)
        clear hK K ho7 hg7
        try simp only [Act.put, List.setIfInBounds_toArray, List.set_cons_zero, List.set_cons_succ]
        refine any_take 17 14 ?vb17 rfl rfl (by kernel_rfl) (by kernel_rfl) (by kernel_rfl) (fun _ _ _ h => h) (by rfl) ?hyb17 hH3 ?restb17
        case hyb17 => ((intro W hSw); go_simp; (try with_reducible rfl))
        try simp only [Act.put, List.setIfInBounds_toArray, List.set_cons_zero, List.set_cons_succ]
        refine wpAnyH_done (by kernel_rfl) ?_ _
        refine NoPanic.normal ?_
        have hents := erow_more HO8.out (es := es) (by rw [List.length_take, HLEN.out]; omega) NL.out NC.out HB8.out (by have := HLS.out; have := HV.out.b.lsn; have := HMAX.out; omega) HV.out.b.epoch
        have hrow := Ent.row_more HM.out e (moreE ls e.epoch) HEE.out (by omega) (moreE_ok (by have := HLS.out; omega) ((Ent.ok_iff e).1 HOK.out).epoch) ⟨HLS.out.symm, .inl rfl⟩
        have c9 := (row_any (some ⟨g, 0, none⟩) (m + 1) c7 (es.take m ++ [moreE ls e.epoch]) w7 hents (small_len _ (by omega))).mono fun x w' h => row_only hrow h
        rw [rowE_full (by rw [List.length_append, List.length_take, HLEN.out, Nat.min_eq_left hmn]; rfl), HM1.out] at c9
        have C9 := Lib.hid c9
        clear hH hH2 hH3 hents hrow c9
        go_wp2_with fail
        with_reducible refine C9.out.mono ?_
        rintro x w9 ⟨rfl, hb9⟩
        have HB9 := Lib.hid (HB8.out.trans (hb9.mono HB8.out.size))
        clear hb9 C9
        go_wp2_with fail
        with_reducible refine (known_any _).mono ?_
        rintro x w10 ⟨rfl, hb10⟩
        go_wp2
        go_ret
        have hx := HB9.out.trans (hb10.mono HB9.out.size)
        exact ⟨rfl, HB3.out.trans (hx.mono HB3.out.size)⟩

end Go.Proofs.Ytccpmalefdnhdaa
