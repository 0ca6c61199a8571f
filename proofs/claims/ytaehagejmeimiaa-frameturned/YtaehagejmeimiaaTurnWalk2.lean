/-
  The walk of FrameTurned, out of the contracts.
-/
import Derived.Test.YtaehagejmeimiaaTurnWalk
namespace Go.Proofs.Ytaehagejmeimiaa
open Go.RowKit

/-- The place that is turned: in the body, or in the sum. -/
theorem spot_ex (good : List (List Nat)) (k : Nat) (hk : k < good.length) (hs : Frm.Short good) (hb : ∀ x ∈ good, ∀ c ∈ x, c < 256) (inS : Bool) (q p2 : Nat) (hq : q = (Frm.row (good.take k)).length + 8) (hp : p2 = q + good[k].length) :
    ∃ fr to_ m pre mid post, Spot good k pre mid post ∧ pre.length = fr ∧ mid.length = m ∧ fr + m = to_ ∧ to_ ≤ p2 ∧ (inS = false → fr = q ∧ to_ = p2) ∧ (inS = true → to_ = q ∧ fr + 4 = q ∧ m = 4) := by
  cases inS
  · exact ⟨q, p2, good[k].length, _, _, _, spot_body good k hk hs hb, by rw [List.length_append, Frm.head_len]; omega, rfl, by omega, by omega, fun _ => ⟨rfl, rfl⟩, fun h => by cases h⟩
  · exact ⟨q - 4, q, 4, _, _, _, spot_sum good k hk hs hb, by simp [Frm.be_len]; omega, Frm.be_len _ _, by omega, by omega, (fun h => by cases h), fun _ => ⟨rfl, by omega, rfl⟩⟩

set_option maxRecDepth 100000 in
set_option maxHeartbeats 4000000 in
theorem turned_in (a : Option Addr) (na ca : Nat) (la : List (List Nat)) (which at_ : Int) (by_ : Nat) (inS : Bool) (w : World) (hA : InLists w a na ca la) (hby : by_ < 4294967296) :
    Calls Try.prog 8 #[.slice a na ca, .int .i64 which, .int .i64 at_, .int .u32 by_, .bool inS] w fun e w' => e = .returned (.bool true) ∧ Below w.heap.size w w' := by
  have HA := Lib.hid hA
  clear hA
  go_enter Try.func8, Try.ntmps8
  go_wp2_with fail
  with_reducible refine (row_out _ _ _ _ _ HA.out).mono ?_
  rintro e w1 ⟨A1, L1, c1, G1, n1, d1, E1, f1, gvs1, good1, rfl, hR1⟩
  have HR1 := Lib.hid hR1
  clear hR1
  have b1 := HR1.out.bel
  have l1 := HR1.out.lenB
  have m1 := HR1.out.cntB
  by_cases hn0 : n1 = 0
  · have q0 : ((n1 : Int) == 0) = true := by rw [hn0]; rfl
    clear hn0
    go_wp2_with fail
    with_reducible refine (known_any _).mono ?_
    rintro e w5 ⟨rfl, hb5⟩
    go_wp2
    go_ret
    exact ⟨rfl, b1.trans (hb5.mono b1.size)⟩
  have q0 : ((n1 : Int) == 0) = false := by rw [beq_eq_false_iff_ne]; omega
  by_cases hby0 : by_ = 0
  · have q1 : ((by_ : Int) == 0) = true := by rw [hby0]; rfl
    clear hby0
    go_wp2_with fail
    with_reducible refine (known_any _).mono ?_
    rintro e w5 ⟨rfl, hb5⟩
    go_wp2
    go_ret
    exact ⟨rfl, b1.trans (hb5.mono b1.size)⟩
  have q1 : ((by_ : Int) == 0) = false := by rw [beq_eq_false_iff_ne]; omega
  obtain ⟨k, hk, hke⟩ := mod_ex which n1 (by omega) (by omega)
  go_wp2_with fail
  rw [hke]
  clear hke q0 q1
  have hkg : k < good1.length := by rw [HR1.out.cnt]; exact hk
  have hkv : k < gvs1.length := by rw [HR1.out.reads.1]; exact hkg
  obtain ⟨bb, off, rfl, hc⟩ := HR1.out.cells.2 (by omega)
  obtain ⟨be, oe, rfl, hce⟩ := HR1.out.ends.2 (by omega)
  have hck := hc k hk
  rw [List.getElem?_eq_getElem hkv] at hck
  obtain ⟨Ax, cx, hv, hbx, _⟩ := HR1.out.reads.2 k hkv hkg
  rw [hv] at hck
  have hek := hce k hk
  rw [endsOf_at good1 k hkg] at hek
  have hlen2 := row_take_len good1 k hkg
  have hle := row_take_le good1 (k + 1)
  rw [HR1.out.len] at hle
  rw [hlen2] at hek hle
  obtain ⟨q, hq⟩ : ∃ q, q = (Frm.row (good1.take k)).length + 8 := ⟨_, rfl⟩
  obtain ⟨p2, hp2⟩ : ∃ p2, p2 = q + good1[k].length := ⟨_, rfl⟩
  rw [← hq, ← hp2] at hek hle
  obtain ⟨fr, to_, m, pre, mid, post, hspot, hpl, hml, hto, htp, hS0, hS1⟩ := spot_ex good1 k hkg HR1.out.short HR1.out.small inS q p2 hq hp2
  have hw1 : IntKind.i64.wrap ((p2 : Int) - (good1[k].length : Int)) = (q : Int) := by rw [IntWalk.i64_in _ (by omega)]; omega
  generalize good1[k].length = xl at *
  have HCK := Lib.hid hck
  have HEK := Lib.hid hek
  have HSPOT := Lib.hid hspot
  have HPL := Lib.hid hpl
  have HML := Lib.hid hml
  have HQ := Lib.hid hq
  have HP2 := Lib.hid hp2
  have HE := Lib.hid hce
  clear hc hce hv hbx hlen2 hspot hpl hml hq hp2
  have i1 : (k : Int) < (n1 : Int) := by omega
  have hp8 : p2 ≤ 8008 := by omega
  rcases HR1.out.own.form with ⟨hnil, _⟩ | ⟨g, cc, cur, hvv, hgB, hgL, hgc, hgm, hgs, hcur⟩
  · injection hnil with _ hL0
    omega
  injection hvv with hA1 hL1 hC1
  subst hA1 hC1
  have HGL := Lib.hid hgL
  have HGS := Lib.hid hgs
  have HCUR := Lib.hid hcur
  have HLEN := Lib.hid HR1.out.len
  have HGM := Lib.hid hgm
  have hc1L := HR1.out.capB.1
  have hd1 := HR1.out.capG.1
  have hd2 := HR1.out.capG.2.1
  unfold maxLen at hd2 hgm
  clear hgL hgs hcur hL1 hgc
  go_quiet (fail)
  obtain ⟨W, hW⟩ : ∃ W, W = w1.drewN nq := ⟨_, rfl⟩
  have bW : Below w.heap.size w W := by rw [hW]; exact below_drewN b1 nq
  have hckW : W.cell? ⟨bb, off + k, none⟩ = some (.slice Ax xl cx) := by rw [hW]; exact HCK.out
  have hekW : W.cell? ⟨be, oe + k, none⟩ = some (.int .i64 (p2 : Nat)) := by rw [hW]; exact HEK.out
  have hbelW : Below w1.heap.size w1 W := by rw [hW]; exact below_drewN (Below.refl _ _) nq
  have hLW : Lies W g 5 cur := by rw [hW]; exact HGL.out
  have honW : Only w1 g W := by rw [hW]; exact fun j _ _ => rfl
  have HLW := Lib.hid hLW
  rw [← hW]
  clear hW hLW hck hek hw1
  by_cases hm0 : m = 0
  · have hin : inS = false := by
      cases inS
      · rfl
      · have := (hS1 rfl).2.2; omega
    subst hin
    obtain ⟨rfl, rfl⟩ := hS0 rfl
    clear hS0 hS1
    have hd0 : ((fr : Int) == (to_ : Int)) = true := by rw [beq_iff_eq]; omega
    go_wp2_with fail
    with_reducible refine (known_any _).mono ?_
    rintro e w5 ⟨rfl, hb5⟩
    go_wp2
    go_ret
    exact ⟨rfl, bW.trans (hb5.mono bW.size)⟩
  have hm8 : m ≤ 8008 := by omega
  obtain ⟨f0, hf0, hfe⟩ := mod8_ex at_ m (by omega) (by omega)
  have hd0 : ((fr : Int) == (to_ : Int)) = false := by rw [beq_eq_false_iff_ne]; omega
  have hsub : (to_ : Int) - (fr : Int) = (m : Int) := by omega
  have htoL : to_ ≤ L1 := by omega
  cases inS
  case' false =>
    obtain ⟨rfl, rfl⟩ := hS0 rfl
    clear hS0 hS1
    go_wp2_with fail
  case' true =>
    obtain ⟨rfl, hfq, hm4⟩ := hS1 rfl
    clear hS0 hS1
    have hsub4 : (to_ : Int) - 4 = (fr : Int) := by omega
    clear hm4 hfq
    go_wp2_with fail
    clear hsub4
  all_goals
    rw [show 8 * (fr : Int) + (f0 : Int) = ((8 * fr + f0 : Nat) : Int) from by omega]
    obtain ⟨F, hF⟩ : ∃ F, F = 8 * fr + f0 := ⟨_, rfl⟩
    rw [← hF]
    clear hfe hsub hd0
    have HF := Lib.hid hF
    clear hF
    go_loopw [18, 19] (TuR w w1 g c1 pre mid post f0 by_) (fun _ i _ => 32 - (intOf i).toNat)
    case atStart =>
      refine ⟨0, mid, cur, by omega, by rw [HML.out]; omega, rfl, by simp [wasB, Nat.mod_one], ⟨HLW.out, HGS.out, rfl, HSPOT.out.small.2.1, ?_, by simp [Nat.mod_one]⟩, bW, honW⟩
      intro j hj
      rw [HSPOT.out.same] at hj ⊢
      exact HCUR.out j hj
    case round =>
      clear HLW hckW hekW bW hbelW honW
      obtain ⟨i, mi, cu, hi32, hfk, rfl, rfl, hP, hbel, hon⟩ := hrel
      have HON := Lib.hid hon
      clear hon
      rw [HML.out] at hfk
      have hlz : (pre ++ (mi ++ post)).length = L1 := by
        have h1 := congrArg List.length HSPOT.out.same
        rw [HLEN.out] at h1
        rw [← h1]
        simp [hP.len]
      have HLZ := Lib.hid hlz
      have HP := Lib.hid hP
      have HBEL := Lib.hid hbel
      clear hlz hP
      have hF8 : F = 8 * fr + f0 := HF.out
      by_cases hlt : i < 32 ∧ f0 + i < 8 * m
      · obtain ⟨hlt1, hlt2⟩ := hlt
        have hdd : decide ((F : Int) + (i : Int) < 8 * (to_ : Int)) = true := by simp; omega
        have hFL : F + i < 8 * L1 := by omega
        by_cases ho : by_ / 2 ^ i % 2 = 1
        · have hb := bit_true by_ i hby ho
          have hqq : (F + i) / 8 = pre.length + (f0 + i) / 8 := by rw [HPL.out]; omega
          have hss : (F + i) % 8 = (f0 + i) % 8 := by omega
          have hck := (HP.out.lies.cell ((F + i) / 8)).trans (HP.out.cell ((F + i) / 8) (by rw [HLZ.out]; omega))
          rw [hqq, getD_mid _ _ _ _ (by rw [HP.out.len, HML.out]; omega), ← hqq] at hck
          have hfr := HP.out.lies.free ((F + i) / 8)
          generalize hy : mi.getD ((f0 + i) / 8) 0 = y at *
          have HY := Lib.hid hy
          have HO := Lib.hid ho
          have HQQ := Lib.hid hqq
          have HSS := Lib.hid hss
          clear hy ho hqq hss hF8
          go_wp2
          exact ⟨⟨i + 1, _, _, by omega, by rw [HML.out]; omega, by go_num, by rw [wasB_hit by_ i HO.out], HP.out.hit (by rw [HML.out]; exact hlt2) (by rw [HLZ.out]; exact hc1L) HO.out HY.out HQQ.out HSS.out, HBEL.out.setCell hgB _, HON.out.set _ _⟩, by simp [intOf]; omega⟩
        · have hb := bit_false by_ i hby ho
          have HO := Lib.hid ho
          clear ho hF8
          go_wp2
          exact ⟨⟨i + 1, mi, cu, by omega, by rw [HML.out]; omega, by go_num, by rw [wasB, wasB, mod_miss by_ i HO.out], by rw [mod_miss by_ i HO.out]; exact HP.out, HBEL.out, HON.out⟩, by simp [intOf]; omega⟩
      · have hFL : F + i ≤ 8 * L1 := by omega
        have hBz := HP.out.bys HSPOT.out.small.1 HSPOT.out.small.2.2 HLZ.out
        have HBZ := Lib.hid hBz
        clear hBz
        have hbw1 : Below w1.heap.size w1 w1 := Below.refl _ _
        have hvlt : by_ % 2 ^ i < 4294967296 := Nat.lt_of_le_of_lt (Nat.mod_le _ _) hby
        have hshl : (by_ % 2 ^ i) <<< f0 < 2 ^ (8 * mid.length) := by
          rw [HML.out, Nat.shiftLeft_eq]
          have h1 : by_ % 2 ^ i < 2 ^ i := Nat.mod_lt _ (Nat.two_pow_pos i)
          have h2 : by_ % 2 ^ i * 2 ^ f0 < 2 ^ i * 2 ^ f0 := Nat.mul_lt_mul_of_pos_right h1 (Nat.two_pow_pos f0)
          rw [← Nat.pow_add] at h2
          exact Nat.lt_of_lt_of_le h2 (Nat.pow_le_pow_right (by decide) (by omega))
        have hhurt := HSPOT.out.hurt mi (by_ % 2 ^ i) f0 HP.out.len HP.out.small (by rw [HML.out]; omega) hvlt hshl HP.out.num
        have hsame : by_ % 2 ^ i = 0 → pre ++ (mi ++ post) = Frm.row good1 := fun h0 => by
          have h1 := HP.out.num
          rw [h0, Nat.zero_shiftLeft, Nat.xor_zero] at h1
          rw [Frm.num_inj mi mid HP.out.len HP.out.small HSPOT.out.small.2.1 h1]
          exact HSPOT.out.same
        have hwas : wasB by_ i = decide (by_ % 2 ^ i ≠ 0) := rfl
        have HHU := Lib.hid hhurt
        have HSA := Lib.hid hsame
        have HWA := Lib.hid hwas
        clear hhurt hsame hwas hshl hvlt hbw1
        by_cases hlt1 : i < 32
        case' pos =>
          have hdd : decide ((F : Int) + (i : Int) < 8 * (to_ : Int)) = false := by simp; omega
          clear hlt hF8
          go_wp2_with fail
        case' neg =>
          clear hlt hF8
          go_wp2_with fail
        all_goals
          with_reducible refine (all_any _ _ _ _ _ HBZ.out hc1L HGM.out (by omega)).mono ?_
          rintro e w5 ⟨v5, vs5, ls5, r5, hS5, ho5, rfl, hR5, hOA5, hb5⟩
          obtain ⟨A5, c5, rfl, hC5, hc5, hm5, hz5⟩ := hR5.slice
          have HC5 := Lib.hid hC5
          have hLG : LRow w5 w.heap.size (.slice (some ⟨bb, off, none⟩) n1 d1) gvs1 := owns_below (HON.out.owns HGL.out (by decide) HR1.out.rowG) hb5
          have hIE : IRow w5 w.heap.size (.slice (some ⟨be, oe, none⟩) n1 f1) (endsOf good1) := owns_below (HON.out.owns HGL.out (by decide) HR1.out.rowE) hb5
          have hb05 := HBEL.out.trans (hb5.mono HBEL.out.size)
          have hDG := HR1.out.reads0.below hb05
          obtain ⟨Ag, cg, hvg, hCG, _⟩ := hLG.slice
          injection hvg with e1 e2 e3
          subst e1 e3
          rw [← e2] at hCG
          obtain ⟨Ae, ce, hve, hNE, _⟩ := hIE.slice
          injection hve with e4 e5 e6
          subst e4 e6
          rw [← e5] at hNE
          have HCG := Lib.hid hCG
          have HDG := Lib.hid hDG
          have HNE := Lib.hid hNE
          clear hC5 hLG hIE hCG hDG hNE e2 e5 hR5
          by_cases hv0 : by_ % 2 ^ i = 0
          · have hw0 : wasB by_ i = false := by rw [HWA.out, hv0]; rfl
            rw [hw0]
            obtain ⟨hls, hrr⟩ := hS5.uniq ho5 Frm.opn_nil HR1.out.short (by rw [HSA.out hv0, List.append_nil])
            rw [hls] at hOA5
            rw [hrr, Frm.endOf_nil]
            have HD5 := Lib.hid hOA5.reads
            clear hw0 hls hrr hOA5 hS5 ho5 hv0 HHU HSA HWA
            go_wp2_with fail
            with_reducible refine (sameLists_any _ _ _ _ _ _ _ _ _ _ _ HC5.out HCG.out HD5.out HDG.out (by omega) (small_len _ (by omega))).mono ?_
            rintro e w6 ⟨rfl, q, rfl⟩
            rw [sameLB_self]
            go_wp2_with fail
            with_reducible refine (known_any _).mono ?_
            rintro e w9 ⟨rfl, hb9⟩
            go_wp2
            go_ret
            exact ⟨rfl, hb05.trans ((below_drewN (Below.refl _ _) q : Below w.heap.size w5 (w5.drewN q)).trans (hb9.mono hb05.size))⟩
          · have hw0 : wasB by_ i = true := by rw [HWA.out]; simpa using hv0
            rw [hw0]
            obtain ⟨r, hr1, hr2, hr3⟩ := HHU.out hv0
            obtain ⟨hls, hrr⟩ := hS5.uniq ho5 hr2 (fun x hx => HR1.out.short x (List.mem_of_mem_take hx)) hr1
            rw [hls] at hOA5 ⊢
            rw [hrr, hr3]
            have HD5 := Lib.hid hOA5.reads
            have HCK5 := Lib.hid (HCG.out.front k (by omega))
            have HDK5 := Lib.hid (HDG.out.take k)
            clear hw0 hls hrr hOA5 hS5 ho5 hv0 HHU HSA HWA hr1 hr2 hr3 HCG HDG
            have ik : (k : Int) ≤ (d1 : Int) := by omega
            by_cases hk0 : k = 0
            · have hdk : decide (0 < k) = false := by simp; omega
              rw [show (Frm.row (good1.take k)).length = 0 from by rw [hk0]; rfl, show ((0 : Nat) : Int) = 0 from rfl]
              clear hk0
              go_wp2_with fail
              with_reducible refine (sameLists_any _ _ _ _ _ _ _ _ _ _ _ HC5.out HCK5.out HD5.out HDK5.out (by omega) (small_len _ (by omega))).mono ?_
              rintro e w6 ⟨rfl, q, rfl⟩
              rw [sameLB_self]
              go_wp2_with fail
              with_reducible refine (known_any _).mono ?_
              rintro e w9 ⟨rfl, hb9⟩
              go_wp2
              go_ret
              exact ⟨rfl, hb05.trans ((below_drewN (Below.refl _ _) q : Below w.heap.size w5 (w5.drewN q)).trans (hb9.mono hb05.size))⟩
            · have hdk : decide (0 < k) = true := by simp; omega
              obtain ⟨k1, hk1⟩ : ∃ k1, k = k1 + 1 := ⟨k - 1, by omega⟩
              have hke : (k : Int) - 1 = (k1 : Int) := by omega
              have hk1n : (k1 : Int) < (n1 : Int) := by omega
              obtain ⟨be', oe', heq, hce⟩ := HNE.out.2 (by omega)
              injection heq with heq
              injection heq with g1 g2 _
              subst g1 g2
              have hc1 := hce k1 (by omega)
              rw [endsOf_at good1 k1 (by omega), ← hk1] at hc1
              clear hce hk1 hk0
              generalize (Frm.row (good1.take k)).length = pk at *
              go_wp2_with fail
              with_reducible refine (sameLists_any _ _ _ _ _ _ _ _ _ _ _ HC5.out HCK5.out HD5.out HDK5.out (by omega) (small_len _ (by omega))).mono ?_
              rintro e w6 ⟨rfl, q, rfl⟩
              rw [sameLB_self]
              go_wp2_with fail
              with_reducible refine (known_any _).mono ?_
              rintro e w9 ⟨rfl, hb9⟩
              go_wp2
              go_ret
              exact ⟨rfl, hb05.trans ((below_drewN (Below.refl _ _) q : Below w.heap.size w5 (w5.drewN q)).trans (hb9.mono hb05.size))⟩

theorem frameTurned_walk (a : Option Addr) (na ca : Nat) (la : List (List Nat)) (which at_ by_ : Int) (inS : Bool) (w : World) (hA : InLists w a na ca la) (_h1 : (Lit.int .i64 which).wf = true) (_h2 : (Lit.int .i64 at_).wf = true) (h3 : (Lit.int .u32 by_).wf = true) :
    Calls Try.prog 8 #[.slice a na ca, .int .i64 which, .int .i64 at_, .int .u32 by_, .bool inS] w fun e w' => e = .returned (.bool true) ∧ Below w.heap.size w w' := by
  have b3 := bounds_u32 h3
  obtain ⟨k3, rfl⟩ := Int.eq_ofNat_of_zero_le b3.1
  exact turned_in a na ca la which at_ k3 inS w hA (by omega)

end Go.Proofs.Ytaehagejmeimiaa
