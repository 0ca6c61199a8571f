/-
  The contract of the document's own Get: for every slice of bytes, at every place.
-/
import Derived.Test.YtaehagejmeimiaaRefPut
namespace Go.Proofs.Ytaehagejmeimiaa
open Go.RowKit

set_option maxHeartbeats 400000 in
theorem refGet_arg (a : Option Addr) (n cap : Nat) (l : List Nat) (i : Int) (w : World) (hB : Bys w a n l) (hm : n ≤ maxLen) (hi : i < 0 ∨ (n : Int) < i) :
    Calls Try.prog 21 #[.slice a n cap, .int .i64 i] w (GetPost w l i) := by
  have HL := Lib.hid hB.1
  clear hB
  unfold maxLen at hm
  rcases hi with hi | hi
  · have hd : decide (i < 0) = true := by simpa using hi
    go_enter Try.func21, Try.ntmps21
    go_wp2
    go_ret3
    exact getPost_mk (getS_low l i hi) rfl rfl rfl (Own.nil _ _) (Below.refl _ _)
  · have hd : decide (i < 0) = false := by simp; omega
    go_enter Try.func21, Try.ntmps21
    go_wp2
    go_ret3
    exact getPost_mk (getS_high l i (by rw [HL.out]; exact hi)) rfl rfl rfl (Own.nil _ _) (Below.refl _ _)

set_option maxHeartbeats 400000 in
theorem refGet_end (a : Option Addr) (n cap : Nat) (l : List Nat) (w : World) (hB : Bys w a n l) :
    Calls Try.prog 21 #[.slice a n cap, .int .i64 n] w (GetPost w l n) := by
  have HL := Lib.hid hB.1
  clear hB
  go_enter Try.func21, Try.ntmps21
  go_wp2
  go_ret3
  exact getPost_mk (getS_empty l n (by rw [HL.out]; exact Nat.le_refl _) (.inl HL.out.symm)) rfl rfl rfl (Own.nil _ _) (Below.refl _ _)

/-- The slice that would be the body. -/
def RgR (W : World) (nn : Nat) (body : List Nat) (x : Value) (wc : World) : Prop := ∃ b o c, x = .slice (some ⟨b, o, none⟩) nn c ∧ Bys W (some ⟨b, o, none⟩) nn body ∧ W = wc

theorem lenOf_drop (l : List Nat) (k : Nat) : Frm.lenOf (l.drop k) = l.getD (k + 2) 0 * 256 + l.getD (k + 3) 0 := by
  simp [Frm.lenOf, List.getD]

set_option maxRecDepth 100000 in
set_option maxHeartbeats 2000000 in
theorem refGet_in (b off n cap k : Nat) (l : List Nat) (w : World) (hB : Bys w (some ⟨b, off, none⟩) n l) (hk : k < n) (hcap : n ≤ cap) (hm : cap ≤ maxLen) (hn : n ≤ 100000) :
    Calls Try.prog 21 #[.slice (some ⟨b, off, none⟩) n cap, .int .i64 k] w (GetPost w l k) := by
  have hlen := hB.1
  obtain ⟨b', off', e, hc⟩ := hB.2.2 (by omega)
  injection e with e
  injection e with e1 e2 _
  subst e1 e2
  have hck := hc k hk
  have HL := Lib.hid hlen
  have HB := Lib.hid hB
  have HM := Lib.hid hm
  have HC := Lib.hid hc
  clear hc hB hlen
  unfold maxLen at hm
  have d0 : decide ((k : Int) < 0) = false := by simp
  have d1 : ((k : Int) == (n : Int)) = false := by rw [beq_eq_false_iff_ne]; omega
  have hge0 := getS_empty l k (by rw [HL.out]; omega)
  have hge1 := getS_bad l k (by rw [HL.out]; omega)
  have hge2 := fun x => getS_some l x k (by rw [HL.out]; omega)
  generalize hy : l.getD k 0 = y at *
  have G0 := Lib.hid hge0
  have G1 := Lib.hid hge1
  have G2 := Lib.hid hge2
  clear hge0 hge1 hge2 hy
  by_cases hy0 : y = 0
  · subst hy0
    go_enter Try.func21, Try.ntmps21
    go_wp2
    go_ret3
    exact getPost_mk (G0.out (.inr trivial)) rfl rfl rfl (Own.nil _ _) (Below.refl _ _)
  · have d2 : ((y : Int) == 0) = false := by rw [beq_eq_false_iff_ne]; omega
    obtain ⟨left, hleft⟩ : ∃ left, left = n - k := ⟨_, rfl⟩
    have hl1 : (n : Int) - (k : Int) = (left : Int) := by omega
    have hdl : (l.drop k).length = left := by rw [List.length_drop, HL.out, hleft]
    have HDL := Lib.hid hdl
    clear hdl
    by_cases h8 : left < 8
    · have HO := Lib.hid (Frm.opn_short (l.drop k) (by rw [HDL.out]; exact h8))
      go_enter Try.func21, Try.ntmps21
      go_wp2
      go_ret3
      exact getPost_mk (G1.out hy0 HO.out) rfl rfl rfl (Own.nil _ _) (Below.refl _ _)
    · have hc2 := HC.out (k + 2) (by omega)
      have hc3 := HC.out (k + 3) (by omega)
      have hlo := lenOf_drop l k
      have hy2 := getD_lt l HB.out.2.1 (k + 2)
      have hy3 := getD_lt l HB.out.2.1 (k + 3)
      generalize l.getD (k + 2) 0 = y2 at *
      generalize l.getD (k + 3) 0 = y3 at *
      obtain ⟨k2, hk2⟩ : ∃ k2, k2 = k + 2 := ⟨_, rfl⟩
      obtain ⟨k3, hk3⟩ : ∃ k3, k3 = k + 3 := ⟨_, rfl⟩
      obtain ⟨z2, hz2⟩ : ∃ z2, z2 = y2 * 256 := ⟨_, rfl⟩
      obtain ⟨nn, hnn⟩ : ∃ nn, nn = z2 + y3 := ⟨_, rfl⟩
      rw [← hz2, ← hnn] at hlo
      rw [← hk2] at hc2
      rw [← hk3] at hc3
      have w1 : IntKind.i64.wrap ((k : Int) + 2) = (k2 : Int) := by rw [IntWalk.i64_in _ (by omega)]; omega
      have w2 : IntKind.i64.wrap ((k : Int) + 3) = (k3 : Int) := by rw [IntWalk.i64_in _ (by omega)]; omega
      have w3 : IntKind.i64.wrap ((y2 : Int) * 256) = (z2 : Int) := by rw [IntWalk.i64_in _ (by omega)]; omega
      have w4 : IntKind.i64.wrap ((z2 : Int) + (y3 : Int)) = (nn : Int) := by rw [IntWalk.i64_in _ (by omega)]; omega
      have i1 : (k2 : Int) < (n : Int) := by omega
      have i2 : (k3 : Int) < (n : Int) := by omega
      have hnb : nn < 65536 := by omega
      have HLO := Lib.hid hlo
      have dl : decide ((left : Int) < 8) = false := by simp; omega
      clear hlo hleft hk2 hk3 hz2 hnn
      go_enter Try.func21, Try.ntmps21
      go_wp2_with fail
      go_quiet (fail)
      obtain ⟨W, hW⟩ : ∃ W, W = w.drewN nq := ⟨_, rfl⟩
      have hBW : Bys W (some ⟨b, off, none⟩) n l := by rw [hW]; exact HB.out
      have bW : Below w.heap.size w W := by rw [hW]; exact below_drewN (Below.refl _ _) nq
      rw [← hW]
      have HBW := Lib.hid hBW
      clear hW hBW hck hc2 hc3 w1 w2 w3 w4 i1 i2
      by_cases h9 : nn + 8 ≤ left
      · have d9 : decide ((left : Int) - 8 < (nn : Int)) = false := by simp; omega
        have hkn : k + 8 + nn ≤ n := by have := HDL.out; rw [List.length_drop, HL.out] at this; omega
        have hbody : Bys W (some ⟨b, off + (k + 8), none⟩) nn ((l.drop (k + 8)).take nn) := (HBW.out.cut (k + 8) (by omega)).front nn (by omega)
        have hbl : ((l.drop (k + 8)).take nn).length = nn := hbody.1
        generalize hbd : (l.drop (k + 8)).take nn = body at *
        have HBD := Lib.hid hbd
        have HBO := Lib.hid hbody
        have HBL := Lib.hid hbl
        clear hbd hbody hbl
        go_upto_region 11 with fail
        go_cut [9] (RgR W nn body)
        case first =>
          by_cases hcc : k + 8 = cap
          · go_wp2_with fail
            go_meet
            have hn0 : nn = 0 := by omega
            exact ⟨b, off, cap - (k + 8), by rw [Nat.add_sub_cancel_left], ⟨HBL.out, HBO.out.2.1, fun h => by omega⟩, rfl⟩
          · go_wp2_with fail
            go_meet
            exact ⟨b, off + (k + 8), cap - (k + 8), by rw [Nat.add_sub_cancel_left], HBO.out, rfl⟩
        case rest =>
          obtain ⟨b2, o2, c2, rfl, hB2, rfl⟩ := hcut
          have HB2 := Lib.hid hB2
          clear hB2
          by_cases h2000 : nn ≤ 2000
          · go_wp2_with fail
            with_reducible refine (refPut_any _ _ _ _ _ HB2.out ?hx h2000).mono ?_
            case hx => intro h; cases h
            rintro e w5 ⟨v5, rfl, hO5, hb5⟩
            obtain ⟨A5, c5, rfl, hB5, hc5, hm5, hA5⟩ := hO5.slice
            rw [Frm.frm_len, HBL.out] at hB5 hc5 ⊢
            obtain ⟨k8, hk8⟩ : ∃ k8, k8 = k + 8 := ⟨_, rfl⟩
            obtain ⟨e8, he8⟩ : ∃ e8, e8 = k8 + nn := ⟨_, rfl⟩
            have hseg : Bys w5 (some ⟨b, off + k, none⟩) (e8 - k) ((l.drop k).take (8 + nn)) := by
              rw [show e8 - k = 8 + nn by omega]
              exact ((HBW.out.below hb5).cut k (by omega)).front (8 + nn) (by omega)
            have hopn : Frm.opn (l.drop k) = if (Frm.frm body) = (l.drop k).take (8 + nn) then some body else none := by
              unfold Frm.opn
              rw [HLO.out, HDL.out, List.drop_drop, HBD.out]
              by_cases hq : Frm.frm body = (l.drop k).take (8 + nn)
              · rw [if_pos hq, if_pos ⟨h2000, by omega, hq.symm⟩]
              · rw [if_neg hq, if_neg (fun hh => hq hh.2.2.symm)]
            generalize (l.drop k).take (8 + nn) = seg at *
            have r1 : ∀ t, (convert 22 9 (.slice A5 (nn + 8) c5)).run Try.prog (w5.drewN t) = .ok (.string (str (Frm.frm body))) (w5.drewN t) := fun t => run_str (hB5.drewN t) c5
            have r2 : ∀ t, (convert 22 9 (.slice (some ⟨b, off + k, none⟩) (e8 - k) (cap - k))).run Try.prog (w5.drewN t) = .ok (.string (str seg)) (w5.drewN t) := fun t => run_str (hseg.drewN t) (cap - k)
            have r3 := str_eq (Frm.frm body) seg hB5.2.1 hseg.2.1
            have w1 : IntKind.i64.wrap ((k : Int) + 8) = (k8 : Int) := by rw [IntWalk.i64_in _ (by omega)]; omega
            have w2 : IntKind.i64.wrap ((k8 : Int) + (nn : Int)) = (e8 : Int) := by rw [IntWalk.i64_in _ (by omega)]; omega
            have i1 : (k : Int) ≤ (e8 : Int) := by omega
            have i2 : (e8 : Int) ≤ (cap : Int) := by omega
            have i3 : (k : Int) < (cap : Int) := by omega
            have i4 : ¬ cap = k := by omega
            have HOPN := Lib.hid hopn
            clear hopn hseg hB5 hO5 hk8 he8
            go_wp2_with fail
            by_cases hq : Frm.frm body = seg
            · rw [show sameB (Frm.frm body) seg = true from by rw [hq]; exact sameB_self _] at r3
              have ho := HOPN.out
              rw [if_pos hq] at ho
              have HO := Lib.hid ho
              have hb05 := bW.trans (hb5.mono bW.size)
              clear ho HOPN hq
              go_quiet (fail)
              have HB25 := Lib.hid ((HB2.out.below hb5).drewN nq)
              go_wp2_with fail
              with_reducible refine (copy_any _ _ _ _ _ HB25.out ?hx (by omega)).mono ?_
              case hx => intro h; cases h
              rintro e w7 ⟨v7, rfl, hO7, hb7⟩
              have HO7 := Lib.hid hO7
              clear hO7 w1 w2
              go_wp2
              go_ret3
              have hbd := below_drewN hb05 nq
              exact getPost_mk (G2.out body hy0 HO.out) rfl (by rw [HBL.out]; omega) rfl (HO7.out.mono hbd.size) (hbd.trans (hb7.mono hbd.size))
            · rw [sameB_ne hq] at r3
              have ho := HOPN.out
              rw [if_neg hq] at ho
              have HO := Lib.hid ho
              clear ho HOPN hq
              go_quiet (fail)
              go_wp2
              go_ret3
              exact getPost_mk (G1.out hy0 HO.out) rfl rfl rfl (Own.nil _ _) (below_drewN (bW.trans (hb5.mono bW.size)) _)
          · have ho : Frm.opn (l.drop k) = none := by
              unfold Frm.opn
              rw [HLO.out, if_neg (by omega)]
            have HO := Lib.hid ho
            clear ho
            go_wp2_with fail
            with_reducible refine (refPut_long _ _ _ _ (by omega) (small_len _ (by omega))).mono ?_
            rintro e w5 ⟨rfl, rfl⟩
            go_wp2_with fail
            go_quiet (fail)
            go_wp2
            go_ret3
            exact getPost_mk (G1.out hy0 HO.out) rfl rfl rfl (Own.nil _ _) (below_drewN bW _)
      · have d9 : decide ((left : Int) - 8 < (nn : Int)) = true := by simp; omega
        have ho : Frm.opn (l.drop k) = none := by
          unfold Frm.opn
          rw [HLO.out, HDL.out, if_neg (by omega)]
        have HO := Lib.hid ho
        clear ho
        go_wp2
        go_ret3
        exact getPost_mk (G1.out hy0 HO.out) rfl rfl rfl (Own.nil _ _) bW

theorem refGet_any (a : Option Addr) (n cap : Nat) (l : List Nat) (i : Int) (w : World) (hB : Bys w a n l) (hcap : n ≤ cap) (hm : cap ≤ maxLen) (hn : n ≤ 100000) :
    Calls Try.prog 21 #[.slice a n cap, .int .i64 i] w (GetPost w l i) := by
  by_cases h1 : i < 0 ∨ (n : Int) < i
  · exact refGet_arg a n cap l i w hB (by omega) h1
  · obtain ⟨k, rfl⟩ := Int.eq_ofNat_of_zero_le (show 0 ≤ i by omega)
    by_cases h2 : k = n
    · subst h2
      exact refGet_end a k cap l w hB
    · obtain ⟨b, off, rfl, _⟩ := hB.2.2 (by omega)
      exact refGet_in b off n cap k l w hB (by omega) hcap hm hn

end Go.Proofs.Ytaehagejmeimiaa
