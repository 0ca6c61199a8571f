/-
  The contracts of the document's next and Row: for all entries.
-/
import Derived.Test.YtccpmalefdnhdaaRChk
import Derived.Test.YtccpmalefdnhdaaERow
namespace Go.Proofs.Ytccpmalefdnhdaa
open Go.RowKit
set_option linter.unusedSimpArgs false
set_option linter.unusedVariables false

set_option maxRecDepth 100000 in
set_option maxHeartbeats 1000000 in
theorem next_any (a b : Entry) (K1 D1 K2 D2 : Value) (w : World) (hb0 : b.lsn ≠ 0) (hbb : Ent.Bnd b) :
    Calls Try.prog 48 #[.agg (evs a K1 D1), .agg (evs b K2 D2)] w fun x w' => x = .returned (.bool (decide (Ent.nxt a b))) ∧ Below w.heap.size w w' := by
  have b2 := fun o p => below2 w o p
  obtain ⟨x, hx⟩ : ∃ x, a.lsn = x := ⟨_, rfl⟩
  obtain ⟨y, hy⟩ : ∃ y, b.lsn = y := ⟨_, rfl⟩
  obtain ⟨u, hu⟩ : ∃ u, a.epoch = u := ⟨_, rfl⟩
  obtain ⟨v, hv⟩ : ∃ v, b.epoch = v := ⟨_, rfl⟩
  obtain ⟨k, hk⟩ : ∃ k, b.kind = k := ⟨_, rfl⟩
  have hlt := hbb.lsn
  have hn : Ent.nxt a b ↔ (y = x + 1 ∧ (u = v ∨ (k = 1 ∧ u < v))) := by unfold Ent.nxt; rw [hx, hy, hu, hv, hk]
  rw [hy] at hb0 hlt
  have HN := Lib.hid hn
  clear hn
  unfold evs
  rw [hx, hy, hu, hv, hk]
  clear hx hy hu hv hk hbb
  have hy0 : (((y : Nat) : Int) == 0) = false := by rw [beq_eq_false_iff_ne]; omega
  obtain ⟨p, hp⟩ : ∃ p, y = p + 1 := ⟨y - 1, by omega⟩
  have hs : IntKind.u64.wrap ((y : Int) - 1) = ((p : Nat) : Int) := by rw [IntKind.wrap_u64]; omega
  have hpl : p < 18446744073709551615 := by omega
  have HP := Lib.hid hp
  clear hp
  by_cases h1 : p = x
  · subst h1
    have g1 : (((p : Nat) : Int) != ((p : Nat) : Int)) = false := by simp
    by_cases h2 : u = v
    · subst h2
      have hd : decide (Ent.nxt a b) = true := by rw [decide_eq_true_iff, HN.out]; exact ⟨HP.out, .inl rfl⟩
      rw [hd]
      go_enter Try.func48, Try.ntmps48
      go_wp2
      go_ret
      exact ⟨rfl, b2 _ _⟩
    · have h2b : (((u : Nat) : Int) == ((v : Nat) : Int)) = false := by rw [beq_eq_false_iff_ne]; omega
      by_cases h3 : k = 1
      · subst h3
        have hd : decide (Ent.nxt a b) = decide (u < v) := by rw [decide_eq_decide, HN.out]; constructor; rintro ⟨_, h | h⟩; omega; exact h.2; intro h; exact ⟨HP.out, .inr ⟨rfl, h⟩⟩
        rw [hd]
        go_enter Try.func48, Try.ntmps48
        go_wp2
        go_ret
        exact ⟨ret_bool (by first | rfl | (rw [Bool.eq_iff_iff]; simp)), b2 _ _⟩
      · have h3b : (k == 1) = false := by rw [beq_eq_false_iff_ne]; omega
        have hd : decide (Ent.nxt a b) = false := by rw [decide_eq_false_iff_not, HN.out]; rintro ⟨_, h | h⟩; omega; exact h3 h.1
        rw [hd]
        go_enter Try.func48, Try.ntmps48
        go_wp2
        go_ret
        exact ⟨rfl, b2 _ _⟩
  · have hd : decide (Ent.nxt a b) = false := by rw [decide_eq_false_iff_not, HN.out]; have := HP.out; exact fun h => h1 (by omega)
    rw [hd]
    have hs2 : (((p : Nat) : Int) != ((x : Nat) : Int)) = true := by rw [bne_iff_ne]; omega
    have hs3 : (((p : Nat) : Int) == ((x : Nat) : Int)) = false := by rw [beq_eq_false_iff_ne]; omega
    go_enter Try.func48, Try.ntmps48
    go_wp2
    go_ret
    exact ⟨rfl, b2 _ _⟩

def RfRowPost (w : World) (es : List Entry) (x : Ending) (w' : World) : Prop :=
  ∃ m, Ent.RowIs es m ∧ x = .returned (.tuple #[.int .i64 (m : Nat), .int .i64 (Ent.rowE es m : Nat)]) ∧ Below w.heap.size w w'

set_option maxRecDepth 100000 in
set_option maxHeartbeats 8000000 in
theorem refRow_any (a : Option Addr) (n cap : Nat) (es : List Entry) (w : World) (hE : Ents w a n es) (hn : n ≤ maxLen) :
    Calls Try.prog 27 #[.slice a n cap] w (RfRowPost w es) := by
  unfold maxLen at hn
  have hlen := hE.1
  have HE := Lib.hid hE
  have HLEN := Lib.hid hlen
  clear hE hlen
  go_enter Try.func27, Try.ntmps27
  go_wp2_with fail
  go_loopw [4] (RowR w n es) (fun i _ => n - (intOf i).toNat)
  case atStart => exact ⟨0, by omega, rfl, fun j h => by omega, Below.refl _ _⟩
  case round =>
    obtain ⟨k, hk, rfl, hall, hbel⟩ := hrel
    have HALL := Lib.hid hall
    have HBE := Lib.hid hbel
    clear hall hbel
    by_cases hlt : k < n
    · obtain ⟨b, off, rfl, hat⟩ := HE.out.2 (by omega)
      have hkl : k < es.length := by rw [HLEN.out]; exact hlt
      obtain ⟨A1, A2, c1, c2, hV, hrg⟩ := (hat k hkl).below HBE.out
      have hprev : ∀ h0 : 0 < k, At11 wr b (off + (k - 1) * 11) (es[k - 1]'(by omega)) := fun h0 => (hat (k - 1) (by omega)).below HBE.out
      have HPREV := Lib.hid hprev
      have HV := Lib.hid hV
      have HRG := Lib.hid hrg
      obtain ⟨e0, e1, e2, e3, e4, e5, e6, e7, e8, e9, e10⟩ := range_cells hrg
      have HNG := Lib.hid (not_good_ok hkl)
      have HNG2 := Lib.hid (fun h0 => not_good_nxt hkl h0)
      have HGD := Lib.hid (good_of hkl)
      have HOK2 := Lib.hid (fun (h : Ent.ok (es[k]'hkl) = true) => ((Ent.ok_iff (es[k]'hkl)).1 h).lsn)
      clear hat hprev hV hrg
      generalize he : es[k]'hkl = e at *
      have cc := refCheck_any e A1 A2 c1 c2 wr HV.out
      unfold ChkPost at cc
      obtain ⟨n1, hn1⟩ : ∃ n, e.key.length = n := ⟨_, rfl⟩
      obtain ⟨n2, hn2⟩ : ∃ n, e.data.length = n := ⟨_, rfl⟩
      rw [hn1] at e9 HRG cc
      rw [hn2] at e10 HRG cc
      have hi1 : (k : Int) < (n : Int) := by omega
      clear he hn1 hn2
      by_cases hok : Ent.ok e = true
      · rw [show chkN e = 0 from by unfold chkN; rw [if_pos hok]] at cc
        have C1 := Lib.hid cc
        clear cc
        go_wp2_with fail
        with_reducible refine C1.out.mono ?_
        rintro x w9 ⟨rfl, hb9⟩
        clear e0 e1 e2 e3 e4 e5 e6 e7 e8 e9 e10
        have BB9 := Lib.hid (HBE.out.trans (hb9.mono HBE.out.size))
        by_cases hk0 : k = 0
        · have hd0 : decide (0 < k) = false := by simp; omega
          have hd0' : decide ((0 : Int) < (k : Int)) = false := by rw [decide_eq_false_iff_not]; omega
          have hgood := HGD.out hok (fun h0 => by omega)
          have hnext : ∀ j, j < k + 1 → Ent.good es j := fun j hj => by
            have : j = k := by omega
            subst this; exact hgood
          have HNEXT := Lib.hid hnext
          clear hgood hnext hk0 hb9
          go_wp2_with fail
          go_quiet (fail)
          go_wp2
          go_roundw
          case rel => exact ⟨k + 1, by omega, by go_num, HNEXT.out, below_drewN BB9.out _⟩
          case measure => simp [intOf]; omega
        · obtain ⟨q, hkq⟩ : ∃ q, k = q + 1 := ⟨k - 1, by omega⟩
          have hd0 : decide (0 < k) = true := by simp; omega
          have hk1 : k - 1 = q := by omega
          have hq1 : IntKind.i64.wrap ((k : Int) - 1) = ((q : Nat) : Int) := by rw [IntWalk.i64_in _ (by omega)]; omega
          have hq2 : ((q : Nat) : Int) < (n : Int) := by omega
          have hpv := HPREV.out (by omega)
          have hn2' := HNG2.out (by omega)
          have hg2 := HGD.out hok
          obtain ⟨d, hd⟩ : ∃ d, es[k - 1]? = some d := ⟨_, List.getElem?_eq_getElem (by omega)⟩
          have hde : es[k - 1]'(by omega) = d := by rw [List.getElem?_eq_getElem (by omega)] at hd; injection hd
          rw [hde] at hpv hn2'
          rw [hk1] at hpv
          obtain ⟨D1, D2, d1, d2, hVd, hrd⟩ := hpv
          have CF := fun W => Lib.hid (next_any d e (.slice D1 d.key.length d1) (.slice D2 d.data.length d2) (.slice A1 n1 c1) (.slice A2 n2 c2) W (HOK2.out hok) HV.out.b)
          obtain ⟨m1, hm1⟩ : ∃ n, d.key.length = n := ⟨_, rfl⟩
          obtain ⟨m2, hm2⟩ : ∃ n, d.data.length = n := ⟨_, rfl⟩
          rw [hm1, hm2] at CF
          rw [hm1, hm2] at hrd
          have hc6 : ∀ W, Below w9.drew.heap.size w9.drew W → ((W.cell? ⟨b, off + k * 11, none⟩ = some (.int .i64 e.kind) ∧ W.cell? ⟨b, off + k * 11 + 1, none⟩ = some (.int .u64 (e.lsn : Nat)) ∧ W.cell? ⟨b, off + k * 11 + 2, none⟩ = some (.int .u32 (e.epoch : Nat)) ∧ W.cell? ⟨b, off + k * 11 + 3, none⟩ = some (.int .u32 (e.order : Nat)) ∧ W.cell? ⟨b, off + k * 11 + 4, none⟩ = some (.int .i64 e.step) ∧ W.cell? ⟨b, off + k * 11 + 5, none⟩ = some (.bool e.undo) ∧ W.cell? ⟨b, off + k * 11 + 6, none⟩ = some (.int .i64 e.tri) ∧ W.cell? ⟨b, off + k * 11 + 7, none⟩ = some (.int .i64 e.code) ∧ W.cell? ⟨b, off + k * 11 + 8, none⟩ = some (.int .u64 (e.mark : Nat)) ∧ W.cell? ⟨b, off + k * 11 + 9, none⟩ = some (.slice A1 n1 c1) ∧ W.cell? ⟨b, off + k * 11 + 10, none⟩ = some (.slice A2 n2 c2)) ∧ W.cell? ⟨b, off + q * 11, none⟩ = some (.int .i64 d.kind) ∧ W.cell? ⟨b, off + q * 11 + 1, none⟩ = some (.int .u64 (d.lsn : Nat)) ∧ W.cell? ⟨b, off + q * 11 + 2, none⟩ = some (.int .u32 (d.epoch : Nat)) ∧ W.cell? ⟨b, off + q * 11 + 3, none⟩ = some (.int .u32 (d.order : Nat)) ∧ W.cell? ⟨b, off + q * 11 + 4, none⟩ = some (.int .i64 d.step) ∧ W.cell? ⟨b, off + q * 11 + 5, none⟩ = some (.bool d.undo) ∧ W.cell? ⟨b, off + q * 11 + 6, none⟩ = some (.int .i64 d.tri) ∧ W.cell? ⟨b, off + q * 11 + 7, none⟩ = some (.int .i64 d.code) ∧ W.cell? ⟨b, off + q * 11 + 8, none⟩ = some (.int .u64 (d.mark : Nat)) ∧ W.cell? ⟨b, off + q * 11 + 9, none⟩ = some (.slice D1 m1 d1) ∧ W.cell? ⟨b, off + q * 11 + 10, none⟩ = some (.slice D2 m2 d2)) := fun W hb => ⟨range_cells (range_below (w := w9.drew) (range_below HRG.out hb9.drew) hb), range_cells (range_below (w := w9.drew) (range_below hrd hb9.drew) hb)⟩
          have HC6 := Lib.hid hc6
          have hnx1 : Ent.nxt d e → ∀ j, j < k + 1 → Ent.good es j := fun hh j hj => by
            by_cases hjk : j = k
            · subst hjk; exact hg2 (fun h0 => by rw [hde]; exact hh)
            · exact HALL.out j (by omega)
          have HNX1 := Lib.hid hnx1
          have HNX2 := Lib.hid hn2'
          clear hc6 hnx1 hn2' hg2 hde hd hVd hrd hm1 hm2 hkq hk1 hk0 hb9
          by_cases hnx : Ent.nxt d e
          · rw [show decide (Ent.nxt d e) = true from by simpa using hnx] at CF
            go_wp2_with fail
            refine wp_region_noPanic ?_
            refine wp_region_held_drew (S := fun W => ((W.cell? ⟨b, off + k * 11, none⟩ = some (.int .i64 e.kind) ∧ W.cell? ⟨b, off + k * 11 + 1, none⟩ = some (.int .u64 (e.lsn : Nat)) ∧ W.cell? ⟨b, off + k * 11 + 2, none⟩ = some (.int .u32 (e.epoch : Nat)) ∧ W.cell? ⟨b, off + k * 11 + 3, none⟩ = some (.int .u32 (e.order : Nat)) ∧ W.cell? ⟨b, off + k * 11 + 4, none⟩ = some (.int .i64 e.step) ∧ W.cell? ⟨b, off + k * 11 + 5, none⟩ = some (.bool e.undo) ∧ W.cell? ⟨b, off + k * 11 + 6, none⟩ = some (.int .i64 e.tri) ∧ W.cell? ⟨b, off + k * 11 + 7, none⟩ = some (.int .i64 e.code) ∧ W.cell? ⟨b, off + k * 11 + 8, none⟩ = some (.int .u64 (e.mark : Nat)) ∧ W.cell? ⟨b, off + k * 11 + 9, none⟩ = some (.slice A1 n1 c1) ∧ W.cell? ⟨b, off + k * 11 + 10, none⟩ = some (.slice A2 n2 c2)) ∧ W.cell? ⟨b, off + q * 11, none⟩ = some (.int .i64 d.kind) ∧ W.cell? ⟨b, off + q * 11 + 1, none⟩ = some (.int .u64 (d.lsn : Nat)) ∧ W.cell? ⟨b, off + q * 11 + 2, none⟩ = some (.int .u32 (d.epoch : Nat)) ∧ W.cell? ⟨b, off + q * 11 + 3, none⟩ = some (.int .u32 (d.order : Nat)) ∧ W.cell? ⟨b, off + q * 11 + 4, none⟩ = some (.int .i64 d.step) ∧ W.cell? ⟨b, off + q * 11 + 5, none⟩ = some (.bool d.undo) ∧ W.cell? ⟨b, off + q * 11 + 6, none⟩ = some (.int .i64 d.tri) ∧ W.cell? ⟨b, off + q * 11 + 7, none⟩ = some (.int .i64 d.code) ∧ W.cell? ⟨b, off + q * 11 + 8, none⟩ = some (.int .u64 (d.mark : Nat)) ∧ W.cell? ⟨b, off + q * 11 + 9, none⟩ = some (.slice D1 m1 d1) ∧ W.cell? ⟨b, off + q * 11 + 10, none⟩ = some (.slice D2 m2 d2))) (by kernel_rfl) (HC6.out _ (Below.refl _ _)) (fun hH => ?_)
            refine any_take 0 20 ?va0 rfl rfl (by kernel_rfl) (by kernel_rfl) (by kernel_rfl) (fun _ _ _ h => h) (by rfl) ?hya0 hH ?resta0
            case hya0 => ((intro W hSw); go_simp; (try with_reducible rfl))
            try simp only [Act.put, List.setIfInBounds_toArray, List.set_cons_zero, List.set_cons_succ]
            refine any_take 1 21 ?va1 rfl rfl (by kernel_rfl) (by kernel_rfl) (by kernel_rfl) (fun _ _ _ h => h) (by rfl) ?hya1 hH ?resta1
            case hya1 => ((intro W hSw); go_simp; (try with_reducible rfl))
            try simp only [Act.put, List.setIfInBounds_toArray, List.set_cons_zero, List.set_cons_succ]
            refine any_take 2 22 ?va2 rfl rfl (by kernel_rfl) (by kernel_rfl) (by kernel_rfl) (fun _ _ _ h => h) (by rfl) ?hya2 hH ?resta2
            case hya2 => ((intro W hSw); go_simp; (try with_reducible rfl))
            try simp only [Act.put, List.setIfInBounds_toArray, List.set_cons_zero, List.set_cons_succ]
            refine any_take 3 23 ?va3 rfl rfl (by kernel_rfl) (by kernel_rfl) (by kernel_rfl) (fun _ _ _ h => h) (by rfl) ?hya3 hH ?resta3
            case hya3 => ((intro W hSw); go_simp; (try with_reducible rfl))
            try simp only [Act.put, List.setIfInBounds_toArray, List.set_cons_zero, List.set_cons_succ]
            refine any_take 4 24 ?va4 rfl rfl (by kernel_rfl) (by kernel_rfl) (by kernel_rfl) (fun _ _ _ h => h) (by rfl) ?hya4 hH ?resta4
            case hya4 => ((intro W hSw); go_simp; (try with_reducible rfl))
            try simp only [Act.put, List.setIfInBounds_toArray, List.set_cons_zero, List.set_cons_succ]
            refine any_take 5 25 ?va5 rfl rfl (by kernel_rfl) (by kernel_rfl) (by kernel_rfl) (fun _ _ _ h => h) (by rfl) ?hya5 hH ?resta5
            case hya5 => ((intro W hSw); go_simp; (try with_reducible rfl))
            try simp only [Act.put, List.setIfInBounds_toArray, List.set_cons_zero, List.set_cons_succ]
            refine any_take 6 26 ?va6 rfl rfl (by kernel_rfl) (by kernel_rfl) (by kernel_rfl) (fun _ _ _ h => h) (by rfl) ?hya6 hH ?resta6
            case hya6 => ((intro W hSw); go_simp; (try with_reducible rfl))
            try simp only [Act.put, List.setIfInBounds_toArray, List.set_cons_zero, List.set_cons_succ]
            refine any_take 7 27 ?va7 rfl rfl (by kernel_rfl) (by kernel_rfl) (by kernel_rfl) (fun _ _ _ h => h) (by rfl) ?hya7 hH ?resta7
            case hya7 => ((intro W hSw); (obtain ⟨⟨g0, g1, g2, g3, g4, g5, g6, g7, g8, g9, g10⟩, h0, h1, h2, h3, h4, h5, h6, h7, h8, h9, h10⟩ := hSw); go_simp; (try with_reducible rfl))
            try simp only [Act.put, List.setIfInBounds_toArray, List.set_cons_zero, List.set_cons_succ]
            refine any_take 8 28 ?va8 rfl rfl (by kernel_rfl) (by kernel_rfl) (by kernel_rfl) (fun _ _ _ h => h) (by rfl) ?hya8 hH ?resta8
            case hya8 => ((intro W hSw); go_simp; (try with_reducible rfl))
            try simp only [Act.put, List.setIfInBounds_toArray, List.set_cons_zero, List.set_cons_succ]
            refine any_take 9 29 ?va9 rfl rfl (by kernel_rfl) (by kernel_rfl) (by kernel_rfl) (fun _ _ _ h => h) (by rfl) ?hya9 hH ?resta9
            case hya9 => ((intro W hSw); go_simp; (try with_reducible rfl))
            try simp only [Act.put, List.setIfInBounds_toArray, List.set_cons_zero, List.set_cons_succ]
            refine any_take 10 30 ?va10 rfl rfl (by kernel_rfl) (by kernel_rfl) (by kernel_rfl) (fun _ _ _ h => h) (by rfl) ?hya10 hH ?resta10
            case hya10 => ((intro W hSw); go_simp; (try with_reducible rfl))
            try simp only [Act.put, List.setIfInBounds_toArray, List.set_cons_zero, List.set_cons_succ]
            refine any_take 11 31 ?va11 rfl rfl (by kernel_rfl) (by kernel_rfl) (by kernel_rfl) (fun _ _ _ h => h) (by rfl) ?hya11 hH ?resta11
            case hya11 => ((intro W hSw); (obtain ⟨⟨g0, g1, g2, g3, g4, g5, g6, g7, g8, g9, g10⟩, h0, h1, h2, h3, h4, h5, h6, h7, h8, h9, h10⟩ := hSw); go_simp; (try with_reducible rfl))
            try simp only [Act.put, List.setIfInBounds_toArray, List.set_cons_zero, List.set_cons_succ]
            refine wpAnyH_ready (rs := [12]) (by kernel_rfl) (by simp) ?_
            refine AllReadyH.cons rfl (fun K hK => ?_) AllReadyH.nil
            go_simp
            go_at_call 48
            with_reducible refine (CF _).out.mono ?_
            rintro x w10 ⟨rfl, hb10⟩
            dsimp only
            refine hK.out _ _ (HC6.out _ hb10) (fun hH3 => ?_)
            clear hK K
            try simp only [Act.put, List.setIfInBounds_toArray, List.set_cons_zero, List.set_cons_succ]
            refine any_take 13 33 ?va13 rfl rfl (by kernel_rfl) (by kernel_rfl) (by kernel_rfl) (fun _ _ _ h => h) (by rfl) ?hya13 hH3 ?resta13
            case hya13 => ((intro W hSw); go_simp; (try with_reducible rfl))
            try simp only [Act.put, List.setIfInBounds_toArray, List.set_cons_zero, List.set_cons_succ]
            refine any_take 14 34 ?va14 rfl rfl (by kernel_rfl) (by kernel_rfl) (by kernel_rfl) (fun _ _ _ h => h) (by rfl) ?hya14 hH3 ?resta14
            case hya14 => ((intro W hSw); go_simp; (try with_reducible rfl))
            try simp only [Act.put, List.setIfInBounds_toArray, List.set_cons_zero, List.set_cons_succ]
            refine wpAnyH_done (by kernel_rfl) ?_ _
            refine NoPanic.normal ?_
            have HB10 := Lib.hid (BB9.out.drew.trans (hb10.mono BB9.out.size))
            clear hb10 hH hH3
            go_wp2
            go_roundw
            case rel => exact ⟨k + 1, by omega, by go_num, HNX1.out hnx, HB10.out⟩
            case measure => simp [intOf]; omega
          · rw [show decide (Ent.nxt d e) = false from by simpa using hnx] at CF
            go_wp2_with fail
            refine wp_region_noPanic ?_
            refine wp_region_held_drew (S := fun W => ((W.cell? ⟨b, off + k * 11, none⟩ = some (.int .i64 e.kind) ∧ W.cell? ⟨b, off + k * 11 + 1, none⟩ = some (.int .u64 (e.lsn : Nat)) ∧ W.cell? ⟨b, off + k * 11 + 2, none⟩ = some (.int .u32 (e.epoch : Nat)) ∧ W.cell? ⟨b, off + k * 11 + 3, none⟩ = some (.int .u32 (e.order : Nat)) ∧ W.cell? ⟨b, off + k * 11 + 4, none⟩ = some (.int .i64 e.step) ∧ W.cell? ⟨b, off + k * 11 + 5, none⟩ = some (.bool e.undo) ∧ W.cell? ⟨b, off + k * 11 + 6, none⟩ = some (.int .i64 e.tri) ∧ W.cell? ⟨b, off + k * 11 + 7, none⟩ = some (.int .i64 e.code) ∧ W.cell? ⟨b, off + k * 11 + 8, none⟩ = some (.int .u64 (e.mark : Nat)) ∧ W.cell? ⟨b, off + k * 11 + 9, none⟩ = some (.slice A1 n1 c1) ∧ W.cell? ⟨b, off + k * 11 + 10, none⟩ = some (.slice A2 n2 c2)) ∧ W.cell? ⟨b, off + q * 11, none⟩ = some (.int .i64 d.kind) ∧ W.cell? ⟨b, off + q * 11 + 1, none⟩ = some (.int .u64 (d.lsn : Nat)) ∧ W.cell? ⟨b, off + q * 11 + 2, none⟩ = some (.int .u32 (d.epoch : Nat)) ∧ W.cell? ⟨b, off + q * 11 + 3, none⟩ = some (.int .u32 (d.order : Nat)) ∧ W.cell? ⟨b, off + q * 11 + 4, none⟩ = some (.int .i64 d.step) ∧ W.cell? ⟨b, off + q * 11 + 5, none⟩ = some (.bool d.undo) ∧ W.cell? ⟨b, off + q * 11 + 6, none⟩ = some (.int .i64 d.tri) ∧ W.cell? ⟨b, off + q * 11 + 7, none⟩ = some (.int .i64 d.code) ∧ W.cell? ⟨b, off + q * 11 + 8, none⟩ = some (.int .u64 (d.mark : Nat)) ∧ W.cell? ⟨b, off + q * 11 + 9, none⟩ = some (.slice D1 m1 d1) ∧ W.cell? ⟨b, off + q * 11 + 10, none⟩ = some (.slice D2 m2 d2))) (by kernel_rfl) (HC6.out _ (Below.refl _ _)) (fun hH => ?_)
            refine any_take 0 20 ?vb0 rfl rfl (by kernel_rfl) (by kernel_rfl) (by kernel_rfl) (fun _ _ _ h => h) (by rfl) ?hyb0 hH ?restb0
            case hyb0 => ((intro W hSw); go_simp; (try with_reducible rfl))
            try simp only [Act.put, List.setIfInBounds_toArray, List.set_cons_zero, List.set_cons_succ]
            refine any_take 1 21 ?vb1 rfl rfl (by kernel_rfl) (by kernel_rfl) (by kernel_rfl) (fun _ _ _ h => h) (by rfl) ?hyb1 hH ?restb1
            case hyb1 => ((intro W hSw); go_simp; (try with_reducible rfl))
            try simp only [Act.put, List.setIfInBounds_toArray, List.set_cons_zero, List.set_cons_succ]
            refine any_take 2 22 ?vb2 rfl rfl (by kernel_rfl) (by kernel_rfl) (by kernel_rfl) (fun _ _ _ h => h) (by rfl) ?hyb2 hH ?restb2
            case hyb2 => ((intro W hSw); go_simp; (try with_reducible rfl))
            try simp only [Act.put, List.setIfInBounds_toArray, List.set_cons_zero, List.set_cons_succ]
            refine any_take 3 23 ?vb3 rfl rfl (by kernel_rfl) (by kernel_rfl) (by kernel_rfl) (fun _ _ _ h => h) (by rfl) ?hyb3 hH ?restb3
            case hyb3 => ((intro W hSw); go_simp; (try with_reducible rfl))
            try simp only [Act.put, List.setIfInBounds_toArray, List.set_cons_zero, List.set_cons_succ]
            refine any_take 4 24 ?vb4 rfl rfl (by kernel_rfl) (by kernel_rfl) (by kernel_rfl) (fun _ _ _ h => h) (by rfl) ?hyb4 hH ?restb4
            case hyb4 => ((intro W hSw); go_simp; (try with_reducible rfl))
            try simp only [Act.put, List.setIfInBounds_toArray, List.set_cons_zero, List.set_cons_succ]
            refine any_take 5 25 ?vb5 rfl rfl (by kernel_rfl) (by kernel_rfl) (by kernel_rfl) (fun _ _ _ h => h) (by rfl) ?hyb5 hH ?restb5
            case hyb5 => ((intro W hSw); go_simp; (try with_reducible rfl))
            try simp only [Act.put, List.setIfInBounds_toArray, List.set_cons_zero, List.set_cons_succ]
            refine any_take 6 26 ?vb6 rfl rfl (by kernel_rfl) (by kernel_rfl) (by kernel_rfl) (fun _ _ _ h => h) (by rfl) ?hyb6 hH ?restb6
            case hyb6 => ((intro W hSw); go_simp; (try with_reducible rfl))
            try simp only [Act.put, List.setIfInBounds_toArray, List.set_cons_zero, List.set_cons_succ]
            refine any_take 7 27 ?vb7 rfl rfl (by kernel_rfl) (by kernel_rfl) (by kernel_rfl) (fun _ _ _ h => h) (by rfl) ?hyb7 hH ?restb7
            case hyb7 => ((intro W hSw); (obtain ⟨⟨g0, g1, g2, g3, g4, g5, g6, g7, g8, g9, g10⟩, h0, h1, h2, h3, h4, h5, h6, h7, h8, h9, h10⟩ := hSw); go_simp; (try with_reducible rfl))
            try simp only [Act.put, List.setIfInBounds_toArray, List.set_cons_zero, List.set_cons_succ]
            refine any_take 8 28 ?vb8 rfl rfl (by kernel_rfl) (by kernel_rfl) (by kernel_rfl) (fun _ _ _ h => h) (by rfl) ?hyb8 hH ?restb8
            case hyb8 => ((intro W hSw); go_simp; (try with_reducible rfl))
            try simp only [Act.put, List.setIfInBounds_toArray, List.set_cons_zero, List.set_cons_succ]
            refine any_take 9 29 ?vb9 rfl rfl (by kernel_rfl) (by kernel_rfl) (by kernel_rfl) (fun _ _ _ h => h) (by rfl) ?hyb9 hH ?restb9
            case hyb9 => ((intro W hSw); go_simp; (try with_reducible rfl))
            try simp only [Act.put, List.setIfInBounds_toArray, List.set_cons_zero, List.set_cons_succ]
            refine any_take 10 30 ?vb10 rfl rfl (by kernel_rfl) (by kernel_rfl) (by kernel_rfl) (fun _ _ _ h => h) (by rfl) ?hyb10 hH ?restb10
            case hyb10 => ((intro W hSw); go_simp; (try with_reducible rfl))
            try simp only [Act.put, List.setIfInBounds_toArray, List.set_cons_zero, List.set_cons_succ]
            refine any_take 11 31 ?vb11 rfl rfl (by kernel_rfl) (by kernel_rfl) (by kernel_rfl) (fun _ _ _ h => h) (by rfl) ?hyb11 hH ?restb11
            case hyb11 => ((intro W hSw); (obtain ⟨⟨g0, g1, g2, g3, g4, g5, g6, g7, g8, g9, g10⟩, h0, h1, h2, h3, h4, h5, h6, h7, h8, h9, h10⟩ := hSw); go_simp; (try with_reducible rfl))
            try simp only [Act.put, List.setIfInBounds_toArray, List.set_cons_zero, List.set_cons_succ]
            refine wpAnyH_ready (rs := [12]) (by kernel_rfl) (by simp) ?_
            refine AllReadyH.cons rfl (fun K hK => ?_) AllReadyH.nil
            go_simp
            go_at_call 48
            with_reducible refine (CF _).out.mono ?_
            rintro x w10 ⟨rfl, hb10⟩
            dsimp only
            refine hK.out _ _ (HC6.out _ hb10) (fun hH3 => ?_)
            clear hK K
            try simp only [Act.put, List.setIfInBounds_toArray, List.set_cons_zero, List.set_cons_succ]
            refine any_take 13 33 ?vb13 rfl rfl (by kernel_rfl) (by kernel_rfl) (by kernel_rfl) (fun _ _ _ h => h) (by rfl) ?hyb13 hH3 ?restb13
            case hyb13 => ((intro W hSw); go_simp; (try with_reducible rfl))
            try simp only [Act.put, List.setIfInBounds_toArray, List.set_cons_zero, List.set_cons_succ]
            refine any_take 14 34 ?vb14 rfl rfl (by kernel_rfl) (by kernel_rfl) (by kernel_rfl) (fun _ _ _ h => h) (by rfl) ?hyb14 hH3 ?restb14
            case hyb14 => ((intro W hSw); go_simp; (try with_reducible rfl))
            try simp only [Act.put, List.setIfInBounds_toArray, List.set_cons_zero, List.set_cons_succ]
            refine wpAnyH_done (by kernel_rfl) ?_ _
            refine NoPanic.normal ?_
            have HB10 := Lib.hid (BB9.out.drew.trans (hb10.mono BB9.out.size))
            clear hb10 hH hH3
            go_wp2
            go_ret2
            obtain ⟨r1, r2⟩ := row_stop hkl HALL.out (HNX2.out hnx)
            exact ⟨k, r1, by rw [r2]; rfl, HB10.out⟩
      · rw [show chkN e = 40 from by unfold chkN; rw [if_neg hok]] at cc
        have C1 := Lib.hid cc
        clear cc
        go_wp2_with fail
        with_reducible refine C1.out.mono ?_
        rintro x w9 ⟨rfl, hb9⟩
        go_wp2
        go_ret2
        obtain ⟨r1, r2⟩ := row_stop hkl HALL.out (HNG.out hok)
        exact ⟨k, r1, by rw [r2]; rfl, HBE.out.trans (hb9.mono HBE.out.size)⟩
    · have hkn : k = n := by omega
      subst hkn
      go_wp2
      go_ret2
      obtain ⟨h1, h2⟩ := row_all HLEN.out.symm HALL.out
      refine ⟨k, h1, ?_, HBE.out⟩
      rw [h2]; rfl

end Go.Proofs.Ytccpmalefdnhdaa
