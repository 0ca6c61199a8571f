/-
  The contract of entry.Row: for every slice of entries.
-/
import Derived.Test.YtccpmalefdnhdaaEntVal
import Derived.Test.YtccpmalefdnhdaaFoll
import Derived.Test.YtccpmalefdnhdaaRegLaw
import Derived.IntWalk
namespace Go.Proofs.Ytccpmalefdnhdaa
open Go.RowKit
set_option linter.unusedSimpArgs false
attribute [local go_sem ↓] Go.wp_at_zero Go.wp_at_succ

def RowR (w : World) (n : Nat) (es : List Entry) (i : Value) (wr : World) : Prop :=
  ∃ k : Nat, k ≤ n ∧ i = .int .i64 k ∧ (∀ j, j < k → Ent.good es j) ∧ Below w.heap.size w wr
def RowPost (w : World) (es : List Entry) (x : Ending) (w' : World) : Prop :=
  ∃ m, Ent.RowIs es m ∧ x = .returned (.tuple #[.int .i64 (m : Nat), .int .i64 (Ent.rowE es m : Nat)]) ∧ Below w.heap.size w w'

theorem good_of {es : List Entry} {k : Nat} (h : k < es.length) (ho : Ent.ok es[k] = true) (hn : ∀ h0 : 0 < k, Ent.nxt (es[k - 1]'(by omega)) es[k]) : Ent.good es k :=
  ⟨es[k], List.getElem?_eq_getElem h, ho, fun h0 => ⟨es[k - 1]'(by omega), List.getElem?_eq_getElem _, hn h0⟩⟩
theorem not_good_ok {es : List Entry} {k : Nat} (h : k < es.length) (ho : ¬ Ent.ok es[k] = true) : ¬ Ent.good es k := by
  rintro ⟨e, h1, h2, _⟩
  rw [List.getElem?_eq_getElem h] at h1
  injection h1 with h1
  subst h1
  exact ho h2
theorem not_good_nxt {es : List Entry} {k : Nat} (h : k < es.length) (h0 : 0 < k) (hn : ¬ Ent.nxt (es[k - 1]'(by omega)) es[k]) : ¬ Ent.good es k := by
  rintro ⟨e, h1, _, h2⟩
  rw [List.getElem?_eq_getElem h] at h1
  injection h1 with h1
  subst h1
  obtain ⟨b, h3, h4⟩ := h2 h0
  rw [List.getElem?_eq_getElem (by omega)] at h3
  injection h3 with h3
  subst h3
  exact hn h4
theorem row_stop {es : List Entry} {k : Nat} (h : k < es.length) (ha : ∀ j, j < k → Ent.good es j) (hn : ¬ Ent.good es k) : Ent.RowIs es k ∧ Ent.rowE es k = 41 :=
  ⟨⟨Nat.le_of_lt h, ha, fun _ => hn⟩, by unfold Ent.rowE; rw [if_neg (by omega)]⟩
theorem row_all {es : List Entry} {k : Nat} (h : k = es.length) (ha : ∀ j, j < k → Ent.good es j) : Ent.RowIs es k ∧ Ent.rowE es k = 0 :=
  ⟨⟨Nat.le_of_eq h, ha, fun hh => by omega⟩, by unfold Ent.rowE; rw [if_pos h]⟩

set_option maxRecDepth 100000 in
set_option maxHeartbeats 8000000 in
theorem row_any (a : Option Addr) (n cap : Nat) (es : List Entry) (w : World) (hE : Ents w a n es) (hn : n ≤ maxLen) :
    Calls Try.prog 26 #[.slice a n cap] w (RowPost w es) := by
  unfold maxLen at hn
  have hlen := hE.1
  have HE := Lib.hid hE
  have HLEN := Lib.hid hlen
  clear hE hlen
  go_enter Try.func26, Try.ntmps26
  go_wp2_with fail
  go_loopw [8] (RowR w n es) (fun i _ => n - (intOf i).toNat)
  case atStart => exact ⟨0, by omega, rfl, fun j h => by omega, Below.refl _ _⟩
  case round =>
    obtain ⟨k, hk, rfl, hall, hbel⟩ := hrel
    have HALL := Lib.hid hall
    have HBE := Lib.hid hbel
    clear hall hbel
    by_cases hlt : k < n
    · obtain ⟨b, off, rfl, hat⟩ := HE.out.2 (by omega)
      have hkl : k < es.length := by rw [HLEN.out]; exact hlt
      obtain ⟨A1, A2, c1, c2, hV, hrg⟩ := (hat k hkl).below HBE.out
      have hprev : ∀ h0 : 0 < k, At11 wr b (off + (k - 1) * 11) (es[k - 1]'(by omega)) := fun h0 => (hat (k - 1) (by omega)).below HBE.out
      have HPREV := Lib.hid hprev
      have HV := Lib.hid hV
      have HRG := Lib.hid hrg
      obtain ⟨e0, e1, e2, e3, e4, e5, e6, e7, e8, e9, e10⟩ := range_cells hrg
      have hng := not_good_ok hkl
      have hng2 := fun h0 => not_good_nxt hkl h0
      have hgd := good_of hkl
      have hok2 := fun (h : Ent.ok (es[k]'hkl) = true) => ((Ent.ok_iff (es[k]'hkl)).1 h).lsn
      have HNG := Lib.hid hng
      have HNG2 := Lib.hid hng2
      have HGD := Lib.hid hgd
      have HOK2 := Lib.hid hok2
      clear hat hprev hV hrg hng hng2 hgd hok2
      generalize he : es[k] = e at *
      have C1 := fun W => Lib.hid (check_any e A1 A2 c1 c2 W)
      unfold ChkPost at C1
      obtain ⟨n1, hn1⟩ : ∃ n, e.key.length = n := ⟨_, rfl⟩
      obtain ⟨n2, hn2⟩ : ∃ n, e.data.length = n := ⟨_, rfl⟩
      rw [hn1] at e9 HRG C1
      rw [hn2] at e10 HRG C1
      have hb5 := (HBE.out.alloc HBE.out.size (.cells (evs e (.slice A1 n1 c1) (.slice A2 n2 c2)) 26))
      have HB5 := Lib.hid hb5
      have hs5 : (wr.alloc (.cells (evs e (.slice A1 n1 c1) (.slice A2 n2 c2)) 26)).rangeAt wr.heap.size 0 (evs e (.slice A1 n1 c1) (.slice A2 n2 c2)).toList := range_of_lies (Lies.made wr 26 _)
      have HS5 := Lib.hid hs5
      have hi1 : (k : Int) < (n : Int) := by omega
      clear hb5 hs5 he hn1 hn2
      have hc5 : ∀ W, Below (wr.alloc (.cells (evs e (.slice A1 n1 c1) (.slice A2 n2 c2)) 26)).drew.heap.size (wr.alloc (.cells (evs e (.slice A1 n1 c1) (.slice A2 n2 c2)) 26)).drew W → (W.cell? ⟨wr.heap.size, 0, none⟩ = some (.int .i64 e.kind) ∧ W.cell? ⟨wr.heap.size, 1, none⟩ = some (.int .u64 (e.lsn : Nat)) ∧ W.cell? ⟨wr.heap.size, 2, none⟩ = some (.int .u32 (e.epoch : Nat)) ∧ W.cell? ⟨wr.heap.size, 3, none⟩ = some (.int .u32 (e.order : Nat)) ∧ W.cell? ⟨wr.heap.size, 4, none⟩ = some (.int .i64 e.step) ∧ W.cell? ⟨wr.heap.size, 5, none⟩ = some (.bool e.undo) ∧ W.cell? ⟨wr.heap.size, 6, none⟩ = some (.int .i64 e.tri) ∧ W.cell? ⟨wr.heap.size, 7, none⟩ = some (.int .i64 e.code) ∧ W.cell? ⟨wr.heap.size, 8, none⟩ = some (.int .u64 (e.mark : Nat)) ∧ W.cell? ⟨wr.heap.size, 9, none⟩ = some (.slice A1 n1 c1) ∧ W.cell? ⟨wr.heap.size, 10, none⟩ = some (.slice A2 n2 c2)) := fun W hb => (Lies.below (w := (wr.alloc (.cells (evs e (.slice A1 n1 c1) (.slice A2 n2 c2)) 26)).drew) (Lies.made wr 26 (evs e (.slice A1 n1 c1) (.slice A2 n2 c2))) hb (by simp)).cellsE
      have HC5 := Lib.hid hc5
      clear hc5
      by_cases hok : Ent.ok e = true
      · have hc : chkN e = 0 := by unfold chkN; rw [if_pos hok]
        rw [hc, show ((0 : Nat) : Int) = 0 from rfl] at C1
        clear hc
        by_cases hk0 : k = 0
        · have hd0 : decide (0 < k) = false := by simp; omega
          have hgood := HGD.out hok (fun h0 => by omega)
          have hnext : ∀ j, j < k + 1 → Ent.good es j := fun j hj => by
            have : j = k := by omega
            subst this; exact hgood
          have HNEXT := Lib.hid hnext
          clear hgood hnext hk0
          go_wp2_with fail
          refine wp_region_noPanic ?_
          refine wp_region_held_drew (S := fun W => W.cell? ⟨wr.heap.size, 0, none⟩ = some (.int .i64 e.kind) ∧ W.cell? ⟨wr.heap.size, 1, none⟩ = some (.int .u64 (e.lsn : Nat)) ∧ W.cell? ⟨wr.heap.size, 2, none⟩ = some (.int .u32 (e.epoch : Nat)) ∧ W.cell? ⟨wr.heap.size, 3, none⟩ = some (.int .u32 (e.order : Nat)) ∧ W.cell? ⟨wr.heap.size, 4, none⟩ = some (.int .i64 e.step) ∧ W.cell? ⟨wr.heap.size, 5, none⟩ = some (.bool e.undo) ∧ W.cell? ⟨wr.heap.size, 6, none⟩ = some (.int .i64 e.tri) ∧ W.cell? ⟨wr.heap.size, 7, none⟩ = some (.int .i64 e.code) ∧ W.cell? ⟨wr.heap.size, 8, none⟩ = some (.int .u64 (e.mark : Nat)) ∧ W.cell? ⟨wr.heap.size, 9, none⟩ = some (.slice A1 n1 c1) ∧ W.cell? ⟨wr.heap.size, 10, none⟩ = some (.slice A2 n2 c2)) (by kernel_rfl) (HC5.out _ (Below.refl _ _)) (fun hH => ?_)
          refine any_take 0 13 ?va0 rfl rfl (by kernel_rfl) (by kernel_rfl) (by kernel_rfl) (fun _ _ _ h => h) (by rfl) ?hya0 hH ?resta0
          case hya0 => ((intro W hSw); (obtain ⟨g0, g1, g2, g3, g4, g5, g6, g7, g8, g9, g10⟩ := hSw); go_simp; (try with_reducible rfl))
          try simp only [Act.put, List.setIfInBounds_toArray, List.set_cons_zero, List.set_cons_succ]
          refine wpAnyH_ready (rs := [1]) (by kernel_rfl) (by simp) ?_
          refine AllReadyH.cons rfl (fun K hK => ?_) AllReadyH.nil
          go_simp
          go_at_call 15
          with_reducible refine (C1 _).out.mono ?_
          rintro x w9 ⟨rfl, hb9⟩
          dsimp only
          refine hK.out _ _ (HC5.out _ hb9) (fun hH2 => ?_)
          clear hK K
          try simp only [Act.put, List.setIfInBounds_toArray, List.set_cons_zero, List.set_cons_succ]
          refine any_take 2 15 ?va2 rfl rfl (by kernel_rfl) (by kernel_rfl) (by kernel_rfl) (fun _ _ _ h => h) (by rfl) ?hya2 hH2 ?resta2
          case hya2 => ((intro W hSw); go_simp; (try with_reducible rfl))
          try simp only [Act.put, List.setIfInBounds_toArray, List.set_cons_zero, List.set_cons_succ]
          refine any_take 3 16 ?va3 rfl rfl (by kernel_rfl) (by kernel_rfl) (by kernel_rfl) (fun _ _ _ h => h) (by rfl) ?hya3 hH2 ?resta3
          case hya3 => ((intro W hSw); go_simp; (try with_reducible rfl))
          try simp only [Act.put, List.setIfInBounds_toArray, List.set_cons_zero, List.set_cons_succ]
          refine any_take 4 17 ?va4 rfl rfl (by kernel_rfl) (by kernel_rfl) (by kernel_rfl) (fun _ _ _ h => h) (by rfl) ?hya4 hH2 ?resta4
          case hya4 => ((intro W hSw); go_simp; (try with_reducible rfl))
          try simp only [Act.put, List.setIfInBounds_toArray, List.set_cons_zero, List.set_cons_succ]
          refine any_take 5 18 ?va5 rfl rfl (by kernel_rfl) (by kernel_rfl) (by kernel_rfl) (fun _ _ _ h => h) (by rfl) ?hya5 hH2 ?resta5
          case hya5 => ((intro W hSw); go_simp; (try with_reducible rfl))
          try simp only [Act.put, List.setIfInBounds_toArray, List.set_cons_zero, List.set_cons_succ]
          refine any_take 6 19 ?va6 rfl rfl (by kernel_rfl) (by kernel_rfl) (by kernel_rfl) (fun _ _ _ h => h) (by rfl) ?hya6 hH2 ?resta6
          case hya6 => ((intro W hSw); go_simp; (try with_reducible rfl))
          try simp only [Act.put, List.setIfInBounds_toArray, List.set_cons_zero, List.set_cons_succ]
          refine any_skip 7 20 rfl rfl (by kernel_rfl) (by kernel_rfl) (by kernel_rfl) (fun _ _ _ h => h) (by rfl) hH2 ?_
          try simp only [Act.put, List.setIfInBounds_toArray, List.set_cons_zero, List.set_cons_succ]
          refine any_skip 8 21 rfl rfl (by kernel_rfl) (by kernel_rfl) (by kernel_rfl) (fun _ _ _ h => h) (by rfl) hH2 ?_
          try simp only [Act.put, List.setIfInBounds_toArray, List.set_cons_zero, List.set_cons_succ]
          refine any_skip 9 22 rfl rfl (by kernel_rfl) (by kernel_rfl) (by kernel_rfl) (fun _ _ _ h => h) (by rfl) hH2 ?_
          try simp only [Act.put, List.setIfInBounds_toArray, List.set_cons_zero, List.set_cons_succ]
          refine any_skip 10 23 rfl rfl (by kernel_rfl) (by kernel_rfl) (by kernel_rfl) (fun _ _ _ h => h) (by rfl) hH2 ?_
          try simp only [Act.put, List.setIfInBounds_toArray, List.set_cons_zero, List.set_cons_succ]
          refine any_skip 11 24 rfl rfl (by kernel_rfl) (by kernel_rfl) (by kernel_rfl) (fun _ _ _ h => h) (by rfl) hH2 ?_
          try simp only [Act.put, List.setIfInBounds_toArray, List.set_cons_zero, List.set_cons_succ]
          refine any_skip 12 25 rfl rfl (by kernel_rfl) (by kernel_rfl) (by kernel_rfl) (fun _ _ _ h => h) (by rfl) hH2 ?_
          try simp only [Act.put, List.setIfInBounds_toArray, List.set_cons_zero, List.set_cons_succ]
          refine any_skip 13 26 rfl rfl (by kernel_rfl) (by kernel_rfl) (by kernel_rfl) (fun _ _ _ h => h) (by rfl) hH2 ?_
          try simp only [Act.put, List.setIfInBounds_toArray, List.set_cons_zero, List.set_cons_succ]
          refine any_skip 14 27 rfl rfl (by kernel_rfl) (by kernel_rfl) (by kernel_rfl) (fun _ _ _ h => h) (by rfl) hH2 ?_
          try simp only [Act.put, List.setIfInBounds_toArray, List.set_cons_zero, List.set_cons_succ]
          refine any_take 15 28 ?va15 rfl rfl (by kernel_rfl) (by kernel_rfl) (by kernel_rfl) (fun _ _ _ h => h) (by rfl) ?hya15 hH2 ?resta15
          case hya15 => ((intro W hSw); go_simp; (try with_reducible rfl))
          try simp only [Act.put, List.setIfInBounds_toArray, List.set_cons_zero, List.set_cons_succ]
          refine any_take 16 29 ?va16 rfl rfl (by kernel_rfl) (by kernel_rfl) (by kernel_rfl) (fun _ _ _ h => h) (by rfl) ?hya16 hH2 ?resta16
          case hya16 => ((intro W hSw); go_simp; (try with_reducible rfl))
          try simp only [Act.put, List.setIfInBounds_toArray, List.set_cons_zero, List.set_cons_succ]
          refine wpAnyH_done (by kernel_rfl) ?_ _
          refine NoPanic.normal ?_
          have HB9 := Lib.hid hb9
          clear hb9 hH hH2
          go_wp2
          go_roundw
          case rel => exact ⟨k + 1, by omega, by go_num, HNEXT.out, HB5.out.drew.trans (HB9.out.mono HB5.out.size)⟩
          case measure => simp [intOf]; omega
        · obtain ⟨q, hkq⟩ : ∃ q, k = q + 1 := ⟨k - 1, by omega⟩
          have hd0 : decide (0 < k) = true := by simp; omega
          have hk1 : k - 1 = q := by omega
          have hq1 : IntKind.i64.wrap ((k : Int) - 1) = ((q : Nat) : Int) := by rw [IntWalk.i64_in _ (by omega)]; omega
          have hq2 : ((q : Nat) : Int) < (n : Int) := by omega
          have hpv := HPREV.out (by omega)
          have hn2' := HNG2.out (by omega)
          have hg2 := HGD.out hok
          have hd2 : ∃ d, es[k - 1]? = some d := ⟨_, List.getElem?_eq_getElem (by omega)⟩
          obtain ⟨d, hd⟩ := hd2
          have hde : es[k - 1]'(by omega) = d := by rw [List.getElem?_eq_getElem (by omega)] at hd; injection hd
          rw [hde] at hpv hn2'
          rw [hk1] at hpv
          obtain ⟨D1, D2, d1, d2, hVd, hrd⟩ := hpv
          have CF := fun W => Lib.hid (follows_any d e (.slice D1 d.key.length d1) (.slice D2 d.data.length d2) (.slice A1 n1 c1) (.slice A2 n2 c2) W hVd.b HV.out.b (HOK2.out hok))
          obtain ⟨m1, hm1⟩ : ∃ n, d.key.length = n := ⟨_, rfl⟩
          obtain ⟨m2, hm2⟩ : ∃ n, d.data.length = n := ⟨_, rfl⟩
          rw [hm1, hm2] at CF
          rw [hm1, hm2] at hrd
          have hc6 : ∀ W, Below (wr.alloc (.cells (evs e (.slice A1 n1 c1) (.slice A2 n2 c2)) 26)).drew.heap.size (wr.alloc (.cells (evs e (.slice A1 n1 c1) (.slice A2 n2 c2)) 26)).drew W → ((W.cell? ⟨wr.heap.size, 0, none⟩ = some (.int .i64 e.kind) ∧ W.cell? ⟨wr.heap.size, 1, none⟩ = some (.int .u64 (e.lsn : Nat)) ∧ W.cell? ⟨wr.heap.size, 2, none⟩ = some (.int .u32 (e.epoch : Nat)) ∧ W.cell? ⟨wr.heap.size, 3, none⟩ = some (.int .u32 (e.order : Nat)) ∧ W.cell? ⟨wr.heap.size, 4, none⟩ = some (.int .i64 e.step) ∧ W.cell? ⟨wr.heap.size, 5, none⟩ = some (.bool e.undo) ∧ W.cell? ⟨wr.heap.size, 6, none⟩ = some (.int .i64 e.tri) ∧ W.cell? ⟨wr.heap.size, 7, none⟩ = some (.int .i64 e.code) ∧ W.cell? ⟨wr.heap.size, 8, none⟩ = some (.int .u64 (e.mark : Nat)) ∧ W.cell? ⟨wr.heap.size, 9, none⟩ = some (.slice A1 n1 c1) ∧ W.cell? ⟨wr.heap.size, 10, none⟩ = some (.slice A2 n2 c2)) ∧ W.cell? ⟨b, off + q * 11, none⟩ = some (.int .i64 d.kind) ∧ W.cell? ⟨b, off + q * 11 + 1, none⟩ = some (.int .u64 (d.lsn : Nat)) ∧ W.cell? ⟨b, off + q * 11 + 2, none⟩ = some (.int .u32 (d.epoch : Nat)) ∧ W.cell? ⟨b, off + q * 11 + 3, none⟩ = some (.int .u32 (d.order : Nat)) ∧ W.cell? ⟨b, off + q * 11 + 4, none⟩ = some (.int .i64 d.step) ∧ W.cell? ⟨b, off + q * 11 + 5, none⟩ = some (.bool d.undo) ∧ W.cell? ⟨b, off + q * 11 + 6, none⟩ = some (.int .i64 d.tri) ∧ W.cell? ⟨b, off + q * 11 + 7, none⟩ = some (.int .i64 d.code) ∧ W.cell? ⟨b, off + q * 11 + 8, none⟩ = some (.int .u64 (d.mark : Nat)) ∧ W.cell? ⟨b, off + q * 11 + 9, none⟩ = some (.slice D1 m1 d1) ∧ W.cell? ⟨b, off + q * 11 + 10, none⟩ = some (.slice D2 m2 d2)) := fun W hb => ⟨HC5.out W hb, range_cells (range_below (w := (wr.alloc (.cells (evs e (.slice A1 n1 c1) (.slice A2 n2 c2)) 26)).drew) (range_below hrd ((Below.refl _ _).alloc (Nat.le_refl _) _).drew) hb)⟩
          have HC6 := Lib.hid hc6
          have hnx1 : Ent.nxt d e → ∀ j, j < k + 1 → Ent.good es j := fun hh j hj => by
            by_cases hjk : j = k
            · subst hjk; exact hg2 (fun h0 => by rw [hde]; exact hh)
            · exact HALL.out j (by omega)
          have HNX1 := Lib.hid hnx1
          have HNX2 := Lib.hid hn2'
          clear hc6 hnx1 hn2' hg2 hde hd hVd hrd hm1 hm2 hkq hk1 hk0
          by_cases hnx : Ent.nxt d e
          · rw [show decide (Ent.nxt d e) = true from by simpa using hnx] at CF
            go_wp2_with fail
            refine wp_region_noPanic ?_
            refine wp_region_held_drew (S := fun W => ((W.cell? ⟨wr.heap.size, 0, none⟩ = some (.int .i64 e.kind) ∧ W.cell? ⟨wr.heap.size, 1, none⟩ = some (.int .u64 (e.lsn : Nat)) ∧ W.cell? ⟨wr.heap.size, 2, none⟩ = some (.int .u32 (e.epoch : Nat)) ∧ W.cell? ⟨wr.heap.size, 3, none⟩ = some (.int .u32 (e.order : Nat)) ∧ W.cell? ⟨wr.heap.size, 4, none⟩ = some (.int .i64 e.step) ∧ W.cell? ⟨wr.heap.size, 5, none⟩ = some (.bool e.undo) ∧ W.cell? ⟨wr.heap.size, 6, none⟩ = some (.int .i64 e.tri) ∧ W.cell? ⟨wr.heap.size, 7, none⟩ = some (.int .i64 e.code) ∧ W.cell? ⟨wr.heap.size, 8, none⟩ = some (.int .u64 (e.mark : Nat)) ∧ W.cell? ⟨wr.heap.size, 9, none⟩ = some (.slice A1 n1 c1) ∧ W.cell? ⟨wr.heap.size, 10, none⟩ = some (.slice A2 n2 c2)) ∧ W.cell? ⟨b, off + q * 11, none⟩ = some (.int .i64 d.kind) ∧ W.cell? ⟨b, off + q * 11 + 1, none⟩ = some (.int .u64 (d.lsn : Nat)) ∧ W.cell? ⟨b, off + q * 11 + 2, none⟩ = some (.int .u32 (d.epoch : Nat)) ∧ W.cell? ⟨b, off + q * 11 + 3, none⟩ = some (.int .u32 (d.order : Nat)) ∧ W.cell? ⟨b, off + q * 11 + 4, none⟩ = some (.int .i64 d.step) ∧ W.cell? ⟨b, off + q * 11 + 5, none⟩ = some (.bool d.undo) ∧ W.cell? ⟨b, off + q * 11 + 6, none⟩ = some (.int .i64 d.tri) ∧ W.cell? ⟨b, off + q * 11 + 7, none⟩ = some (.int .i64 d.code) ∧ W.cell? ⟨b, off + q * 11 + 8, none⟩ = some (.int .u64 (d.mark : Nat)) ∧ W.cell? ⟨b, off + q * 11 + 9, none⟩ = some (.slice D1 m1 d1) ∧ W.cell? ⟨b, off + q * 11 + 10, none⟩ = some (.slice D2 m2 d2))) (by kernel_rfl) (HC6.out _ (Below.refl _ _)) (fun hH => ?_)
            refine any_take 0 13 ?vb0 rfl rfl (by kernel_rfl) (by kernel_rfl) (by kernel_rfl) (fun _ _ _ h => h) (by rfl) ?hyb0 hH ?restb0
            case hyb0 => ((intro W hSw); (obtain ⟨⟨g0, g1, g2, g3, g4, g5, g6, g7, g8, g9, g10⟩, h0, h1, h2, h3, h4, h5, h6, h7, h8, h9, h10⟩ := hSw); go_simp; (try with_reducible rfl))
            try simp only [Act.put, List.setIfInBounds_toArray, List.set_cons_zero, List.set_cons_succ]
            refine wpAnyH_ready (rs := [1]) (by kernel_rfl) (by simp) ?_
            refine AllReadyH.cons rfl (fun K hK => ?_) AllReadyH.nil
            go_simp
            go_at_call 15
            with_reducible refine (C1 _).out.mono ?_
            rintro x w9 ⟨rfl, hb9⟩
            dsimp only
            refine hK.out _ _ (HC6.out _ hb9) (fun hH2 => ?_)
            clear hK K
            try simp only [Act.put, List.setIfInBounds_toArray, List.set_cons_zero, List.set_cons_succ]
            refine any_take 2 15 ?vb2 rfl rfl (by kernel_rfl) (by kernel_rfl) (by kernel_rfl) (fun _ _ _ h => h) (by rfl) ?hyb2 hH2 ?restb2
            case hyb2 => ((intro W hSw); go_simp; (try with_reducible rfl))
            try simp only [Act.put, List.setIfInBounds_toArray, List.set_cons_zero, List.set_cons_succ]
            refine any_take 3 16 ?vb3 rfl rfl (by kernel_rfl) (by kernel_rfl) (by kernel_rfl) (fun _ _ _ h => h) (by rfl) ?hyb3 hH2 ?restb3
            case hyb3 => ((intro W hSw); go_simp; (try with_reducible rfl))
            try simp only [Act.put, List.setIfInBounds_toArray, List.set_cons_zero, List.set_cons_succ]
            refine any_take 4 17 ?vb4 rfl rfl (by kernel_rfl) (by kernel_rfl) (by kernel_rfl) (fun _ _ _ h => h) (by rfl) ?hyb4 hH2 ?restb4
            case hyb4 => ((intro W hSw); go_simp; (try with_reducible rfl))
            try simp only [Act.put, List.setIfInBounds_toArray, List.set_cons_zero, List.set_cons_succ]
            refine any_take 5 18 ?vb5 rfl rfl (by kernel_rfl) (by kernel_rfl) (by kernel_rfl) (fun _ _ _ h => h) (by rfl) ?hyb5 hH2 ?restb5
            case hyb5 => ((intro W hSw); go_simp; (try with_reducible rfl))
            try simp only [Act.put, List.setIfInBounds_toArray, List.set_cons_zero, List.set_cons_succ]
            refine any_take 6 19 ?vb6 rfl rfl (by kernel_rfl) (by kernel_rfl) (by kernel_rfl) (fun _ _ _ h => h) (by rfl) ?hyb6 hH2 ?restb6
            case hyb6 => ((intro W hSw); go_simp; (try with_reducible rfl))
            try simp only [Act.put, List.setIfInBounds_toArray, List.set_cons_zero, List.set_cons_succ]
            refine any_take 7 20 ?vb7 rfl rfl (by kernel_rfl) (by kernel_rfl) (by kernel_rfl) (fun _ _ _ h => h) (by rfl) ?hyb7 hH2 ?restb7
            case hyb7 => ((intro W hSw); go_simp; (try with_reducible rfl))
            try simp only [Act.put, List.setIfInBounds_toArray, List.set_cons_zero, List.set_cons_succ]
            refine any_take 8 21 ?vb8 rfl rfl (by kernel_rfl) (by kernel_rfl) (by kernel_rfl) (fun _ _ _ h => h) (by rfl) ?hyb8 hH2 ?restb8
            case hyb8 => ((intro W hSw); go_simp; (try with_reducible rfl))
            try simp only [Act.put, List.setIfInBounds_toArray, List.set_cons_zero, List.set_cons_succ]
            refine any_take 9 22 ?vb9 rfl rfl (by kernel_rfl) (by kernel_rfl) (by kernel_rfl) (fun _ _ _ h => h) (by rfl) ?hyb9 hH2 ?restb9
            case hyb9 => ((intro W hSw); go_simp; (try with_reducible rfl))
            try simp only [Act.put, List.setIfInBounds_toArray, List.set_cons_zero, List.set_cons_succ]
            refine any_take 10 23 ?vb10 rfl rfl (by kernel_rfl) (by kernel_rfl) (by kernel_rfl) (fun _ _ _ h => h) (by rfl) ?hyb10 hH2 ?restb10
            case hyb10 => ((intro W hSw); go_simp; (try with_reducible rfl))
            try simp only [Act.put, List.setIfInBounds_toArray, List.set_cons_zero, List.set_cons_succ]
            refine any_take 11 24 ?vb11 rfl rfl (by kernel_rfl) (by kernel_rfl) (by kernel_rfl) (fun _ _ _ h => h) (by rfl) ?hyb11 hH2 ?restb11
            case hyb11 => ((intro W hSw); (obtain ⟨⟨g0, g1, g2, g3, g4, g5, g6, g7, g8, g9, g10⟩, h0, h1, h2, h3, h4, h5, h6, h7, h8, h9, h10⟩ := hSw); go_simp; (try with_reducible rfl))
            try simp only [Act.put, List.setIfInBounds_toArray, List.set_cons_zero, List.set_cons_succ]
            refine any_take 12 25 ?vb12 rfl rfl (by kernel_rfl) (by kernel_rfl) (by kernel_rfl) (fun _ _ _ h => h) (by rfl) ?hyb12 hH2 ?restb12
            case hyb12 => ((intro W hSw); (obtain ⟨⟨g0, g1, g2, g3, g4, g5, g6, g7, g8, g9, g10⟩, h0, h1, h2, h3, h4, h5, h6, h7, h8, h9, h10⟩ := hSw); go_simp; (try with_reducible rfl))
            try simp only [Act.put, List.setIfInBounds_toArray, List.set_cons_zero, List.set_cons_succ]
            refine wpAnyH_ready (rs := [13]) (by kernel_rfl) (by simp) ?_
            refine AllReadyH.cons rfl (fun K hK => ?_) AllReadyH.nil
            go_simp
            go_at_call 47
            with_reducible refine (CF _).out.mono ?_
            rintro x w10 ⟨rfl, hb10⟩
            dsimp only
            refine hK.out _ _ (HC6.out _ (hb9.trans (hb10.mono hb9.size))) (fun hH3 => ?_)
            clear hK K
            try simp only [Act.put, List.setIfInBounds_toArray, List.set_cons_zero, List.set_cons_succ]
            refine any_take 14 27 ?vb14 rfl rfl (by kernel_rfl) (by kernel_rfl) (by kernel_rfl) (fun _ _ _ h => h) (by rfl) ?hyb14 hH3 ?restb14
            case hyb14 => ((intro W hSw); go_simp; (try with_reducible rfl))
            try simp only [Act.put, List.setIfInBounds_toArray, List.set_cons_zero, List.set_cons_succ]
            refine any_take 15 28 ?vb15 rfl rfl (by kernel_rfl) (by kernel_rfl) (by kernel_rfl) (fun _ _ _ h => h) (by rfl) ?hyb15 hH3 ?restb15
            case hyb15 => ((intro W hSw); go_simp; (try with_reducible rfl))
            try simp only [Act.put, List.setIfInBounds_toArray, List.set_cons_zero, List.set_cons_succ]
            refine any_take 16 29 ?vb16 rfl rfl (by kernel_rfl) (by kernel_rfl) (by kernel_rfl) (fun _ _ _ h => h) (by rfl) ?hyb16 hH3 ?restb16
            case hyb16 => ((intro W hSw); go_simp; (try with_reducible rfl))
            try simp only [Act.put, List.setIfInBounds_toArray, List.set_cons_zero, List.set_cons_succ]
            refine wpAnyH_done (by kernel_rfl) ?_ _
            refine NoPanic.normal ?_
            have HB9 := Lib.hid (hb9.trans (hb10.mono hb9.size))
            clear hb9 hb10 hH hH2 hH3
            go_wp2
            go_roundw
            case rel => exact ⟨k + 1, by omega, by go_num, HNX1.out hnx, HB5.out.drew.trans (HB9.out.mono HB5.out.size)⟩
            case measure => simp [intOf]; omega
          · rw [show decide (Ent.nxt d e) = false from by simpa using hnx] at CF
            go_wp2_with fail
            refine wp_region_noPanic ?_
            refine wp_region_held_drew (S := fun W => ((W.cell? ⟨wr.heap.size, 0, none⟩ = some (.int .i64 e.kind) ∧ W.cell? ⟨wr.heap.size, 1, none⟩ = some (.int .u64 (e.lsn : Nat)) ∧ W.cell? ⟨wr.heap.size, 2, none⟩ = some (.int .u32 (e.epoch : Nat)) ∧ W.cell? ⟨wr.heap.size, 3, none⟩ = some (.int .u32 (e.order : Nat)) ∧ W.cell? ⟨wr.heap.size, 4, none⟩ = some (.int .i64 e.step) ∧ W.cell? ⟨wr.heap.size, 5, none⟩ = some (.bool e.undo) ∧ W.cell? ⟨wr.heap.size, 6, none⟩ = some (.int .i64 e.tri) ∧ W.cell? ⟨wr.heap.size, 7, none⟩ = some (.int .i64 e.code) ∧ W.cell? ⟨wr.heap.size, 8, none⟩ = some (.int .u64 (e.mark : Nat)) ∧ W.cell? ⟨wr.heap.size, 9, none⟩ = some (.slice A1 n1 c1) ∧ W.cell? ⟨wr.heap.size, 10, none⟩ = some (.slice A2 n2 c2)) ∧ W.cell? ⟨b, off + q * 11, none⟩ = some (.int .i64 d.kind) ∧ W.cell? ⟨b, off + q * 11 + 1, none⟩ = some (.int .u64 (d.lsn : Nat)) ∧ W.cell? ⟨b, off + q * 11 + 2, none⟩ = some (.int .u32 (d.epoch : Nat)) ∧ W.cell? ⟨b, off + q * 11 + 3, none⟩ = some (.int .u32 (d.order : Nat)) ∧ W.cell? ⟨b, off + q * 11 + 4, none⟩ = some (.int .i64 d.step) ∧ W.cell? ⟨b, off + q * 11 + 5, none⟩ = some (.bool d.undo) ∧ W.cell? ⟨b, off + q * 11 + 6, none⟩ = some (.int .i64 d.tri) ∧ W.cell? ⟨b, off + q * 11 + 7, none⟩ = some (.int .i64 d.code) ∧ W.cell? ⟨b, off + q * 11 + 8, none⟩ = some (.int .u64 (d.mark : Nat)) ∧ W.cell? ⟨b, off + q * 11 + 9, none⟩ = some (.slice D1 m1 d1) ∧ W.cell? ⟨b, off + q * 11 + 10, none⟩ = some (.slice D2 m2 d2))) (by kernel_rfl) (HC6.out _ (Below.refl _ _)) (fun hH => ?_)
            refine any_take 0 13 ?vc0 rfl rfl (by kernel_rfl) (by kernel_rfl) (by kernel_rfl) (fun _ _ _ h => h) (by rfl) ?hyc0 hH ?restc0
            case hyc0 => ((intro W hSw); (obtain ⟨⟨g0, g1, g2, g3, g4, g5, g6, g7, g8, g9, g10⟩, h0, h1, h2, h3, h4, h5, h6, h7, h8, h9, h10⟩ := hSw); go_simp; (try with_reducible rfl))
            try simp only [Act.put, List.setIfInBounds_toArray, List.set_cons_zero, List.set_cons_succ]
            refine wpAnyH_ready (rs := [1]) (by kernel_rfl) (by simp) ?_
            refine AllReadyH.cons rfl (fun K hK => ?_) AllReadyH.nil
            go_simp
            go_at_call 15
            with_reducible refine (C1 _).out.mono ?_
            rintro x w9 ⟨rfl, hb9⟩
            dsimp only
            refine hK.out _ _ (HC6.out _ hb9) (fun hH2 => ?_)
            clear hK K
            try simp only [Act.put, List.setIfInBounds_toArray, List.set_cons_zero, List.set_cons_succ]
            refine any_take 2 15 ?vc2 rfl rfl (by kernel_rfl) (by kernel_rfl) (by kernel_rfl) (fun _ _ _ h => h) (by rfl) ?hyc2 hH2 ?restc2
            case hyc2 => ((intro W hSw); go_simp; (try with_reducible rfl))
            try simp only [Act.put, List.setIfInBounds_toArray, List.set_cons_zero, List.set_cons_succ]
            refine any_take 3 16 ?vc3 rfl rfl (by kernel_rfl) (by kernel_rfl) (by kernel_rfl) (fun _ _ _ h => h) (by rfl) ?hyc3 hH2 ?restc3
            case hyc3 => ((intro W hSw); go_simp; (try with_reducible rfl))
            try simp only [Act.put, List.setIfInBounds_toArray, List.set_cons_zero, List.set_cons_succ]
            refine any_take 4 17 ?vc4 rfl rfl (by kernel_rfl) (by kernel_rfl) (by kernel_rfl) (fun _ _ _ h => h) (by rfl) ?hyc4 hH2 ?restc4
            case hyc4 => ((intro W hSw); go_simp; (try with_reducible rfl))
            try simp only [Act.put, List.setIfInBounds_toArray, List.set_cons_zero, List.set_cons_succ]
            refine any_take 5 18 ?vc5 rfl rfl (by kernel_rfl) (by kernel_rfl) (by kernel_rfl) (fun _ _ _ h => h) (by rfl) ?hyc5 hH2 ?restc5
            case hyc5 => ((intro W hSw); go_simp; (try with_reducible rfl))
            try simp only [Act.put, List.setIfInBounds_toArray, List.set_cons_zero, List.set_cons_succ]
            refine any_take 6 19 ?vc6 rfl rfl (by kernel_rfl) (by kernel_rfl) (by kernel_rfl) (fun _ _ _ h => h) (by rfl) ?hyc6 hH2 ?restc6
            case hyc6 => ((intro W hSw); go_simp; (try with_reducible rfl))
            try simp only [Act.put, List.setIfInBounds_toArray, List.set_cons_zero, List.set_cons_succ]
            refine any_take 7 20 ?vc7 rfl rfl (by kernel_rfl) (by kernel_rfl) (by kernel_rfl) (fun _ _ _ h => h) (by rfl) ?hyc7 hH2 ?restc7
            case hyc7 => ((intro W hSw); go_simp; (try with_reducible rfl))
            try simp only [Act.put, List.setIfInBounds_toArray, List.set_cons_zero, List.set_cons_succ]
            refine any_take 8 21 ?vc8 rfl rfl (by kernel_rfl) (by kernel_rfl) (by kernel_rfl) (fun _ _ _ h => h) (by rfl) ?hyc8 hH2 ?restc8
            case hyc8 => ((intro W hSw); go_simp; (try with_reducible rfl))
            try simp only [Act.put, List.setIfInBounds_toArray, List.set_cons_zero, List.set_cons_succ]
            refine any_take 9 22 ?vc9 rfl rfl (by kernel_rfl) (by kernel_rfl) (by kernel_rfl) (fun _ _ _ h => h) (by rfl) ?hyc9 hH2 ?restc9
            case hyc9 => ((intro W hSw); go_simp; (try with_reducible rfl))
            try simp only [Act.put, List.setIfInBounds_toArray, List.set_cons_zero, List.set_cons_succ]
            refine any_take 10 23 ?vc10 rfl rfl (by kernel_rfl) (by kernel_rfl) (by kernel_rfl) (fun _ _ _ h => h) (by rfl) ?hyc10 hH2 ?restc10
            case hyc10 => ((intro W hSw); go_simp; (try with_reducible rfl))
            try simp only [Act.put, List.setIfInBounds_toArray, List.set_cons_zero, List.set_cons_succ]
            refine any_take 11 24 ?vc11 rfl rfl (by kernel_rfl) (by kernel_rfl) (by kernel_rfl) (fun _ _ _ h => h) (by rfl) ?hyc11 hH2 ?restc11
            case hyc11 => ((intro W hSw); (obtain ⟨⟨g0, g1, g2, g3, g4, g5, g6, g7, g8, g9, g10⟩, h0, h1, h2, h3, h4, h5, h6, h7, h8, h9, h10⟩ := hSw); go_simp; (try with_reducible rfl))
            try simp only [Act.put, List.setIfInBounds_toArray, List.set_cons_zero, List.set_cons_succ]
            refine any_take 12 25 ?vc12 rfl rfl (by kernel_rfl) (by kernel_rfl) (by kernel_rfl) (fun _ _ _ h => h) (by rfl) ?hyc12 hH2 ?restc12
            case hyc12 => ((intro W hSw); (obtain ⟨⟨g0, g1, g2, g3, g4, g5, g6, g7, g8, g9, g10⟩, h0, h1, h2, h3, h4, h5, h6, h7, h8, h9, h10⟩ := hSw); go_simp; (try with_reducible rfl))
            try simp only [Act.put, List.setIfInBounds_toArray, List.set_cons_zero, List.set_cons_succ]
            refine wpAnyH_ready (rs := [13]) (by kernel_rfl) (by simp) ?_
            refine AllReadyH.cons rfl (fun K hK => ?_) AllReadyH.nil
            go_simp
            go_at_call 47
            with_reducible refine (CF _).out.mono ?_
            rintro x w10 ⟨rfl, hb10⟩
            dsimp only
            refine hK.out _ _ (HC6.out _ (hb9.trans (hb10.mono hb9.size))) (fun hH3 => ?_)
            clear hK K
            try simp only [Act.put, List.setIfInBounds_toArray, List.set_cons_zero, List.set_cons_succ]
            refine any_take 14 27 ?vc14 rfl rfl (by kernel_rfl) (by kernel_rfl) (by kernel_rfl) (fun _ _ _ h => h) (by rfl) ?hyc14 hH3 ?restc14
            case hyc14 => ((intro W hSw); go_simp; (try with_reducible rfl))
            try simp only [Act.put, List.setIfInBounds_toArray, List.set_cons_zero, List.set_cons_succ]
            refine any_take 15 28 ?vc15 rfl rfl (by kernel_rfl) (by kernel_rfl) (by kernel_rfl) (fun _ _ _ h => h) (by rfl) ?hyc15 hH3 ?restc15
            case hyc15 => ((intro W hSw); go_simp; (try with_reducible rfl))
            try simp only [Act.put, List.setIfInBounds_toArray, List.set_cons_zero, List.set_cons_succ]
            refine any_take 16 29 ?vc16 rfl rfl (by kernel_rfl) (by kernel_rfl) (by kernel_rfl) (fun _ _ _ h => h) (by rfl) ?hyc16 hH3 ?restc16
            case hyc16 => ((intro W hSw); go_simp; (try with_reducible rfl))
            try simp only [Act.put, List.setIfInBounds_toArray, List.set_cons_zero, List.set_cons_succ]
            refine wpAnyH_done (by kernel_rfl) ?_ _
            refine NoPanic.normal ?_
            have HB9 := Lib.hid (hb9.trans (hb10.mono hb9.size))
            clear hb9 hb10 hH hH2 hH3
            go_wp2
            go_ret2
            obtain ⟨r1, r2⟩ := row_stop hkl HALL.out (HNX2.out hnx)
            refine ⟨k, r1, by rw [r2]; rfl, ?_⟩
            exact HB5.out.drew.trans (HB9.out.mono HB5.out.size)
      · have hc : chkN e = 40 := by unfold chkN; rw [if_neg hok]
        rw [hc, show ((40 : Nat) : Int) = 40 from rfl] at C1
        clear hc
        go_wp2_with fail
        refine wp_region_noPanic ?_
        refine wp_region_held_drew (S := fun W => W.cell? ⟨wr.heap.size, 0, none⟩ = some (.int .i64 e.kind) ∧ W.cell? ⟨wr.heap.size, 1, none⟩ = some (.int .u64 (e.lsn : Nat)) ∧ W.cell? ⟨wr.heap.size, 2, none⟩ = some (.int .u32 (e.epoch : Nat)) ∧ W.cell? ⟨wr.heap.size, 3, none⟩ = some (.int .u32 (e.order : Nat)) ∧ W.cell? ⟨wr.heap.size, 4, none⟩ = some (.int .i64 e.step) ∧ W.cell? ⟨wr.heap.size, 5, none⟩ = some (.bool e.undo) ∧ W.cell? ⟨wr.heap.size, 6, none⟩ = some (.int .i64 e.tri) ∧ W.cell? ⟨wr.heap.size, 7, none⟩ = some (.int .i64 e.code) ∧ W.cell? ⟨wr.heap.size, 8, none⟩ = some (.int .u64 (e.mark : Nat)) ∧ W.cell? ⟨wr.heap.size, 9, none⟩ = some (.slice A1 n1 c1) ∧ W.cell? ⟨wr.heap.size, 10, none⟩ = some (.slice A2 n2 c2)) (by kernel_rfl) (HC5.out _ (Below.refl _ _)) (fun hH => ?_)
        refine any_take 0 13 ?vd0 rfl rfl (by kernel_rfl) (by kernel_rfl) (by kernel_rfl) (fun _ _ _ h => h) (by rfl) ?hyd0 hH ?restd0
        case hyd0 => ((intro W hSw); (obtain ⟨g0, g1, g2, g3, g4, g5, g6, g7, g8, g9, g10⟩ := hSw); go_simp; (try with_reducible rfl))
        try simp only [Act.put, List.setIfInBounds_toArray, List.set_cons_zero, List.set_cons_succ]
        refine wpAnyH_ready (rs := [1]) (by kernel_rfl) (by simp) ?_
        refine AllReadyH.cons rfl (fun K hK => ?_) AllReadyH.nil
        go_simp
        go_at_call 15
        with_reducible refine (C1 _).out.mono ?_
        rintro x w9 ⟨rfl, hb9⟩
        dsimp only
        refine hK.out _ _ (HC5.out _ hb9) (fun hH2 => ?_)
        clear hK K
        try simp only [Act.put, List.setIfInBounds_toArray, List.set_cons_zero, List.set_cons_succ]
        refine any_take 2 15 ?vd2 rfl rfl (by kernel_rfl) (by kernel_rfl) (by kernel_rfl) (fun _ _ _ h => h) (by rfl) ?hyd2 hH2 ?restd2
        case hyd2 => ((intro W hSw); go_simp; (try with_reducible rfl))
        try simp only [Act.put, List.setIfInBounds_toArray, List.set_cons_zero, List.set_cons_succ]
        refine any_take 3 16 ?vd3 rfl rfl (by kernel_rfl) (by kernel_rfl) (by kernel_rfl) (fun _ _ _ h => h) (by rfl) ?hyd3 hH2 ?restd3
        case hyd3 => ((intro W hSw); go_simp; (try with_reducible rfl))
        try simp only [Act.put, List.setIfInBounds_toArray, List.set_cons_zero, List.set_cons_succ]
        refine any_skip 4 17 rfl rfl (by kernel_rfl) (by kernel_rfl) (by kernel_rfl) (fun _ _ _ h => h) (by rfl) hH2 ?_
        try simp only [Act.put, List.setIfInBounds_toArray, List.set_cons_zero, List.set_cons_succ]
        refine any_skip 5 18 rfl rfl (by kernel_rfl) (by kernel_rfl) (by kernel_rfl) (fun _ _ _ h => h) (by rfl) hH2 ?_
        try simp only [Act.put, List.setIfInBounds_toArray, List.set_cons_zero, List.set_cons_succ]
        refine any_skip 6 19 rfl rfl (by kernel_rfl) (by kernel_rfl) (by kernel_rfl) (fun _ _ _ h => h) (by rfl) hH2 ?_
        try simp only [Act.put, List.setIfInBounds_toArray, List.set_cons_zero, List.set_cons_succ]
        refine any_skip 7 20 rfl rfl (by kernel_rfl) (by kernel_rfl) (by kernel_rfl) (fun _ _ _ h => h) (by rfl) hH2 ?_
        try simp only [Act.put, List.setIfInBounds_toArray, List.set_cons_zero, List.set_cons_succ]
        refine any_skip 8 21 rfl rfl (by kernel_rfl) (by kernel_rfl) (by kernel_rfl) (fun _ _ _ h => h) (by rfl) hH2 ?_
        try simp only [Act.put, List.setIfInBounds_toArray, List.set_cons_zero, List.set_cons_succ]
        refine any_skip 9 22 rfl rfl (by kernel_rfl) (by kernel_rfl) (by kernel_rfl) (fun _ _ _ h => h) (by rfl) hH2 ?_
        try simp only [Act.put, List.setIfInBounds_toArray, List.set_cons_zero, List.set_cons_succ]
        refine any_skip 10 23 rfl rfl (by kernel_rfl) (by kernel_rfl) (by kernel_rfl) (fun _ _ _ h => h) (by rfl) hH2 ?_
        try simp only [Act.put, List.setIfInBounds_toArray, List.set_cons_zero, List.set_cons_succ]
        refine any_skip 11 24 rfl rfl (by kernel_rfl) (by kernel_rfl) (by kernel_rfl) (fun _ _ _ h => h) (by rfl) hH2 ?_
        try simp only [Act.put, List.setIfInBounds_toArray, List.set_cons_zero, List.set_cons_succ]
        refine any_skip 12 25 rfl rfl (by kernel_rfl) (by kernel_rfl) (by kernel_rfl) (fun _ _ _ h => h) (by rfl) hH2 ?_
        try simp only [Act.put, List.setIfInBounds_toArray, List.set_cons_zero, List.set_cons_succ]
        refine any_skip 13 26 rfl rfl (by kernel_rfl) (by kernel_rfl) (by kernel_rfl) (fun _ _ _ h => h) (by rfl) hH2 ?_
        try simp only [Act.put, List.setIfInBounds_toArray, List.set_cons_zero, List.set_cons_succ]
        refine any_skip 14 27 rfl rfl (by kernel_rfl) (by kernel_rfl) (by kernel_rfl) (fun _ _ _ h => h) (by rfl) hH2 ?_
        try simp only [Act.put, List.setIfInBounds_toArray, List.set_cons_zero, List.set_cons_succ]
        refine any_skip 15 28 rfl rfl (by kernel_rfl) (by kernel_rfl) (by kernel_rfl) (fun _ _ _ h => h) (by rfl) hH2 ?_
        try simp only [Act.put, List.setIfInBounds_toArray, List.set_cons_zero, List.set_cons_succ]
        refine any_take 16 29 ?vd16 rfl rfl (by kernel_rfl) (by kernel_rfl) (by kernel_rfl) (fun _ _ _ h => h) (by rfl) ?hyd16 hH2 ?restd16
        case hyd16 => ((intro W hSw); go_simp; (try with_reducible rfl))
        try simp only [Act.put, List.setIfInBounds_toArray, List.set_cons_zero, List.set_cons_succ]
        refine wpAnyH_done (by kernel_rfl) ?_ _
        refine NoPanic.normal ?_
        have HB9 := Lib.hid hb9
        clear hb9 hH hH2
        go_wp2
        go_ret2
        obtain ⟨r1, r2⟩ := row_stop hkl HALL.out (HNG.out hok)
        refine ⟨k, r1, by rw [r2]; rfl, ?_⟩
        exact HB5.out.drew.trans (HB9.out.mono HB5.out.size)
    · have hkn : k = n := by omega
      subst hkn
      go_wp2
      go_ret2
      obtain ⟨h1, h2⟩ := row_all HLEN.out.symm HALL.out
      refine ⟨k, h1, ?_, HBE.out⟩
      rw [h2]; rfl

end Go.Proofs.Ytccpmalefdnhdaa
