/-
  The contract of the document's Fork: for all slices of starts.
-/
import Derived.Test.YtngnfgnaagbpjaaRAt
import Derived.Test.YtngnfgnaagbpjaaFkMath
import Derived.Test.YtngnfgnaagbpjaaRegLaw
namespace Go.Proofs.Ytngnfgnaagbpjaa
open Go.RowKit

def FkR (w : World) (n m : Nat) (a b : Tbl) (x i : Value) (wr : World) : Prop :=
  ∃ k : Nat, k ≤ n ∧ i = .int .i64 k ∧ x = .int .u64 (fl a b k m : Nat) ∧ Below w.heap.size w wr

set_option maxRecDepth 100000 in
set_option maxHeartbeats 4000000 in
theorem refFork_any (A B : Option Addr) (n m cA cB la lb : Nat) (a b : Tbl) (w : World) (hA : Tab w A n a) (hB : Tab w B m b) (hn : n ≤ 1000000) (hm : m ≤ 1000000) (hla : la ≤ 18446744073709551615) (hlb : lb ≤ 18446744073709551615) :
    Calls Try.prog 21 #[.slice A n cA, .int .u64 (la : Int), .slice B m cB, .int .u64 (lb : Int)] w fun x w' => x = .returned (.int .u64 (forkS a la b lb : Nat)) ∧ Below w.heap.size w w' := by
  have C1 := Lib.hid (fun W (h : Tab W A n a) => refCheck_any A n cA a W h (small_len _ hn))
  have C2 := Lib.hid (fun W (h : Tab W B m b) => refCheck_any B m cB b W h (small_len _ hm))
  have HA := Lib.hid hA
  have HB := Lib.hid hB
  have HLA := Lib.hid hA.1
  have HLB := Lib.hid hB.1
  have HF : Hid (¬ (isT a ∧ isT b) → forkS a la b lb = 0) := Lib.hid (fun h => by unfold forkS; rw [if_neg h])
  have HFK : Hid (isT a → isT b → fl b a b.length (fl a b a.length (min la lb)) = forkS a la b lb) := Lib.hid (fun h1 h2 => fork_ref a la b lb hla hlb h1 h2)
  rw [HLA.out, HLB.out] at HFK
  have D1 := Lib.hid (fun W (h : Tab W A n a) l => refAt_any A n cA l a W h (small_len _ hn))
  have D2 := Lib.hid (fun W (h : Tab W B m b) l => refAt_any B m cB l b W h (small_len _ hm))
  clear hA hB hla hlb
  by_cases hlt0 : lb < la
  · have gd := hlt0
    rcases chk_cases a with ⟨hM, hc⟩ | ⟨hM, hc⟩
    · have CA0 : ((chk a : Nat) : Int) = 0 := by rw [hc]; rfl
      rcases chk_cases b with ⟨hM2, hd⟩ | ⟨hM2, hd⟩
      · have CB0 : ((chk b : Nat) : Int) = 0 := by rw [hd]; rfl
        have HR := Lib.hid (HFK.out hM hM2)
        have HMA := Lib.hid hM
        have HMB := Lib.hid hM2
        rw [show min la lb = lb from by omega] at HR
        have HC0 := Lib.hid CA0
        have HD0 := Lib.hid CB0
        clear hM hM2 hc hd CA0 CB0 HF HFK
        go_enter Try.func21, Try.ntmps21
        go_wp2_with fail
        with_reducible refine (C1.out _ HA.out).mono ?_
        rintro y w2 ⟨rfl, hb⟩
        rw [HC0.out]
        have HB2 := Lib.hid hb
        clear hb
        go_wp2_with fail
        with_reducible refine (C2.out _ (HB.out.below HB2.out)).mono ?_
        rintro y w3 ⟨rfl, hb⟩
        rw [HD0.out]
        have HB4 := Lib.hid (HB2.out.trans (hb.mono HB2.out.size))
        clear hb C1 C2
        go_wp2_with fail
        go_loopw [9, 12] (FkR w n lb a b) (fun _ i _ => n - (intOf i).toNat)
        case atStart => exact ⟨0, by omega, rfl, rfl, HB4.out⟩
        case round =>
          obtain ⟨k, hk, rfl, rfl, hbel⟩ := hrel
          have HBE := Lib.hid hbel
          clear hbel
          by_cases hlt : k < n
          · obtain ⟨b1, o1, rfl, hat⟩ := (HA.out.below HBE.out).2.2 (by omega)
            obtain ⟨d0, d1⟩ := hat k hlt
            have hkn : (k : Int) < (n : Int) := by omega
            have hpos := (HMA.out.pos (i := k) (by rw [HLA.out]; exact hlt)).2
            have hfit := (HA.out.2.1 k).2
            have hcell := fun W (h : Below wr.heap.size wr W) => (h.cell (block_lt_of_cell d0)).trans d0
            have HCELL := Lib.hid hcell
            clear hat hcell
            have CA := Lib.hid (D2.out wr.drew (HB.out.below HBE.out.drew) (ls a k))
            have HYES := Lib.hid (fun h1 h2 => fl_yes (a := a) (b := b) (k := k) (e := lb) h1 h2)
            have HNO := Lib.hid (fun h => fl_no (a := a) (b := b) (k := k) (e := lb) h)
            generalize ls a k = x at *
            generalize ep a k = e at *
            generalize atS b x = z at *
            generalize hfl : fl a b k lb = f at *
            have HFL := Lib.hid hfl
            clear hfl
            by_cases h1 : x ≤ f
            · have g1 : decide ((x : Int) ≤ (f : Int)) = true := by rw [decide_eq_true_iff]; omega
              have g2 : decide (x ≤ f) = true := by rw [decide_eq_true_iff]; omega
              go_wp2_with fail
              refine wp_region_noPanic ?_
              refine wp_region_held_drew (S := fun W => W.cell? ⟨b1, o1 + k * 2, none⟩ = some (.int .u32 (e : Int))) (by kernel_rfl) (d0) (fun hH => ?_)
              refine any_take 0 42 ?vax0 rfl rfl (by kernel_rfl) (by kernel_rfl) (by kernel_rfl) (fun _ _ _ h => h) (by rfl) ?hyax0 hH ?restax0
              case hyax0 => ((intro W hSw); go_simp; (try with_reducible rfl))
              try simp only [Act.put, List.setIfInBounds_toArray, List.set_cons_zero, List.set_cons_succ]
              refine any_take 1 43 ?vax1 rfl rfl (by kernel_rfl) (by kernel_rfl) (by kernel_rfl) (fun _ _ _ h => h) (by rfl) ?hyax1 hH ?restax1
              case hyax1 => ((intro W hSw); go_simp; (try with_reducible rfl))
              try simp only [Act.put, List.setIfInBounds_toArray, List.set_cons_zero, List.set_cons_succ]
              refine any_take 2 44 ?vax2 rfl rfl (by kernel_rfl) (by kernel_rfl) (by kernel_rfl) (fun _ _ _ h => h) (by rfl) ?hyax2 hH ?restax2
              case hyax2 => ((intro W hSw); go_simp; (try with_reducible rfl))
              try simp only [Act.put, List.setIfInBounds_toArray, List.set_cons_zero, List.set_cons_succ]
              refine any_take 3 45 ?vax3 rfl rfl (by kernel_rfl) (by kernel_rfl) (by kernel_rfl) (fun _ _ _ h => h) (by rfl) ?hyax3 hH ?restax3
              case hyax3 => ((intro W hSw); go_simp; (try with_reducible rfl))
              try simp only [Act.put, List.setIfInBounds_toArray, List.set_cons_zero, List.set_cons_succ]
              refine any_take 4 46 ?vax4 rfl rfl (by kernel_rfl) (by kernel_rfl) (by kernel_rfl) (fun _ _ _ h => h) (by rfl) ?hyax4 hH ?restax4
              case hyax4 => ((intro W hSw); go_simp; (try with_reducible rfl))
              try simp only [Act.put, List.setIfInBounds_toArray, List.set_cons_zero, List.set_cons_succ]
              refine any_take 5 47 ?vax5 rfl rfl (by kernel_rfl) (by kernel_rfl) (by kernel_rfl) (fun _ _ _ h => h) (by rfl) ?hyax5 hH ?restax5
              case hyax5 => ((intro W hSw); go_simp; (try with_reducible rfl))
              try simp only [Act.put, List.setIfInBounds_toArray, List.set_cons_zero, List.set_cons_succ]
              refine any_take 7 49 ?vax7 rfl rfl (by kernel_rfl) (by kernel_rfl) (by kernel_rfl) (fun _ _ _ h => h) (by rfl) ?hyax7 hH ?restax7
              case hyax7 => ((intro W hSw); go_simp; (try with_reducible rfl))
              try simp only [Act.put, List.setIfInBounds_toArray, List.set_cons_zero, List.set_cons_succ]
              refine any_take 8 50 ?vax8 rfl rfl (by kernel_rfl) (by kernel_rfl) (by kernel_rfl) (fun _ _ _ h => h) (by rfl) ?hyax8 hH ?restax8
              case hyax8 => ((intro W hSw); go_simp; (try with_reducible rfl))
              try simp only [Act.put, List.setIfInBounds_toArray, List.set_cons_zero, List.set_cons_succ]
              refine any_take 9 51 ?vax9 rfl rfl (by kernel_rfl) (by kernel_rfl) (by kernel_rfl) (fun _ _ _ h => h) (by rfl) ?hyax9 hH ?restax9
              case hyax9 => ((intro W hSw); go_simp; (try with_reducible rfl))
              try simp only [Act.put, List.setIfInBounds_toArray, List.set_cons_zero, List.set_cons_succ]
              refine any_take 10 52 ?vax10 rfl rfl (by kernel_rfl) (by kernel_rfl) (by kernel_rfl) (fun _ _ _ h => h) (by rfl) ?hyax10 hH ?restax10
              case hyax10 => ((intro W hSw); go_simp; (try with_reducible rfl))
              try simp only [Act.put, List.setIfInBounds_toArray, List.set_cons_zero, List.set_cons_succ]
              refine any_take 11 53 ?vax11 rfl rfl (by kernel_rfl) (by kernel_rfl) (by kernel_rfl) (fun _ _ _ h => h) (by rfl) ?hyax11 hH ?restax11
              case hyax11 => ((intro W hSw); go_simp; (try with_reducible rfl))
              try simp only [Act.put, List.setIfInBounds_toArray, List.set_cons_zero, List.set_cons_succ]
              refine wpAnyH_ready (rs := [6]) (by kernel_rfl) (by simp) ?_
              refine AllReadyH.cons rfl (fun K hK => ?_) AllReadyH.nil
              go_simp
              go_at_call 17
              with_reducible refine CA.out.mono ?_
              rintro y w3 ⟨rfl, hb⟩
              have hb : Below wr.heap.size wr w3 := (Below.refl _ wr).drew.trans (hb.mono (Nat.le_refl _))
              have HB3 := Lib.hid (HBE.out.trans (hb.mono HBE.out.size))
              refine hK.out _ _ (HCELL.out _ hb) (fun hH2 => ?_)
              clear hK K hH hb CA
              try simp only [Act.put, List.setIfInBounds_toArray, List.set_cons_zero, List.set_cons_succ]
              refine any_take 12 54 ?vax12 rfl rfl (by kernel_rfl) (by kernel_rfl) (by kernel_rfl) (fun _ _ _ h => h) (by rfl) ?hyax12 hH2 ?restax12
              case hyax12 => ((intro W hSw); go_simp; (try with_reducible rfl))
              try simp only [Act.put, List.setIfInBounds_toArray, List.set_cons_zero, List.set_cons_succ]
              refine any_take 13 55 ?vax13 rfl rfl (by kernel_rfl) (by kernel_rfl) (by kernel_rfl) (fun _ _ _ h => h) (by rfl) ?hyax13 hH2 ?restax13
              case hyax13 => ((intro W hSw); go_simp; (try with_reducible rfl))
              try simp only [Act.put, List.setIfInBounds_toArray, List.set_cons_zero, List.set_cons_succ]
              refine wpAnyH_done (by kernel_rfl) ?_ _
              refine NoPanic.normal ?_
              clear hH2
              by_cases h2 : z = e
              · have g3 : (((z : Nat) : Int) != ((e : Nat) : Int)) = false := by simp; omega
                have HN := Lib.hid (HNO.out (fun h => h.2 h2))
                clear h2
                go_wp2
                go_roundw
                case rel => exact ⟨k + 1, by omega, by go_num, val_int (by rw [HN.out]), HB3.out⟩
                case measure => simp [intOf]; omega
              · have g3 : (((z : Nat) : Int) != ((e : Nat) : Int)) = true := by simp; omega
                have HY := Lib.hid (HYES.out h1 h2)
                obtain ⟨x', rfl⟩ : ∃ x', x = x' + 1 := ⟨x - 1, by omega⟩
                have hw2 : IntKind.u64.wrap (((x' + 1 : Nat) : Int) - 1) = (x' : Int) := by rw [IntKind.wrap_u64]; omega
                go_wp2
                go_roundw
                case rel => exact ⟨k + 1, by omega, by go_num, val_int (by rw [HY.out]; omega), HB3.out⟩
                case measure => simp [intOf]; omega
            · have g1 : decide ((x : Int) ≤ (f : Int)) = false := by rw [decide_eq_false_iff_not]; omega
              have g2 : decide (x ≤ f) = false := by rw [decide_eq_false_iff_not]; omega
              have HN := Lib.hid (HNO.out (fun h => h1 h.1))
              clear CA HYES HNO HCELL
              go_wp2_with fail
              go_quiet (fail)
              go_wp2
              go_roundw
              case rel => exact ⟨k + 1, by omega, by go_num, val_int (by rw [HN.out]), below_drewN HBE.out _⟩
              case measure => simp [intOf]; omega
          · have hkn : k = n := by omega
            subst hkn
            have hd1 : decide (k < k) = false := by simp
            have HB5 := Lib.hid HBE.out
            generalize fl a b k lb = m2 at *
            go_wp2_with fail
            go_loopw [9, 14] (FkR w m m2 b a) (fun _ i _ => m - (intOf i).toNat)
            case atStart => exact ⟨0, by omega, rfl, rfl, HB5.out⟩
            case round =>
              obtain ⟨k, hk, rfl, rfl, hbel⟩ := hrel
              have HBE := Lib.hid hbel
              clear hbel
              by_cases hlt : k < m
              · obtain ⟨b1, o1, rfl, hat⟩ := (HB.out.below HBE.out).2.2 (by omega)
                obtain ⟨d0, d1⟩ := hat k hlt
                have hkn : (k : Int) < (m : Int) := by omega
                have hpos := (HMB.out.pos (i := k) (by rw [HLB.out]; exact hlt)).2
                have hfit := (HB.out.2.1 k).2
                have hcell := fun W (h : Below wr.heap.size wr W) => (h.cell (block_lt_of_cell d0)).trans d0
                have HCELL := Lib.hid hcell
                clear hat hcell
                have CA := Lib.hid (D1.out wr.drew (HA.out.below HBE.out.drew) (ls b k))
                have HYES := Lib.hid (fun h1 h2 => fl_yes (a := b) (b := a) (k := k) (e := m2) h1 h2)
                have HNO := Lib.hid (fun h => fl_no (a := b) (b := a) (k := k) (e := m2) h)
                generalize ls b k = x at *
                generalize ep b k = e at *
                generalize atS a x = z at *
                generalize hfl : fl b a k m2 = f at *
                have HFL := Lib.hid hfl
                clear hfl
                by_cases h1 : x ≤ f
                · have g1 : decide ((x : Int) ≤ (f : Int)) = true := by rw [decide_eq_true_iff]; omega
                  have g2 : decide (x ≤ f) = true := by rw [decide_eq_true_iff]; omega
                  go_wp2_with fail
                  refine wp_region_noPanic ?_
                  refine wp_region_held_drew (S := fun W => W.cell? ⟨b1, o1 + k * 2, none⟩ = some (.int .u32 (e : Int))) (by kernel_rfl) (d0) (fun hH => ?_)
                  refine any_take 0 69 ?vbx0 rfl rfl (by kernel_rfl) (by kernel_rfl) (by kernel_rfl) (fun _ _ _ h => h) (by rfl) ?hybx0 hH ?restbx0
                  case hybx0 => ((intro W hSw); go_simp; (try with_reducible rfl))
                  try simp only [Act.put, List.setIfInBounds_toArray, List.set_cons_zero, List.set_cons_succ]
                  refine any_take 1 70 ?vbx1 rfl rfl (by kernel_rfl) (by kernel_rfl) (by kernel_rfl) (fun _ _ _ h => h) (by rfl) ?hybx1 hH ?restbx1
                  case hybx1 => ((intro W hSw); go_simp; (try with_reducible rfl))
                  try simp only [Act.put, List.setIfInBounds_toArray, List.set_cons_zero, List.set_cons_succ]
                  refine any_take 2 71 ?vbx2 rfl rfl (by kernel_rfl) (by kernel_rfl) (by kernel_rfl) (fun _ _ _ h => h) (by rfl) ?hybx2 hH ?restbx2
                  case hybx2 => ((intro W hSw); go_simp; (try with_reducible rfl))
                  try simp only [Act.put, List.setIfInBounds_toArray, List.set_cons_zero, List.set_cons_succ]
                  refine any_take 3 72 ?vbx3 rfl rfl (by kernel_rfl) (by kernel_rfl) (by kernel_rfl) (fun _ _ _ h => h) (by rfl) ?hybx3 hH ?restbx3
                  case hybx3 => ((intro W hSw); go_simp; (try with_reducible rfl))
                  try simp only [Act.put, List.setIfInBounds_toArray, List.set_cons_zero, List.set_cons_succ]
                  refine any_take 4 73 ?vbx4 rfl rfl (by kernel_rfl) (by kernel_rfl) (by kernel_rfl) (fun _ _ _ h => h) (by rfl) ?hybx4 hH ?restbx4
                  case hybx4 => ((intro W hSw); go_simp; (try with_reducible rfl))
                  try simp only [Act.put, List.setIfInBounds_toArray, List.set_cons_zero, List.set_cons_succ]
                  refine any_take 5 74 ?vbx5 rfl rfl (by kernel_rfl) (by kernel_rfl) (by kernel_rfl) (fun _ _ _ h => h) (by rfl) ?hybx5 hH ?restbx5
                  case hybx5 => ((intro W hSw); go_simp; (try with_reducible rfl))
                  try simp only [Act.put, List.setIfInBounds_toArray, List.set_cons_zero, List.set_cons_succ]
                  refine any_take 7 76 ?vbx7 rfl rfl (by kernel_rfl) (by kernel_rfl) (by kernel_rfl) (fun _ _ _ h => h) (by rfl) ?hybx7 hH ?restbx7
                  case hybx7 => ((intro W hSw); go_simp; (try with_reducible rfl))
                  try simp only [Act.put, List.setIfInBounds_toArray, List.set_cons_zero, List.set_cons_succ]
                  refine any_take 8 77 ?vbx8 rfl rfl (by kernel_rfl) (by kernel_rfl) (by kernel_rfl) (fun _ _ _ h => h) (by rfl) ?hybx8 hH ?restbx8
                  case hybx8 => ((intro W hSw); go_simp; (try with_reducible rfl))
                  try simp only [Act.put, List.setIfInBounds_toArray, List.set_cons_zero, List.set_cons_succ]
                  refine any_take 9 78 ?vbx9 rfl rfl (by kernel_rfl) (by kernel_rfl) (by kernel_rfl) (fun _ _ _ h => h) (by rfl) ?hybx9 hH ?restbx9
                  case hybx9 => ((intro W hSw); go_simp; (try with_reducible rfl))
                  try simp only [Act.put, List.setIfInBounds_toArray, List.set_cons_zero, List.set_cons_succ]
                  refine any_take 10 79 ?vbx10 rfl rfl (by kernel_rfl) (by kernel_rfl) (by kernel_rfl) (fun _ _ _ h => h) (by rfl) ?hybx10 hH ?restbx10
                  case hybx10 => ((intro W hSw); go_simp; (try with_reducible rfl))
                  try simp only [Act.put, List.setIfInBounds_toArray, List.set_cons_zero, List.set_cons_succ]
                  refine any_take 11 80 ?vbx11 rfl rfl (by kernel_rfl) (by kernel_rfl) (by kernel_rfl) (fun _ _ _ h => h) (by rfl) ?hybx11 hH ?restbx11
                  case hybx11 => ((intro W hSw); go_simp; (try with_reducible rfl))
                  try simp only [Act.put, List.setIfInBounds_toArray, List.set_cons_zero, List.set_cons_succ]
                  refine wpAnyH_ready (rs := [6]) (by kernel_rfl) (by simp) ?_
                  refine AllReadyH.cons rfl (fun K hK => ?_) AllReadyH.nil
                  go_simp
                  go_at_call 17
                  with_reducible refine CA.out.mono ?_
                  rintro y w3 ⟨rfl, hb⟩
                  have hb : Below wr.heap.size wr w3 := (Below.refl _ wr).drew.trans (hb.mono (Nat.le_refl _))
                  have HB3 := Lib.hid (HBE.out.trans (hb.mono HBE.out.size))
                  refine hK.out _ _ (HCELL.out _ hb) (fun hH2 => ?_)
                  clear hK K hH hb CA
                  try simp only [Act.put, List.setIfInBounds_toArray, List.set_cons_zero, List.set_cons_succ]
                  refine any_take 12 81 ?vbx12 rfl rfl (by kernel_rfl) (by kernel_rfl) (by kernel_rfl) (fun _ _ _ h => h) (by rfl) ?hybx12 hH2 ?restbx12
                  case hybx12 => ((intro W hSw); go_simp; (try with_reducible rfl))
                  try simp only [Act.put, List.setIfInBounds_toArray, List.set_cons_zero, List.set_cons_succ]
                  refine any_take 13 82 ?vbx13 rfl rfl (by kernel_rfl) (by kernel_rfl) (by kernel_rfl) (fun _ _ _ h => h) (by rfl) ?hybx13 hH2 ?restbx13
                  case hybx13 => ((intro W hSw); go_simp; (try with_reducible rfl))
                  try simp only [Act.put, List.setIfInBounds_toArray, List.set_cons_zero, List.set_cons_succ]
                  refine wpAnyH_done (by kernel_rfl) ?_ _
                  refine NoPanic.normal ?_
                  clear hH2
                  by_cases h2 : z = e
                  · have g3 : (((z : Nat) : Int) != ((e : Nat) : Int)) = false := by simp; omega
                    have HN := Lib.hid (HNO.out (fun h => h.2 h2))
                    clear h2
                    go_wp2
                    go_roundw
                    case rel => exact ⟨k + 1, by omega, by go_num, val_int (by rw [HN.out]), HB3.out⟩
                    case measure => simp [intOf]; omega
                  · have g3 : (((z : Nat) : Int) != ((e : Nat) : Int)) = true := by simp; omega
                    have HY := Lib.hid (HYES.out h1 h2)
                    obtain ⟨x', rfl⟩ : ∃ x', x = x' + 1 := ⟨x - 1, by omega⟩
                    have hw2 : IntKind.u64.wrap (((x' + 1 : Nat) : Int) - 1) = (x' : Int) := by rw [IntKind.wrap_u64]; omega
                    go_wp2
                    go_roundw
                    case rel => exact ⟨k + 1, by omega, by go_num, val_int (by rw [HY.out]; omega), HB3.out⟩
                    case measure => simp [intOf]; omega
                · have g1 : decide ((x : Int) ≤ (f : Int)) = false := by rw [decide_eq_false_iff_not]; omega
                  have g2 : decide (x ≤ f) = false := by rw [decide_eq_false_iff_not]; omega
                  have HN := Lib.hid (HNO.out (fun h => h1 h.1))
                  clear CA HYES HNO HCELL
                  go_wp2_with fail
                  go_quiet (fail)
                  go_wp2
                  go_roundw
                  case rel => exact ⟨k + 1, by omega, by go_num, val_int (by rw [HN.out]), below_drewN HBE.out _⟩
                  case measure => simp [intOf]; omega
              · have hkn : k = m := by omega
                subst hkn
                generalize hfl : fl b a k m2 = f at *
                have HFL := Lib.hid hfl
                clear hfl
                have hd1 : decide (k < k) = false := by simp
                go_wp2
                go_ret
                exact ⟨ret_int (by rw [← HR.out]), HBE.out⟩
      · have CB0 : ((chk b : Nat) : Int) = 60 := by rw [hd]; rfl
        have HR := Lib.hid (HF.out (fun h => hM2 h.2))
        have HC0 := Lib.hid CA0
        have HD0 := Lib.hid CB0
        clear hM hM2 hc hd CA0 CB0 HF HFK
        go_enter Try.func21, Try.ntmps21
        go_wp2_with fail
        with_reducible refine (C1.out _ HA.out).mono ?_
        rintro y w2 ⟨rfl, hb⟩
        rw [HC0.out]
        have HB2 := Lib.hid hb
        clear hb
        go_wp2_with fail
        with_reducible refine (C2.out _ (HB.out.below HB2.out)).mono ?_
        rintro y w3 ⟨rfl, hb⟩
        rw [HD0.out]
        have HB4 := Lib.hid (HB2.out.trans (hb.mono HB2.out.size))
        clear hb C1 C2
        go_wp2
        go_ret
        exact ⟨ret_int (by rw [HR.out]; rfl), HB4.out⟩
    · have CA0 : ((chk a : Nat) : Int) = 60 := by rw [hc]; rfl
      have HR := Lib.hid (HF.out (fun h => hM h.1))
      have HC0 := Lib.hid CA0
      clear hM hc CA0 HF HFK
      obtain ⟨cb, hcb⟩ : ∃ c, chk b = c := ⟨_, rfl⟩
      rw [hcb] at C2
      clear hcb
      go_enter Try.func21, Try.ntmps21
      go_wp2_with fail
      with_reducible refine (C1.out _ HA.out).mono ?_
      rintro y w2 ⟨rfl, hb⟩
      rw [HC0.out]
      have HB2 := Lib.hid hb
      clear hb
      go_wp2_with fail
      with_reducible refine (C2.out _ (HB.out.below HB2.out)).mono ?_
      rintro y w3 ⟨rfl, hb⟩
      have HB4 := Lib.hid (HB2.out.trans (hb.mono HB2.out.size))
      clear hb C1 C2
      go_wp2
      go_ret
      exact ⟨ret_int (by rw [HR.out]; rfl), HB4.out⟩
  · have gd := hlt0
    rcases chk_cases a with ⟨hM, hc⟩ | ⟨hM, hc⟩
    · have CA0 : ((chk a : Nat) : Int) = 0 := by rw [hc]; rfl
      rcases chk_cases b with ⟨hM2, hd⟩ | ⟨hM2, hd⟩
      · have CB0 : ((chk b : Nat) : Int) = 0 := by rw [hd]; rfl
        have HR := Lib.hid (HFK.out hM hM2)
        have HMA := Lib.hid hM
        have HMB := Lib.hid hM2
        rw [show min la lb = la from by omega] at HR
        have HC0 := Lib.hid CA0
        have HD0 := Lib.hid CB0
        clear hM hM2 hc hd CA0 CB0 HF HFK
        go_enter Try.func21, Try.ntmps21
        go_wp2_with fail
        with_reducible refine (C1.out _ HA.out).mono ?_
        rintro y w2 ⟨rfl, hb⟩
        rw [HC0.out]
        have HB2 := Lib.hid hb
        clear hb
        go_wp2_with fail
        with_reducible refine (C2.out _ (HB.out.below HB2.out)).mono ?_
        rintro y w3 ⟨rfl, hb⟩
        rw [HD0.out]
        have HB4 := Lib.hid (HB2.out.trans (hb.mono HB2.out.size))
        clear hb C1 C2
        go_wp2_with fail
        go_loopw [9, 12] (FkR w n la a b) (fun _ i _ => n - (intOf i).toNat)
        case atStart => exact ⟨0, by omega, rfl, rfl, HB4.out⟩
        case round =>
          obtain ⟨k, hk, rfl, rfl, hbel⟩ := hrel
          have HBE := Lib.hid hbel
          clear hbel
          by_cases hlt : k < n
          · obtain ⟨b1, o1, rfl, hat⟩ := (HA.out.below HBE.out).2.2 (by omega)
            obtain ⟨d0, d1⟩ := hat k hlt
            have hkn : (k : Int) < (n : Int) := by omega
            have hpos := (HMA.out.pos (i := k) (by rw [HLA.out]; exact hlt)).2
            have hfit := (HA.out.2.1 k).2
            have hcell := fun W (h : Below wr.heap.size wr W) => (h.cell (block_lt_of_cell d0)).trans d0
            have HCELL := Lib.hid hcell
            clear hat hcell
            have CA := Lib.hid (D2.out wr.drew (HB.out.below HBE.out.drew) (ls a k))
            have HYES := Lib.hid (fun h1 h2 => fl_yes (a := a) (b := b) (k := k) (e := la) h1 h2)
            have HNO := Lib.hid (fun h => fl_no (a := a) (b := b) (k := k) (e := la) h)
            generalize ls a k = x at *
            generalize ep a k = e at *
            generalize atS b x = z at *
            generalize hfl : fl a b k la = f at *
            have HFL := Lib.hid hfl
            clear hfl
            by_cases h1 : x ≤ f
            · have g1 : decide ((x : Int) ≤ (f : Int)) = true := by rw [decide_eq_true_iff]; omega
              have g2 : decide (x ≤ f) = true := by rw [decide_eq_true_iff]; omega
              go_wp2_with fail
              refine wp_region_noPanic ?_
              refine wp_region_held_drew (S := fun W => W.cell? ⟨b1, o1 + k * 2, none⟩ = some (.int .u32 (e : Int))) (by kernel_rfl) (d0) (fun hH => ?_)
              refine any_take 0 42 ?vay0 rfl rfl (by kernel_rfl) (by kernel_rfl) (by kernel_rfl) (fun _ _ _ h => h) (by rfl) ?hyay0 hH ?restay0
              case hyay0 => ((intro W hSw); go_simp; (try with_reducible rfl))
              try simp only [Act.put, List.setIfInBounds_toArray, List.set_cons_zero, List.set_cons_succ]
              refine any_take 1 43 ?vay1 rfl rfl (by kernel_rfl) (by kernel_rfl) (by kernel_rfl) (fun _ _ _ h => h) (by rfl) ?hyay1 hH ?restay1
              case hyay1 => ((intro W hSw); go_simp; (try with_reducible rfl))
              try simp only [Act.put, List.setIfInBounds_toArray, List.set_cons_zero, List.set_cons_succ]
              refine any_take 2 44 ?vay2 rfl rfl (by kernel_rfl) (by kernel_rfl) (by kernel_rfl) (fun _ _ _ h => h) (by rfl) ?hyay2 hH ?restay2
              case hyay2 => ((intro W hSw); go_simp; (try with_reducible rfl))
              try simp only [Act.put, List.setIfInBounds_toArray, List.set_cons_zero, List.set_cons_succ]
              refine any_take 3 45 ?vay3 rfl rfl (by kernel_rfl) (by kernel_rfl) (by kernel_rfl) (fun _ _ _ h => h) (by rfl) ?hyay3 hH ?restay3
              case hyay3 => ((intro W hSw); go_simp; (try with_reducible rfl))
              try simp only [Act.put, List.setIfInBounds_toArray, List.set_cons_zero, List.set_cons_succ]
              refine any_take 4 46 ?vay4 rfl rfl (by kernel_rfl) (by kernel_rfl) (by kernel_rfl) (fun _ _ _ h => h) (by rfl) ?hyay4 hH ?restay4
              case hyay4 => ((intro W hSw); go_simp; (try with_reducible rfl))
              try simp only [Act.put, List.setIfInBounds_toArray, List.set_cons_zero, List.set_cons_succ]
              refine any_take 5 47 ?vay5 rfl rfl (by kernel_rfl) (by kernel_rfl) (by kernel_rfl) (fun _ _ _ h => h) (by rfl) ?hyay5 hH ?restay5
              case hyay5 => ((intro W hSw); go_simp; (try with_reducible rfl))
              try simp only [Act.put, List.setIfInBounds_toArray, List.set_cons_zero, List.set_cons_succ]
              refine any_take 7 49 ?vay7 rfl rfl (by kernel_rfl) (by kernel_rfl) (by kernel_rfl) (fun _ _ _ h => h) (by rfl) ?hyay7 hH ?restay7
              case hyay7 => ((intro W hSw); go_simp; (try with_reducible rfl))
              try simp only [Act.put, List.setIfInBounds_toArray, List.set_cons_zero, List.set_cons_succ]
              refine any_take 8 50 ?vay8 rfl rfl (by kernel_rfl) (by kernel_rfl) (by kernel_rfl) (fun _ _ _ h => h) (by rfl) ?hyay8 hH ?restay8
              case hyay8 => ((intro W hSw); go_simp; (try with_reducible rfl))
              try simp only [Act.put, List.setIfInBounds_toArray, List.set_cons_zero, List.set_cons_succ]
              refine any_take 9 51 ?vay9 rfl rfl (by kernel_rfl) (by kernel_rfl) (by kernel_rfl) (fun _ _ _ h => h) (by rfl) ?hyay9 hH ?restay9
              case hyay9 => ((intro W hSw); go_simp; (try with_reducible rfl))
              try simp only [Act.put, List.setIfInBounds_toArray, List.set_cons_zero, List.set_cons_succ]
              refine any_take 10 52 ?vay10 rfl rfl (by kernel_rfl) (by kernel_rfl) (by kernel_rfl) (fun _ _ _ h => h) (by rfl) ?hyay10 hH ?restay10
              case hyay10 => ((intro W hSw); go_simp; (try with_reducible rfl))
              try simp only [Act.put, List.setIfInBounds_toArray, List.set_cons_zero, List.set_cons_succ]
              refine any_take 11 53 ?vay11 rfl rfl (by kernel_rfl) (by kernel_rfl) (by kernel_rfl) (fun _ _ _ h => h) (by rfl) ?hyay11 hH ?restay11
              case hyay11 => ((intro W hSw); go_simp; (try with_reducible rfl))
              try simp only [Act.put, List.setIfInBounds_toArray, List.set_cons_zero, List.set_cons_succ]
              refine wpAnyH_ready (rs := [6]) (by kernel_rfl) (by simp) ?_
              refine AllReadyH.cons rfl (fun K hK => ?_) AllReadyH.nil
              go_simp
              go_at_call 17
              with_reducible refine CA.out.mono ?_
              rintro y w3 ⟨rfl, hb⟩
              have hb : Below wr.heap.size wr w3 := (Below.refl _ wr).drew.trans (hb.mono (Nat.le_refl _))
              have HB3 := Lib.hid (HBE.out.trans (hb.mono HBE.out.size))
              refine hK.out _ _ (HCELL.out _ hb) (fun hH2 => ?_)
              clear hK K hH hb CA
              try simp only [Act.put, List.setIfInBounds_toArray, List.set_cons_zero, List.set_cons_succ]
              refine any_take 12 54 ?vay12 rfl rfl (by kernel_rfl) (by kernel_rfl) (by kernel_rfl) (fun _ _ _ h => h) (by rfl) ?hyay12 hH2 ?restay12
              case hyay12 => ((intro W hSw); go_simp; (try with_reducible rfl))
              try simp only [Act.put, List.setIfInBounds_toArray, List.set_cons_zero, List.set_cons_succ]
              refine any_take 13 55 ?vay13 rfl rfl (by kernel_rfl) (by kernel_rfl) (by kernel_rfl) (fun _ _ _ h => h) (by rfl) ?hyay13 hH2 ?restay13
              case hyay13 => ((intro W hSw); go_simp; (try with_reducible rfl))
              try simp only [Act.put, List.setIfInBounds_toArray, List.set_cons_zero, List.set_cons_succ]
              refine wpAnyH_done (by kernel_rfl) ?_ _
              refine NoPanic.normal ?_
              clear hH2
              by_cases h2 : z = e
              · have g3 : (((z : Nat) : Int) != ((e : Nat) : Int)) = false := by simp; omega
                have HN := Lib.hid (HNO.out (fun h => h.2 h2))
                clear h2
                go_wp2
                go_roundw
                case rel => exact ⟨k + 1, by omega, by go_num, val_int (by rw [HN.out]), HB3.out⟩
                case measure => simp [intOf]; omega
              · have g3 : (((z : Nat) : Int) != ((e : Nat) : Int)) = true := by simp; omega
                have HY := Lib.hid (HYES.out h1 h2)
                obtain ⟨x', rfl⟩ : ∃ x', x = x' + 1 := ⟨x - 1, by omega⟩
                have hw2 : IntKind.u64.wrap (((x' + 1 : Nat) : Int) - 1) = (x' : Int) := by rw [IntKind.wrap_u64]; omega
                go_wp2
                go_roundw
                case rel => exact ⟨k + 1, by omega, by go_num, val_int (by rw [HY.out]; omega), HB3.out⟩
                case measure => simp [intOf]; omega
            · have g1 : decide ((x : Int) ≤ (f : Int)) = false := by rw [decide_eq_false_iff_not]; omega
              have g2 : decide (x ≤ f) = false := by rw [decide_eq_false_iff_not]; omega
              have HN := Lib.hid (HNO.out (fun h => h1 h.1))
              clear CA HYES HNO HCELL
              go_wp2_with fail
              go_quiet (fail)
              go_wp2
              go_roundw
              case rel => exact ⟨k + 1, by omega, by go_num, val_int (by rw [HN.out]), below_drewN HBE.out _⟩
              case measure => simp [intOf]; omega
          · have hkn : k = n := by omega
            subst hkn
            have hd1 : decide (k < k) = false := by simp
            have HB5 := Lib.hid HBE.out
            generalize fl a b k la = m2 at *
            go_wp2_with fail
            go_loopw [9, 14] (FkR w m m2 b a) (fun _ i _ => m - (intOf i).toNat)
            case atStart => exact ⟨0, by omega, rfl, rfl, HB5.out⟩
            case round =>
              obtain ⟨k, hk, rfl, rfl, hbel⟩ := hrel
              have HBE := Lib.hid hbel
              clear hbel
              by_cases hlt : k < m
              · obtain ⟨b1, o1, rfl, hat⟩ := (HB.out.below HBE.out).2.2 (by omega)
                obtain ⟨d0, d1⟩ := hat k hlt
                have hkn : (k : Int) < (m : Int) := by omega
                have hpos := (HMB.out.pos (i := k) (by rw [HLB.out]; exact hlt)).2
                have hfit := (HB.out.2.1 k).2
                have hcell := fun W (h : Below wr.heap.size wr W) => (h.cell (block_lt_of_cell d0)).trans d0
                have HCELL := Lib.hid hcell
                clear hat hcell
                have CA := Lib.hid (D1.out wr.drew (HA.out.below HBE.out.drew) (ls b k))
                have HYES := Lib.hid (fun h1 h2 => fl_yes (a := b) (b := a) (k := k) (e := m2) h1 h2)
                have HNO := Lib.hid (fun h => fl_no (a := b) (b := a) (k := k) (e := m2) h)
                generalize ls b k = x at *
                generalize ep b k = e at *
                generalize atS a x = z at *
                generalize hfl : fl b a k m2 = f at *
                have HFL := Lib.hid hfl
                clear hfl
                by_cases h1 : x ≤ f
                · have g1 : decide ((x : Int) ≤ (f : Int)) = true := by rw [decide_eq_true_iff]; omega
                  have g2 : decide (x ≤ f) = true := by rw [decide_eq_true_iff]; omega
                  go_wp2_with fail
                  refine wp_region_noPanic ?_
                  refine wp_region_held_drew (S := fun W => W.cell? ⟨b1, o1 + k * 2, none⟩ = some (.int .u32 (e : Int))) (by kernel_rfl) (d0) (fun hH => ?_)
                  refine any_take 0 69 ?vby0 rfl rfl (by kernel_rfl) (by kernel_rfl) (by kernel_rfl) (fun _ _ _ h => h) (by rfl) ?hyby0 hH ?restby0
                  case hyby0 => ((intro W hSw); go_simp; (try with_reducible rfl))
                  try simp only [Act.put, List.setIfInBounds_toArray, List.set_cons_zero, List.set_cons_succ]
                  refine any_take 1 70 ?vby1 rfl rfl (by kernel_rfl) (by kernel_rfl) (by kernel_rfl) (fun _ _ _ h => h) (by rfl) ?hyby1 hH ?restby1
                  case hyby1 => ((intro W hSw); go_simp; (try with_reducible rfl))
                  try simp only [Act.put, List.setIfInBounds_toArray, List.set_cons_zero, List.set_cons_succ]
                  refine any_take 2 71 ?vby2 rfl rfl (by kernel_rfl) (by kernel_rfl) (by kernel_rfl) (fun _ _ _ h => h) (by rfl) ?hyby2 hH ?restby2
                  case hyby2 => ((intro W hSw); go_simp; (try with_reducible rfl))
                  try simp only [Act.put, List.setIfInBounds_toArray, List.set_cons_zero, List.set_cons_succ]
                  refine any_take 3 72 ?vby3 rfl rfl (by kernel_rfl) (by kernel_rfl) (by kernel_rfl) (fun _ _ _ h => h) (by rfl) ?hyby3 hH ?restby3
                  case hyby3 => ((intro W hSw); go_simp; (try with_reducible rfl))
                  try simp only [Act.put, List.setIfInBounds_toArray, List.set_cons_zero, List.set_cons_succ]
                  refine any_take 4 73 ?vby4 rfl rfl (by kernel_rfl) (by kernel_rfl) (by kernel_rfl) (fun _ _ _ h => h) (by rfl) ?hyby4 hH ?restby4
                  case hyby4 => ((intro W hSw); go_simp; (try with_reducible rfl))
                  try simp only [Act.put, List.setIfInBounds_toArray, List.set_cons_zero, List.set_cons_succ]
                  refine any_take 5 74 ?vby5 rfl rfl (by kernel_rfl) (by kernel_rfl) (by kernel_rfl) (fun _ _ _ h => h) (by rfl) ?hyby5 hH ?restby5
                  case hyby5 => ((intro W hSw); go_simp; (try with_reducible rfl))
                  try simp only [Act.put, List.setIfInBounds_toArray, List.set_cons_zero, List.set_cons_succ]
                  refine any_take 7 76 ?vby7 rfl rfl (by kernel_rfl) (by kernel_rfl) (by kernel_rfl) (fun _ _ _ h => h) (by rfl) ?hyby7 hH ?restby7
                  case hyby7 => ((intro W hSw); go_simp; (try with_reducible rfl))
                  try simp only [Act.put, List.setIfInBounds_toArray, List.set_cons_zero, List.set_cons_succ]
                  refine any_take 8 77 ?vby8 rfl rfl (by kernel_rfl) (by kernel_rfl) (by kernel_rfl) (fun _ _ _ h => h) (by rfl) ?hyby8 hH ?restby8
                  case hyby8 => ((intro W hSw); go_simp; (try with_reducible rfl))
                  try simp only [Act.put, List.setIfInBounds_toArray, List.set_cons_zero, List.set_cons_succ]
                  refine any_take 9 78 ?vby9 rfl rfl (by kernel_rfl) (by kernel_rfl) (by kernel_rfl) (fun _ _ _ h => h) (by rfl) ?hyby9 hH ?restby9
                  case hyby9 => ((intro W hSw); go_simp; (try with_reducible rfl))
                  try simp only [Act.put, List.setIfInBounds_toArray, List.set_cons_zero, List.set_cons_succ]
                  refine any_take 10 79 ?vby10 rfl rfl (by kernel_rfl) (by kernel_rfl) (by kernel_rfl) (fun _ _ _ h => h) (by rfl) ?hyby10 hH ?restby10
                  case hyby10 => ((intro W hSw); go_simp; (try with_reducible rfl))
                  try simp only [Act.put, List.setIfInBounds_toArray, List.set_cons_zero, List.set_cons_succ]
                  refine any_take 11 80 ?vby11 rfl rfl (by kernel_rfl) (by kernel_rfl) (by kernel_rfl) (fun _ _ _ h => h) (by rfl) ?hyby11 hH ?restby11
                  case hyby11 => ((intro W hSw); go_simp; (try with_reducible rfl))
                  try simp only [Act.put, List.setIfInBounds_toArray, List.set_cons_zero, List.set_cons_succ]
                  refine wpAnyH_ready (rs := [6]) (by kernel_rfl) (by simp) ?_
                  refine AllReadyH.cons rfl (fun K hK => ?_) AllReadyH.nil
                  go_simp
                  go_at_call 17
                  with_reducible refine CA.out.mono ?_
                  rintro y w3 ⟨rfl, hb⟩
                  have hb : Below wr.heap.size wr w3 := (Below.refl _ wr).drew.trans (hb.mono (Nat.le_refl _))
                  have HB3 := Lib.hid (HBE.out.trans (hb.mono HBE.out.size))
                  refine hK.out _ _ (HCELL.out _ hb) (fun hH2 => ?_)
                  clear hK K hH hb CA
                  try simp only [Act.put, List.setIfInBounds_toArray, List.set_cons_zero, List.set_cons_succ]
                  refine any_take 12 81 ?vby12 rfl rfl (by kernel_rfl) (by kernel_rfl) (by kernel_rfl) (fun _ _ _ h => h) (by rfl) ?hyby12 hH2 ?restby12
                  case hyby12 => ((intro W hSw); go_simp; (try with_reducible rfl))
                  try simp only [Act.put, List.setIfInBounds_toArray, List.set_cons_zero, List.set_cons_succ]
                  refine any_take 13 82 ?vby13 rfl rfl (by kernel_rfl) (by kernel_rfl) (by kernel_rfl) (fun _ _ _ h => h) (by rfl) ?hyby13 hH2 ?restby13
                  case hyby13 => ((intro W hSw); go_simp; (try with_reducible rfl))
                  try simp only [Act.put, List.setIfInBounds_toArray, List.set_cons_zero, List.set_cons_succ]
                  refine wpAnyH_done (by kernel_rfl) ?_ _
                  refine NoPanic.normal ?_
                  clear hH2
                  by_cases h2 : z = e
                  · have g3 : (((z : Nat) : Int) != ((e : Nat) : Int)) = false := by simp; omega
                    have HN := Lib.hid (HNO.out (fun h => h.2 h2))
                    clear h2
                    go_wp2
                    go_roundw
                    case rel => exact ⟨k + 1, by omega, by go_num, val_int (by rw [HN.out]), HB3.out⟩
                    case measure => simp [intOf]; omega
                  · have g3 : (((z : Nat) : Int) != ((e : Nat) : Int)) = true := by simp; omega
                    have HY := Lib.hid (HYES.out h1 h2)
                    obtain ⟨x', rfl⟩ : ∃ x', x = x' + 1 := ⟨x - 1, by omega⟩
                    have hw2 : IntKind.u64.wrap (((x' + 1 : Nat) : Int) - 1) = (x' : Int) := by rw [IntKind.wrap_u64]; omega
                    go_wp2
                    go_roundw
                    case rel => exact ⟨k + 1, by omega, by go_num, val_int (by rw [HY.out]; omega), HB3.out⟩
                    case measure => simp [intOf]; omega
                · have g1 : decide ((x : Int) ≤ (f : Int)) = false := by rw [decide_eq_false_iff_not]; omega
                  have g2 : decide (x ≤ f) = false := by rw [decide_eq_false_iff_not]; omega
                  have HN := Lib.hid (HNO.out (fun h => h1 h.1))
                  clear CA HYES HNO HCELL
                  go_wp2_with fail
                  go_quiet (fail)
                  go_wp2
                  go_roundw
                  case rel => exact ⟨k + 1, by omega, by go_num, val_int (by rw [HN.out]), below_drewN HBE.out _⟩
                  case measure => simp [intOf]; omega
              · have hkn : k = m := by omega
                subst hkn
                generalize hfl : fl b a k m2 = f at *
                have HFL := Lib.hid hfl
                clear hfl
                have hd1 : decide (k < k) = false := by simp
                go_wp2
                go_ret
                exact ⟨ret_int (by rw [← HR.out]), HBE.out⟩
      · have CB0 : ((chk b : Nat) : Int) = 60 := by rw [hd]; rfl
        have HR := Lib.hid (HF.out (fun h => hM2 h.2))
        have HC0 := Lib.hid CA0
        have HD0 := Lib.hid CB0
        clear hM hM2 hc hd CA0 CB0 HF HFK
        go_enter Try.func21, Try.ntmps21
        go_wp2_with fail
        with_reducible refine (C1.out _ HA.out).mono ?_
        rintro y w2 ⟨rfl, hb⟩
        rw [HC0.out]
        have HB2 := Lib.hid hb
        clear hb
        go_wp2_with fail
        with_reducible refine (C2.out _ (HB.out.below HB2.out)).mono ?_
        rintro y w3 ⟨rfl, hb⟩
        rw [HD0.out]
        have HB4 := Lib.hid (HB2.out.trans (hb.mono HB2.out.size))
        clear hb C1 C2
        go_wp2
        go_ret
        exact ⟨ret_int (by rw [HR.out]; rfl), HB4.out⟩
    · have CA0 : ((chk a : Nat) : Int) = 60 := by rw [hc]; rfl
      have HR := Lib.hid (HF.out (fun h => hM h.1))
      have HC0 := Lib.hid CA0
      clear hM hc CA0 HF HFK
      obtain ⟨cb, hcb⟩ : ∃ c, chk b = c := ⟨_, rfl⟩
      rw [hcb] at C2
      clear hcb
      go_enter Try.func21, Try.ntmps21
      go_wp2_with fail
      with_reducible refine (C1.out _ HA.out).mono ?_
      rintro y w2 ⟨rfl, hb⟩
      rw [HC0.out]
      have HB2 := Lib.hid hb
      clear hb
      go_wp2_with fail
      with_reducible refine (C2.out _ (HB.out.below HB2.out)).mono ?_
      rintro y w3 ⟨rfl, hb⟩
      have HB4 := Lib.hid (HB2.out.trans (hb.mono HB2.out.size))
      clear hb C1 C2
      go_wp2
      go_ret
      exact ⟨ret_int (by rw [HR.out]; rfl), HB4.out⟩

end Go.Proofs.Ytngnfgnaagbpjaa
