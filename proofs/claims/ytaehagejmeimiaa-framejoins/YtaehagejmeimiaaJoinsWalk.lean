/-
  The walk of FrameJoins, out of the contracts.
-/
import Derived.Test.YtaehagejmeimiaaRowOut
namespace Go.Proofs.Ytaehagejmeimiaa
open Go.RowKit

def JnR (good : List (List Nat)) (n : Nat) (x i : Value) : Prop := ∃ k : Nat, k ≤ n ∧ i = .int .i64 k ∧ x = .int .i64 ((Frm.row (good.take k)).length : Nat)

set_option maxRecDepth 100000 in
set_option maxHeartbeats 2000000 in
theorem frameJoins_walk (a : Option Addr) (na ca : Nat) (la : List (List Nat)) (b : Option Addr) (nb cb : Nat) (lb : List (List Nat)) (w : World) (hA : InLists w a na ca la) (hB : InLists w b nb cb lb) :
    Calls Try.prog 9 #[.slice a na ca, .slice b nb cb] w fun e w' => e = .returned (.bool true) ∧ Below w.heap.size w w' := by
  have HA := Lib.hid hA
  have HB := Lib.hid hB
  clear hA hB
  go_enter Try.func9, Try.ntmps9
  go_wp2_with fail
  with_reducible refine (row_out _ _ _ _ _ HA.out).mono ?_
  rintro e w1 ⟨A1, L1, c1, G1, n1, d1, E1, f1, gvs1, good1, rfl, hR1⟩
  have HR1 := Lib.hid hR1
  clear hR1
  have HB1 := Lib.hid (HB.out.below HR1.out.bel)
  go_wp2_with fail
  with_reducible refine (row_out _ _ _ _ _ HB1.out).mono ?_
  rintro e w2 ⟨A2, L2, c2, G2, n2, d2, E2, f2, gvs2, good2, rfl, hR2⟩
  have HR2 := Lib.hid hR2
  clear hR2
  have b1 := HR1.out.bel
  have b2 := HR2.out.bel
  have hb02 := b1.trans (b2.mono b1.size)
  have l1 := HR1.out.lenB
  have l2 := HR2.out.lenB
  have m1 := HR1.out.cntB
  have m2 := HR2.out.cntB
  have HC1 := Lib.hid (HR1.out.cells.below b2)
  have HD1 := Lib.hid (HR1.out.reads.below b2)
  have HX1 := Lib.hid (HR1.out.bys.below b2)
  have HX2 := Lib.hid HR2.out.bys
  have HC2 := Lib.hid HR2.out.cells
  have HD2 := Lib.hid HR2.out.reads
  go_wp2_with fail
  go_loop [11, 12] (JnR good1 n1) (fun _ i => n1 - (intOf i).toNat)
  case atStart => exact ⟨0, by omega, rfl, rfl⟩
  case round =>
    obtain ⟨k, hk, rfl, rfl⟩ := hrel
    by_cases hlt : k < n1
    · obtain ⟨bb, off, rfl, hc⟩ := HC1.out.2 (by omega)
      have hck := hc k hlt
      have hkg : k < good1.length := by rw [HR1.out.cnt]; exact hlt
      have hkv : k < gvs1.length := by rw [HD1.out.1]; exact hkg
      rw [List.getElem?_eq_getElem hkv] at hck
      obtain ⟨Ax, cx, hv, _, _, _, _⟩ := HD1.out.2 k hkv hkg
      rw [hv] at hck
      have hsz := HR1.out.short _ (List.getElem_mem hkg)
      have hln := row_take_len good1 k hkg
      have hle := row_take_le good1 (k + 1)
      rw [HR1.out.len] at hle
      generalize good1[k] = x at *
      have HLN := Lib.hid hln
      clear hc hv hln
      have i1 : (Frm.row (good1.take k)).length ≤ 8008 := by have := HLN.out; omega
      go_wp2_with fail
      with_reducible refine (size_yes _ _ hsz).mono ?_
      rintro e w3 ⟨rfl, rfl⟩
      go_wp2
      go_round
      case rel => exact ⟨k + 1, by omega, by go_num, val_int (by rw [HLN.out]; omega)⟩
      case measure => simp [intOf]; omega
    · have hkn : k = n1 := by omega
      subst hkn
      rw [List.take_of_length_le (by rw [HR1.out.cnt]; exact Nat.le_refl _), HR1.out.len]
      go_wp2_with fail
      with_reducible refine (copy_any _ _ _ _ _ HX1.out HR1.out.capB.2.2 (by omega)).mono ?_
      rintro e w3 ⟨v3, rfl, hO3, hb3⟩
      have HO3 := Lib.hid hO3
      have HX23 := Lib.hid (HX2.out.below hb3)
      have hb03 := hb02.trans (hb3.mono hb02.size)
      clear hO3
      have HL1 := Lib.hid HR1.out.len
      have HL2 := Lib.hid HR2.out.len
      obtain ⟨LZ, hLZ⟩ : ∃ LZ, (Frm.row good1 ++ Frm.row good2).length = LZ := ⟨_, rfl⟩
      have hLZ2 : LZ ≤ 16016 := by rw [← hLZ, List.length_append, HL1.out, HL2.out]; omega
      have HLZ := Lib.hid hLZ
      clear hLZ
      go_wp2_with (first
        | ((with_reducible refine wpl_append (some 48) _ _ _ (.tmp 46) (.tmp 47) w2.heap.size v3 (Frm.row good1) A2 L2 c2 (Frm.row good2) ?hs ?hx HO3.out HX23.out HR2.out.capB.2.2 ?hm hb3.size ?_); (case hs => rfl); (case hx => rfl); (case hm => (rw [HL1.out]; omega)); (intro v4 w4 ho4 hg4 hv4); (obtain ⟨A4, c4, rfl, hB4, hc4, hm4, hz4⟩ := ho4.slice); (rw [HLZ.out] at hB4 hc4 ⊢); (have hb24 := HO3.out.grows hg4 hb3 (Nat.le_refl _) hb3.size); (have HB4 := Lib.hid hB4); (clear ho4 hg4 hv4 hB4 hz4)))
      have hb04 := hb02.trans (hb24.mono hb02.size)
      with_reducible refine (all_any _ _ _ _ _ HB4.out hc4 hm4 (by omega)).mono ?_
      rintro e w5 ⟨v5, vs5, ls5, r5, hS5, ho5, rfl, hR5, hOA5, hb5⟩
      have hshort : Frm.Short (good1 ++ good2) := fun x hx => by
        rcases List.mem_append.1 hx with h | h
        · exact HR1.out.short x h
        · exact HR2.out.short x h
      obtain ⟨rfl, rfl⟩ := hS5.uniq ho5 Frm.opn_nil hshort (by rw [Frm.row_append, List.append_nil])
      have hb25 := hb24.trans (hb5.mono hb24.size)
      have hb05 := hb02.trans (hb25.mono hb02.size)
      rw [Frm.row_append, HLZ.out, Frm.endOf_nil]
      have HR5 := Lib.hid hR5
      have HOA5 := Lib.hid hOA5
      have HC15 := Lib.hid (HC1.out.below hb25)
      have HD15 := Lib.hid (HD1.out.below hb25)
      have HC25 := Lib.hid (HC2.out.below hb25)
      have HD25 := Lib.hid (HD2.out.below hb25)
      clear hR5 hOA5 hS5 ho5
      have hg1 : gvs1.length = k := HC1.out.1
      have HG1 := Lib.hid hg1
      clear hg1
      go_wp2_with (first
        | ((with_reducible refine wpl_appendL (some 57) _ _ _ (.tmp 55) (.tmp 56) w5.heap.size _ [] G1 k d1 gvs1 ?hs ?hx (LRow.nil _ _) HC15.out HD15.out.cell HR1.out.capG.2.2 ?hm (Nat.le_refl _) ?_); (case hs => rfl); (case hx => rfl); (case hm => (simp; omega)); (intro v6 w6 ho6 hg6 hv6); (rw [List.nil_append] at ho6); (have hb56 := LRow.grows (LRow.nil w5 w5.heap.size) hg6 (Below.refl _ _) (Nat.le_refl _) (Nat.le_refl _)); (have HO6 := Lib.hid ho6); (have HC26 := Lib.hid (HC25.out.below hb56)); (have HD26 := Lib.hid (HD25.out.below hb56)); (clear ho6 hg6 hv6))
        | ((with_reducible refine wpl_appendL (some 60) _ _ _ (.tmp 58) (.tmp 59) w5.heap.size _ gvs1 G2 n2 d2 gvs2 ?hs ?hx HO6.out HC26.out HD26.out.cell HR2.out.capG.2.2 ?hm hb56.size ?_); (case hs => rfl); (case hx => rfl); (case hm => (rw [HG1.out]; omega)); (intro v7 w7 ho7 hg7 hv7); (have hb57 := LRow.grows HO6.out hg7 hb56 (Nat.le_refl _) hb56.size); (obtain ⟨A7, c7, rfl, hC7, hc7, hm7, hz7⟩ := ho7.slice); (rw [List.length_append] at hC7 hc7 ⊢); (obtain ⟨A5, c5, rfl, hC5, hc5, hm5, hz5⟩ := (HR5.out.belowRow hb57).slice); (have HC7 := Lib.hid hC7); (have HC5 := Lib.hid hC5); (clear ho7 hg7 hv7 hC7 hC5)))
      have HD7 := Lib.hid ((HD15.out.below hb57).append (HD25.out.below hb57))
      have HD5 := Lib.hid (HOA5.out.reads.below hb57)
      with_reducible refine (sameLists_any _ _ _ _ _ _ _ _ _ _ _ HC5.out HC7.out HD5.out HD7.out (by omega) (by omega)).mono ?_
      rintro e w8 ⟨rfl, q, rfl⟩
      rw [sameLB_self]
      go_wp2_with fail
      with_reducible refine (known_any _).mono ?_
      rintro e w9 ⟨rfl, hb9⟩
      go_wp2
      go_ret
      have hb07 := hb05.trans (hb57.mono hb05.size)
      exact ⟨rfl, hb07.trans ((below_drewN (Below.refl _ _) q : Below w.heap.size w7 (w7.drewN q)).trans (hb9.mono hb07.size))⟩

end Go.Proofs.Ytaehagejmeimiaa
