/-
  The walk of LeaseTells, out of the contracts.
-/
import Derived.Test.YtbcelelmckkaoaaKnown
import Derived.Test.YtbcelelmckkaoaaRegLaw
namespace Go.Proofs.Ytbcelelmckkaoaa
open Go.RowKit
set_option linter.unusedVariables false

set_option maxRecDepth 100000 in
set_option maxHeartbeats 4000000 in
theorem leaseTells_walk (e : Nat) (h : Int) (u : Nat) (m : Int) (now g : Nat) (who : Int) (w : World) (he : e < 4294967296) (hu : u < 18446744073709551616) (hnow : now < 18446744073709551616) (hg : g < 18446744073709551616) (hw : -9223372036854775808 ≤ who ∧ who < 9223372036854775808) :
    Calls Try.prog 3 #[.agg #[.int .u32 (e : Int), .int .i64 h, .int .u64 (u : Int), .int .i64 m], .int .u64 (now : Int), .int .u64 (g : Int), .int .i64 who] w fun x w' => x = .returned (.bool true) ∧ Below w.heap.size w w' := by
  have HB := Lib.hid (below1 w (.cells #[.int .u32 (e : Int), .int .i64 h, .int .u64 (u : Int), .int .i64 m] 25)).drew
  have HL := Lib.hid (Lies.made w 25 #[.int .u32 (e : Int), .int .i64 h, .int .u64 (u : Int), .int .i64 m])
  have C1 := fun W => Lib.hid (check_any e h u m W)
  have C2 := fun W => Lib.hid (rcheck_any e h u m W)
  have C3 := fun W => Lib.hid (free_any e h u m now g W hnow hg)
  have C4 := fun W => Lib.hid (rfree_any e h u m now g W hnow hg)
  have C5 := fun W => Lib.hid (holds_any e h u m who now W)
  have C6 := fun W => Lib.hid (rholds_any e h u m who now W)
  have C7 := fun W => Lib.hid (known_any W)
  generalize chkS e h u m = c at *
  generalize frS e h u m now g = f at *
  generalize hoS e h u m who now = o at *
  go_enter Try.func3, Try.ntmps3
  go_wp2
  refine wp_region_noPanic ?_
  refine wp_region_held_drew (S := fun W => Lies W w.heap.size 25 #[.int .u32 (e : Int), .int .i64 h, .int .u64 (u : Int), .int .i64 m]) (by kernel_rfl) (HL.out) (fun hH0 => ?_)
  refine any_take 0 9 ?vt0 rfl rfl (by kernel_rfl) (by kernel_rfl) (by kernel_rfl) (fun _ _ _ h => h) (by rfl) ?hyt0 hH0 ?restt0
  case hyt0 => ((intro W hSw); obtain ⟨s0, s1, s2, s3⟩ := Lies.cells4 hSw; go_simp; (try with_reducible rfl))
  try simp only [Act.put, List.setIfInBounds_toArray, List.set_cons_zero, List.set_cons_succ]
  refine any_take 2 11 ?vt2 rfl rfl (by kernel_rfl) (by kernel_rfl) (by kernel_rfl) (fun _ _ _ h => h) (by rfl) ?hyt2 hH0 ?restt2
  case hyt2 => ((intro W hSw); obtain ⟨s0, s1, s2, s3⟩ := Lies.cells4 hSw; go_simp; (try with_reducible rfl))
  try simp only [Act.put, List.setIfInBounds_toArray, List.set_cons_zero, List.set_cons_succ]
  refine wpAnyH_ready (rs := [1]) (by kernel_rfl) (by simp) ?_
  refine AllReadyH.cons rfl (fun K hK => ?_) AllReadyH.nil
  go_simp
  go_at_call 10
  with_reducible refine (C1 _).out.mono ?_
  rintro y w1 ⟨rfl, hb⟩
  have L1 : Lies w1 w.heap.size 25 #[.int .u32 (e : Int), .int .i64 h, .int .u64 (u : Int), .int .i64 m] := Lies.below (by exact hH0) hb (Lies.lt (by exact hH0))
  have B1 := Lib.hid (HB.out.trans (hb.mono HB.out.size))
  refine hK.out _ _ (L1) (fun hH1 => ?_)
  clear hK K hH0 hb L1
  try simp only [Act.put, List.setIfInBounds_toArray, List.set_cons_zero, List.set_cons_succ]
  refine wpAnyH_ready (rs := [3]) (by kernel_rfl) (by simp) ?_
  refine AllReadyH.cons rfl (fun K hK => ?_) AllReadyH.nil
  go_simp
  go_at_call 11
  with_reducible refine (C2 _).out.mono ?_
  rintro y w2 ⟨rfl, hb⟩
  have L2 : Lies w2 w.heap.size 25 #[.int .u32 (e : Int), .int .i64 h, .int .u64 (u : Int), .int .i64 m] := Lies.below (by exact hH1) hb (Lies.lt (by exact hH1))
  have B2 := Lib.hid (B1.out.trans (hb.mono B1.out.size))
  refine hK.out _ _ (L2) (fun hH2 => ?_)
  clear hK K hH1 hb L2
  try simp only [Act.put, List.setIfInBounds_toArray, List.set_cons_zero, List.set_cons_succ]
  refine any_take 4 13 ?vt4 rfl rfl (by kernel_rfl) (by kernel_rfl) (by kernel_rfl) (fun _ _ _ h => h) (by rfl) ?hyt4 hH2 ?restt4
  case hyt4 => ((intro W hSw); obtain ⟨s0, s1, s2, s3⟩ := Lies.cells4 hSw; go_simp; (try with_reducible rfl))
  try simp only [Act.put, List.setIfInBounds_toArray, List.set_cons_zero, List.set_cons_succ]
  refine any_take 5 14 ?vt5 rfl rfl (by kernel_rfl) (by kernel_rfl) (by kernel_rfl) (fun _ _ _ h => h) (by rfl) ?hyt5 hH2 ?restt5
  case hyt5 => ((intro W hSw); obtain ⟨s0, s1, s2, s3⟩ := Lies.cells4 hSw; go_simp; (try with_reducible rfl))
  try simp only [Act.put, List.setIfInBounds_toArray, List.set_cons_zero, List.set_cons_succ]
  refine any_take 6 15 ?vt6 rfl rfl (by kernel_rfl) (by kernel_rfl) (by kernel_rfl) (fun _ _ _ h => h) (by rfl) ?hyt6 hH2 ?restt6
  case hyt6 => ((intro W hSw); obtain ⟨s0, s1, s2, s3⟩ := Lies.cells4 hSw; go_simp; (try with_reducible rfl))
  try simp only [Act.put, List.setIfInBounds_toArray, List.set_cons_zero, List.set_cons_succ]
  refine any_take 7 16 ?vt7 rfl rfl (by kernel_rfl) (by kernel_rfl) (by kernel_rfl) (fun _ _ _ h => h) (by rfl) ?hyt7 hH2 ?restt7
  case hyt7 => ((intro W hSw); obtain ⟨s0, s1, s2, s3⟩ := Lies.cells4 hSw; go_simp; (try with_reducible rfl))
  try simp only [Act.put, List.setIfInBounds_toArray, List.set_cons_zero, List.set_cons_succ]
  refine any_take 8 17 ?vt8 rfl rfl (by kernel_rfl) (by kernel_rfl) (by kernel_rfl) (fun _ _ _ h => h) (by rfl) ?hyt8 hH2 ?restt8
  case hyt8 => ((intro W hSw); obtain ⟨s0, s1, s2, s3⟩ := Lies.cells4 hSw; go_simp; (try with_reducible rfl))
  try simp only [Act.put, List.setIfInBounds_toArray, List.set_cons_zero, List.set_cons_succ]
  refine any_take 10 19 ?vt10 rfl rfl (by kernel_rfl) (by kernel_rfl) (by kernel_rfl) (fun _ _ _ h => h) (by rfl) ?hyt10 hH2 ?restt10
  case hyt10 => ((intro W hSw); obtain ⟨s0, s1, s2, s3⟩ := Lies.cells4 hSw; go_simp; (try with_reducible rfl))
  try simp only [Act.put, List.setIfInBounds_toArray, List.set_cons_zero, List.set_cons_succ]
  refine any_take 11 20 ?vt11 rfl rfl (by kernel_rfl) (by kernel_rfl) (by kernel_rfl) (fun _ _ _ h => h) (by rfl) ?hyt11 hH2 ?restt11
  case hyt11 => ((intro W hSw); obtain ⟨s0, s1, s2, s3⟩ := Lies.cells4 hSw; go_simp; (try with_reducible rfl))
  try simp only [Act.put, List.setIfInBounds_toArray, List.set_cons_zero, List.set_cons_succ]
  refine any_take 12 21 ?vt12 rfl rfl (by kernel_rfl) (by kernel_rfl) (by kernel_rfl) (fun _ _ _ h => h) (by rfl) ?hyt12 hH2 ?restt12
  case hyt12 => ((intro W hSw); obtain ⟨s0, s1, s2, s3⟩ := Lies.cells4 hSw; go_simp; (try with_reducible rfl))
  try simp only [Act.put, List.setIfInBounds_toArray, List.set_cons_zero, List.set_cons_succ]
  refine wpAnyH_ready (rs := [9]) (by kernel_rfl) (by simp) ?_
  refine AllReadyH.cons rfl (fun K hK => ?_) AllReadyH.nil
  go_simp
  go_at_call 12
  with_reducible refine (C3 _).out.mono ?_
  rintro y w3 ⟨rfl, hb⟩
  have L3 : Lies w3 w.heap.size 25 #[.int .u32 (e : Int), .int .i64 h, .int .u64 (u : Int), .int .i64 m] := Lies.below (by exact hH2) hb (Lies.lt (by exact hH2))
  have B3 := Lib.hid (B2.out.trans (hb.mono B2.out.size))
  refine hK.out _ _ (L3) (fun hH3 => ?_)
  clear hK K hH2 hb L3
  try simp only [Act.put, List.setIfInBounds_toArray, List.set_cons_zero, List.set_cons_succ]
  refine wpAnyH_ready (rs := [13]) (by kernel_rfl) (by simp) ?_
  refine AllReadyH.cons rfl (fun K hK => ?_) AllReadyH.nil
  go_simp
  go_at_call 13
  with_reducible refine (C4 _).out.mono ?_
  rintro y w4 ⟨rfl, hb⟩
  have L4 : Lies w4 w.heap.size 25 #[.int .u32 (e : Int), .int .i64 h, .int .u64 (u : Int), .int .i64 m] := Lies.below (by exact hH3) hb (Lies.lt (by exact hH3))
  have B4 := Lib.hid (B3.out.trans (hb.mono B3.out.size))
  refine hK.out _ _ (L4) (fun hH4 => ?_)
  clear hK K hH3 hb L4
  try simp only [Act.put, List.setIfInBounds_toArray, List.set_cons_zero, List.set_cons_succ]
  refine any_take 14 23 ?vt14 rfl rfl (by kernel_rfl) (by kernel_rfl) (by kernel_rfl) (fun _ _ _ h => h) (by rfl) ?hyt14 hH4 ?restt14
  case hyt14 => ((intro W hSw); obtain ⟨s0, s1, s2, s3⟩ := Lies.cells4 hSw; go_simp; (try with_reducible rfl))
  try simp only [Act.put, List.setIfInBounds_toArray, List.set_cons_zero, List.set_cons_succ]
  refine any_take 15 24 ?vt15 rfl rfl (by kernel_rfl) (by kernel_rfl) (by kernel_rfl) (fun _ _ _ h => h) (by rfl) ?hyt15 hH4 ?restt15
  case hyt15 => ((intro W hSw); obtain ⟨s0, s1, s2, s3⟩ := Lies.cells4 hSw; go_simp; (try with_reducible rfl))
  try simp only [Act.put, List.setIfInBounds_toArray, List.set_cons_zero, List.set_cons_succ]
  refine any_take 16 25 ?vt16 rfl rfl (by kernel_rfl) (by kernel_rfl) (by kernel_rfl) (fun _ _ _ h => h) (by rfl) ?hyt16 hH4 ?restt16
  case hyt16 => ((intro W hSw); obtain ⟨s0, s1, s2, s3⟩ := Lies.cells4 hSw; go_simp; (try with_reducible rfl))
  try simp only [Act.put, List.setIfInBounds_toArray, List.set_cons_zero, List.set_cons_succ]
  refine any_take 17 26 ?vt17 rfl rfl (by kernel_rfl) (by kernel_rfl) (by kernel_rfl) (fun _ _ _ h => h) (by rfl) ?hyt17 hH4 ?restt17
  case hyt17 => ((intro W hSw); obtain ⟨s0, s1, s2, s3⟩ := Lies.cells4 hSw; go_simp; (try with_reducible rfl))
  try simp only [Act.put, List.setIfInBounds_toArray, List.set_cons_zero, List.set_cons_succ]
  refine any_take 18 27 ?vt18 rfl rfl (by kernel_rfl) (by kernel_rfl) (by kernel_rfl) (fun _ _ _ h => h) (by rfl) ?hyt18 hH4 ?restt18
  case hyt18 => ((intro W hSw); obtain ⟨s0, s1, s2, s3⟩ := Lies.cells4 hSw; go_simp; (try with_reducible rfl))
  try simp only [Act.put, List.setIfInBounds_toArray, List.set_cons_zero, List.set_cons_succ]
  refine any_take 19 28 ?vt19 rfl rfl (by kernel_rfl) (by kernel_rfl) (by kernel_rfl) (fun _ _ _ h => h) (by rfl) ?hyt19 hH4 ?restt19
  case hyt19 => ((intro W hSw); obtain ⟨s0, s1, s2, s3⟩ := Lies.cells4 hSw; go_simp; (try with_reducible rfl))
  try simp only [Act.put, List.setIfInBounds_toArray, List.set_cons_zero, List.set_cons_succ]
  refine any_take 21 30 ?vt21 rfl rfl (by kernel_rfl) (by kernel_rfl) (by kernel_rfl) (fun _ _ _ h => h) (by rfl) ?hyt21 hH4 ?restt21
  case hyt21 => ((intro W hSw); obtain ⟨s0, s1, s2, s3⟩ := Lies.cells4 hSw; go_simp; (try with_reducible rfl))
  try simp only [Act.put, List.setIfInBounds_toArray, List.set_cons_zero, List.set_cons_succ]
  refine any_take 22 31 ?vt22 rfl rfl (by kernel_rfl) (by kernel_rfl) (by kernel_rfl) (fun _ _ _ h => h) (by rfl) ?hyt22 hH4 ?restt22
  case hyt22 => ((intro W hSw); obtain ⟨s0, s1, s2, s3⟩ := Lies.cells4 hSw; go_simp; (try with_reducible rfl))
  try simp only [Act.put, List.setIfInBounds_toArray, List.set_cons_zero, List.set_cons_succ]
  refine any_take 23 32 ?vt23 rfl rfl (by kernel_rfl) (by kernel_rfl) (by kernel_rfl) (fun _ _ _ h => h) (by rfl) ?hyt23 hH4 ?restt23
  case hyt23 => ((intro W hSw); obtain ⟨s0, s1, s2, s3⟩ := Lies.cells4 hSw; go_simp; (try with_reducible rfl))
  try simp only [Act.put, List.setIfInBounds_toArray, List.set_cons_zero, List.set_cons_succ]
  refine wpAnyH_ready (rs := [20]) (by kernel_rfl) (by simp) ?_
  refine AllReadyH.cons rfl (fun K hK => ?_) AllReadyH.nil
  go_simp
  go_at_call 14
  with_reducible refine (C5 _).out.mono ?_
  rintro y w5 ⟨rfl, hb⟩
  have L5 : Lies w5 w.heap.size 25 #[.int .u32 (e : Int), .int .i64 h, .int .u64 (u : Int), .int .i64 m] := Lies.below (by exact hH4) hb (Lies.lt (by exact hH4))
  have B5 := Lib.hid (B4.out.trans (hb.mono B4.out.size))
  refine hK.out _ _ (L5) (fun hH5 => ?_)
  clear hK K hH4 hb L5
  try simp only [Act.put, List.setIfInBounds_toArray, List.set_cons_zero, List.set_cons_succ]
  refine wpAnyH_ready (rs := [24]) (by kernel_rfl) (by simp) ?_
  refine AllReadyH.cons rfl (fun K hK => ?_) AllReadyH.nil
  go_simp
  go_at_call 15
  with_reducible refine (C6 _).out.mono ?_
  rintro y w6 ⟨rfl, hb⟩
  have L6 : Lies w6 w.heap.size 25 #[.int .u32 (e : Int), .int .i64 h, .int .u64 (u : Int), .int .i64 m] := Lies.below (by exact hH5) hb (Lies.lt (by exact hH5))
  have B6 := Lib.hid (B5.out.trans (hb.mono B5.out.size))
  refine hK.out _ _ (L6) (fun hH6 => ?_)
  clear hK K hH5 hb L6
  try simp only [Act.put, List.setIfInBounds_toArray, List.set_cons_zero, List.set_cons_succ]
  refine any_take 25 34 ?vt25 rfl rfl (by kernel_rfl) (by kernel_rfl) (by kernel_rfl) (fun _ _ _ h => h) (by rfl) ?hyt25 hH6 ?restt25
  case hyt25 => ((intro W hSw); obtain ⟨s0, s1, s2, s3⟩ := Lies.cells4 hSw; go_simp; (try with_reducible rfl))
  try simp only [Act.put, List.setIfInBounds_toArray, List.set_cons_zero, List.set_cons_succ]
  refine any_take 26 35 ?vt26 rfl rfl (by kernel_rfl) (by kernel_rfl) (by kernel_rfl) (fun _ _ _ h => h) (by rfl) ?hyt26 hH6 ?restt26
  case hyt26 => ((intro W hSw); obtain ⟨s0, s1, s2, s3⟩ := Lies.cells4 hSw; go_simp; (try with_reducible rfl))
  try simp only [Act.put, List.setIfInBounds_toArray, List.set_cons_zero, List.set_cons_succ]
  refine any_take 27 36 ?vt27 rfl rfl (by kernel_rfl) (by kernel_rfl) (by kernel_rfl) (fun _ _ _ h => h) (by rfl) ?hyt27 hH6 ?restt27
  case hyt27 => ((intro W hSw); obtain ⟨s0, s1, s2, s3⟩ := Lies.cells4 hSw; go_simp; (try with_reducible rfl))
  try simp only [Act.put, List.setIfInBounds_toArray, List.set_cons_zero, List.set_cons_succ]
  refine wpAnyH_ready (rs := [28]) (by kernel_rfl) (by simp) ?_
  refine AllReadyH.cons rfl (fun K hK => ?_) AllReadyH.nil
  go_simp
  go_at_call 16
  with_reducible refine (C7 _).out.mono ?_
  rintro y w7 ⟨rfl, hb⟩
  have L7 : Lies w7 w.heap.size 25 #[.int .u32 (e : Int), .int .i64 h, .int .u64 (u : Int), .int .i64 m] := Lies.below (by exact hH6) hb (Lies.lt (by exact hH6))
  have B7 := Lib.hid (B6.out.trans (hb.mono B6.out.size))
  refine hK.out _ _ (L7) (fun hH7 => ?_)
  clear hK K hH6 hb L7
  try simp only [Act.put, List.setIfInBounds_toArray, List.set_cons_zero, List.set_cons_succ]
  refine any_take 29 38 ?vt29 rfl rfl (by kernel_rfl) (by kernel_rfl) (by kernel_rfl) (fun _ _ _ h => h) (by rfl) ?hyt29 hH7 ?restt29
  case hyt29 => ((intro W hSw); obtain ⟨s0, s1, s2, s3⟩ := Lies.cells4 hSw; go_simp; (try with_reducible rfl))
  try simp only [Act.put, List.setIfInBounds_toArray, List.set_cons_zero, List.set_cons_succ]
  refine any_take 30 8 ?vt30 rfl rfl (by kernel_rfl) (by kernel_rfl) (by kernel_rfl) (fun _ _ _ h => h) (by rfl) ?hyt30 hH7 ?restt30
  case hyt30 => ((intro W hSw); obtain ⟨s0, s1, s2, s3⟩ := Lies.cells4 hSw; go_simp; (try with_reducible rfl))
  try simp only [Act.put, List.setIfInBounds_toArray, List.set_cons_zero, List.set_cons_succ]
  refine wpAnyH_done (by kernel_rfl) ?_ _
  refine NoPanic.normal ?_
  clear hH7
  go_wp2
  go_ret
  exact ⟨rfl, B7.out⟩

end Go.Proofs.Ytbcelelmckkaoaa
