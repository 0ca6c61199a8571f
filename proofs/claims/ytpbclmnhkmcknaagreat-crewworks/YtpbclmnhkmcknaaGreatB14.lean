/-
  Texts of one proof, in their order: CFwd, CNote.
-/
import Derived.ArgAppend
import Derived.Lib.SlBytesConst
import Derived.Test.YtpbclmnhkmcknaaGreatB13
namespace Go.Proofs.YtpbclmnhkmcknaaGreat
open Go.RowKit
open Fe (Lies Own Bys Reads NF Kx Kp Note)
set_option maxRecDepth 100000
set_option linter.unusedVariables false
set_option linter.unusedSimpArgs false

theorem fwd1 (q : Cq) (o : Nat) (n : Int) (x : List Nat) : fwdS q o ⟨1, n, x⟩ = ⟨St.verd (St.holdV q.s o (u8s x) n), [], { q with s := St.holdS q.s o (u8s x) n }⟩ := by simp [fwdS]
theorem fwd2 (q : Cq) (o : Nat) (n : Int) (x : List Nat) : fwdS q o ⟨2, n, x⟩ = ⟨St.verd (St.endV q.s o), [], { q with s := St.endS q.s o true }⟩ := by simp [fwdS]
theorem fwd3 (q : Cq) (o : Nat) (n : Int) (x : List Nat) : fwdS q o ⟨3, n, x⟩ = ⟨Pu.verd (Pu.authV q.p o (u8s x) n), [], { q with p := Pu.authS q.p o (u8s x) n }⟩ := by simp [fwdS]
theorem fwd4 (q : Cq) (o : Nat) (n : Int) (x : List Nat) : fwdS q o ⟨4, n, x⟩ = ⟨Pu.verd (Pu.movV q.p o 0), [], { q with p := Pu.movS q.p o 0 }⟩ := by simp [fwdS]
theorem fwd5 (q : Cq) (o : Nat) (n : Int) (x : List Nat) : fwdS q o ⟨5, n, x⟩ = fwdS q o ⟨5, n, []⟩ := by simp [fwdS]
theorem fwd6 (q : Cq) (o : Nat) (n : Int) (x : List Nat) : fwdS q o ⟨6, n, x⟩ = ⟨1, [], { q with M := q.M ++ [x] }⟩ := by simp [fwdS]
theorem bwd1 (q : Cq) (o : Nat) (n : Int) (x : List Nat) : bwdS q o ⟨1, n, x⟩ = ⟨St.verd (St.endV q.s o), [], { q with s := St.endS q.s o false }⟩ := by simp [bwdS]
theorem bwd2 (q : Cq) (o : Nat) (n : Int) (x : List Nat) : bwdS q o ⟨2, n, x⟩ = ⟨2, [], q⟩ := by simp [bwdS]
theorem bwd3 (q : Cq) (o : Nat) (n : Int) (x : List Nat) : bwdS q o ⟨3, n, x⟩ = ⟨Pu.verd (Pu.movV q.p o 1), [], { q with p := Pu.movS q.p o 1 }⟩ := by simp [bwdS]
theorem bwd4 (q : Cq) (o : Nat) (n : Int) (x : List Nat) : bwdS q o ⟨4, n, x⟩ = ⟨Pu.verd (Pu.movV q.p o 2), [], { q with p := Pu.movS q.p o 2 }⟩ := by simp [bwdS]
theorem bwd5 (q : Cq) (o : Nat) (n : Int) (x : List Nat) : bwdS q o ⟨5, n, x⟩ = ⟨Do.verd (Do.findH q.d.H o).isSome, [], { q with d := Do.cancS q.d o }⟩ := by simp [bwdS]
theorem bwd6 (q : Cq) (o : Nat) (n : Int) (x : List Nat) : bwdS q o ⟨6, n, x⟩ = ⟨1, [], { q with M := q.M ++ [33 :: x] }⟩ := by simp [bwdS]

set_option maxHeartbeats 4000000 in
theorem forward1 {R : List Int} {b : CB} {q : Cq} (o : Nat) (n : Int) (x : List Nat) (A : Option Addr) (c : Nat) (B0 : Nat) (w : World) (h : CAt w b q) (hI : CInv R q) (ho : o < 4294967296) (hn : 0 ≤ n ∧ n ≤ 1000000000) (hx : x.length ≤ 32)
    (hO : Own w B0 (.slice A x.length c) x) (hB : B0 ≤ w.heap.size) (hF : ∀ i, b.foot i → i < B0) :
    Calls Tryz.prog 131 #[.pointer (some ⟨b.c, 0, none⟩), .int .u32 (o : Int), .agg #[.int .i64 1, .int .i64 n, .slice A x.length c]] w (WkPost w b B0 (fwdS q o ⟨1, n, x⟩)) := by
  have HA : Hid (CAt (w.alloc (.cells #[.int .i64 1, .int .i64 n, .slice A x.length c] 24)) b q) := Lib.hid (h.alloc _)
  have LB : Hid (Lies (w.alloc (.cells #[.int .i64 1, .int .i64 n, .slice A x.length c] 24)) w.heap.size 24 #[.int .i64 1, .int .i64 n, .slice A x.length c]) := Lib.hid (Lies.made w 24 _)
  have HO : Hid (Own (w.alloc (.cells #[.int .i64 1, .int .i64 n, .slice A x.length c] 24)) B0 (.slice A x.length c) x) := Lib.hid (hO.alloc _)
  have HNF : Hid (¬ b.foot w.heap.size) := Lib.hid (fun hf => by have := hF _ hf; omega)
  have HOF : Hid (∀ i, (Value.slice A x.length c).ownBlock = some i → ¬ b.foot i) := Lib.hid (fun i hi hf => by have h1 := hF _ hf; have h2 := hO.block i hi; omega)
  have HW := Lib.hid h
  have HI := Lib.hid hI
  have HOW := Lib.hid hO
  have hxm : x.length ≤ maxLen := by unfold maxLen; omega
  have hnn : -9223372036854775808 ≤ n ∧ n ≤ 9223372036854775807 := by omega
  obtain ⟨c0, c1, c2, c3, c4, c5, c6⟩ := Lies_cells7 HA.out.c
  obtain ⟨k0, k1, k2⟩ := LB.out.cells3
  rw [fwd1]
  have HAd : Hid (CAt (w.alloc (.cells #[.int .i64 1, .int .i64 n, .slice A x.length c] 24)).drew b q) := Lib.hid HA.out.drew
  clear h hI hF hO
  go_enter Tryz.func131, Tryz.ntmps131
  go_wp2_with fail
  refine wp_region_noPanic ?_
  refine wp_region_held_drew (S := fun W => Lies W b.c 122 #[.pointer (some ⟨b.s.s, 0, none⟩), .pointer (some ⟨b.p.s, 0, none⟩), .pointer (some ⟨b.d.s, 0, none⟩), .int .u32 (q.f.ep : Int), b.vL, b.vE, b.vM] ∧ Lies W w.heap.size 24 #[.int .i64 1, .int .i64 n, .slice A x.length c] ∧ Own W B0 (.slice A x.length c) x) (by kernel_rfl) (⟨HA.out.c, LB.out, HO.out⟩) (fun hH0 => ?_)
  refine Fe.any_take 0 12 ?vt2 rfl rfl (by kernel_rfl) (by kernel_rfl) (by kernel_rfl) (fun _ _ _ h => h) (by rfl) ?ht2 hH0 ?rt2
  case ht2 => ((intro W hSw); obtain ⟨o0, o1, o2, o3, o4, o5, o6⟩ := Lies_cells7 hSw.1; obtain ⟨p0, p1, p2⟩ := Fe.Lies.cells3 hSw.2.1; have rs := Fe.run_str hSw.2.2.bys.1 c; go_simp; (try with_reducible rfl))
  try simp only [Act.put, List.setIfInBounds_toArray, List.set_cons_zero, List.set_cons_succ]
  refine Fe.any_take 1 13 ?vt3 rfl rfl (by kernel_rfl) (by kernel_rfl) (by kernel_rfl) (fun _ _ _ h => h) (by rfl) ?ht3 hH0 ?rt3
  case ht3 => ((intro W hSw); obtain ⟨o0, o1, o2, o3, o4, o5, o6⟩ := Lies_cells7 hSw.1; obtain ⟨p0, p1, p2⟩ := Fe.Lies.cells3 hSw.2.1; have rs := Fe.run_str hSw.2.2.bys.1 c; go_simp; (try with_reducible rfl))
  try simp only [Act.put, List.setIfInBounds_toArray, List.set_cons_zero, List.set_cons_succ]
  refine Fe.any_take 2 14 ?vt4 rfl rfl (by kernel_rfl) (by kernel_rfl) (by kernel_rfl) (fun _ _ _ h => h) (by rfl) ?ht4 hH0 ?rt4
  case ht4 => ((intro W hSw); obtain ⟨o0, o1, o2, o3, o4, o5, o6⟩ := Lies_cells7 hSw.1; obtain ⟨p0, p1, p2⟩ := Fe.Lies.cells3 hSw.2.1; have rs := Fe.run_str hSw.2.2.bys.1 c; go_simp; (try with_reducible rfl))
  try simp only [Act.put, List.setIfInBounds_toArray, List.set_cons_zero, List.set_cons_succ]
  refine Fe.any_take 3 15 ?vt5 rfl rfl (by kernel_rfl) (by kernel_rfl) (by kernel_rfl) (fun _ _ _ h => h) (by rfl) ?ht5 hH0 ?rt5
  case ht5 => ((intro W hSw); obtain ⟨o0, o1, o2, o3, o4, o5, o6⟩ := Lies_cells7 hSw.1; obtain ⟨p0, p1, p2⟩ := Fe.Lies.cells3 hSw.2.1; have rs := Fe.run_str hSw.2.2.bys.1 c; go_simp; (try with_reducible rfl))
  try simp only [Act.put, List.setIfInBounds_toArray, List.set_cons_zero, List.set_cons_succ]
  refine Fe.any_take 4 16 ?vt6 rfl rfl (by kernel_rfl) (by kernel_rfl) (by kernel_rfl) (fun _ _ _ h => h) (by rfl) ?ht6 hH0 ?rt6
  case ht6 => ((intro W hSw); obtain ⟨o0, o1, o2, o3, o4, o5, o6⟩ := Lies_cells7 hSw.1; obtain ⟨p0, p1, p2⟩ := Fe.Lies.cells3 hSw.2.1; have rs := Fe.run_str hSw.2.2.bys.1 c; go_simp; (try with_reducible rfl))
  try simp only [Act.put, List.setIfInBounds_toArray, List.set_cons_zero, List.set_cons_succ]
  refine Fe.any_take 5 17 ?vt7 rfl rfl (by kernel_rfl) (by kernel_rfl) (by kernel_rfl) (fun _ _ _ h => h) (by rfl) ?ht7 hH0 ?rt7
  case ht7 => ((intro W hSw); obtain ⟨o0, o1, o2, o3, o4, o5, o6⟩ := Lies_cells7 hSw.1; obtain ⟨p0, p1, p2⟩ := Fe.Lies.cells3 hSw.2.1; have rs := Fe.run_str hSw.2.2.bys.1 c; go_simp; (try with_reducible rfl))
  try simp only [Act.put, List.setIfInBounds_toArray, List.set_cons_zero, List.set_cons_succ]
  refine Fe.any_take 6 18 ?vt8 rfl rfl (by kernel_rfl) (by kernel_rfl) (by kernel_rfl) (fun _ _ _ h => h) (by rfl) ?ht8 hH0 ?rt8
  case ht8 => ((intro W hSw); obtain ⟨o0, o1, o2, o3, o4, o5, o6⟩ := Lies_cells7 hSw.1; obtain ⟨p0, p1, p2⟩ := Fe.Lies.cells3 hSw.2.1; have rs := Fe.run_str hSw.2.2.bys.1 c; go_simp; (try with_reducible rfl))
  try simp only [Act.put, List.setIfInBounds_toArray, List.set_cons_zero, List.set_cons_succ]
  refine Fe.any_take 7 19 ?vt9 rfl rfl (by kernel_rfl) (by kernel_rfl) (by kernel_rfl) (fun _ _ _ h => h) (by rfl) ?ht9 hH0 ?rt9
  case ht9 => ((intro W hSw); obtain ⟨o0, o1, o2, o3, o4, o5, o6⟩ := Lies_cells7 hSw.1; obtain ⟨p0, p1, p2⟩ := Fe.Lies.cells3 hSw.2.1; have rs := Fe.run_str hSw.2.2.bys.1 c; go_simp; (try with_reducible rfl))
  try simp only [Act.put, List.setIfInBounds_toArray, List.set_cons_zero, List.set_cons_succ]
  refine Fe.any_take 8 20 ?vt10 rfl rfl (by kernel_rfl) (by kernel_rfl) (by kernel_rfl) (fun _ _ _ h => h) (by rfl) ?ht10 hH0 ?rt10
  case ht10 => ((intro W hSw); obtain ⟨o0, o1, o2, o3, o4, o5, o6⟩ := Lies_cells7 hSw.1; obtain ⟨p0, p1, p2⟩ := Fe.Lies.cells3 hSw.2.1; have rs := Fe.run_str hSw.2.2.bys.1 c; go_simp; (try with_reducible rfl))
  try simp only [Act.put, List.setIfInBounds_toArray, List.set_cons_zero, List.set_cons_succ]
  refine Fe.any_take 9 21 ?vt11 rfl rfl (by kernel_rfl) (by kernel_rfl) (by kernel_rfl) (fun _ _ _ h => h) (by rfl) ?ht11 hH0 ?rt11
  case ht11 => ((intro W hSw); obtain ⟨o0, o1, o2, o3, o4, o5, o6⟩ := Lies_cells7 hSw.1; obtain ⟨p0, p1, p2⟩ := Fe.Lies.cells3 hSw.2.1; have rs := Fe.run_str hSw.2.2.bys.1 c; go_simp; (try with_reducible rfl))
  try simp only [Act.put, List.setIfInBounds_toArray, List.set_cons_zero, List.set_cons_succ]
  refine wpAnyH_ready (rs := [10]) (by kernel_rfl) (by simp) ?_
  refine AllReadyH.cons rfl (fun K hK => ?_) AllReadyH.nil
  go_simp
  go_at_call 160
  with_reducible refine (cr_hold HAd.out HI.out o x n ho hxm hnn).mono ?_
  rintro e w1 ⟨rfl, hA, hC⟩
  have HA1 := Lib.hid hA
  have HC1 := Lib.hid (chg_box hC.drew0)
  have LB1 := Lib.hid (show Lies w1 w.heap.size 24 #[.int .i64 1, .int .i64 n, .slice A x.length c] from (hC.block _ LB.out.lt HNF.out).trans LB.out)
  have HO1 : Hid (Own w1 B0 (.slice A x.length c) x) := Lib.hid (Own_same HO.out fun i hi => hC.block i (HO.out.lt i hi) (HOF.out i hi))
  clear hA hC
  refine hK.out _ _ (⟨HA1.out.c, LB1.out, HO1.out⟩) (fun hH1 => ?_)
  clear hK K hH0
  try simp only [Act.put, List.setIfInBounds_toArray, List.set_cons_zero, List.set_cons_succ]
  refine Fe.any_take 11 6 ?vt12 rfl rfl (by kernel_rfl) (by kernel_rfl) (by kernel_rfl) (fun _ _ _ h => h) (by rfl) ?ht12 hH1 ?rt12
  case ht12 => ((intro W hSw); go_simp; (try with_reducible rfl))
  try simp only [Act.put, List.setIfInBounds_toArray, List.set_cons_zero, List.set_cons_succ]
  refine Fe.any_take 12 7 ?vt13 rfl rfl (by kernel_rfl) (by kernel_rfl) (by kernel_rfl) (fun _ _ _ h => h) (by rfl) ?ht13 hH1 ?rt13
  case ht13 => ((intro W hSw); go_simp; (try with_reducible rfl))
  try simp only [Act.put, List.setIfInBounds_toArray, List.set_cons_zero, List.set_cons_succ]
  clear hH1
  refine wpAnyH_done (by kernel_rfl) ?_ _
  refine NoPanic.normal ?_
  go_wp2
  go_ret2
  exact ⟨_, b, rfl, Own.nil _ _, (fun i hi => by cases hi), rfl, HA1.out, HC1.out, fun i hi => .inl hi⟩
set_option maxHeartbeats 4000000 in
theorem forward2 {R : List Int} {b : CB} {q : Cq} (o : Nat) (n : Int) (x : List Nat) (A : Option Addr) (c : Nat) (B0 : Nat) (w : World) (h : CAt w b q) (hI : CInv R q) (ho : o < 4294967296) (hn : 0 ≤ n ∧ n ≤ 1000000000) (hx : x.length ≤ 32)
    (hO : Own w B0 (.slice A x.length c) x) (hB : B0 ≤ w.heap.size) (hF : ∀ i, b.foot i → i < B0) :
    Calls Tryz.prog 131 #[.pointer (some ⟨b.c, 0, none⟩), .int .u32 (o : Int), .agg #[.int .i64 2, .int .i64 n, .slice A x.length c]] w (WkPost w b B0 (fwdS q o ⟨2, n, x⟩)) := by
  have HA : Hid (CAt (w.alloc (.cells #[.int .i64 2, .int .i64 n, .slice A x.length c] 24)) b q) := Lib.hid (h.alloc _)
  have LB : Hid (Lies (w.alloc (.cells #[.int .i64 2, .int .i64 n, .slice A x.length c] 24)) w.heap.size 24 #[.int .i64 2, .int .i64 n, .slice A x.length c]) := Lib.hid (Lies.made w 24 _)
  have HO : Hid (Own (w.alloc (.cells #[.int .i64 2, .int .i64 n, .slice A x.length c] 24)) B0 (.slice A x.length c) x) := Lib.hid (hO.alloc _)
  have HNF : Hid (¬ b.foot w.heap.size) := Lib.hid (fun hf => by have := hF _ hf; omega)
  have HOF : Hid (∀ i, (Value.slice A x.length c).ownBlock = some i → ¬ b.foot i) := Lib.hid (fun i hi hf => by have h1 := hF _ hf; have h2 := hO.block i hi; omega)
  have HW := Lib.hid h
  have HI := Lib.hid hI
  have HOW := Lib.hid hO
  have hxm : x.length ≤ maxLen := by unfold maxLen; omega
  have hnn : -9223372036854775808 ≤ n ∧ n ≤ 9223372036854775807 := by omega
  obtain ⟨c0, c1, c2, c3, c4, c5, c6⟩ := Lies_cells7 HA.out.c
  obtain ⟨k0, k1, k2⟩ := LB.out.cells3
  have C := Lib.hid (cr_ship HA.out hI o ho)
  rw [fwd2]
  unfold PartPost at C
  clear h hI hF hO
  go_enter Tryz.func131, Tryz.ntmps131
  go_wp2_with fail
  with_reducible refine C.out.mono ?_
  rintro e w1 ⟨rfl, hA, hC⟩
  have HA1 := Lib.hid hA
  have HC1 := Lib.hid (chg_box hC)
  clear hA hC
  go_wp2
  go_ret2
  exact ⟨_, b, rfl, Own.nil _ _, (fun i hi => by cases hi), rfl, HA1.out, HC1.out, fun i hi => .inl hi⟩
set_option maxHeartbeats 4000000 in
theorem forward3 {R : List Int} {b : CB} {q : Cq} (o : Nat) (n : Int) (x : List Nat) (A : Option Addr) (c : Nat) (B0 : Nat) (w : World) (h : CAt w b q) (hI : CInv R q) (ho : o < 4294967296) (hn : 0 ≤ n ∧ n ≤ 1000000000) (hx : x.length ≤ 32)
    (hO : Own w B0 (.slice A x.length c) x) (hB : B0 ≤ w.heap.size) (hF : ∀ i, b.foot i → i < B0) :
    Calls Tryz.prog 131 #[.pointer (some ⟨b.c, 0, none⟩), .int .u32 (o : Int), .agg #[.int .i64 3, .int .i64 n, .slice A x.length c]] w (WkPost w b B0 (fwdS q o ⟨3, n, x⟩)) := by
  have HA : Hid (CAt (w.alloc (.cells #[.int .i64 3, .int .i64 n, .slice A x.length c] 24)) b q) := Lib.hid (h.alloc _)
  have LB : Hid (Lies (w.alloc (.cells #[.int .i64 3, .int .i64 n, .slice A x.length c] 24)) w.heap.size 24 #[.int .i64 3, .int .i64 n, .slice A x.length c]) := Lib.hid (Lies.made w 24 _)
  have HO : Hid (Own (w.alloc (.cells #[.int .i64 3, .int .i64 n, .slice A x.length c] 24)) B0 (.slice A x.length c) x) := Lib.hid (hO.alloc _)
  have HNF : Hid (¬ b.foot w.heap.size) := Lib.hid (fun hf => by have := hF _ hf; omega)
  have HOF : Hid (∀ i, (Value.slice A x.length c).ownBlock = some i → ¬ b.foot i) := Lib.hid (fun i hi hf => by have h1 := hF _ hf; have h2 := hO.block i hi; omega)
  have HW := Lib.hid h
  have HI := Lib.hid hI
  have HOW := Lib.hid hO
  have hxm : x.length ≤ maxLen := by unfold maxLen; omega
  have hnn : -9223372036854775808 ≤ n ∧ n ≤ 9223372036854775807 := by omega
  obtain ⟨c0, c1, c2, c3, c4, c5, c6⟩ := Lies_cells7 HA.out.c
  obtain ⟨k0, k1, k2⟩ := LB.out.cells3
  rw [fwd3]
  have HAd : Hid (CAt (w.alloc (.cells #[.int .i64 3, .int .i64 n, .slice A x.length c] 24)).drew b q) := Lib.hid HA.out.drew
  clear h hI hF hO
  go_enter Tryz.func131, Tryz.ntmps131
  go_wp2_with fail
  refine wp_region_noPanic ?_
  refine wp_region_held_drew (S := fun W => Lies W b.c 122 #[.pointer (some ⟨b.s.s, 0, none⟩), .pointer (some ⟨b.p.s, 0, none⟩), .pointer (some ⟨b.d.s, 0, none⟩), .int .u32 (q.f.ep : Int), b.vL, b.vE, b.vM] ∧ Lies W w.heap.size 24 #[.int .i64 3, .int .i64 n, .slice A x.length c] ∧ Own W B0 (.slice A x.length c) x) (by kernel_rfl) (⟨HA.out.c, LB.out, HO.out⟩) (fun hH0 => ?_)
  refine Fe.any_take 0 33 ?vt15 rfl rfl (by kernel_rfl) (by kernel_rfl) (by kernel_rfl) (fun _ _ _ h => h) (by rfl) ?ht15 hH0 ?rt15
  case ht15 => ((intro W hSw); obtain ⟨o0, o1, o2, o3, o4, o5, o6⟩ := Lies_cells7 hSw.1; obtain ⟨p0, p1, p2⟩ := Fe.Lies.cells3 hSw.2.1; have rs := Fe.run_str hSw.2.2.bys.1 c; go_simp; (try with_reducible rfl))
  try simp only [Act.put, List.setIfInBounds_toArray, List.set_cons_zero, List.set_cons_succ]
  refine Fe.any_take 1 34 ?vt16 rfl rfl (by kernel_rfl) (by kernel_rfl) (by kernel_rfl) (fun _ _ _ h => h) (by rfl) ?ht16 hH0 ?rt16
  case ht16 => ((intro W hSw); obtain ⟨o0, o1, o2, o3, o4, o5, o6⟩ := Lies_cells7 hSw.1; obtain ⟨p0, p1, p2⟩ := Fe.Lies.cells3 hSw.2.1; have rs := Fe.run_str hSw.2.2.bys.1 c; go_simp; (try with_reducible rfl))
  try simp only [Act.put, List.setIfInBounds_toArray, List.set_cons_zero, List.set_cons_succ]
  refine Fe.any_take 2 35 ?vt17 rfl rfl (by kernel_rfl) (by kernel_rfl) (by kernel_rfl) (fun _ _ _ h => h) (by rfl) ?ht17 hH0 ?rt17
  case ht17 => ((intro W hSw); obtain ⟨o0, o1, o2, o3, o4, o5, o6⟩ := Lies_cells7 hSw.1; obtain ⟨p0, p1, p2⟩ := Fe.Lies.cells3 hSw.2.1; have rs := Fe.run_str hSw.2.2.bys.1 c; go_simp; (try with_reducible rfl))
  try simp only [Act.put, List.setIfInBounds_toArray, List.set_cons_zero, List.set_cons_succ]
  refine Fe.any_take 3 36 ?vt18 rfl rfl (by kernel_rfl) (by kernel_rfl) (by kernel_rfl) (fun _ _ _ h => h) (by rfl) ?ht18 hH0 ?rt18
  case ht18 => ((intro W hSw); obtain ⟨o0, o1, o2, o3, o4, o5, o6⟩ := Lies_cells7 hSw.1; obtain ⟨p0, p1, p2⟩ := Fe.Lies.cells3 hSw.2.1; have rs := Fe.run_str hSw.2.2.bys.1 c; go_simp; (try with_reducible rfl))
  try simp only [Act.put, List.setIfInBounds_toArray, List.set_cons_zero, List.set_cons_succ]
  refine Fe.any_take 4 37 ?vt19 rfl rfl (by kernel_rfl) (by kernel_rfl) (by kernel_rfl) (fun _ _ _ h => h) (by rfl) ?ht19 hH0 ?rt19
  case ht19 => ((intro W hSw); obtain ⟨o0, o1, o2, o3, o4, o5, o6⟩ := Lies_cells7 hSw.1; obtain ⟨p0, p1, p2⟩ := Fe.Lies.cells3 hSw.2.1; have rs := Fe.run_str hSw.2.2.bys.1 c; go_simp; (try with_reducible rfl))
  try simp only [Act.put, List.setIfInBounds_toArray, List.set_cons_zero, List.set_cons_succ]
  refine Fe.any_take 5 38 ?vt20 rfl rfl (by kernel_rfl) (by kernel_rfl) (by kernel_rfl) (fun _ _ _ h => h) (by rfl) ?ht20 hH0 ?rt20
  case ht20 => ((intro W hSw); obtain ⟨o0, o1, o2, o3, o4, o5, o6⟩ := Lies_cells7 hSw.1; obtain ⟨p0, p1, p2⟩ := Fe.Lies.cells3 hSw.2.1; have rs := Fe.run_str hSw.2.2.bys.1 c; go_simp; (try with_reducible rfl))
  try simp only [Act.put, List.setIfInBounds_toArray, List.set_cons_zero, List.set_cons_succ]
  refine Fe.any_take 6 39 ?vt21 rfl rfl (by kernel_rfl) (by kernel_rfl) (by kernel_rfl) (fun _ _ _ h => h) (by rfl) ?ht21 hH0 ?rt21
  case ht21 => ((intro W hSw); obtain ⟨o0, o1, o2, o3, o4, o5, o6⟩ := Lies_cells7 hSw.1; obtain ⟨p0, p1, p2⟩ := Fe.Lies.cells3 hSw.2.1; have rs := Fe.run_str hSw.2.2.bys.1 c; go_simp; (try with_reducible rfl))
  try simp only [Act.put, List.setIfInBounds_toArray, List.set_cons_zero, List.set_cons_succ]
  refine Fe.any_take 7 40 ?vt22 rfl rfl (by kernel_rfl) (by kernel_rfl) (by kernel_rfl) (fun _ _ _ h => h) (by rfl) ?ht22 hH0 ?rt22
  case ht22 => ((intro W hSw); obtain ⟨o0, o1, o2, o3, o4, o5, o6⟩ := Lies_cells7 hSw.1; obtain ⟨p0, p1, p2⟩ := Fe.Lies.cells3 hSw.2.1; have rs := Fe.run_str hSw.2.2.bys.1 c; go_simp; (try with_reducible rfl))
  try simp only [Act.put, List.setIfInBounds_toArray, List.set_cons_zero, List.set_cons_succ]
  refine Fe.any_take 8 41 ?vt23 rfl rfl (by kernel_rfl) (by kernel_rfl) (by kernel_rfl) (fun _ _ _ h => h) (by rfl) ?ht23 hH0 ?rt23
  case ht23 => ((intro W hSw); obtain ⟨o0, o1, o2, o3, o4, o5, o6⟩ := Lies_cells7 hSw.1; obtain ⟨p0, p1, p2⟩ := Fe.Lies.cells3 hSw.2.1; have rs := Fe.run_str hSw.2.2.bys.1 c; go_simp; (try with_reducible rfl))
  try simp only [Act.put, List.setIfInBounds_toArray, List.set_cons_zero, List.set_cons_succ]
  refine Fe.any_take 9 42 ?vt24 rfl rfl (by kernel_rfl) (by kernel_rfl) (by kernel_rfl) (fun _ _ _ h => h) (by rfl) ?ht24 hH0 ?rt24
  case ht24 => ((intro W hSw); obtain ⟨o0, o1, o2, o3, o4, o5, o6⟩ := Lies_cells7 hSw.1; obtain ⟨p0, p1, p2⟩ := Fe.Lies.cells3 hSw.2.1; have rs := Fe.run_str hSw.2.2.bys.1 c; go_simp; (try with_reducible rfl))
  try simp only [Act.put, List.setIfInBounds_toArray, List.set_cons_zero, List.set_cons_succ]
  refine wpAnyH_ready (rs := [10]) (by kernel_rfl) (by simp) ?_
  refine AllReadyH.cons rfl (fun K hK => ?_) AllReadyH.nil
  go_simp
  go_at_call 162
  with_reducible refine (cr_auth HAd.out HI.out o x n ho hxm hnn).mono ?_
  rintro e w1 ⟨rfl, hA, hC⟩
  have HA1 := Lib.hid hA
  have HC1 := Lib.hid (chg_box hC.drew0)
  have LB1 := Lib.hid (show Lies w1 w.heap.size 24 #[.int .i64 3, .int .i64 n, .slice A x.length c] from (hC.block _ LB.out.lt HNF.out).trans LB.out)
  have HO1 : Hid (Own w1 B0 (.slice A x.length c) x) := Lib.hid (Own_same HO.out fun i hi => hC.block i (HO.out.lt i hi) (HOF.out i hi))
  clear hA hC
  refine hK.out _ _ (⟨HA1.out.c, LB1.out, HO1.out⟩) (fun hH1 => ?_)
  clear hK K hH0
  try simp only [Act.put, List.setIfInBounds_toArray, List.set_cons_zero, List.set_cons_succ]
  refine Fe.any_take 11 6 ?vt25 rfl rfl (by kernel_rfl) (by kernel_rfl) (by kernel_rfl) (fun _ _ _ h => h) (by rfl) ?ht25 hH1 ?rt25
  case ht25 => ((intro W hSw); go_simp; (try with_reducible rfl))
  try simp only [Act.put, List.setIfInBounds_toArray, List.set_cons_zero, List.set_cons_succ]
  refine Fe.any_take 12 7 ?vt26 rfl rfl (by kernel_rfl) (by kernel_rfl) (by kernel_rfl) (fun _ _ _ h => h) (by rfl) ?ht26 hH1 ?rt26
  case ht26 => ((intro W hSw); go_simp; (try with_reducible rfl))
  try simp only [Act.put, List.setIfInBounds_toArray, List.set_cons_zero, List.set_cons_succ]
  clear hH1
  refine wpAnyH_done (by kernel_rfl) ?_ _
  refine NoPanic.normal ?_
  go_wp2
  go_ret2
  exact ⟨_, b, rfl, Own.nil _ _, (fun i hi => by cases hi), rfl, HA1.out, HC1.out, fun i hi => .inl hi⟩
set_option maxHeartbeats 4000000 in
theorem forward4 {R : List Int} {b : CB} {q : Cq} (o : Nat) (n : Int) (x : List Nat) (A : Option Addr) (c : Nat) (B0 : Nat) (w : World) (h : CAt w b q) (hI : CInv R q) (ho : o < 4294967296) (hn : 0 ≤ n ∧ n ≤ 1000000000) (hx : x.length ≤ 32)
    (hO : Own w B0 (.slice A x.length c) x) (hB : B0 ≤ w.heap.size) (hF : ∀ i, b.foot i → i < B0) :
    Calls Tryz.prog 131 #[.pointer (some ⟨b.c, 0, none⟩), .int .u32 (o : Int), .agg #[.int .i64 4, .int .i64 n, .slice A x.length c]] w (WkPost w b B0 (fwdS q o ⟨4, n, x⟩)) := by
  have HA : Hid (CAt (w.alloc (.cells #[.int .i64 4, .int .i64 n, .slice A x.length c] 24)) b q) := Lib.hid (h.alloc _)
  have LB : Hid (Lies (w.alloc (.cells #[.int .i64 4, .int .i64 n, .slice A x.length c] 24)) w.heap.size 24 #[.int .i64 4, .int .i64 n, .slice A x.length c]) := Lib.hid (Lies.made w 24 _)
  have HO : Hid (Own (w.alloc (.cells #[.int .i64 4, .int .i64 n, .slice A x.length c] 24)) B0 (.slice A x.length c) x) := Lib.hid (hO.alloc _)
  have HNF : Hid (¬ b.foot w.heap.size) := Lib.hid (fun hf => by have := hF _ hf; omega)
  have HOF : Hid (∀ i, (Value.slice A x.length c).ownBlock = some i → ¬ b.foot i) := Lib.hid (fun i hi hf => by have h1 := hF _ hf; have h2 := hO.block i hi; omega)
  have HW := Lib.hid h
  have HI := Lib.hid hI
  have HOW := Lib.hid hO
  have hxm : x.length ≤ maxLen := by unfold maxLen; omega
  have hnn : -9223372036854775808 ≤ n ∧ n ≤ 9223372036854775807 := by omega
  obtain ⟨c0, c1, c2, c3, c4, c5, c6⟩ := Lies_cells7 HA.out.c
  obtain ⟨k0, k1, k2⟩ := LB.out.cells3
  have C := Lib.hid (cr_capture HA.out hI o ho)
  rw [fwd4]
  unfold PartPost at C
  clear h hI hF hO
  go_enter Tryz.func131, Tryz.ntmps131
  go_wp2_with fail
  with_reducible refine C.out.mono ?_
  rintro e w1 ⟨rfl, hA, hC⟩
  have HA1 := Lib.hid hA
  have HC1 := Lib.hid (chg_box hC)
  clear hA hC
  go_wp2
  go_ret2
  exact ⟨_, b, rfl, Own.nil _ _, (fun i hi => by cases hi), rfl, HA1.out, HC1.out, fun i hi => .inl hi⟩
set_option maxHeartbeats 4000000 in
theorem forward5 {R : List Int} {b : CB} {q : Cq} (o : Nat) (n : Int) (x : List Nat) (A : Option Addr) (c : Nat) (B0 : Nat) (w : World) (h : CAt w b q) (hI : CInv R q) (ho : o < 4294967296) (hn : 0 ≤ n ∧ n ≤ 1000000000) (hx : x.length ≤ 32)
    (hO : Own w B0 (.slice A x.length c) x) (hB : B0 ≤ w.heap.size) (hF : ∀ i, b.foot i → i < B0) :
    Calls Tryz.prog 131 #[.pointer (some ⟨b.c, 0, none⟩), .int .u32 (o : Int), .agg #[.int .i64 5, .int .i64 n, .slice A x.length c]] w (WkPost w b B0 (fwdS q o ⟨5, n, x⟩)) := by
  have HA : Hid (CAt (w.alloc (.cells #[.int .i64 5, .int .i64 n, .slice A x.length c] 24)) b q) := Lib.hid (h.alloc _)
  have LB : Hid (Lies (w.alloc (.cells #[.int .i64 5, .int .i64 n, .slice A x.length c] 24)) w.heap.size 24 #[.int .i64 5, .int .i64 n, .slice A x.length c]) := Lib.hid (Lies.made w 24 _)
  have HO : Hid (Own (w.alloc (.cells #[.int .i64 5, .int .i64 n, .slice A x.length c] 24)) B0 (.slice A x.length c) x) := Lib.hid (hO.alloc _)
  have HNF : Hid (¬ b.foot w.heap.size) := Lib.hid (fun hf => by have := hF _ hf; omega)
  have HOF : Hid (∀ i, (Value.slice A x.length c).ownBlock = some i → ¬ b.foot i) := Lib.hid (fun i hi hf => by have h1 := hF _ hf; have h2 := hO.block i hi; omega)
  have HW := Lib.hid h
  have HI := Lib.hid hI
  have HOW := Lib.hid hO
  have hxm : x.length ≤ maxLen := by unfold maxLen; omega
  have hnn : -9223372036854775808 ≤ n ∧ n ≤ 9223372036854775807 := by omega
  obtain ⟨c0, c1, c2, c3, c4, c5, c6⟩ := Lies_cells7 HA.out.c
  obtain ⟨k0, k1, k2⟩ := LB.out.cells3
  have C := Lib.hid (book_crew o n B0 _ HA.out hI ho hn)
  rw [fwd5]
  unfold WkPost at C
  clear h hI hF hO
  go_enter Tryz.func131, Tryz.ntmps131
  go_wp2_with fail
  with_reducible refine C.out.mono ?_
  rintro e w1 ⟨v, b', rfl, hv, hvf, hc, hA, hC, hf⟩
  have HA1 := Lib.hid hA
  have HC1 := Lib.hid (chg_box hC)
  have HV1 := Lib.hid (hv.mono (show w.heap.size ≤ _ from (by simp)))
  have HCC := Lib.hid hc
  have HVF := Lib.hid hvf
  have HFF := Lib.hid hf
  clear hA hC hv hvf hc hf
  go_wp2
  go_ret2
  exact ⟨_, b', rfl, HV1.out, HVF.out, HCC.out, HA1.out, HC1.out, HFF.out⟩
set_option maxHeartbeats 4000000 in
theorem undo1 {R : List Int} {b : CB} {q : Cq} (o : Nat) (n : Int) (x : List Nat) (A : Option Addr) (c : Nat) (B0 : Nat) (w : World) (h : CAt w b q) (hI : CInv R q) (ho : o < 4294967296) (hn : 0 ≤ n ∧ n ≤ 1000000000) (hx : x.length ≤ 32)
    (hO : Own w B0 (.slice A x.length c) x) (hB : B0 ≤ w.heap.size) (hF : ∀ i, b.foot i → i < B0) :
    Calls Tryz.prog 130 #[.pointer (some ⟨b.c, 0, none⟩), .int .u32 (o : Int), .agg #[.int .i64 1, .int .i64 n, .slice A x.length c]] w (UnPost w b B0 (bwdS q o ⟨1, n, x⟩)) := by
  have HA : Hid (CAt (w.alloc (.cells #[.int .i64 1, .int .i64 n, .slice A x.length c] 24)) b q) := Lib.hid (h.alloc _)
  have LB : Hid (Lies (w.alloc (.cells #[.int .i64 1, .int .i64 n, .slice A x.length c] 24)) w.heap.size 24 #[.int .i64 1, .int .i64 n, .slice A x.length c]) := Lib.hid (Lies.made w 24 _)
  have HO : Hid (Own (w.alloc (.cells #[.int .i64 1, .int .i64 n, .slice A x.length c] 24)) B0 (.slice A x.length c) x) := Lib.hid (hO.alloc _)
  have HNF : Hid (¬ b.foot w.heap.size) := Lib.hid (fun hf => by have := hF _ hf; omega)
  have HOF : Hid (∀ i, (Value.slice A x.length c).ownBlock = some i → ¬ b.foot i) := Lib.hid (fun i hi hf => by have h1 := hF _ hf; have h2 := hO.block i hi; omega)
  have HW := Lib.hid h
  have HI := Lib.hid hI
  have HOW := Lib.hid hO
  have hxm : x.length ≤ maxLen := by unfold maxLen; omega
  have hnn : -9223372036854775808 ≤ n ∧ n ≤ 9223372036854775807 := by omega
  obtain ⟨c0, c1, c2, c3, c4, c5, c6⟩ := Lies_cells7 HA.out.c
  obtain ⟨k0, k1, k2⟩ := LB.out.cells3
  have C := Lib.hid (cr_free HA.out hI o ho)
  rw [bwd1]
  unfold PartPost at C
  clear h hI hF hO
  go_enter Tryz.func130, Tryz.ntmps130
  go_wp2_with fail
  with_reducible refine C.out.mono ?_
  rintro e w1 ⟨rfl, hA, hC⟩
  have HA1 := Lib.hid hA
  have HC1 := Lib.hid (chg_box hC)
  clear hA hC
  go_wp2
  go_ret
  exact ⟨b, rfl, rfl, HA1.out, HC1.out, fun i hi => .inl hi⟩
set_option maxHeartbeats 4000000 in
theorem undo3 {R : List Int} {b : CB} {q : Cq} (o : Nat) (n : Int) (x : List Nat) (A : Option Addr) (c : Nat) (B0 : Nat) (w : World) (h : CAt w b q) (hI : CInv R q) (ho : o < 4294967296) (hn : 0 ≤ n ∧ n ≤ 1000000000) (hx : x.length ≤ 32)
    (hO : Own w B0 (.slice A x.length c) x) (hB : B0 ≤ w.heap.size) (hF : ∀ i, b.foot i → i < B0) :
    Calls Tryz.prog 130 #[.pointer (some ⟨b.c, 0, none⟩), .int .u32 (o : Int), .agg #[.int .i64 3, .int .i64 n, .slice A x.length c]] w (UnPost w b B0 (bwdS q o ⟨3, n, x⟩)) := by
  have HA : Hid (CAt (w.alloc (.cells #[.int .i64 3, .int .i64 n, .slice A x.length c] 24)) b q) := Lib.hid (h.alloc _)
  have LB : Hid (Lies (w.alloc (.cells #[.int .i64 3, .int .i64 n, .slice A x.length c] 24)) w.heap.size 24 #[.int .i64 3, .int .i64 n, .slice A x.length c]) := Lib.hid (Lies.made w 24 _)
  have HO : Hid (Own (w.alloc (.cells #[.int .i64 3, .int .i64 n, .slice A x.length c] 24)) B0 (.slice A x.length c) x) := Lib.hid (hO.alloc _)
  have HNF : Hid (¬ b.foot w.heap.size) := Lib.hid (fun hf => by have := hF _ hf; omega)
  have HOF : Hid (∀ i, (Value.slice A x.length c).ownBlock = some i → ¬ b.foot i) := Lib.hid (fun i hi hf => by have h1 := hF _ hf; have h2 := hO.block i hi; omega)
  have HW := Lib.hid h
  have HI := Lib.hid hI
  have HOW := Lib.hid hO
  have hxm : x.length ≤ maxLen := by unfold maxLen; omega
  have hnn : -9223372036854775808 ≤ n ∧ n ≤ 9223372036854775807 := by omega
  obtain ⟨c0, c1, c2, c3, c4, c5, c6⟩ := Lies_cells7 HA.out.c
  obtain ⟨k0, k1, k2⟩ := LB.out.cells3
  have C := Lib.hid (cr_void HA.out hI o ho)
  rw [bwd3]
  unfold PartPost at C
  clear h hI hF hO
  go_enter Tryz.func130, Tryz.ntmps130
  go_wp2_with fail
  with_reducible refine C.out.mono ?_
  rintro e w1 ⟨rfl, hA, hC⟩
  have HA1 := Lib.hid hA
  have HC1 := Lib.hid (chg_box hC)
  clear hA hC
  go_wp2
  go_ret
  exact ⟨b, rfl, rfl, HA1.out, HC1.out, fun i hi => .inl hi⟩
set_option maxHeartbeats 4000000 in
theorem undo4 {R : List Int} {b : CB} {q : Cq} (o : Nat) (n : Int) (x : List Nat) (A : Option Addr) (c : Nat) (B0 : Nat) (w : World) (h : CAt w b q) (hI : CInv R q) (ho : o < 4294967296) (hn : 0 ≤ n ∧ n ≤ 1000000000) (hx : x.length ≤ 32)
    (hO : Own w B0 (.slice A x.length c) x) (hB : B0 ≤ w.heap.size) (hF : ∀ i, b.foot i → i < B0) :
    Calls Tryz.prog 130 #[.pointer (some ⟨b.c, 0, none⟩), .int .u32 (o : Int), .agg #[.int .i64 4, .int .i64 n, .slice A x.length c]] w (UnPost w b B0 (bwdS q o ⟨4, n, x⟩)) := by
  have HA : Hid (CAt (w.alloc (.cells #[.int .i64 4, .int .i64 n, .slice A x.length c] 24)) b q) := Lib.hid (h.alloc _)
  have LB : Hid (Lies (w.alloc (.cells #[.int .i64 4, .int .i64 n, .slice A x.length c] 24)) w.heap.size 24 #[.int .i64 4, .int .i64 n, .slice A x.length c]) := Lib.hid (Lies.made w 24 _)
  have HO : Hid (Own (w.alloc (.cells #[.int .i64 4, .int .i64 n, .slice A x.length c] 24)) B0 (.slice A x.length c) x) := Lib.hid (hO.alloc _)
  have HNF : Hid (¬ b.foot w.heap.size) := Lib.hid (fun hf => by have := hF _ hf; omega)
  have HOF : Hid (∀ i, (Value.slice A x.length c).ownBlock = some i → ¬ b.foot i) := Lib.hid (fun i hi hf => by have h1 := hF _ hf; have h2 := hO.block i hi; omega)
  have HW := Lib.hid h
  have HI := Lib.hid hI
  have HOW := Lib.hid hO
  have hxm : x.length ≤ maxLen := by unfold maxLen; omega
  have hnn : -9223372036854775808 ≤ n ∧ n ≤ 9223372036854775807 := by omega
  obtain ⟨c0, c1, c2, c3, c4, c5, c6⟩ := Lies_cells7 HA.out.c
  obtain ⟨k0, k1, k2⟩ := LB.out.cells3
  have C := Lib.hid (cr_refund HA.out hI o ho)
  rw [bwd4]
  unfold PartPost at C
  clear h hI hF hO
  go_enter Tryz.func130, Tryz.ntmps130
  go_wp2_with fail
  with_reducible refine C.out.mono ?_
  rintro e w1 ⟨rfl, hA, hC⟩
  have HA1 := Lib.hid hA
  have HC1 := Lib.hid (chg_box hC)
  clear hA hC
  go_wp2
  go_ret
  exact ⟨b, rfl, rfl, HA1.out, HC1.out, fun i hi => .inl hi⟩
set_option maxHeartbeats 4000000 in
theorem undo5 {R : List Int} {b : CB} {q : Cq} (o : Nat) (n : Int) (x : List Nat) (A : Option Addr) (c : Nat) (B0 : Nat) (w : World) (h : CAt w b q) (hI : CInv R q) (ho : o < 4294967296) (hn : 0 ≤ n ∧ n ≤ 1000000000) (hx : x.length ≤ 32)
    (hO : Own w B0 (.slice A x.length c) x) (hB : B0 ≤ w.heap.size) (hF : ∀ i, b.foot i → i < B0) :
    Calls Tryz.prog 130 #[.pointer (some ⟨b.c, 0, none⟩), .int .u32 (o : Int), .agg #[.int .i64 5, .int .i64 n, .slice A x.length c]] w (UnPost w b B0 (bwdS q o ⟨5, n, x⟩)) := by
  have HA : Hid (CAt (w.alloc (.cells #[.int .i64 5, .int .i64 n, .slice A x.length c] 24)) b q) := Lib.hid (h.alloc _)
  have LB : Hid (Lies (w.alloc (.cells #[.int .i64 5, .int .i64 n, .slice A x.length c] 24)) w.heap.size 24 #[.int .i64 5, .int .i64 n, .slice A x.length c]) := Lib.hid (Lies.made w 24 _)
  have HO : Hid (Own (w.alloc (.cells #[.int .i64 5, .int .i64 n, .slice A x.length c] 24)) B0 (.slice A x.length c) x) := Lib.hid (hO.alloc _)
  have HNF : Hid (¬ b.foot w.heap.size) := Lib.hid (fun hf => by have := hF _ hf; omega)
  have HOF : Hid (∀ i, (Value.slice A x.length c).ownBlock = some i → ¬ b.foot i) := Lib.hid (fun i hi hf => by have h1 := hF _ hf; have h2 := hO.block i hi; omega)
  have HW := Lib.hid h
  have HI := Lib.hid hI
  have HOW := Lib.hid hO
  have hxm : x.length ≤ maxLen := by unfold maxLen; omega
  have hnn : -9223372036854775808 ≤ n ∧ n ≤ 9223372036854775807 := by omega
  obtain ⟨c0, c1, c2, c3, c4, c5, c6⟩ := Lies_cells7 HA.out.c
  obtain ⟨k0, k1, k2⟩ := LB.out.cells3
  have C := Lib.hid (cr_canc HA.out hI o ho)
  rw [bwd5]
  unfold PartPost at C
  clear h hI hF hO
  go_enter Tryz.func130, Tryz.ntmps130
  go_wp2_with fail
  with_reducible refine C.out.mono ?_
  rintro e w1 ⟨rfl, hA, hC⟩
  have HA1 := Lib.hid hA
  have HC1 := Lib.hid (chg_box hC)
  clear hA hC
  go_wp2
  go_ret
  exact ⟨b, rfl, rfl, HA1.out, HC1.out, fun i hi => .inl hi⟩
set_option maxHeartbeats 4000000 in
theorem undo2 {R : List Int} {b : CB} {q : Cq} (o : Nat) (n : Int) (x : List Nat) (A : Option Addr) (c : Nat) (B0 : Nat) (w : World) (h : CAt w b q) (hI : CInv R q) (ho : o < 4294967296) (hn : 0 ≤ n ∧ n ≤ 1000000000) (hx : x.length ≤ 32)
    (hO : Own w B0 (.slice A x.length c) x) (hB : B0 ≤ w.heap.size) (hF : ∀ i, b.foot i → i < B0) :
    Calls Tryz.prog 130 #[.pointer (some ⟨b.c, 0, none⟩), .int .u32 (o : Int), .agg #[.int .i64 2, .int .i64 n, .slice A x.length c]] w (UnPost w b B0 (bwdS q o ⟨2, n, x⟩)) := by
  have HA : Hid (CAt (w.alloc (.cells #[.int .i64 2, .int .i64 n, .slice A x.length c] 24)) b q) := Lib.hid (h.alloc _)
  have LB : Hid (Lies (w.alloc (.cells #[.int .i64 2, .int .i64 n, .slice A x.length c] 24)) w.heap.size 24 #[.int .i64 2, .int .i64 n, .slice A x.length c]) := Lib.hid (Lies.made w 24 _)
  have HO : Hid (Own (w.alloc (.cells #[.int .i64 2, .int .i64 n, .slice A x.length c] 24)) B0 (.slice A x.length c) x) := Lib.hid (hO.alloc _)
  have HNF : Hid (¬ b.foot w.heap.size) := Lib.hid (fun hf => by have := hF _ hf; omega)
  have HOF : Hid (∀ i, (Value.slice A x.length c).ownBlock = some i → ¬ b.foot i) := Lib.hid (fun i hi hf => by have h1 := hF _ hf; have h2 := hO.block i hi; omega)
  have HW := Lib.hid h
  have HI := Lib.hid hI
  have HOW := Lib.hid hO
  have hxm : x.length ≤ maxLen := by unfold maxLen; omega
  have hnn : -9223372036854775808 ≤ n ∧ n ≤ 9223372036854775807 := by omega
  obtain ⟨c0, c1, c2, c3, c4, c5, c6⟩ := Lies_cells7 HA.out.c
  obtain ⟨k0, k1, k2⟩ := LB.out.cells3
  rw [bwd2]
  clear h hI hF hO
  go_enter Tryz.func130, Tryz.ntmps130
  go_wp2
  go_ret
  exact ⟨b, rfl, rfl, HA.out, Chg.of (Fe.below1 _ _), fun i hi => .inl hi⟩

end Go.Proofs.YtpbclmnhkmcknaaGreat

namespace Go.Proofs.YtpbclmnhkmcknaaGreat
open Go.RowKit
open Fe (Lies Own Bys Reads NF Kx Kp Note)
set_option maxRecDepth 100000
set_option linter.unusedVariables false
set_option linter.unusedSimpArgs false

theorem Lies_same {w w' : World} {g : Nat} {t : TypeId} {cs : Array Value} (h : Lies w g t cs) (e : w'.heap[g]? = w.heap[g]?) : Lies w' g t cs := e.trans h
set_option maxHeartbeats 4000000 in
theorem forward6 {R : List Int} {b : CB} {q : Cq} (o : Nat) (n : Int) (x : List Nat) (A : Option Addr) (c : Nat) (B0 : Nat) (w : World) (h : CAt w b q) (hI : CInv R q) (ho : o < 4294967296) (hn : 0 ≤ n ∧ n ≤ 1000000000) (hx : x.length ≤ 32)
    (hO : Own w B0 (.slice A x.length c) x) (hB : B0 ≤ w.heap.size) (hF : ∀ i, b.foot i → i < B0) :
    Calls Tryz.prog 131 #[.pointer (some ⟨b.c, 0, none⟩), .int .u32 (o : Int), .agg #[.int .i64 6, .int .i64 n, .slice A x.length c]] w (WkPost w b B0 (fwdS q o ⟨6, n, x⟩)) := by
  have HA : Hid (CAt (w.alloc (.cells #[.int .i64 6, .int .i64 n, .slice A x.length c] 24)) b q) := Lib.hid (h.alloc _)
  have LB : Hid (Lies (w.alloc (.cells #[.int .i64 6, .int .i64 n, .slice A x.length c] 24)) w.heap.size 24 #[.int .i64 6, .int .i64 n, .slice A x.length c]) := Lib.hid (Lies.made w 24 _)
  have HO : Hid (Own (w.alloc (.cells #[.int .i64 6, .int .i64 n, .slice A x.length c] 24)) B0 (.slice A x.length c) x) := Lib.hid (hO.alloc _)
  have HNF : Hid (¬ b.foot w.heap.size) := Lib.hid (fun hf => by have := hF _ hf; omega)
  have HOF : Hid (∀ i, (Value.slice A x.length c).ownBlock = some i → ¬ b.foot i) := Lib.hid (fun i hi hf => by have h1 := hF _ hf; have h2 := hO.block i hi; omega)
  have HW := Lib.hid h
  have HI := Lib.hid hI
  have HOW := Lib.hid hO
  have hxm : x.length ≤ maxLen := by unfold maxLen; omega
  have hnn : -9223372036854775808 ≤ n ∧ n ≤ 9223372036854775807 := by omega
  obtain ⟨c0, c1, c2, c3, c4, c5, c6⟩ := Lies_cells7 HA.out.c
  obtain ⟨k0, k1, k2⟩ := LB.out.cells3
  rw [fwd6]
  obtain ⟨wb, hwb⟩ : ∃ wb, wb = w.alloc (.cells #[.int .i64 6, .int .i64 n, .slice A x.length c] 24) := ⟨_, rfl⟩
  have HWB := Lib.hid hwb
  have HA : Hid (CAt wb b q) := Lib.hid (by rw [hwb]; exact HA.out)
  have LB : Hid (Lies wb w.heap.size 24 #[.int .i64 6, .int .i64 n, .slice A x.length c]) := Lib.hid (by rw [hwb]; exact LB.out)
  have HO : Hid (Own wb B0 (.slice A x.length c) x) := Lib.hid (by rw [hwb]; exact HO.out)
  have HBx : Hid (Below w.heap.size w wb) := Lib.hid (by rw [hwb]; exact Fe.below1 w _)
  have HGx : Hid (w.heap.size < wb.heap.size) := Lib.hid (by rw [hwb]; simp)
  clear hwb
  have HC0 := Lib.hid HA.out.drew.c
  have LB0 : Hid (Lies wb.drew w.heap.size 24 #[.int .i64 6, .int .i64 n, .slice A x.length c]) := Lib.hid LB.out
  have HA1 : Hid (CAt (wb.alloc (.cells #[.slice A x.length c] 22)).drew b q) := Lib.hid (HA.out.alloc _).drew
  have HC1 : Hid (Lies (wb.alloc (.cells #[.slice A x.length c] 22)).drew b.c 122 #[.pointer (some ⟨b.s.s, 0, none⟩), .pointer (some ⟨b.p.s, 0, none⟩), .pointer (some ⟨b.d.s, 0, none⟩), .int .u32 (q.f.ep : Int), b.vL, b.vE, b.vM]) := Lib.hid HA1.out.c
  have LB1 : Hid (Lies (wb.alloc (.cells #[.slice A x.length c] 22)).drew w.heap.size 24 #[.int .i64 6, .int .i64 n, .slice A x.length c]) := Lib.hid (LB.out.alloc _)
  have LN : Hid (Lies (wb.alloc (.cells #[.slice A x.length c] 22)).drew wb.heap.size 22 #[Sl.v ⟨A, x.length, c⟩]) := Lib.hid (Lies.made wb 22 _)
  have HM1 : Hid (OwnV (wb.alloc (.cells #[.slice A x.length c] 22)).drew 0 b.vM b.V) := Lib.hid HA1.out.m
  have HO1 : Hid (Own (wb.alloc (.cells #[.slice A x.length c] 22)).drew B0 (Sl.v ⟨A, x.length, c⟩) x) := Lib.hid (HO.out.alloc _)
  have HBW : Hid (Below w.heap.size w (wb.alloc (.cells #[.slice A x.length c] 22)).drew) := Lib.hid (HBx.out.alloc HBx.out.size _).drew
  have HKC : Hid (b.vM.ownBlock ≠ some b.c) := Lib.hid (fun e => (HA1.out.km e).ne HA1.out.kc (by decide) rfl)
  have HKB : Hid (b.vM.ownBlock ≠ some w.heap.size) := Lib.hid (fun e => (HA1.out.km e).ne (Kb.of LB1.out) (by decide) rfl)
  have HNB : Hid (w.heap.size ≠ b.c) := Lib.hid (Nat.ne_of_gt HW.out.kc.lt)
  have HSM : Hid (b.V.length ≤ 100000) := Lib.hid (by have h1 := HW.out.nt.1; have h2 := HI.out.ml; have h3 := HI.out.n; omega)
  have HB0 := Lib.hid hB
  obtain ⟨d0, d1, d2, d3, d4, d5, d6⟩ := Lies_cells7 HC1.out
  clear h hI hF hO
  go_enter Tryz.func131, Tryz.ntmps131
  go_wp2_with fail
  rw [← HWB.out]
  clear c0 c1 c2 c3 c4 c5 c6 k0 k1 k2
  obtain ⟨c0, c1, c2, c3, c4, c5, c6⟩ := Lies_cells7 HA.out.c
  obtain ⟨k0, k1, k2⟩ := LB.out.cells3
  refine wp_region_noPanic ?_
  refine wp_region_held_drew (S := fun W => Lies W w.heap.size 24 #[.int .i64 6, .int .i64 n, .slice A x.length c]) (by kernel_rfl) (LB.out) (fun hH0 => ?_)
  refine Fe.any_take 0 63 ?vt2 rfl rfl (by kernel_rfl) (by kernel_rfl) (by kernel_rfl) (fun _ _ _ h => h) (by rfl) ?ht2 hH0 ?rt2
  case ht2 => ((intro W hSw); obtain ⟨p0, p1, p2⟩ := Fe.Lies.cells3 hSw; go_simp; (try with_reducible rfl))
  try simp only [Act.put, List.setIfInBounds_toArray, List.set_cons_zero, List.set_cons_succ]
  refine Fe.any_take 1 64 ?vt3 rfl rfl (by kernel_rfl) (by kernel_rfl) (by kernel_rfl) (fun _ _ _ h => h) (by rfl) ?ht3 hH0 ?rt3
  case ht3 => ((intro W hSw); obtain ⟨p0, p1, p2⟩ := Fe.Lies.cells3 hSw; go_simp; (try with_reducible rfl))
  try simp only [Act.put, List.setIfInBounds_toArray, List.set_cons_zero, List.set_cons_succ]
  refine Fe.any_take 2 65 ?vt4 rfl rfl (by kernel_rfl) (by kernel_rfl) (by kernel_rfl) (fun _ _ _ h => h) (by rfl) ?ht4 hH0 ?rt4
  case ht4 => ((intro W hSw); obtain ⟨p0, p1, p2⟩ := Fe.Lies.cells3 hSw; go_simp; (try with_reducible rfl))
  try simp only [Act.put, List.setIfInBounds_toArray, List.set_cons_zero, List.set_cons_succ]
  refine Fe.any_take 3 66 ?vt5 rfl rfl (by kernel_rfl) (by kernel_rfl) (by kernel_rfl) (fun _ _ _ h => h) (by rfl) ?ht5 hH0 ?rt5
  case ht5 => ((intro W hSw); obtain ⟨p0, p1, p2⟩ := Fe.Lies.cells3 hSw; go_simp; (try with_reducible rfl))
  try simp only [Act.put, List.setIfInBounds_toArray, List.set_cons_zero, List.set_cons_succ]
  refine Fe.any_take 5 68 ?vt6 rfl rfl (by kernel_rfl) (by kernel_rfl) (by kernel_rfl) (fun _ _ _ h => h) (by rfl) ?ht6 hH0 ?rt6
  case ht6 => ((intro W hSw); obtain ⟨p0, p1, p2⟩ := Fe.Lies.cells3 hSw; go_simp; (try with_reducible rfl))
  try simp only [Act.put, List.setIfInBounds_toArray, List.set_cons_zero, List.set_cons_succ]
  refine Fe.any_take 6 69 ?vt7 rfl rfl (by kernel_rfl) (by kernel_rfl) (by kernel_rfl) (fun _ _ _ h => h) (by rfl) ?ht7 hH0 ?rt7
  case ht7 => ((intro W hSw); obtain ⟨p0, p1, p2⟩ := Fe.Lies.cells3 hSw; go_simp; (try with_reducible rfl))
  try simp only [Act.put, List.setIfInBounds_toArray, List.set_cons_zero, List.set_cons_succ]
  refine wpAnyH_ready (rs := [4, 7]) (by kernel_rfl) (by simp) ?_
  refine AllReadyH.cons rfl (fun K hK => ?ord1) (AllReadyH.cons rfl (fun K hK => ?ord2) AllReadyH.nil)
  case ord1 =>
    go_simp
    refine hK.out _ _ LB.out (fun hH1 => ?_)
    clear hK K hH0
    try simp only [Act.put, List.setIfInBounds_toArray, List.set_cons_zero, List.set_cons_succ]
    refine wpAnyH_ready (rs := [7]) (by kernel_rfl) (by simp) ?_
    refine AllReadyH.cons rfl (fun K hK => ?_) AllReadyH.nil
    go_simp
    refine hK.out _ _ LB1.out (fun hH2 => ?_)
    clear hK K hH1
    try simp only [Act.put, List.setIfInBounds_toArray, List.set_cons_zero, List.set_cons_succ]
    refine wpAnyH_ready (rs := [8]) (by kernel_rfl) (by simp) ?_
    refine AllReadyH.cons rfl (fun K hK => ?_) AllReadyH.nil
    refine stp_appV (some 71) _ _ _ (.tmp 67) (.tmp 70) b.vM b.V wb.heap.size ⟨A, x.length, c⟩ rfl rfl HM1.out LN.out HSM.out (fun v4 w4 ho4 hg4 hb4 => ?_)
    have HL4 : Hid (Lies w4 b.c 122 #[.pointer (some ⟨b.s.s, 0, none⟩), .pointer (some ⟨b.p.s, 0, none⟩), .pointer (some ⟨b.d.s, 0, none⟩), .int .u32 (q.f.ep : Int), b.vL, b.vE, b.vM]) := Lib.hid (Lies_same HC1.out (hg4.block b.c HC1.out.lt (fun e => HKC.out e.symm)))
    have LB4 : Hid (Lies w4 w.heap.size 24 #[.int .i64 6, .int .i64 n, .slice A x.length c]) := Lib.hid (Lies_same LB1.out (hg4.block _ LB1.out.lt (fun e => HKB.out e.symm)))
    have HO4 := Lib.hid ho4
    have HG4 := Lib.hid hg4
    have HB4 := Lib.hid hb4
    have HONE := Lib.hid (OwnV_one ho4)
    clear ho4 hg4 hb4
    refine hK.out _ _ LB4.out (fun hHa => ?_)
    clear hK K hH2
    try simp only [Act.put, List.setIfInBounds_toArray, List.set_cons_zero, List.set_cons_succ]
    refine Fe.any_take 9 72 ?vt8 rfl rfl (by kernel_rfl) (by kernel_rfl) (by kernel_rfl) (fun _ _ _ h => h) (by rfl) ?ht8 hHa ?rt8
    case ht8 => ((intro W hSw); obtain ⟨p0, p1, p2⟩ := Fe.Lies.cells3 hSw; go_simp; (try with_reducible rfl))
    try simp only [Act.put, List.setIfInBounds_toArray, List.set_cons_zero, List.set_cons_succ]
    refine Fe.any_take 10 73 ?vt9 rfl rfl (by kernel_rfl) (by kernel_rfl) (by kernel_rfl) (fun _ _ _ h => h) (by rfl) ?ht9 hHa ?rt9
    case ht9 => ((intro W hSw); obtain ⟨p0, p1, p2⟩ := Fe.Lies.cells3 hSw; go_simp; (try with_reducible rfl))
    try simp only [Act.put, List.setIfInBounds_toArray, List.set_cons_zero, List.set_cons_succ]
    refine wpAnyH_ready (rs := [11]) (by kernel_rfl) (by simp) ?_
    refine AllReadyH.cons rfl (fun K hK => ?_) AllReadyH.nil
    refine St.stp_putC none _ _ _ 69 (.tmp 73) (.tmp 71) b.c 6 122 _ v4 rfl rfl HL4.out (by simp) (by kernel_rfl) HONE.out (fun w5 hp5 => ?_)
    have HFIN := Lib.hid (HW.out.addM HBW.out HB0.out (Nt.of_own (s := ⟨A, x.length, c⟩) HO1.out) HO1.out.block HO4.out HG4.out HB4.out hp5)
    have LB5 : Hid (Lies w5 w.heap.size 24 #[.int .i64 6, .int .i64 n, .slice A x.length c]) := Lib.hid (Lies_same LB4.out (hp5.grown.block _ LB4.out.lt (fun e => HNB.out (by injection e))))
    refine hK.out _ _ LB5.out (fun hHb => ?_)
    clear hK K hHa hHb hp5
    try simp only [Act.put, List.setIfInBounds_toArray, List.set_cons_zero, List.set_cons_succ]
    refine wpAnyH_done (by kernel_rfl) ?_ _
    refine NoPanic.normal ?_
    go_wp2
    go_ret2
    exact ⟨_, { b with vM := v4, V := b.V ++ [⟨A, x.length, c⟩] }, rfl, Own.nil _ _, (fun i hi => by cases hi), rfl, HFIN.out.1, HFIN.out.2.1, HFIN.out.2.2⟩
  case ord2 =>
    go_simp
    refine hK.out _ _ LB1.out (fun hH1 => ?_)
    clear hK K hH0
    try simp only [Act.put, List.setIfInBounds_toArray, List.set_cons_zero, List.set_cons_succ]
    refine wpAnyH_ready (rs := [4]) (by kernel_rfl) (by simp) ?_
    refine AllReadyH.cons rfl (fun K hK => ?_) AllReadyH.nil
    go_simp
    refine hK.out _ _ LB1.out (fun hH2 => ?_)
    clear hK K hH1
    try simp only [Act.put, List.setIfInBounds_toArray, List.set_cons_zero, List.set_cons_succ]
    refine wpAnyH_ready (rs := [8]) (by kernel_rfl) (by simp) ?_
    refine AllReadyH.cons rfl (fun K hK => ?_) AllReadyH.nil
    refine stp_appV (some 71) _ _ _ (.tmp 67) (.tmp 70) b.vM b.V wb.heap.size ⟨A, x.length, c⟩ rfl rfl HM1.out LN.out HSM.out (fun v4 w4 ho4 hg4 hb4 => ?_)
    have HL4 : Hid (Lies w4 b.c 122 #[.pointer (some ⟨b.s.s, 0, none⟩), .pointer (some ⟨b.p.s, 0, none⟩), .pointer (some ⟨b.d.s, 0, none⟩), .int .u32 (q.f.ep : Int), b.vL, b.vE, b.vM]) := Lib.hid (Lies_same HC1.out (hg4.block b.c HC1.out.lt (fun e => HKC.out e.symm)))
    have LB4 : Hid (Lies w4 w.heap.size 24 #[.int .i64 6, .int .i64 n, .slice A x.length c]) := Lib.hid (Lies_same LB1.out (hg4.block _ LB1.out.lt (fun e => HKB.out e.symm)))
    have HO4 := Lib.hid ho4
    have HG4 := Lib.hid hg4
    have HB4 := Lib.hid hb4
    have HONE := Lib.hid (OwnV_one ho4)
    clear ho4 hg4 hb4
    refine hK.out _ _ LB4.out (fun hHa => ?_)
    clear hK K hH2
    try simp only [Act.put, List.setIfInBounds_toArray, List.set_cons_zero, List.set_cons_succ]
    refine Fe.any_take 9 72 ?vt10 rfl rfl (by kernel_rfl) (by kernel_rfl) (by kernel_rfl) (fun _ _ _ h => h) (by rfl) ?ht10 hHa ?rt10
    case ht10 => ((intro W hSw); obtain ⟨p0, p1, p2⟩ := Fe.Lies.cells3 hSw; go_simp; (try with_reducible rfl))
    try simp only [Act.put, List.setIfInBounds_toArray, List.set_cons_zero, List.set_cons_succ]
    refine Fe.any_take 10 73 ?vt11 rfl rfl (by kernel_rfl) (by kernel_rfl) (by kernel_rfl) (fun _ _ _ h => h) (by rfl) ?ht11 hHa ?rt11
    case ht11 => ((intro W hSw); obtain ⟨p0, p1, p2⟩ := Fe.Lies.cells3 hSw; go_simp; (try with_reducible rfl))
    try simp only [Act.put, List.setIfInBounds_toArray, List.set_cons_zero, List.set_cons_succ]
    refine wpAnyH_ready (rs := [11]) (by kernel_rfl) (by simp) ?_
    refine AllReadyH.cons rfl (fun K hK => ?_) AllReadyH.nil
    refine St.stp_putC none _ _ _ 69 (.tmp 73) (.tmp 71) b.c 6 122 _ v4 rfl rfl HL4.out (by simp) (by kernel_rfl) HONE.out (fun w5 hp5 => ?_)
    have HFIN := Lib.hid (HW.out.addM HBW.out HB0.out (Nt.of_own (s := ⟨A, x.length, c⟩) HO1.out) HO1.out.block HO4.out HG4.out HB4.out hp5)
    have LB5 : Hid (Lies w5 w.heap.size 24 #[.int .i64 6, .int .i64 n, .slice A x.length c]) := Lib.hid (Lies_same LB4.out (hp5.grown.block _ LB4.out.lt (fun e => HNB.out (by injection e))))
    refine hK.out _ _ LB5.out (fun hHb => ?_)
    clear hK K hHa hHb hp5
    try simp only [Act.put, List.setIfInBounds_toArray, List.set_cons_zero, List.set_cons_succ]
    refine wpAnyH_done (by kernel_rfl) ?_ _
    refine NoPanic.normal ?_
    go_wp2
    go_ret2
    exact ⟨_, { b with vM := v4, V := b.V ++ [⟨A, x.length, c⟩] }, rfl, Own.nil _ _, (fun i hi => by cases hi), rfl, HFIN.out.1, HFIN.out.2.1, HFIN.out.2.2⟩

/-- 'append' of bytes, none or more, onto the slice of a constant of one byte, where the order is open. -/
theorem stp_appMark {ops : Array Oper} {a : Act} {w : World} {K : Act → World → Prop} {Q : Exit → Act → World → Prop} {E : Prop} (dst : Option Tmp) (ty : TypeId) (pos : String) (aft : Array Edge) (s x : Operand)
    (g B2 : Nat) (A : Option Addr) (m c : Nat) (news : List Nat)
    (hs : a.eval s = .slice (some ⟨g, 0, none⟩) 1 1) (hx : a.eval x = .slice A m c) (hg : w.heap[g]? = some (.cells #[.int .u8 33] 5 (1, 2))) (hsrc : Own w B2 (.slice A m c) news) (hsm : 1 + m ≤ 100000)
    (h : ∀ s' w', Nt w' s' (33 :: news) → (∀ i, s'.v.ownBlock = some i → g ≤ i) → Below w.heap.size w w' → K (a.put dst s'.v) w') :
    if Region.wanted ⟨dst, .call { callee := .builtin .append, args := #[s, x], argTypes := #[22, 22] }, ty, pos, aft, none⟩ (yielded ops a.tmps) = true then Oper.wp Tryz.prog ⟨dst, .call { callee := .builtin .append, args := #[s, x], argTypes := #[22, 22] }, ty, pos, aft, none⟩ a w K Q else E := by
  rw [if_pos (by simp [Region.wanted])]
  obtain ⟨hb, hmc, hcm, hA⟩ := hsrc.bys
  have hgl : g < w.heap.size := (Array.getElem?_eq_some_iff.1 hg).1
  have hn0 : news = [] → Nt w ⟨some ⟨g, 0, none⟩, 1, 1⟩ (33 :: news) := fun e => by
    subst e
    refine ⟨rfl, Nat.le_refl _, (show (1 : Nat) ≤ maxLen from by unfold maxLen; omega), by decide, .inr ⟨g, _, _, rfl, hg, fun i hi => ?_⟩⟩
    have : i = 0 := by simp at hi; exact hi
    subst this
    rfl
  by_cases hm : m = 0
  · subst hm
    have hl : news = [] := List.eq_nil_of_length_eq_zero hb.1
    have hr : (Builtin.append_ #[22, 22] ty #[.slice (some ⟨g, 0, none⟩) 1 1, .slice A 0 c]).run Tryz.prog w = .ok (.slice (some ⟨g, 0, none⟩) 1 1) w := by
      have hu := Tryz.underlying22
      have hi5 : ∃ inf, Tryz.prog.info? 5 = some inf ∧ inf.size = 1 := ⟨_, Tryz.type5, rfl⟩
      obtain ⟨inf, hi5, hs5⟩ := hi5
      rcases A with _ | ad <;> simp [Builtin.append_, run_underlying hu, sizeOf, typeInfo, hi5, hs5, Builtin.lenOf, Builtin.firstCells, loadCells, loadCellsFrom, storeCells]
    unfold Oper.wp execOp
    simp only [resolve, invoke, builtin, Sem.run_bind, Sem.run_pure, Result.andThen_ok, List.map_toArray, List.map_cons, List.map_nil, hs, hx, hr]
    exact h ⟨some ⟨g, 0, none⟩, 1, 1⟩ w (hn0 hl) (fun i hi => by have : g = i := by simpa [Value.ownBlock] using hi
                                                                 omega) (Below.refl _ _)
  · rcases A with _ | ad
    · exact absurd (hA rfl).1 hm
    · obtain ⟨v', w', hr, h2, h3⟩ := run_append_arg_grows (P := Tryz.prog) w 22 ty 5 _ (.int .u8 0) 1 1 Tryz.underlying22 Tryz.type5 rfl rfl rfl rfl (by decide) ⟨g, 0, none⟩ 1 1 [.int .u8 33] rfl (fun j u hu => by
          have hj : j = 0 := by have := (List.getElem?_eq_some_iff.1 hu).1; simp at this; exact this
          subst hj
          rw [Addr.add_mid, cell_of_row w g _ _ 5 _ hg]
          exact hu) ad m c (Fe.vals news) (by simp [Fe.vals, hb.1]) (hb.cells _ rfl) (by omega) (by unfold maxLen; omega) (by omega)
      have hlen : (33 :: news).length = 1 + m := by rw [List.length_cons, hb.1]; omega
      have ho : Own w' w.heap.size v' (33 :: news) := by
        refine ⟨?_, ?_⟩
        · rw [hlen]; exact h2
        · intro c hc
          rcases List.mem_cons.1 hc with rfl | hc
          · decide
          · exact hb.2.1 c hc
      obtain ⟨A', c', rfl, -⟩ := ho.slice
      unfold Oper.wp execOp
      simp only [resolve, invoke, builtin, Sem.run_bind, Sem.run_pure, Result.andThen_ok, List.map_toArray, List.map_cons, List.map_nil, hs, hx, hr]
      exact h ⟨A', (33 :: news).length, c'⟩ w' (Nt.of_own (s := ⟨A', (33 :: news).length, c'⟩) ho) (fun i hi => by have := ho.block i hi; omega) ⟨h3.os, h3.tape, h3.output, h3.size, fun k hk => h3.block k hk (by simp)⟩
set_option maxHeartbeats 4000000 in
theorem undo6 {R : List Int} {b : CB} {q : Cq} (o : Nat) (n : Int) (x : List Nat) (A : Option Addr) (c : Nat) (B0 : Nat) (w : World) (h : CAt w b q) (hI : CInv R q) (ho : o < 4294967296) (hn : 0 ≤ n ∧ n ≤ 1000000000) (hx : x.length ≤ 32)
    (hO : Own w B0 (.slice A x.length c) x) (hB : B0 ≤ w.heap.size) (hF : ∀ i, b.foot i → i < B0) :
    Calls Tryz.prog 130 #[.pointer (some ⟨b.c, 0, none⟩), .int .u32 (o : Int), .agg #[.int .i64 6, .int .i64 n, .slice A x.length c]] w (UnPost w b B0 (bwdS q o ⟨6, n, x⟩)) := by
  have HA : Hid (CAt (w.alloc (.cells #[.int .i64 6, .int .i64 n, .slice A x.length c] 24)) b q) := Lib.hid (h.alloc _)
  have LB : Hid (Lies (w.alloc (.cells #[.int .i64 6, .int .i64 n, .slice A x.length c] 24)) w.heap.size 24 #[.int .i64 6, .int .i64 n, .slice A x.length c]) := Lib.hid (Lies.made w 24 _)
  have HO : Hid (Own (w.alloc (.cells #[.int .i64 6, .int .i64 n, .slice A x.length c] 24)) B0 (.slice A x.length c) x) := Lib.hid (hO.alloc _)
  have HNF : Hid (¬ b.foot w.heap.size) := Lib.hid (fun hf => by have := hF _ hf; omega)
  have HOF : Hid (∀ i, (Value.slice A x.length c).ownBlock = some i → ¬ b.foot i) := Lib.hid (fun i hi hf => by have h1 := hF _ hf; have h2 := hO.block i hi; omega)
  have HW := Lib.hid h
  have HI := Lib.hid hI
  have HOW := Lib.hid hO
  have hxm : x.length ≤ maxLen := by unfold maxLen; omega
  have hnn : -9223372036854775808 ≤ n ∧ n ≤ 9223372036854775807 := by omega
  obtain ⟨c0, c1, c2, c3, c4, c5, c6⟩ := Lies_cells7 HA.out.c
  obtain ⟨k0, k1, k2⟩ := LB.out.cells3
  rw [bwd6]
  obtain ⟨wb, hwb⟩ : ∃ wb, wb = w.alloc (.cells #[.int .i64 6, .int .i64 n, .slice A x.length c] 24) := ⟨_, rfl⟩
  have HWB := Lib.hid hwb
  have HA : Hid (CAt wb b q) := Lib.hid (by rw [hwb]; exact HA.out)
  have LB : Hid (Lies wb w.heap.size 24 #[.int .i64 6, .int .i64 n, .slice A x.length c]) := Lib.hid (by rw [hwb]; exact LB.out)
  have HO : Hid (Own wb B0 (.slice A x.length c) x) := Lib.hid (by rw [hwb]; exact HO.out)
  have HBx : Hid (Below w.heap.size w wb) := Lib.hid (by rw [hwb]; exact Fe.below1 w _)
  have HGx : Hid (w.heap.size < wb.heap.size) := Lib.hid (by rw [hwb]; simp)
  clear hwb
  have LB1 : Hid (Lies (wb.alloc (.cells #[.int .u8 33] 5)).drew w.heap.size 24 #[.int .i64 6, .int .i64 n, .slice A x.length c]) := Lib.hid (LB.out.alloc _)
  have HA0 : Hid (CAt (wb.alloc (.cells #[.int .u8 33] 5)).drew b q) := Lib.hid (HA.out.alloc _).drew
  have HA1 : Hid (CAt (wb.alloc (.cells #[.int .u8 33] 5 (1, 2))).drew b q) := Lib.hid (HA.out.alloc _).drew
  have LBm : Hid (Lies (wb.alloc (.cells #[.int .u8 33] 5 (1, 2))).drew w.heap.size 24 #[.int .i64 6, .int .i64 n, .slice A x.length c]) := Lib.hid (LB.out.alloc _)
  have HO1 : Hid (Own (wb.alloc (.cells #[.int .u8 33] 5 (1, 2))).drew B0 (.slice A x.length c) x) := Lib.hid (HO.out.alloc _)
  have HF1 : Hid ((wb.alloc (.cells #[.int .u8 33] 5 (1, 2))).drew.heap[wb.heap.size]? = some (.cells #[.int .u8 33] 5 (1, 2))) := Lib.hid (heap_alloc_new wb _)
  have HBW : Hid (Below w.heap.size w (wb.alloc (.cells #[.int .u8 33] 5 (1, 2))).drew) := Lib.hid (HBx.out.alloc HBx.out.size _).drew
  have HGW := Lib.hid HGx.out
  have HXL : Hid (1 + x.length ≤ 100000) := Lib.hid (by omega)
  have HNB : Hid (w.heap.size ≠ b.c) := Lib.hid (Nat.ne_of_gt HW.out.kc.lt)
  have HSM : Hid (b.V.length ≤ 100000) := Lib.hid (by have h1 := HW.out.nt.1; have h2 := HI.out.ml; have h3 := HI.out.n; omega)
  have HB0 := Lib.hid hB
  have rs : (convert 22 22 (.slice (some ⟨wb.heap.size, 0, none⟩) 1 1)).run Tryz.prog (wb.alloc (.cells #[.int .u8 33] 5)).drew = .ok (.slice (some ⟨wb.heap.size, 0, none⟩) 1 1) (wb.alloc (.cells #[.int .u8 33] 5 (1, 2))).drew := Lib.run_convert_bytes_const (P := Tryz.prog) wb.drew 22 5 #[.int .u8 33] 1 1 Tryz.underlying22 Tryz.underlying5
  obtain ⟨d0, d1, d2, d3, d4, d5, d6⟩ := Lies_cells7 HA0.out.c
  obtain ⟨g0, g1, g2, g3, g4, g5, g6⟩ := Lies_cells7 HA1.out.c
  clear h hI hF hO
  go_enter Tryz.func130, Tryz.ntmps130
  go_wp2_with fail
  rw [← HWB.out]
  clear c0 c1 c2 c3 c4 c5 c6 k0 k1 k2
  obtain ⟨c0, c1, c2, c3, c4, c5, c6⟩ := Lies_cells7 HA.out.c
  obtain ⟨k0, k1, k2⟩ := LB.out.cells3
  refine wp_region_noPanic ?_
  refine wp_region_held_drew (S := fun W => Lies W w.heap.size 24 #[.int .i64 6, .int .i64 n, .slice A x.length c]) (by kernel_rfl) (LB.out) (fun hH0 => ?_)
  refine Fe.any_take 0 43 ?vt13 rfl rfl (by kernel_rfl) (by kernel_rfl) (by kernel_rfl) (fun _ _ _ h => h) (by rfl) ?ht13 hH0 ?rt13
  case ht13 => ((intro W hSw); obtain ⟨p0, p1, p2⟩ := Fe.Lies.cells3 hSw; go_simp; (try with_reducible rfl))
  try simp only [Act.put, List.setIfInBounds_toArray, List.set_cons_zero, List.set_cons_succ]
  refine Fe.any_take 1 44 ?vt14 rfl rfl (by kernel_rfl) (by kernel_rfl) (by kernel_rfl) (fun _ _ _ h => h) (by rfl) ?ht14 hH0 ?rt14
  case ht14 => ((intro W hSw); obtain ⟨p0, p1, p2⟩ := Fe.Lies.cells3 hSw; go_simp; (try with_reducible rfl))
  try simp only [Act.put, List.setIfInBounds_toArray, List.set_cons_zero, List.set_cons_succ]
  refine Fe.any_take 2 45 ?vt15 rfl rfl (by kernel_rfl) (by kernel_rfl) (by kernel_rfl) (fun _ _ _ h => h) (by rfl) ?ht15 hH0 ?rt15
  case ht15 => ((intro W hSw); obtain ⟨p0, p1, p2⟩ := Fe.Lies.cells3 hSw; go_simp; (try with_reducible rfl))
  try simp only [Act.put, List.setIfInBounds_toArray, List.set_cons_zero, List.set_cons_succ]
  refine Fe.any_take 3 46 ?vt16 rfl rfl (by kernel_rfl) (by kernel_rfl) (by kernel_rfl) (fun _ _ _ h => h) (by rfl) ?ht16 hH0 ?rt16
  case ht16 => ((intro W hSw); obtain ⟨p0, p1, p2⟩ := Fe.Lies.cells3 hSw; go_simp; (try with_reducible rfl))
  try simp only [Act.put, List.setIfInBounds_toArray, List.set_cons_zero, List.set_cons_succ]
  refine Fe.any_take 7 50 ?vt17 rfl rfl (by kernel_rfl) (by kernel_rfl) (by kernel_rfl) (fun _ _ _ h => h) (by rfl) ?ht17 hH0 ?rt17
  case ht17 => ((intro W hSw); obtain ⟨p0, p1, p2⟩ := Fe.Lies.cells3 hSw; go_simp; (try with_reducible rfl))
  try simp only [Act.put, List.setIfInBounds_toArray, List.set_cons_zero, List.set_cons_succ]
  refine Fe.any_take 8 51 ?vt18 rfl rfl (by kernel_rfl) (by kernel_rfl) (by kernel_rfl) (fun _ _ _ h => h) (by rfl) ?ht18 hH0 ?rt18
  case ht18 => ((intro W hSw); obtain ⟨p0, p1, p2⟩ := Fe.Lies.cells3 hSw; go_simp; (try with_reducible rfl))
  try simp only [Act.put, List.setIfInBounds_toArray, List.set_cons_zero, List.set_cons_succ]
  refine wpAnyH_ready (rs := [4, 5]) (by kernel_rfl) (by simp) ?_
  refine AllReadyH.cons rfl (fun K hK => ?oA1) (AllReadyH.cons rfl (fun K hK => ?oB1) AllReadyH.nil)
  case oA1 =>
    go_simp
    refine hK.out _ _ LB.out (fun hH1a => ?_)
    clear hK K hH0
    try simp only [Act.put, List.setIfInBounds_toArray, List.set_cons_zero, List.set_cons_succ]
    refine wpAnyH_ready (rs := [5]) (by kernel_rfl) (by simp) ?_
    refine AllReadyH.cons rfl (fun K hK => ?oA2) AllReadyH.nil
    case oA2 =>
      go_simp
      refine hK.out _ _ LB1.out (fun hH2a => ?_)
      clear hK K hH1a
      try simp only [Act.put, List.setIfInBounds_toArray, List.set_cons_zero, List.set_cons_succ]
      refine wpAnyH_ready (rs := [6]) (by kernel_rfl) (by simp) ?_
      refine AllReadyH.cons rfl (fun K hK => ?oA3) AllReadyH.nil
      case oA3 =>
        go_simp
        refine hK.out _ _ LBm.out (fun hH3a => ?_)
        clear hK K hH2a
        try simp only [Act.put, List.setIfInBounds_toArray, List.set_cons_zero, List.set_cons_succ]
        refine wpAnyH_ready (rs := [9]) (by kernel_rfl) (by simp) ?_
        refine AllReadyH.cons rfl (fun K hK => ?oA4) AllReadyH.nil
        case oA4 =>
          refine stp_appMark (some 52) _ _ _ (.tmp 49) (.tmp 51) wb.heap.size B0 A x.length c x rfl rfl HF1.out HO1.out HXL.out (fun s2 w2 ho2 hv2 hg2 => ?_)
          have HB2 := Lib.hid (HBW.out.trans (hg2.mono HBW.out.size))
          have HA2 := Lib.hid (HA1.out.below hg2)
          have LB2 := Lib.hid (LBm.out.below hg2 LBm.out.lt)
          have HO2 := Lib.hid (And.intro ho2 hv2)
          clear ho2 hg2 hv2
          obtain ⟨e0, e1, e2, e3, e4, e5, e6⟩ := Lies_cells7 HA2.out.c
          have HA3 : Hid (CAt (w2.alloc (.cells #[s2.v] 22)) b q) := Lib.hid (HA2.out.alloc _)
          have LB3 : Hid (Lies (w2.alloc (.cells #[s2.v] 22)) w.heap.size 24 #[.int .i64 6, .int .i64 n, .slice A x.length c]) := Lib.hid (LB2.out.alloc _)
          have HC3 : Hid (Lies (w2.alloc (.cells #[s2.v] 22)) b.c 122 #[.pointer (some ⟨b.s.s, 0, none⟩), .pointer (some ⟨b.p.s, 0, none⟩), .pointer (some ⟨b.d.s, 0, none⟩), .int .u32 (q.f.ep : Int), b.vL, b.vE, b.vM]) := Lib.hid HA3.out.c
          have LN : Hid (Lies (w2.alloc (.cells #[s2.v] 22)) w2.heap.size 22 #[s2.v]) := Lib.hid (Lies.made w2 22 _)
          have HM3 : Hid (OwnV (w2.alloc (.cells #[s2.v] 22)) 0 b.vM b.V) := Lib.hid HA3.out.m
          have HO3 : Hid (Nt (w2.alloc (.cells #[s2.v] 22)) s2 (33 :: x) ∧ ∀ i, s2.v.ownBlock = some i → B0 ≤ i) := Lib.hid ⟨HO2.out.1.same fun k hk => Below.heap_alloc w2 _ k (HO2.out.1.kb hk).lt, fun i hi => by have h1 := HO2.out.2 i hi; have h2 := HB0.out; have h3 := HGW.out; omega⟩
          have HB3 : Hid (Below w.heap.size w (w2.alloc (.cells #[s2.v] 22))) := Lib.hid (HB2.out.alloc HB2.out.size _)
          have HKC : Hid (b.vM.ownBlock ≠ some b.c) := Lib.hid (fun e => (HA3.out.km e).ne HA3.out.kc (by decide) rfl)
          have HKB : Hid (b.vM.ownBlock ≠ some w.heap.size) := Lib.hid (fun e => (HA3.out.km e).ne (Kb.of LB3.out) (by decide) rfl)
          obtain ⟨f0, f1, f2, f3, f4, f5, f6⟩ := Lies_cells7 HC3.out
          refine hK.out _ _ LB2.out (fun hH4a => ?_)
          clear hK K hH3a
          try simp only [Act.put, List.setIfInBounds_toArray, List.set_cons_zero, List.set_cons_succ]
          refine wpAnyH_ready (rs := [10]) (by kernel_rfl) (by simp) ?_
          refine AllReadyH.cons rfl (fun K hK => ?oA5) AllReadyH.nil
          case oA5 =>
            go_simp
            refine hK.out _ _ LB3.out (fun hH5a => ?_)
            clear hK K hH4a
            try simp only [Act.put, List.setIfInBounds_toArray, List.set_cons_zero, List.set_cons_succ]
            refine wpAnyH_ready (rs := [11]) (by kernel_rfl) (by simp) ?_
            refine AllReadyH.cons rfl (fun K hK => ?_) AllReadyH.nil
            refine stp_appV (some 54) _ _ _ (.tmp 47) (.tmp 53) b.vM b.V w2.heap.size s2 rfl rfl HM3.out LN.out HSM.out (fun v4 w4 ho4 hg4 hb4 => ?_)
            have HL4 : Hid (Lies w4 b.c 122 #[.pointer (some ⟨b.s.s, 0, none⟩), .pointer (some ⟨b.p.s, 0, none⟩), .pointer (some ⟨b.d.s, 0, none⟩), .int .u32 (q.f.ep : Int), b.vL, b.vE, b.vM]) := Lib.hid (Lies_same HC3.out (hg4.block b.c HC3.out.lt (fun e => HKC.out e.symm)))
            have LB4 : Hid (Lies w4 w.heap.size 24 #[.int .i64 6, .int .i64 n, .slice A x.length c]) := Lib.hid (Lies_same LB3.out (hg4.block _ LB3.out.lt (fun e => HKB.out e.symm)))
            have HO4 := Lib.hid ho4
            have HG4 := Lib.hid hg4
            have HB4 := Lib.hid hb4
            have HONE := Lib.hid (OwnV_one ho4)
            clear ho4 hg4 hb4
            refine hK.out _ _ LB4.out (fun hHa => ?_)
            clear hK K hH5a
            try simp only [Act.put, List.setIfInBounds_toArray, List.set_cons_zero, List.set_cons_succ]
            refine Fe.any_take 12 55 ?vt19 rfl rfl (by kernel_rfl) (by kernel_rfl) (by kernel_rfl) (fun _ _ _ h => h) (by rfl) ?ht19 hHa ?rt19
            case ht19 => ((intro W hSw); obtain ⟨p0, p1, p2⟩ := Fe.Lies.cells3 hSw; go_simp; (try with_reducible rfl))
            try simp only [Act.put, List.setIfInBounds_toArray, List.set_cons_zero, List.set_cons_succ]
            refine Fe.any_take 13 56 ?vt20 rfl rfl (by kernel_rfl) (by kernel_rfl) (by kernel_rfl) (fun _ _ _ h => h) (by rfl) ?ht20 hHa ?rt20
            case ht20 => ((intro W hSw); obtain ⟨p0, p1, p2⟩ := Fe.Lies.cells3 hSw; go_simp; (try with_reducible rfl))
            try simp only [Act.put, List.setIfInBounds_toArray, List.set_cons_zero, List.set_cons_succ]
            refine wpAnyH_ready (rs := [14]) (by kernel_rfl) (by simp) ?_
            refine AllReadyH.cons rfl (fun K hK => ?_) AllReadyH.nil
            refine St.stp_putC none _ _ _ 69 (.tmp 56) (.tmp 54) b.c 6 122 _ v4 rfl rfl HL4.out (by simp) (by kernel_rfl) HONE.out (fun w5 hp5 => ?_)
            have HFIN := Lib.hid (HW.out.addM HB3.out HB0.out HO3.out.1 HO3.out.2 HO4.out HG4.out HB4.out hp5)
            have LB5 : Hid (Lies w5 w.heap.size 24 #[.int .i64 6, .int .i64 n, .slice A x.length c]) := Lib.hid (Lies_same LB4.out (hp5.grown.block _ LB4.out.lt (fun e => HNB.out (by injection e))))
            refine hK.out _ _ LB5.out (fun hHb => ?_)
            clear hK K hHa hHb hp5
            try simp only [Act.put, List.setIfInBounds_toArray, List.set_cons_zero, List.set_cons_succ]
            refine wpAnyH_done (by kernel_rfl) ?_ _
            refine NoPanic.normal ?_
            go_wp2
            go_ret
            exact ⟨{ b with vM := v4, V := b.V ++ [s2] }, rfl, rfl, HFIN.out.1, HFIN.out.2.1, HFIN.out.2.2⟩
  case oB1 =>
    go_simp
    refine hK.out _ _ LB1.out (fun hH1b => ?_)
    clear hK K hH0
    try simp only [Act.put, List.setIfInBounds_toArray, List.set_cons_zero, List.set_cons_succ]
    refine wpAnyH_ready (rs := [4, 6]) (by kernel_rfl) (by simp) ?_
    refine AllReadyH.cons rfl (fun K hK => ?oA6) (AllReadyH.cons rfl (fun K hK => ?oB6) AllReadyH.nil)
    case oA6 =>
      go_simp
      refine hK.out _ _ LB1.out (fun hH6a => ?_)
      clear hK K hH1b
      try simp only [Act.put, List.setIfInBounds_toArray, List.set_cons_zero, List.set_cons_succ]
      refine wpAnyH_ready (rs := [6]) (by kernel_rfl) (by simp) ?_
      refine AllReadyH.cons rfl (fun K hK => ?oA7) AllReadyH.nil
      case oA7 =>
        go_simp
        refine hK.out _ _ LBm.out (fun hH7a => ?_)
        clear hK K hH6a
        try simp only [Act.put, List.setIfInBounds_toArray, List.set_cons_zero, List.set_cons_succ]
        refine wpAnyH_ready (rs := [9]) (by kernel_rfl) (by simp) ?_
        refine AllReadyH.cons rfl (fun K hK => ?oA8) AllReadyH.nil
        case oA8 =>
          refine stp_appMark (some 52) _ _ _ (.tmp 49) (.tmp 51) wb.heap.size B0 A x.length c x rfl rfl HF1.out HO1.out HXL.out (fun s2 w2 ho2 hv2 hg2 => ?_)
          have HB2 := Lib.hid (HBW.out.trans (hg2.mono HBW.out.size))
          have HA2 := Lib.hid (HA1.out.below hg2)
          have LB2 := Lib.hid (LBm.out.below hg2 LBm.out.lt)
          have HO2 := Lib.hid (And.intro ho2 hv2)
          clear ho2 hg2 hv2
          obtain ⟨e0, e1, e2, e3, e4, e5, e6⟩ := Lies_cells7 HA2.out.c
          have HA3 : Hid (CAt (w2.alloc (.cells #[s2.v] 22)) b q) := Lib.hid (HA2.out.alloc _)
          have LB3 : Hid (Lies (w2.alloc (.cells #[s2.v] 22)) w.heap.size 24 #[.int .i64 6, .int .i64 n, .slice A x.length c]) := Lib.hid (LB2.out.alloc _)
          have HC3 : Hid (Lies (w2.alloc (.cells #[s2.v] 22)) b.c 122 #[.pointer (some ⟨b.s.s, 0, none⟩), .pointer (some ⟨b.p.s, 0, none⟩), .pointer (some ⟨b.d.s, 0, none⟩), .int .u32 (q.f.ep : Int), b.vL, b.vE, b.vM]) := Lib.hid HA3.out.c
          have LN : Hid (Lies (w2.alloc (.cells #[s2.v] 22)) w2.heap.size 22 #[s2.v]) := Lib.hid (Lies.made w2 22 _)
          have HM3 : Hid (OwnV (w2.alloc (.cells #[s2.v] 22)) 0 b.vM b.V) := Lib.hid HA3.out.m
          have HO3 : Hid (Nt (w2.alloc (.cells #[s2.v] 22)) s2 (33 :: x) ∧ ∀ i, s2.v.ownBlock = some i → B0 ≤ i) := Lib.hid ⟨HO2.out.1.same fun k hk => Below.heap_alloc w2 _ k (HO2.out.1.kb hk).lt, fun i hi => by have h1 := HO2.out.2 i hi; have h2 := HB0.out; have h3 := HGW.out; omega⟩
          have HB3 : Hid (Below w.heap.size w (w2.alloc (.cells #[s2.v] 22))) := Lib.hid (HB2.out.alloc HB2.out.size _)
          have HKC : Hid (b.vM.ownBlock ≠ some b.c) := Lib.hid (fun e => (HA3.out.km e).ne HA3.out.kc (by decide) rfl)
          have HKB : Hid (b.vM.ownBlock ≠ some w.heap.size) := Lib.hid (fun e => (HA3.out.km e).ne (Kb.of LB3.out) (by decide) rfl)
          obtain ⟨f0, f1, f2, f3, f4, f5, f6⟩ := Lies_cells7 HC3.out
          refine hK.out _ _ LB2.out (fun hH8a => ?_)
          clear hK K hH7a
          try simp only [Act.put, List.setIfInBounds_toArray, List.set_cons_zero, List.set_cons_succ]
          refine wpAnyH_ready (rs := [10]) (by kernel_rfl) (by simp) ?_
          refine AllReadyH.cons rfl (fun K hK => ?oA9) AllReadyH.nil
          case oA9 =>
            go_simp
            refine hK.out _ _ LB3.out (fun hH9a => ?_)
            clear hK K hH8a
            try simp only [Act.put, List.setIfInBounds_toArray, List.set_cons_zero, List.set_cons_succ]
            refine wpAnyH_ready (rs := [11]) (by kernel_rfl) (by simp) ?_
            refine AllReadyH.cons rfl (fun K hK => ?_) AllReadyH.nil
            refine stp_appV (some 54) _ _ _ (.tmp 47) (.tmp 53) b.vM b.V w2.heap.size s2 rfl rfl HM3.out LN.out HSM.out (fun v4 w4 ho4 hg4 hb4 => ?_)
            have HL4 : Hid (Lies w4 b.c 122 #[.pointer (some ⟨b.s.s, 0, none⟩), .pointer (some ⟨b.p.s, 0, none⟩), .pointer (some ⟨b.d.s, 0, none⟩), .int .u32 (q.f.ep : Int), b.vL, b.vE, b.vM]) := Lib.hid (Lies_same HC3.out (hg4.block b.c HC3.out.lt (fun e => HKC.out e.symm)))
            have LB4 : Hid (Lies w4 w.heap.size 24 #[.int .i64 6, .int .i64 n, .slice A x.length c]) := Lib.hid (Lies_same LB3.out (hg4.block _ LB3.out.lt (fun e => HKB.out e.symm)))
            have HO4 := Lib.hid ho4
            have HG4 := Lib.hid hg4
            have HB4 := Lib.hid hb4
            have HONE := Lib.hid (OwnV_one ho4)
            clear ho4 hg4 hb4
            refine hK.out _ _ LB4.out (fun hHa => ?_)
            clear hK K hH9a
            try simp only [Act.put, List.setIfInBounds_toArray, List.set_cons_zero, List.set_cons_succ]
            refine Fe.any_take 12 55 ?vt21 rfl rfl (by kernel_rfl) (by kernel_rfl) (by kernel_rfl) (fun _ _ _ h => h) (by rfl) ?ht21 hHa ?rt21
            case ht21 => ((intro W hSw); obtain ⟨p0, p1, p2⟩ := Fe.Lies.cells3 hSw; go_simp; (try with_reducible rfl))
            try simp only [Act.put, List.setIfInBounds_toArray, List.set_cons_zero, List.set_cons_succ]
            refine Fe.any_take 13 56 ?vt22 rfl rfl (by kernel_rfl) (by kernel_rfl) (by kernel_rfl) (fun _ _ _ h => h) (by rfl) ?ht22 hHa ?rt22
            case ht22 => ((intro W hSw); obtain ⟨p0, p1, p2⟩ := Fe.Lies.cells3 hSw; go_simp; (try with_reducible rfl))
            try simp only [Act.put, List.setIfInBounds_toArray, List.set_cons_zero, List.set_cons_succ]
            refine wpAnyH_ready (rs := [14]) (by kernel_rfl) (by simp) ?_
            refine AllReadyH.cons rfl (fun K hK => ?_) AllReadyH.nil
            refine St.stp_putC none _ _ _ 69 (.tmp 56) (.tmp 54) b.c 6 122 _ v4 rfl rfl HL4.out (by simp) (by kernel_rfl) HONE.out (fun w5 hp5 => ?_)
            have HFIN := Lib.hid (HW.out.addM HB3.out HB0.out HO3.out.1 HO3.out.2 HO4.out HG4.out HB4.out hp5)
            have LB5 : Hid (Lies w5 w.heap.size 24 #[.int .i64 6, .int .i64 n, .slice A x.length c]) := Lib.hid (Lies_same LB4.out (hp5.grown.block _ LB4.out.lt (fun e => HNB.out (by injection e))))
            refine hK.out _ _ LB5.out (fun hHb => ?_)
            clear hK K hHa hHb hp5
            try simp only [Act.put, List.setIfInBounds_toArray, List.set_cons_zero, List.set_cons_succ]
            refine wpAnyH_done (by kernel_rfl) ?_ _
            refine NoPanic.normal ?_
            go_wp2
            go_ret
            exact ⟨{ b with vM := v4, V := b.V ++ [s2] }, rfl, rfl, HFIN.out.1, HFIN.out.2.1, HFIN.out.2.2⟩
    case oB6 =>
      go_simp
      refine hK.out _ _ LBm.out (fun hH6b => ?_)
      clear hK K hH1b
      try simp only [Act.put, List.setIfInBounds_toArray, List.set_cons_zero, List.set_cons_succ]
      refine wpAnyH_ready (rs := [4, 9]) (by kernel_rfl) (by simp) ?_
      refine AllReadyH.cons rfl (fun K hK => ?oA10) (AllReadyH.cons rfl (fun K hK => ?oB10) AllReadyH.nil)
      case oA10 =>
        go_simp
        refine hK.out _ _ LBm.out (fun hH10a => ?_)
        clear hK K hH6b
        try simp only [Act.put, List.setIfInBounds_toArray, List.set_cons_zero, List.set_cons_succ]
        refine wpAnyH_ready (rs := [9]) (by kernel_rfl) (by simp) ?_
        refine AllReadyH.cons rfl (fun K hK => ?oA11) AllReadyH.nil
        case oA11 =>
          refine stp_appMark (some 52) _ _ _ (.tmp 49) (.tmp 51) wb.heap.size B0 A x.length c x rfl rfl HF1.out HO1.out HXL.out (fun s2 w2 ho2 hv2 hg2 => ?_)
          have HB2 := Lib.hid (HBW.out.trans (hg2.mono HBW.out.size))
          have HA2 := Lib.hid (HA1.out.below hg2)
          have LB2 := Lib.hid (LBm.out.below hg2 LBm.out.lt)
          have HO2 := Lib.hid (And.intro ho2 hv2)
          clear ho2 hg2 hv2
          obtain ⟨e0, e1, e2, e3, e4, e5, e6⟩ := Lies_cells7 HA2.out.c
          have HA3 : Hid (CAt (w2.alloc (.cells #[s2.v] 22)) b q) := Lib.hid (HA2.out.alloc _)
          have LB3 : Hid (Lies (w2.alloc (.cells #[s2.v] 22)) w.heap.size 24 #[.int .i64 6, .int .i64 n, .slice A x.length c]) := Lib.hid (LB2.out.alloc _)
          have HC3 : Hid (Lies (w2.alloc (.cells #[s2.v] 22)) b.c 122 #[.pointer (some ⟨b.s.s, 0, none⟩), .pointer (some ⟨b.p.s, 0, none⟩), .pointer (some ⟨b.d.s, 0, none⟩), .int .u32 (q.f.ep : Int), b.vL, b.vE, b.vM]) := Lib.hid HA3.out.c
          have LN : Hid (Lies (w2.alloc (.cells #[s2.v] 22)) w2.heap.size 22 #[s2.v]) := Lib.hid (Lies.made w2 22 _)
          have HM3 : Hid (OwnV (w2.alloc (.cells #[s2.v] 22)) 0 b.vM b.V) := Lib.hid HA3.out.m
          have HO3 : Hid (Nt (w2.alloc (.cells #[s2.v] 22)) s2 (33 :: x) ∧ ∀ i, s2.v.ownBlock = some i → B0 ≤ i) := Lib.hid ⟨HO2.out.1.same fun k hk => Below.heap_alloc w2 _ k (HO2.out.1.kb hk).lt, fun i hi => by have h1 := HO2.out.2 i hi; have h2 := HB0.out; have h3 := HGW.out; omega⟩
          have HB3 : Hid (Below w.heap.size w (w2.alloc (.cells #[s2.v] 22))) := Lib.hid (HB2.out.alloc HB2.out.size _)
          have HKC : Hid (b.vM.ownBlock ≠ some b.c) := Lib.hid (fun e => (HA3.out.km e).ne HA3.out.kc (by decide) rfl)
          have HKB : Hid (b.vM.ownBlock ≠ some w.heap.size) := Lib.hid (fun e => (HA3.out.km e).ne (Kb.of LB3.out) (by decide) rfl)
          obtain ⟨f0, f1, f2, f3, f4, f5, f6⟩ := Lies_cells7 HC3.out
          refine hK.out _ _ LB2.out (fun hH11a => ?_)
          clear hK K hH10a
          try simp only [Act.put, List.setIfInBounds_toArray, List.set_cons_zero, List.set_cons_succ]
          refine wpAnyH_ready (rs := [10]) (by kernel_rfl) (by simp) ?_
          refine AllReadyH.cons rfl (fun K hK => ?oA12) AllReadyH.nil
          case oA12 =>
            go_simp
            refine hK.out _ _ LB3.out (fun hH12a => ?_)
            clear hK K hH11a
            try simp only [Act.put, List.setIfInBounds_toArray, List.set_cons_zero, List.set_cons_succ]
            refine wpAnyH_ready (rs := [11]) (by kernel_rfl) (by simp) ?_
            refine AllReadyH.cons rfl (fun K hK => ?_) AllReadyH.nil
            refine stp_appV (some 54) _ _ _ (.tmp 47) (.tmp 53) b.vM b.V w2.heap.size s2 rfl rfl HM3.out LN.out HSM.out (fun v4 w4 ho4 hg4 hb4 => ?_)
            have HL4 : Hid (Lies w4 b.c 122 #[.pointer (some ⟨b.s.s, 0, none⟩), .pointer (some ⟨b.p.s, 0, none⟩), .pointer (some ⟨b.d.s, 0, none⟩), .int .u32 (q.f.ep : Int), b.vL, b.vE, b.vM]) := Lib.hid (Lies_same HC3.out (hg4.block b.c HC3.out.lt (fun e => HKC.out e.symm)))
            have LB4 : Hid (Lies w4 w.heap.size 24 #[.int .i64 6, .int .i64 n, .slice A x.length c]) := Lib.hid (Lies_same LB3.out (hg4.block _ LB3.out.lt (fun e => HKB.out e.symm)))
            have HO4 := Lib.hid ho4
            have HG4 := Lib.hid hg4
            have HB4 := Lib.hid hb4
            have HONE := Lib.hid (OwnV_one ho4)
            clear ho4 hg4 hb4
            refine hK.out _ _ LB4.out (fun hHa => ?_)
            clear hK K hH12a
            try simp only [Act.put, List.setIfInBounds_toArray, List.set_cons_zero, List.set_cons_succ]
            refine Fe.any_take 12 55 ?vt23 rfl rfl (by kernel_rfl) (by kernel_rfl) (by kernel_rfl) (fun _ _ _ h => h) (by rfl) ?ht23 hHa ?rt23
            case ht23 => ((intro W hSw); obtain ⟨p0, p1, p2⟩ := Fe.Lies.cells3 hSw; go_simp; (try with_reducible rfl))
            try simp only [Act.put, List.setIfInBounds_toArray, List.set_cons_zero, List.set_cons_succ]
            refine Fe.any_take 13 56 ?vt24 rfl rfl (by kernel_rfl) (by kernel_rfl) (by kernel_rfl) (fun _ _ _ h => h) (by rfl) ?ht24 hHa ?rt24
            case ht24 => ((intro W hSw); obtain ⟨p0, p1, p2⟩ := Fe.Lies.cells3 hSw; go_simp; (try with_reducible rfl))
            try simp only [Act.put, List.setIfInBounds_toArray, List.set_cons_zero, List.set_cons_succ]
            refine wpAnyH_ready (rs := [14]) (by kernel_rfl) (by simp) ?_
            refine AllReadyH.cons rfl (fun K hK => ?_) AllReadyH.nil
            refine St.stp_putC none _ _ _ 69 (.tmp 56) (.tmp 54) b.c 6 122 _ v4 rfl rfl HL4.out (by simp) (by kernel_rfl) HONE.out (fun w5 hp5 => ?_)
            have HFIN := Lib.hid (HW.out.addM HB3.out HB0.out HO3.out.1 HO3.out.2 HO4.out HG4.out HB4.out hp5)
            have LB5 : Hid (Lies w5 w.heap.size 24 #[.int .i64 6, .int .i64 n, .slice A x.length c]) := Lib.hid (Lies_same LB4.out (hp5.grown.block _ LB4.out.lt (fun e => HNB.out (by injection e))))
            refine hK.out _ _ LB5.out (fun hHb => ?_)
            clear hK K hHa hHb hp5
            try simp only [Act.put, List.setIfInBounds_toArray, List.set_cons_zero, List.set_cons_succ]
            refine wpAnyH_done (by kernel_rfl) ?_ _
            refine NoPanic.normal ?_
            go_wp2
            go_ret
            exact ⟨{ b with vM := v4, V := b.V ++ [s2] }, rfl, rfl, HFIN.out.1, HFIN.out.2.1, HFIN.out.2.2⟩
      case oB10 =>
        refine stp_appMark (some 52) _ _ _ (.tmp 49) (.tmp 51) wb.heap.size B0 A x.length c x rfl rfl HF1.out HO1.out HXL.out (fun s2 w2 ho2 hv2 hg2 => ?_)
        have HB2 := Lib.hid (HBW.out.trans (hg2.mono HBW.out.size))
        have HA2 := Lib.hid (HA1.out.below hg2)
        have LB2 := Lib.hid (LBm.out.below hg2 LBm.out.lt)
        have HO2 := Lib.hid (And.intro ho2 hv2)
        clear ho2 hg2 hv2
        obtain ⟨e0, e1, e2, e3, e4, e5, e6⟩ := Lies_cells7 HA2.out.c
        have HA3 : Hid (CAt (w2.alloc (.cells #[s2.v] 22)) b q) := Lib.hid (HA2.out.alloc _)
        have LB3 : Hid (Lies (w2.alloc (.cells #[s2.v] 22)) w.heap.size 24 #[.int .i64 6, .int .i64 n, .slice A x.length c]) := Lib.hid (LB2.out.alloc _)
        have HC3 : Hid (Lies (w2.alloc (.cells #[s2.v] 22)) b.c 122 #[.pointer (some ⟨b.s.s, 0, none⟩), .pointer (some ⟨b.p.s, 0, none⟩), .pointer (some ⟨b.d.s, 0, none⟩), .int .u32 (q.f.ep : Int), b.vL, b.vE, b.vM]) := Lib.hid HA3.out.c
        have LN : Hid (Lies (w2.alloc (.cells #[s2.v] 22)) w2.heap.size 22 #[s2.v]) := Lib.hid (Lies.made w2 22 _)
        have HM3 : Hid (OwnV (w2.alloc (.cells #[s2.v] 22)) 0 b.vM b.V) := Lib.hid HA3.out.m
        have HO3 : Hid (Nt (w2.alloc (.cells #[s2.v] 22)) s2 (33 :: x) ∧ ∀ i, s2.v.ownBlock = some i → B0 ≤ i) := Lib.hid ⟨HO2.out.1.same fun k hk => Below.heap_alloc w2 _ k (HO2.out.1.kb hk).lt, fun i hi => by have h1 := HO2.out.2 i hi; have h2 := HB0.out; have h3 := HGW.out; omega⟩
        have HB3 : Hid (Below w.heap.size w (w2.alloc (.cells #[s2.v] 22))) := Lib.hid (HB2.out.alloc HB2.out.size _)
        have HKC : Hid (b.vM.ownBlock ≠ some b.c) := Lib.hid (fun e => (HA3.out.km e).ne HA3.out.kc (by decide) rfl)
        have HKB : Hid (b.vM.ownBlock ≠ some w.heap.size) := Lib.hid (fun e => (HA3.out.km e).ne (Kb.of LB3.out) (by decide) rfl)
        obtain ⟨f0, f1, f2, f3, f4, f5, f6⟩ := Lies_cells7 HC3.out
        refine hK.out _ _ LB2.out (fun hH10b => ?_)
        clear hK K hH6b
        try simp only [Act.put, List.setIfInBounds_toArray, List.set_cons_zero, List.set_cons_succ]
        refine wpAnyH_ready (rs := [4, 10]) (by kernel_rfl) (by simp) ?_
        refine AllReadyH.cons rfl (fun K hK => ?oA13) (AllReadyH.cons rfl (fun K hK => ?oB13) AllReadyH.nil)
        case oA13 =>
          go_simp
          refine hK.out _ _ LB2.out (fun hH13a => ?_)
          clear hK K hH10b
          try simp only [Act.put, List.setIfInBounds_toArray, List.set_cons_zero, List.set_cons_succ]
          refine wpAnyH_ready (rs := [10]) (by kernel_rfl) (by simp) ?_
          refine AllReadyH.cons rfl (fun K hK => ?oA14) AllReadyH.nil
          case oA14 =>
            go_simp
            refine hK.out _ _ LB3.out (fun hH14a => ?_)
            clear hK K hH13a
            try simp only [Act.put, List.setIfInBounds_toArray, List.set_cons_zero, List.set_cons_succ]
            refine wpAnyH_ready (rs := [11]) (by kernel_rfl) (by simp) ?_
            refine AllReadyH.cons rfl (fun K hK => ?_) AllReadyH.nil
            refine stp_appV (some 54) _ _ _ (.tmp 47) (.tmp 53) b.vM b.V w2.heap.size s2 rfl rfl HM3.out LN.out HSM.out (fun v4 w4 ho4 hg4 hb4 => ?_)
            have HL4 : Hid (Lies w4 b.c 122 #[.pointer (some ⟨b.s.s, 0, none⟩), .pointer (some ⟨b.p.s, 0, none⟩), .pointer (some ⟨b.d.s, 0, none⟩), .int .u32 (q.f.ep : Int), b.vL, b.vE, b.vM]) := Lib.hid (Lies_same HC3.out (hg4.block b.c HC3.out.lt (fun e => HKC.out e.symm)))
            have LB4 : Hid (Lies w4 w.heap.size 24 #[.int .i64 6, .int .i64 n, .slice A x.length c]) := Lib.hid (Lies_same LB3.out (hg4.block _ LB3.out.lt (fun e => HKB.out e.symm)))
            have HO4 := Lib.hid ho4
            have HG4 := Lib.hid hg4
            have HB4 := Lib.hid hb4
            have HONE := Lib.hid (OwnV_one ho4)
            clear ho4 hg4 hb4
            refine hK.out _ _ LB4.out (fun hHa => ?_)
            clear hK K hH14a
            try simp only [Act.put, List.setIfInBounds_toArray, List.set_cons_zero, List.set_cons_succ]
            refine Fe.any_take 12 55 ?vt25 rfl rfl (by kernel_rfl) (by kernel_rfl) (by kernel_rfl) (fun _ _ _ h => h) (by rfl) ?ht25 hHa ?rt25
            case ht25 => ((intro W hSw); obtain ⟨p0, p1, p2⟩ := Fe.Lies.cells3 hSw; go_simp; (try with_reducible rfl))
            try simp only [Act.put, List.setIfInBounds_toArray, List.set_cons_zero, List.set_cons_succ]
            refine Fe.any_take 13 56 ?vt26 rfl rfl (by kernel_rfl) (by kernel_rfl) (by kernel_rfl) (fun _ _ _ h => h) (by rfl) ?ht26 hHa ?rt26
            case ht26 => ((intro W hSw); obtain ⟨p0, p1, p2⟩ := Fe.Lies.cells3 hSw; go_simp; (try with_reducible rfl))
            try simp only [Act.put, List.setIfInBounds_toArray, List.set_cons_zero, List.set_cons_succ]
            refine wpAnyH_ready (rs := [14]) (by kernel_rfl) (by simp) ?_
            refine AllReadyH.cons rfl (fun K hK => ?_) AllReadyH.nil
            refine St.stp_putC none _ _ _ 69 (.tmp 56) (.tmp 54) b.c 6 122 _ v4 rfl rfl HL4.out (by simp) (by kernel_rfl) HONE.out (fun w5 hp5 => ?_)
            have HFIN := Lib.hid (HW.out.addM HB3.out HB0.out HO3.out.1 HO3.out.2 HO4.out HG4.out HB4.out hp5)
            have LB5 : Hid (Lies w5 w.heap.size 24 #[.int .i64 6, .int .i64 n, .slice A x.length c]) := Lib.hid (Lies_same LB4.out (hp5.grown.block _ LB4.out.lt (fun e => HNB.out (by injection e))))
            refine hK.out _ _ LB5.out (fun hHb => ?_)
            clear hK K hHa hHb hp5
            try simp only [Act.put, List.setIfInBounds_toArray, List.set_cons_zero, List.set_cons_succ]
            refine wpAnyH_done (by kernel_rfl) ?_ _
            refine NoPanic.normal ?_
            go_wp2
            go_ret
            exact ⟨{ b with vM := v4, V := b.V ++ [s2] }, rfl, rfl, HFIN.out.1, HFIN.out.2.1, HFIN.out.2.2⟩
        case oB13 =>
          go_simp
          refine hK.out _ _ LB3.out (fun hH13b => ?_)
          clear hK K hH10b
          try simp only [Act.put, List.setIfInBounds_toArray, List.set_cons_zero, List.set_cons_succ]
          refine wpAnyH_ready (rs := [4]) (by kernel_rfl) (by simp) ?_
          refine AllReadyH.cons rfl (fun K hK => ?oA15) AllReadyH.nil
          case oA15 =>
            go_simp
            refine hK.out _ _ LB3.out (fun hH15a => ?_)
            clear hK K hH13b
            try simp only [Act.put, List.setIfInBounds_toArray, List.set_cons_zero, List.set_cons_succ]
            refine wpAnyH_ready (rs := [11]) (by kernel_rfl) (by simp) ?_
            refine AllReadyH.cons rfl (fun K hK => ?_) AllReadyH.nil
            refine stp_appV (some 54) _ _ _ (.tmp 47) (.tmp 53) b.vM b.V w2.heap.size s2 rfl rfl HM3.out LN.out HSM.out (fun v4 w4 ho4 hg4 hb4 => ?_)
            have HL4 : Hid (Lies w4 b.c 122 #[.pointer (some ⟨b.s.s, 0, none⟩), .pointer (some ⟨b.p.s, 0, none⟩), .pointer (some ⟨b.d.s, 0, none⟩), .int .u32 (q.f.ep : Int), b.vL, b.vE, b.vM]) := Lib.hid (Lies_same HC3.out (hg4.block b.c HC3.out.lt (fun e => HKC.out e.symm)))
            have LB4 : Hid (Lies w4 w.heap.size 24 #[.int .i64 6, .int .i64 n, .slice A x.length c]) := Lib.hid (Lies_same LB3.out (hg4.block _ LB3.out.lt (fun e => HKB.out e.symm)))
            have HO4 := Lib.hid ho4
            have HG4 := Lib.hid hg4
            have HB4 := Lib.hid hb4
            have HONE := Lib.hid (OwnV_one ho4)
            clear ho4 hg4 hb4
            refine hK.out _ _ LB4.out (fun hHa => ?_)
            clear hK K hH15a
            try simp only [Act.put, List.setIfInBounds_toArray, List.set_cons_zero, List.set_cons_succ]
            refine Fe.any_take 12 55 ?vt27 rfl rfl (by kernel_rfl) (by kernel_rfl) (by kernel_rfl) (fun _ _ _ h => h) (by rfl) ?ht27 hHa ?rt27
            case ht27 => ((intro W hSw); obtain ⟨p0, p1, p2⟩ := Fe.Lies.cells3 hSw; go_simp; (try with_reducible rfl))
            try simp only [Act.put, List.setIfInBounds_toArray, List.set_cons_zero, List.set_cons_succ]
            refine Fe.any_take 13 56 ?vt28 rfl rfl (by kernel_rfl) (by kernel_rfl) (by kernel_rfl) (fun _ _ _ h => h) (by rfl) ?ht28 hHa ?rt28
            case ht28 => ((intro W hSw); obtain ⟨p0, p1, p2⟩ := Fe.Lies.cells3 hSw; go_simp; (try with_reducible rfl))
            try simp only [Act.put, List.setIfInBounds_toArray, List.set_cons_zero, List.set_cons_succ]
            refine wpAnyH_ready (rs := [14]) (by kernel_rfl) (by simp) ?_
            refine AllReadyH.cons rfl (fun K hK => ?_) AllReadyH.nil
            refine St.stp_putC none _ _ _ 69 (.tmp 56) (.tmp 54) b.c 6 122 _ v4 rfl rfl HL4.out (by simp) (by kernel_rfl) HONE.out (fun w5 hp5 => ?_)
            have HFIN := Lib.hid (HW.out.addM HB3.out HB0.out HO3.out.1 HO3.out.2 HO4.out HG4.out HB4.out hp5)
            have LB5 : Hid (Lies w5 w.heap.size 24 #[.int .i64 6, .int .i64 n, .slice A x.length c]) := Lib.hid (Lies_same LB4.out (hp5.grown.block _ LB4.out.lt (fun e => HNB.out (by injection e))))
            refine hK.out _ _ LB5.out (fun hHb => ?_)
            clear hK K hHa hHb hp5
            try simp only [Act.put, List.setIfInBounds_toArray, List.set_cons_zero, List.set_cons_succ]
            refine wpAnyH_done (by kernel_rfl) ?_ _
            refine NoPanic.normal ?_
            go_wp2
            go_ret
            exact ⟨{ b with vM := v4, V := b.V ++ [s2] }, rfl, rfl, HFIN.out.1, HFIN.out.2.1, HFIN.out.2.2⟩
end Go.Proofs.YtpbclmnhkmcknaaGreat
