/-
  Texts of one proof, in their order: PuMov2, PuAuth, PuSmall, DoMapM, DoStk, DoSmall, DoBook, DoStillS, DoPutS.
-/
import Derived.Sort.KeysCollected
import Derived.StillTailTactics
import Derived.Test.YtpbclmnhkmcknaaGreatB10
namespace Go.Proofs.YtpbclmnhkmcknaaGreat.Pu
open Go.RowKit
set_option maxRecDepth 100000
set_option linter.unusedVariables false
set_option linter.unusedSimpArgs false

set_option maxHeartbeats 4000000 in
theorem refund_mov (b : SB) (q : Ss) (o : Nat) (w : World) (hA : At w b q) (hI : Inv q) (ho : o < 4294967296) (hl : q.H.length ≤ 1000) :
    Calls Tryz.prog 191 #[.pointer (some ⟨b.s, 0, none⟩), .int .u32 (o : Int), .int .i64 2, .int .i64 3, .func (.func 193) #[] #[]] w (MovPost w b q o 2) := by
  have HA := Lib.hid hA.m
  have HAQ := Lib.hid hA
  have HI := Lib.hid hI
  obtain ⟨c0, c1, c2, c3, c4⟩ := hA.c.cells5
  have r1 := hA.o2.look_ok o ho
  cases hf : findH (stH q.H 2) o with
  | none =>
    have HV : Hid (movV q o 2 = false) := Lib.hid (mov_no hI hf)
    rw [hf] at r1
    dsimp only [Option.getD_none, Option.isSome_none] at r1
    clear hA hI hf
    go_enter Tryz.func191, Tryz.ntmps191
    go_wp2
    go_ret
    refine ⟨by rw [HV.out]; rfl, ?_, Frm.of_below b (below1 _ _)⟩
    rw [movS_no HV.out]
    exact HAQ.out.alloc _
  | some y =>
    rw [hf] at r1
    dsimp only [Option.getD_some, Option.isSome_some] at r1
    have hfo := st_some hI hf
    obtain ⟨hys, rfl⟩ := findH_some hf
    obtain ⟨hy, hyt⟩ := mem_stH.1 hys
    obtain ⟨k, hk, hm, hkn⟩ := hI.kn hy
    have HT : Hid (y.t = 2) := Lib.hid hyt
    have HY := Lib.hid hy
    have HFO := Lib.hid hfo
    have HK := Lib.hid hk
    have HM := Lib.hid (And.intro hm hkn)
    have HO := Lib.hid ho
    have HEV : Hid (movV q y.o 2 = true) := Lib.hid (movV_iff.2 ⟨y, hfo, hyt⟩)
    have HYL : Hid (y.n.length ≤ maxLen) := Lib.hid (by have := (hI.kb hy).2; unfold maxLen; omega)
    have HNO : Hid (∀ x ∈ stH q.H 3, x.o ≠ y.o) := Lib.hid (fun x hx e => by
      obtain ⟨h1, h2⟩ := mem_stH.1 hx
      rw [hI.hs.uniq h1 hy e, hyt] at h2
      cases h2)
    have HLN : Hid ((stH q.H 3).length ≤ 1000000) := Lib.hid (by have : (stH q.H 3).length ≤ q.H.length := List.length_filter_le _ _; omega)
    have KB := Lib.hid (hI.kbs hm)
    have YB : Hid (1 ≤ y.k ∧ y.k ≤ 1000000000) := Lib.hid ⟨(hI.hh y hy).1, (hI.kb hy).1⟩
    have HA1 := Lib.hid (HA.out.alloc (.cells #[encStr y.n, .int .i64 y.k] 282))
    obtain ⟨w2, hd1, hd2, hd3⟩ := HA1.out.o2.del (hI.hs.st _) y hys ho 0
    obtain ⟨d0, d1, d2, d3, d4⟩ := HA1.out.c.cells5
    obtain ⟨hA2, hF2⟩ := HA1.out.turn2 hd2 hd3
    have HNM : Hid (¬ b.isMap w.heap.size) := Lib.hid (fun hm => Nat.lt_irrefl _ (HA.out.map_lt hm))
    have HA2 := Lib.hid hA2
    have HF2 := Lib.hid ((Frm.of_below b (below1 w (.cells #[encStr y.n, .int .i64 y.k] 282))).trans hF2)
    have L2 := Lib.hid (hF2.lies (Lies.made w 282 #[encStr y.n, .int .i64 y.k]) HNM.out)
    clear hA hI hf hfo hk hm hkn hy hys hyt hA2 hF2 hd2 hd3 hl HAQ
    go_enter Tryz.func191, Tryz.ntmps191
    go_wp2_with fail
    clear r1 hd1 c0 c1 c2 c3 c4 d0 d1 d2 d3 d4
    obtain ⟨w3, hu1, hu2, hu3⟩ := HA2.out.drew.o3.add ⟨y.o, y.n, y.k, 3⟩ HNO.out HO.out HLN.out
    have HU := Lib.hid (And.intro hu1 (And.intro hu2 hu3))
    clear hu1 hu2 hu3
    refine wp_region_noPanic ?_
    refine wp_region_held_drew (S := fun W => Lies W b.s 186 (pcs b) ∧ Lies W w.heap.size 282 #[encStr y.n, .int .i64 y.k]) (by kernel_rfl) ⟨HA2.out.c, L2.out⟩ (fun hH0 => ?_)
    refine any_take 0 36 ?va0 rfl rfl (by kernel_rfl) (by kernel_rfl) (by kernel_rfl) (fun _ _ _ h => h) (by rfl) ?hya0 hH0 ?resta0
    case hya0 => ((intro W hSw); obtain ⟨o0, o1, o2, o3, o4⟩ := Lies.cells5 hSw.1; obtain ⟨p0, p1⟩ := Lies.cells2 hSw.2; go_simp; (try with_reducible rfl))
    try simp only [Act.put, List.setIfInBounds_toArray, List.set_cons_zero, List.set_cons_succ]
    refine any_take 1 37 ?va1 rfl rfl (by kernel_rfl) (by kernel_rfl) (by kernel_rfl) (fun _ _ _ h => h) (by rfl) ?hya1 hH0 ?resta1
    case hya1 => ((intro W hSw); obtain ⟨o0, o1, o2, o3, o4⟩ := Lies.cells5 hSw.1; obtain ⟨p0, p1⟩ := Lies.cells2 hSw.2; go_simp; (try with_reducible rfl))
    try simp only [Act.put, List.setIfInBounds_toArray, List.set_cons_zero, List.set_cons_succ]
    refine any_take 2 38 ?va2 rfl rfl (by kernel_rfl) (by kernel_rfl) (by kernel_rfl) (fun _ _ _ h => h) (by rfl) ?hya2 hH0 ?resta2
    case hya2 => ((intro W hSw); obtain ⟨o0, o1, o2, o3, o4⟩ := Lies.cells5 hSw.1; obtain ⟨p0, p1⟩ := Lies.cells2 hSw.2; go_simp; (try with_reducible rfl))
    try simp only [Act.put, List.setIfInBounds_toArray, List.set_cons_zero, List.set_cons_succ]
    refine any_take 3 39 ?va3 rfl rfl (by kernel_rfl) (by kernel_rfl) (by kernel_rfl) (fun _ _ _ h => h) (by rfl) ?hya3 hH0 ?resta3
    case hya3 => ((intro W hSw); obtain ⟨o0, o1, o2, o3, o4⟩ := Lies.cells5 hSw.1; obtain ⟨p0, p1⟩ := Lies.cells2 hSw.2; go_simp; (try with_reducible rfl))
    try simp only [Act.put, List.setIfInBounds_toArray, List.set_cons_zero, List.set_cons_succ]
    refine any_take 4 40 ?va4 rfl rfl (by kernel_rfl) (by kernel_rfl) (by kernel_rfl) (fun _ _ _ h => h) (by rfl) ?hya4 hH0 ?resta4
    case hya4 => ((intro W hSw); obtain ⟨o0, o1, o2, o3, o4⟩ := Lies.cells5 hSw.1; obtain ⟨p0, p1⟩ := Lies.cells2 hSw.2; go_simp; (try with_reducible rfl))
    try simp only [Act.put, List.setIfInBounds_toArray, List.set_cons_zero, List.set_cons_succ]
    refine any_take 5 41 ?va5 rfl rfl (by kernel_rfl) (by kernel_rfl) (by kernel_rfl) (fun _ _ _ h => h) (by rfl) ?hya5 hH0 ?resta5
    case hya5 => ((intro W hSw); obtain ⟨o0, o1, o2, o3, o4⟩ := Lies.cells5 hSw.1; obtain ⟨p0, p1⟩ := Lies.cells2 hSw.2; go_simp; (try with_reducible rfl))
    try simp only [Act.put, List.setIfInBounds_toArray, List.set_cons_zero, List.set_cons_succ]
    refine any_take 6 42 ?va6 rfl rfl (by kernel_rfl) (by kernel_rfl) (by kernel_rfl) (fun _ _ _ h => h) (by rfl) ?hya6 hH0 ?resta6
    case hya6 => ((intro W hSw); obtain ⟨o0, o1, o2, o3, o4⟩ := Lies.cells5 hSw.1; obtain ⟨p0, p1⟩ := Lies.cells2 hSw.2; go_simp; (try with_reducible rfl))
    try simp only [Act.put, List.setIfInBounds_toArray, List.set_cons_zero, List.set_cons_succ]
    refine any_take 7 43 ?va7 rfl rfl (by kernel_rfl) (by kernel_rfl) (by kernel_rfl) (fun _ _ _ h => h) (by rfl) ?hya7 hH0 ?resta7
    case hya7 => ((intro W hSw); obtain ⟨o0, o1, o2, o3, o4⟩ := Lies.cells5 hSw.1; obtain ⟨p0, p1⟩ := Lies.cells2 hSw.2; go_simp; (try with_reducible rfl))
    try simp only [Act.put, List.setIfInBounds_toArray, List.set_cons_zero, List.set_cons_succ]
    refine wpAnyH_ready (rs := [8]) (by kernel_rfl) (by simp) ?_
    refine AllReadyH.cons rfl (fun K hK => ?_) AllReadyH.nil
    refine stp_upd none _ _ _ 183 (.tmp 41) (.tmp 42) (.tmp 43) (.map (some b.p3)) (.int .u32 (y.o : Int)) (vH ⟨y.o, y.n, y.k, 3⟩) w3 rfl rfl rfl HU.out.1 ?_
    obtain ⟨hA3, hF3⟩ := HA2.out.drew.turn3 HU.out.2.1 HU.out.2.2
    have L3 := Lib.hid (hF3.lies (g := w.heap.size) (t := 282) (w := w2.drew) L2.out HNM.out)
    have HA3 := Lib.hid hA3
    have HF3 := Lib.hid (HF2.out.drew.trans hF3)
    clear hA3 hF3
    refine hK.out _ _ ⟨HA3.out.c, L3.out⟩ (fun hH1 => ?_)
    clear hK K hH0
    try simp only [Act.put, List.setIfInBounds_toArray, List.set_cons_zero, List.set_cons_succ]
    clear hH1
    refine wpAnyH_done (by kernel_rfl) ?_ _
    refine NoPanic.normal ?_
    go_wp2_with fail
    refine wp_region_noPanic ?_
    refine wp_region_held_drew (S := fun W => (Lies W b.s 186 (pcs b) ∧ Lies W w.heap.size 282 #[encStr y.n, .int .i64 y.k]) ∧ OwnK W b.k q.K) (by kernel_rfl) ⟨⟨HA3.out.c, L3.out⟩, HA3.out.ok⟩ (fun hH0 => ?_)
    refine any_take 0 44 ?vb0 rfl rfl (by kernel_rfl) (by kernel_rfl) (by kernel_rfl) (fun _ _ _ h => h) (by rfl) ?hyb0 hH0 ?restb0
    case hyb0 => ((intro W hSw); obtain ⟨o0, o1, o2, o3, o4⟩ := Lies.cells5 hSw.1.1; obtain ⟨p0, p1⟩ := Lies.cells2 hSw.1.2; have lk := hSw.2.look y.n HYL.out; rw [HK.out] at lk; dsimp only [Option.getD_some] at lk; go_simp; (try with_reducible rfl))
    try simp only [Act.put, List.setIfInBounds_toArray, List.set_cons_zero, List.set_cons_succ]
    refine any_take 1 45 ?vb1 rfl rfl (by kernel_rfl) (by kernel_rfl) (by kernel_rfl) (fun _ _ _ h => h) (by rfl) ?hyb1 hH0 ?restb1
    case hyb1 => ((intro W hSw); obtain ⟨o0, o1, o2, o3, o4⟩ := Lies.cells5 hSw.1.1; obtain ⟨p0, p1⟩ := Lies.cells2 hSw.1.2; have lk := hSw.2.look y.n HYL.out; rw [HK.out] at lk; dsimp only [Option.getD_some] at lk; go_simp; (try with_reducible rfl))
    try simp only [Act.put, List.setIfInBounds_toArray, List.set_cons_zero, List.set_cons_succ]
    refine any_take 2 46 ?vb2 rfl rfl (by kernel_rfl) (by kernel_rfl) (by kernel_rfl) (fun _ _ _ h => h) (by rfl) ?hyb2 hH0 ?restb2
    case hyb2 => ((intro W hSw); obtain ⟨o0, o1, o2, o3, o4⟩ := Lies.cells5 hSw.1.1; obtain ⟨p0, p1⟩ := Lies.cells2 hSw.1.2; have lk := hSw.2.look y.n HYL.out; rw [HK.out] at lk; dsimp only [Option.getD_some] at lk; go_simp; (try with_reducible rfl))
    try simp only [Act.put, List.setIfInBounds_toArray, List.set_cons_zero, List.set_cons_succ]
    refine any_take 3 47 ?vb3 rfl rfl (by kernel_rfl) (by kernel_rfl) (by kernel_rfl) (fun _ _ _ h => h) (by rfl) ?hyb3 hH0 ?restb3
    case hyb3 => ((intro W hSw); obtain ⟨o0, o1, o2, o3, o4⟩ := Lies.cells5 hSw.1.1; obtain ⟨p0, p1⟩ := Lies.cells2 hSw.1.2; have lk := hSw.2.look y.n HYL.out; rw [HK.out] at lk; dsimp only [Option.getD_some] at lk; go_simp; (try with_reducible rfl))
    try simp only [Act.put, List.setIfInBounds_toArray, List.set_cons_zero, List.set_cons_succ]
    refine any_take 4 48 ?vb4 rfl rfl (by kernel_rfl) (by kernel_rfl) (by kernel_rfl) (fun _ _ _ h => h) (by rfl) ?hyb4 hH0 ?restb4
    case hyb4 => ((intro W hSw); obtain ⟨o0, o1, o2, o3, o4⟩ := Lies.cells5 hSw.1.1; obtain ⟨p0, p1⟩ := Lies.cells2 hSw.1.2; have lk := hSw.2.look y.n HYL.out; rw [HK.out] at lk; dsimp only [Option.getD_some] at lk; go_simp; (try with_reducible rfl))
    try simp only [Act.put, List.setIfInBounds_toArray, List.set_cons_zero, List.set_cons_succ]
    refine any_take 5 49 ?vb5 rfl rfl (by kernel_rfl) (by kernel_rfl) (by kernel_rfl) (fun _ _ _ h => h) (by rfl) ?hyb5 hH0 ?restb5
    case hyb5 => ((intro W hSw); obtain ⟨o0, o1, o2, o3, o4⟩ := Lies.cells5 hSw.1.1; obtain ⟨p0, p1⟩ := Lies.cells2 hSw.1.2; have lk := hSw.2.look y.n HYL.out; rw [HK.out] at lk; dsimp only [Option.getD_some] at lk; go_simp; (try with_reducible rfl))
    try simp only [Act.put, List.setIfInBounds_toArray, List.set_cons_zero, List.set_cons_succ]
    refine any_take 6 50 ?vb6 rfl rfl (by kernel_rfl) (by kernel_rfl) (by kernel_rfl) (fun _ _ _ h => h) (by rfl) ?hyb6 hH0 ?restb6
    case hyb6 => ((intro W hSw); obtain ⟨o0, o1, o2, o3, o4⟩ := Lies.cells5 hSw.1.1; obtain ⟨p0, p1⟩ := Lies.cells2 hSw.1.2; have lk := hSw.2.look y.n HYL.out; rw [HK.out] at lk; dsimp only [Option.getD_some] at lk; go_simp; (try with_reducible rfl))
    try simp only [Act.put, List.setIfInBounds_toArray, List.set_cons_zero, List.set_cons_succ]
    refine wpAnyH_ready (rs := [7]) (by kernel_rfl) (by simp) ?_
    refine AllReadyH.cons rfl (fun K hK => ?_) AllReadyH.nil
    go_simp
    refine hK.out _ _ ⟨⟨(HA3.out.drew.alloc _).c, Lies.alloc (w := w3.drew) L3.out _⟩, (HA3.out.drew.alloc _).ok⟩ (fun hH1 => ?_)
    clear hK K hH0
    try simp only [Act.put, List.setIfInBounds_toArray, List.set_cons_zero, List.set_cons_succ]
    refine wpAnyH_ready (rs := [8]) (by kernel_rfl) (by simp) ?_
    refine AllReadyH.cons rfl (fun K hK => ?_) AllReadyH.nil
    go_simp
    refine hK.out _ _ ⟨⟨(HA3.out.drew.alloc _).c, Lies.alloc (w := w3.drew) L3.out _⟩, (HA3.out.drew.alloc _).ok⟩ (fun hH2 => ?_)
    clear hK K hH1
    try simp only [Act.put, List.setIfInBounds_toArray, List.set_cons_zero, List.set_cons_succ]
    clear hH2
    refine wpAnyH_done (by kernel_rfl) ?_ _
    refine NoPanic.normal ?_
    obtain ⟨W4, hW4⟩ : ∃ W4, W4 = (w3.alloc (.cells #[encStr k.n, .int .i64 k.m, .int .i64 k.h] 87)).drew := ⟨_, rfl⟩
    rw [← hW4]
    have HA4 : Hid (AtM W4 b q.K (stH q.H 1) (delH (stH q.H 2) y.o) (insH ⟨y.o, y.n, y.k, 3⟩ (stH q.H 3))) := Lib.hid (by rw [hW4]; exact (HA3.out.alloc _).drew)
    have L4 : Hid (Lies W4 w.heap.size 282 #[encStr y.n, .int .i64 y.k]) := Lib.hid (by rw [hW4]; exact Lies.alloc (w := w3) L3.out _)
    have M4 : Hid (Lies W4 w3.heap.size 87 #[encStr k.n, .int .i64 k.m, .int .i64 k.h]) := Lib.hid (by rw [hW4]; exact Lies.made w3 _ _)
    have HF4 : Hid (Frm w W4 b) := Lib.hid (by rw [hW4]; exact (HF3.out.alloc _).drew)
    have HNE : Hid (w3.heap.size ≠ w.heap.size ∧ w3.heap.size ≠ b.s ∧ w.heap.size ≤ w3.heap.size) := Lib.hid ⟨Nat.ne_of_gt L3.out.lt, Nat.ne_of_gt HA3.out.c.lt, HF3.out.size⟩
    have HNM2 : Hid (¬ b.isMap w3.heap.size) := Lib.hid (fun hm => Nat.lt_irrefl _ (HA3.out.map_lt hm))
    clear hW4
    obtain ⟨q0, q1⟩ := L4.out.cells2
    go_wp2_with fail
    with_reducible refine (settle2_any w3.heap.size k y.k W4 M4.out KB.out YB.out).mono ?_
    rintro e w5 ⟨rfl, hp⟩
    have HA5 := Lib.hid (HA4.out.put hp M4.out HNE.out.2.1)
    have L5 := Lib.hid (hp.lies_other L4.out (Ne.symm HNE.out.1))
    have M5 := Lib.hid hp.lies
    have HF5 := Lib.hid (HF4.out.put hp HNE.out.2.2)
    clear hp q0 q1
    go_wp2_with fail
    obtain ⟨w6, hu1, hu2, hu3⟩ := HA5.out.drew.ok.upd HI.out.ks ⟨k.n, k.m + y.k, k.h⟩ k HM.out.1 rfl (by show k.n.length ≤ _; rw [HM.out.2]; exact HYL.out) (by have := HI.out.kz; show q.K.length ≤ _; omega)
    have HU2 := Lib.hid (And.intro hu1 (And.intro hu2 hu3))
    clear hu1 hu2 hu3
    refine wp_region_noPanic ?_
    refine wp_region_held_drew (S := fun W => (Lies W b.s 186 (pcs b) ∧ Lies W w.heap.size 282 #[encStr y.n, .int .i64 y.k]) ∧ Lies W w3.heap.size 87 #[encStr k.n, .int .i64 (k.m + y.k), .int .i64 k.h]) (by kernel_rfl) ⟨⟨HA5.out.c, L5.out⟩, M5.out⟩ (fun hH0 => ?_)
    refine any_take 0 55 ?vc0 rfl rfl (by kernel_rfl) (by kernel_rfl) (by kernel_rfl) (fun _ _ _ h => h) (by rfl) ?hyc0 hH0 ?restc0
    case hyc0 => ((intro W hSw); obtain ⟨o0, o1, o2, o3, o4⟩ := Lies.cells5 hSw.1.1; obtain ⟨p0, p1⟩ := Lies.cells2 hSw.1.2; obtain ⟨m0, m1, m2⟩ := Lies.cells3 hSw.2; go_simp; (try with_reducible rfl))
    try simp only [Act.put, List.setIfInBounds_toArray, List.set_cons_zero, List.set_cons_succ]
    refine any_take 1 56 ?vc1 rfl rfl (by kernel_rfl) (by kernel_rfl) (by kernel_rfl) (fun _ _ _ h => h) (by rfl) ?hyc1 hH0 ?restc1
    case hyc1 => ((intro W hSw); obtain ⟨o0, o1, o2, o3, o4⟩ := Lies.cells5 hSw.1.1; obtain ⟨p0, p1⟩ := Lies.cells2 hSw.1.2; obtain ⟨m0, m1, m2⟩ := Lies.cells3 hSw.2; go_simp; (try with_reducible rfl))
    try simp only [Act.put, List.setIfInBounds_toArray, List.set_cons_zero, List.set_cons_succ]
    refine any_take 2 57 ?vc2 rfl rfl (by kernel_rfl) (by kernel_rfl) (by kernel_rfl) (fun _ _ _ h => h) (by rfl) ?hyc2 hH0 ?restc2
    case hyc2 => ((intro W hSw); obtain ⟨o0, o1, o2, o3, o4⟩ := Lies.cells5 hSw.1.1; obtain ⟨p0, p1⟩ := Lies.cells2 hSw.1.2; obtain ⟨m0, m1, m2⟩ := Lies.cells3 hSw.2; go_simp; (try with_reducible rfl))
    try simp only [Act.put, List.setIfInBounds_toArray, List.set_cons_zero, List.set_cons_succ]
    refine any_take 3 58 ?vc3 rfl rfl (by kernel_rfl) (by kernel_rfl) (by kernel_rfl) (fun _ _ _ h => h) (by rfl) ?hyc3 hH0 ?restc3
    case hyc3 => ((intro W hSw); obtain ⟨o0, o1, o2, o3, o4⟩ := Lies.cells5 hSw.1.1; obtain ⟨p0, p1⟩ := Lies.cells2 hSw.1.2; obtain ⟨m0, m1, m2⟩ := Lies.cells3 hSw.2; go_simp; (try with_reducible rfl))
    try simp only [Act.put, List.setIfInBounds_toArray, List.set_cons_zero, List.set_cons_succ]
    refine any_take 4 59 ?vc4 rfl rfl (by kernel_rfl) (by kernel_rfl) (by kernel_rfl) (fun _ _ _ h => h) (by rfl) ?hyc4 hH0 ?restc4
    case hyc4 => ((intro W hSw); obtain ⟨o0, o1, o2, o3, o4⟩ := Lies.cells5 hSw.1.1; obtain ⟨p0, p1⟩ := Lies.cells2 hSw.1.2; obtain ⟨m0, m1, m2⟩ := Lies.cells3 hSw.2; go_simp; (try with_reducible rfl))
    try simp only [Act.put, List.setIfInBounds_toArray, List.set_cons_zero, List.set_cons_succ]
    refine any_take 5 60 ?vc5 rfl rfl (by kernel_rfl) (by kernel_rfl) (by kernel_rfl) (fun _ _ _ h => h) (by rfl) ?hyc5 hH0 ?restc5
    case hyc5 => ((intro W hSw); obtain ⟨o0, o1, o2, o3, o4⟩ := Lies.cells5 hSw.1.1; obtain ⟨p0, p1⟩ := Lies.cells2 hSw.1.2; obtain ⟨m0, m1, m2⟩ := Lies.cells3 hSw.2; go_simp; (try with_reducible rfl))
    try simp only [Act.put, List.setIfInBounds_toArray, List.set_cons_zero, List.set_cons_succ]
    refine any_take 6 61 ?vc6 rfl rfl (by kernel_rfl) (by kernel_rfl) (by kernel_rfl) (fun _ _ _ h => h) (by rfl) ?hyc6 hH0 ?restc6
    case hyc6 => ((intro W hSw); obtain ⟨o0, o1, o2, o3, o4⟩ := Lies.cells5 hSw.1.1; obtain ⟨p0, p1⟩ := Lies.cells2 hSw.1.2; obtain ⟨m0, m1, m2⟩ := Lies.cells3 hSw.2; go_simp; (try with_reducible rfl))
    try simp only [Act.put, List.setIfInBounds_toArray, List.set_cons_zero, List.set_cons_succ]
    refine wpAnyH_ready (rs := [7]) (by kernel_rfl) (by simp) ?_
    refine AllReadyH.cons rfl (fun K hK => ?_) AllReadyH.nil
    refine stp_upd none _ _ _ 182 (.tmp 58) (.tmp 60) (.tmp 61) (.map (some b.k)) (encStr y.n) (vK ⟨k.n, k.m + y.k, k.h⟩) w6 rfl rfl rfl (by rw [← HM.out.2]; exact HU2.out.1) ?_
    obtain ⟨hA6, hF6⟩ := HA5.out.drew.turnK HU2.out.2.1 HU2.out.2.2
    have L6 := hF6.lies (w := w5.drew) L5.out HNM.out
    have M6 := hF6.lies (w := w5.drew) M5.out HNM2.out
    have HA6 := Lib.hid hA6
    have HF6 := Lib.hid (HF5.out.drew.trans hF6)
    refine hK.out _ _ ⟨⟨hA6.c, L6⟩, M6⟩ (fun hH1 => ?_)
    clear hA6 hF6 L6 M6 hK K hH0
    try simp only [Act.put, List.setIfInBounds_toArray, List.set_cons_zero, List.set_cons_succ]
    clear hH1
    refine wpAnyH_done (by kernel_rfl) ?_ _
    refine NoPanic.normal ?_
    go_wp2
    go_ret
    refine ⟨by rw [HEV.out]; rfl, ?_, HF6.out⟩
    rw [movS_yes (c := 2) HFO.out HT.out HK.out]
    exact HA6.out.at (stH_set_other HI.out.hs HY.out (by decide) (by rw [HT.out]; decide)) (by rw [← HT.out]; exact stH_set_from HI.out.hs HY.out (by rw [HT.out]; decide)) (stH_set_to HI.out.hs HY.out (by rw [HT.out]; decide))

end Go.Proofs.YtpbclmnhkmcknaaGreat.Pu

namespace Go.Proofs.YtpbclmnhkmcknaaGreat.Pu
open Go.RowKit
set_option maxRecDepth 100000
set_option linter.unusedVariables false
set_option linter.unusedSimpArgs false

def AuthPost (w : World) (b : SB) (q : Ss) (o : Nat) (x : List UInt8) (n : Int) (e : Ending) (w' : World) : Prop :=
  e = .returned (.int .i64 (verd (authV q o x n))) ∧ At w' b (authS q o x n) ∧ Frm w w' b

theorem auth_same {w w' : World} {b : SB} {q : Ss} {o : Nat} {x : List UInt8} {n : Int} (h : authV q o x n = false) (hA : At w b q) (hb : Below w.heap.size w w') : AuthPost w b q o x n (.returned (.int .i64 2)) w' := by
  refine ⟨by rw [h]; rfl, ?_, Frm.of_below b hb⟩
  rw [authS_no h]
  exact hA.below hb

set_option maxHeartbeats 4000000 in
theorem auth_any (b : SB) (q : Ss) (o : Nat) (x : List UInt8) (n : Int) (w : World) (hA : At w b q) (hI : Inv q) (ho : o < 4294967296) (hx : x.length ≤ maxLen) (hn : -9223372036854775808 ≤ n ∧ n ≤ 9223372036854775807) (hl : q.H.length ≤ 1000) :
    Calls Tryz.prog 162 #[.pointer (some ⟨b.s, 0, none⟩), .int .u32 (o : Int), encStr x, .int .i64 n] w (AuthPost w b q o x n) := by
  have HA := Lib.hid hA
  have HI := Lib.hid hI
  have C1 := has_any b q o w hA hI ho
  clear hA
  by_cases h0 : o = 0
  · have hv : authV q o x n = false := by rw [← Bool.not_eq_true, authV_iff]; exact fun h => h.1 h0
    have HV := Lib.hid hv
    subst h0
    clear hI hv C1
    go_enter Tryz.func162, Tryz.ntmps162
    go_wp2
    go_ret
    exact auth_same HV.out HA.out (Below.refl _ _)
  by_cases h1 : n < 1
  · have hv : authV q o x n = false := by rw [← Bool.not_eq_true, authV_iff]; exact fun h => by have := h.2.1; omega
    have HV := Lib.hid hv
    have e0 : (((o : Int) == 0) : Bool) = false := beq_eq_false_iff_ne.2 (by omega)
    clear hI hv C1
    go_enter Tryz.func162, Tryz.ntmps162
    go_wp2
    go_ret
    exact auth_same HV.out HA.out (Below.refl _ _)
  have e0 : (((o : Int) == 0) : Bool) = false := beq_eq_false_iff_ne.2 (by omega)
  have e1 : decide (n < 1) = false := by simpa using h1
  cases hf : findH q.H o with
  | some y =>
    have hv : authV q o x n = false := by rw [← Bool.not_eq_true, authV_iff]; exact fun h => by rw [hf] at h; cases h.2.2.1
    have HV := Lib.hid hv
    rw [hf] at C1
    dsimp only [Option.isSome_some] at C1
    have C1 := Lib.hid C1
    clear hI hv hf
    go_enter Tryz.func162, Tryz.ntmps162
    go_wp2_with fail
    with_reducible refine C1.out.mono ?_
    rintro e w1 ⟨rfl, hb⟩
    have HB1 := Lib.hid hb
    have HA1 := Lib.hid (HA.out.below hb)
    clear hb
    go_wp2
    go_ret
    exact auth_same HV.out HA.out HB1.out
  | none =>
    rw [hf] at C1
    dsimp only [Option.isSome_none] at C1
    have C1 := Lib.hid C1
    have HF := Lib.hid hf
    clear hf
    cases hk : findK q.K x with
    | none =>
      have hv : authV q o x n = false := by rw [← Bool.not_eq_true, authV_iff]; exact fun h => by obtain ⟨k, h', _⟩ := h.2.2.2; rw [hk] at h'; cases h'
      have HV := Lib.hid hv
      have HK := Lib.hid hk
      clear hI hv hk
      go_enter Tryz.func162, Tryz.ntmps162
      go_wp2_with fail
      with_reducible refine C1.out.mono ?_
      rintro e w1 ⟨rfl, hb⟩
      have HB1 := Lib.hid hb
      have HA1 := Lib.hid (HA.out.below hb)
      clear hb
      obtain ⟨c0, c1, c2, c3, c4⟩ := HA1.out.c.cells5
      have r2 := HA1.out.ok.look_ok x hx
      rw [HK.out] at r2
      dsimp only [Option.getD_none, Option.isSome_none] at r2
      go_wp2
      go_ret
      exact auth_same HV.out HA.out (HB1.out.alloc HB1.out.size _)
    | some k =>
      obtain ⟨hm, rfl⟩ := findK_some hk
      have HK := Lib.hid hk
      obtain ⟨hb1, hb2, hb3⟩ := hI.kbs hm
      have ew : IntKind.i64.wrap (k.m - k.h) = k.m - k.h := IntWalk.i64_in _ (by omega)
      by_cases h3 : n ≤ k.m - k.h
      · have e3 : decide (k.m - k.h < n) = false := by simpa using h3
        have hv : authV q o k.n n = true := authV_iff.2 ⟨h0, by omega, HF.out, k, hk, h3⟩
        have HV := Lib.hid hv
        have hb4 : 1 ≤ n := by omega
        have ew2 : IntKind.i64.wrap (k.h + n) = k.h + n := IntWalk.i64_in _ (by omega)
        clear hI hv hk
        go_enter Tryz.func162, Tryz.ntmps162
        go_wp2_with fail
        with_reducible refine C1.out.mono ?_
        rintro e w1 ⟨rfl, hb⟩
        have HB1 := Lib.hid hb
        have HA1 := Lib.hid (HA.out.below hb)
        clear hb
        obtain ⟨c0, c1, c2, c3, c4⟩ := HA1.out.c.cells5
        have r2 := HA1.out.ok.look_ok k.n hx
        rw [HK.out] at r2
        dsimp only [Option.getD_some, Option.isSome_some] at r2
        go_wp2_with fail
        obtain ⟨W2, hW2⟩ : ∃ W2, W2 = (w1.alloc (.cells #[encStr k.n, .int .i64 k.m, .int .i64 (k.h + n)] 87)) := ⟨_, rfl⟩
        rw [← hW2]
        have HA2 : Hid (AtM W2 b q.K (stH q.H 1) (stH q.H 2) (stH q.H 3)) := Lib.hid (by rw [hW2]; exact HA1.out.m.alloc _)
        have L2 : Hid (Lies W2 w1.heap.size 87 #[encStr k.n, .int .i64 k.m, .int .i64 (k.h + n)]) := Lib.hid (by rw [hW2]; exact Lies.made _ _ _)
        have BW2 : Hid (Below w.heap.size w W2) := Lib.hid (by rw [hW2]; exact HB1.out.alloc HB1.out.size _)
        have HNM : Hid (¬ b.isMap w1.heap.size) := Lib.hid (fun hm => Nat.lt_irrefl _ (HA1.out.map_lt hm))
        clear hW2 c0 c1 c2 c3 c4 r2 ew ew2
        have hu := HA2.out.drew.ok.upd HI.out.ks ⟨k.n, k.m, k.h + n⟩ k hm rfl (by have := (HI.out.kl k hm).2; unfold maxLen; show k.n.length ≤ _; omega) (by have := HI.out.kz; omega)
        obtain ⟨w3, hu1, hu2, hu3⟩ := hu
        have HU := Lib.hid (And.intro hu1 (And.intro hu2 hu3))
        clear hu1 hu2 hu3
        refine wp_region_noPanic ?_
        refine wp_region_held_drew (S := fun W => Lies W b.s 186 (pcs b) ∧ Lies W w1.heap.size 87 #[encStr k.n, .int .i64 k.m, .int .i64 (k.h + n)]) (by kernel_rfl) ⟨HA2.out.c, L2.out⟩ (fun hH0 => ?_)
        refine any_take 0 51 ?va0 rfl rfl (by kernel_rfl) (by kernel_rfl) (by kernel_rfl) (fun _ _ _ h => h) (by rfl) ?hya0 hH0 ?resta0
        case hya0 => ((intro W hSw); obtain ⟨o0, o1, o2, o3, o4⟩ := Lies.cells5 hSw.1; obtain ⟨p0, p1, p2⟩ := Lies.cells3 hSw.2; go_simp; (try with_reducible rfl))
        try simp only [Act.put, List.setIfInBounds_toArray, List.set_cons_zero, List.set_cons_succ]
        refine any_take 1 52 ?va1 rfl rfl (by kernel_rfl) (by kernel_rfl) (by kernel_rfl) (fun _ _ _ h => h) (by rfl) ?hya1 hH0 ?resta1
        case hya1 => ((intro W hSw); obtain ⟨o0, o1, o2, o3, o4⟩ := Lies.cells5 hSw.1; obtain ⟨p0, p1, p2⟩ := Lies.cells3 hSw.2; go_simp; (try with_reducible rfl))
        try simp only [Act.put, List.setIfInBounds_toArray, List.set_cons_zero, List.set_cons_succ]
        refine any_take 2 53 ?va2 rfl rfl (by kernel_rfl) (by kernel_rfl) (by kernel_rfl) (fun _ _ _ h => h) (by rfl) ?hya2 hH0 ?resta2
        case hya2 => ((intro W hSw); obtain ⟨o0, o1, o2, o3, o4⟩ := Lies.cells5 hSw.1; obtain ⟨p0, p1, p2⟩ := Lies.cells3 hSw.2; go_simp; (try with_reducible rfl))
        try simp only [Act.put, List.setIfInBounds_toArray, List.set_cons_zero, List.set_cons_succ]
        refine any_take 3 54 ?va3 rfl rfl (by kernel_rfl) (by kernel_rfl) (by kernel_rfl) (fun _ _ _ h => h) (by rfl) ?hya3 hH0 ?resta3
        case hya3 => ((intro W hSw); obtain ⟨o0, o1, o2, o3, o4⟩ := Lies.cells5 hSw.1; obtain ⟨p0, p1, p2⟩ := Lies.cells3 hSw.2; go_simp; (try with_reducible rfl))
        try simp only [Act.put, List.setIfInBounds_toArray, List.set_cons_zero, List.set_cons_succ]
        refine any_take 4 55 ?va4 rfl rfl (by kernel_rfl) (by kernel_rfl) (by kernel_rfl) (fun _ _ _ h => h) (by rfl) ?hya4 hH0 ?resta4
        case hya4 => ((intro W hSw); obtain ⟨o0, o1, o2, o3, o4⟩ := Lies.cells5 hSw.1; obtain ⟨p0, p1, p2⟩ := Lies.cells3 hSw.2; go_simp; (try with_reducible rfl))
        try simp only [Act.put, List.setIfInBounds_toArray, List.set_cons_zero, List.set_cons_succ]
        refine any_take 5 56 ?va5 rfl rfl (by kernel_rfl) (by kernel_rfl) (by kernel_rfl) (fun _ _ _ h => h) (by rfl) ?hya5 hH0 ?resta5
        case hya5 => ((intro W hSw); obtain ⟨o0, o1, o2, o3, o4⟩ := Lies.cells5 hSw.1; obtain ⟨p0, p1, p2⟩ := Lies.cells3 hSw.2; go_simp; (try with_reducible rfl))
        try simp only [Act.put, List.setIfInBounds_toArray, List.set_cons_zero, List.set_cons_succ]
        refine any_take 6 57 ?va6 rfl rfl (by kernel_rfl) (by kernel_rfl) (by kernel_rfl) (fun _ _ _ h => h) (by rfl) ?hya6 hH0 ?resta6
        case hya6 => ((intro W hSw); obtain ⟨o0, o1, o2, o3, o4⟩ := Lies.cells5 hSw.1; obtain ⟨p0, p1, p2⟩ := Lies.cells3 hSw.2; go_simp; (try with_reducible rfl))
        try simp only [Act.put, List.setIfInBounds_toArray, List.set_cons_zero, List.set_cons_succ]
        refine wpAnyH_ready (rs := [7]) (by kernel_rfl) (by simp) ?_
        refine AllReadyH.cons rfl (fun K hK => ?_) AllReadyH.nil
        refine stp_upd none _ _ _ 182 (.tmp 54) (.tmp 56) (.tmp 57) (.map (some b.k)) (encStr k.n) (vK ⟨k.n, k.m, k.h + n⟩) w3 rfl rfl rfl HU.out.1 ?_
        obtain ⟨hA3, hF3⟩ := HA2.out.drew.turnK HU.out.2.1 HU.out.2.2
        have L3 := Lib.hid (hF3.lies (g := w1.heap.size) (t := 87) (w := W2.drew) L2.out HNM.out)
        have HA3 := Lib.hid hA3
        have HF3 := Lib.hid ((Frm.of_below b BW2.out).drew.trans hF3)
        clear hA3 hF3
        refine hK.out _ _ ⟨HA3.out.c, L3.out⟩ (fun hH1 => ?_)
        clear hK K hH0
        try simp only [Act.put, List.setIfInBounds_toArray, List.set_cons_zero, List.set_cons_succ]
        clear hH1
        refine wpAnyH_done (by kernel_rfl) ?_ _
        refine NoPanic.normal ?_
        go_wp2_with fail
        obtain ⟨w4, hu1, hu2, hu3⟩ := HA3.out.drew.o1.add ⟨o, k.n, n, 1⟩ (fun y hy => findH_none HF.out y (mem_stH.1 hy).1) ho (by have : (stH q.H 1).length ≤ q.H.length := List.length_filter_le _ _; omega)
        have HU4 := Lib.hid (And.intro hu1 (And.intro hu2 hu3))
        clear hu1 hu2 hu3
        refine wp_region_noPanic ?_
        refine wp_region_held_drew (S := fun W => Lies W b.s 186 (pcs b) ∧ Lies W w1.heap.size 87 #[encStr k.n, .int .i64 k.m, .int .i64 (k.h + n)]) (by kernel_rfl) ⟨HA3.out.c, L3.out⟩ (fun hH0 => ?_)
        refine any_take 0 58 ?vb0 rfl rfl (by kernel_rfl) (by kernel_rfl) (by kernel_rfl) (fun _ _ _ h => h) (by rfl) ?hyb0 hH0 ?restb0
        case hyb0 => ((intro W hSw); obtain ⟨o0, o1, o2, o3, o4⟩ := Lies.cells5 hSw.1; obtain ⟨p0, p1, p2⟩ := Lies.cells3 hSw.2; go_simp; (try with_reducible rfl))
        try simp only [Act.put, List.setIfInBounds_toArray, List.set_cons_zero, List.set_cons_succ]
        refine any_take 1 59 ?vb1 rfl rfl (by kernel_rfl) (by kernel_rfl) (by kernel_rfl) (fun _ _ _ h => h) (by rfl) ?hyb1 hH0 ?restb1
        case hyb1 => ((intro W hSw); obtain ⟨o0, o1, o2, o3, o4⟩ := Lies.cells5 hSw.1; obtain ⟨p0, p1, p2⟩ := Lies.cells3 hSw.2; go_simp; (try with_reducible rfl))
        try simp only [Act.put, List.setIfInBounds_toArray, List.set_cons_zero, List.set_cons_succ]
        refine any_take 2 60 ?vb2 rfl rfl (by kernel_rfl) (by kernel_rfl) (by kernel_rfl) (fun _ _ _ h => h) (by rfl) ?hyb2 hH0 ?restb2
        case hyb2 => ((intro W hSw); obtain ⟨o0, o1, o2, o3, o4⟩ := Lies.cells5 hSw.1; obtain ⟨p0, p1, p2⟩ := Lies.cells3 hSw.2; go_simp; (try with_reducible rfl))
        try simp only [Act.put, List.setIfInBounds_toArray, List.set_cons_zero, List.set_cons_succ]
        refine any_take 3 61 ?vb3 rfl rfl (by kernel_rfl) (by kernel_rfl) (by kernel_rfl) (fun _ _ _ h => h) (by rfl) ?hyb3 hH0 ?restb3
        case hyb3 => ((intro W hSw); obtain ⟨o0, o1, o2, o3, o4⟩ := Lies.cells5 hSw.1; obtain ⟨p0, p1, p2⟩ := Lies.cells3 hSw.2; go_simp; (try with_reducible rfl))
        try simp only [Act.put, List.setIfInBounds_toArray, List.set_cons_zero, List.set_cons_succ]
        refine any_take 4 62 ?vb4 rfl rfl (by kernel_rfl) (by kernel_rfl) (by kernel_rfl) (fun _ _ _ h => h) (by rfl) ?hyb4 hH0 ?restb4
        case hyb4 => ((intro W hSw); obtain ⟨o0, o1, o2, o3, o4⟩ := Lies.cells5 hSw.1; obtain ⟨p0, p1, p2⟩ := Lies.cells3 hSw.2; go_simp; (try with_reducible rfl))
        try simp only [Act.put, List.setIfInBounds_toArray, List.set_cons_zero, List.set_cons_succ]
        refine any_take 5 63 ?vb5 rfl rfl (by kernel_rfl) (by kernel_rfl) (by kernel_rfl) (fun _ _ _ h => h) (by rfl) ?hyb5 hH0 ?restb5
        case hyb5 => ((intro W hSw); obtain ⟨o0, o1, o2, o3, o4⟩ := Lies.cells5 hSw.1; obtain ⟨p0, p1, p2⟩ := Lies.cells3 hSw.2; go_simp; (try with_reducible rfl))
        try simp only [Act.put, List.setIfInBounds_toArray, List.set_cons_zero, List.set_cons_succ]
        refine any_take 6 64 ?vb6 rfl rfl (by kernel_rfl) (by kernel_rfl) (by kernel_rfl) (fun _ _ _ h => h) (by rfl) ?hyb6 hH0 ?restb6
        case hyb6 => ((intro W hSw); obtain ⟨o0, o1, o2, o3, o4⟩ := Lies.cells5 hSw.1; obtain ⟨p0, p1, p2⟩ := Lies.cells3 hSw.2; go_simp; (try with_reducible rfl))
        try simp only [Act.put, List.setIfInBounds_toArray, List.set_cons_zero, List.set_cons_succ]
        refine any_take 7 65 ?vb7 rfl rfl (by kernel_rfl) (by kernel_rfl) (by kernel_rfl) (fun _ _ _ h => h) (by rfl) ?hyb7 hH0 ?restb7
        case hyb7 => ((intro W hSw); obtain ⟨o0, o1, o2, o3, o4⟩ := Lies.cells5 hSw.1; obtain ⟨p0, p1, p2⟩ := Lies.cells3 hSw.2; go_simp; (try with_reducible rfl))
        try simp only [Act.put, List.setIfInBounds_toArray, List.set_cons_zero, List.set_cons_succ]
        refine any_take 8 66 ?vb8 rfl rfl (by kernel_rfl) (by kernel_rfl) (by kernel_rfl) (fun _ _ _ h => h) (by rfl) ?hyb8 hH0 ?restb8
        case hyb8 => ((intro W hSw); obtain ⟨o0, o1, o2, o3, o4⟩ := Lies.cells5 hSw.1; obtain ⟨p0, p1, p2⟩ := Lies.cells3 hSw.2; go_simp; (try with_reducible rfl))
        try simp only [Act.put, List.setIfInBounds_toArray, List.set_cons_zero, List.set_cons_succ]
        refine any_take 9 67 ?vb9 rfl rfl (by kernel_rfl) (by kernel_rfl) (by kernel_rfl) (fun _ _ _ h => h) (by rfl) ?hyb9 hH0 ?restb9
        case hyb9 => ((intro W hSw); obtain ⟨o0, o1, o2, o3, o4⟩ := Lies.cells5 hSw.1; obtain ⟨p0, p1, p2⟩ := Lies.cells3 hSw.2; go_simp; (try with_reducible rfl))
        try simp only [Act.put, List.setIfInBounds_toArray, List.set_cons_zero, List.set_cons_succ]
        refine wpAnyH_ready (rs := [10]) (by kernel_rfl) (by simp) ?_
        refine AllReadyH.cons rfl (fun K hK => ?_) AllReadyH.nil
        refine stp_upd none _ _ _ 183 (.tmp 62) (.tmp 63) (.tmp 67) (.map (some b.p1)) (.int .u32 (o : Int)) (vH ⟨o, k.n, n, 1⟩) w4 rfl rfl rfl HU4.out.1 ?_
        obtain ⟨hA4, hF4⟩ := HA3.out.drew.turn1 HU4.out.2.1 HU4.out.2.2
        have HA4 := Lib.hid hA4
        have HF4 := Lib.hid (HF3.out.drew.trans hF4)
        refine hK.out _ _ ⟨hA4.c, hF4.lies (g := w1.heap.size) (t := 87) (w := w3.drew) L3.out HNM.out⟩ (fun hH1 => ?_)
        clear hA4 hF4 hK K hH0
        try simp only [Act.put, List.setIfInBounds_toArray, List.set_cons_zero, List.set_cons_succ]
        clear hH1
        refine wpAnyH_done (by kernel_rfl) ?_ _
        refine NoPanic.normal ?_
        go_wp2
        go_ret
        refine ⟨by rw [HV.out]; rfl, ?_, HF4.out⟩
        rw [authS_yes HV.out HK.out]
        have hn1 := findH_none HF.out
        exact HA4.out.at (by rw [stH_ins HI.out.hs (h := ⟨o, k.n, n, 1⟩) hn1, if_pos rfl]) (by rw [stH_ins HI.out.hs (h := ⟨o, k.n, n, 1⟩) hn1, if_neg (show ¬ (1 : Nat) = 2 by decide)]) (by rw [stH_ins HI.out.hs (h := ⟨o, k.n, n, 1⟩) hn1, if_neg (show ¬ (1 : Nat) = 3 by decide)])
      · have e3 : decide (k.m - k.h < n) = true := by simpa using h3
        have hv : authV q o k.n n = false := by
          rw [← Bool.not_eq_true, authV_iff]
          exact fun h => by obtain ⟨k', h', h2⟩ := h.2.2.2; rw [hk] at h'; injection h' with h'; subst h'; exact h3 h2
        have HV := Lib.hid hv
        clear hI hv hk
        go_enter Tryz.func162, Tryz.ntmps162
        go_wp2_with fail
        with_reducible refine C1.out.mono ?_
        rintro e w1 ⟨rfl, hb⟩
        have HB1 := Lib.hid hb
        have HA1 := Lib.hid (HA.out.below hb)
        clear hb
        obtain ⟨c0, c1, c2, c3, c4⟩ := HA1.out.c.cells5
        have r2 := HA1.out.ok.look_ok k.n hx
        rw [HK.out] at r2
        dsimp only [Option.getD_some, Option.isSome_some] at r2
        go_wp2
        go_ret
        exact auth_same HV.out HA.out (HB1.out.alloc HB1.out.size _)

end Go.Proofs.YtpbclmnhkmcknaaGreat.Pu

namespace Go.Proofs.YtpbclmnhkmcknaaGreat.Pu
open Go.RowKit
set_option maxRecDepth 100000
set_option linter.unusedVariables false
set_option linter.unusedSimpArgs false

theorem capture_any (b : SB) (q : Ss) (o : Nat) (w : World) (hA : At w b q) (hI : Inv q) (ho : o < 4294967296) (hl : q.H.length ≤ 1000) :
    Calls Tryz.prog 163 #[.pointer (some ⟨b.s, 0, none⟩), .int .u32 (o : Int)] w (MovPost w b q o 0) := by
  have C := Lib.hid (capture_mov b q o w hA hI ho hl)
  clear hA hI
  go_enter Tryz.func163, Tryz.ntmps163
  go_wp2_with fail
  with_reducible refine C.out.mono ?_
  rintro e w' ⟨rfl, h⟩
  have HH := Lib.hid h
  clear h
  go_wp2
  go_ret
  exact ⟨rfl, HH.out⟩
theorem void_any (b : SB) (q : Ss) (o : Nat) (w : World) (hA : At w b q) (hI : Inv q) (ho : o < 4294967296) (hl : q.H.length ≤ 1000) :
    Calls Tryz.prog 157 #[.pointer (some ⟨b.s, 0, none⟩), .int .u32 (o : Int)] w (MovPost w b q o 1) := by
  have C := Lib.hid (void_mov b q o w hA hI ho hl)
  clear hA hI
  go_enter Tryz.func157, Tryz.ntmps157
  go_wp2_with fail
  with_reducible refine C.out.mono ?_
  rintro e w' ⟨rfl, h⟩
  have HH := Lib.hid h
  clear h
  go_wp2
  go_ret
  exact ⟨rfl, HH.out⟩
theorem refund_any (b : SB) (q : Ss) (o : Nat) (w : World) (hA : At w b q) (hI : Inv q) (ho : o < 4294967296) (hl : q.H.length ≤ 1000) :
    Calls Tryz.prog 158 #[.pointer (some ⟨b.s, 0, none⟩), .int .u32 (o : Int)] w (MovPost w b q o 2) := by
  have C := Lib.hid (refund_mov b q o w hA hI ho hl)
  clear hA hI
  go_enter Tryz.func158, Tryz.ntmps158
  go_wp2_with fail
  with_reducible refine C.out.mono ?_
  rintro e w' ⟨rfl, h⟩
  have HH := Lib.hid h
  clear h
  go_wp2
  go_ret
  exact ⟨rfl, HH.out⟩

/-! ### a purse that is not there -/
end Go.Proofs.YtpbclmnhkmcknaaGreat.Pu

namespace Go.Proofs.YtpbclmnhkmcknaaGreat.Do
open Go.RowKit Go.Maps
set_option maxRecDepth 100000
set_option linter.unusedVariables false
set_option linter.unusedSimpArgs false

/-- What lies in the map: a day, a number. -/
structure Pd where
  d : Int
  k : Int
def Hd.p (h : Hd) : Pd := ⟨(h.d : Int), h.k⟩
abbrev vH (p : Pd) : Value := .agg #[.int .i64 p.d, .int .i64 p.k]
def dH (p : Pd) : DataW Unit := .agg [.lit (.int .i64 p.d), .lit (.int .i64 p.k)]
def zH : Pd := ⟨0, 0⟩
def rH : Value → Option (DataW Unit × List MemPlace)
  | .agg cs => match cs.toList with
    | [.int .i64 d, .int .i64 k] => some (dH ⟨d, k⟩, [])
    | _ => none
  | _ => none
theorem rH_mk (p : Pd) : rH (vH p) = some (dH p, []) := by simp [rH, vH, dH]
theorem rH_inv {v : Value} {y : DataW Unit × List MemPlace} (h : rH v = some y) : ∃ p, v = vH p ∧ y = (dH p, []) := by
  unfold rH at h
  split at h
  · rename_i cs
    split at h
    · rename_i d k e
      refine ⟨⟨d, k⟩, ?_, by simpa using h.symm⟩
      have : cs = #[.int .i64 d, .int .i64 k] := by rw [← Array.toList_inj, e]
      rw [this]
    · cases h
  · cases h
theorem dH_inj {a b : Pd} (h : dH a = dH b) : a = b := by
  unfold dH at h
  simp only [DataW.agg.injEq, List.cons.injEq, DataW.lit.injEq, Lit.int.injEq, true_and, and_true] at h
  cases a; cases b; simp_all

theorem lawH : Keyed Tryz.prog 52 := int_keyed Tryz.underlying52
theorem keyH (o : Nat) (ho : o < 4294967296) : keyOf Tryz.prog 52 (.int .u32 (o : Int)) = some (.int .u32 (o : Int)) :=
  keyOf_int_mk Tryz.underlying52 (WalkArith.wf_u32 (by omega))

/-- The map's datum holds just these bookings. -/
def HT (D : DataW Unit) (H : List Hd) : Prop := (∀ h ∈ H, ∀ z, D.atKey (.int .u32 (h.o : Int)) z = dH h.p) ∧ ∀ o : Nat, (∀ h ∈ H, h.o ≠ o) → ∀ z, D.atKey (.int .u32 (o : Int)) z = z
def OwnH (w : World) (b : Nat) (H : List Hd) : Prop := ∃ D, w.ownsMap Tryz.prog 52 rH b (Maps.size D) D ∧ HT D H ∧ Maps.size D = H.length

theorem tight {w : World} {k : TypeId} {R : Value → Option (DataW Unit × List MemPlace)} {b n : Nat} {D : DataW Unit} (h : w.ownsMap Tryz.prog k R b n D) : w.ownsMap Tryz.prog k R b (Maps.size D) D := by
  obtain ⟨es, clock, hb, F, hs, rfl⟩ := h
  refine ⟨es, clock, hb, F, ?_, rfl⟩
  simp [Maps.size, length_sorted]

theorem OwnH.lt {w : World} {b : Nat} {H : List Hd} (h : OwnH w b H) : b < w.heap.size := by obtain ⟨D, h, -⟩ := h; exact h.lt
theorem OwnH.same {w w' : World} {b : Nat} {H : List Hd} (h : OwnH w b H) (e : w'.heap[b]? = w.heap[b]?) : OwnH w' b H := by
  obtain ⟨D, ⟨es, clock, hb, r⟩, h2⟩ := h
  exact ⟨D, ⟨es, clock, e.trans hb, r⟩, h2⟩
theorem OwnH.made (w : World) : OwnH (w.alloc (.map #[] 0)) w.heap.size [] :=
  ⟨.map [], World.ownsMap_made w Tryz.prog 52 rH, ⟨(fun k hk => absurd hk (by simp)), fun x _ z => rfl⟩, rfl⟩

/-! ### what is looked up -/
theorem HT.find {D : DataW Unit} {H : List Hd} (h : HT D H) (o : Nat) (z : DataW Unit) : D.atKey (.int .u32 (o : Int)) z = match findH H o with | none => z | some k => dH k.p := by
  cases hf : findH H o with
  | none => exact h.2 o (findH_none hf) z
  | some k => obtain ⟨hk, rfl⟩ := findH_some hf; exact h.1 k hk z
theorem HT.has {D : DataW Unit} {H : List Hd} (h : HT D H) (o : Nat) : Maps.has D (.int .u32 (o : Int)) = (findH H o).isSome := by
  cases hf : findH H o with
  | none => exact has_false_of_atKey (h.2 o (findH_none hf))
  | some k => obtain ⟨hk, rfl⟩ := findH_some hf; exact has_true_of_atKey (h.1 k hk)
/-- What a look-up finds. -/
def foundP (H : List Hd) (o : Nat) : Pd := match findH H o with
  | none => zH
  | some h => h.p
theorem OwnH.look_ok {w : World} {b : Nat} {H : List Hd} (h : OwnH w b H) (o : Nat) (ho : o < 4294967296) :
    (Instr.lookup 191 (.map (some b)) (.int .u32 (o : Int)) true).run Tryz.prog w = .ok (.tuple #[vH (foundP H o), .bool (findH H o).isSome]) w := by
  obtain ⟨D, hown, hT, -⟩ := h
  obtain ⟨v, ps, hrun, hv⟩ := hown.look_ok lawH Tryz.underlying191 (Tryz.zeroValue276 w) (zd := dH zH) (zp := []) (rH_mk zH) (keyH o ho)
  rw [hT.find] at hv
  rw [hrun, hT.has]
  obtain ⟨k, rfl, e⟩ := rH_inv hv
  have e1 : (match findH H o with | none => dH zH | some k => dH k.p) = dH k := congrArg Prod.fst e
  have : foundP H o = k := by
    unfold foundP
    cases hf : findH H o with
    | none => rw [hf] at e1; exact dH_inj e1
    | some k' => rw [hf] at e1; exact dH_inj e1
  rw [this]
/-! ### what is stored and deleted -/
theorem isKeyI (o : Int) : WideAt.IsKeyLit (.int .u32 o) := by simp [WideAt.IsKeyLit]
theorem keyNe {a b : Nat} (h : a ≠ b) : (Lit.int .u32 (a : Int)) ≠ .int .u32 (b : Int) := fun e => h (by injection e with _ e; omega)
theorem OwnH.add {w : World} {b : Nat} {H : List Hd} (h : OwnH w b H) (k : Hd) (hn : ∀ y ∈ H, y.o ≠ k.o) (hx : k.o < 4294967296) (hK : H.length ≤ 1000000) :
    ∃ w', (Instr.mapUpdate 191 (.map (some b)) (.int .u32 (k.o : Int)) (vH k.p)).run Tryz.prog w = .ok () w' ∧ OwnH w' b (insH k H) ∧ w.mapTurned w' b := by
  obtain ⟨D, hown, hT, hz⟩ := h
  obtain ⟨w', hrun, hown', ht⟩ := hown.store lawH Tryz.underlying191 (by unfold maxLen; omega) (keyH k.o hx) (rH_mk k.p)
  refine ⟨w', hrun, ⟨_, tight hown', ⟨?_, ?_⟩, ?_⟩, ht⟩
  · intro y hy z
    rcases mem_insH.1 hy with rfl | hy
    · exact atKey_put_same hown.isMap (isKeyI _) _ _
    · rw [atKey_put_other (keyNe (hn y hy))]; exact hT.1 y hy z
  · intro x hx z
    have hne : x ≠ k.o := fun e => hx k (mem_insH.2 (.inl rfl)) e.symm
    rw [atKey_put_other (keyNe hne)]
    exact hT.2 x (fun y hy e => hx y (mem_insH.2 (.inr hy)) e) z
  · have hh : Maps.has D (.int .u32 (k.o : Int)) = false := has_false_of_atKey (hT.2 k.o hn)
    rw [size_put (hown.tidy lawH), if_neg (by rw [hh]; decide), hz, insH_length]
theorem OwnH.del {w : World} {b : Nat} {H : List Hd} (h : OwnH w b H) (hs : HSort H) (k : Hd) (hk : k ∈ H) (hx : k.o < 4294967296) (ty : TypeId) :
    ∃ w', (Builtin.delete_ #[191, 52] ty #[.map (some b), .int .u32 (k.o : Int)]).run Tryz.prog w = .ok (.tuple #[]) w' ∧ OwnH w' b (delH H k.o) ∧ w.mapTurned w' b := by
  obtain ⟨D, hown, hT, hz⟩ := h
  obtain ⟨w', hrun, hown', ht⟩ := hown.drop lawH Tryz.underlying191 (keyH k.o hx) ty
  refine ⟨w', hrun, ⟨_, tight hown', ⟨?_, ?_⟩, ?_⟩, ht⟩
  · intro y hy z
    obtain ⟨hy, hne⟩ := mem_delH.1 hy
    rw [atKey_del_other (keyNe hne)]; exact hT.1 y hy z
  · intro x hx z
    by_cases e : x = k.o
    · subst e; exact atKey_del_same z
    · rw [atKey_del_other (keyNe e)]
      exact hT.2 x (fun y hy e' => hx y (mem_delH.2 ⟨hy, fun e2 => e (e'.symm.trans e2)⟩) e') z
  · have hh : Maps.has D (.int .u32 (k.o : Int)) = true := by rw [hT.has, hs.find hk]; rfl
    have h1 := size_del (k := .int .u32 (k.o : Int)) (hown.tidy lawH)
    rw [if_pos hh] at h1
    have h2 := delH_length hs hk
    omega


/-! ### what was met in a range over the map -/
end Go.Proofs.YtpbclmnhkmcknaaGreat.Do

namespace Go.Proofs.YtpbclmnhkmcknaaGreat.Do
open Go.RowKit Go.Maps
set_option maxRecDepth 100000
set_option linter.unusedVariables false
set_option linter.unusedSimpArgs false

theorem Lies.cells2 {w : World} {g : Nat} {t : TypeId} {a b : Value} (h : Lies w g t #[a, b]) : w.cell? ⟨g, 0, none⟩ = some a ∧ w.cell? ⟨g, 1, none⟩ = some b := ⟨h.cell 0, h.cell 1⟩
theorem Lies.same {w w' : World} {g : Nat} {t : TypeId} {cs : Array Value} (h : Lies w g t cs) (e : w'.heap[g]? = w.heap[g]?) : Lies w' g t cs := e.trans h

/-- The blocks of a dock: its own, the row of days (a value and a block), the map. -/
structure SB where
  s : Nat
  v : Value
  g : Nat
  m : Nat
/-- Is it one that its calls turn? -/
def SB.isMap (b : SB) (i : Nat) : Prop := i = b.g ∨ i = b.m
theorem SB.g_map (b : SB) : b.isMap b.g := .inl rfl
theorem SB.m_map (b : SB) : b.isMap b.m := .inr rfl
/-- The row of days. -/
def RowF (w : World) (v : Value) (g m : Nat) (F : List Int) : Prop :=
  (F = [] ∧ g = m ∧ ∃ A c, v = .slice A 0 c) ∨
  ∃ cap cur, v = .slice (some ⟨g, 0, none⟩) F.length cap ∧ Lies w g 3 cur ∧ F.length ≤ cur.size ∧ F.length ≤ cap ∧ cap ≤ maxLen ∧ ∀ i, i < F.length → cur[i]? = some (.int .i64 (fr F i))
structure At (w : World) (b : SB) (q : Ss) : Prop where
  c : Lies w b.s 193 #[b.v, .map (some b.m)]
  f : RowF w b.v b.g b.m q.F
  o : OwnH w b.m q.H
theorem OwnH.ne_lies {w : World} {m : Nat} {H : List Hd} (h : OwnH w m H) {g : Nat} {t : TypeId} {cs : Array Value} (hL : Lies w g t cs) : m ≠ g := fun e => by
  obtain ⟨D, ⟨es, clock, hb, -⟩, -⟩ := h
  unfold Lies at hL
  rw [← e, hb] at hL
  cases hL
theorem Lies.ne_ty {w : World} {g g' : Nat} {t t' : TypeId} {cs cs' : Array Value} (h : Lies w g t cs) (h' : Lies w g' t' cs') (ht : t ≠ t') : g ≠ g' := fun e => by
  subst e
  unfold Lies at h h'
  rw [h] at h'
  injection h' with h'
  injection h' with _ h'
  exact ht h'
theorem At.map_lt {w : World} {b : SB} {q : Ss} (h : At w b q) {i : Nat} (hi : b.isMap i) : i < w.heap.size := by
  rcases hi with rfl | rfl
  · rcases h.f with ⟨-, e, -⟩ | ⟨cap, cur, -, hL, -⟩
    · rw [e]; exact h.o.lt
    · exact hL.lt
  · exact h.o.lt
/-- Nothing but the map, the row of days, and what is new, has turned. -/
structure Frm (w w' : World) (b : SB) : Prop where
  os : w'.os = w.os
  tape : w'.tape = w.tape
  output : w'.output = w.output
  size : w.heap.size ≤ w'.heap.size
  block : ∀ i, i < w.heap.size → ¬ b.isMap i → w'.heap[i]? = w.heap[i]?
theorem Frm.trans {w w' w'' : World} {b : SB} (h : Frm w w' b) (h' : Frm w' w'' b) : Frm w w'' b :=
  ⟨h'.os.trans h.os, h'.tape.trans h.tape, h'.output.trans h.output, Nat.le_trans h.size h'.size, fun i hi h1 => (h'.block i (Nat.lt_of_lt_of_le hi h.size) h1).trans (h.block i hi h1)⟩
theorem Frm.of_below {w w' : World} (b : SB) (h : Below w.heap.size w w') : Frm w w' b := ⟨h.os, h.tape, h.output, h.size, fun i hi _ => h.block i hi⟩
theorem Frm.of_grown {w w' : World} {b : SB} {r : Nat} (h : w.grownBy w' (some r)) (hr : b.isMap r) : Frm w w' b :=
  ⟨h.os, h.tape, h.output, h.size, fun i hi h1 => h.block i hi (fun e => by injection e with e; subst e; exact h1 hr)⟩
theorem Frm.drew {w w' : World} {b : SB} (h : Frm w w' b) : Frm w w'.drew b := ⟨h.os, h.tape, h.output, h.size, h.block⟩
theorem Frm.lies {w w' : World} {b : SB} (h : Frm w w' b) {g : Nat} {t : TypeId} {cs : Array Value} (hL : Lies w g t cs) (h1 : ¬ b.isMap g) : Lies w' g t cs := hL.same (h.block g hL.lt h1)
theorem RowF.same {w w' : World} {v : Value} {g m : Nat} {F : List Int} (h : RowF w v g m F) (e : w'.heap[g]? = w.heap[g]?) : RowF w' v g m F := by
  rcases h with h | ⟨cap, cur, h1, h2, h3⟩
  · exact .inl h
  · exact .inr ⟨cap, cur, h1, h2.same e, h3⟩
theorem At.same {w w' : World} {b : SB} {q : Ss} (h : At w b q) (h0 : w'.heap[b.s]? = w.heap[b.s]?) (hs : ∀ i, b.isMap i → w'.heap[i]? = w.heap[i]?) : At w' b q :=
  ⟨h.c.same h0, h.f.same (hs _ b.g_map), h.o.same (hs _ b.m_map)⟩
theorem At.below {w w' : World} {b : SB} {q : Ss} (h : At w b q) (hb : Below w.heap.size w w') : At w' b q :=
  h.same (hb.block _ h.c.lt) fun i hi => hb.block _ (h.map_lt hi)
theorem At.alloc {w : World} {b : SB} {q : Ss} (h : At w b q) (o : Obj) : At (w.alloc o) b q := h.below (below1 w o)
theorem At.drew {w : World} {b : SB} {q : Ss} (h : At w b q) : At w.drew b q := h.same rfl fun _ _ => rfl
theorem At.turnH {w w' : World} {b : SB} {q : Ss} {H' : List Hd} (h : At w b q) (ho : OwnH w' b.m H') (ht : w.mapTurned w' b.m) : At w' b ⟨q.F, H'⟩ ∧ Frm w w' b := by
  have hF := Frm.of_grown (b := b) ht.grown b.m_map
  have hg := ht.grown
  have hne : ∀ i, i < w.heap.size → i ≠ b.m → w'.heap[i]? = w.heap[i]? := fun i hi hn => hg.block i hi (fun e => hn (Option.some.inj e))
  refine ⟨⟨h.c.same (hne _ h.c.lt (fun e => h.o.ne_lies h.c e.symm)), ?_, ho⟩, hF⟩
  rcases h.f with h1 | ⟨cap, cur, h1, h2, h3⟩
  · exact .inl h1
  · exact .inr ⟨cap, cur, h1, h2.same (hne _ h2.lt (fun e => h.o.ne_lies h2 e.symm)), h3⟩
/-- The row of days, where there is a day. -/
theorem At.row {w : World} {b : SB} {q : Ss} (h : At w b q) (h0 : 0 < q.F.length) : ∃ cap, b.v = .slice (some ⟨b.g, 0, none⟩) q.F.length cap ∧ q.F.length ≤ cap ∧ cap ≤ maxLen ∧ ∀ i, i < q.F.length → w.cell? ⟨b.g, i, none⟩ = some (.int .i64 (fr q.F i)) ∧ w.frozen? ⟨b.g, i, none⟩ = false := by
  rcases h.f with ⟨e, -⟩ | ⟨cap, cur, h1, h2, h3, h4, h5, h6⟩
  · rw [e] at h0; simp at h0
  · exact ⟨cap, h1, h4, h5, fun i hi => ⟨(h2.cell i).trans (h6 i hi), h2.free i⟩⟩
theorem At.len {w : World} {b : SB} {q : Ss} (h : At w b q) : ∃ A cap, b.v = .slice A q.F.length cap := by
  rcases h.f with ⟨e, -, A, c, h⟩ | ⟨cap, cur, h1, -⟩
  · rw [e]; exact ⟨A, c, h⟩
  · exact ⟨_, cap, h1⟩
/-- A day's room is written. -/
theorem At.putF {w : World} {b : SB} {q : Ss} (h : At w b q) {d : Nat} (hd : d < q.F.length) (x : Int) : At (w.setCell ⟨b.g, d, none⟩ (.int .i64 x)) b ⟨q.F.set d x, q.H⟩ ∧ Frm w (w.setCell ⟨b.g, d, none⟩ (.int .i64 x)) b := by
  rcases h.f with ⟨e, -⟩ | ⟨cap, cur, h1, h2, h3, h4, h5, h6⟩
  · rw [e] at hd; simp at hd
  · have hsg : b.s ≠ b.g := h.c.ne_ty h2 (by decide)
    refine ⟨⟨h.c.other (a := ⟨b.g, d, none⟩) hsg _, .inr ⟨cap, _, by rw [List.length_set]; exact h1, h2.put d _, by simpa using h3, by simpa using h4, h5, fun i hi => ?_⟩, h.o.same (heap_setCell_other w _ _ _ (fun e => h.o.ne_lies h2 e))⟩, ⟨rfl, rfl, rfl, by simp, fun i hi hn => heap_setCell_other w _ _ _ (fun e => hn (.inl e))⟩⟩
    rw [List.length_set] at hi
    rw [Array.getElem?_setIfInBounds, fr_set]
    by_cases e : d = i
    · subst e
      rw [if_pos rfl, if_pos (by omega), if_pos ⟨rfl, hd⟩]
    · rw [if_neg e, if_neg (by omega)]
      exact h6 i hi

/-- .. where it is not. -/
theorem wpl_upd {ops : Array Oper} {rest : List Oper} {a : Act} {w : World} {Q : Exit → Act → World → Prop} (dst : Option Tmp) (ty : TypeId) (pos : String) (aft : Array Edge) (t : TypeId) (m k v : Operand)
    (mv kv vv : Value) (w' : World) (hm : a.eval m = mv) (hk : a.eval k = kv) (hv : a.eval v = vv) (hrun : (Instr.mapUpdate t mv kv vv).run Tryz.prog w = .ok () w') (h : wpList Tryz.prog ops Q rest (a.put dst undef) w') :
    wpList Tryz.prog ops Q (⟨dst, .mapUpdate t m k v, ty, pos, aft, none⟩ :: rest) a w := by
  refine wpList_plain rfl fun K' hK' => ?_
  unfold Oper.wp
  simp [execOp, hm, hk, hv, hrun, Result.andThen]
  exact hK' _ _ h

end Go.Proofs.YtpbclmnhkmcknaaGreat.Do

namespace Go.Proofs.YtpbclmnhkmcknaaGreat.Do
open Go.RowKit Go.Maps
set_option maxRecDepth 100000
set_option linter.unusedVariables false
set_option linter.unusedSimpArgs false

/-- The room of a day that there may not be. -/
def roomI (F : List Int) (d : Int) : Int := if 0 ≤ d ∧ d < (F.length : Int) then fr F d.toNat else 0
theorem roomI_nat (F : List Int) (d : Nat) : roomI F (d : Int) = fr F d := by
  unfold roomI
  split
  · simp
  · unfold fr
    rw [List.getD_eq_getElem?_getD, List.getElem?_eq_none (by omega)]
    rfl
/-! ### a dock that is not there -/
end Go.Proofs.YtpbclmnhkmcknaaGreat.Do

namespace Go.Proofs.YtpbclmnhkmcknaaGreat.Do
open Go.RowKit Go.Maps
set_option maxRecDepth 100000
set_option linter.unusedVariables false
set_option linter.unusedSimpArgs false

def BookPost (w : World) (b : SB) (q : Ss) (o : Nat) (f n : Int) (e : Ending) (w' : World) : Prop :=
  e = .returned (.tuple #[.int .i64 (dayI (bookD q o f n)), .int .i64 (verd (bookD q o f n).isSome)]) ∧ At w' b (bookS q o f n) ∧ Frm w w' b
theorem book_same {w w' : World} {b : SB} {q : Ss} {o : Nat} {f n : Int} (hv : bookD q o f n = none) (h : At w b q) (hb : Below w.heap.size w w') : BookPost w b q o f n (.returned (.tuple #[.int .i64 0, .int .i64 2])) w' := by
  unfold BookPost
  rw [bookS_no hv, hv]
  exact ⟨rfl, h.below hb, Frm.of_below b hb⟩
theorem OwnH.look_none {w : World} {b : Nat} {H : List Hd} (h : OwnH w b H) (o : Nat) (ho : o < 4294967296) (hf : findH H o = none) :
    (Instr.lookup 191 (.map (some b)) (.int .u32 (o : Int)) true).run Tryz.prog w = .ok (.tuple #[.agg #[.int .i64 0, .int .i64 0], .bool false]) w := by
  have := h.look_ok o ho
  unfold foundP at this
  rw [hf] at this
  exact this
theorem OwnH.look_some {w : World} {b : Nat} {H : List Hd} (h : OwnH w b H) (o : Nat) (ho : o < 4294967296) {y : Hd} (hf : findH H o = some y) :
    (Instr.lookup 191 (.map (some b)) (.int .u32 (o : Int)) true).run Tryz.prog w = .ok (.tuple #[.agg #[.int .i64 (y.d : Int), .int .i64 y.k], .bool true]) w := by
  have := h.look_ok o ho
  unfold foundP at this
  rw [hf] at this
  exact this
def BkI (F : List Int) (f n : Int) (v : Value) : Prop := ∃ j : Nat, j ≤ F.length ∧ v = .int .i64 (j : Int) ∧ ∀ i, i < j → ¬ (f ≤ (i : Int) ∧ n ≤ fr F i)

set_option maxHeartbeats 8000000 in
theorem book_any (R : List Int) (b : SB) (q : Ss) (o : Nat) (f n : Int) (w : World) (hA : At w b q) (hI : Inv R q) (ho : o < 4294967296) (hf1 : -9223372036854775808 ≤ f ∧ f ≤ 9223372036854775807) (hn1 : -9223372036854775808 ≤ n ∧ n ≤ 9223372036854775807) (hl : q.H.length ≤ 1000) :
    Calls Tryz.prog 196 #[.pointer (some ⟨b.s, 0, none⟩), .int .u32 (o : Int), .int .i64 f, .int .i64 n] w (BookPost w b q o f n) := by
  have HA := Lib.hid hA
  have HI := Lib.hid hI
  by_cases h0 : o = 0
  · have HV : Hid (bookD q o f n = none) := Lib.hid (by unfold bookD; rw [if_neg (fun h => h.1 h0)])
    have e0 : (((o : Int) == 0) : Bool) = true := by simp [h0]
    clear hA hI h0
    go_enter Tryz.func196, Tryz.ntmps196
    go_wp2
    go_ret2
    exact book_same HV.out HA.out (Below.refl _ _)
  have e0 : (((o : Int) == 0) : Bool) = false := beq_eq_false_iff_ne.2 (by omega)
  by_cases h1 : n < 1
  · have HV : Hid (bookD q o f n = none) := Lib.hid (by unfold bookD; rw [if_neg (fun h => by omega)])
    clear hA hI
    go_enter Tryz.func196, Tryz.ntmps196
    go_wp2
    go_ret2
    exact book_same HV.out HA.out (Below.refl _ _)
  have e1 : decide (n < 1) = false := by simpa using h1
  by_cases h2 : f < 0
  · have HV : Hid (bookD q o f n = none) := Lib.hid (by unfold bookD; rw [if_neg (fun h => by omega)])
    clear hA hI
    go_enter Tryz.func196, Tryz.ntmps196
    go_wp2
    go_ret2
    exact book_same HV.out HA.out (Below.refl _ _)
  have e2 : decide (f < 0) = false := by simpa using h2
  obtain ⟨A, cap, hbv⟩ := hA.len
  have hC := hA.c
  rw [hbv] at hC
  obtain ⟨c0, c1⟩ := hC.cells2
  have HBV := Lib.hid hbv
  clear hC hbv
  cases hf : findH q.H o with
  | some y =>
    have HV : Hid (bookD q o f n = none) := Lib.hid (by unfold bookD; rw [if_neg (fun h => by rw [hf] at h; cases h.2.2.2)])
    have lk := hA.o.look_some o ho hf
    clear hA hI hf
    go_enter Tryz.func196, Tryz.ntmps196
    go_wp2
    go_ret2
    exact book_same HV.out HA.out (below1 _ _)
  | none =>
    have HF := Lib.hid hf
    have lk := hA.o.look_none o ho hf
    have HVE : Hid (bookD q o f n = fday q.F f n) := Lib.hid (by unfold bookD; rw [if_pos ⟨h0, by omega, by omega, hf⟩])
    have hlen : (q.F.length : Int) ≤ 60 := by have := hI.fl; have := hI.fz; omega
    have HFB : Hid (∀ d, d < q.F.length → 0 ≤ fr q.F d ∧ fr q.F d ≤ 1000000) := Lib.hid (fun d hd => hI.fb (by rw [← hI.fl]; exact hd))
    have hC2 := (hA.alloc (.cells #[.int .i64 0, .int .i64 0] 276)).c
    rw [HBV.out] at hC2
    obtain ⟨d0, d1⟩ := hC2.cells2
    clear hA hI hf hC2
    go_enter Tryz.func196, Tryz.ntmps196
    go_wp2_with fail
    obtain ⟨W1, hW1⟩ : ∃ W1, W1 = w.alloc (.cells #[.int .i64 0, .int .i64 0] 276) := ⟨_, rfl⟩
    rw [← hW1]
    have HA1 : Hid (At W1 b q) := Lib.hid (by rw [hW1]; exact HA.out.alloc _)
    have HB1 : Hid (Below w.heap.size w W1) := Lib.hid (by rw [hW1]; exact below1 _ _)
    clear hW1 lk c0 c1 d0 d1
    have hC := HA1.out.c
    rw [HBV.out] at hC
    obtain ⟨c0, c1⟩ := hC.cells2
    clear hC
    go_loop [43] (fun v => BkI q.F f n v) (fun i => q.F.length - (intOf i).toNat)
    case atStart => exact ⟨0, by omega, rfl, fun i hi => by omega⟩
    case round =>
      obtain ⟨j, hj, rfl, hall⟩ := hrel
      have HALL := Lib.hid hall
      clear hall
      by_cases hlt : j < q.F.length
      · have hlt2 : (j : Int) < (q.F.length : Int) := by omega
        obtain ⟨cap', hv', hcc, hcm, hc⟩ := HA1.out.row (by omega)
        obtain ⟨x0, xf⟩ := hc j hlt
        rw [HBV.out] at hv'
        injection hv' with q1 q2 q3
        subst q1 q3
        have hxb := HFB.out j hlt
        obtain ⟨x, hx⟩ : ∃ x, fr q.F j = x := ⟨_, rfl⟩
        rw [hx] at x0 hxb
        have HX := Lib.hid hx
        obtain ⟨hxb1, hxb2⟩ := hxb
        clear hc hx q2
        by_cases hfj : f ≤ (j : Int)
        · by_cases hnx : n ≤ x
          · have HVD : Hid (bookD q o f n = some j) := Lib.hid (by rw [HVE.out]; exact fday_some.2 ⟨hlt, hfj, by rw [HX.out]; exact hnx, HALL.out⟩)
            have ew : IntKind.i64.wrap (x - n) = x - n := IntWalk.i64_in _ (by omega)
            obtain ⟨hp1, hp2⟩ := HA1.out.putF hlt (x - n)
            obtain ⟨w5, hu1, hu2, hu3⟩ := hp1.o.add ⟨o, j, n⟩ (findH_none HF.out) ho (by show q.H.length ≤ _; omega)
            obtain ⟨hp3, hp4⟩ := hp1.turnH hu2 hu3
            have HU := Lib.hid hu1
            have HP3 := Lib.hid hp3
            have HP4 := Lib.hid (((Frm.of_below b HB1.out).trans hp2).trans hp4)
            have y0 : (W1.setCell ⟨b.g, j, none⟩ (.int .i64 (x - n))).cell? ⟨b.s, 1, none⟩ = some (.map (some b.m)) := hp1.c.cell 1
            clear hp1 hp2 hp3 hp4 hu1 hu2 hu3
            go_wp2_with (first
              | ((with_reducible refine wpl_upd none _ _ _ 191 (.tmp 69) (.tmp 70) (.tmp 73) (.map (some b.m)) (.int .u32 (o : Int)) (vH (Hd.p ⟨o, j, n⟩)) w5 ?um ?uk ?uv HU.out ?_); (case um => rfl); (case uk => rfl); (case uv => rfl)))
            go_ret2
            refine ⟨by rw [HVD.out]; rfl, ?_, HP4.out⟩
            rw [bookS_yes HVD.out, HX.out]
            exact HP3.out
          · have e3 : decide (n ≤ x) = false := by simpa using hnx
            go_wp2
            go_round
            case rel =>
              refine ⟨j + 1, by omega, by go_num, fun i hi h => ?_⟩
              by_cases e : i = j
              · subst e; rw [HX.out] at h; exact hnx h.2
              · exact HALL.out i (by omega) h
            case measure => simp [intOf]; omega
        · have e3 : decide (f ≤ (j : Int)) = false := by simpa using hfj
          go_wp2
          go_round
          case rel =>
            refine ⟨j + 1, by omega, by go_num, fun i hi h => ?_⟩
            by_cases e : i = j
            · subst e; exact hfj h.1
            · exact HALL.out i (by omega) h
          case measure => simp [intOf]; omega
      · have hlt2 : decide ((j : Int) < (q.F.length : Int)) = false := by simp; omega
        have HV : Hid (bookD q o f n = none) := Lib.hid (by rw [HVE.out]; exact fday_none.2 fun i hi => HALL.out i (by omega))
        go_wp2
        go_ret2
        exact book_same HV.out HA.out HB1.out

end Go.Proofs.YtpbclmnhkmcknaaGreat.Do

namespace Go.Proofs.YtpbclmnhkmcknaaGreat.Do
open Go.RowKit
set_option maxRecDepth 100000
set_option linter.unusedVariables false
section
variable {P : Program} {ops : Array Oper} {Q : Act → Prop} {w : World}
theorem still_val {o : Oper} {rest : List Oper} {a : Act} (d : Tmp) (v : Value) (hd : o.dst = some d) (hw : Region.wanted o (yielded ops a.tmps) = true) (hy : (execOp a.eval o).run P w = .ok (.value v) w) (h : wpStill P ops w Q rest (a.put (some d) v)) : wpStill P ops w Q (o :: rest) a := by
  unfold wpStill
  rw [if_pos hw]
  unfold Oper.still
  rw [hy]
  exact ⟨rfl, by rw [hd]; exact h⟩
end

end Go.Proofs.YtpbclmnhkmcknaaGreat.Do

namespace Go.Proofs.YtpbclmnhkmcknaaGreat.Do
open Go.RowKit
set_option maxRecDepth 100000
set_option linter.unusedVariables false

/-- Block g is now these cells, all else as before. -/
structure PutW (w w' : World) (g : Nat) (t : TypeId) (cs : Array Value) : Prop where
  lies : Lies w' g t cs
  grown : w.grownBy w' (some g)
  size : w'.heap.size = w.heap.size
end Go.Proofs.YtpbclmnhkmcknaaGreat.Do
