/-
  The contract of move, as Void calls it.
-/
import Derived.Test.YtlgdjmmhdfpfeaaSettle
namespace Go.Proofs.Ytlgdjmmhdfpfeaa
open Go.RowKit
set_option maxRecDepth 100000
set_option linter.unusedVariables false
set_option linter.unusedSimpArgs false

set_option maxHeartbeats 4000000 in
theorem void_mov (b : SB) (q : Ss) (o : Nat) (w : World) (hA : At w b q) (hI : Inv q) (ho : o < 4294967296) (hl : q.H.length ≤ 1000) :
    Calls Try.prog 40 #[.pointer (some ⟨b.s, 0, none⟩), .int .u32 (o : Int), .int .i64 1, .int .i64 3, .func (.func 43) #[] #[]] w (MovPost w b q o 1) := by
  have HA := Lib.hid hA.m
  have HAQ := Lib.hid hA
  have HI := Lib.hid hI
  obtain ⟨c0, c1, c2, c3, c4⟩ := hA.c.cells5
  have r1 := hA.o1.look_ok o ho
  cases hf : findH (stH q.H 1) o with
  | none =>
    have HV : Hid (movV q o 1 = false) := Lib.hid (mov_no hI hf)
    rw [hf] at r1
    dsimp only [Option.getD_none, Option.isSome_none] at r1
    clear hA hI hf
    go_enter Try.func40, Try.ntmps40
    go_wp2
    go_ret
    refine ⟨by rw [HV.out]; rfl, ?_, Frm.of_below b (below1 _ _)⟩
    rw [movS_no HV.out]
    exact HAQ.out.alloc _
  | some y =>
    rw [hf] at r1
    dsimp only [Option.getD_some, Option.isSome_some] at r1
    have hfo := st_some hI hf
    obtain ⟨hys, rfl⟩ := findH_some hf
    obtain ⟨hy, hyt⟩ := mem_stH.1 hys
    obtain ⟨k, hk, hm, hkn⟩ := hI.kn hy
    have HT : Hid (y.t = 1) := Lib.hid hyt
    have HY := Lib.hid hy
    have HFO := Lib.hid hfo
    have HK := Lib.hid hk
    have HM := Lib.hid (And.intro hm hkn)
    have HO := Lib.hid ho
    have HEV : Hid (movV q y.o 1 = true) := Lib.hid (movV_iff.2 ⟨y, hfo, hyt⟩)
    have HYL : Hid (y.n.length ≤ maxLen) := Lib.hid (by have := (hI.kb hy).2; unfold maxLen; omega)
    have HNO : Hid (∀ x ∈ stH q.H 3, x.o ≠ y.o) := Lib.hid (fun x hx e => by
      obtain ⟨h1, h2⟩ := mem_stH.1 hx
      rw [hI.hs.uniq h1 hy e, hyt] at h2
      cases h2)
    have HLN : Hid ((stH q.H 3).length ≤ 1000000) := Lib.hid (by have : (stH q.H 3).length ≤ q.H.length := List.length_filter_le _ _; omega)
    have KB := Lib.hid (hI.kbs hm)
    have YB : Hid (1 ≤ y.k ∧ y.k ≤ 1000000000) := Lib.hid ⟨(hI.hh y hy).1, (hI.kb hy).1⟩
    have HA1 := Lib.hid (HA.out.alloc (.cells #[encStr y.n, .int .i64 y.k] 68))
    obtain ⟨w2, hd1, hd2, hd3⟩ := HA1.out.o1.del (hI.hs.st _) y hys ho 0
    obtain ⟨d0, d1, d2, d3, d4⟩ := HA1.out.c.cells5
    obtain ⟨hA2, hF2⟩ := HA1.out.turn1 hd2 hd3
    have HNM : Hid (¬ b.isMap w.heap.size) := Lib.hid (fun hm => Nat.lt_irrefl _ (HA.out.map_lt hm))
    have HA2 := Lib.hid hA2
    have HF2 := Lib.hid ((Frm.of_below b (below1 w (.cells #[encStr y.n, .int .i64 y.k] 68))).trans hF2)
    have L2 := Lib.hid (hF2.lies (Lies.made w 68 #[encStr y.n, .int .i64 y.k]) HNM.out)
    clear hA hI hf hfo hk hm hkn hy hys hyt hA2 hF2 hd2 hd3 hl HAQ
    go_enter Try.func40, Try.ntmps40
    go_wp2_with fail
    clear r1 hd1 c0 c1 c2 c3 c4 d0 d1 d2 d3 d4
    obtain ⟨w3, hu1, hu2, hu3⟩ := HA2.out.drew.o3.add ⟨y.o, y.n, y.k, 3⟩ HNO.out HO.out HLN.out
    have HU := Lib.hid (And.intro hu1 (And.intro hu2 hu3))
    clear hu1 hu2 hu3
    refine wp_region_noPanic ?_
    refine wp_region_held_drew (S := fun W => Lies W b.s 58 (pcs b) ∧ Lies W w.heap.size 68 #[encStr y.n, .int .i64 y.k]) (by kernel_rfl) ⟨HA2.out.c, L2.out⟩ (fun hH0 => ?_)
    refine any_take 0 36 ?va0 rfl rfl (by kernel_rfl) (by kernel_rfl) (by kernel_rfl) (fun _ _ _ h => h) (by rfl) ?hya0 hH0 ?resta0
    case hya0 => ((intro W hSw); obtain ⟨o0, o1, o2, o3, o4⟩ := Lies.cells5 hSw.1; obtain ⟨p0, p1⟩ := Lies.cells2 hSw.2; go_simp; (try with_reducible rfl))
    try simp only [Act.put, List.setIfInBounds_toArray, List.set_cons_zero, List.set_cons_succ]
    refine any_take 1 37 ?va1 rfl rfl (by kernel_rfl) (by kernel_rfl) (by kernel_rfl) (fun _ _ _ h => h) (by rfl) ?hya1 hH0 ?resta1
    case hya1 => ((intro W hSw); obtain ⟨o0, o1, o2, o3, o4⟩ := Lies.cells5 hSw.1; obtain ⟨p0, p1⟩ := Lies.cells2 hSw.2; go_simp; (try with_reducible rfl))
    try simp only [Act.put, List.setIfInBounds_toArray, List.set_cons_zero, List.set_cons_succ]
    refine any_take 2 38 ?va2 rfl rfl (by kernel_rfl) (by kernel_rfl) (by kernel_rfl) (fun _ _ _ h => h) (by rfl) ?hya2 hH0 ?resta2
    case hya2 => ((intro W hSw); obtain ⟨o0, o1, o2, o3, o4⟩ := Lies.cells5 hSw.1; obtain ⟨p0, p1⟩ := Lies.cells2 hSw.2; go_simp; (try with_reducible rfl))
    try simp only [Act.put, List.setIfInBounds_toArray, List.set_cons_zero, List.set_cons_succ]
    refine any_take 3 39 ?va3 rfl rfl (by kernel_rfl) (by kernel_rfl) (by kernel_rfl) (fun _ _ _ h => h) (by rfl) ?hya3 hH0 ?resta3
    case hya3 => ((intro W hSw); obtain ⟨o0, o1, o2, o3, o4⟩ := Lies.cells5 hSw.1; obtain ⟨p0, p1⟩ := Lies.cells2 hSw.2; go_simp; (try with_reducible rfl))
    try simp only [Act.put, List.setIfInBounds_toArray, List.set_cons_zero, List.set_cons_succ]
    refine any_take 4 40 ?va4 rfl rfl (by kernel_rfl) (by kernel_rfl) (by kernel_rfl) (fun _ _ _ h => h) (by rfl) ?hya4 hH0 ?resta4
    case hya4 => ((intro W hSw); obtain ⟨o0, o1, o2, o3, o4⟩ := Lies.cells5 hSw.1; obtain ⟨p0, p1⟩ := Lies.cells2 hSw.2; go_simp; (try with_reducible rfl))
    try simp only [Act.put, List.setIfInBounds_toArray, List.set_cons_zero, List.set_cons_succ]
    refine any_take 5 41 ?va5 rfl rfl (by kernel_rfl) (by kernel_rfl) (by kernel_rfl) (fun _ _ _ h => h) (by rfl) ?hya5 hH0 ?resta5
    case hya5 => ((intro W hSw); obtain ⟨o0, o1, o2, o3, o4⟩ := Lies.cells5 hSw.1; obtain ⟨p0, p1⟩ := Lies.cells2 hSw.2; go_simp; (try with_reducible rfl))
    try simp only [Act.put, List.setIfInBounds_toArray, List.set_cons_zero, List.set_cons_succ]
    refine any_take 6 42 ?va6 rfl rfl (by kernel_rfl) (by kernel_rfl) (by kernel_rfl) (fun _ _ _ h => h) (by rfl) ?hya6 hH0 ?resta6
    case hya6 => ((intro W hSw); obtain ⟨o0, o1, o2, o3, o4⟩ := Lies.cells5 hSw.1; obtain ⟨p0, p1⟩ := Lies.cells2 hSw.2; go_simp; (try with_reducible rfl))
    try simp only [Act.put, List.setIfInBounds_toArray, List.set_cons_zero, List.set_cons_succ]
    refine any_take 7 43 ?va7 rfl rfl (by kernel_rfl) (by kernel_rfl) (by kernel_rfl) (fun _ _ _ h => h) (by rfl) ?hya7 hH0 ?resta7
    case hya7 => ((intro W hSw); obtain ⟨o0, o1, o2, o3, o4⟩ := Lies.cells5 hSw.1; obtain ⟨p0, p1⟩ := Lies.cells2 hSw.2; go_simp; (try with_reducible rfl))
    try simp only [Act.put, List.setIfInBounds_toArray, List.set_cons_zero, List.set_cons_succ]
    refine wpAnyH_ready (rs := [8]) (by kernel_rfl) (by simp) ?_
    refine AllReadyH.cons rfl (fun K hK => ?_) AllReadyH.nil
    refine stp_upd none _ _ _ 55 (.tmp 41) (.tmp 42) (.tmp 43) (.map (some b.p3)) (.int .u32 (y.o : Int)) (vH ⟨y.o, y.n, y.k, 3⟩) w3 rfl rfl rfl HU.out.1 ?_
    obtain ⟨hA3, hF3⟩ := HA2.out.drew.turn3 HU.out.2.1 HU.out.2.2
    have L3 := Lib.hid (hF3.lies (g := w.heap.size) (t := 68) (w := w2.drew) L2.out HNM.out)
    have HA3 := Lib.hid hA3
    have HF3 := Lib.hid (HF2.out.drew.trans hF3)
    clear hA3 hF3
    refine hK.out _ _ ⟨HA3.out.c, L3.out⟩ (fun hH1 => ?_)
    clear hK K hH0
    try simp only [Act.put, List.setIfInBounds_toArray, List.set_cons_zero, List.set_cons_succ]
    clear hH1
    refine wpAnyH_done (by kernel_rfl) ?_ _
    refine NoPanic.normal ?_
    go_wp2_with fail
    refine wp_region_noPanic ?_
    refine wp_region_held_drew (S := fun W => (Lies W b.s 58 (pcs b) ∧ Lies W w.heap.size 68 #[encStr y.n, .int .i64 y.k]) ∧ OwnK W b.k q.K) (by kernel_rfl) ⟨⟨HA3.out.c, L3.out⟩, HA3.out.ok⟩ (fun hH0 => ?_)
    refine any_take 0 44 ?vb0 rfl rfl (by kernel_rfl) (by kernel_rfl) (by kernel_rfl) (fun _ _ _ h => h) (by rfl) ?hyb0 hH0 ?restb0
    case hyb0 => ((intro W hSw); obtain ⟨o0, o1, o2, o3, o4⟩ := Lies.cells5 hSw.1.1; obtain ⟨p0, p1⟩ := Lies.cells2 hSw.1.2; have lk := hSw.2.look y.n HYL.out; rw [HK.out] at lk; dsimp only [Option.getD_some] at lk; go_simp; (try with_reducible rfl))
    try simp only [Act.put, List.setIfInBounds_toArray, List.set_cons_zero, List.set_cons_succ]
    refine any_take 1 45 ?vb1 rfl rfl (by kernel_rfl) (by kernel_rfl) (by kernel_rfl) (fun _ _ _ h => h) (by rfl) ?hyb1 hH0 ?restb1
    case hyb1 => ((intro W hSw); obtain ⟨o0, o1, o2, o3, o4⟩ := Lies.cells5 hSw.1.1; obtain ⟨p0, p1⟩ := Lies.cells2 hSw.1.2; have lk := hSw.2.look y.n HYL.out; rw [HK.out] at lk; dsimp only [Option.getD_some] at lk; go_simp; (try with_reducible rfl))
    try simp only [Act.put, List.setIfInBounds_toArray, List.set_cons_zero, List.set_cons_succ]
    refine any_take 2 46 ?vb2 rfl rfl (by kernel_rfl) (by kernel_rfl) (by kernel_rfl) (fun _ _ _ h => h) (by rfl) ?hyb2 hH0 ?restb2
    case hyb2 => ((intro W hSw); obtain ⟨o0, o1, o2, o3, o4⟩ := Lies.cells5 hSw.1.1; obtain ⟨p0, p1⟩ := Lies.cells2 hSw.1.2; have lk := hSw.2.look y.n HYL.out; rw [HK.out] at lk; dsimp only [Option.getD_some] at lk; go_simp; (try with_reducible rfl))
    try simp only [Act.put, List.setIfInBounds_toArray, List.set_cons_zero, List.set_cons_succ]
    refine any_take 3 47 ?vb3 rfl rfl (by kernel_rfl) (by kernel_rfl) (by kernel_rfl) (fun _ _ _ h => h) (by rfl) ?hyb3 hH0 ?restb3
    case hyb3 => ((intro W hSw); obtain ⟨o0, o1, o2, o3, o4⟩ := Lies.cells5 hSw.1.1; obtain ⟨p0, p1⟩ := Lies.cells2 hSw.1.2; have lk := hSw.2.look y.n HYL.out; rw [HK.out] at lk; dsimp only [Option.getD_some] at lk; go_simp; (try with_reducible rfl))
    try simp only [Act.put, List.setIfInBounds_toArray, List.set_cons_zero, List.set_cons_succ]
    refine any_take 4 48 ?vb4 rfl rfl (by kernel_rfl) (by kernel_rfl) (by kernel_rfl) (fun _ _ _ h => h) (by rfl) ?hyb4 hH0 ?restb4
    case hyb4 => ((intro W hSw); obtain ⟨o0, o1, o2, o3, o4⟩ := Lies.cells5 hSw.1.1; obtain ⟨p0, p1⟩ := Lies.cells2 hSw.1.2; have lk := hSw.2.look y.n HYL.out; rw [HK.out] at lk; dsimp only [Option.getD_some] at lk; go_simp; (try with_reducible rfl))
    try simp only [Act.put, List.setIfInBounds_toArray, List.set_cons_zero, List.set_cons_succ]
    refine any_take 5 49 ?vb5 rfl rfl (by kernel_rfl) (by kernel_rfl) (by kernel_rfl) (fun _ _ _ h => h) (by rfl) ?hyb5 hH0 ?restb5
    case hyb5 => ((intro W hSw); obtain ⟨o0, o1, o2, o3, o4⟩ := Lies.cells5 hSw.1.1; obtain ⟨p0, p1⟩ := Lies.cells2 hSw.1.2; have lk := hSw.2.look y.n HYL.out; rw [HK.out] at lk; dsimp only [Option.getD_some] at lk; go_simp; (try with_reducible rfl))
    try simp only [Act.put, List.setIfInBounds_toArray, List.set_cons_zero, List.set_cons_succ]
    refine any_take 6 50 ?vb6 rfl rfl (by kernel_rfl) (by kernel_rfl) (by kernel_rfl) (fun _ _ _ h => h) (by rfl) ?hyb6 hH0 ?restb6
    case hyb6 => ((intro W hSw); obtain ⟨o0, o1, o2, o3, o4⟩ := Lies.cells5 hSw.1.1; obtain ⟨p0, p1⟩ := Lies.cells2 hSw.1.2; have lk := hSw.2.look y.n HYL.out; rw [HK.out] at lk; dsimp only [Option.getD_some] at lk; go_simp; (try with_reducible rfl))
    try simp only [Act.put, List.setIfInBounds_toArray, List.set_cons_zero, List.set_cons_succ]
    refine wpAnyH_ready (rs := [7]) (by kernel_rfl) (by simp) ?_
    refine AllReadyH.cons rfl (fun K hK => ?_) AllReadyH.nil
    go_simp
    refine hK.out _ _ ⟨⟨(HA3.out.drew.alloc _).c, Lies.alloc (w := w3.drew) L3.out _⟩, (HA3.out.drew.alloc _).ok⟩ (fun hH1 => ?_)
    clear hK K hH0
    try simp only [Act.put, List.setIfInBounds_toArray, List.set_cons_zero, List.set_cons_succ]
    refine wpAnyH_ready (rs := [8]) (by kernel_rfl) (by simp) ?_
    refine AllReadyH.cons rfl (fun K hK => ?_) AllReadyH.nil
    go_simp
    refine hK.out _ _ ⟨⟨(HA3.out.drew.alloc _).c, Lies.alloc (w := w3.drew) L3.out _⟩, (HA3.out.drew.alloc _).ok⟩ (fun hH2 => ?_)
    clear hK K hH1
    try simp only [Act.put, List.setIfInBounds_toArray, List.set_cons_zero, List.set_cons_succ]
    clear hH2
    refine wpAnyH_done (by kernel_rfl) ?_ _
    refine NoPanic.normal ?_
    obtain ⟨W4, hW4⟩ : ∃ W4, W4 = (w3.alloc (.cells #[encStr k.n, .int .i64 k.m, .int .i64 k.h] 46)).drew := ⟨_, rfl⟩
    rw [← hW4]
    have HA4 : Hid (AtM W4 b q.K (delH (stH q.H 1) y.o) (stH q.H 2) (insH ⟨y.o, y.n, y.k, 3⟩ (stH q.H 3))) := Lib.hid (by rw [hW4]; exact (HA3.out.alloc _).drew)
    have L4 : Hid (Lies W4 w.heap.size 68 #[encStr y.n, .int .i64 y.k]) := Lib.hid (by rw [hW4]; exact Lies.alloc (w := w3) L3.out _)
    have M4 : Hid (Lies W4 w3.heap.size 46 #[encStr k.n, .int .i64 k.m, .int .i64 k.h]) := Lib.hid (by rw [hW4]; exact Lies.made w3 _ _)
    have HF4 : Hid (Frm w W4 b) := Lib.hid (by rw [hW4]; exact (HF3.out.alloc _).drew)
    have HNE : Hid (w3.heap.size ≠ w.heap.size ∧ w3.heap.size ≠ b.s ∧ w.heap.size ≤ w3.heap.size) := Lib.hid ⟨Nat.ne_of_gt L3.out.lt, Nat.ne_of_gt HA3.out.c.lt, HF3.out.size⟩
    have HNM2 : Hid (¬ b.isMap w3.heap.size) := Lib.hid (fun hm => Nat.lt_irrefl _ (HA3.out.map_lt hm))
    clear hW4
    obtain ⟨q0, q1⟩ := L4.out.cells2
    go_wp2_with fail
    with_reducible refine (settle1_any w3.heap.size k y.k W4 M4.out KB.out YB.out).mono ?_
    rintro e w5 ⟨rfl, hp⟩
    have HA5 := Lib.hid (HA4.out.put hp M4.out HNE.out.2.1)
    have L5 := Lib.hid (hp.lies_other L4.out (Ne.symm HNE.out.1))
    have M5 := Lib.hid hp.lies
    have HF5 := Lib.hid (HF4.out.put hp HNE.out.2.2)
    clear hp q0 q1
    go_wp2_with fail
    obtain ⟨w6, hu1, hu2, hu3⟩ := HA5.out.drew.ok.upd HI.out.ks ⟨k.n, k.m, k.h - y.k⟩ k HM.out.1 rfl (by show k.n.length ≤ _; rw [HM.out.2]; exact HYL.out) (by have := HI.out.kz; show q.K.length ≤ _; omega)
    have HU2 := Lib.hid (And.intro hu1 (And.intro hu2 hu3))
    clear hu1 hu2 hu3
    refine wp_region_noPanic ?_
    refine wp_region_held_drew (S := fun W => (Lies W b.s 58 (pcs b) ∧ Lies W w.heap.size 68 #[encStr y.n, .int .i64 y.k]) ∧ Lies W w3.heap.size 46 #[encStr k.n, .int .i64 k.m, .int .i64 (k.h - y.k)]) (by kernel_rfl) ⟨⟨HA5.out.c, L5.out⟩, M5.out⟩ (fun hH0 => ?_)
    refine any_take 0 55 ?vc0 rfl rfl (by kernel_rfl) (by kernel_rfl) (by kernel_rfl) (fun _ _ _ h => h) (by rfl) ?hyc0 hH0 ?restc0
    case hyc0 => ((intro W hSw); obtain ⟨o0, o1, o2, o3, o4⟩ := Lies.cells5 hSw.1.1; obtain ⟨p0, p1⟩ := Lies.cells2 hSw.1.2; obtain ⟨m0, m1, m2⟩ := Lies.cells3 hSw.2; go_simp; (try with_reducible rfl))
    try simp only [Act.put, List.setIfInBounds_toArray, List.set_cons_zero, List.set_cons_succ]
    refine any_take 1 56 ?vc1 rfl rfl (by kernel_rfl) (by kernel_rfl) (by kernel_rfl) (fun _ _ _ h => h) (by rfl) ?hyc1 hH0 ?restc1
    case hyc1 => ((intro W hSw); obtain ⟨o0, o1, o2, o3, o4⟩ := Lies.cells5 hSw.1.1; obtain ⟨p0, p1⟩ := Lies.cells2 hSw.1.2; obtain ⟨m0, m1, m2⟩ := Lies.cells3 hSw.2; go_simp; (try with_reducible rfl))
    try simp only [Act.put, List.setIfInBounds_toArray, List.set_cons_zero, List.set_cons_succ]
    refine any_take 2 57 ?vc2 rfl rfl (by kernel_rfl) (by kernel_rfl) (by kernel_rfl) (fun _ _ _ h => h) (by rfl) ?hyc2 hH0 ?restc2
    case hyc2 => ((intro W hSw); obtain ⟨o0, o1, o2, o3, o4⟩ := Lies.cells5 hSw.1.1; obtain ⟨p0, p1⟩ := Lies.cells2 hSw.1.2; obtain ⟨m0, m1, m2⟩ := Lies.cells3 hSw.2; go_simp; (try with_reducible rfl))
    try simp only [Act.put, List.setIfInBounds_toArray, List.set_cons_zero, List.set_cons_succ]
    refine any_take 3 58 ?vc3 rfl rfl (by kernel_rfl) (by kernel_rfl) (by kernel_rfl) (fun _ _ _ h => h) (by rfl) ?hyc3 hH0 ?restc3
    case hyc3 => ((intro W hSw); obtain ⟨o0, o1, o2, o3, o4⟩ := Lies.cells5 hSw.1.1; obtain ⟨p0, p1⟩ := Lies.cells2 hSw.1.2; obtain ⟨m0, m1, m2⟩ := Lies.cells3 hSw.2; go_simp; (try with_reducible rfl))
    try simp only [Act.put, List.setIfInBounds_toArray, List.set_cons_zero, List.set_cons_succ]
    refine any_take 4 59 ?vc4 rfl rfl (by kernel_rfl) (by kernel_rfl) (by kernel_rfl) (fun _ _ _ h => h) (by rfl) ?hyc4 hH0 ?restc4
    case hyc4 => ((intro W hSw); obtain ⟨o0, o1, o2, o3, o4⟩ := Lies.cells5 hSw.1.1; obtain ⟨p0, p1⟩ := Lies.cells2 hSw.1.2; obtain ⟨m0, m1, m2⟩ := Lies.cells3 hSw.2; go_simp; (try with_reducible rfl))
    try simp only [Act.put, List.setIfInBounds_toArray, List.set_cons_zero, List.set_cons_succ]
    refine any_take 5 60 ?vc5 rfl rfl (by kernel_rfl) (by kernel_rfl) (by kernel_rfl) (fun _ _ _ h => h) (by rfl) ?hyc5 hH0 ?restc5
    case hyc5 => ((intro W hSw); obtain ⟨o0, o1, o2, o3, o4⟩ := Lies.cells5 hSw.1.1; obtain ⟨p0, p1⟩ := Lies.cells2 hSw.1.2; obtain ⟨m0, m1, m2⟩ := Lies.cells3 hSw.2; go_simp; (try with_reducible rfl))
    try simp only [Act.put, List.setIfInBounds_toArray, List.set_cons_zero, List.set_cons_succ]
    refine any_take 6 61 ?vc6 rfl rfl (by kernel_rfl) (by kernel_rfl) (by kernel_rfl) (fun _ _ _ h => h) (by rfl) ?hyc6 hH0 ?restc6
    case hyc6 => ((intro W hSw); obtain ⟨o0, o1, o2, o3, o4⟩ := Lies.cells5 hSw.1.1; obtain ⟨p0, p1⟩ := Lies.cells2 hSw.1.2; obtain ⟨m0, m1, m2⟩ := Lies.cells3 hSw.2; go_simp; (try with_reducible rfl))
    try simp only [Act.put, List.setIfInBounds_toArray, List.set_cons_zero, List.set_cons_succ]
    refine wpAnyH_ready (rs := [7]) (by kernel_rfl) (by simp) ?_
    refine AllReadyH.cons rfl (fun K hK => ?_) AllReadyH.nil
    refine stp_upd none _ _ _ 54 (.tmp 58) (.tmp 60) (.tmp 61) (.map (some b.k)) (encStr y.n) (vK ⟨k.n, k.m, k.h - y.k⟩) w6 rfl rfl rfl (by rw [← HM.out.2]; exact HU2.out.1) ?_
    obtain ⟨hA6, hF6⟩ := HA5.out.drew.turnK HU2.out.2.1 HU2.out.2.2
    have L6 := hF6.lies (w := w5.drew) L5.out HNM.out
    have M6 := hF6.lies (w := w5.drew) M5.out HNM2.out
    have HA6 := Lib.hid hA6
    have HF6 := Lib.hid (HF5.out.drew.trans hF6)
    refine hK.out _ _ ⟨⟨hA6.c, L6⟩, M6⟩ (fun hH1 => ?_)
    clear hA6 hF6 L6 M6 hK K hH0
    try simp only [Act.put, List.setIfInBounds_toArray, List.set_cons_zero, List.set_cons_succ]
    clear hH1
    refine wpAnyH_done (by kernel_rfl) ?_ _
    refine NoPanic.normal ?_
    go_wp2
    go_ret
    refine ⟨by rw [HEV.out]; rfl, ?_, HF6.out⟩
    rw [movS_yes (c := 1) HFO.out HT.out HK.out]
    exact HA6.out.at (by rw [← HT.out]; exact stH_set_from HI.out.hs HY.out (by rw [HT.out]; decide)) (stH_set_other HI.out.hs HY.out (by decide) (by rw [HT.out]; decide)) (stH_set_to HI.out.hs HY.out (by rw [HT.out]; decide))

end Go.Proofs.Ytlgdjmmhdfpfeaa
