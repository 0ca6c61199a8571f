/-
  The contract of the end of a hold by shipping.
-/
import Derived.Test.YtimoobhnhldgbaaEndF
namespace Go.Proofs.Ytimoobhnhldgbaa
open Go.RowKit
set_option maxRecDepth 100000
set_option linter.unusedVariables false
set_option linter.unusedSimpArgs false

set_option maxHeartbeats 4000000 in
theorem ship_end (b : SB) (q : Ss) (o : Nat) (w : World) (hA : At w b q) (hI : Inv q) (ho : o < 4294967296) :
    Calls Try.prog 37 #[.pointer (some ⟨b.s, 0, none⟩), .int .u32 (o : Int), .int .i64 1] w (EndPost w b q o true) := by
  have HA := Lib.hid hA
  have HI := Lib.hid hI
  obtain ⟨c0, c1⟩ := hA.c.cells2
  have r1 := hA.oh.look_ok o ho
  cases hf : findH q.H o with
  | none =>
    have HF := Lib.hid hf
    rw [hf] at r1
    dsimp only [Option.getD_none, Option.isSome_none] at r1
    clear hA hI hf c0
    go_enter Try.func37, Try.ntmps37
    go_wp2
    go_ret
    refine ⟨by unfold endV; rw [HF.out]; rfl, ?_, Frm.of_below b (below1 _ _)⟩
    rw [endS_no HF.out]
    exact HA.out.alloc _
  | some y =>
    rw [hf] at r1
    dsimp only [Option.getD_some, Option.isSome_some] at r1
    obtain ⟨hy, rfl⟩ := findH_some hf
    obtain ⟨k, hk, hm, hkn⟩ := hI.kn hy
    have HFO := Lib.hid hf
    have HK := Lib.hid hk
    have HM := Lib.hid (And.intro hm hkn)
    have HEV : Hid (endV q y.o = true) := Lib.hid (by unfold endV; rw [hf]; rfl)
    have HYL : Hid (y.n.length ≤ maxLen) := Lib.hid (by have := (hI.kb hy).2; unfold maxLen; omega)
    have hb1 : 1 ≤ y.k := (hI.hh y hy).1
    have hb2 : y.k ≤ 1000000 := (hI.kb hy).1
    have hb3 : 0 ≤ k.f ∧ 0 ≤ k.g ∧ k.f ≤ 1000000 ∧ k.g ≤ 1000000 := by
      have h1 := hI.kf k hm
      have h2 := held_nonneg (fun z hz => (hI.hh z hz).1) k.n
      omega
    obtain ⟨hb4, hb5, hb6, hb7⟩ := hb3
    have HA1 := Lib.hid (hA.alloc (.cells #[encStr y.n, .int .i64 y.k] 70))
    obtain ⟨w2, hd1, hd2, hd3⟩ := HA1.out.oh.del hI.hs y hy ho 0
    obtain ⟨d0, d1⟩ := HA1.out.c.cells2
    obtain ⟨hA2, hF2⟩ := HA1.out.turnH hd2 hd3
    have HA2 := Lib.hid hA2
    have HF2 := Lib.hid ((Frm.of_below b (below1 w (.cells #[encStr y.n, .int .i64 y.k] 70))).trans hF2)
    have L2 := Lib.hid (hF2.lies (Lies.made w 70 #[encStr y.n, .int .i64 y.k]) (Nat.ne_of_gt hA.ok.lt) (Nat.ne_of_gt hA.oh.lt))
    have HNE : Hid (w.heap.size ≠ w2.heap.size ∧ b.s ≠ w2.heap.size) := Lib.hid ⟨Nat.ne_of_lt L2.out.lt, Nat.ne_of_lt hA2.c.lt⟩
    have HNK : Hid (w.heap.size ≠ b.k ∧ w.heap.size ≠ b.h ∧ w2.heap.size ≠ b.k ∧ w2.heap.size ≠ b.h) := Lib.hid ⟨Nat.ne_of_gt hA.ok.lt, Nat.ne_of_gt hA.oh.lt, Nat.ne_of_gt hA2.ok.lt, Nat.ne_of_gt hA2.oh.lt⟩
    clear hA hI hf hk hm hkn hy hA2 hF2 hd2 hd3 c0
    go_enter Try.func37, Try.ntmps37
    go_wp2_with fail
    clear r1 hd1 c1 d0 d1
    refine wp_region_noPanic ?_
    refine wp_region_held_drew (S := fun W => (Lies W b.s 57 #[.map (some b.k), .map (some b.h)] ∧ Lies W w.heap.size 70 #[encStr y.n, .int .i64 y.k]) ∧ OwnK W b.k q.K) (by kernel_rfl) ⟨⟨HA2.out.c, L2.out⟩, HA2.out.ok⟩ (fun hH0 => ?_)
    refine any_take 0 28 ?va0 rfl rfl (by kernel_rfl) (by kernel_rfl) (by kernel_rfl) (fun _ _ _ h => h) (by rfl) ?hya0 hH0 ?resta0
    case hya0 => ((intro W hSw); obtain ⟨o0, o1⟩ := Lies.cells2 hSw.1.1; obtain ⟨p0, p1⟩ := Lies.cells2 hSw.1.2; have lk := hSw.2.look y.n HYL.out; rw [HK.out] at lk; dsimp only [Option.getD_some] at lk; go_simp; (try with_reducible rfl))
    try simp only [Act.put, List.setIfInBounds_toArray, List.set_cons_zero, List.set_cons_succ]
    refine any_take 1 29 ?va1 rfl rfl (by kernel_rfl) (by kernel_rfl) (by kernel_rfl) (fun _ _ _ h => h) (by rfl) ?hya1 hH0 ?resta1
    case hya1 => ((intro W hSw); obtain ⟨o0, o1⟩ := Lies.cells2 hSw.1.1; obtain ⟨p0, p1⟩ := Lies.cells2 hSw.1.2; have lk := hSw.2.look y.n HYL.out; rw [HK.out] at lk; dsimp only [Option.getD_some] at lk; go_simp; (try with_reducible rfl))
    try simp only [Act.put, List.setIfInBounds_toArray, List.set_cons_zero, List.set_cons_succ]
    refine any_take 2 30 ?va2 rfl rfl (by kernel_rfl) (by kernel_rfl) (by kernel_rfl) (fun _ _ _ h => h) (by rfl) ?hya2 hH0 ?resta2
    case hya2 => ((intro W hSw); obtain ⟨o0, o1⟩ := Lies.cells2 hSw.1.1; obtain ⟨p0, p1⟩ := Lies.cells2 hSw.1.2; have lk := hSw.2.look y.n HYL.out; rw [HK.out] at lk; dsimp only [Option.getD_some] at lk; go_simp; (try with_reducible rfl))
    try simp only [Act.put, List.setIfInBounds_toArray, List.set_cons_zero, List.set_cons_succ]
    refine any_take 3 31 ?va3 rfl rfl (by kernel_rfl) (by kernel_rfl) (by kernel_rfl) (fun _ _ _ h => h) (by rfl) ?hya3 hH0 ?resta3
    case hya3 => ((intro W hSw); obtain ⟨o0, o1⟩ := Lies.cells2 hSw.1.1; obtain ⟨p0, p1⟩ := Lies.cells2 hSw.1.2; have lk := hSw.2.look y.n HYL.out; rw [HK.out] at lk; dsimp only [Option.getD_some] at lk; go_simp; (try with_reducible rfl))
    try simp only [Act.put, List.setIfInBounds_toArray, List.set_cons_zero, List.set_cons_succ]
    refine any_take 4 32 ?va4 rfl rfl (by kernel_rfl) (by kernel_rfl) (by kernel_rfl) (fun _ _ _ h => h) (by rfl) ?hya4 hH0 ?resta4
    case hya4 => ((intro W hSw); obtain ⟨o0, o1⟩ := Lies.cells2 hSw.1.1; obtain ⟨p0, p1⟩ := Lies.cells2 hSw.1.2; have lk := hSw.2.look y.n HYL.out; rw [HK.out] at lk; dsimp only [Option.getD_some] at lk; go_simp; (try with_reducible rfl))
    try simp only [Act.put, List.setIfInBounds_toArray, List.set_cons_zero, List.set_cons_succ]
    refine any_take 5 33 ?va5 rfl rfl (by kernel_rfl) (by kernel_rfl) (by kernel_rfl) (fun _ _ _ h => h) (by rfl) ?hya5 hH0 ?resta5
    case hya5 => ((intro W hSw); obtain ⟨o0, o1⟩ := Lies.cells2 hSw.1.1; obtain ⟨p0, p1⟩ := Lies.cells2 hSw.1.2; have lk := hSw.2.look y.n HYL.out; rw [HK.out] at lk; dsimp only [Option.getD_some] at lk; go_simp; (try with_reducible rfl))
    try simp only [Act.put, List.setIfInBounds_toArray, List.set_cons_zero, List.set_cons_succ]
    refine any_take 6 34 ?va6 rfl rfl (by kernel_rfl) (by kernel_rfl) (by kernel_rfl) (fun _ _ _ h => h) (by rfl) ?hya6 hH0 ?resta6
    case hya6 => ((intro W hSw); obtain ⟨o0, o1⟩ := Lies.cells2 hSw.1.1; obtain ⟨p0, p1⟩ := Lies.cells2 hSw.1.2; have lk := hSw.2.look y.n HYL.out; rw [HK.out] at lk; dsimp only [Option.getD_some] at lk; go_simp; (try with_reducible rfl))
    try simp only [Act.put, List.setIfInBounds_toArray, List.set_cons_zero, List.set_cons_succ]
    refine wpAnyH_ready (rs := [7]) (by kernel_rfl) (by simp) ?_
    refine AllReadyH.cons rfl (fun K hK => ?_) AllReadyH.nil
    go_simp
    refine hK.out _ _ ⟨⟨(HA2.out.drew.alloc _).c, Lies.alloc (w := w2.drew) L2.out _⟩, (HA2.out.drew.alloc _).ok⟩ (fun hH1 => ?_)
    clear hK K hH0
    try simp only [Act.put, List.setIfInBounds_toArray, List.set_cons_zero, List.set_cons_succ]
    refine wpAnyH_ready (rs := [8]) (by kernel_rfl) (by simp) ?_
    refine AllReadyH.cons rfl (fun K hK => ?_) AllReadyH.nil
    go_simp
    refine hK.out _ _ ⟨⟨(HA2.out.drew.alloc _).c, Lies.alloc (w := w2.drew) L2.out _⟩, (HA2.out.drew.alloc _).ok⟩ (fun hH2 => ?_)
    clear hK K hH1
    try simp only [Act.put, List.setIfInBounds_toArray, List.set_cons_zero, List.set_cons_succ]
    clear hH2
    refine wpAnyH_done (by kernel_rfl) ?_ _
    refine NoPanic.normal ?_
    obtain ⟨W3, hW3⟩ : ∃ W3, W3 = (w2.alloc (.cells #[encStr k.n, .int .i64 k.f, .int .i64 k.g] 60)).drew := ⟨_, rfl⟩
    rw [← hW3]
    have HA3 : Hid (At W3 b ⟨q.K, delH q.H y.o⟩) := Lib.hid (by rw [hW3]; exact (HA2.out.alloc _).drew)
    have L3 : Hid (Lies W3 w.heap.size 70 #[encStr y.n, .int .i64 y.k]) := Lib.hid (by rw [hW3]; exact Lies.alloc (w := w2) L2.out _)
    have M3 : Hid (Lies W3 w2.heap.size 60 #[encStr k.n, .int .i64 k.f, .int .i64 k.g]) := Lib.hid (by rw [hW3]; exact Lies.made w2 _ _)
    have HF3 : Hid (Frm w W3 b) := Lib.hid (by rw [hW3]; exact (HF2.out.alloc _).drew)
    clear hW3
    go_wp2_with fail
    have ew : IntKind.i64.wrap (k.g + y.k) = k.g + y.k := IntWalk.i64_in _ (by omega)
    obtain ⟨m0, m1, m2⟩ := Lies.cells3 M3.out
    obtain ⟨mf0, mf1, mf2⟩ := Lies.free3 M3.out
    refine wp_region_noPanic ?_
    refine wp_region_held_drew (S := fun W => Lies W b.s 57 #[.map (some b.k), .map (some b.h)] ∧ Lies W w.heap.size 70 #[encStr y.n, .int .i64 y.k]) (by kernel_rfl) ⟨HA3.out.c, L3.out⟩ (fun hH0 => ?_)
    refine any_take 0 35 ?vb0 rfl rfl (by kernel_rfl) (by kernel_rfl) (by kernel_rfl) (fun _ _ _ h => h) (by rfl) ?hyb0 hH0 ?restb0
    case hyb0 => ((intro W hSw); obtain ⟨o0, o1⟩ := Lies.cells2 hSw.1; obtain ⟨p0, p1⟩ := Lies.cells2 hSw.2; go_simp; (try with_reducible rfl))
    try simp only [Act.put, List.setIfInBounds_toArray, List.set_cons_zero, List.set_cons_succ]
    refine any_take 1 36 ?vb1 rfl rfl (by kernel_rfl) (by kernel_rfl) (by kernel_rfl) (fun _ _ _ h => h) (by rfl) ?hyb1 hH0 ?restb1
    case hyb1 => ((intro W hSw); obtain ⟨o0, o1⟩ := Lies.cells2 hSw.1; obtain ⟨p0, p1⟩ := Lies.cells2 hSw.2; go_simp; (try with_reducible rfl))
    try simp only [Act.put, List.setIfInBounds_toArray, List.set_cons_zero, List.set_cons_succ]
    refine any_take 2 37 ?vb2 rfl rfl (by kernel_rfl) (by kernel_rfl) (by kernel_rfl) (fun _ _ _ h => h) (by rfl) ?hyb2 hH0 ?restb2
    case hyb2 => ((intro W hSw); obtain ⟨o0, o1⟩ := Lies.cells2 hSw.1; obtain ⟨p0, p1⟩ := Lies.cells2 hSw.2; go_simp; (try with_reducible rfl))
    try simp only [Act.put, List.setIfInBounds_toArray, List.set_cons_zero, List.set_cons_succ]
    refine any_take 4 39 ?vb4 rfl rfl (by kernel_rfl) (by kernel_rfl) (by kernel_rfl) (fun _ _ _ h => h) (by rfl) ?hyb4 hH0 ?restb4
    case hyb4 => ((intro W hSw); obtain ⟨o0, o1⟩ := Lies.cells2 hSw.1; obtain ⟨p0, p1⟩ := Lies.cells2 hSw.2; go_simp; (try with_reducible rfl))
    try simp only [Act.put, List.setIfInBounds_toArray, List.set_cons_zero, List.set_cons_succ]
    refine any_take 5 40 ?vb5 rfl rfl (by kernel_rfl) (by kernel_rfl) (by kernel_rfl) (fun _ _ _ h => h) (by rfl) ?hyb5 hH0 ?restb5
    case hyb5 => ((intro W hSw); obtain ⟨o0, o1⟩ := Lies.cells2 hSw.1; obtain ⟨p0, p1⟩ := Lies.cells2 hSw.2; go_simp; (try with_reducible rfl))
    try simp only [Act.put, List.setIfInBounds_toArray, List.set_cons_zero, List.set_cons_succ]
    refine any_take 7 42 ?vb7 rfl rfl (by kernel_rfl) (by kernel_rfl) (by kernel_rfl) (fun _ _ _ h => h) (by rfl) ?hyb7 hH0 ?restb7
    case hyb7 => ((intro W hSw); obtain ⟨o0, o1⟩ := Lies.cells2 hSw.1; obtain ⟨p0, p1⟩ := Lies.cells2 hSw.2; go_simp; (try with_reducible rfl))
    try simp only [Act.put, List.setIfInBounds_toArray, List.set_cons_zero, List.set_cons_succ]
    refine wpAnyH_ready (rs := [3]) (by kernel_rfl) (by simp) ?_
    refine AllReadyH.cons rfl (fun K hK => ?_) AllReadyH.nil
    go_simp
    refine hK.out _ _ ⟨HA3.out.drew.c, L3.out⟩ (fun hH1 => ?_)
    clear hK K hH0
    try simp only [Act.put, List.setIfInBounds_toArray, List.set_cons_zero, List.set_cons_succ]
    refine any_take 6 41 ?vb6 rfl rfl (by kernel_rfl) (by kernel_rfl) (by kernel_rfl) (fun _ _ _ h => h) (by rfl) ?hyb6 hH1 ?restb6
    case hyb6 => ((intro W hSw); obtain ⟨o0, o1⟩ := Lies.cells2 hSw.1; obtain ⟨p0, p1⟩ := Lies.cells2 hSw.2; go_simp; (try with_reducible rfl))
    try simp only [Act.put, List.setIfInBounds_toArray, List.set_cons_zero, List.set_cons_succ]
    refine any_take 8 43 ?vb8 rfl rfl (by kernel_rfl) (by kernel_rfl) (by kernel_rfl) (fun _ _ _ h => h) (by rfl) ?hyb8 hH1 ?restb8
    case hyb8 => ((intro W hSw); obtain ⟨o0, o1⟩ := Lies.cells2 hSw.1; obtain ⟨p0, p1⟩ := Lies.cells2 hSw.2; go_simp; (try with_reducible rfl))
    try simp only [Act.put, List.setIfInBounds_toArray, List.set_cons_zero, List.set_cons_succ]
    refine wpAnyH_ready (rs := [9]) (by kernel_rfl) (by simp) ?_
    refine AllReadyH.cons rfl (fun K hK => ?_) AllReadyH.nil
    go_simp
    refine hK.out _ _ ⟨HA3.out.c.other (a := ⟨w2.heap.size, 2, none⟩) HNE.out.2 (.int .i64 (k.g + y.k)), L3.out.other (a := ⟨w2.heap.size, 2, none⟩) HNE.out.1 (.int .i64 (k.g + y.k))⟩ (fun hH2 => ?_)
    clear hK K hH1
    try simp only [Act.put, List.setIfInBounds_toArray, List.set_cons_zero, List.set_cons_succ]
    clear hH2
    refine wpAnyH_done (by kernel_rfl) ?_ _
    refine NoPanic.normal ?_
    obtain ⟨W4, hW4⟩ : ∃ W4, W4 = (W3.setCell ⟨w2.heap.size, 2, none⟩ (.int .i64 (k.g + y.k))).drew := ⟨_, rfl⟩
    rw [← hW4]
    have HA4 : Hid (At W4 b ⟨q.K, delH q.H y.o⟩) := Lib.hid (by rw [hW4]; exact (HA3.out.setCell (w := W3) M3.out (Ne.symm HNE.out.2) _ _).drew)
    have L4 : Hid (Lies W4 w.heap.size 70 #[encStr y.n, .int .i64 y.k]) := Lib.hid (by rw [hW4]; exact Lies.other (w := W3) L3.out HNE.out.1 _)
    have M4 : Hid (Lies W4 w2.heap.size 60 #[encStr k.n, .int .i64 k.f, .int .i64 (k.g + y.k)]) := Lib.hid (by rw [hW4]; exact Lies.put (w := W3) M3.out 2 _)
    have HF4 : Hid (Frm w W4 b) := Lib.hid (by rw [hW4]; exact (frm_set HF3.out (by have := HF2.out.size; omega) _ _).drew)
    clear hW4 ew m0 m1 m2 mf0 mf1 mf2
    go_wp2_with fail
    obtain ⟨w5, hu1, hu2, hu3⟩ := HA4.out.drew.ok.upd HI.out.ks ⟨k.n, k.f, k.g + y.k⟩ k HM.out.1 rfl (by show k.n.length ≤ _; rw [HM.out.2]; exact HYL.out) (by have := HI.out.kz; show q.K.length ≤ _; omega)
    have HU := Lib.hid (And.intro hu1 (And.intro hu2 hu3))
    clear hu1 hu2 hu3
    refine wp_region_noPanic ?_
    refine wp_region_held_drew (S := fun W => (Lies W b.s 57 #[.map (some b.k), .map (some b.h)] ∧ Lies W w.heap.size 70 #[encStr y.n, .int .i64 y.k]) ∧ Lies W w2.heap.size 60 #[encStr k.n, .int .i64 k.f, .int .i64 (k.g + y.k)]) (by kernel_rfl) ⟨⟨HA4.out.c, L4.out⟩, M4.out⟩ (fun hH0 => ?_)
    refine any_take 0 44 ?vc0 rfl rfl (by kernel_rfl) (by kernel_rfl) (by kernel_rfl) (fun _ _ _ h => h) (by rfl) ?hyc0 hH0 ?restc0
    case hyc0 => ((intro W hSw); obtain ⟨o0, o1⟩ := Lies.cells2 hSw.1.1; obtain ⟨p0, p1⟩ := Lies.cells2 hSw.1.2; obtain ⟨m0, m1, m2⟩ := Lies.cells3 hSw.2; go_simp; (try with_reducible rfl))
    try simp only [Act.put, List.setIfInBounds_toArray, List.set_cons_zero, List.set_cons_succ]
    refine any_take 1 45 ?vc1 rfl rfl (by kernel_rfl) (by kernel_rfl) (by kernel_rfl) (fun _ _ _ h => h) (by rfl) ?hyc1 hH0 ?restc1
    case hyc1 => ((intro W hSw); obtain ⟨o0, o1⟩ := Lies.cells2 hSw.1.1; obtain ⟨p0, p1⟩ := Lies.cells2 hSw.1.2; obtain ⟨m0, m1, m2⟩ := Lies.cells3 hSw.2; go_simp; (try with_reducible rfl))
    try simp only [Act.put, List.setIfInBounds_toArray, List.set_cons_zero, List.set_cons_succ]
    refine any_take 2 46 ?vc2 rfl rfl (by kernel_rfl) (by kernel_rfl) (by kernel_rfl) (fun _ _ _ h => h) (by rfl) ?hyc2 hH0 ?restc2
    case hyc2 => ((intro W hSw); obtain ⟨o0, o1⟩ := Lies.cells2 hSw.1.1; obtain ⟨p0, p1⟩ := Lies.cells2 hSw.1.2; obtain ⟨m0, m1, m2⟩ := Lies.cells3 hSw.2; go_simp; (try with_reducible rfl))
    try simp only [Act.put, List.setIfInBounds_toArray, List.set_cons_zero, List.set_cons_succ]
    refine any_take 3 47 ?vc3 rfl rfl (by kernel_rfl) (by kernel_rfl) (by kernel_rfl) (fun _ _ _ h => h) (by rfl) ?hyc3 hH0 ?restc3
    case hyc3 => ((intro W hSw); obtain ⟨o0, o1⟩ := Lies.cells2 hSw.1.1; obtain ⟨p0, p1⟩ := Lies.cells2 hSw.1.2; obtain ⟨m0, m1, m2⟩ := Lies.cells3 hSw.2; go_simp; (try with_reducible rfl))
    try simp only [Act.put, List.setIfInBounds_toArray, List.set_cons_zero, List.set_cons_succ]
    refine any_take 4 48 ?vc4 rfl rfl (by kernel_rfl) (by kernel_rfl) (by kernel_rfl) (fun _ _ _ h => h) (by rfl) ?hyc4 hH0 ?restc4
    case hyc4 => ((intro W hSw); obtain ⟨o0, o1⟩ := Lies.cells2 hSw.1.1; obtain ⟨p0, p1⟩ := Lies.cells2 hSw.1.2; obtain ⟨m0, m1, m2⟩ := Lies.cells3 hSw.2; go_simp; (try with_reducible rfl))
    try simp only [Act.put, List.setIfInBounds_toArray, List.set_cons_zero, List.set_cons_succ]
    refine any_take 5 49 ?vc5 rfl rfl (by kernel_rfl) (by kernel_rfl) (by kernel_rfl) (fun _ _ _ h => h) (by rfl) ?hyc5 hH0 ?restc5
    case hyc5 => ((intro W hSw); obtain ⟨o0, o1⟩ := Lies.cells2 hSw.1.1; obtain ⟨p0, p1⟩ := Lies.cells2 hSw.1.2; obtain ⟨m0, m1, m2⟩ := Lies.cells3 hSw.2; go_simp; (try with_reducible rfl))
    try simp only [Act.put, List.setIfInBounds_toArray, List.set_cons_zero, List.set_cons_succ]
    refine any_take 6 50 ?vc6 rfl rfl (by kernel_rfl) (by kernel_rfl) (by kernel_rfl) (fun _ _ _ h => h) (by rfl) ?hyc6 hH0 ?restc6
    case hyc6 => ((intro W hSw); obtain ⟨o0, o1⟩ := Lies.cells2 hSw.1.1; obtain ⟨p0, p1⟩ := Lies.cells2 hSw.1.2; obtain ⟨m0, m1, m2⟩ := Lies.cells3 hSw.2; go_simp; (try with_reducible rfl))
    try simp only [Act.put, List.setIfInBounds_toArray, List.set_cons_zero, List.set_cons_succ]
    refine wpAnyH_ready (rs := [7]) (by kernel_rfl) (by simp) ?_
    refine AllReadyH.cons rfl (fun K hK => ?_) AllReadyH.nil
    refine stp_upd none _ _ _ 54 (.tmp 47) (.tmp 49) (.tmp 50) (.map (some b.k)) (encStr y.n) (vK ⟨k.n, k.f, k.g + y.k⟩) w5 rfl rfl rfl (by rw [← HM.out.2]; exact HU.out.1) ?_
    obtain ⟨hA5, hF5⟩ := HA4.out.drew.turnK HU.out.2.1 HU.out.2.2
    have HA5 := Lib.hid hA5
    have HF5 := Lib.hid (HF4.out.drew.trans hF5)
    refine hK.out _ _ ⟨⟨hA5.c, hF5.lies (w := W4.drew) L4.out HNK.out.1 HNK.out.2.1⟩, hF5.lies (w := W4.drew) M4.out HNK.out.2.2.1 HNK.out.2.2.2⟩ (fun hH1 => ?_)
    clear hA5 hF5 hK K hH0
    try simp only [Act.put, List.setIfInBounds_toArray, List.set_cons_zero, List.set_cons_succ]
    clear hH1
    refine wpAnyH_done (by kernel_rfl) ?_ _
    refine NoPanic.normal ?_
    go_wp2
    go_ret
    refine ⟨by rw [HEV.out]; rfl, ?_, HF5.out⟩
    rw [endS_yes HFO.out HK.out]
    exact HA5.out

end Go.Proofs.Ytimoobhnhldgbaa
