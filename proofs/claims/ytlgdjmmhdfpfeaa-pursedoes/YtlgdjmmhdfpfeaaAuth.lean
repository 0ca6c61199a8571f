/-
  The contract of Authorise.
-/
import Derived.Test.YtlgdjmmhdfpfeaaHasP
namespace Go.Proofs.Ytlgdjmmhdfpfeaa
open Go.RowKit
set_option maxRecDepth 100000
set_option linter.unusedVariables false
set_option linter.unusedSimpArgs false

def AuthPost (w : World) (b : SB) (q : Ss) (o : Nat) (x : List UInt8) (n : Int) (e : Ending) (w' : World) : Prop :=
  e = .returned (.int .i64 (verd (authV q o x n))) ∧ At w' b (authS q o x n) ∧ Frm w w' b

theorem auth_same {w w' : World} {b : SB} {q : Ss} {o : Nat} {x : List UInt8} {n : Int} (h : authV q o x n = false) (hA : At w b q) (hb : Below w.heap.size w w') : AuthPost w b q o x n (.returned (.int .i64 2)) w' := by
  refine ⟨by rw [h]; rfl, ?_, Frm.of_below b hb⟩
  rw [authS_no h]
  exact hA.below hb

set_option maxHeartbeats 4000000 in
theorem auth_any (b : SB) (q : Ss) (o : Nat) (x : List UInt8) (n : Int) (w : World) (hA : At w b q) (hI : Inv q) (ho : o < 4294967296) (hx : x.length ≤ maxLen) (hn : -9223372036854775808 ≤ n ∧ n ≤ 9223372036854775807) (hl : q.H.length ≤ 1000) :
    Calls Try.prog 24 #[.pointer (some ⟨b.s, 0, none⟩), .int .u32 (o : Int), encStr x, .int .i64 n] w (AuthPost w b q o x n) := by
  have HA := Lib.hid hA
  have HI := Lib.hid hI
  have C1 := has_any b q o w hA hI ho
  clear hA
  by_cases h0 : o = 0
  · have hv : authV q o x n = false := by rw [← Bool.not_eq_true, authV_iff]; exact fun h => h.1 h0
    have HV := Lib.hid hv
    subst h0
    clear hI hv C1
    go_enter Try.func24, Try.ntmps24
    go_wp2
    go_ret
    exact auth_same HV.out HA.out (Below.refl _ _)
  by_cases h1 : n < 1
  · have hv : authV q o x n = false := by rw [← Bool.not_eq_true, authV_iff]; exact fun h => by have := h.2.1; omega
    have HV := Lib.hid hv
    have e0 : (((o : Int) == 0) : Bool) = false := beq_eq_false_iff_ne.2 (by omega)
    clear hI hv C1
    go_enter Try.func24, Try.ntmps24
    go_wp2
    go_ret
    exact auth_same HV.out HA.out (Below.refl _ _)
  have e0 : (((o : Int) == 0) : Bool) = false := beq_eq_false_iff_ne.2 (by omega)
  have e1 : decide (n < 1) = false := by simpa using h1
  cases hf : findH q.H o with
  | some y =>
    have hv : authV q o x n = false := by rw [← Bool.not_eq_true, authV_iff]; exact fun h => by rw [hf] at h; cases h.2.2.1
    have HV := Lib.hid hv
    rw [hf] at C1
    dsimp only [Option.isSome_some] at C1
    have C1 := Lib.hid C1
    clear hI hv hf
    go_enter Try.func24, Try.ntmps24
    go_wp2_with fail
    with_reducible refine C1.out.mono ?_
    rintro e w1 ⟨rfl, hb⟩
    have HB1 := Lib.hid hb
    have HA1 := Lib.hid (HA.out.below hb)
    clear hb
    go_wp2
    go_ret
    exact auth_same HV.out HA.out HB1.out
  | none =>
    rw [hf] at C1
    dsimp only [Option.isSome_none] at C1
    have C1 := Lib.hid C1
    have HF := Lib.hid hf
    clear hf
    cases hk : findK q.K x with
    | none =>
      have hv : authV q o x n = false := by rw [← Bool.not_eq_true, authV_iff]; exact fun h => by obtain ⟨k, h', _⟩ := h.2.2.2; rw [hk] at h'; cases h'
      have HV := Lib.hid hv
      have HK := Lib.hid hk
      clear hI hv hk
      go_enter Try.func24, Try.ntmps24
      go_wp2_with fail
      with_reducible refine C1.out.mono ?_
      rintro e w1 ⟨rfl, hb⟩
      have HB1 := Lib.hid hb
      have HA1 := Lib.hid (HA.out.below hb)
      clear hb
      obtain ⟨c0, c1, c2, c3, c4⟩ := HA1.out.c.cells5
      have r2 := HA1.out.ok.look_ok x hx
      rw [HK.out] at r2
      dsimp only [Option.getD_none, Option.isSome_none] at r2
      go_wp2
      go_ret
      exact auth_same HV.out HA.out (HB1.out.alloc HB1.out.size _)
    | some k =>
      obtain ⟨hm, rfl⟩ := findK_some hk
      have HK := Lib.hid hk
      obtain ⟨hb1, hb2, hb3⟩ := hI.kbs hm
      have ew : IntKind.i64.wrap (k.m - k.h) = k.m - k.h := IntWalk.i64_in _ (by omega)
      by_cases h3 : n ≤ k.m - k.h
      · have e3 : decide (k.m - k.h < n) = false := by simpa using h3
        have hv : authV q o k.n n = true := authV_iff.2 ⟨h0, by omega, HF.out, k, hk, h3⟩
        have HV := Lib.hid hv
        have hb4 : 1 ≤ n := by omega
        have ew2 : IntKind.i64.wrap (k.h + n) = k.h + n := IntWalk.i64_in _ (by omega)
        clear hI hv hk
        go_enter Try.func24, Try.ntmps24
        go_wp2_with fail
        with_reducible refine C1.out.mono ?_
        rintro e w1 ⟨rfl, hb⟩
        have HB1 := Lib.hid hb
        have HA1 := Lib.hid (HA.out.below hb)
        clear hb
        obtain ⟨c0, c1, c2, c3, c4⟩ := HA1.out.c.cells5
        have r2 := HA1.out.ok.look_ok k.n hx
        rw [HK.out] at r2
        dsimp only [Option.getD_some, Option.isSome_some] at r2
        go_wp2_with fail
        obtain ⟨W2, hW2⟩ : ∃ W2, W2 = (w1.alloc (.cells #[encStr k.n, .int .i64 k.m, .int .i64 (k.h + n)] 46)) := ⟨_, rfl⟩
        rw [← hW2]
        have HA2 : Hid (AtM W2 b q.K (stH q.H 1) (stH q.H 2) (stH q.H 3)) := Lib.hid (by rw [hW2]; exact HA1.out.m.alloc _)
        have L2 : Hid (Lies W2 w1.heap.size 46 #[encStr k.n, .int .i64 k.m, .int .i64 (k.h + n)]) := Lib.hid (by rw [hW2]; exact Lies.made _ _ _)
        have BW2 : Hid (Below w.heap.size w W2) := Lib.hid (by rw [hW2]; exact HB1.out.alloc HB1.out.size _)
        have HNM : Hid (¬ b.isMap w1.heap.size) := Lib.hid (fun hm => Nat.lt_irrefl _ (HA1.out.map_lt hm))
        clear hW2 c0 c1 c2 c3 c4 r2 ew ew2
        have hu := HA2.out.drew.ok.upd HI.out.ks ⟨k.n, k.m, k.h + n⟩ k hm rfl (by have := (HI.out.kl k hm).2; unfold maxLen; show k.n.length ≤ _; omega) (by have := HI.out.kz; omega)
        obtain ⟨w3, hu1, hu2, hu3⟩ := hu
        have HU := Lib.hid (And.intro hu1 (And.intro hu2 hu3))
        clear hu1 hu2 hu3
        refine wp_region_noPanic ?_
        refine wp_region_held_drew (S := fun W => Lies W b.s 58 (pcs b) ∧ Lies W w1.heap.size 46 #[encStr k.n, .int .i64 k.m, .int .i64 (k.h + n)]) (by kernel_rfl) ⟨HA2.out.c, L2.out⟩ (fun hH0 => ?_)
        refine any_take 0 51 ?va0 rfl rfl (by kernel_rfl) (by kernel_rfl) (by kernel_rfl) (fun _ _ _ h => h) (by rfl) ?hya0 hH0 ?resta0
        case hya0 => ((intro W hSw); obtain ⟨o0, o1, o2, o3, o4⟩ := Lies.cells5 hSw.1; obtain ⟨p0, p1, p2⟩ := Lies.cells3 hSw.2; go_simp; (try with_reducible rfl))
        try simp only [Act.put, List.setIfInBounds_toArray, List.set_cons_zero, List.set_cons_succ]
        refine any_take 1 52 ?va1 rfl rfl (by kernel_rfl) (by kernel_rfl) (by kernel_rfl) (fun _ _ _ h => h) (by rfl) ?hya1 hH0 ?resta1
        case hya1 => ((intro W hSw); obtain ⟨o0, o1, o2, o3, o4⟩ := Lies.cells5 hSw.1; obtain ⟨p0, p1, p2⟩ := Lies.cells3 hSw.2; go_simp; (try with_reducible rfl))
        try simp only [Act.put, List.setIfInBounds_toArray, List.set_cons_zero, List.set_cons_succ]
        refine any_take 2 53 ?va2 rfl rfl (by kernel_rfl) (by kernel_rfl) (by kernel_rfl) (fun _ _ _ h => h) (by rfl) ?hya2 hH0 ?resta2
        case hya2 => ((intro W hSw); obtain ⟨o0, o1, o2, o3, o4⟩ := Lies.cells5 hSw.1; obtain ⟨p0, p1, p2⟩ := Lies.cells3 hSw.2; go_simp; (try with_reducible rfl))
        try simp only [Act.put, List.setIfInBounds_toArray, List.set_cons_zero, List.set_cons_succ]
        refine any_take 3 54 ?va3 rfl rfl (by kernel_rfl) (by kernel_rfl) (by kernel_rfl) (fun _ _ _ h => h) (by rfl) ?hya3 hH0 ?resta3
        case hya3 => ((intro W hSw); obtain ⟨o0, o1, o2, o3, o4⟩ := Lies.cells5 hSw.1; obtain ⟨p0, p1, p2⟩ := Lies.cells3 hSw.2; go_simp; (try with_reducible rfl))
        try simp only [Act.put, List.setIfInBounds_toArray, List.set_cons_zero, List.set_cons_succ]
        refine any_take 4 55 ?va4 rfl rfl (by kernel_rfl) (by kernel_rfl) (by kernel_rfl) (fun _ _ _ h => h) (by rfl) ?hya4 hH0 ?resta4
        case hya4 => ((intro W hSw); obtain ⟨o0, o1, o2, o3, o4⟩ := Lies.cells5 hSw.1; obtain ⟨p0, p1, p2⟩ := Lies.cells3 hSw.2; go_simp; (try with_reducible rfl))
        try simp only [Act.put, List.setIfInBounds_toArray, List.set_cons_zero, List.set_cons_succ]
        refine any_take 5 56 ?va5 rfl rfl (by kernel_rfl) (by kernel_rfl) (by kernel_rfl) (fun _ _ _ h => h) (by rfl) ?hya5 hH0 ?resta5
        case hya5 => ((intro W hSw); obtain ⟨o0, o1, o2, o3, o4⟩ := Lies.cells5 hSw.1; obtain ⟨p0, p1, p2⟩ := Lies.cells3 hSw.2; go_simp; (try with_reducible rfl))
        try simp only [Act.put, List.setIfInBounds_toArray, List.set_cons_zero, List.set_cons_succ]
        refine any_take 6 57 ?va6 rfl rfl (by kernel_rfl) (by kernel_rfl) (by kernel_rfl) (fun _ _ _ h => h) (by rfl) ?hya6 hH0 ?resta6
        case hya6 => ((intro W hSw); obtain ⟨o0, o1, o2, o3, o4⟩ := Lies.cells5 hSw.1; obtain ⟨p0, p1, p2⟩ := Lies.cells3 hSw.2; go_simp; (try with_reducible rfl))
        try simp only [Act.put, List.setIfInBounds_toArray, List.set_cons_zero, List.set_cons_succ]
        refine wpAnyH_ready (rs := [7]) (by kernel_rfl) (by simp) ?_
        refine AllReadyH.cons rfl (fun K hK => ?_) AllReadyH.nil
        refine stp_upd none _ _ _ 54 (.tmp 54) (.tmp 56) (.tmp 57) (.map (some b.k)) (encStr k.n) (vK ⟨k.n, k.m, k.h + n⟩) w3 rfl rfl rfl HU.out.1 ?_
        obtain ⟨hA3, hF3⟩ := HA2.out.drew.turnK HU.out.2.1 HU.out.2.2
        have L3 := Lib.hid (hF3.lies (g := w1.heap.size) (t := 46) (w := W2.drew) L2.out HNM.out)
        have HA3 := Lib.hid hA3
        have HF3 := Lib.hid ((Frm.of_below b BW2.out).drew.trans hF3)
        clear hA3 hF3
        refine hK.out _ _ ⟨HA3.out.c, L3.out⟩ (fun hH1 => ?_)
        clear hK K hH0
        try simp only [Act.put, List.setIfInBounds_toArray, List.set_cons_zero, List.set_cons_succ]
        clear hH1
        refine wpAnyH_done (by kernel_rfl) ?_ _
        refine NoPanic.normal ?_
        go_wp2_with fail
        obtain ⟨w4, hu1, hu2, hu3⟩ := HA3.out.drew.o1.add ⟨o, k.n, n, 1⟩ (fun y hy => findH_none HF.out y (mem_stH.1 hy).1) ho (by have : (stH q.H 1).length ≤ q.H.length := List.length_filter_le _ _; omega)
        have HU4 := Lib.hid (And.intro hu1 (And.intro hu2 hu3))
        clear hu1 hu2 hu3
        refine wp_region_noPanic ?_
        refine wp_region_held_drew (S := fun W => Lies W b.s 58 (pcs b) ∧ Lies W w1.heap.size 46 #[encStr k.n, .int .i64 k.m, .int .i64 (k.h + n)]) (by kernel_rfl) ⟨HA3.out.c, L3.out⟩ (fun hH0 => ?_)
        refine any_take 0 58 ?vb0 rfl rfl (by kernel_rfl) (by kernel_rfl) (by kernel_rfl) (fun _ _ _ h => h) (by rfl) ?hyb0 hH0 ?restb0
        case hyb0 => ((intro W hSw); obtain ⟨o0, o1, o2, o3, o4⟩ := Lies.cells5 hSw.1; obtain ⟨p0, p1, p2⟩ := Lies.cells3 hSw.2; go_simp; (try with_reducible rfl))
        try simp only [Act.put, List.setIfInBounds_toArray, List.set_cons_zero, List.set_cons_succ]
        refine any_take 1 59 ?vb1 rfl rfl (by kernel_rfl) (by kernel_rfl) (by kernel_rfl) (fun _ _ _ h => h) (by rfl) ?hyb1 hH0 ?restb1
        case hyb1 => ((intro W hSw); obtain ⟨o0, o1, o2, o3, o4⟩ := Lies.cells5 hSw.1; obtain ⟨p0, p1, p2⟩ := Lies.cells3 hSw.2; go_simp; (try with_reducible rfl))
        try simp only [Act.put, List.setIfInBounds_toArray, List.set_cons_zero, List.set_cons_succ]
        refine any_take 2 60 ?vb2 rfl rfl (by kernel_rfl) (by kernel_rfl) (by kernel_rfl) (fun _ _ _ h => h) (by rfl) ?hyb2 hH0 ?restb2
        case hyb2 => ((intro W hSw); obtain ⟨o0, o1, o2, o3, o4⟩ := Lies.cells5 hSw.1; obtain ⟨p0, p1, p2⟩ := Lies.cells3 hSw.2; go_simp; (try with_reducible rfl))
        try simp only [Act.put, List.setIfInBounds_toArray, List.set_cons_zero, List.set_cons_succ]
        refine any_take 3 61 ?vb3 rfl rfl (by kernel_rfl) (by kernel_rfl) (by kernel_rfl) (fun _ _ _ h => h) (by rfl) ?hyb3 hH0 ?restb3
        case hyb3 => ((intro W hSw); obtain ⟨o0, o1, o2, o3, o4⟩ := Lies.cells5 hSw.1; obtain ⟨p0, p1, p2⟩ := Lies.cells3 hSw.2; go_simp; (try with_reducible rfl))
        try simp only [Act.put, List.setIfInBounds_toArray, List.set_cons_zero, List.set_cons_succ]
        refine any_take 4 62 ?vb4 rfl rfl (by kernel_rfl) (by kernel_rfl) (by kernel_rfl) (fun _ _ _ h => h) (by rfl) ?hyb4 hH0 ?restb4
        case hyb4 => ((intro W hSw); obtain ⟨o0, o1, o2, o3, o4⟩ := Lies.cells5 hSw.1; obtain ⟨p0, p1, p2⟩ := Lies.cells3 hSw.2; go_simp; (try with_reducible rfl))
        try simp only [Act.put, List.setIfInBounds_toArray, List.set_cons_zero, List.set_cons_succ]
        refine any_take 5 63 ?vb5 rfl rfl (by kernel_rfl) (by kernel_rfl) (by kernel_rfl) (fun _ _ _ h => h) (by rfl) ?hyb5 hH0 ?restb5
        case hyb5 => ((intro W hSw); obtain ⟨o0, o1, o2, o3, o4⟩ := Lies.cells5 hSw.1; obtain ⟨p0, p1, p2⟩ := Lies.cells3 hSw.2; go_simp; (try with_reducible rfl))
        try simp only [Act.put, List.setIfInBounds_toArray, List.set_cons_zero, List.set_cons_succ]
        refine any_take 6 64 ?vb6 rfl rfl (by kernel_rfl) (by kernel_rfl) (by kernel_rfl) (fun _ _ _ h => h) (by rfl) ?hyb6 hH0 ?restb6
        case hyb6 => ((intro W hSw); obtain ⟨o0, o1, o2, o3, o4⟩ := Lies.cells5 hSw.1; obtain ⟨p0, p1, p2⟩ := Lies.cells3 hSw.2; go_simp; (try with_reducible rfl))
        try simp only [Act.put, List.setIfInBounds_toArray, List.set_cons_zero, List.set_cons_succ]
        refine any_take 7 65 ?vb7 rfl rfl (by kernel_rfl) (by kernel_rfl) (by kernel_rfl) (fun _ _ _ h => h) (by rfl) ?hyb7 hH0 ?restb7
        case hyb7 => ((intro W hSw); obtain ⟨o0, o1, o2, o3, o4⟩ := Lies.cells5 hSw.1; obtain ⟨p0, p1, p2⟩ := Lies.cells3 hSw.2; go_simp; (try with_reducible rfl))
        try simp only [Act.put, List.setIfInBounds_toArray, List.set_cons_zero, List.set_cons_succ]
        refine any_take 8 66 ?vb8 rfl rfl (by kernel_rfl) (by kernel_rfl) (by kernel_rfl) (fun _ _ _ h => h) (by rfl) ?hyb8 hH0 ?restb8
        case hyb8 => ((intro W hSw); obtain ⟨o0, o1, o2, o3, o4⟩ := Lies.cells5 hSw.1; obtain ⟨p0, p1, p2⟩ := Lies.cells3 hSw.2; go_simp; (try with_reducible rfl))
        try simp only [Act.put, List.setIfInBounds_toArray, List.set_cons_zero, List.set_cons_succ]
        refine any_take 9 67 ?vb9 rfl rfl (by kernel_rfl) (by kernel_rfl) (by kernel_rfl) (fun _ _ _ h => h) (by rfl) ?hyb9 hH0 ?restb9
        case hyb9 => ((intro W hSw); obtain ⟨o0, o1, o2, o3, o4⟩ := Lies.cells5 hSw.1; obtain ⟨p0, p1, p2⟩ := Lies.cells3 hSw.2; go_simp; (try with_reducible rfl))
        try simp only [Act.put, List.setIfInBounds_toArray, List.set_cons_zero, List.set_cons_succ]
        refine wpAnyH_ready (rs := [10]) (by kernel_rfl) (by simp) ?_
        refine AllReadyH.cons rfl (fun K hK => ?_) AllReadyH.nil
        refine stp_upd none _ _ _ 55 (.tmp 62) (.tmp 63) (.tmp 67) (.map (some b.p1)) (.int .u32 (o : Int)) (vH ⟨o, k.n, n, 1⟩) w4 rfl rfl rfl HU4.out.1 ?_
        obtain ⟨hA4, hF4⟩ := HA3.out.drew.turn1 HU4.out.2.1 HU4.out.2.2
        have HA4 := Lib.hid hA4
        have HF4 := Lib.hid (HF3.out.drew.trans hF4)
        refine hK.out _ _ ⟨hA4.c, hF4.lies (g := w1.heap.size) (t := 46) (w := w3.drew) L3.out HNM.out⟩ (fun hH1 => ?_)
        clear hA4 hF4 hK K hH0
        try simp only [Act.put, List.setIfInBounds_toArray, List.set_cons_zero, List.set_cons_succ]
        clear hH1
        refine wpAnyH_done (by kernel_rfl) ?_ _
        refine NoPanic.normal ?_
        go_wp2
        go_ret
        refine ⟨by rw [HV.out]; rfl, ?_, HF4.out⟩
        rw [authS_yes HV.out HK.out]
        have hn1 := findH_none HF.out
        exact HA4.out.at (by rw [stH_ins HI.out.hs (h := ⟨o, k.n, n, 1⟩) hn1, if_pos rfl]) (by rw [stH_ins HI.out.hs (h := ⟨o, k.n, n, 1⟩) hn1, if_neg (show ¬ (1 : Nat) = 2 by decide)]) (by rw [stH_ins HI.out.hs (h := ⟨o, k.n, n, 1⟩) hn1, if_neg (show ¬ (1 : Nat) = 3 by decide)])
      · have e3 : decide (k.m - k.h < n) = true := by simpa using h3
        have hv : authV q o k.n n = false := by
          rw [← Bool.not_eq_true, authV_iff]
          exact fun h => by obtain ⟨k', h', h2⟩ := h.2.2.2; rw [hk] at h'; injection h' with h'; subst h'; exact h3 h2
        have HV := Lib.hid hv
        clear hI hv hk
        go_enter Try.func24, Try.ntmps24
        go_wp2_with fail
        with_reducible refine C1.out.mono ?_
        rintro e w1 ⟨rfl, hb⟩
        have HB1 := Lib.hid hb
        have HA1 := Lib.hid (HA.out.below hb)
        clear hb
        obtain ⟨c0, c1, c2, c3, c4⟩ := HA1.out.c.cells5
        have r2 := HA1.out.ok.look_ok k.n hx
        rw [HK.out] at r2
        dsimp only [Option.getD_some, Option.isSome_some] at r2
        go_wp2
        go_ret
        exact auth_same HV.out HA.out (HB1.out.alloc HB1.out.size _)

end Go.Proofs.Ytlgdjmmhdfpfeaa
