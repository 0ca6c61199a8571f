/-
  The contract of Hold.
-/
import Derived.Test.YtimoobhnhldgbaaStk
namespace Go.Proofs.Ytimoobhnhldgbaa
open Go.RowKit
set_option maxRecDepth 100000
set_option linter.unusedVariables false
set_option linter.unusedSimpArgs false

def HoldPost (w : World) (b : SB) (q : Ss) (o : Nat) (x : List UInt8) (n : Int) (e : Ending) (w' : World) : Prop :=
  e = .returned (.int .i64 (verd (holdV q o x n))) ∧ At w' b (holdS q o x n) ∧ Frm w w' b

theorem hold_same {w w' : World} {b : SB} {q : Ss} {o : Nat} {x : List UInt8} {n : Int} (h : holdV q o x n = false) (hA : At w b q) (hb : Below w.heap.size w w') : HoldPost w b q o x n (.returned (.int .i64 2)) w' := by
  refine ⟨by rw [h]; rfl, ?_, Frm.of_below b hb⟩
  rw [holdS_no h]
  exact hA.below hb

set_option maxHeartbeats 4000000 in
theorem hold_any (b : SB) (q : Ss) (o : Nat) (x : List UInt8) (n : Int) (w : World) (hA : At w b q) (hI : Inv q) (ho : o < 4294967296) (hx : x.length ≤ maxLen) (hn : -9223372036854775808 ≤ n ∧ n ≤ 9223372036854775807) (hl : q.H.length ≤ 1000) :
    Calls Try.prog 26 #[.pointer (some ⟨b.s, 0, none⟩), .int .u32 (o : Int), encStr x, .int .i64 n] w (HoldPost w b q o x n) := by
  have HA := Lib.hid hA
  have HI := Lib.hid hI
  obtain ⟨c0, c1⟩ := hA.c.cells2
  have lk1 := fun W (h : OwnH W b.h q.H) => h.look_ok o ho
  have r1 := lk1 w hA.oh
  by_cases h0 : o = 0
  · have hv : holdV q o x n = false := by rw [← Bool.not_eq_true, holdV_iff]; exact fun h => h.1 h0
    have HV := Lib.hid hv
    subst h0
    clear hA hI lk1 r1 hv c0 c1
    go_enter Try.func26, Try.ntmps26
    go_wp2
    go_ret
    exact hold_same HV.out HA.out (Below.refl _ _)
  by_cases h1 : n < 1
  · have hv : holdV q o x n = false := by rw [← Bool.not_eq_true, holdV_iff]; exact fun h => by have := h.2.1; omega
    have HV := Lib.hid hv
    have e0 : (((o : Int) == 0) : Bool) = false := beq_eq_false_iff_ne.2 (by omega)
    clear hA hI lk1 r1 hv c0 c1
    go_enter Try.func26, Try.ntmps26
    go_wp2
    go_ret
    exact hold_same HV.out HA.out (Below.refl _ _)
  have e0 : (((o : Int) == 0) : Bool) = false := beq_eq_false_iff_ne.2 (by omega)
  have e1 : decide (n < 1) = false := by simpa using h1
  cases hf : findH q.H o with
  | some y =>
    have hv : holdV q o x n = false := by rw [← Bool.not_eq_true, holdV_iff]; exact fun h => by rw [hf] at h; cases h.2.2.1
    have HV := Lib.hid hv
    rw [hf] at r1
    dsimp only [Option.getD_some, Option.isSome_some] at r1
    clear hA hI lk1 hv hf c0
    go_enter Try.func26, Try.ntmps26
    go_wp2
    go_ret
    exact hold_same HV.out HA.out (below1 _ _)
  | none =>
    rw [hf] at r1
    dsimp only [Option.getD_none, Option.isSome_none] at r1
    have HF := Lib.hid hf
    clear hf
    have HA1 := Lib.hid (hA.alloc (.cells #[encStr zH.n, .int .i64 zH.k] 70))
    have r2 := HA1.out.ok.look_ok x hx
    obtain ⟨d0, d1⟩ := HA1.out.c.cells2
    cases hk : findK q.K x with
    | none =>
      have hv : holdV q o x n = false := by rw [← Bool.not_eq_true, holdV_iff]; exact fun h => by obtain ⟨k, h', _⟩ := h.2.2.2; rw [hk] at h'; cases h'
      have HV := Lib.hid hv
      rw [hk] at r2
      dsimp only [Option.getD_none, Option.isSome_none] at r2
      clear hA hI lk1 hv hk
      go_enter Try.func26, Try.ntmps26
      go_wp2
      go_ret
      exact hold_same HV.out HA.out (below2 _ _ _)
    | some k =>
      rw [hk] at r2
      dsimp only [Option.getD_some, Option.isSome_some] at r2
      obtain ⟨hm, rfl⟩ := findK_some hk
      have hkf := hI.kf k hm
      have HK := Lib.hid hk
      by_cases h3 : n ≤ k.f
      · have e3 : decide (k.f < n) = false := by simpa using h3
        have hv : holdV q o k.n n = true := holdV_iff.2 ⟨h0, by omega, HF.out, k, hk, h3⟩
        have HV := Lib.hid hv
        have hb1 : 0 ≤ k.f := hkf.1
        have hb2 : k.f ≤ 1000000 := by have := held_nonneg (fun z hz => (hI.hh z hz).1) k.n; omega
        have hb3 : 1 ≤ n := by omega
        clear hA hI lk1 hv hk hkf
        go_enter Try.func26, Try.ntmps26
        go_wp2_with fail
        obtain ⟨W2, hW2⟩ : ∃ W2, W2 = (w.alloc (.cells #[encStr zH.n, .int .i64 zH.k] 70)).alloc (.cells #[encStr k.n, .int .i64 (k.f - n), .int .i64 k.g] 60) := ⟨_, rfl⟩
        rw [← hW2]
        have HA2 : Hid (At W2 b q) := Lib.hid (by rw [hW2]; exact HA1.out.alloc _)
        have L2 : Hid (Lies W2 (w.heap.size + 1) 60 #[encStr k.n, .int .i64 (k.f - n), .int .i64 k.g]) := Lib.hid (by rw [hW2]; exact Lies.made2 _ _ _ _)
        have BW2 : Hid (Below w.heap.size w W2) := Lib.hid (by rw [hW2]; exact below2 _ _ _)
        clear hW2 c0 c1 d0 d1 r1 r2 HA1
        have hu := HA2.out.drew.ok.upd HI.out.ks ⟨k.n, k.f - n, k.g⟩ k hm rfl (by have := (HI.out.kl k hm).2; unfold maxLen; show k.n.length ≤ _; omega) (by have := HI.out.kz; omega)
        obtain ⟨w3, hu1, hu2, hu3⟩ := hu
        have HU := Lib.hid (And.intro hu1 (And.intro hu2 hu3))
        clear hu1 hu2 hu3
        refine wp_region_noPanic ?_
        refine wp_region_held_drew (S := fun W => Lies W b.s 57 #[.map (some b.k), .map (some b.h)] ∧ Lies W (w.heap.size + 1) 60 #[encStr k.n, .int .i64 (k.f - n), .int .i64 k.g]) (by kernel_rfl) ⟨HA2.out.c, L2.out⟩ (fun hH0 => ?_)
        refine any_take 0 58 ?va0 rfl rfl (by kernel_rfl) (by kernel_rfl) (by kernel_rfl) (fun _ _ _ h => h) (by rfl) ?hya0 hH0 ?resta0
        case hya0 => ((intro W hSw); obtain ⟨o0, o1⟩ := Lies.cells2 hSw.1; obtain ⟨p0, p1, p2⟩ := Lies.cells3 hSw.2; go_simp; (try with_reducible rfl))
        try simp only [Act.put, List.setIfInBounds_toArray, List.set_cons_zero, List.set_cons_succ]
        refine any_take 1 59 ?va1 rfl rfl (by kernel_rfl) (by kernel_rfl) (by kernel_rfl) (fun _ _ _ h => h) (by rfl) ?hya1 hH0 ?resta1
        case hya1 => ((intro W hSw); obtain ⟨o0, o1⟩ := Lies.cells2 hSw.1; obtain ⟨p0, p1, p2⟩ := Lies.cells3 hSw.2; go_simp; (try with_reducible rfl))
        try simp only [Act.put, List.setIfInBounds_toArray, List.set_cons_zero, List.set_cons_succ]
        refine any_take 2 60 ?va2 rfl rfl (by kernel_rfl) (by kernel_rfl) (by kernel_rfl) (fun _ _ _ h => h) (by rfl) ?hya2 hH0 ?resta2
        case hya2 => ((intro W hSw); obtain ⟨o0, o1⟩ := Lies.cells2 hSw.1; obtain ⟨p0, p1, p2⟩ := Lies.cells3 hSw.2; go_simp; (try with_reducible rfl))
        try simp only [Act.put, List.setIfInBounds_toArray, List.set_cons_zero, List.set_cons_succ]
        refine any_take 3 61 ?va3 rfl rfl (by kernel_rfl) (by kernel_rfl) (by kernel_rfl) (fun _ _ _ h => h) (by rfl) ?hya3 hH0 ?resta3
        case hya3 => ((intro W hSw); obtain ⟨o0, o1⟩ := Lies.cells2 hSw.1; obtain ⟨p0, p1, p2⟩ := Lies.cells3 hSw.2; go_simp; (try with_reducible rfl))
        try simp only [Act.put, List.setIfInBounds_toArray, List.set_cons_zero, List.set_cons_succ]
        refine any_take 4 62 ?va4 rfl rfl (by kernel_rfl) (by kernel_rfl) (by kernel_rfl) (fun _ _ _ h => h) (by rfl) ?hya4 hH0 ?resta4
        case hya4 => ((intro W hSw); obtain ⟨o0, o1⟩ := Lies.cells2 hSw.1; obtain ⟨p0, p1, p2⟩ := Lies.cells3 hSw.2; go_simp; (try with_reducible rfl))
        try simp only [Act.put, List.setIfInBounds_toArray, List.set_cons_zero, List.set_cons_succ]
        refine any_take 5 63 ?va5 rfl rfl (by kernel_rfl) (by kernel_rfl) (by kernel_rfl) (fun _ _ _ h => h) (by rfl) ?hya5 hH0 ?resta5
        case hya5 => ((intro W hSw); obtain ⟨o0, o1⟩ := Lies.cells2 hSw.1; obtain ⟨p0, p1, p2⟩ := Lies.cells3 hSw.2; go_simp; (try with_reducible rfl))
        try simp only [Act.put, List.setIfInBounds_toArray, List.set_cons_zero, List.set_cons_succ]
        refine any_take 6 64 ?va6 rfl rfl (by kernel_rfl) (by kernel_rfl) (by kernel_rfl) (fun _ _ _ h => h) (by rfl) ?hya6 hH0 ?resta6
        case hya6 => ((intro W hSw); obtain ⟨o0, o1⟩ := Lies.cells2 hSw.1; obtain ⟨p0, p1, p2⟩ := Lies.cells3 hSw.2; go_simp; (try with_reducible rfl))
        try simp only [Act.put, List.setIfInBounds_toArray, List.set_cons_zero, List.set_cons_succ]
        refine wpAnyH_ready (rs := [7]) (by kernel_rfl) (by simp) ?_
        refine AllReadyH.cons rfl (fun K hK => ?_) AllReadyH.nil
        refine stp_upd none _ _ _ 54 (.tmp 61) (.tmp 63) (.tmp 64) (.map (some b.k)) (encStr k.n) (vK ⟨k.n, k.f - n, k.g⟩) w3 rfl rfl rfl HU.out.1 ?_
        obtain ⟨hA3, hF3⟩ := HA2.out.drew.turnK HU.out.2.1 HU.out.2.2
        have HA3 := Lib.hid hA3
        have HF3 := Lib.hid ((Frm.of_below b BW2.out).drew.trans hF3)
        have L3 := Lib.hid (hF3.lies (g := w.heap.size + 1) (t := 60) (w := W2.drew) L2.out (by have := HA.out.ok.lt; omega) (by have := HA.out.oh.lt; omega))
        clear hA3 hF3
        refine hK.out _ _ ⟨HA3.out.c, L3.out⟩ (fun hH1 => ?_)
        clear hK K hH0
        try simp only [Act.put, List.setIfInBounds_toArray, List.set_cons_zero, List.set_cons_succ]
        clear hH1
        refine wpAnyH_done (by kernel_rfl) ?_ _
        refine NoPanic.normal ?_
        go_wp2_with fail
        obtain ⟨w4, hu1, hu2, hu3⟩ := HA3.out.drew.oh.add ⟨o, k.n, n⟩ (findH_none HF.out) ho (by show q.H.length ≤ _; omega)
        have HU4 := Lib.hid (And.intro hu1 (And.intro hu2 hu3))
        clear hu1 hu2 hu3
        refine wp_region_noPanic ?_
        refine wp_region_held_drew (S := fun W => Lies W b.s 57 #[.map (some b.k), .map (some b.h)] ∧ Lies W (w.heap.size + 1) 60 #[encStr k.n, .int .i64 (k.f - n), .int .i64 k.g]) (by kernel_rfl) ⟨HA3.out.c, L3.out⟩ (fun hH0 => ?_)
        refine any_take 0 65 ?vb0 rfl rfl (by kernel_rfl) (by kernel_rfl) (by kernel_rfl) (fun _ _ _ h => h) (by rfl) ?hyb0 hH0 ?restb0
        case hyb0 => ((intro W hSw); obtain ⟨o0, o1⟩ := Lies.cells2 hSw.1; obtain ⟨p0, p1, p2⟩ := Lies.cells3 hSw.2; go_simp; (try with_reducible rfl))
        try simp only [Act.put, List.setIfInBounds_toArray, List.set_cons_zero, List.set_cons_succ]
        refine any_take 1 66 ?vb1 rfl rfl (by kernel_rfl) (by kernel_rfl) (by kernel_rfl) (fun _ _ _ h => h) (by rfl) ?hyb1 hH0 ?restb1
        case hyb1 => ((intro W hSw); obtain ⟨o0, o1⟩ := Lies.cells2 hSw.1; obtain ⟨p0, p1, p2⟩ := Lies.cells3 hSw.2; go_simp; (try with_reducible rfl))
        try simp only [Act.put, List.setIfInBounds_toArray, List.set_cons_zero, List.set_cons_succ]
        refine any_take 2 67 ?vb2 rfl rfl (by kernel_rfl) (by kernel_rfl) (by kernel_rfl) (fun _ _ _ h => h) (by rfl) ?hyb2 hH0 ?restb2
        case hyb2 => ((intro W hSw); obtain ⟨o0, o1⟩ := Lies.cells2 hSw.1; obtain ⟨p0, p1, p2⟩ := Lies.cells3 hSw.2; go_simp; (try with_reducible rfl))
        try simp only [Act.put, List.setIfInBounds_toArray, List.set_cons_zero, List.set_cons_succ]
        refine any_take 3 68 ?vb3 rfl rfl (by kernel_rfl) (by kernel_rfl) (by kernel_rfl) (fun _ _ _ h => h) (by rfl) ?hyb3 hH0 ?restb3
        case hyb3 => ((intro W hSw); obtain ⟨o0, o1⟩ := Lies.cells2 hSw.1; obtain ⟨p0, p1, p2⟩ := Lies.cells3 hSw.2; go_simp; (try with_reducible rfl))
        try simp only [Act.put, List.setIfInBounds_toArray, List.set_cons_zero, List.set_cons_succ]
        refine any_take 4 69 ?vb4 rfl rfl (by kernel_rfl) (by kernel_rfl) (by kernel_rfl) (fun _ _ _ h => h) (by rfl) ?hyb4 hH0 ?restb4
        case hyb4 => ((intro W hSw); obtain ⟨o0, o1⟩ := Lies.cells2 hSw.1; obtain ⟨p0, p1, p2⟩ := Lies.cells3 hSw.2; go_simp; (try with_reducible rfl))
        try simp only [Act.put, List.setIfInBounds_toArray, List.set_cons_zero, List.set_cons_succ]
        refine any_take 5 70 ?vb5 rfl rfl (by kernel_rfl) (by kernel_rfl) (by kernel_rfl) (fun _ _ _ h => h) (by rfl) ?hyb5 hH0 ?restb5
        case hyb5 => ((intro W hSw); obtain ⟨o0, o1⟩ := Lies.cells2 hSw.1; obtain ⟨p0, p1, p2⟩ := Lies.cells3 hSw.2; go_simp; (try with_reducible rfl))
        try simp only [Act.put, List.setIfInBounds_toArray, List.set_cons_zero, List.set_cons_succ]
        refine any_take 6 71 ?vb6 rfl rfl (by kernel_rfl) (by kernel_rfl) (by kernel_rfl) (fun _ _ _ h => h) (by rfl) ?hyb6 hH0 ?restb6
        case hyb6 => ((intro W hSw); obtain ⟨o0, o1⟩ := Lies.cells2 hSw.1; obtain ⟨p0, p1, p2⟩ := Lies.cells3 hSw.2; go_simp; (try with_reducible rfl))
        try simp only [Act.put, List.setIfInBounds_toArray, List.set_cons_zero, List.set_cons_succ]
        refine any_take 7 72 ?vb7 rfl rfl (by kernel_rfl) (by kernel_rfl) (by kernel_rfl) (fun _ _ _ h => h) (by rfl) ?hyb7 hH0 ?restb7
        case hyb7 => ((intro W hSw); obtain ⟨o0, o1⟩ := Lies.cells2 hSw.1; obtain ⟨p0, p1, p2⟩ := Lies.cells3 hSw.2; go_simp; (try with_reducible rfl))
        try simp only [Act.put, List.setIfInBounds_toArray, List.set_cons_zero, List.set_cons_succ]
        refine any_take 8 73 ?vb8 rfl rfl (by kernel_rfl) (by kernel_rfl) (by kernel_rfl) (fun _ _ _ h => h) (by rfl) ?hyb8 hH0 ?restb8
        case hyb8 => ((intro W hSw); obtain ⟨o0, o1⟩ := Lies.cells2 hSw.1; obtain ⟨p0, p1, p2⟩ := Lies.cells3 hSw.2; go_simp; (try with_reducible rfl))
        try simp only [Act.put, List.setIfInBounds_toArray, List.set_cons_zero, List.set_cons_succ]
        refine wpAnyH_ready (rs := [9]) (by kernel_rfl) (by simp) ?_
        refine AllReadyH.cons rfl (fun K hK => ?_) AllReadyH.nil
        refine stp_upd none _ _ _ 55 (.tmp 68) (.tmp 69) (.tmp 73) (.map (some b.h)) (.int .u32 (o : Int)) (vH ⟨o, k.n, n⟩) w4 rfl rfl rfl HU4.out.1 ?_
        obtain ⟨hA4, hF4⟩ := HA3.out.drew.turnH HU4.out.2.1 HU4.out.2.2
        have HA4 := Lib.hid hA4
        have HF4 := Lib.hid (HF3.out.drew.trans hF4)
        refine hK.out _ _ ⟨hA4.c, hF4.lies (g := w.heap.size + 1) (t := 60) (w := w3.drew) L3.out (by have := HA.out.ok.lt; omega) (by have := HA.out.oh.lt; omega)⟩ (fun hH1 => ?_)
        clear hA4 hF4 hK K hH0
        try simp only [Act.put, List.setIfInBounds_toArray, List.set_cons_zero, List.set_cons_succ]
        clear hH1
        refine wpAnyH_done (by kernel_rfl) ?_ _
        refine NoPanic.normal ?_
        go_wp2
        go_ret
        refine ⟨by rw [HV.out]; rfl, ?_, HF4.out⟩
        rw [holdS_yes HV.out HK.out]
        exact HA4.out
      · have e3 : decide (k.f < n) = true := by simpa using h3
        have hv : holdV q o k.n n = false := by
          rw [← Bool.not_eq_true, holdV_iff]
          exact fun h => by obtain ⟨k', h', h2⟩ := h.2.2.2; rw [hk] at h'; injection h' with h'; subst h'; exact h3 h2
        have HV := Lib.hid hv
        clear hA hI lk1 hv hk
        go_enter Try.func26, Try.ntmps26
        go_wp2
        go_ret
        exact hold_same HV.out HA.out (below2 _ _ _)

end Go.Proofs.Ytimoobhnhldgbaa
