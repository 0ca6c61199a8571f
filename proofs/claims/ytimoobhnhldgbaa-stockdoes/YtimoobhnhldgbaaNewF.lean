/-
  The contract of New.
-/
import Derived.Test.YtimoobhnhldgbaaNewM
namespace Go.Proofs.Ytimoobhnhldgbaa
open Go.Proofs Go.RowKit
set_option maxRecDepth 100000
set_option linter.unusedVariables false
set_option linter.unusedSimpArgs false

def NewPost (w : World) (l : List Gd) (e : Ending) (w' : World) : Prop :=
  Below w.heap.size w w' ∧ ((newOf l = none ∧ e = .returned (.tuple #[.pointer none, .int .i64 2])) ∨
    ∃ K b, newOf l = some K ∧ e = .returned (.tuple #[.pointer (some ⟨b.s, 0, none⟩), .int .i64 0]) ∧ At w' b ⟨K, []⟩ ∧ w.heap.size ≤ b.s ∧ w.heap.size ≤ b.k ∧ w.heap.size ≤ b.h)

def NwR (w : World) (l : List Gd) (b : SB) (i : Value) (wr : World) : Prop :=
  ∃ (j : Nat) (K : List Kd), j ≤ l.length ∧ i = .int .i64 (j : Int) ∧ newGo [] (l.take j) = some K ∧ At wr b ⟨K, []⟩ ∧ Below w.heap.size w wr

set_option maxHeartbeats 8000000 in
theorem new_any (A : Option Addr) (n c : Nat) (l : List Gd) (w : World) (hG : Gin w A n l) (hn : n ≤ 1000) (hL : ∀ g ∈ l, g.n.length ≤ 1000000) :
    Calls Try.prog 11 #[.slice A n c] w (NewPost w l) := by
  have HG := Lib.hid hG
  have HL := Lib.hid hL
  have HLN := Lib.hid hG.1
  clear hG hL
  by_cases h50 : 50 < n
  · have hno : newOf l = none := by unfold newOf; rw [if_pos (by rw [HLN.out]; exact h50)]
    have HNO := Lib.hid hno
    have e0 : (50 : Int) < (n : Int) := by omega
    clear hno
    go_enter Try.func11, Try.ntmps11
    go_wp2
    go_ret2
    exact ⟨Below.refl _ _, .inl ⟨HNO.out, rfl⟩⟩
  · have e0 : (n : Int) ≤ 50 := by omega
    have hmk := fun W => run_mk54 n W
    have hmm := @run_makeMap Try.prog
    go_enter Try.func11, Try.ntmps11
    go_wp2_with fail
    obtain ⟨y, hy⟩ : ∃ y, y = ((w.alloc (.map #[] 0)).alloc (.map #[] 0)).alloc (.cells #[.map (some w.heap.size), .map (some (w.heap.size + 1))] 57) := ⟨_, rfl⟩
    rw [← hy]
    have hK0 := (OwnK.made w)
    have hH0 := (OwnH.made (w.alloc (.map #[] 0)))
    rw [size_one] at hH0
    have HAy : Hid (At y ⟨w.heap.size + 1 + 1, w.heap.size, w.heap.size + 1⟩ ⟨[], []⟩) := Lib.hid (by
      rw [hy]
      refine ⟨Lies.made3 w _ _ _ _, ?_, ?_, by show w.heap.size ≠ w.heap.size + 1; omega⟩
      · exact hK0.same ((Below.heap_alloc _ _ _ (by simp; omega)).trans (Below.heap_alloc _ _ _ (by simp)))
      · exact hH0.same (Below.heap_alloc _ _ _ (by simp)))
    have BY : Hid (Below w.heap.size w y) := Lib.hid (by rw [hy]; exact (below2 w _ _).alloc (by simp; omega) _)
    clear hy hK0 hH0 hmk hmm
    obtain ⟨gs, e1⟩ : ∃ gs, gs = w.heap.size + 1 + 1 := ⟨_, rfl⟩
    obtain ⟨gh, e2⟩ : ∃ gh, gh = w.heap.size + 1 := ⟨_, rfl⟩
    obtain ⟨gk, e3⟩ : ∃ gk, gk = w.heap.size := ⟨_, rfl⟩
    have HB0 : Hid (Below gk w y ∧ gk = w.heap.size) := Lib.hid ⟨by rw [e3]; exact BY.out, e3⟩
    have HGS : Hid (w.heap.size ≤ gs ∧ w.heap.size ≤ gk ∧ w.heap.size ≤ gh) := Lib.hid ⟨by omega, by omega, by omega⟩
    rw [← e1, ← e2, ← e3] at HAy
    rw [← e1, ← e2, ← e3]
    clear e1 e2 e3
    go_loopw [21] (fun i wr => NwR w l ⟨gs, gk, gh⟩ i wr) (fun i _ => n - (intOf i).toNat)
    case atStart => exact ⟨0, [], by omega, rfl, rfl, HAy.out, BY.out⟩
    case round =>
      clear HAy BY HB0
      obtain ⟨j, K, hj, rfl, hgo, hA, hB⟩ := hrel
      have HA := Lib.hid hA
      have HB := Lib.hid hB
      have HGO := Lib.hid hgo
      clear hA hB hgo
      have hjn : j ≤ n := by have := HLN.out; omega
      by_cases hlt : j < n
      · have hlt2 : (j : Int) < (n : Int) := by omega
        have hlt3 : j < l.length := by have := HLN.out; omega
        obtain ⟨b0, off, hA0, hbl, hcell⟩ := HG.out.2 (by omega)
        obtain ⟨x0, x1⟩ := hcell j hlt3
        obtain ⟨xx, hxx⟩ : ∃ q, l[j] = q := ⟨_, rfl⟩
        have HST := Lib.hid (newGo_step hlt3 HGO.out)
        have HXL : Hid (xx.n.length ≤ maxLen) := Lib.hid (by have := HL.out l[j] (List.getElem_mem hlt3); rw [hxx] at this; unfold maxLen; omega)
        have HXM : Hid (xx.n.length ≤ 1000000) := Lib.hid (by have := HL.out l[j] (List.getElem_mem hlt3); rw [hxx] at this; exact this)
        rw [hxx] at x0 x1 HST
        rw [← HB.out.cell (p := ⟨b0, off + j * 2, none⟩) hbl] at x0
        rw [← HB.out.cell (p := ⟨b0, off + j * 2 + 1, none⟩) hbl] at x1
        clear hcell hxx
        subst hA0
        obtain ⟨xn, xf⟩ := xx
        dsimp only at x0 x1 HXL HXM
        have HKZ : Hid (K.length ≤ 1000000) := Lib.hid (by
          have := (NewK.go HGO.out).len
          rw [this, List.length_take]; omega)
        have HSO := Lib.hid (NewK.go HGO.out).ks
        go_wp2_with fail
        obtain ⟨y6, hy6⟩ : ∃ y6, y6 = wr.alloc (.cells #[encStr xn, .int .i64 xf] 46) := ⟨_, rfl⟩
        rw [← hy6]
        have HA6 : Hid (At y6 ⟨gs, gk, gh⟩ ⟨K, []⟩) := Lib.hid (by rw [hy6]; exact HA.out.alloc _)
        have L6 : Hid (Lies y6 wr.heap.size 46 #[encStr xn, .int .i64 xf]) := Lib.hid (by rw [hy6]; exact Lies.made _ _ _)
        have HB6 : Hid (Below w.heap.size w y6) := Lib.hid (by rw [hy6]; exact HB.out.alloc HB.out.size _)
        clear hy6 x0 x1
        cases hf : findK K xn with
        | some k =>
          have HFK := Lib.hid hf
          have hno : newOf l = none := by
            unfold newOf
            rw [if_neg (by rw [HLN.out]; omega)]
            refine newGo_none (j := j + 1) ?_
            rw [HST.out]
            unfold addG
            rw [if_pos (by rw [hf]; rfl)]
          have HNO := Lib.hid hno
          clear hf hno
          refine wp_region_noPanic ?_
          refine wp_region_held_drew (S := fun W => (Lies W gs 57 #[.map (some gk), .map (some gh)] ∧ Lies W wr.heap.size 46 #[encStr xn, .int .i64 xf]) ∧ OwnK W gk K) (by kernel_rfl) ⟨⟨HA6.out.c, L6.out⟩, HA6.out.ok⟩ (fun hH0 => ?_)
          refine any_take 0 26 ?va0 rfl rfl (by kernel_rfl) (by kernel_rfl) (by kernel_rfl) (fun _ _ _ h => h) (by rfl) ?hya0 hH0 ?resta0
          case hya0 => ((intro W hSw); obtain ⟨o0, o1⟩ := Lies.cells2 hSw.1.1; obtain ⟨p0, p1⟩ := Lies.cells2 hSw.1.2; have lk := hSw.2.look_ok xn HXL.out; rw [HFK.out] at lk; dsimp only [Option.getD_some, Option.getD_none, Option.isSome_some, Option.isSome_none] at lk; go_simp; (try with_reducible rfl))
          try simp only [Act.put, List.setIfInBounds_toArray, List.set_cons_zero, List.set_cons_succ]
          refine any_take 1 27 ?va1 rfl rfl (by kernel_rfl) (by kernel_rfl) (by kernel_rfl) (fun _ _ _ h => h) (by rfl) ?hya1 hH0 ?resta1
          case hya1 => ((intro W hSw); obtain ⟨o0, o1⟩ := Lies.cells2 hSw.1.1; obtain ⟨p0, p1⟩ := Lies.cells2 hSw.1.2; have lk := hSw.2.look_ok xn HXL.out; rw [HFK.out] at lk; dsimp only [Option.getD_some, Option.getD_none, Option.isSome_some, Option.isSome_none] at lk; go_simp; (try with_reducible rfl))
          try simp only [Act.put, List.setIfInBounds_toArray, List.set_cons_zero, List.set_cons_succ]
          refine any_take 2 28 ?va2 rfl rfl (by kernel_rfl) (by kernel_rfl) (by kernel_rfl) (fun _ _ _ h => h) (by rfl) ?hya2 hH0 ?resta2
          case hya2 => ((intro W hSw); obtain ⟨o0, o1⟩ := Lies.cells2 hSw.1.1; obtain ⟨p0, p1⟩ := Lies.cells2 hSw.1.2; have lk := hSw.2.look_ok xn HXL.out; rw [HFK.out] at lk; dsimp only [Option.getD_some, Option.getD_none, Option.isSome_some, Option.isSome_none] at lk; go_simp; (try with_reducible rfl))
          try simp only [Act.put, List.setIfInBounds_toArray, List.set_cons_zero, List.set_cons_succ]
          refine any_take 3 29 ?va3 rfl rfl (by kernel_rfl) (by kernel_rfl) (by kernel_rfl) (fun _ _ _ h => h) (by rfl) ?hya3 hH0 ?resta3
          case hya3 => ((intro W hSw); obtain ⟨o0, o1⟩ := Lies.cells2 hSw.1.1; obtain ⟨p0, p1⟩ := Lies.cells2 hSw.1.2; have lk := hSw.2.look_ok xn HXL.out; rw [HFK.out] at lk; dsimp only [Option.getD_some, Option.getD_none, Option.isSome_some, Option.isSome_none] at lk; go_simp; (try with_reducible rfl))
          try simp only [Act.put, List.setIfInBounds_toArray, List.set_cons_zero, List.set_cons_succ]
          refine any_take 4 30 ?va4 rfl rfl (by kernel_rfl) (by kernel_rfl) (by kernel_rfl) (fun _ _ _ h => h) (by rfl) ?hya4 hH0 ?resta4
          case hya4 => ((intro W hSw); obtain ⟨o0, o1⟩ := Lies.cells2 hSw.1.1; obtain ⟨p0, p1⟩ := Lies.cells2 hSw.1.2; have lk := hSw.2.look_ok xn HXL.out; rw [HFK.out] at lk; dsimp only [Option.getD_some, Option.getD_none, Option.isSome_some, Option.isSome_none] at lk; go_simp; (try with_reducible rfl))
          try simp only [Act.put, List.setIfInBounds_toArray, List.set_cons_zero, List.set_cons_succ]
          refine any_take 5 31 ?va5 rfl rfl (by kernel_rfl) (by kernel_rfl) (by kernel_rfl) (fun _ _ _ h => h) (by rfl) ?hya5 hH0 ?resta5
          case hya5 => ((intro W hSw); obtain ⟨o0, o1⟩ := Lies.cells2 hSw.1.1; obtain ⟨p0, p1⟩ := Lies.cells2 hSw.1.2; have lk := hSw.2.look_ok xn HXL.out; rw [HFK.out] at lk; dsimp only [Option.getD_some, Option.getD_none, Option.isSome_some, Option.isSome_none] at lk; go_simp; (try with_reducible rfl))
          try simp only [Act.put, List.setIfInBounds_toArray, List.set_cons_zero, List.set_cons_succ]
          refine any_take 6 32 ?va6 rfl rfl (by kernel_rfl) (by kernel_rfl) (by kernel_rfl) (fun _ _ _ h => h) (by rfl) ?hya6 hH0 ?resta6
          case hya6 => ((intro W hSw); obtain ⟨o0, o1⟩ := Lies.cells2 hSw.1.1; obtain ⟨p0, p1⟩ := Lies.cells2 hSw.1.2; have lk := hSw.2.look_ok xn HXL.out; rw [HFK.out] at lk; dsimp only [Option.getD_some, Option.getD_none, Option.isSome_some, Option.isSome_none] at lk; go_simp; (try with_reducible rfl))
          try simp only [Act.put, List.setIfInBounds_toArray, List.set_cons_zero, List.set_cons_succ]
          refine any_take 7 25 ?va7 rfl rfl (by kernel_rfl) (by kernel_rfl) (by kernel_rfl) (fun _ _ _ h => h) (by rfl) ?hya7 hH0 ?resta7
          case hya7 => ((intro W hSw); obtain ⟨o0, o1⟩ := Lies.cells2 hSw.1.1; obtain ⟨p0, p1⟩ := Lies.cells2 hSw.1.2; have lk := hSw.2.look_ok xn HXL.out; rw [HFK.out] at lk; dsimp only [Option.getD_some, Option.getD_none, Option.isSome_some, Option.isSome_none] at lk; go_simp; (try with_reducible rfl))
          try simp only [Act.put, List.setIfInBounds_toArray, List.set_cons_zero, List.set_cons_succ]
          refine any_take 8 33 ?va8 rfl rfl (by kernel_rfl) (by kernel_rfl) (by kernel_rfl) (fun _ _ _ h => h) (by rfl) ?hya8 hH0 ?resta8
          case hya8 => ((intro W hSw); obtain ⟨o0, o1⟩ := Lies.cells2 hSw.1.1; obtain ⟨p0, p1⟩ := Lies.cells2 hSw.1.2; have lk := hSw.2.look_ok xn HXL.out; rw [HFK.out] at lk; dsimp only [Option.getD_some, Option.getD_none, Option.isSome_some, Option.isSome_none] at lk; go_simp; (try with_reducible rfl))
          try simp only [Act.put, List.setIfInBounds_toArray, List.set_cons_zero, List.set_cons_succ]
          refine any_take 9 34 ?va9 rfl rfl (by kernel_rfl) (by kernel_rfl) (by kernel_rfl) (fun _ _ _ h => h) (by rfl) ?hya9 hH0 ?resta9
          case hya9 => ((intro W hSw); obtain ⟨o0, o1⟩ := Lies.cells2 hSw.1.1; obtain ⟨p0, p1⟩ := Lies.cells2 hSw.1.2; have lk := hSw.2.look_ok xn HXL.out; rw [HFK.out] at lk; dsimp only [Option.getD_some, Option.getD_none, Option.isSome_some, Option.isSome_none] at lk; go_simp; (try with_reducible rfl))
          try simp only [Act.put, List.setIfInBounds_toArray, List.set_cons_zero, List.set_cons_succ]
          refine wpAnyH_ready (rs := [10]) (by kernel_rfl) (by simp) ?_
          refine AllReadyH.cons rfl (fun K' hK => ?_) AllReadyH.nil
          go_simp
          refine hK.out _ _ ⟨⟨(HA6.out.drew.alloc _).c, Lies.alloc (w := y6.drew) L6.out _⟩, (HA6.out.drew.alloc _).ok⟩ (fun hH1 => ?_)
          clear hK K' hH0
          try simp only [Act.put, List.setIfInBounds_toArray, List.set_cons_zero, List.set_cons_succ]
          refine wpAnyH_ready (rs := [11]) (by kernel_rfl) (by simp) ?_
          refine AllReadyH.cons rfl (fun K' hK => ?_) AllReadyH.nil
          go_simp
          refine hK.out _ _ ⟨⟨(HA6.out.drew.alloc _).c, Lies.alloc (w := y6.drew) L6.out _⟩, (HA6.out.drew.alloc _).ok⟩ (fun hH2 => ?_)
          clear hK K' hH1
          try simp only [Act.put, List.setIfInBounds_toArray, List.set_cons_zero, List.set_cons_succ]
          refine any_take 12 8 ?va12 rfl rfl (by kernel_rfl) (by kernel_rfl) (by kernel_rfl) (fun _ _ _ h => h) (by rfl) ?hya12 hH2 ?resta12
          case hya12 => ((intro W hSw); obtain ⟨o0, o1⟩ := Lies.cells2 hSw.1.1; obtain ⟨p0, p1⟩ := Lies.cells2 hSw.1.2; have lk := hSw.2.look_ok xn HXL.out; rw [HFK.out] at lk; dsimp only [Option.getD_some, Option.getD_none, Option.isSome_some, Option.isSome_none] at lk; go_simp; (try with_reducible rfl))
          try simp only [Act.put, List.setIfInBounds_toArray, List.set_cons_zero, List.set_cons_succ]
          clear hH2
          refine wpAnyH_done (by kernel_rfl) ?_ _
          refine NoPanic.normal ?_
          obtain ⟨y7, hy7⟩ : ∃ y7, y7 = (y6.alloc (.cells #[encStr k.n, .int .i64 k.f, .int .i64 k.g] 60)).drew := ⟨_, rfl⟩
          rw [← hy7]
          have HA7 : Hid (At y7 ⟨gs, gk, gh⟩ ⟨K, []⟩) := Lib.hid (by rw [hy7]; exact (HA6.out.alloc _).drew)
          have L7 : Hid (Lies y7 wr.heap.size 46 #[encStr xn, .int .i64 xf]) := Lib.hid (by rw [hy7]; exact Lies.alloc (w := y6) L6.out _)
          have HB7 : Hid (Below w.heap.size w y7) := Lib.hid (by rw [hy7]; exact ((HB6.out.alloc HB6.out.size _).drew))
          clear hy7
          go_wp2
          go_ret2
          exact ⟨HB7.out, .inl ⟨HNO.out, rfl⟩⟩
        | none =>
          have HFK := Lib.hid hf
          clear hf
          refine wp_region_noPanic ?_
          refine wp_region_held_drew (S := fun W => (Lies W gs 57 #[.map (some gk), .map (some gh)] ∧ Lies W wr.heap.size 46 #[encStr xn, .int .i64 xf]) ∧ OwnK W gk K) (by kernel_rfl) ⟨⟨HA6.out.c, L6.out⟩, HA6.out.ok⟩ (fun hH0 => ?_)
          refine any_take 0 26 ?vb0 rfl rfl (by kernel_rfl) (by kernel_rfl) (by kernel_rfl) (fun _ _ _ h => h) (by rfl) ?hyb0 hH0 ?restb0
          case hyb0 => ((intro W hSw); obtain ⟨o0, o1⟩ := Lies.cells2 hSw.1.1; obtain ⟨p0, p1⟩ := Lies.cells2 hSw.1.2; have lk := hSw.2.look_ok xn HXL.out; rw [HFK.out] at lk; dsimp only [Option.getD_some, Option.getD_none, Option.isSome_some, Option.isSome_none] at lk; go_simp; (try with_reducible rfl))
          try simp only [Act.put, List.setIfInBounds_toArray, List.set_cons_zero, List.set_cons_succ]
          refine any_take 1 27 ?vb1 rfl rfl (by kernel_rfl) (by kernel_rfl) (by kernel_rfl) (fun _ _ _ h => h) (by rfl) ?hyb1 hH0 ?restb1
          case hyb1 => ((intro W hSw); obtain ⟨o0, o1⟩ := Lies.cells2 hSw.1.1; obtain ⟨p0, p1⟩ := Lies.cells2 hSw.1.2; have lk := hSw.2.look_ok xn HXL.out; rw [HFK.out] at lk; dsimp only [Option.getD_some, Option.getD_none, Option.isSome_some, Option.isSome_none] at lk; go_simp; (try with_reducible rfl))
          try simp only [Act.put, List.setIfInBounds_toArray, List.set_cons_zero, List.set_cons_succ]
          refine any_take 2 28 ?vb2 rfl rfl (by kernel_rfl) (by kernel_rfl) (by kernel_rfl) (fun _ _ _ h => h) (by rfl) ?hyb2 hH0 ?restb2
          case hyb2 => ((intro W hSw); obtain ⟨o0, o1⟩ := Lies.cells2 hSw.1.1; obtain ⟨p0, p1⟩ := Lies.cells2 hSw.1.2; have lk := hSw.2.look_ok xn HXL.out; rw [HFK.out] at lk; dsimp only [Option.getD_some, Option.getD_none, Option.isSome_some, Option.isSome_none] at lk; go_simp; (try with_reducible rfl))
          try simp only [Act.put, List.setIfInBounds_toArray, List.set_cons_zero, List.set_cons_succ]
          refine any_take 3 29 ?vb3 rfl rfl (by kernel_rfl) (by kernel_rfl) (by kernel_rfl) (fun _ _ _ h => h) (by rfl) ?hyb3 hH0 ?restb3
          case hyb3 => ((intro W hSw); obtain ⟨o0, o1⟩ := Lies.cells2 hSw.1.1; obtain ⟨p0, p1⟩ := Lies.cells2 hSw.1.2; have lk := hSw.2.look_ok xn HXL.out; rw [HFK.out] at lk; dsimp only [Option.getD_some, Option.getD_none, Option.isSome_some, Option.isSome_none] at lk; go_simp; (try with_reducible rfl))
          try simp only [Act.put, List.setIfInBounds_toArray, List.set_cons_zero, List.set_cons_succ]
          refine any_take 4 30 ?vb4 rfl rfl (by kernel_rfl) (by kernel_rfl) (by kernel_rfl) (fun _ _ _ h => h) (by rfl) ?hyb4 hH0 ?restb4
          case hyb4 => ((intro W hSw); obtain ⟨o0, o1⟩ := Lies.cells2 hSw.1.1; obtain ⟨p0, p1⟩ := Lies.cells2 hSw.1.2; have lk := hSw.2.look_ok xn HXL.out; rw [HFK.out] at lk; dsimp only [Option.getD_some, Option.getD_none, Option.isSome_some, Option.isSome_none] at lk; go_simp; (try with_reducible rfl))
          try simp only [Act.put, List.setIfInBounds_toArray, List.set_cons_zero, List.set_cons_succ]
          refine any_take 5 31 ?vb5 rfl rfl (by kernel_rfl) (by kernel_rfl) (by kernel_rfl) (fun _ _ _ h => h) (by rfl) ?hyb5 hH0 ?restb5
          case hyb5 => ((intro W hSw); obtain ⟨o0, o1⟩ := Lies.cells2 hSw.1.1; obtain ⟨p0, p1⟩ := Lies.cells2 hSw.1.2; have lk := hSw.2.look_ok xn HXL.out; rw [HFK.out] at lk; dsimp only [Option.getD_some, Option.getD_none, Option.isSome_some, Option.isSome_none] at lk; go_simp; (try with_reducible rfl))
          try simp only [Act.put, List.setIfInBounds_toArray, List.set_cons_zero, List.set_cons_succ]
          refine any_take 6 32 ?vb6 rfl rfl (by kernel_rfl) (by kernel_rfl) (by kernel_rfl) (fun _ _ _ h => h) (by rfl) ?hyb6 hH0 ?restb6
          case hyb6 => ((intro W hSw); obtain ⟨o0, o1⟩ := Lies.cells2 hSw.1.1; obtain ⟨p0, p1⟩ := Lies.cells2 hSw.1.2; have lk := hSw.2.look_ok xn HXL.out; rw [HFK.out] at lk; dsimp only [Option.getD_some, Option.getD_none, Option.isSome_some, Option.isSome_none] at lk; go_simp; (try with_reducible rfl))
          try simp only [Act.put, List.setIfInBounds_toArray, List.set_cons_zero, List.set_cons_succ]
          refine any_take 7 25 ?vb7 rfl rfl (by kernel_rfl) (by kernel_rfl) (by kernel_rfl) (fun _ _ _ h => h) (by rfl) ?hyb7 hH0 ?restb7
          case hyb7 => ((intro W hSw); obtain ⟨o0, o1⟩ := Lies.cells2 hSw.1.1; obtain ⟨p0, p1⟩ := Lies.cells2 hSw.1.2; have lk := hSw.2.look_ok xn HXL.out; rw [HFK.out] at lk; dsimp only [Option.getD_some, Option.getD_none, Option.isSome_some, Option.isSome_none] at lk; go_simp; (try with_reducible rfl))
          try simp only [Act.put, List.setIfInBounds_toArray, List.set_cons_zero, List.set_cons_succ]
          refine any_take 8 33 ?vb8 rfl rfl (by kernel_rfl) (by kernel_rfl) (by kernel_rfl) (fun _ _ _ h => h) (by rfl) ?hyb8 hH0 ?restb8
          case hyb8 => ((intro W hSw); obtain ⟨o0, o1⟩ := Lies.cells2 hSw.1.1; obtain ⟨p0, p1⟩ := Lies.cells2 hSw.1.2; have lk := hSw.2.look_ok xn HXL.out; rw [HFK.out] at lk; dsimp only [Option.getD_some, Option.getD_none, Option.isSome_some, Option.isSome_none] at lk; go_simp; (try with_reducible rfl))
          try simp only [Act.put, List.setIfInBounds_toArray, List.set_cons_zero, List.set_cons_succ]
          refine any_take 9 34 ?vb9 rfl rfl (by kernel_rfl) (by kernel_rfl) (by kernel_rfl) (fun _ _ _ h => h) (by rfl) ?hyb9 hH0 ?restb9
          case hyb9 => ((intro W hSw); obtain ⟨o0, o1⟩ := Lies.cells2 hSw.1.1; obtain ⟨p0, p1⟩ := Lies.cells2 hSw.1.2; have lk := hSw.2.look_ok xn HXL.out; rw [HFK.out] at lk; dsimp only [Option.getD_some, Option.getD_none, Option.isSome_some, Option.isSome_none] at lk; go_simp; (try with_reducible rfl))
          try simp only [Act.put, List.setIfInBounds_toArray, List.set_cons_zero, List.set_cons_succ]
          refine wpAnyH_ready (rs := [10]) (by kernel_rfl) (by simp) ?_
          refine AllReadyH.cons rfl (fun K' hK => ?_) AllReadyH.nil
          go_simp
          refine hK.out _ _ ⟨⟨(HA6.out.drew.alloc _).c, Lies.alloc (w := y6.drew) L6.out _⟩, (HA6.out.drew.alloc _).ok⟩ (fun hH1 => ?_)
          clear hK K' hH0
          try simp only [Act.put, List.setIfInBounds_toArray, List.set_cons_zero, List.set_cons_succ]
          refine wpAnyH_ready (rs := [11]) (by kernel_rfl) (by simp) ?_
          refine AllReadyH.cons rfl (fun K' hK => ?_) AllReadyH.nil
          go_simp
          refine hK.out _ _ ⟨⟨(HA6.out.drew.alloc _).c, Lies.alloc (w := y6.drew) L6.out _⟩, (HA6.out.drew.alloc _).ok⟩ (fun hH2 => ?_)
          clear hK K' hH1
          try simp only [Act.put, List.setIfInBounds_toArray, List.set_cons_zero, List.set_cons_succ]
          refine any_take 12 8 ?vb12 rfl rfl (by kernel_rfl) (by kernel_rfl) (by kernel_rfl) (fun _ _ _ h => h) (by rfl) ?hyb12 hH2 ?restb12
          case hyb12 => ((intro W hSw); obtain ⟨o0, o1⟩ := Lies.cells2 hSw.1.1; obtain ⟨p0, p1⟩ := Lies.cells2 hSw.1.2; have lk := hSw.2.look_ok xn HXL.out; rw [HFK.out] at lk; dsimp only [Option.getD_some, Option.getD_none, Option.isSome_some, Option.isSome_none] at lk; go_simp; (try with_reducible rfl))
          try simp only [Act.put, List.setIfInBounds_toArray, List.set_cons_zero, List.set_cons_succ]
          clear hH2
          refine wpAnyH_done (by kernel_rfl) ?_ _
          refine NoPanic.normal ?_
          obtain ⟨y7, hy7⟩ : ∃ y7, y7 = (y6.alloc (.cells #[encStr zK.n, .int .i64 zK.f, .int .i64 zK.g] 60)).drew := ⟨_, rfl⟩
          rw [← hy7]
          have HA7 : Hid (At y7 ⟨gs, gk, gh⟩ ⟨K, []⟩) := Lib.hid (by rw [hy7]; exact (HA6.out.alloc _).drew)
          have L7 : Hid (Lies y7 wr.heap.size 46 #[encStr xn, .int .i64 xf]) := Lib.hid (by rw [hy7]; exact Lies.alloc (w := y6) L6.out _)
          have HB7 : Hid (Below w.heap.size w y7) := Lib.hid (by rw [hy7]; exact ((HB6.out.alloc HB6.out.size _).drew))
          clear hy7
          obtain ⟨p0, p1⟩ := L7.out.cells2
          go_wp2_with fail
          with_reducible refine (isGood_any xn xf _ (by have := HXM.out; omega)).mono ?_
          rintro e y8 ⟨rfl, hb8⟩
          have HA8 := Lib.hid (HA7.out.below hb8)
          have L8 := Lib.hid (Lies.below L7.out hb8 L7.out.lt)
          have HB8 := Lib.hid (HB7.out.trans (hb8.mono HB7.out.size))
          clear hb8 p0 p1
          obtain ⟨p0, p1⟩ := L8.out.cells2
          cases hgb : goodB xn xf
          · have hno : newOf l = none := by
              unfold newOf
              rw [if_neg (by rw [HLN.out]; omega)]
              refine newGo_none (j := j + 1) ?_
              rw [HST.out]
              unfold addG
              rw [if_pos (by dsimp only; rw [hgb]; simp)]
            have HNO := Lib.hid hno
            clear hgb hno
            go_wp2
            go_ret2
            exact ⟨HB8.out, .inl ⟨HNO.out, rfl⟩⟩
          · have hst : newGo [] (l.take (j + 1)) = some (insK ⟨xn, xf, 0⟩ K) := by
              rw [HST.out]
              unfold addG
              rw [if_neg (by dsimp only; rw [hgb, HFK.out]; simp)]
            have HS2 := Lib.hid hst
            clear hgb hst
            go_wp2_with fail
            with_reducible refine (clone_any xn _ HXM.out).mono ?_
            rintro e y9 ⟨rfl, hb9⟩
            have HA9 := Lib.hid (HA8.out.below hb9)
            have L9 := Lib.hid (Lies.below L8.out hb9 L8.out.lt)
            have HB9 := Lib.hid (HB8.out.trans (hb9.mono HB8.out.size))
            clear hb9 p0 p1
            go_wp2_with fail
            obtain ⟨w3, hu1, hu2, hu3⟩ := HA9.out.drew.ok.add ⟨xn, xf, 0⟩ (findK_none HFK.out) HXL.out HKZ.out
            have HU := Lib.hid (And.intro hu1 (And.intro hu2 hu3))
            clear hu1 hu2 hu3
            refine wp_region_noPanic ?_
            refine wp_region_held_drew (S := fun W => Lies W gs 57 #[.map (some gk), .map (some gh)] ∧ Lies W wr.heap.size 46 #[encStr xn, .int .i64 xf]) (by kernel_rfl) ⟨HA9.out.c, L9.out⟩ (fun hH0 => ?_)
            refine any_take 0 44 ?vc0 rfl rfl (by kernel_rfl) (by kernel_rfl) (by kernel_rfl) (fun _ _ _ h => h) (by rfl) ?hyc0 hH0 ?restc0
            case hyc0 => ((intro W hSw); obtain ⟨o0, o1⟩ := Lies.cells2 hSw.1; obtain ⟨p0, p1⟩ := Lies.cells2 hSw.2; go_simp; (try with_reducible rfl))
            try simp only [Act.put, List.setIfInBounds_toArray, List.set_cons_zero, List.set_cons_succ]
            refine any_take 1 45 ?vc1 rfl rfl (by kernel_rfl) (by kernel_rfl) (by kernel_rfl) (fun _ _ _ h => h) (by rfl) ?hyc1 hH0 ?restc1
            case hyc1 => ((intro W hSw); obtain ⟨o0, o1⟩ := Lies.cells2 hSw.1; obtain ⟨p0, p1⟩ := Lies.cells2 hSw.2; go_simp; (try with_reducible rfl))
            try simp only [Act.put, List.setIfInBounds_toArray, List.set_cons_zero, List.set_cons_succ]
            refine any_take 2 46 ?vc2 rfl rfl (by kernel_rfl) (by kernel_rfl) (by kernel_rfl) (fun _ _ _ h => h) (by rfl) ?hyc2 hH0 ?restc2
            case hyc2 => ((intro W hSw); obtain ⟨o0, o1⟩ := Lies.cells2 hSw.1; obtain ⟨p0, p1⟩ := Lies.cells2 hSw.2; go_simp; (try with_reducible rfl))
            try simp only [Act.put, List.setIfInBounds_toArray, List.set_cons_zero, List.set_cons_succ]
            refine any_take 3 47 ?vc3 rfl rfl (by kernel_rfl) (by kernel_rfl) (by kernel_rfl) (fun _ _ _ h => h) (by rfl) ?hyc3 hH0 ?restc3
            case hyc3 => ((intro W hSw); obtain ⟨o0, o1⟩ := Lies.cells2 hSw.1; obtain ⟨p0, p1⟩ := Lies.cells2 hSw.2; go_simp; (try with_reducible rfl))
            try simp only [Act.put, List.setIfInBounds_toArray, List.set_cons_zero, List.set_cons_succ]
            refine any_take 4 48 ?vc4 rfl rfl (by kernel_rfl) (by kernel_rfl) (by kernel_rfl) (fun _ _ _ h => h) (by rfl) ?hyc4 hH0 ?restc4
            case hyc4 => ((intro W hSw); obtain ⟨o0, o1⟩ := Lies.cells2 hSw.1; obtain ⟨p0, p1⟩ := Lies.cells2 hSw.2; go_simp; (try with_reducible rfl))
            try simp only [Act.put, List.setIfInBounds_toArray, List.set_cons_zero, List.set_cons_succ]
            refine any_take 5 49 ?vc5 rfl rfl (by kernel_rfl) (by kernel_rfl) (by kernel_rfl) (fun _ _ _ h => h) (by rfl) ?hyc5 hH0 ?restc5
            case hyc5 => ((intro W hSw); obtain ⟨o0, o1⟩ := Lies.cells2 hSw.1; obtain ⟨p0, p1⟩ := Lies.cells2 hSw.2; go_simp; (try with_reducible rfl))
            try simp only [Act.put, List.setIfInBounds_toArray, List.set_cons_zero, List.set_cons_succ]
            refine any_take 6 50 ?vc6 rfl rfl (by kernel_rfl) (by kernel_rfl) (by kernel_rfl) (fun _ _ _ h => h) (by rfl) ?hyc6 hH0 ?restc6
            case hyc6 => ((intro W hSw); obtain ⟨o0, o1⟩ := Lies.cells2 hSw.1; obtain ⟨p0, p1⟩ := Lies.cells2 hSw.2; go_simp; (try with_reducible rfl))
            try simp only [Act.put, List.setIfInBounds_toArray, List.set_cons_zero, List.set_cons_succ]
            refine any_take 7 51 ?vc7 rfl rfl (by kernel_rfl) (by kernel_rfl) (by kernel_rfl) (fun _ _ _ h => h) (by rfl) ?hyc7 hH0 ?restc7
            case hyc7 => ((intro W hSw); obtain ⟨o0, o1⟩ := Lies.cells2 hSw.1; obtain ⟨p0, p1⟩ := Lies.cells2 hSw.2; go_simp; (try with_reducible rfl))
            try simp only [Act.put, List.setIfInBounds_toArray, List.set_cons_zero, List.set_cons_succ]
            refine any_take 8 52 ?vc8 rfl rfl (by kernel_rfl) (by kernel_rfl) (by kernel_rfl) (fun _ _ _ h => h) (by rfl) ?hyc8 hH0 ?restc8
            case hyc8 => ((intro W hSw); obtain ⟨o0, o1⟩ := Lies.cells2 hSw.1; obtain ⟨p0, p1⟩ := Lies.cells2 hSw.2; go_simp; (try with_reducible rfl))
            try simp only [Act.put, List.setIfInBounds_toArray, List.set_cons_zero, List.set_cons_succ]
            refine any_take 9 53 ?vc9 rfl rfl (by kernel_rfl) (by kernel_rfl) (by kernel_rfl) (fun _ _ _ h => h) (by rfl) ?hyc9 hH0 ?restc9
            case hyc9 => ((intro W hSw); obtain ⟨o0, o1⟩ := Lies.cells2 hSw.1; obtain ⟨p0, p1⟩ := Lies.cells2 hSw.2; go_simp; (try with_reducible rfl))
            try simp only [Act.put, List.setIfInBounds_toArray, List.set_cons_zero, List.set_cons_succ]
            refine wpAnyH_ready (rs := [10]) (by kernel_rfl) (by simp) ?_
            refine AllReadyH.cons rfl (fun K' hK => ?_) AllReadyH.nil
            refine stp_upd none _ _ _ 54 (.tmp 47) (.tmp 48) (.tmp 53) (.map (some gk)) (encStr xn) (vK ⟨xn, xf, 0⟩) w3 rfl rfl rfl HU.out.1 ?_
            obtain ⟨hA3, hF3⟩ := HA9.out.drew.turnK HU.out.2.1 HU.out.2.2
            have HA3 := Lib.hid hA3
            have HB3 : Hid (Below w.heap.size w w3) := Lib.hid (hF3.below (w := y9.drew) HB9.out.drew HB9.out.size HGS.out.2.1 HGS.out.2.2)
            refine hK.out _ _ ⟨hA3.c, hF3.lies (w := y9.drew) L9.out (Nat.ne_of_gt HA.out.ok.lt) (Nat.ne_of_gt HA.out.oh.lt)⟩ (fun hH1 => ?_)
            clear hA3 hF3 hK K' hH0
            try simp only [Act.put, List.setIfInBounds_toArray, List.set_cons_zero, List.set_cons_succ]
            clear hH1
            refine wpAnyH_done (by kernel_rfl) ?_ _
            refine NoPanic.normal ?_
            go_wp2
            go_roundw
            case rel => exact ⟨j + 1, insK ⟨xn, xf, 0⟩ K, by omega, by go_num, HS2.out, HA3.out, HB3.out⟩
            case measure => simp [intOf]; omega
      · have hj2 : j = l.length := by have := HLN.out; omega
        have HNW : Hid (newOf l = some K) := Lib.hid (by
          unfold newOf
          rw [if_neg (by rw [HLN.out]; omega)]
          have := HGO.out
          rw [hj2, List.take_length] at this
          exact this)
        have hnl : decide ((j : Int) < (n : Int)) = false := by simp; omega
        clear hj2
        go_wp2
        go_ret2
        exact ⟨HB.out, .inr ⟨K, ⟨gs, gk, gh⟩, HNW.out, rfl, HA.out, HGS.out⟩⟩

end Go.Proofs.Ytimoobhnhldgbaa
