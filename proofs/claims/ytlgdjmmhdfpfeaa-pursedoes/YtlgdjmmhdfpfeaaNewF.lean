/-
  The contract of New.
-/
import Derived.Test.YtlgdjmmhdfpfeaaNewM
import Derived.Test.YtlgdjmmhdfpfeaaStk
namespace Go.Proofs.Ytlgdjmmhdfpfeaa
open Go.Proofs Go.RowKit
set_option maxRecDepth 100000
set_option linter.unusedVariables false
set_option linter.unusedSimpArgs false

def NewPost (w : World) (l : List Kd) (e : Ending) (w' : World) : Prop :=
  Below w.heap.size w w' ∧ ((newOf l = none ∧ e = .returned (.tuple #[.pointer none, .int .i64 2])) ∨
    ∃ K b, newOf l = some K ∧ e = .returned (.tuple #[.pointer (some ⟨b.s, 0, none⟩), .int .i64 0]) ∧ At w' b ⟨K, []⟩ ∧ w.heap.size ≤ b.s ∧ ∀ i, b.isMap i → w.heap.size ≤ i)

/-- A purse that has its accounts, and no maps of payments yet. -/
structure At0 (w : World) (gs gk : Nat) (K : List Kd) : Prop where
  c : Lies w gs 58 #[.map (some gk), .map none, .map none, .map none, .map none]
  ok : OwnK w gk K
theorem At0.below {w w' : World} {gs gk : Nat} {K : List Kd} (h : At0 w gs gk K) (hb : Below w.heap.size w w') : At0 w' gs gk K := ⟨h.c.below hb h.c.lt, h.ok.same (hb.block _ h.ok.lt)⟩
theorem At0.alloc {w : World} {gs gk : Nat} {K : List Kd} (h : At0 w gs gk K) (o : Obj) : At0 (w.alloc o) gs gk K := h.below (below1 w o)
theorem At0.drew {w : World} {gs gk : Nat} {K : List Kd} (h : At0 w gs gk K) : At0 w.drew gs gk K := ⟨h.c, h.ok⟩
theorem At0.turnK {w w' : World} {gs gk : Nat} {K K' : List Kd} (h : At0 w gs gk K) (ho : OwnK w' gk K') (ht : w.mapTurned w' gk) : At0 w' gs gk K' ∧ w.grownBy w' (some gk) :=
  ⟨⟨h.c.same (ht.grown.block _ h.c.lt (fun e => h.ok.ne_lies h.c (Option.some.inj e).symm)), ho⟩, ht.grown⟩
def NwR (w : World) (l : List Kd) (gs gk : Nat) (i : Value) (wr : World) : Prop :=
  ∃ (j : Nat) (K : List Kd), j ≤ l.length ∧ i = .int .i64 (j : Int) ∧ newGo [] (l.take j) = some K ∧ At0 wr gs gk K ∧ Below w.heap.size w wr
def NwD (w : World) (gs gk : Nat) (K : List Kd) (v : Value) (wr : World) : Prop :=
    (v = .int .i64 1 ∧ Lies wr gs 58 #[.map (some gk), .map none, .map none, .map none, .map none] ∧ OwnK wr gk K ∧ Below w.heap.size w wr) ∨
    (v = .int .i64 2 ∧ ∃ a, Lies wr gs 58 #[.map (some gk), .map none, .map (some a), .map none, .map none] ∧ OwnK wr gk K ∧ Below w.heap.size w wr ∧ OwnH wr a [] ∧ gs < a) ∨
    (v = .int .i64 3 ∧ ∃ a b2, Lies wr gs 58 #[.map (some gk), .map none, .map (some a), .map (some b2), .map none] ∧ OwnK wr gk K ∧ Below w.heap.size w wr ∧ OwnH wr a [] ∧ OwnH wr b2 [] ∧ gs < a ∧ a < b2) ∨
    (v = .int .i64 4 ∧ ∃ a b2 c2, Lies wr gs 58 #[.map (some gk), .map none, .map (some a), .map (some b2), .map (some c2)] ∧ OwnK wr gk K ∧ Below w.heap.size w wr ∧ OwnH wr a [] ∧ OwnH wr b2 [] ∧ OwnH wr c2 [] ∧ gs < a ∧ a < b2 ∧ b2 < c2)

set_option maxHeartbeats 8000000 in
theorem new_any (A : Option Addr) (n c : Nat) (l : List Kd) (w : World) (hG : Gin w A n l) (hn : n ≤ 1000) (hL : ∀ g ∈ l, g.n.length ≤ 1000000) :
    Calls Try.prog 11 #[.slice A n c] w (NewPost w l) := by
  have HG := Lib.hid hG
  have HL := Lib.hid hL
  have HLN := Lib.hid hG.1
  clear hG hL
  by_cases h50 : 50 < n
  · have hno : newOf l = none := by unfold newOf; rw [if_pos (by rw [HLN.out]; exact h50)]
    have HNO := Lib.hid hno
    have e0 : (50 : Int) < (n : Int) := by omega
    clear hno
    go_enter Try.func11, Try.ntmps11
    go_wp2
    go_ret2
    exact ⟨Below.refl _ _, .inl ⟨HNO.out, rfl⟩⟩
  · have e0 : (n : Int) ≤ 50 := by omega
    have hmk := fun W => run_mk54 n W
    go_enter Try.func11, Try.ntmps11
    go_wp2_with fail
    obtain ⟨y, hy⟩ : ∃ y, y = (w.alloc (.map #[] 0)).alloc (.cells #[.map (some w.heap.size), .map none, .map none, .map none, .map none] 58) := ⟨_, rfl⟩
    rw [← hy]
    have hK0 := (OwnK.made w)
    have HAy : Hid (At0 y (w.heap.size + 1) w.heap.size []) := Lib.hid (by
      rw [hy]
      exact ⟨Lies.made2 w _ _ _, hK0.same (Below.heap_alloc _ _ _ (by simp))⟩)
    have BY : Hid (Below w.heap.size w y) := Lib.hid (by rw [hy]; exact below2 w _ _)
    clear hy hK0 hmk
    obtain ⟨gs, e1⟩ : ∃ gs, gs = w.heap.size + 1 := ⟨_, rfl⟩
    obtain ⟨gk, e3⟩ : ∃ gk, gk = w.heap.size := ⟨_, rfl⟩
    have HGS : Hid (w.heap.size ≤ gk ∧ gk < gs) := Lib.hid ⟨by omega, by omega⟩
    rw [← e1, ← e3] at HAy
    rw [← e1, ← e3]
    clear e1 e3
    go_loopw [20] (fun i wr => NwR w l gs gk i wr) (fun i _ => n - (intOf i).toNat)
    case atStart => exact ⟨0, [], by omega, rfl, rfl, HAy.out, BY.out⟩
    case round =>
      clear HAy BY
      obtain ⟨j, K, hj, rfl, hgo, hA, hB⟩ := hrel
      have HA := Lib.hid hA
      have HB := Lib.hid hB
      have HGO := Lib.hid hgo
      clear hA hB hgo
      have hjn : j ≤ n := by have := HLN.out; omega
      by_cases hlt : j < n
      · have hlt2 : (j : Int) < (n : Int) := by omega
        have hlt3 : j < l.length := by have := HLN.out; omega
        obtain ⟨b0, off, hA0, hbl, hcell⟩ := HG.out.2 (by omega)
        obtain ⟨x0, x1, x2⟩ := hcell j hlt3
        obtain ⟨xx, hxx⟩ : ∃ q, l[j] = q := ⟨_, rfl⟩
        have HST := Lib.hid (newGo_step hlt3 HGO.out)
        have HXL : Hid (xx.n.length ≤ maxLen) := Lib.hid (by have := HL.out l[j] (List.getElem_mem hlt3); rw [hxx] at this; unfold maxLen; omega)
        have HXM : Hid (xx.n.length ≤ 1000000) := Lib.hid (by have := HL.out l[j] (List.getElem_mem hlt3); rw [hxx] at this; exact this)
        rw [hxx] at x0 x1 x2 HST
        rw [← HB.out.cell (p := ⟨b0, off + j * 3, none⟩) hbl] at x0
        rw [← HB.out.cell (p := ⟨b0, off + j * 3 + 1, none⟩) hbl] at x1
        rw [← HB.out.cell (p := ⟨b0, off + j * 3 + 2, none⟩) hbl] at x2
        clear hcell hxx
        subst hA0
        obtain ⟨xn, xm, xh⟩ := xx
        dsimp only at x0 x1 x2 HXL HXM
        have HKZ : Hid (K.length ≤ 1000000) := Lib.hid (by
          have := (NewK.go HGO.out).len
          rw [this, List.length_take]; omega)
        have HSO := Lib.hid (NewK.go HGO.out).ks
        go_wp2_with fail
        obtain ⟨y6, hy6⟩ : ∃ y6, y6 = wr.alloc (.cells #[encStr xn, .int .i64 xm, .int .i64 xh] 46) := ⟨_, rfl⟩
        rw [← hy6]
        have HA6 : Hid (At0 y6 gs gk K) := Lib.hid (by rw [hy6]; exact HA.out.alloc _)
        have L6 : Hid (Lies y6 wr.heap.size 46 #[encStr xn, .int .i64 xm, .int .i64 xh]) := Lib.hid (by rw [hy6]; exact Lies.made _ _ _)
        have HB6 : Hid (Below w.heap.size w y6) := Lib.hid (by rw [hy6]; exact HB.out.alloc HB.out.size _)
        have HNG : Hid (wr.heap.size ≠ gk) := Lib.hid (Nat.ne_of_gt HA.out.ok.lt)
        have HNS : Hid (gs ≠ wr.heap.size) := Lib.hid (Nat.ne_of_lt HA.out.c.lt)
        clear hy6 x0 x1 x2
        cases hf : findK K xn with
        | some k =>
          have HFK := Lib.hid hf
          have hno : newOf l = none := by
            unfold newOf
            rw [if_neg (by rw [HLN.out]; omega)]
            refine newGo_none (j := j + 1) ?_
            rw [HST.out]
            unfold addG
            rw [if_pos (by rw [hf]; rfl)]
          have HNO := Lib.hid hno
          clear hf hno
          refine wp_region_noPanic ?_
          refine wp_region_held_drew (S := fun W => (Lies W gs 58 #[.map (some gk), .map none, .map none, .map none, .map none] ∧ Lies W wr.heap.size 46 #[encStr xn, .int .i64 xm, .int .i64 xh]) ∧ OwnK W gk K) (by kernel_rfl) ⟨⟨HA6.out.c, L6.out⟩, HA6.out.ok⟩ (fun hH0 => ?_)
          refine any_take 0 25 ?va0 rfl rfl (by kernel_rfl) (by kernel_rfl) (by kernel_rfl) (fun _ _ _ h => h) (by rfl) ?hya0 hH0 ?resta0
          case hya0 => ((intro W hSw); obtain ⟨o0, o1, o2, o3, o4⟩ := Lies.cells5 hSw.1.1; obtain ⟨p0, p1, p2⟩ := Lies.cells3 hSw.1.2; have lk := hSw.2.look_ok xn HXL.out; rw [HFK.out] at lk; dsimp only [Option.getD_some, Option.getD_none, Option.isSome_some, Option.isSome_none] at lk; go_simp; (try with_reducible rfl))
          try simp only [Act.put, List.setIfInBounds_toArray, List.set_cons_zero, List.set_cons_succ]
          refine any_take 1 26 ?va1 rfl rfl (by kernel_rfl) (by kernel_rfl) (by kernel_rfl) (fun _ _ _ h => h) (by rfl) ?hya1 hH0 ?resta1
          case hya1 => ((intro W hSw); obtain ⟨o0, o1, o2, o3, o4⟩ := Lies.cells5 hSw.1.1; obtain ⟨p0, p1, p2⟩ := Lies.cells3 hSw.1.2; have lk := hSw.2.look_ok xn HXL.out; rw [HFK.out] at lk; dsimp only [Option.getD_some, Option.getD_none, Option.isSome_some, Option.isSome_none] at lk; go_simp; (try with_reducible rfl))
          try simp only [Act.put, List.setIfInBounds_toArray, List.set_cons_zero, List.set_cons_succ]
          refine any_take 2 27 ?va2 rfl rfl (by kernel_rfl) (by kernel_rfl) (by kernel_rfl) (fun _ _ _ h => h) (by rfl) ?hya2 hH0 ?resta2
          case hya2 => ((intro W hSw); obtain ⟨o0, o1, o2, o3, o4⟩ := Lies.cells5 hSw.1.1; obtain ⟨p0, p1, p2⟩ := Lies.cells3 hSw.1.2; have lk := hSw.2.look_ok xn HXL.out; rw [HFK.out] at lk; dsimp only [Option.getD_some, Option.getD_none, Option.isSome_some, Option.isSome_none] at lk; go_simp; (try with_reducible rfl))
          try simp only [Act.put, List.setIfInBounds_toArray, List.set_cons_zero, List.set_cons_succ]
          refine any_take 3 28 ?va3 rfl rfl (by kernel_rfl) (by kernel_rfl) (by kernel_rfl) (fun _ _ _ h => h) (by rfl) ?hya3 hH0 ?resta3
          case hya3 => ((intro W hSw); obtain ⟨o0, o1, o2, o3, o4⟩ := Lies.cells5 hSw.1.1; obtain ⟨p0, p1, p2⟩ := Lies.cells3 hSw.1.2; have lk := hSw.2.look_ok xn HXL.out; rw [HFK.out] at lk; dsimp only [Option.getD_some, Option.getD_none, Option.isSome_some, Option.isSome_none] at lk; go_simp; (try with_reducible rfl))
          try simp only [Act.put, List.setIfInBounds_toArray, List.set_cons_zero, List.set_cons_succ]
          refine any_take 4 29 ?va4 rfl rfl (by kernel_rfl) (by kernel_rfl) (by kernel_rfl) (fun _ _ _ h => h) (by rfl) ?hya4 hH0 ?resta4
          case hya4 => ((intro W hSw); obtain ⟨o0, o1, o2, o3, o4⟩ := Lies.cells5 hSw.1.1; obtain ⟨p0, p1, p2⟩ := Lies.cells3 hSw.1.2; have lk := hSw.2.look_ok xn HXL.out; rw [HFK.out] at lk; dsimp only [Option.getD_some, Option.getD_none, Option.isSome_some, Option.isSome_none] at lk; go_simp; (try with_reducible rfl))
          try simp only [Act.put, List.setIfInBounds_toArray, List.set_cons_zero, List.set_cons_succ]
          refine any_take 5 30 ?va5 rfl rfl (by kernel_rfl) (by kernel_rfl) (by kernel_rfl) (fun _ _ _ h => h) (by rfl) ?hya5 hH0 ?resta5
          case hya5 => ((intro W hSw); obtain ⟨o0, o1, o2, o3, o4⟩ := Lies.cells5 hSw.1.1; obtain ⟨p0, p1, p2⟩ := Lies.cells3 hSw.1.2; have lk := hSw.2.look_ok xn HXL.out; rw [HFK.out] at lk; dsimp only [Option.getD_some, Option.getD_none, Option.isSome_some, Option.isSome_none] at lk; go_simp; (try with_reducible rfl))
          try simp only [Act.put, List.setIfInBounds_toArray, List.set_cons_zero, List.set_cons_succ]
          refine any_take 6 31 ?va6 rfl rfl (by kernel_rfl) (by kernel_rfl) (by kernel_rfl) (fun _ _ _ h => h) (by rfl) ?hya6 hH0 ?resta6
          case hya6 => ((intro W hSw); obtain ⟨o0, o1, o2, o3, o4⟩ := Lies.cells5 hSw.1.1; obtain ⟨p0, p1, p2⟩ := Lies.cells3 hSw.1.2; have lk := hSw.2.look_ok xn HXL.out; rw [HFK.out] at lk; dsimp only [Option.getD_some, Option.getD_none, Option.isSome_some, Option.isSome_none] at lk; go_simp; (try with_reducible rfl))
          try simp only [Act.put, List.setIfInBounds_toArray, List.set_cons_zero, List.set_cons_succ]
          refine any_take 7 24 ?va7 rfl rfl (by kernel_rfl) (by kernel_rfl) (by kernel_rfl) (fun _ _ _ h => h) (by rfl) ?hya7 hH0 ?resta7
          case hya7 => ((intro W hSw); obtain ⟨o0, o1, o2, o3, o4⟩ := Lies.cells5 hSw.1.1; obtain ⟨p0, p1, p2⟩ := Lies.cells3 hSw.1.2; have lk := hSw.2.look_ok xn HXL.out; rw [HFK.out] at lk; dsimp only [Option.getD_some, Option.getD_none, Option.isSome_some, Option.isSome_none] at lk; go_simp; (try with_reducible rfl))
          try simp only [Act.put, List.setIfInBounds_toArray, List.set_cons_zero, List.set_cons_succ]
          refine any_take 8 32 ?va8 rfl rfl (by kernel_rfl) (by kernel_rfl) (by kernel_rfl) (fun _ _ _ h => h) (by rfl) ?hya8 hH0 ?resta8
          case hya8 => ((intro W hSw); obtain ⟨o0, o1, o2, o3, o4⟩ := Lies.cells5 hSw.1.1; obtain ⟨p0, p1, p2⟩ := Lies.cells3 hSw.1.2; have lk := hSw.2.look_ok xn HXL.out; rw [HFK.out] at lk; dsimp only [Option.getD_some, Option.getD_none, Option.isSome_some, Option.isSome_none] at lk; go_simp; (try with_reducible rfl))
          try simp only [Act.put, List.setIfInBounds_toArray, List.set_cons_zero, List.set_cons_succ]
          refine any_take 9 33 ?va9 rfl rfl (by kernel_rfl) (by kernel_rfl) (by kernel_rfl) (fun _ _ _ h => h) (by rfl) ?hya9 hH0 ?resta9
          case hya9 => ((intro W hSw); obtain ⟨o0, o1, o2, o3, o4⟩ := Lies.cells5 hSw.1.1; obtain ⟨p0, p1, p2⟩ := Lies.cells3 hSw.1.2; have lk := hSw.2.look_ok xn HXL.out; rw [HFK.out] at lk; dsimp only [Option.getD_some, Option.getD_none, Option.isSome_some, Option.isSome_none] at lk; go_simp; (try with_reducible rfl))
          try simp only [Act.put, List.setIfInBounds_toArray, List.set_cons_zero, List.set_cons_succ]
          refine wpAnyH_ready (rs := [10]) (by kernel_rfl) (by simp) ?_
          refine AllReadyH.cons rfl (fun K' hK => ?_) AllReadyH.nil
          go_simp
          refine hK.out _ _ ⟨⟨(HA6.out.drew.alloc _).c, Lies.alloc (w := y6.drew) L6.out _⟩, (HA6.out.drew.alloc _).ok⟩ (fun hH1 => ?_)
          clear hK K' hH0
          try simp only [Act.put, List.setIfInBounds_toArray, List.set_cons_zero, List.set_cons_succ]
          refine wpAnyH_ready (rs := [11]) (by kernel_rfl) (by simp) ?_
          refine AllReadyH.cons rfl (fun K' hK => ?_) AllReadyH.nil
          go_simp
          refine hK.out _ _ ⟨⟨(HA6.out.drew.alloc _).c, Lies.alloc (w := y6.drew) L6.out _⟩, (HA6.out.drew.alloc _).ok⟩ (fun hH2 => ?_)
          clear hK K' hH1
          try simp only [Act.put, List.setIfInBounds_toArray, List.set_cons_zero, List.set_cons_succ]
          refine any_take 12 8 ?va12 rfl rfl (by kernel_rfl) (by kernel_rfl) (by kernel_rfl) (fun _ _ _ h => h) (by rfl) ?hya12 hH2 ?resta12
          case hya12 => ((intro W hSw); obtain ⟨o0, o1, o2, o3, o4⟩ := Lies.cells5 hSw.1.1; obtain ⟨p0, p1, p2⟩ := Lies.cells3 hSw.1.2; have lk := hSw.2.look_ok xn HXL.out; rw [HFK.out] at lk; dsimp only [Option.getD_some, Option.getD_none, Option.isSome_some, Option.isSome_none] at lk; go_simp; (try with_reducible rfl))
          try simp only [Act.put, List.setIfInBounds_toArray, List.set_cons_zero, List.set_cons_succ]
          clear hH2
          refine wpAnyH_done (by kernel_rfl) ?_ _
          refine NoPanic.normal ?_
          obtain ⟨y7, hy7⟩ : ∃ y7, y7 = (y6.alloc (.cells #[encStr k.n, .int .i64 k.m, .int .i64 k.h] 46)).drew := ⟨_, rfl⟩
          rw [← hy7]
          have HA7 : Hid (At0 y7 gs gk K) := Lib.hid (by rw [hy7]; exact (HA6.out.alloc _).drew)
          have L7 : Hid (Lies y7 wr.heap.size 46 #[encStr xn, .int .i64 xm, .int .i64 xh]) := Lib.hid (by rw [hy7]; exact Lies.alloc (w := y6) L6.out _)
          have HB7 : Hid (Below w.heap.size w y7) := Lib.hid (by rw [hy7]; exact ((HB6.out.alloc HB6.out.size _).drew))
          clear hy7
          go_wp2
          go_ret2
          exact ⟨HB7.out, .inl ⟨HNO.out, rfl⟩⟩
        | none =>
          have HFK := Lib.hid hf
          clear hf
          refine wp_region_noPanic ?_
          refine wp_region_held_drew (S := fun W => (Lies W gs 58 #[.map (some gk), .map none, .map none, .map none, .map none] ∧ Lies W wr.heap.size 46 #[encStr xn, .int .i64 xm, .int .i64 xh]) ∧ OwnK W gk K) (by kernel_rfl) ⟨⟨HA6.out.c, L6.out⟩, HA6.out.ok⟩ (fun hH0 => ?_)
          refine any_take 0 25 ?vb0 rfl rfl (by kernel_rfl) (by kernel_rfl) (by kernel_rfl) (fun _ _ _ h => h) (by rfl) ?hyb0 hH0 ?restb0
          case hyb0 => ((intro W hSw); obtain ⟨o0, o1, o2, o3, o4⟩ := Lies.cells5 hSw.1.1; obtain ⟨p0, p1, p2⟩ := Lies.cells3 hSw.1.2; have lk := hSw.2.look_ok xn HXL.out; rw [HFK.out] at lk; dsimp only [Option.getD_some, Option.getD_none, Option.isSome_some, Option.isSome_none] at lk; go_simp; (try with_reducible rfl))
          try simp only [Act.put, List.setIfInBounds_toArray, List.set_cons_zero, List.set_cons_succ]
          refine any_take 1 26 ?vb1 rfl rfl (by kernel_rfl) (by kernel_rfl) (by kernel_rfl) (fun _ _ _ h => h) (by rfl) ?hyb1 hH0 ?restb1
          case hyb1 => ((intro W hSw); obtain ⟨o0, o1, o2, o3, o4⟩ := Lies.cells5 hSw.1.1; obtain ⟨p0, p1, p2⟩ := Lies.cells3 hSw.1.2; have lk := hSw.2.look_ok xn HXL.out; rw [HFK.out] at lk; dsimp only [Option.getD_some, Option.getD_none, Option.isSome_some, Option.isSome_none] at lk; go_simp; (try with_reducible rfl))
          try simp only [Act.put, List.setIfInBounds_toArray, List.set_cons_zero, List.set_cons_succ]
          refine any_take 2 27 ?vb2 rfl rfl (by kernel_rfl) (by kernel_rfl) (by kernel_rfl) (fun _ _ _ h => h) (by rfl) ?hyb2 hH0 ?restb2
          case hyb2 => ((intro W hSw); obtain ⟨o0, o1, o2, o3, o4⟩ := Lies.cells5 hSw.1.1; obtain ⟨p0, p1, p2⟩ := Lies.cells3 hSw.1.2; have lk := hSw.2.look_ok xn HXL.out; rw [HFK.out] at lk; dsimp only [Option.getD_some, Option.getD_none, Option.isSome_some, Option.isSome_none] at lk; go_simp; (try with_reducible rfl))
          try simp only [Act.put, List.setIfInBounds_toArray, List.set_cons_zero, List.set_cons_succ]
          refine any_take 3 28 ?vb3 rfl rfl (by kernel_rfl) (by kernel_rfl) (by kernel_rfl) (fun _ _ _ h => h) (by rfl) ?hyb3 hH0 ?restb3
          case hyb3 => ((intro W hSw); obtain ⟨o0, o1, o2, o3, o4⟩ := Lies.cells5 hSw.1.1; obtain ⟨p0, p1, p2⟩ := Lies.cells3 hSw.1.2; have lk := hSw.2.look_ok xn HXL.out; rw [HFK.out] at lk; dsimp only [Option.getD_some, Option.getD_none, Option.isSome_some, Option.isSome_none] at lk; go_simp; (try with_reducible rfl))
          try simp only [Act.put, List.setIfInBounds_toArray, List.set_cons_zero, List.set_cons_succ]
          refine any_take 4 29 ?vb4 rfl rfl (by kernel_rfl) (by kernel_rfl) (by kernel_rfl) (fun _ _ _ h => h) (by rfl) ?hyb4 hH0 ?restb4
          case hyb4 => ((intro W hSw); obtain ⟨o0, o1, o2, o3, o4⟩ := Lies.cells5 hSw.1.1; obtain ⟨p0, p1, p2⟩ := Lies.cells3 hSw.1.2; have lk := hSw.2.look_ok xn HXL.out; rw [HFK.out] at lk; dsimp only [Option.getD_some, Option.getD_none, Option.isSome_some, Option.isSome_none] at lk; go_simp; (try with_reducible rfl))
          try simp only [Act.put, List.setIfInBounds_toArray, List.set_cons_zero, List.set_cons_succ]
          refine any_take 5 30 ?vb5 rfl rfl (by kernel_rfl) (by kernel_rfl) (by kernel_rfl) (fun _ _ _ h => h) (by rfl) ?hyb5 hH0 ?restb5
          case hyb5 => ((intro W hSw); obtain ⟨o0, o1, o2, o3, o4⟩ := Lies.cells5 hSw.1.1; obtain ⟨p0, p1, p2⟩ := Lies.cells3 hSw.1.2; have lk := hSw.2.look_ok xn HXL.out; rw [HFK.out] at lk; dsimp only [Option.getD_some, Option.getD_none, Option.isSome_some, Option.isSome_none] at lk; go_simp; (try with_reducible rfl))
          try simp only [Act.put, List.setIfInBounds_toArray, List.set_cons_zero, List.set_cons_succ]
          refine any_take 6 31 ?vb6 rfl rfl (by kernel_rfl) (by kernel_rfl) (by kernel_rfl) (fun _ _ _ h => h) (by rfl) ?hyb6 hH0 ?restb6
          case hyb6 => ((intro W hSw); obtain ⟨o0, o1, o2, o3, o4⟩ := Lies.cells5 hSw.1.1; obtain ⟨p0, p1, p2⟩ := Lies.cells3 hSw.1.2; have lk := hSw.2.look_ok xn HXL.out; rw [HFK.out] at lk; dsimp only [Option.getD_some, Option.getD_none, Option.isSome_some, Option.isSome_none] at lk; go_simp; (try with_reducible rfl))
          try simp only [Act.put, List.setIfInBounds_toArray, List.set_cons_zero, List.set_cons_succ]
          refine any_take 7 24 ?vb7 rfl rfl (by kernel_rfl) (by kernel_rfl) (by kernel_rfl) (fun _ _ _ h => h) (by rfl) ?hyb7 hH0 ?restb7
          case hyb7 => ((intro W hSw); obtain ⟨o0, o1, o2, o3, o4⟩ := Lies.cells5 hSw.1.1; obtain ⟨p0, p1, p2⟩ := Lies.cells3 hSw.1.2; have lk := hSw.2.look_ok xn HXL.out; rw [HFK.out] at lk; dsimp only [Option.getD_some, Option.getD_none, Option.isSome_some, Option.isSome_none] at lk; go_simp; (try with_reducible rfl))
          try simp only [Act.put, List.setIfInBounds_toArray, List.set_cons_zero, List.set_cons_succ]
          refine any_take 8 32 ?vb8 rfl rfl (by kernel_rfl) (by kernel_rfl) (by kernel_rfl) (fun _ _ _ h => h) (by rfl) ?hyb8 hH0 ?restb8
          case hyb8 => ((intro W hSw); obtain ⟨o0, o1, o2, o3, o4⟩ := Lies.cells5 hSw.1.1; obtain ⟨p0, p1, p2⟩ := Lies.cells3 hSw.1.2; have lk := hSw.2.look_ok xn HXL.out; rw [HFK.out] at lk; dsimp only [Option.getD_some, Option.getD_none, Option.isSome_some, Option.isSome_none] at lk; go_simp; (try with_reducible rfl))
          try simp only [Act.put, List.setIfInBounds_toArray, List.set_cons_zero, List.set_cons_succ]
          refine any_take 9 33 ?vb9 rfl rfl (by kernel_rfl) (by kernel_rfl) (by kernel_rfl) (fun _ _ _ h => h) (by rfl) ?hyb9 hH0 ?restb9
          case hyb9 => ((intro W hSw); obtain ⟨o0, o1, o2, o3, o4⟩ := Lies.cells5 hSw.1.1; obtain ⟨p0, p1, p2⟩ := Lies.cells3 hSw.1.2; have lk := hSw.2.look_ok xn HXL.out; rw [HFK.out] at lk; dsimp only [Option.getD_some, Option.getD_none, Option.isSome_some, Option.isSome_none] at lk; go_simp; (try with_reducible rfl))
          try simp only [Act.put, List.setIfInBounds_toArray, List.set_cons_zero, List.set_cons_succ]
          refine wpAnyH_ready (rs := [10]) (by kernel_rfl) (by simp) ?_
          refine AllReadyH.cons rfl (fun K' hK => ?_) AllReadyH.nil
          go_simp
          refine hK.out _ _ ⟨⟨(HA6.out.drew.alloc _).c, Lies.alloc (w := y6.drew) L6.out _⟩, (HA6.out.drew.alloc _).ok⟩ (fun hH1 => ?_)
          clear hK K' hH0
          try simp only [Act.put, List.setIfInBounds_toArray, List.set_cons_zero, List.set_cons_succ]
          refine wpAnyH_ready (rs := [11]) (by kernel_rfl) (by simp) ?_
          refine AllReadyH.cons rfl (fun K' hK => ?_) AllReadyH.nil
          go_simp
          refine hK.out _ _ ⟨⟨(HA6.out.drew.alloc _).c, Lies.alloc (w := y6.drew) L6.out _⟩, (HA6.out.drew.alloc _).ok⟩ (fun hH2 => ?_)
          clear hK K' hH1
          try simp only [Act.put, List.setIfInBounds_toArray, List.set_cons_zero, List.set_cons_succ]
          refine any_take 12 8 ?vb12 rfl rfl (by kernel_rfl) (by kernel_rfl) (by kernel_rfl) (fun _ _ _ h => h) (by rfl) ?hyb12 hH2 ?restb12
          case hyb12 => ((intro W hSw); obtain ⟨o0, o1, o2, o3, o4⟩ := Lies.cells5 hSw.1.1; obtain ⟨p0, p1, p2⟩ := Lies.cells3 hSw.1.2; have lk := hSw.2.look_ok xn HXL.out; rw [HFK.out] at lk; dsimp only [Option.getD_some, Option.getD_none, Option.isSome_some, Option.isSome_none] at lk; go_simp; (try with_reducible rfl))
          try simp only [Act.put, List.setIfInBounds_toArray, List.set_cons_zero, List.set_cons_succ]
          clear hH2
          refine wpAnyH_done (by kernel_rfl) ?_ _
          refine NoPanic.normal ?_
          obtain ⟨y7, hy7⟩ : ∃ y7, y7 = (y6.alloc (.cells #[encStr zK.n, .int .i64 zK.m, .int .i64 zK.h] 46)).drew := ⟨_, rfl⟩
          rw [← hy7]
          have HA7 : Hid (At0 y7 gs gk K) := Lib.hid (by rw [hy7]; exact (HA6.out.alloc _).drew)
          have L7 : Hid (Lies y7 wr.heap.size 46 #[encStr xn, .int .i64 xm, .int .i64 xh]) := Lib.hid (by rw [hy7]; exact Lies.alloc (w := y6) L6.out _)
          have HB7 : Hid (Below w.heap.size w y7) := Lib.hid (by rw [hy7]; exact ((HB6.out.alloc HB6.out.size _).drew))
          clear hy7
          obtain ⟨p0, p1, p2⟩ := L7.out.cells3
          go_wp2_with fail
          with_reducible refine (isGood_any xn xm xh _ (by have := HXM.out; omega)).mono ?_
          rintro e y8 ⟨rfl, hb8⟩
          have HA8 := Lib.hid (HA7.out.below hb8)
          have L8 := Lib.hid (Lies.below L7.out hb8 L7.out.lt)
          have HB8 := Lib.hid (HB7.out.trans (hb8.mono HB7.out.size))
          clear hb8 p0 p1 p2
          obtain ⟨p0, p1, p2⟩ := L8.out.cells3
          cases hgb : goodB xn xm xh
          · have hno : newOf l = none := by
              unfold newOf
              rw [if_neg (by rw [HLN.out]; omega)]
              refine newGo_none (j := j + 1) ?_
              rw [HST.out]
              unfold addG
              rw [if_pos (by dsimp only; rw [hgb]; simp)]
            have HNO := Lib.hid hno
            clear hgb hno
            go_wp2
            go_ret2
            exact ⟨HB8.out, .inl ⟨HNO.out, rfl⟩⟩
          · have hst : newGo [] (l.take (j + 1)) = some (insK ⟨xn, xm, xh⟩ K) := by
              rw [HST.out]
              unfold addG
              rw [if_neg (by dsimp only; rw [hgb, HFK.out]; simp)]
            have HS2 := Lib.hid hst
            clear hgb hst
            go_wp2_with fail
            with_reducible refine (clone_any xn _ HXM.out).mono ?_
            rintro e y9b ⟨rfl, hb9⟩
            have HA9b := Lib.hid (HA8.out.below hb9)
            have L9b := Lib.hid (Lies.below L8.out hb9 L8.out.lt)
            have HB9b := Lib.hid (HB8.out.trans (hb9.mono HB8.out.size))
            clear hb9 p0 p1 p2
            obtain ⟨p0, p1, p2⟩ := L9b.out.cells3
            obtain ⟨pf0, pf1, pf2⟩ := L9b.out.free3
            go_wp2_with fail
            obtain ⟨y9, hy9⟩ : ∃ y9, y9 = y9b.setCell ⟨wr.heap.size, 0, none⟩ (encStr xn) := ⟨_, rfl⟩
            rw [← hy9]
            have HA9 : Hid (At0 y9 gs gk K) := Lib.hid (by rw [hy9]; exact ⟨HA9b.out.c.other (a := ⟨wr.heap.size, 0, none⟩) HNS.out _, HA9b.out.ok.same (heap_setCell_other _ ⟨wr.heap.size, 0, none⟩ _ _ (Ne.symm HNG.out))⟩)
            have L9 : Hid (Lies y9 wr.heap.size 46 #[encStr xn, .int .i64 xm, .int .i64 xh]) := Lib.hid (by rw [hy9]; exact L9b.out.put 0 (encStr xn))
            have HB9 : Hid (Below w.heap.size w y9) := Lib.hid (by rw [hy9]; exact HB9b.out.setCell (p := ⟨wr.heap.size, 0, none⟩) HB.out.size _)
            clear hy9 p0 p1 p2 pf0 pf1 pf2
            obtain ⟨w3, hu1, hu2, hu3⟩ := HA9.out.drew.ok.add ⟨xn, xm, xh⟩ (findK_none HFK.out) HXL.out HKZ.out
            have HU := Lib.hid (And.intro hu1 (And.intro hu2 hu3))
            clear hu1 hu2 hu3
            refine wp_region_noPanic ?_
            refine wp_region_held_drew (S := fun W => Lies W gs 58 #[.map (some gk), .map none, .map none, .map none, .map none] ∧ Lies W wr.heap.size 46 #[encStr xn, .int .i64 xm, .int .i64 xh]) (by kernel_rfl) ⟨HA9.out.c, L9.out⟩ (fun hH0 => ?_)
            refine any_take 0 44 ?vc0 rfl rfl (by kernel_rfl) (by kernel_rfl) (by kernel_rfl) (fun _ _ _ h => h) (by rfl) ?hyc0 hH0 ?restc0
            case hyc0 => ((intro W hSw); obtain ⟨o0, o1, o2, o3, o4⟩ := Lies.cells5 hSw.1; obtain ⟨p0, p1, p2⟩ := Lies.cells3 hSw.2; go_simp; (try with_reducible rfl))
            try simp only [Act.put, List.setIfInBounds_toArray, List.set_cons_zero, List.set_cons_succ]
            refine any_take 1 45 ?vc1 rfl rfl (by kernel_rfl) (by kernel_rfl) (by kernel_rfl) (fun _ _ _ h => h) (by rfl) ?hyc1 hH0 ?restc1
            case hyc1 => ((intro W hSw); obtain ⟨o0, o1, o2, o3, o4⟩ := Lies.cells5 hSw.1; obtain ⟨p0, p1, p2⟩ := Lies.cells3 hSw.2; go_simp; (try with_reducible rfl))
            try simp only [Act.put, List.setIfInBounds_toArray, List.set_cons_zero, List.set_cons_succ]
            refine any_take 2 46 ?vc2 rfl rfl (by kernel_rfl) (by kernel_rfl) (by kernel_rfl) (fun _ _ _ h => h) (by rfl) ?hyc2 hH0 ?restc2
            case hyc2 => ((intro W hSw); obtain ⟨o0, o1, o2, o3, o4⟩ := Lies.cells5 hSw.1; obtain ⟨p0, p1, p2⟩ := Lies.cells3 hSw.2; go_simp; (try with_reducible rfl))
            try simp only [Act.put, List.setIfInBounds_toArray, List.set_cons_zero, List.set_cons_succ]
            refine any_take 3 47 ?vc3 rfl rfl (by kernel_rfl) (by kernel_rfl) (by kernel_rfl) (fun _ _ _ h => h) (by rfl) ?hyc3 hH0 ?restc3
            case hyc3 => ((intro W hSw); obtain ⟨o0, o1, o2, o3, o4⟩ := Lies.cells5 hSw.1; obtain ⟨p0, p1, p2⟩ := Lies.cells3 hSw.2; go_simp; (try with_reducible rfl))
            try simp only [Act.put, List.setIfInBounds_toArray, List.set_cons_zero, List.set_cons_succ]
            refine any_take 4 48 ?vc4 rfl rfl (by kernel_rfl) (by kernel_rfl) (by kernel_rfl) (fun _ _ _ h => h) (by rfl) ?hyc4 hH0 ?restc4
            case hyc4 => ((intro W hSw); obtain ⟨o0, o1, o2, o3, o4⟩ := Lies.cells5 hSw.1; obtain ⟨p0, p1, p2⟩ := Lies.cells3 hSw.2; go_simp; (try with_reducible rfl))
            try simp only [Act.put, List.setIfInBounds_toArray, List.set_cons_zero, List.set_cons_succ]
            refine any_take 5 49 ?vc5 rfl rfl (by kernel_rfl) (by kernel_rfl) (by kernel_rfl) (fun _ _ _ h => h) (by rfl) ?hyc5 hH0 ?restc5
            case hyc5 => ((intro W hSw); obtain ⟨o0, o1, o2, o3, o4⟩ := Lies.cells5 hSw.1; obtain ⟨p0, p1, p2⟩ := Lies.cells3 hSw.2; go_simp; (try with_reducible rfl))
            try simp only [Act.put, List.setIfInBounds_toArray, List.set_cons_zero, List.set_cons_succ]
            refine any_take 6 50 ?vc6 rfl rfl (by kernel_rfl) (by kernel_rfl) (by kernel_rfl) (fun _ _ _ h => h) (by rfl) ?hyc6 hH0 ?restc6
            case hyc6 => ((intro W hSw); obtain ⟨o0, o1, o2, o3, o4⟩ := Lies.cells5 hSw.1; obtain ⟨p0, p1, p2⟩ := Lies.cells3 hSw.2; go_simp; (try with_reducible rfl))
            try simp only [Act.put, List.setIfInBounds_toArray, List.set_cons_zero, List.set_cons_succ]
            refine wpAnyH_ready (rs := [7]) (by kernel_rfl) (by simp) ?_
            refine AllReadyH.cons rfl (fun K' hK => ?_) AllReadyH.nil
            refine stp_upd none _ _ _ 54 (.tmp 47) (.tmp 49) (.tmp 50) (.map (some gk)) (encStr xn) (vK ⟨xn, xm, xh⟩) w3 rfl rfl rfl HU.out.1 ?_
            obtain ⟨hA3, hg3⟩ := HA9.out.drew.turnK HU.out.2.1 HU.out.2.2
            have L3 := Lib.hid (Lies.same L9.out (hg3.block _ L9.out.lt (fun e => HNG.out (Option.some.inj e))))
            have HA3 := Lib.hid hA3
            have HB3 : Hid (Below w.heap.size w w3) := Lib.hid (HB9.out.drew.grown hg3 HB9.out.size (fun k hk => by have := Option.some.inj hk; have := HGS.out.1; omega))
            refine hK.out _ _ ⟨HA3.out.c, L3.out⟩ (fun hH1 => ?_)
            clear hA3 hg3 hK K' hH0
            try simp only [Act.put, List.setIfInBounds_toArray, List.set_cons_zero, List.set_cons_succ]
            clear hH1
            refine wpAnyH_done (by kernel_rfl) ?_ _
            refine NoPanic.normal ?_
            go_wp2
            go_roundw
            case rel => exact ⟨j + 1, insK ⟨xn, xm, xh⟩ K, by omega, by go_num, HS2.out, HA3.out, HB3.out⟩
            case measure => simp [intOf]; omega
      · have hj2 : j = l.length := by have := HLN.out; omega
        have HNW : Hid (newOf l = some K) := Lib.hid (by
          unfold newOf
          rw [if_neg (by rw [HLN.out]; omega)]
          have := HGO.out
          rw [hj2, List.take_length] at this
          exact this)
        have hnl : decide ((j : Int) < (n : Int)) = false := by simp; omega
        clear hj2
        go_wp2_with fail
        clear hnl
        go_loopw [9] (fun v wr => NwD w gs gk K v wr) (fun i _ => 4 - (intOf i).toNat)
        case atStart => exact .inl ⟨rfl, HA.out.c, HA.out.ok, HB.out⟩
        case round =>
          clear HA HB
          rcases hrel with ⟨rfl, hrel⟩ | ⟨rfl, hrel⟩ | ⟨rfl, hrel⟩ | ⟨rfl, hrel⟩
          · obtain ⟨hC, hK, hBw⟩ := hrel
            have HC := Lib.hid hC
            obtain ⟨o0, o1, o2, o3, o4⟩ := (hC.alloc (.map #[] 0)).cells5
            obtain ⟨f0, f1, f2, f3, f4⟩ := (hC.alloc (.map #[] 0)).free5
            have hNS : gs ≠ wr.heap.size := Nat.ne_of_lt hC.lt
            have hNK : gk ≠ wr.heap.size := Nat.ne_of_lt hK.lt
            have hgsk := HGS.out
            have HW : Hid (∀ (m : Nat) (H : List Hd), OwnH wr m H → OwnH ((wr.alloc (.map #[] 0)).setCell ⟨gs, 2, none⟩ (.map (some wr.heap.size))) m H) := Lib.hid (fun m H h => h.same ((heap_setCell_other _ ⟨gs, 2, none⟩ m _ (h.ne_lies HC.out)).trans (Below.heap_alloc _ _ _ h.lt)))
            have HNEW : Hid (NwD w gs gk K (.int .i64 2) ((wr.alloc (.map #[] 0)).setCell ⟨gs, 2, none⟩ (.map (some wr.heap.size)))) := Lib.hid (by
              refine .inr (.inl ⟨rfl, wr.heap.size, (hC.alloc _).put 2 _, hK.same ((heap_setCell_other _ ⟨gs, 2, none⟩ gk _ (hK.ne_lies hC)).trans (Below.heap_alloc _ _ _ hK.lt)), (hBw.alloc hBw.size _).setCell (p := ⟨gs, 2, none⟩) (by show w.heap.size ≤ gs; omega) _, ?_, ?_⟩)
              · have hm := OwnH.made wr
                exact hm.same (heap_setCell_other _ ⟨gs, 2, none⟩ _ _ (Ne.symm hNS))
              · exact hC.lt)
            clear hC hK hBw
            have hmm := @run_makeMap Try.prog
            go_wp2
            go_roundw
            case rel => exact HNEW.out
            case measure => simp [intOf]
          · obtain ⟨a, hC, hK, hBw, ha, la⟩ := hrel
            have HC := Lib.hid hC
            obtain ⟨o0, o1, o2, o3, o4⟩ := (hC.alloc (.map #[] 0)).cells5
            obtain ⟨f0, f1, f2, f3, f4⟩ := (hC.alloc (.map #[] 0)).free5
            have hNS : gs ≠ wr.heap.size := Nat.ne_of_lt hC.lt
            have hNK : gk ≠ wr.heap.size := Nat.ne_of_lt hK.lt
            have hgsk := HGS.out
            have HW : Hid (∀ (m : Nat) (H : List Hd), OwnH wr m H → OwnH ((wr.alloc (.map #[] 0)).setCell ⟨gs, 3, none⟩ (.map (some wr.heap.size))) m H) := Lib.hid (fun m H h => h.same ((heap_setCell_other _ ⟨gs, 3, none⟩ m _ (h.ne_lies HC.out)).trans (Below.heap_alloc _ _ _ h.lt)))
            have HNEW : Hid (NwD w gs gk K (.int .i64 3) ((wr.alloc (.map #[] 0)).setCell ⟨gs, 3, none⟩ (.map (some wr.heap.size)))) := Lib.hid (by
              refine .inr (.inr (.inl ⟨rfl, a, wr.heap.size, (hC.alloc _).put 3 _, hK.same ((heap_setCell_other _ ⟨gs, 3, none⟩ gk _ (hK.ne_lies hC)).trans (Below.heap_alloc _ _ _ hK.lt)), (hBw.alloc hBw.size _).setCell (p := ⟨gs, 3, none⟩) (by show w.heap.size ≤ gs; omega) _, HW.out _ _ ha, ?_, la, ?_⟩))
              · have hm := OwnH.made wr
                exact hm.same (heap_setCell_other _ ⟨gs, 3, none⟩ _ _ (Ne.symm hNS))
              · exact ha.lt)
            clear hC hK hBw ha la
            have hmm := @run_makeMap Try.prog
            go_wp2
            go_roundw
            case rel => exact HNEW.out
            case measure => simp [intOf]
          · obtain ⟨a, b2, hC, hK, hBw, ha, hb2, la, lb2⟩ := hrel
            have HC := Lib.hid hC
            obtain ⟨o0, o1, o2, o3, o4⟩ := (hC.alloc (.map #[] 0)).cells5
            obtain ⟨f0, f1, f2, f3, f4⟩ := (hC.alloc (.map #[] 0)).free5
            have hNS : gs ≠ wr.heap.size := Nat.ne_of_lt hC.lt
            have hNK : gk ≠ wr.heap.size := Nat.ne_of_lt hK.lt
            have hgsk := HGS.out
            have HW : Hid (∀ (m : Nat) (H : List Hd), OwnH wr m H → OwnH ((wr.alloc (.map #[] 0)).setCell ⟨gs, 4, none⟩ (.map (some wr.heap.size))) m H) := Lib.hid (fun m H h => h.same ((heap_setCell_other _ ⟨gs, 4, none⟩ m _ (h.ne_lies HC.out)).trans (Below.heap_alloc _ _ _ h.lt)))
            have HNEW : Hid (NwD w gs gk K (.int .i64 4) ((wr.alloc (.map #[] 0)).setCell ⟨gs, 4, none⟩ (.map (some wr.heap.size)))) := Lib.hid (by
              refine .inr (.inr (.inr (⟨rfl, a, b2, wr.heap.size, (hC.alloc _).put 4 _, hK.same ((heap_setCell_other _ ⟨gs, 4, none⟩ gk _ (hK.ne_lies hC)).trans (Below.heap_alloc _ _ _ hK.lt)), (hBw.alloc hBw.size _).setCell (p := ⟨gs, 4, none⟩) (by show w.heap.size ≤ gs; omega) _, HW.out _ _ ha, HW.out _ _ hb2, ?_, la, lb2, ?_⟩)))
              · have hm := OwnH.made wr
                exact hm.same (heap_setCell_other _ ⟨gs, 4, none⟩ _ _ (Ne.symm hNS))
              · exact hb2.lt)
            clear hC hK hBw ha hb2 la lb2
            have hmm := @run_makeMap Try.prog
            go_wp2
            go_roundw
            case rel => exact HNEW.out
            case measure => simp [intOf]
          · obtain ⟨a, b2, c2, hC, hK, hBw, ha, hb2, hc2, la, lb2, lc2⟩ := hrel
            have hgsk := HGS.out
            have HAT : Hid (At wr ⟨gs, gk, a, b2, c2⟩ ⟨K, []⟩) := Lib.hid ⟨hC, hK, ha, hb2, hc2, by refine ⟨?_, ?_, ?_, ?_, ?_, ?_⟩ <;> (try dsimp only) <;> omega⟩
            have HLO : Hid (∀ i, (⟨gs, gk, a, b2, c2⟩ : SB).isMap i → w.heap.size ≤ i) := Lib.hid (by
              rintro i (rfl | rfl | rfl | rfl) <;> (try dsimp only) <;> omega)
            have HBW := Lib.hid hBw
            clear hC hK hBw ha hb2 hc2 la lb2 lc2
            go_wp2
            go_ret2
            exact ⟨HBW.out, .inr ⟨K, ⟨gs, gk, a, b2, c2⟩, HNW.out, rfl, HAT.out, by have := HGS.out; show w.heap.size ≤ gs; omega, HLO.out⟩⟩

end Go.Proofs.Ytlgdjmmhdfpfeaa
