/-
  Texts of one proof, in their order: PuNewF, DoNewF, CNewP, CWalk.
-/
import Derived.Laws.Cover3
import Derived.Test.YtpbclmnhkmcknaaGreatB19
namespace Go.Proofs.YtpbclmnhkmcknaaGreat.Pu
open Go.Proofs Go.RowKit
set_option maxRecDepth 100000
set_option linter.unusedVariables false
set_option linter.unusedSimpArgs false

def NewPost (w : World) (l : List Kd) (e : Ending) (w' : World) : Prop :=
  Below w.heap.size w w' ∧ ((newOf l = none ∧ e = .returned (.tuple #[.pointer none, .int .i64 2])) ∨
    ∃ K b, newOf l = some K ∧ e = .returned (.tuple #[.pointer (some ⟨b.s, 0, none⟩), .int .i64 0]) ∧ At w' b ⟨K, []⟩ ∧ w.heap.size ≤ b.s ∧ ∀ i, b.isMap i → w.heap.size ≤ i)

/-- A purse that has its accounts, and no maps of payments yet. -/
structure At0 (w : World) (gs gk : Nat) (K : List Kd) : Prop where
  c : Lies w gs 186 #[.map (some gk), .map none, .map none, .map none, .map none]
  ok : OwnK w gk K
theorem At0.below {w w' : World} {gs gk : Nat} {K : List Kd} (h : At0 w gs gk K) (hb : Below w.heap.size w w') : At0 w' gs gk K := ⟨h.c.below hb h.c.lt, h.ok.same (hb.block _ h.ok.lt)⟩
theorem At0.alloc {w : World} {gs gk : Nat} {K : List Kd} (h : At0 w gs gk K) (o : Obj) : At0 (w.alloc o) gs gk K := h.below (below1 w o)
theorem At0.drew {w : World} {gs gk : Nat} {K : List Kd} (h : At0 w gs gk K) : At0 w.drew gs gk K := ⟨h.c, h.ok⟩
theorem At0.turnK {w w' : World} {gs gk : Nat} {K K' : List Kd} (h : At0 w gs gk K) (ho : OwnK w' gk K') (ht : w.mapTurned w' gk) : At0 w' gs gk K' ∧ w.grownBy w' (some gk) :=
  ⟨⟨h.c.same (ht.grown.block _ h.c.lt (fun e => h.ok.ne_lies h.c (Option.some.inj e).symm)), ho⟩, ht.grown⟩
def NwR (w : World) (l : List Kd) (gs gk : Nat) (i : Value) (wr : World) : Prop :=
  ∃ (j : Nat) (K : List Kd), j ≤ l.length ∧ i = .int .i64 (j : Int) ∧ newGo [] (l.take j) = some K ∧ At0 wr gs gk K ∧ Below w.heap.size w wr
def NwD (w : World) (gs gk : Nat) (K : List Kd) (v : Value) (wr : World) : Prop :=
    (v = .int .i64 1 ∧ Lies wr gs 186 #[.map (some gk), .map none, .map none, .map none, .map none] ∧ OwnK wr gk K ∧ Below w.heap.size w wr) ∨
    (v = .int .i64 2 ∧ ∃ a, Lies wr gs 186 #[.map (some gk), .map none, .map (some a), .map none, .map none] ∧ OwnK wr gk K ∧ Below w.heap.size w wr ∧ OwnH wr a [] ∧ gs < a) ∨
    (v = .int .i64 3 ∧ ∃ a b2, Lies wr gs 186 #[.map (some gk), .map none, .map (some a), .map (some b2), .map none] ∧ OwnK wr gk K ∧ Below w.heap.size w wr ∧ OwnH wr a [] ∧ OwnH wr b2 [] ∧ gs < a ∧ a < b2) ∨
    (v = .int .i64 4 ∧ ∃ a b2 c2, Lies wr gs 186 #[.map (some gk), .map none, .map (some a), .map (some b2), .map (some c2)] ∧ OwnK wr gk K ∧ Below w.heap.size w wr ∧ OwnH wr a [] ∧ OwnH wr b2 [] ∧ OwnH wr c2 [] ∧ gs < a ∧ a < b2 ∧ b2 < c2)

set_option maxHeartbeats 8000000 in
theorem new_any (A : Option Addr) (n c : Nat) (l : List Kd) (w : World) (hG : Gin w A n l) (hn : n ≤ 1000) (hL : ∀ g ∈ l, g.n.length ≤ 1000000) :
    Calls Tryz.prog 57 #[.slice A n c] w (NewPost w l) := by
  have HG := Lib.hid hG
  have HL := Lib.hid hL
  have HLN := Lib.hid hG.1
  clear hG hL
  by_cases h50 : 50 < n
  · have hno : newOf l = none := by unfold newOf; rw [if_pos (by rw [HLN.out]; exact h50)]
    have HNO := Lib.hid hno
    have e0 : (50 : Int) < (n : Int) := by omega
    clear hno
    go_enter Tryz.func57, Tryz.ntmps57
    go_wp2
    go_ret2
    exact ⟨Below.refl _ _, .inl ⟨HNO.out, rfl⟩⟩
  · have e0 : (n : Int) ≤ 50 := by omega
    have hmk := fun W => run_mk54 n W
    go_enter Tryz.func57, Tryz.ntmps57
    go_wp2_with fail
    obtain ⟨y, hy⟩ : ∃ y, y = (w.alloc (.map #[] 0)).alloc (.cells #[.map (some w.heap.size), .map none, .map none, .map none, .map none] 186) := ⟨_, rfl⟩
    rw [← hy]
    have hK0 := (OwnK.made w)
    have HAy : Hid (At0 y (w.heap.size + 1) w.heap.size []) := Lib.hid (by
      rw [hy]
      exact ⟨Lies.made2 w _ _ _, hK0.same (Below.heap_alloc _ _ _ (by simp))⟩)
    have BY : Hid (Below w.heap.size w y) := Lib.hid (by rw [hy]; exact below2 w _ _)
    clear hy hK0 hmk
    obtain ⟨gs, e1⟩ : ∃ gs, gs = w.heap.size + 1 := ⟨_, rfl⟩
    obtain ⟨gk, e3⟩ : ∃ gk, gk = w.heap.size := ⟨_, rfl⟩
    have HGS : Hid (w.heap.size ≤ gk ∧ gk < gs) := Lib.hid ⟨by omega, by omega⟩
    rw [← e1, ← e3] at HAy
    rw [← e1, ← e3]
    clear e1 e3
    go_loopw [20] (fun i wr => NwR w l gs gk i wr) (fun i _ => n - (intOf i).toNat)
    case atStart => exact ⟨0, [], by omega, rfl, rfl, HAy.out, BY.out⟩
    case round =>
      clear HAy BY
      obtain ⟨j, K, hj, rfl, hgo, hA, hB⟩ := hrel
      have HA := Lib.hid hA
      have HB := Lib.hid hB
      have HGO := Lib.hid hgo
      clear hA hB hgo
      have hjn : j ≤ n := by have := HLN.out; omega
      by_cases hlt : j < n
      · have hlt2 : (j : Int) < (n : Int) := by omega
        have hlt3 : j < l.length := by have := HLN.out; omega
        obtain ⟨b0, off, hA0, hbl, hcell⟩ := HG.out.2 (by omega)
        obtain ⟨x0, x1, x2⟩ := hcell j hlt3
        obtain ⟨xx, hxx⟩ : ∃ q, l[j] = q := ⟨_, rfl⟩
        have HST := Lib.hid (newGo_step hlt3 HGO.out)
        have HXL : Hid (xx.n.length ≤ maxLen) := Lib.hid (by have := HL.out l[j] (List.getElem_mem hlt3); rw [hxx] at this; unfold maxLen; omega)
        have HXM : Hid (xx.n.length ≤ 1000000) := Lib.hid (by have := HL.out l[j] (List.getElem_mem hlt3); rw [hxx] at this; exact this)
        rw [hxx] at x0 x1 x2 HST
        rw [← HB.out.cell (p := ⟨b0, off + j * 3, none⟩) hbl] at x0
        rw [← HB.out.cell (p := ⟨b0, off + j * 3 + 1, none⟩) hbl] at x1
        rw [← HB.out.cell (p := ⟨b0, off + j * 3 + 2, none⟩) hbl] at x2
        clear hcell hxx
        subst hA0
        obtain ⟨xn, xm, xh⟩ := xx
        dsimp only at x0 x1 x2 HXL HXM
        have HKZ : Hid (K.length ≤ 1000000) := Lib.hid (by
          have := (NewK.go HGO.out).len
          rw [this, List.length_take]; omega)
        have HSO := Lib.hid (NewK.go HGO.out).ks
        go_wp2_with fail
        obtain ⟨y6, hy6⟩ : ∃ y6, y6 = wr.alloc (.cells #[encStr xn, .int .i64 xm, .int .i64 xh] 87) := ⟨_, rfl⟩
        rw [← hy6]
        have HA6 : Hid (At0 y6 gs gk K) := Lib.hid (by rw [hy6]; exact HA.out.alloc _)
        have L6 : Hid (Lies y6 wr.heap.size 87 #[encStr xn, .int .i64 xm, .int .i64 xh]) := Lib.hid (by rw [hy6]; exact Lies.made _ _ _)
        have HB6 : Hid (Below w.heap.size w y6) := Lib.hid (by rw [hy6]; exact HB.out.alloc HB.out.size _)
        have HNG : Hid (wr.heap.size ≠ gk) := Lib.hid (Nat.ne_of_gt HA.out.ok.lt)
        have HNS : Hid (gs ≠ wr.heap.size) := Lib.hid (Nat.ne_of_lt HA.out.c.lt)
        clear hy6 x0 x1 x2
        cases hf : findK K xn with
        | some k =>
          have HFK := Lib.hid hf
          have hno : newOf l = none := by
            unfold newOf
            rw [if_neg (by rw [HLN.out]; omega)]
            refine newGo_none (j := j + 1) ?_
            rw [HST.out]
            unfold addG
            rw [if_pos (by rw [hf]; rfl)]
          have HNO := Lib.hid hno
          clear hf hno
          refine wp_region_noPanic ?_
          refine wp_region_held_drew (S := fun W => (Lies W gs 186 #[.map (some gk), .map none, .map none, .map none, .map none] ∧ Lies W wr.heap.size 87 #[encStr xn, .int .i64 xm, .int .i64 xh]) ∧ OwnK W gk K) (by kernel_rfl) ⟨⟨HA6.out.c, L6.out⟩, HA6.out.ok⟩ (fun hH0 => ?_)
          refine any_take 0 25 ?va0 rfl rfl (by kernel_rfl) (by kernel_rfl) (by kernel_rfl) (fun _ _ _ h => h) (by rfl) ?hya0 hH0 ?resta0
          case hya0 => ((intro W hSw); obtain ⟨o0, o1, o2, o3, o4⟩ := Lies.cells5 hSw.1.1; obtain ⟨p0, p1, p2⟩ := Lies.cells3 hSw.1.2; have lk := hSw.2.look_ok xn HXL.out; rw [HFK.out] at lk; dsimp only [Option.getD_some, Option.getD_none, Option.isSome_some, Option.isSome_none] at lk; go_simp; (try with_reducible rfl))
          try simp only [Act.put, List.setIfInBounds_toArray, List.set_cons_zero, List.set_cons_succ]
          refine any_take 1 26 ?va1 rfl rfl (by kernel_rfl) (by kernel_rfl) (by kernel_rfl) (fun _ _ _ h => h) (by rfl) ?hya1 hH0 ?resta1
          case hya1 => ((intro W hSw); obtain ⟨o0, o1, o2, o3, o4⟩ := Lies.cells5 hSw.1.1; obtain ⟨p0, p1, p2⟩ := Lies.cells3 hSw.1.2; have lk := hSw.2.look_ok xn HXL.out; rw [HFK.out] at lk; dsimp only [Option.getD_some, Option.getD_none, Option.isSome_some, Option.isSome_none] at lk; go_simp; (try with_reducible rfl))
          try simp only [Act.put, List.setIfInBounds_toArray, List.set_cons_zero, List.set_cons_succ]
          refine any_take 2 27 ?va2 rfl rfl (by kernel_rfl) (by kernel_rfl) (by kernel_rfl) (fun _ _ _ h => h) (by rfl) ?hya2 hH0 ?resta2
          case hya2 => ((intro W hSw); obtain ⟨o0, o1, o2, o3, o4⟩ := Lies.cells5 hSw.1.1; obtain ⟨p0, p1, p2⟩ := Lies.cells3 hSw.1.2; have lk := hSw.2.look_ok xn HXL.out; rw [HFK.out] at lk; dsimp only [Option.getD_some, Option.getD_none, Option.isSome_some, Option.isSome_none] at lk; go_simp; (try with_reducible rfl))
          try simp only [Act.put, List.setIfInBounds_toArray, List.set_cons_zero, List.set_cons_succ]
          refine any_take 3 28 ?va3 rfl rfl (by kernel_rfl) (by kernel_rfl) (by kernel_rfl) (fun _ _ _ h => h) (by rfl) ?hya3 hH0 ?resta3
          case hya3 => ((intro W hSw); obtain ⟨o0, o1, o2, o3, o4⟩ := Lies.cells5 hSw.1.1; obtain ⟨p0, p1, p2⟩ := Lies.cells3 hSw.1.2; have lk := hSw.2.look_ok xn HXL.out; rw [HFK.out] at lk; dsimp only [Option.getD_some, Option.getD_none, Option.isSome_some, Option.isSome_none] at lk; go_simp; (try with_reducible rfl))
          try simp only [Act.put, List.setIfInBounds_toArray, List.set_cons_zero, List.set_cons_succ]
          refine any_take 4 29 ?va4 rfl rfl (by kernel_rfl) (by kernel_rfl) (by kernel_rfl) (fun _ _ _ h => h) (by rfl) ?hya4 hH0 ?resta4
          case hya4 => ((intro W hSw); obtain ⟨o0, o1, o2, o3, o4⟩ := Lies.cells5 hSw.1.1; obtain ⟨p0, p1, p2⟩ := Lies.cells3 hSw.1.2; have lk := hSw.2.look_ok xn HXL.out; rw [HFK.out] at lk; dsimp only [Option.getD_some, Option.getD_none, Option.isSome_some, Option.isSome_none] at lk; go_simp; (try with_reducible rfl))
          try simp only [Act.put, List.setIfInBounds_toArray, List.set_cons_zero, List.set_cons_succ]
          refine any_take 5 30 ?va5 rfl rfl (by kernel_rfl) (by kernel_rfl) (by kernel_rfl) (fun _ _ _ h => h) (by rfl) ?hya5 hH0 ?resta5
          case hya5 => ((intro W hSw); obtain ⟨o0, o1, o2, o3, o4⟩ := Lies.cells5 hSw.1.1; obtain ⟨p0, p1, p2⟩ := Lies.cells3 hSw.1.2; have lk := hSw.2.look_ok xn HXL.out; rw [HFK.out] at lk; dsimp only [Option.getD_some, Option.getD_none, Option.isSome_some, Option.isSome_none] at lk; go_simp; (try with_reducible rfl))
          try simp only [Act.put, List.setIfInBounds_toArray, List.set_cons_zero, List.set_cons_succ]
          refine any_take 6 31 ?va6 rfl rfl (by kernel_rfl) (by kernel_rfl) (by kernel_rfl) (fun _ _ _ h => h) (by rfl) ?hya6 hH0 ?resta6
          case hya6 => ((intro W hSw); obtain ⟨o0, o1, o2, o3, o4⟩ := Lies.cells5 hSw.1.1; obtain ⟨p0, p1, p2⟩ := Lies.cells3 hSw.1.2; have lk := hSw.2.look_ok xn HXL.out; rw [HFK.out] at lk; dsimp only [Option.getD_some, Option.getD_none, Option.isSome_some, Option.isSome_none] at lk; go_simp; (try with_reducible rfl))
          try simp only [Act.put, List.setIfInBounds_toArray, List.set_cons_zero, List.set_cons_succ]
          refine any_take 7 24 ?va7 rfl rfl (by kernel_rfl) (by kernel_rfl) (by kernel_rfl) (fun _ _ _ h => h) (by rfl) ?hya7 hH0 ?resta7
          case hya7 => ((intro W hSw); obtain ⟨o0, o1, o2, o3, o4⟩ := Lies.cells5 hSw.1.1; obtain ⟨p0, p1, p2⟩ := Lies.cells3 hSw.1.2; have lk := hSw.2.look_ok xn HXL.out; rw [HFK.out] at lk; dsimp only [Option.getD_some, Option.getD_none, Option.isSome_some, Option.isSome_none] at lk; go_simp; (try with_reducible rfl))
          try simp only [Act.put, List.setIfInBounds_toArray, List.set_cons_zero, List.set_cons_succ]
          refine any_take 8 32 ?va8 rfl rfl (by kernel_rfl) (by kernel_rfl) (by kernel_rfl) (fun _ _ _ h => h) (by rfl) ?hya8 hH0 ?resta8
          case hya8 => ((intro W hSw); obtain ⟨o0, o1, o2, o3, o4⟩ := Lies.cells5 hSw.1.1; obtain ⟨p0, p1, p2⟩ := Lies.cells3 hSw.1.2; have lk := hSw.2.look_ok xn HXL.out; rw [HFK.out] at lk; dsimp only [Option.getD_some, Option.getD_none, Option.isSome_some, Option.isSome_none] at lk; go_simp; (try with_reducible rfl))
          try simp only [Act.put, List.setIfInBounds_toArray, List.set_cons_zero, List.set_cons_succ]
          refine any_take 9 33 ?va9 rfl rfl (by kernel_rfl) (by kernel_rfl) (by kernel_rfl) (fun _ _ _ h => h) (by rfl) ?hya9 hH0 ?resta9
          case hya9 => ((intro W hSw); obtain ⟨o0, o1, o2, o3, o4⟩ := Lies.cells5 hSw.1.1; obtain ⟨p0, p1, p2⟩ := Lies.cells3 hSw.1.2; have lk := hSw.2.look_ok xn HXL.out; rw [HFK.out] at lk; dsimp only [Option.getD_some, Option.getD_none, Option.isSome_some, Option.isSome_none] at lk; go_simp; (try with_reducible rfl))
          try simp only [Act.put, List.setIfInBounds_toArray, List.set_cons_zero, List.set_cons_succ]
          refine wpAnyH_ready (rs := [10]) (by kernel_rfl) (by simp) ?_
          refine AllReadyH.cons rfl (fun K' hK => ?_) AllReadyH.nil
          go_simp
          refine hK.out _ _ ⟨⟨(HA6.out.drew.alloc _).c, Lies.alloc (w := y6.drew) L6.out _⟩, (HA6.out.drew.alloc _).ok⟩ (fun hH1 => ?_)
          clear hK K' hH0
          try simp only [Act.put, List.setIfInBounds_toArray, List.set_cons_zero, List.set_cons_succ]
          refine wpAnyH_ready (rs := [11]) (by kernel_rfl) (by simp) ?_
          refine AllReadyH.cons rfl (fun K' hK => ?_) AllReadyH.nil
          go_simp
          refine hK.out _ _ ⟨⟨(HA6.out.drew.alloc _).c, Lies.alloc (w := y6.drew) L6.out _⟩, (HA6.out.drew.alloc _).ok⟩ (fun hH2 => ?_)
          clear hK K' hH1
          try simp only [Act.put, List.setIfInBounds_toArray, List.set_cons_zero, List.set_cons_succ]
          refine any_take 12 8 ?va12 rfl rfl (by kernel_rfl) (by kernel_rfl) (by kernel_rfl) (fun _ _ _ h => h) (by rfl) ?hya12 hH2 ?resta12
          case hya12 => ((intro W hSw); obtain ⟨o0, o1, o2, o3, o4⟩ := Lies.cells5 hSw.1.1; obtain ⟨p0, p1, p2⟩ := Lies.cells3 hSw.1.2; have lk := hSw.2.look_ok xn HXL.out; rw [HFK.out] at lk; dsimp only [Option.getD_some, Option.getD_none, Option.isSome_some, Option.isSome_none] at lk; go_simp; (try with_reducible rfl))
          try simp only [Act.put, List.setIfInBounds_toArray, List.set_cons_zero, List.set_cons_succ]
          clear hH2
          refine wpAnyH_done (by kernel_rfl) ?_ _
          refine NoPanic.normal ?_
          obtain ⟨y7, hy7⟩ : ∃ y7, y7 = (y6.alloc (.cells #[encStr k.n, .int .i64 k.m, .int .i64 k.h] 87)).drew := ⟨_, rfl⟩
          rw [← hy7]
          have HA7 : Hid (At0 y7 gs gk K) := Lib.hid (by rw [hy7]; exact (HA6.out.alloc _).drew)
          have L7 : Hid (Lies y7 wr.heap.size 87 #[encStr xn, .int .i64 xm, .int .i64 xh]) := Lib.hid (by rw [hy7]; exact Lies.alloc (w := y6) L6.out _)
          have HB7 : Hid (Below w.heap.size w y7) := Lib.hid (by rw [hy7]; exact ((HB6.out.alloc HB6.out.size _).drew))
          clear hy7
          go_wp2
          go_ret2
          exact ⟨HB7.out, .inl ⟨HNO.out, rfl⟩⟩
        | none =>
          have HFK := Lib.hid hf
          clear hf
          refine wp_region_noPanic ?_
          refine wp_region_held_drew (S := fun W => (Lies W gs 186 #[.map (some gk), .map none, .map none, .map none, .map none] ∧ Lies W wr.heap.size 87 #[encStr xn, .int .i64 xm, .int .i64 xh]) ∧ OwnK W gk K) (by kernel_rfl) ⟨⟨HA6.out.c, L6.out⟩, HA6.out.ok⟩ (fun hH0 => ?_)
          refine any_take 0 25 ?vb0 rfl rfl (by kernel_rfl) (by kernel_rfl) (by kernel_rfl) (fun _ _ _ h => h) (by rfl) ?hyb0 hH0 ?restb0
          case hyb0 => ((intro W hSw); obtain ⟨o0, o1, o2, o3, o4⟩ := Lies.cells5 hSw.1.1; obtain ⟨p0, p1, p2⟩ := Lies.cells3 hSw.1.2; have lk := hSw.2.look_ok xn HXL.out; rw [HFK.out] at lk; dsimp only [Option.getD_some, Option.getD_none, Option.isSome_some, Option.isSome_none] at lk; go_simp; (try with_reducible rfl))
          try simp only [Act.put, List.setIfInBounds_toArray, List.set_cons_zero, List.set_cons_succ]
          refine any_take 1 26 ?vb1 rfl rfl (by kernel_rfl) (by kernel_rfl) (by kernel_rfl) (fun _ _ _ h => h) (by rfl) ?hyb1 hH0 ?restb1
          case hyb1 => ((intro W hSw); obtain ⟨o0, o1, o2, o3, o4⟩ := Lies.cells5 hSw.1.1; obtain ⟨p0, p1, p2⟩ := Lies.cells3 hSw.1.2; have lk := hSw.2.look_ok xn HXL.out; rw [HFK.out] at lk; dsimp only [Option.getD_some, Option.getD_none, Option.isSome_some, Option.isSome_none] at lk; go_simp; (try with_reducible rfl))
          try simp only [Act.put, List.setIfInBounds_toArray, List.set_cons_zero, List.set_cons_succ]
          refine any_take 2 27 ?vb2 rfl rfl (by kernel_rfl) (by kernel_rfl) (by kernel_rfl) (fun _ _ _ h => h) (by rfl) ?hyb2 hH0 ?restb2
          case hyb2 => ((intro W hSw); obtain ⟨o0, o1, o2, o3, o4⟩ := Lies.cells5 hSw.1.1; obtain ⟨p0, p1, p2⟩ := Lies.cells3 hSw.1.2; have lk := hSw.2.look_ok xn HXL.out; rw [HFK.out] at lk; dsimp only [Option.getD_some, Option.getD_none, Option.isSome_some, Option.isSome_none] at lk; go_simp; (try with_reducible rfl))
          try simp only [Act.put, List.setIfInBounds_toArray, List.set_cons_zero, List.set_cons_succ]
          refine any_take 3 28 ?vb3 rfl rfl (by kernel_rfl) (by kernel_rfl) (by kernel_rfl) (fun _ _ _ h => h) (by rfl) ?hyb3 hH0 ?restb3
          case hyb3 => ((intro W hSw); obtain ⟨o0, o1, o2, o3, o4⟩ := Lies.cells5 hSw.1.1; obtain ⟨p0, p1, p2⟩ := Lies.cells3 hSw.1.2; have lk := hSw.2.look_ok xn HXL.out; rw [HFK.out] at lk; dsimp only [Option.getD_some, Option.getD_none, Option.isSome_some, Option.isSome_none] at lk; go_simp; (try with_reducible rfl))
          try simp only [Act.put, List.setIfInBounds_toArray, List.set_cons_zero, List.set_cons_succ]
          refine any_take 4 29 ?vb4 rfl rfl (by kernel_rfl) (by kernel_rfl) (by kernel_rfl) (fun _ _ _ h => h) (by rfl) ?hyb4 hH0 ?restb4
          case hyb4 => ((intro W hSw); obtain ⟨o0, o1, o2, o3, o4⟩ := Lies.cells5 hSw.1.1; obtain ⟨p0, p1, p2⟩ := Lies.cells3 hSw.1.2; have lk := hSw.2.look_ok xn HXL.out; rw [HFK.out] at lk; dsimp only [Option.getD_some, Option.getD_none, Option.isSome_some, Option.isSome_none] at lk; go_simp; (try with_reducible rfl))
          try simp only [Act.put, List.setIfInBounds_toArray, List.set_cons_zero, List.set_cons_succ]
          refine any_take 5 30 ?vb5 rfl rfl (by kernel_rfl) (by kernel_rfl) (by kernel_rfl) (fun _ _ _ h => h) (by rfl) ?hyb5 hH0 ?restb5
          case hyb5 => ((intro W hSw); obtain ⟨o0, o1, o2, o3, o4⟩ := Lies.cells5 hSw.1.1; obtain ⟨p0, p1, p2⟩ := Lies.cells3 hSw.1.2; have lk := hSw.2.look_ok xn HXL.out; rw [HFK.out] at lk; dsimp only [Option.getD_some, Option.getD_none, Option.isSome_some, Option.isSome_none] at lk; go_simp; (try with_reducible rfl))
          try simp only [Act.put, List.setIfInBounds_toArray, List.set_cons_zero, List.set_cons_succ]
          refine any_take 6 31 ?vb6 rfl rfl (by kernel_rfl) (by kernel_rfl) (by kernel_rfl) (fun _ _ _ h => h) (by rfl) ?hyb6 hH0 ?restb6
          case hyb6 => ((intro W hSw); obtain ⟨o0, o1, o2, o3, o4⟩ := Lies.cells5 hSw.1.1; obtain ⟨p0, p1, p2⟩ := Lies.cells3 hSw.1.2; have lk := hSw.2.look_ok xn HXL.out; rw [HFK.out] at lk; dsimp only [Option.getD_some, Option.getD_none, Option.isSome_some, Option.isSome_none] at lk; go_simp; (try with_reducible rfl))
          try simp only [Act.put, List.setIfInBounds_toArray, List.set_cons_zero, List.set_cons_succ]
          refine any_take 7 24 ?vb7 rfl rfl (by kernel_rfl) (by kernel_rfl) (by kernel_rfl) (fun _ _ _ h => h) (by rfl) ?hyb7 hH0 ?restb7
          case hyb7 => ((intro W hSw); obtain ⟨o0, o1, o2, o3, o4⟩ := Lies.cells5 hSw.1.1; obtain ⟨p0, p1, p2⟩ := Lies.cells3 hSw.1.2; have lk := hSw.2.look_ok xn HXL.out; rw [HFK.out] at lk; dsimp only [Option.getD_some, Option.getD_none, Option.isSome_some, Option.isSome_none] at lk; go_simp; (try with_reducible rfl))
          try simp only [Act.put, List.setIfInBounds_toArray, List.set_cons_zero, List.set_cons_succ]
          refine any_take 8 32 ?vb8 rfl rfl (by kernel_rfl) (by kernel_rfl) (by kernel_rfl) (fun _ _ _ h => h) (by rfl) ?hyb8 hH0 ?restb8
          case hyb8 => ((intro W hSw); obtain ⟨o0, o1, o2, o3, o4⟩ := Lies.cells5 hSw.1.1; obtain ⟨p0, p1, p2⟩ := Lies.cells3 hSw.1.2; have lk := hSw.2.look_ok xn HXL.out; rw [HFK.out] at lk; dsimp only [Option.getD_some, Option.getD_none, Option.isSome_some, Option.isSome_none] at lk; go_simp; (try with_reducible rfl))
          try simp only [Act.put, List.setIfInBounds_toArray, List.set_cons_zero, List.set_cons_succ]
          refine any_take 9 33 ?vb9 rfl rfl (by kernel_rfl) (by kernel_rfl) (by kernel_rfl) (fun _ _ _ h => h) (by rfl) ?hyb9 hH0 ?restb9
          case hyb9 => ((intro W hSw); obtain ⟨o0, o1, o2, o3, o4⟩ := Lies.cells5 hSw.1.1; obtain ⟨p0, p1, p2⟩ := Lies.cells3 hSw.1.2; have lk := hSw.2.look_ok xn HXL.out; rw [HFK.out] at lk; dsimp only [Option.getD_some, Option.getD_none, Option.isSome_some, Option.isSome_none] at lk; go_simp; (try with_reducible rfl))
          try simp only [Act.put, List.setIfInBounds_toArray, List.set_cons_zero, List.set_cons_succ]
          refine wpAnyH_ready (rs := [10]) (by kernel_rfl) (by simp) ?_
          refine AllReadyH.cons rfl (fun K' hK => ?_) AllReadyH.nil
          go_simp
          refine hK.out _ _ ⟨⟨(HA6.out.drew.alloc _).c, Lies.alloc (w := y6.drew) L6.out _⟩, (HA6.out.drew.alloc _).ok⟩ (fun hH1 => ?_)
          clear hK K' hH0
          try simp only [Act.put, List.setIfInBounds_toArray, List.set_cons_zero, List.set_cons_succ]
          refine wpAnyH_ready (rs := [11]) (by kernel_rfl) (by simp) ?_
          refine AllReadyH.cons rfl (fun K' hK => ?_) AllReadyH.nil
          go_simp
          refine hK.out _ _ ⟨⟨(HA6.out.drew.alloc _).c, Lies.alloc (w := y6.drew) L6.out _⟩, (HA6.out.drew.alloc _).ok⟩ (fun hH2 => ?_)
          clear hK K' hH1
          try simp only [Act.put, List.setIfInBounds_toArray, List.set_cons_zero, List.set_cons_succ]
          refine any_take 12 8 ?vb12 rfl rfl (by kernel_rfl) (by kernel_rfl) (by kernel_rfl) (fun _ _ _ h => h) (by rfl) ?hyb12 hH2 ?restb12
          case hyb12 => ((intro W hSw); obtain ⟨o0, o1, o2, o3, o4⟩ := Lies.cells5 hSw.1.1; obtain ⟨p0, p1, p2⟩ := Lies.cells3 hSw.1.2; have lk := hSw.2.look_ok xn HXL.out; rw [HFK.out] at lk; dsimp only [Option.getD_some, Option.getD_none, Option.isSome_some, Option.isSome_none] at lk; go_simp; (try with_reducible rfl))
          try simp only [Act.put, List.setIfInBounds_toArray, List.set_cons_zero, List.set_cons_succ]
          clear hH2
          refine wpAnyH_done (by kernel_rfl) ?_ _
          refine NoPanic.normal ?_
          obtain ⟨y7, hy7⟩ : ∃ y7, y7 = (y6.alloc (.cells #[encStr zK.n, .int .i64 zK.m, .int .i64 zK.h] 87)).drew := ⟨_, rfl⟩
          rw [← hy7]
          have HA7 : Hid (At0 y7 gs gk K) := Lib.hid (by rw [hy7]; exact (HA6.out.alloc _).drew)
          have L7 : Hid (Lies y7 wr.heap.size 87 #[encStr xn, .int .i64 xm, .int .i64 xh]) := Lib.hid (by rw [hy7]; exact Lies.alloc (w := y6) L6.out _)
          have HB7 : Hid (Below w.heap.size w y7) := Lib.hid (by rw [hy7]; exact ((HB6.out.alloc HB6.out.size _).drew))
          clear hy7
          obtain ⟨p0, p1, p2⟩ := L7.out.cells3
          go_wp2_with fail
          with_reducible refine (isGood_any xn xm xh _ (by have := HXM.out; omega)).mono ?_
          rintro e y8 ⟨rfl, hb8⟩
          have HA8 := Lib.hid (HA7.out.below hb8)
          have L8 := Lib.hid (Lies.below L7.out hb8 L7.out.lt)
          have HB8 := Lib.hid (HB7.out.trans (hb8.mono HB7.out.size))
          clear hb8 p0 p1 p2
          obtain ⟨p0, p1, p2⟩ := L8.out.cells3
          cases hgb : goodB xn xm xh
          · have hno : newOf l = none := by
              unfold newOf
              rw [if_neg (by rw [HLN.out]; omega)]
              refine newGo_none (j := j + 1) ?_
              rw [HST.out]
              unfold addG
              rw [if_pos (by dsimp only; rw [hgb]; simp)]
            have HNO := Lib.hid hno
            clear hgb hno
            go_wp2
            go_ret2
            exact ⟨HB8.out, .inl ⟨HNO.out, rfl⟩⟩
          · have hst : newGo [] (l.take (j + 1)) = some (insK ⟨xn, xm, xh⟩ K) := by
              rw [HST.out]
              unfold addG
              rw [if_neg (by dsimp only; rw [hgb, HFK.out]; simp)]
            have HS2 := Lib.hid hst
            clear hgb hst
            go_wp2_with fail
            with_reducible refine (clone_any xn _ HXM.out).mono ?_
            rintro e y9b ⟨rfl, hb9⟩
            have HA9b := Lib.hid (HA8.out.below hb9)
            have L9b := Lib.hid (Lies.below L8.out hb9 L8.out.lt)
            have HB9b := Lib.hid (HB8.out.trans (hb9.mono HB8.out.size))
            clear hb9 p0 p1 p2
            obtain ⟨p0, p1, p2⟩ := L9b.out.cells3
            obtain ⟨pf0, pf1, pf2⟩ := L9b.out.free3
            go_wp2_with fail
            obtain ⟨y9, hy9⟩ : ∃ y9, y9 = y9b.setCell ⟨wr.heap.size, 0, none⟩ (encStr xn) := ⟨_, rfl⟩
            rw [← hy9]
            have HA9 : Hid (At0 y9 gs gk K) := Lib.hid (by rw [hy9]; exact ⟨HA9b.out.c.other (a := ⟨wr.heap.size, 0, none⟩) HNS.out _, HA9b.out.ok.same (heap_setCell_other _ ⟨wr.heap.size, 0, none⟩ _ _ (Ne.symm HNG.out))⟩)
            have L9 : Hid (Lies y9 wr.heap.size 87 #[encStr xn, .int .i64 xm, .int .i64 xh]) := Lib.hid (by rw [hy9]; exact L9b.out.put 0 (encStr xn))
            have HB9 : Hid (Below w.heap.size w y9) := Lib.hid (by rw [hy9]; exact HB9b.out.setCell (p := ⟨wr.heap.size, 0, none⟩) HB.out.size _)
            clear hy9 p0 p1 p2 pf0 pf1 pf2
            obtain ⟨w3, hu1, hu2, hu3⟩ := HA9.out.drew.ok.add ⟨xn, xm, xh⟩ (findK_none HFK.out) HXL.out HKZ.out
            have HU := Lib.hid (And.intro hu1 (And.intro hu2 hu3))
            clear hu1 hu2 hu3
            refine wp_region_noPanic ?_
            refine wp_region_held_drew (S := fun W => Lies W gs 186 #[.map (some gk), .map none, .map none, .map none, .map none] ∧ Lies W wr.heap.size 87 #[encStr xn, .int .i64 xm, .int .i64 xh]) (by kernel_rfl) ⟨HA9.out.c, L9.out⟩ (fun hH0 => ?_)
            refine any_take 0 44 ?vc0 rfl rfl (by kernel_rfl) (by kernel_rfl) (by kernel_rfl) (fun _ _ _ h => h) (by rfl) ?hyc0 hH0 ?restc0
            case hyc0 => ((intro W hSw); obtain ⟨o0, o1, o2, o3, o4⟩ := Lies.cells5 hSw.1; obtain ⟨p0, p1, p2⟩ := Lies.cells3 hSw.2; go_simp; (try with_reducible rfl))
            try simp only [Act.put, List.setIfInBounds_toArray, List.set_cons_zero, List.set_cons_succ]
            refine any_take 1 45 ?vc1 rfl rfl (by kernel_rfl) (by kernel_rfl) (by kernel_rfl) (fun _ _ _ h => h) (by rfl) ?hyc1 hH0 ?restc1
            case hyc1 => ((intro W hSw); obtain ⟨o0, o1, o2, o3, o4⟩ := Lies.cells5 hSw.1; obtain ⟨p0, p1, p2⟩ := Lies.cells3 hSw.2; go_simp; (try with_reducible rfl))
            try simp only [Act.put, List.setIfInBounds_toArray, List.set_cons_zero, List.set_cons_succ]
            refine any_take 2 46 ?vc2 rfl rfl (by kernel_rfl) (by kernel_rfl) (by kernel_rfl) (fun _ _ _ h => h) (by rfl) ?hyc2 hH0 ?restc2
            case hyc2 => ((intro W hSw); obtain ⟨o0, o1, o2, o3, o4⟩ := Lies.cells5 hSw.1; obtain ⟨p0, p1, p2⟩ := Lies.cells3 hSw.2; go_simp; (try with_reducible rfl))
            try simp only [Act.put, List.setIfInBounds_toArray, List.set_cons_zero, List.set_cons_succ]
            refine any_take 3 47 ?vc3 rfl rfl (by kernel_rfl) (by kernel_rfl) (by kernel_rfl) (fun _ _ _ h => h) (by rfl) ?hyc3 hH0 ?restc3
            case hyc3 => ((intro W hSw); obtain ⟨o0, o1, o2, o3, o4⟩ := Lies.cells5 hSw.1; obtain ⟨p0, p1, p2⟩ := Lies.cells3 hSw.2; go_simp; (try with_reducible rfl))
            try simp only [Act.put, List.setIfInBounds_toArray, List.set_cons_zero, List.set_cons_succ]
            refine any_take 4 48 ?vc4 rfl rfl (by kernel_rfl) (by kernel_rfl) (by kernel_rfl) (fun _ _ _ h => h) (by rfl) ?hyc4 hH0 ?restc4
            case hyc4 => ((intro W hSw); obtain ⟨o0, o1, o2, o3, o4⟩ := Lies.cells5 hSw.1; obtain ⟨p0, p1, p2⟩ := Lies.cells3 hSw.2; go_simp; (try with_reducible rfl))
            try simp only [Act.put, List.setIfInBounds_toArray, List.set_cons_zero, List.set_cons_succ]
            refine any_take 5 49 ?vc5 rfl rfl (by kernel_rfl) (by kernel_rfl) (by kernel_rfl) (fun _ _ _ h => h) (by rfl) ?hyc5 hH0 ?restc5
            case hyc5 => ((intro W hSw); obtain ⟨o0, o1, o2, o3, o4⟩ := Lies.cells5 hSw.1; obtain ⟨p0, p1, p2⟩ := Lies.cells3 hSw.2; go_simp; (try with_reducible rfl))
            try simp only [Act.put, List.setIfInBounds_toArray, List.set_cons_zero, List.set_cons_succ]
            refine any_take 6 50 ?vc6 rfl rfl (by kernel_rfl) (by kernel_rfl) (by kernel_rfl) (fun _ _ _ h => h) (by rfl) ?hyc6 hH0 ?restc6
            case hyc6 => ((intro W hSw); obtain ⟨o0, o1, o2, o3, o4⟩ := Lies.cells5 hSw.1; obtain ⟨p0, p1, p2⟩ := Lies.cells3 hSw.2; go_simp; (try with_reducible rfl))
            try simp only [Act.put, List.setIfInBounds_toArray, List.set_cons_zero, List.set_cons_succ]
            refine wpAnyH_ready (rs := [7]) (by kernel_rfl) (by simp) ?_
            refine AllReadyH.cons rfl (fun K' hK => ?_) AllReadyH.nil
            refine stp_upd none _ _ _ 182 (.tmp 47) (.tmp 49) (.tmp 50) (.map (some gk)) (encStr xn) (vK ⟨xn, xm, xh⟩) w3 rfl rfl rfl HU.out.1 ?_
            obtain ⟨hA3, hg3⟩ := HA9.out.drew.turnK HU.out.2.1 HU.out.2.2
            have L3 := Lib.hid (Lies.same L9.out (hg3.block _ L9.out.lt (fun e => HNG.out (Option.some.inj e))))
            have HA3 := Lib.hid hA3
            have HB3 : Hid (Below w.heap.size w w3) := Lib.hid (HB9.out.drew.grown hg3 HB9.out.size (fun k hk => by have := Option.some.inj hk; have := HGS.out.1; omega))
            refine hK.out _ _ ⟨HA3.out.c, L3.out⟩ (fun hH1 => ?_)
            clear hA3 hg3 hK K' hH0
            try simp only [Act.put, List.setIfInBounds_toArray, List.set_cons_zero, List.set_cons_succ]
            clear hH1
            refine wpAnyH_done (by kernel_rfl) ?_ _
            refine NoPanic.normal ?_
            go_wp2
            go_roundw
            case rel => exact ⟨j + 1, insK ⟨xn, xm, xh⟩ K, by omega, by go_num, HS2.out, HA3.out, HB3.out⟩
            case measure => simp [intOf]; omega
      · have hj2 : j = l.length := by have := HLN.out; omega
        have HNW : Hid (newOf l = some K) := Lib.hid (by
          unfold newOf
          rw [if_neg (by rw [HLN.out]; omega)]
          have := HGO.out
          rw [hj2, List.take_length] at this
          exact this)
        have hnl : decide ((j : Int) < (n : Int)) = false := by simp; omega
        clear hj2
        go_wp2_with fail
        clear hnl
        go_loopw [9] (fun v wr => NwD w gs gk K v wr) (fun i _ => 4 - (intOf i).toNat)
        case atStart => exact .inl ⟨rfl, HA.out.c, HA.out.ok, HB.out⟩
        case round =>
          clear HA HB
          rcases hrel with ⟨rfl, hrel⟩ | ⟨rfl, hrel⟩ | ⟨rfl, hrel⟩ | ⟨rfl, hrel⟩
          · obtain ⟨hC, hK, hBw⟩ := hrel
            have HC := Lib.hid hC
            obtain ⟨o0, o1, o2, o3, o4⟩ := (hC.alloc (.map #[] 0)).cells5
            obtain ⟨f0, f1, f2, f3, f4⟩ := (hC.alloc (.map #[] 0)).free5
            have hNS : gs ≠ wr.heap.size := Nat.ne_of_lt hC.lt
            have hNK : gk ≠ wr.heap.size := Nat.ne_of_lt hK.lt
            have hgsk := HGS.out
            have HW : Hid (∀ (m : Nat) (H : List Hd), OwnH wr m H → OwnH ((wr.alloc (.map #[] 0)).setCell ⟨gs, 2, none⟩ (.map (some wr.heap.size))) m H) := Lib.hid (fun m H h => h.same ((heap_setCell_other _ ⟨gs, 2, none⟩ m _ (h.ne_lies HC.out)).trans (Below.heap_alloc _ _ _ h.lt)))
            have HNEW : Hid (NwD w gs gk K (.int .i64 2) ((wr.alloc (.map #[] 0)).setCell ⟨gs, 2, none⟩ (.map (some wr.heap.size)))) := Lib.hid (by
              refine .inr (.inl ⟨rfl, wr.heap.size, (hC.alloc _).put 2 _, hK.same ((heap_setCell_other _ ⟨gs, 2, none⟩ gk _ (hK.ne_lies hC)).trans (Below.heap_alloc _ _ _ hK.lt)), (hBw.alloc hBw.size _).setCell (p := ⟨gs, 2, none⟩) (by show w.heap.size ≤ gs; omega) _, ?_, ?_⟩)
              · have hm := OwnH.made wr
                exact hm.same (heap_setCell_other _ ⟨gs, 2, none⟩ _ _ (Ne.symm hNS))
              · exact hC.lt)
            clear hC hK hBw
            have hmm := @run_makeMap Tryz.prog
            go_wp2
            go_roundw
            case rel => exact HNEW.out
            case measure => simp [intOf]
          · obtain ⟨a, hC, hK, hBw, ha, la⟩ := hrel
            have HC := Lib.hid hC
            obtain ⟨o0, o1, o2, o3, o4⟩ := (hC.alloc (.map #[] 0)).cells5
            obtain ⟨f0, f1, f2, f3, f4⟩ := (hC.alloc (.map #[] 0)).free5
            have hNS : gs ≠ wr.heap.size := Nat.ne_of_lt hC.lt
            have hNK : gk ≠ wr.heap.size := Nat.ne_of_lt hK.lt
            have hgsk := HGS.out
            have HW : Hid (∀ (m : Nat) (H : List Hd), OwnH wr m H → OwnH ((wr.alloc (.map #[] 0)).setCell ⟨gs, 3, none⟩ (.map (some wr.heap.size))) m H) := Lib.hid (fun m H h => h.same ((heap_setCell_other _ ⟨gs, 3, none⟩ m _ (h.ne_lies HC.out)).trans (Below.heap_alloc _ _ _ h.lt)))
            have HNEW : Hid (NwD w gs gk K (.int .i64 3) ((wr.alloc (.map #[] 0)).setCell ⟨gs, 3, none⟩ (.map (some wr.heap.size)))) := Lib.hid (by
              refine .inr (.inr (.inl ⟨rfl, a, wr.heap.size, (hC.alloc _).put 3 _, hK.same ((heap_setCell_other _ ⟨gs, 3, none⟩ gk _ (hK.ne_lies hC)).trans (Below.heap_alloc _ _ _ hK.lt)), (hBw.alloc hBw.size _).setCell (p := ⟨gs, 3, none⟩) (by show w.heap.size ≤ gs; omega) _, HW.out _ _ ha, ?_, la, ?_⟩))
              · have hm := OwnH.made wr
                exact hm.same (heap_setCell_other _ ⟨gs, 3, none⟩ _ _ (Ne.symm hNS))
              · exact ha.lt)
            clear hC hK hBw ha la
            have hmm := @run_makeMap Tryz.prog
            go_wp2
            go_roundw
            case rel => exact HNEW.out
            case measure => simp [intOf]
          · obtain ⟨a, b2, hC, hK, hBw, ha, hb2, la, lb2⟩ := hrel
            have HC := Lib.hid hC
            obtain ⟨o0, o1, o2, o3, o4⟩ := (hC.alloc (.map #[] 0)).cells5
            obtain ⟨f0, f1, f2, f3, f4⟩ := (hC.alloc (.map #[] 0)).free5
            have hNS : gs ≠ wr.heap.size := Nat.ne_of_lt hC.lt
            have hNK : gk ≠ wr.heap.size := Nat.ne_of_lt hK.lt
            have hgsk := HGS.out
            have HW : Hid (∀ (m : Nat) (H : List Hd), OwnH wr m H → OwnH ((wr.alloc (.map #[] 0)).setCell ⟨gs, 4, none⟩ (.map (some wr.heap.size))) m H) := Lib.hid (fun m H h => h.same ((heap_setCell_other _ ⟨gs, 4, none⟩ m _ (h.ne_lies HC.out)).trans (Below.heap_alloc _ _ _ h.lt)))
            have HNEW : Hid (NwD w gs gk K (.int .i64 4) ((wr.alloc (.map #[] 0)).setCell ⟨gs, 4, none⟩ (.map (some wr.heap.size)))) := Lib.hid (by
              refine .inr (.inr (.inr (⟨rfl, a, b2, wr.heap.size, (hC.alloc _).put 4 _, hK.same ((heap_setCell_other _ ⟨gs, 4, none⟩ gk _ (hK.ne_lies hC)).trans (Below.heap_alloc _ _ _ hK.lt)), (hBw.alloc hBw.size _).setCell (p := ⟨gs, 4, none⟩) (by show w.heap.size ≤ gs; omega) _, HW.out _ _ ha, HW.out _ _ hb2, ?_, la, lb2, ?_⟩)))
              · have hm := OwnH.made wr
                exact hm.same (heap_setCell_other _ ⟨gs, 4, none⟩ _ _ (Ne.symm hNS))
              · exact hb2.lt)
            clear hC hK hBw ha hb2 la lb2
            have hmm := @run_makeMap Tryz.prog
            go_wp2
            go_roundw
            case rel => exact HNEW.out
            case measure => simp [intOf]
          · obtain ⟨a, b2, c2, hC, hK, hBw, ha, hb2, hc2, la, lb2, lc2⟩ := hrel
            have hgsk := HGS.out
            have HAT : Hid (At wr ⟨gs, gk, a, b2, c2⟩ ⟨K, []⟩) := Lib.hid ⟨hC, hK, ha, hb2, hc2, by refine ⟨?_, ?_, ?_, ?_, ?_, ?_⟩ <;> (try dsimp only) <;> omega⟩
            have HLO : Hid (∀ i, (⟨gs, gk, a, b2, c2⟩ : SB).isMap i → w.heap.size ≤ i) := Lib.hid (by
              rintro i (rfl | rfl | rfl | rfl) <;> (try dsimp only) <;> omega)
            have HBW := Lib.hid hBw
            clear hC hK hBw ha hb2 hc2 la lb2 lc2
            go_wp2
            go_ret2
            exact ⟨HBW.out, .inr ⟨K, ⟨gs, gk, a, b2, c2⟩, HNW.out, rfl, HAT.out, by have := HGS.out; show w.heap.size ≤ gs; omega, HLO.out⟩⟩

end Go.Proofs.YtpbclmnhkmcknaaGreat.Pu

namespace Go.Proofs.YtpbclmnhkmcknaaGreat.Do
open Go.Proofs Go.RowKit Go.Maps
set_option maxRecDepth 100000
set_option linter.unusedVariables false
set_option linter.unusedSimpArgs false

/-- A slice of n numbers that reads as l. -/
def Iin (w : World) (A : Option Addr) (n : Nat) (l : List Int) : Prop :=
  l.length = n ∧ (0 < n → ∃ b off, A = some ⟨b, off, none⟩ ∧ b < w.heap.size ∧ ∀ (i : Nat) (hi : i < l.length), w.cell? ⟨b, off + i, none⟩ = some (.int .i64 l[i]))
theorem Iin.below {w w' : World} {A : Option Addr} {n : Nat} {l : List Int} (h : Iin w A n l) (hb : Below w.heap.size w w') : Iin w' A n l := by
  obtain ⟨h1, h2⟩ := h
  refine ⟨h1, fun h0 => ?_⟩
  obtain ⟨b, off, e, hlt, hc⟩ := h2 h0
  exact ⟨b, off, e, Nat.lt_of_lt_of_le hlt hb.size, fun i hi => by rw [hb.cell (p := ⟨b, off + i, none⟩) hlt]; exact hc i hi⟩
/-- May a day have no such room? -/
def badI (n : Int) : Bool := decide (n < 0) || decide (1000000 < n)
theorem bad_any (n : Int) (w : World) : Calls Tryz.prog 93 #[.int .i64 n] w fun e w' => e = .returned (.bool (badI n)) ∧ w = w' := by
  unfold badI
  by_cases h1 : n < 0
  · have e1 : decide (n < 0) = true := by simpa using h1
    rw [e1]
    go_enter Tryz.func93, Tryz.ntmps93
    go_wp2
    go_ret
    exact ⟨rfl, rfl⟩
  · have e1 : decide (n < 0) = false := by simpa using h1
    rw [e1]
    by_cases h2 : 1000000 < n
    · have e2 : decide (1000000 < n) = true := by simpa using h2
      rw [e2]
      go_enter Tryz.func93, Tryz.ntmps93
      go_wp2
      go_ret
      exact ⟨rfl, rfl⟩
    · have e2 : decide (1000000 < n) = false := by simpa using h2
      rw [e2]
      go_enter Tryz.func93, Tryz.ntmps93
      go_wp2
      go_ret
      exact ⟨rfl, rfl⟩
/-- The first that is out of bounds. -/
def idx (l : List Int) : Int := match l.findIdx? badI with
  | some i => (i : Int)
  | none => -1
theorem idx_hit {l : List Int} {i : Nat} (hi : i < l.length) (h : badI l[i] = true) (hn : ∀ (k : Nat) (hk : k < l.length), k < i → badI l[k] = false) : idx l = (i : Int) := by
  unfold idx
  have : l.findIdx? badI = some i := by
    rw [List.findIdx?_eq_some_iff_getElem]
    exact ⟨hi, h, fun j hj => by simpa using hn j (by omega) hj⟩
  rw [this]
theorem idx_miss {l : List Int} (hn : ∀ (k : Nat) (hk : k < l.length), badI l[k] = false) : idx l = -1 := by
  unfold idx
  have : l.findIdx? badI = none := by
    rw [List.findIdx?_eq_none_iff]
    intro h hh
    obtain ⟨k, hk, rfl⟩ := List.getElem_of_mem hh
    exact hn k hk
  rw [this]
theorem idx_pos (l : List Int) : decide (0 ≤ idx l) = l.any badI := by
  unfold idx
  cases h : l.findIdx? badI with
  | none =>
    have h1 := List.findIdx?_eq_none_iff.1 h
    have : l.any badI = false := by rw [List.any_eq_false]; intro x hx; rw [h1 x hx]; decide
    rw [this]; rfl
  | some i =>
    obtain ⟨hi, h1, -⟩ := List.findIdx?_eq_some_iff_getElem.1 h
    have : l.any badI = true := by rw [List.any_eq_true]; exact ⟨_, List.getElem_mem hi, h1⟩
    rw [this]; simp
def IxR (l : List Int) (v : Value) : Prop := ∃ i : Nat, i ≤ l.length ∧ v = .int .i64 (i : Int) ∧ ∀ (k : Nat) (hk : k < l.length), k < i → badI l[k] = false
set_option maxHeartbeats 1000000 in
theorem idx_any (A : Option Addr) (n c : Nat) (l : List Int) (w : World) (hG : Iin w A n l) (hn : n ≤ 1000) : Calls Tryz.prog 124 #[.slice A n c, .func (.func 93) #[] #[]] w fun e w' => e = .returned (.int .i64 (idx l)) ∧ w = w' := by
  have HG := Lib.hid hG
  have HN := Lib.hid hG.1
  have CB := Lib.hid (fun x => bad_any x w)
  clear hG
  go_enter Tryz.func124, Tryz.ntmps124
  go_wp2_with fail
  go_loop [8] (fun v => IxR l v) (fun i => n - (intOf i).toNat)
  case atStart => exact ⟨0, by omega, rfl, fun k hk h => by omega⟩
  case round =>
    obtain ⟨j, hj, rfl, hall⟩ := hrel
    have HALL := Lib.hid hall
    clear hall
    have hjn : j ≤ n := by have := HN.out; omega
    by_cases hlt : j < n
    · have hlt2 : (j : Int) < (n : Int) := by omega
      have hlt3 : j < l.length := by have := HN.out; omega
      obtain ⟨b0, off, rfl, hbl, hcell⟩ := HG.out.2 (by omega)
      have x0 := hcell j hlt3
      obtain ⟨xx, hxx⟩ : ∃ q, l[j] = q := ⟨_, rfl⟩
      rw [hxx] at x0
      have HXX := Lib.hid hxx
      clear hcell hxx
      have C := CB.out xx
      cases hb : badI xx with
      | true =>
        rw [hb] at C
        have HR : Hid (idx l = (j : Int)) := Lib.hid (idx_hit hlt3 (by rw [HXX.out]; exact hb) HALL.out)
        have HC := Lib.hid C
        clear hb C
        go_wp2_with fail
        with_reducible refine HC.out.mono ?_
        rintro e w' ⟨rfl, rfl⟩
        go_wp2
        go_ret
        exact ⟨by rw [HR.out]; rfl, rfl⟩
      | false =>
        rw [hb] at C
        have HB := Lib.hid hb
        have HC := Lib.hid C
        clear hb C
        go_wp2_with fail
        with_reducible refine HC.out.mono ?_
        rintro e w' ⟨rfl, rfl⟩
        go_wp2
        go_round
        case rel =>
          refine ⟨j + 1, by omega, by go_num, fun k hk h => ?_⟩
          by_cases e : k = j
          · subst e; rw [HXX.out]; exact HB.out
          · exact HALL.out k hk (by omega)
        case measure => simp [intOf]; omega
    · have hlt2 : decide ((j : Int) < (n : Int)) = false := by simp; omega
      have HR : Hid (idx l = -1) := Lib.hid (idx_miss fun k hk => HALL.out k hk (by have := HN.out; omega))
      go_wp2
      go_ret
      exact ⟨by rw [HR.out]; rfl, rfl⟩
theorem cont_any (A : Option Addr) (n c : Nat) (l : List Int) (w : World) (hG : Iin w A n l) (hn : n ≤ 1000) : Calls Tryz.prog 92 #[.slice A n c, .func (.func 93) #[] #[]] w fun e w' => e = .returned (.bool (l.any badI)) ∧ w = w' := by
  have C := Lib.hid (idx_any A n c l w hG hn)
  rw [← idx_pos]
  obtain ⟨i, hi⟩ : ∃ i, idx l = i := ⟨_, rfl⟩
  rw [hi] at C ⊢
  clear hi hG
  go_enter Tryz.func92, Tryz.ntmps92
  go_wp2_with fail
  with_reducible refine C.out.mono ?_
  rintro e w' ⟨rfl, rfl⟩
  go_wp2
  go_ret
  exact ⟨rfl, rfl⟩

theorem run_nil22 (a : Option Addr) (n c : Nat) (w : World) : (binOp .eql 41 (.slice a n c) (.slice none 0 0)).run Tryz.prog w = .ok (.bool a.isNone) w := by
  have h := run_equal_slice_nil (P := Tryz.prog) w 41 3 a n c Tryz.underlying41
  simp only [binOp, Sem.run_bind, h, Result.andThen_ok, Sem.run_pure]
def ClPost (w : World) (l : List Int) (e : Ending) (w' : World) : Prop := ∃ v, e = .returned v ∧ OwnI w' w.heap.size v l ∧ Below w.heap.size w w'
theorem OwnI.made0 (w : World) : OwnI (w.alloc (.cells #[] 3)) w.heap.size (.slice (some ⟨w.heap.size, 0, none⟩) 0 0) [] :=
  World.ownsRow_made w #[] 0 (Nat.le_refl _) (by unfold maxLen; omega) rfl
/-- A slice without elements that is not nil, of whatever address. -/
theorem wpl_appI0 {ops : Array Oper} {rest : List Oper} {a : Act} {w : World} {Q : Exit → Act → World → Prop} (dst : Option Tmp) (ty : TypeId) (pos : String) (aft : Array Edge) (s x : Operand)
    (B c : Nat) (A : Option Addr) (v : Value) (l : List Int) (hs : a.eval s = v) (hx : a.eval x = .slice A 0 c) (hown : OwnI w B v l)
    (h : wpList Tryz.prog ops Q rest (a.put dst v) w) :
    wpList Tryz.prog ops Q (⟨dst, .call { callee := .builtin .append, args := #[s, x], argTypes := #[41, 41] }, ty, pos, aft, none⟩ :: rest) a w := by
  refine wpList_plain rfl fun K' hK' => ?_
  unfold Oper.wp execOp
  simp only [resolve, invoke, builtin, Sem.run_bind, Sem.run_pure, Result.andThen_ok, List.map_toArray, List.map_cons, List.map_nil, hs, hx]
  have hr : (Builtin.append_ #[41, 41] ty #[v, .slice A 0 c]).run Tryz.prog w = .ok v w := by
    have hu := Tryz.underlying41
    rcases hown.form with ⟨rfl, _⟩ | ⟨g', cap, cur, rfl, h1, h2, h3, _⟩ <;> cases A
    all_goals simp [Builtin.append_, hu, *, Builtin.lenOf, Builtin.firstCells, storeCells, loadCells, loadCellsFrom]
  rw [hr]
  exact hK' _ _ h

set_option maxHeartbeats 1000000 in
theorem clone_any (A : Option Addr) (n c : Nat) (l : List Int) (w : World) (hG : Iin w A n l) (hn : n ≤ 1000) :
    Calls Tryz.prog 94 #[.slice A n c] w (ClPost w l) := by
  rcases A with _ | ad
  · have h0 : n = 0 := by
      refine Classical.byContradiction fun h0 => ?_
      obtain ⟨b, off, e, _⟩ := hG.2 (by omega)
      cases e
    subst h0
    have HL : Hid (l = []) := Lib.hid (List.eq_nil_of_length_eq_zero hG.1)
    clear hG
    have hq := run_nil22 none 0 c
    rw [show (none : Option Addr).isNone = true from rfl] at hq
    go_enter Tryz.func94, Tryz.ntmps94
    go_wp2
    go_ret
    exact ⟨_, rfl, by rw [HL.out]; exact OwnE.nil _ _, Below.refl _ _⟩
  · have hq := run_nil22 (some ad) n c
    rw [show (some ad : Option Addr).isNone = false from rfl] at hq
    have HO := Lib.hid (OwnI.made0 w)
    have HB := Lib.hid (below1 w (.cells #[] 3))
    have HBZ : Hid (w.heap.size ≤ (w.alloc (.cells #[] 3)).heap.size) := Lib.hid (by simp)
    have HN := Lib.hid hG.1
    by_cases h0 : n = 0
    · subst h0
      have HL : Hid (l = []) := Lib.hid (List.eq_nil_of_length_eq_zero hG.1)
      clear hG
      go_enter Tryz.func94, Tryz.ntmps94
      go_wp2_with (first
        | ((with_reducible refine wpl_appI0 (some 7) _ _ _ (.tmp 5) (.tmp 6) w.heap.size c (some ad) (.slice (some ⟨w.heap.size, 0, none⟩) 0 0) [] ?hs ?hx HO.out ?_); (case hs => rfl); (case hx => rfl)))
      go_ret
      exact ⟨_, rfl, by rw [HL.out]; exact HO.out, HB.out⟩
    · obtain ⟨b, off, e, hbl, hcell⟩ := hG.2 (by omega)
      injection e with e
      subst e
      have HSRC : Hid (∀ (i : Nat) (hi : i < l.length) (j : Nat), j < 1 → (w.alloc (.cells #[] 3)).cell? ⟨b, off + i * 1 + j, none⟩ = (encI l[i])[j]?) := Lib.hid (fun i hi j hj => by
        have e0 : j = 0 := by omega
        subst e0
        have := HB.out.cell (p := ⟨b, off + i, none⟩) hbl
        rw [Nat.mul_one, Nat.add_zero, this, hcell i hi]
        rfl)
      have HSM : Hid (([] : List Int).length + l.length ≤ 100000) := Lib.hid (by simp; have := HN.out; omega)
      clear hG hcell
      go_enter Tryz.func94, Tryz.ntmps94
      go_wp2_with (first
        | ((with_reducible refine wpl_appIs (some 7) _ _ _ (.tmp 5) (.tmp 6) w.heap.size (.slice (some ⟨w.heap.size, 0, none⟩) 0 0) [] l b off c n HN.out ?hs ?hx HO.out HSRC.out HSM.out HBZ.out ?_); (case hs => rfl); (case hx => rfl); (intro v4 w4 ho4 hg4 hb4)))
      go_ret
      exact ⟨_, rfl, ho4, HB.out.grown hg4 HBZ.out (fun k hk => by
        have e : w.heap.size = k := by simpa [Value.ownBlock] using hk
        exact Nat.le_of_eq e)⟩

/-- A new dock, or none. -/
def newOf (l : List Int) : Option (List Int) := if 60 < l.length ∨ l.any badI = true then none else some l
theorem newOf_some {l R : List Int} (h : newOf l = some R) : R = l ∧ l.length ≤ 60 ∧ l.any badI = false := by
  unfold newOf at h
  split at h
  · cases h
  · rename_i hn
    injection h with h
    refine ⟨h.symm, by omega, ?_⟩
    cases hb : l.any badI with
    | false => rfl
    | true => exact absurd (.inr hb) hn
theorem newInv {l R : List Int} (h : newOf l = some R) : Inv R ⟨R, []⟩ := by
  obtain ⟨rfl, h1, h2⟩ := newOf_some h
  have hb : ∀ d, d < R.length → 0 ≤ fr R d ∧ fr R d ≤ 1000000 := by
    intro d hd
    rw [List.any_eq_false] at h2
    have := h2 R[d] (List.getElem_mem hd)
    rw [fr_get hd] at this
    unfold badI at this
    simp at this
    exact this
  exact ⟨HSort.nil, rfl, h1, hb, fun d hd => ⟨(hb d hd).1, by show fr R d + 0 = fr R d; omega⟩, fun h hh => absurd hh (by simp)⟩
def NewPost (w : World) (l : List Int) (e : Ending) (w' : World) : Prop :=
  Below w.heap.size w w' ∧ ((newOf l = none ∧ e = .returned (.tuple #[.pointer none, .int .i64 2])) ∨
    ∃ R b, newOf l = some R ∧ e = .returned (.tuple #[.pointer (some ⟨b.s, 0, none⟩), .int .i64 0]) ∧ At w' b ⟨R, []⟩ ∧ w.heap.size ≤ b.s ∧ ∀ i, b.isMap i → w.heap.size ≤ i)

theorem new_at {w w1 : World} {v : Value} {l : List Int} (hO : OwnI w1 w.heap.size v l) (hB : Below w.heap.size w w1) :
    ∃ b : SB, b.s = w1.heap.size + 1 ∧ At ((w1.alloc (.map #[] 0)).alloc (.cells #[v, .map (some w1.heap.size)] 193)) b ⟨l, []⟩ ∧ Below w.heap.size w ((w1.alloc (.map #[] 0)).alloc (.cells #[v, .map (some w1.heap.size)] 193)) ∧ w.heap.size ≤ b.s ∧ ∀ i, b.isMap i → w.heap.size ≤ i := by
  have hz := hB.size
  have hM : OwnH ((w1.alloc (.map #[] 0)).alloc (.cells #[v, .map (some w1.heap.size)] 193)) w1.heap.size [] := (OwnH.made w1).same (Below.heap_alloc _ _ _ (by simp))
  have hC := Lies.made2 w1 (.map #[] 0) 193 #[v, .map (some w1.heap.size)]
  have hBB : Below w.heap.size w ((w1.alloc (.map #[] 0)).alloc (.cells #[v, .map (some w1.heap.size)] 193)) := (hB.alloc hz _).alloc (by rw [size_one]; omega) _
  have hO2 := (hO.alloc (.map #[] 0)).alloc (.cells #[v, .map (some w1.heap.size)] 193)
  rcases hO2.form with ⟨rfl, rfl⟩ | ⟨g, cap, cur, rfl, h1, h2, h3, h4, h5, h6⟩
  · refine ⟨⟨w1.heap.size + 1, .slice none 0 0, w1.heap.size, w1.heap.size⟩, rfl, ⟨hC, .inl ⟨rfl, rfl, none, 0, rfl⟩, hM⟩, hBB, by show _ ≤ w1.heap.size + 1; omega, fun i hi => ?_⟩
    rcases hi with rfl | rfl <;> exact hz
  · have hcur : ∀ i, i < l.length → cur[i]? = some (.int .i64 (fr l i)) := by
      intro i hi
      have := flat_get encI_len l i hi 0 (by omega)
      rw [← h6, Nat.mul_one, Nat.mul_one, Nat.add_zero, List.getElem?_take_of_lt hi, Array.getElem?_toList] at this
      rw [this, fr_get hi]
      rfl
    refine ⟨⟨w1.heap.size + 1, .slice (some ⟨g, 0, none⟩) l.length cap, g, w1.heap.size⟩, rfl, ⟨hC, .inr ⟨cap, cur, rfl, h2, by show l.length ≤ cur.size; omega, h3, h4, hcur⟩, hM⟩, hBB, by show _ ≤ w1.heap.size + 1; omega, fun i hi => ?_⟩
    rcases hi with rfl | rfl
    · exact h1
    · exact hz
theorem new_fin {w w1 : World} {v : Value} {l : List Int} (hO : OwnI w1 w.heap.size v l) (hB : Below w.heap.size w w1) (hN : newOf l = some l) :
    NewPost w l (.returned (.tuple #[.pointer (some ⟨w1.heap.size + 1, 0, none⟩), .int .i64 0])) ((w1.alloc (.map #[] 0)).alloc (.cells #[v, .map (some w1.heap.size)] 193)) := by
  obtain ⟨b, h1, h2, h3, h4, h5⟩ := new_at hO hB
  exact ⟨h3, .inr ⟨l, b, hN, by rw [h1], h2, h4, h5⟩⟩

set_option maxHeartbeats 4000000 in
theorem new_any (A : Option Addr) (n c : Nat) (l : List Int) (w : World) (hG : Iin w A n l) (hn : n ≤ 1000) : Calls Tryz.prog 58 #[.slice A n c] w (NewPost w l) := by
  have HN := Lib.hid hG.1
  have CC := Lib.hid (cont_any A n c l w hG hn)
  have CL := Lib.hid (clone_any A n c l w hG hn)
  clear hG
  by_cases h60 : 60 < n
  · have e0 : decide ((60 : Int) < (n : Int)) = true := by simp; omega
    have HNO : Hid (newOf l = none) := Lib.hid (by unfold newOf; rw [if_pos (.inl (by rw [HN.out]; exact h60))])
    go_enter Tryz.func58, Tryz.ntmps58
    go_wp2
    go_ret2
    exact ⟨Below.refl _ _, .inl ⟨HNO.out, rfl⟩⟩
  · have e0 : decide ((60 : Int) < (n : Int)) = false := by simp; omega
    cases hb : l.any badI with
    | true =>
      have HNO : Hid (newOf l = none) := Lib.hid (by unfold newOf; rw [if_pos (.inr hb)])
      rw [hb] at CC
      clear hb
      go_enter Tryz.func58, Tryz.ntmps58
      go_wp2_with fail
      with_reducible refine CC.out.mono ?_
      rintro e w' ⟨rfl, rfl⟩
      go_wp2
      go_ret2
      exact ⟨Below.refl _ _, .inl ⟨HNO.out, rfl⟩⟩
    | false =>
      have HNO : Hid (newOf l = some l) := Lib.hid (by unfold newOf; rw [if_neg]; rintro (h | h); exact absurd h (by have := HN.out; omega); rw [hb] at h; cases h)
      rw [hb] at CC
      clear hb
      go_enter Tryz.func58, Tryz.ntmps58
      go_wp2_with fail
      with_reducible refine CC.out.mono ?_
      rintro e w' ⟨rfl, rfl⟩
      go_wp2_with fail
      with_reducible refine CL.out.mono ?_
      rintro e w1 ⟨v, rfl, hO, hB⟩
      have HO := Lib.hid hO
      have HB := Lib.hid hB
      clear hO hB CC CL
      have HF := Lib.hid (new_fin HO.out HB.out HNO.out)
      have hmm := @run_makeMap Tryz.prog
      rcases HO.out.form with ⟨hv, -⟩ | ⟨g, cap, cur, hv, -⟩
      · subst hv
        go_wp2
        go_ret2
        exact HF.out
      · subst hv
        go_wp2
        go_ret2
        exact HF.out


end Go.Proofs.YtpbclmnhkmcknaaGreat.Do

namespace Go.Proofs.YtpbclmnhkmcknaaGreat
open Go.RowKit
open Fe (Lies Own Bys Reads NF Kx Kp Note)
set_option maxRecDepth 100000
set_option linter.unusedVariables false
set_option linter.unusedSimpArgs false

/-- A crew of these parts, which has served nothing. -/
abbrev newQ (K : List St.Kd) (P : List Pu.Kd) (R : List Int) : Cq := ⟨⟨K, []⟩, ⟨P, []⟩, ⟨R, []⟩, ⟨0, 0, fun _ => Fe.kz⟩, [], []⟩
theorem newInvC {K : List St.Kd} {P : List Pu.Kd} {R : List Int} (h1 : St.Inv ⟨K, []⟩) (h2 : Pu.Inv ⟨P, []⟩) (h3 : Do.Inv R ⟨R, []⟩) : CInv R (newQ K P R) :=
  ⟨h1, h2, h3, ⟨by show 0 ≤ 200; omega, fun i hi => absurd hi (Nat.not_lt_zero i)⟩, by show 0 < 4294967296; omega, Nat.le_refl _, Nat.le_refl _, Nat.le_refl _, Nat.le_refl _, Nat.le_refl _, fun x hx => by cases hx⟩
/-- Behind New. -/
def NewCP (w : World) (lg : List St.Gd) (la : List Pu.Kd) (lr : List Int) (e : Ending) (w' : World) : Prop :=
  Below w.heap.size w w' ∧
  ((St.newOf lg = none ∧ e = .returned (.tuple #[.pointer none, .int .i64 2])) ∨
   (∃ K, St.newOf lg = some K ∧ Pu.newOf la = none ∧ e = .returned (.tuple #[.pointer none, .int .i64 2])) ∨
   (∃ K P, St.newOf lg = some K ∧ Pu.newOf la = some P ∧ Do.newOf lr = none ∧ e = .returned (.tuple #[.pointer none, .int .i64 2])) ∨
   ∃ K P R b, St.newOf lg = some K ∧ Pu.newOf la = some P ∧ Do.newOf lr = some R ∧ e = .returned (.tuple #[.pointer (some ⟨b.c, 0, none⟩), .int .i64 0]) ∧ CAt w' b (newQ K P R) ∧ CInv R (newQ K P R) ∧ ∀ i, b.foot i → w.heap.size ≤ i)

/-- The three parts, laid together. -/
theorem new_at {w w3 : World} {bs : St.SB} {bp : Pu.SB} {bd : Do.SB} {K : List St.Kd} {P : List Pu.Kd} {R : List Int} {B1 B2 : Nat} (hs : St.At w3 bs ⟨K, []⟩) (hp : Pu.At w3 bp ⟨P, []⟩) (hd : Do.At w3 bd ⟨R, []⟩)
    (hB : Below w.heap.size w w3) (s1 : w.heap.size ≤ bs.s ∧ w.heap.size ≤ bs.k ∧ w.heap.size ≤ bs.h) (s2 : bs.k < B1 ∧ bs.h < B1) (p1 : w.heap.size ≤ bp.s ∧ ∀ i, bp.isMap i → B1 ≤ i ∧ i < B2) (hB1 : w.heap.size ≤ B1) (hB2 : B1 ≤ B2) (d1 : w.heap.size ≤ bd.s ∧ ∀ i, bd.isMap i → B2 ≤ i) :
    ∃ b : CB, b.c = w3.heap.size ∧ CAt (w3.alloc (.cells #[.pointer (some ⟨bs.s, 0, none⟩), .pointer (some ⟨bp.s, 0, none⟩), .pointer (some ⟨bd.s, 0, none⟩), .int .u32 0, .slice none 0 0, .slice none 0 0, .slice none 0 0] 122)) b (newQ K P R) ∧ ∀ i, b.foot i → w.heap.size ≤ i := by
  refine ⟨⟨w3.heap.size, bs, bp, bd, 0, .slice none 0 0, fun _ => ⟨Fe.kz, .slice none 0 0, .slice none 0 0⟩, .slice none 0 0, .slice none 0 0, []⟩, rfl, ?_, ?_⟩
  · refine ⟨Lies.made w3 122 _, hs.alloc _, hp.alloc _, hd.alloc _, rfl, Fe.NF.nil _ _ _, (fun i hi => absurd hi (Nat.not_lt_zero i)), St.OwnE.nil _ _, St.OwnE.nil _ _, ⟨rfl, fun i h1 => absurd h1 (by simp)⟩, ?_, ?_, ?_⟩
    · rintro i (rfl | rfl) h
      · have h1 : B1 ≤ bs.k := (p1.2 _ h).1
        have := s2.1; omega
      · have h1 : B1 ≤ bs.h := (p1.2 _ h).1
        have := s2.2; omega
    · rintro i (rfl | rfl) h
      · have h1 : B2 ≤ bs.k := d1.2 _ h
        have := s2.1; omega
      · have h1 : B2 ≤ bs.h := d1.2 _ h
        have := s2.2; omega
    · intro i h h'
      have h1 := p1.2 _ h
      have h2 := d1.2 _ h'
      omega
  · have hz := hB.size
    rintro i (hi | hi | hi | hi | hi | hi | hi | hi | hi | hi | hi)
    · show _ ≤ i; rw [show i = w3.heap.size from hi]; exact hz
    · rw [show i = bs.s from hi]; exact s1.1
    · rw [show i = bp.s from hi]; exact p1.1
    · rw [show i = bd.s from hi]; exact d1.1
    · rcases hi with hi | hi
      · rw [show i = bs.k from hi]; exact s1.2.1
      · rw [show i = bs.h from hi]; exact s1.2.2
    · have := (p1.2 i hi).1; omega
    · have := d1.2 i hi; omega
    · rcases hi with hi | ⟨k, hk, -⟩
      · cases hi
      · exact absurd hk (Nat.not_lt_zero k)
    · cases hi
    · cases hi
    · obtain ⟨s, hs, -⟩ := hi
      cases hs
set_option maxHeartbeats 4000000 in
theorem new_crew (A1 A2 A3 : Option Addr) (n1 c1 n2 c2 n3 c3 : Nat) (lg : List St.Gd) (la : List Pu.Kd) (lr : List Int) (w : World) (g1 : St.Gin w A1 n1 lg) (g2 : Pu.Gin w A2 n2 la) (g3 : Do.Iin w A3 n3 lr) (h1 : n1 ≤ 1000) (h2 : n2 ≤ 1000) (h3 : n3 ≤ 1000)
    (l1 : ∀ g ∈ lg, g.n.length ≤ 1000000) (l2 : ∀ g ∈ la, g.n.length ≤ 1000000) :
    Calls Tryz.prog 20 #[.slice A1 n1 c1, .slice A2 n2 c2, .slice A3 n3 c3] w (NewCP w lg la lr) := by
  have C1 := Lib.hid (St.new_any A1 n1 c1 lg w g1 h1 l1)
  have C2 := Lib.hid (fun W (hb : Below w.heap.size w W) => Pu.new_any A2 n2 c2 la W (g2.below hb) h2 l2)
  have C3 := Lib.hid (fun W (hb : Below w.heap.size w W) => Do.new_any A3 n3 c3 lr W (g3.below hb) h3)
  clear g1 g2 g3
  go_enter Tryz.func20, Tryz.ntmps20
  go_wp2_with fail
  with_reducible refine C1.out.mono ?_
  rintro x w1 ⟨hb1, ⟨hn, rfl⟩ | ⟨K, bs, hK, rfl, hs, s1, s2, s3⟩⟩
  · have HB := Lib.hid hb1
    have HN := Lib.hid hn
    clear hb1 hn
    go_wp2
    go_ret2
    exact ⟨HB.out, .inl ⟨HN.out, rfl⟩⟩
  have HB1 := Lib.hid hb1
  have HK := Lib.hid hK
  have HS1 := Lib.hid hs
  have HSS := Lib.hid (And.intro s1 (And.intro s2 s3))
  clear hb1 hK hs s1 s2 s3 C1
  go_wp2_with fail
  with_reducible refine (C2.out w1 HB1.out).mono ?_
  rintro x w2 ⟨hb2, ⟨hn, rfl⟩ | ⟨P, bp, hP, rfl, hp, p1, p2⟩⟩
  · have HB := Lib.hid (HB1.out.trans (hb2.mono HB1.out.size))
    have HN := Lib.hid hn
    clear hb2 hn
    go_wp2
    go_ret2
    exact ⟨HB.out, .inr (.inl ⟨K, HK.out, HN.out, rfl⟩)⟩
  have HB2 := Lib.hid (HB1.out.trans (hb2.mono HB1.out.size))
  have HB2' := Lib.hid hb2
  have HP := Lib.hid hP
  have HP2 := Lib.hid hp
  have HPP := Lib.hid (And.intro p1 p2)
  have HS2 := Lib.hid (HS1.out.below hb2)
  clear hb2 hP hp p1 p2 C2
  go_wp2_with fail
  with_reducible refine (C3.out w2 HB2.out).mono ?_
  rintro x w3 ⟨hb3, ⟨hn, rfl⟩ | ⟨R, bd, hR, rfl, hd, d1, d2⟩⟩
  · have HB := Lib.hid (HB2.out.trans (hb3.mono HB2.out.size))
    have HN := Lib.hid hn
    clear hb3 hn
    go_wp2
    go_ret2
    exact ⟨HB.out, .inr (.inr (.inl ⟨K, P, HK.out, HP.out, HN.out, rfl⟩))⟩
  have HB3 := Lib.hid (HB2.out.trans (hb3.mono HB2.out.size))
  have HB3' := Lib.hid hb3
  have HR := Lib.hid hR
  have HD3 := Lib.hid hd
  have HDD := Lib.hid (And.intro d1 d2)
  have HS3 := Lib.hid (HS2.out.below hb3)
  have HP3 := Lib.hid (HP2.out.below hb3)
  clear hb3 hR hd d1 d2 C3
  go_wp2
  go_ret2
  obtain ⟨b, hc, hA, hF⟩ := new_at (B1 := w1.heap.size) (B2 := w2.heap.size) HS3.out HP3.out HD3.out HB3.out HSS.out ⟨HS1.out.ok.lt, HS1.out.oh.lt⟩ ⟨Nat.le_trans HB1.out.size HPP.out.1, fun i hi => ⟨HPP.out.2 i hi, HP2.out.map_lt hi⟩⟩ HB1.out.size HB2'.out.size ⟨Nat.le_trans HB2.out.size HDD.out.1, HDD.out.2⟩
  exact ⟨HB3.out.alloc HB3.out.size _, .inr (.inr (.inr ⟨K, P, R, b, HK.out, HP.out, HR.out, by rw [hc]; rfl, hA, newInvC (St.newInv HK.out) (Pu.newInv HP.out) (Do.newInv HR.out), hF⟩))⟩

end Go.Proofs.YtpbclmnhkmcknaaGreat

namespace Go.Proofs.YtpbclmnhkmcknaaGreat
open Go.RowKit
open Fe (Lies Own Bys Reads NF Kx Kp Note)
set_option maxRecDepth 100000
set_option linter.unusedVariables false
set_option linter.unusedSimpArgs false

/-- A crew of a law's own, at a walk. -/
structure CW (w w' : World) (R : List Int) (cc : Nat) (b : CB) (q : Cq) : Prop where
  bel : Below w.heap.size w w'
  c : b.c = cc
  at_ : CAt w' b q
  inv : CInv R q
  new : ∀ i, b.foot i → w.heap.size ≤ i
section
variable {w w' w'' : World} {R : List Int} {cc : Nat} {b : CB} {q : Cq}
theorem CW.below (h : CW w w' R cc b q) (hb : Below w'.heap.size w' w'') : CW w w'' R cc b q :=
  ⟨h.bel.trans (hb.mono h.bel.size), h.c, h.at_.below hb, h.inv, h.new⟩
theorem CW.alloc (h : CW w w' R cc b q) (o : Obj) : CW w (w'.alloc o) R cc b q := h.below (Fe.below1 w' o)
/-- A block of a kind that no crew has. -/
theorem CAt.far (h : CAt w b q) {i : Nat} {t : TypeId} (hk : Kb w i (some t)) (ht : t ≠ 122 ∧ t ≠ 175 ∧ t ≠ 186 ∧ t ≠ 193 ∧ t ≠ 3 ∧ t ≠ 130 ∧ t ≠ 5 ∧ t ≠ 83 ∧ t ≠ 22) : ¬ b.foot i := by
  obtain ⟨n1, n2, n3, n4, n5, n6, n7, n8, n9⟩ := ht
  have x : ∀ {u : Option TypeId}, Kb w i u → some t ≠ u → False := fun hu hn => hk.ne hu hn rfl
  rintro (rfl | rfl | rfl | rfl | hi | hi | hi | hi | hi | hi | hi)
  · exact x h.kc (by simpa using n1)
  · exact x h.kss (by simpa using n2)
  · exact x h.kps (by simpa using n3)
  · exact x h.kds (by simpa using n4)
  · exact x (h.ks hi) (by simp)
  · exact x (h.kp hi) (by simp)
  · rcases h.kd hi with h | h
    · exact x h (by simp)
    · exact x h (by simpa using n5)
  · rcases NF_kb h.f hi with h | h
    · exact x h (by simpa using n6)
    · exact x h (by simpa using n7)
  · exact x (h.ke hi) (by simpa using n8)
  · exact x (h.km hi) (by simpa using n9)
  · exact x (h.nt.kb hi) (by simpa using n7)
/-- Behind Serve. -/
def CwServe (w w' : World) (R : List Int) (cc : Nat) (b : CB) (s : Sv) (e : Ending) (w'' : World) : Prop :=
  ∃ b' v, e = .returned (.agg (Fe.evs s.a (.slice none 0 0) v)) ∧ Own w'' w'.heap.size v s.a.data ∧ (∀ i, v.ownBlock = some i → ¬ b'.foot i) ∧ CW w w'' R cc b' s.q ∧ Chg b.foot w' w'' ∧ ∀ i, b'.foot i → b.foot i ∨ w'.heap.size ≤ i
theorem cw_serve (h : CW w w' R cc b q) (N : Note) (A : Option Addr) (c c1 : Nat) (hN : Fe.EntV w' N none A c1 c) (hs : Fe.in64 N.step) (hl : N.data.length ≤ 200000) (hF : ∀ i, (Value.slice A N.data.length c).ownBlock = some i → ¬ b.foot i) :
    Calls Tryz.prog 23 #[.pointer (some ⟨cc, 0, none⟩), .agg (Fe.evs N (.slice none N.key.length c1) (.slice A N.data.length c))] w' (CwServe w w' R cc b (serveS q N)) := by
  have C := serve_crew N none A c1 c w' h.at_ h.inv hN hs hl (fun i hi => ⟨(fun e => by cases e), fun e => hF i e hi⟩)
  rw [h.c] at C
  refine C.mono ?_
  rintro e W ⟨b', v, he, ho, hv, hc, ha, hg, hf⟩
  refine ⟨b', v, he, ho, hv, ⟨hg.below h.bel h.bel.size h.new, hc.trans h.c, ha, h.inv.serve N hN.b.order hN.b.epoch, fun i hi => ?_⟩, hg, hf⟩
  rcases hf i hi with h1 | h1
  · exact h.new i h1
  · exact Nat.le_trans h.bel.size h1
theorem cw_epoch (h : CW w w' R cc b q) : Calls Tryz.prog 26 #[.pointer (some ⟨cc, 0, none⟩)] w' fun x w'' => x = .returned (.int .u32 (q.f.ep : Int)) ∧ w' = w'' := by
  have C := epoch_crew w' h.at_
  rwa [h.c] at C
theorem cw_effects (h : CW w w' R cc b q) : Calls Tryz.prog 29 #[.pointer (some ⟨cc, 0, none⟩)] w' fun x w'' => ∃ v, x = .returned v ∧ OwnF w'' w'.heap.size v q.E ∧ Below w'.heap.size w' w'' := by
  have C := effects_crew w' h.at_ h.inv
  rwa [h.c] at C
theorem cw_goods (h : CW w w' R cc b q) : Calls Tryz.prog 32 #[.pointer (some ⟨cc, 0, none⟩)] w' fun x w'' => ∃ v, x = .returned v ∧ St.OwnG w'' w'.heap.size v (St.goodsL q.s.K) ∧ Below w'.heap.size w' w'' := by
  have C := goods_crew w' h.at_ h.inv
  rwa [h.c] at C
theorem cw_accts (h : CW w w' R cc b q) : Calls Tryz.prog 35 #[.pointer (some ⟨cc, 0, none⟩)] w' fun x w'' => ∃ v, x = .returned v ∧ Pu.OwnG w'' w'.heap.size v q.p.K ∧ Below w'.heap.size w' w'' := by
  have C := accts_crew w' h.at_ h.inv
  rwa [h.c] at C
end

/-! ### the law's small crew -/
def smG : List St.Gd := [⟨[97], 9⟩, ⟨[98], 4⟩]
def smA : List Pu.Kd := [⟨[97, 110, 110], 20, 0⟩, ⟨[98, 111, 98], 6, 0⟩]
def smR : List Int := [3, 5]
def smK : List St.Kd := [⟨[97], 9, 0⟩, ⟨[98], 4, 0⟩]
def smQ : Cq := newQ smK smA smR
theorem sm_s : St.newOf smG = some smK := by kernel_rfl
theorem sm_p : Pu.newOf smA = some smA := by kernel_rfl
theorem sm_d : Do.newOf smR = some smR := by decide +kernel
abbrev smC1 : Obj := .cells #[.string ⟨#[97]⟩, .int .i64 9, .string ⟨#[98]⟩, .int .i64 4] 90
abbrev smC2 : Obj := .cells #[.string ⟨#[97, 110, 110]⟩, .int .i64 20, .int .i64 0, .string ⟨#[98, 111, 98]⟩, .int .i64 6, .int .i64 0] 87
abbrev smC3 : Obj := .cells #[.int .i64 3, .int .i64 5] 3
theorem sm_gin (w : World) : St.Gin (w.alloc smC1) (some ⟨w.heap.size, 0, none⟩) 2 smG := by
  have L := Lies.made w 90 #[.string ⟨#[97]⟩, .int .i64 9, .string ⟨#[98]⟩, .int .i64 4]
  refine ⟨rfl, fun _ => ⟨w.heap.size, 0, rfl, by simp, fun i hi => ?_⟩⟩
  have hi2 : i < 2 := hi
  rcases (show i = 0 ∨ i = 1 by omega) with rfl | rfl
  · exact ⟨L.cell 0, L.cell 1⟩
  · exact ⟨L.cell 2, L.cell 3⟩
theorem sm_ain (w : World) : Pu.Gin (w.alloc smC2) (some ⟨w.heap.size, 0, none⟩) 2 smA := by
  have L := Lies.made w 87 #[.string ⟨#[97, 110, 110]⟩, .int .i64 20, .int .i64 0, .string ⟨#[98, 111, 98]⟩, .int .i64 6, .int .i64 0]
  refine ⟨rfl, fun _ => ⟨w.heap.size, 0, rfl, by simp, fun i hi => ?_⟩⟩
  have hi2 : i < 2 := hi
  rcases (show i = 0 ∨ i = 1 by omega) with rfl | rfl
  · exact ⟨L.cell 0, L.cell 1, L.cell 2⟩
  · exact ⟨L.cell 3, L.cell 4, L.cell 5⟩
theorem sm_iin (w : World) : Do.Iin (w.alloc smC3) (some ⟨w.heap.size, 0, none⟩) 2 smR := by
  have L := Lies.made w 3 #[.int .i64 3, .int .i64 5]
  refine ⟨rfl, fun _ => ⟨w.heap.size, 0, rfl, by simp, fun i hi => ?_⟩⟩
  have hi2 : i < 2 := hi
  rcases (show i = 0 ∨ i = 1 by omega) with rfl | rfl
  · exact L.cell 0
  · exact L.cell 1
set_option maxHeartbeats 2000000 in
theorem small_any (w : World) : Calls Tryz.prog 39 #[] w fun e w' => ∃ b, e = .returned (.pointer (some ⟨b.c, 0, none⟩)) ∧ CW w w' smR b.c b smQ := by
  have B1 := Fe.below1 w smC1
  have B2 := B1.trans ((Fe.below1 (w.alloc smC1) smC2).mono B1.size)
  have B3 := B2.trans ((Fe.below1 ((w.alloc smC1).alloc smC2) smC3).mono B2.size)
  have g1 : St.Gin (((w.alloc smC1).alloc smC2).alloc smC3) (some ⟨w.heap.size, 0, none⟩) 2 smG := ((sm_gin w).below (Fe.below1 _ _)).below (Fe.below1 _ _)
  have g2 : Pu.Gin (((w.alloc smC1).alloc smC2).alloc smC3) (some ⟨w.heap.size + 1, 0, none⟩) 2 smA := by
    have h := (sm_ain (w.alloc smC1)).below (Fe.below1 _ smC3)
    rwa [show (w.alloc smC1).heap.size = w.heap.size + 1 from by simp] at h
  have g3 : Do.Iin (((w.alloc smC1).alloc smC2).alloc smC3) (some ⟨w.heap.size + 1 + 1, 0, none⟩) 2 smR := by
    have h := sm_iin ((w.alloc smC1).alloc smC2)
    rwa [show ((w.alloc smC1).alloc smC2).heap.size = w.heap.size + 1 + 1 from by simp] at h
  have C := Lib.hid (new_crew (some ⟨w.heap.size, 0, none⟩) (some ⟨w.heap.size + 1, 0, none⟩) (some ⟨w.heap.size + 1 + 1, 0, none⟩) 2 2 2 2 2 2 smG smA smR _ g1 g2 g3 (by decide) (by decide) (by decide) (by decide) (by decide))
  have HB := Lib.hid B3
  clear B1 B2 B3 g1 g2 g3
  go_enter Tryz.func39, Tryz.ntmps39
  go_wp2_with fail
  with_reducible refine C.out.mono ?_
  rintro e w1 ⟨hb, hr⟩
  have HB1 := Lib.hid (HB.out.trans (hb.mono HB.out.size))
  obtain ⟨b, rfl, ha, hi, hn⟩ : ∃ b, e = .returned (.tuple #[.pointer (some ⟨b.c, 0, none⟩), .int .i64 0]) ∧ CAt w1 b smQ ∧ CInv smR smQ ∧ ∀ i, b.foot i → w.heap.size ≤ i := by
    rcases hr with ⟨h, -⟩ | ⟨K, -, h, -⟩ | ⟨K, P, -, -, h, -⟩ | ⟨K, P, R, b, h1, h2, h3, rfl, ha, hi, hn⟩
    · rw [sm_s] at h; cases h
    · rw [sm_p] at h; cases h
    · rw [sm_d] at h; cases h
    · rw [sm_s] at h1; rw [sm_p] at h2; rw [sm_d] at h3
      injection h1 with h1
      injection h2 with h2
      injection h3 with h3
      subst h1 h2 h3
      exact ⟨b, rfl, ha, hi, fun i h => Nat.le_trans HB.out.size (hn i h)⟩
  have HW := Lib.hid (show CW w w1 smR b.c b smQ from ⟨HB1.out, rfl, ha, hi, hn⟩)
  clear hb hr ha hi hn C
  go_wp2
  go_ret
  exact ⟨b, rfl, HW.out⟩

end Go.Proofs.YtpbclmnhkmcknaaGreat
