/-
  The walk of CrewOnce.
-/
import Derived.Deep.CutRange
import Derived.Deep.CutBlock
import Derived.Deep.DeepCutAuto
import Derived.Test.YtpbclmnhkmcknaaGreatOnceQ0
namespace Go.Proofs.YtpbclmnhkmcknaaGreat
open Go.RowKit
open Fe (Lies Own Bys Reads NF Kx Kp Note)
set_option maxRecDepth 100000
set_option linter.unusedVariables false
set_option linter.unusedSimpArgs false

/-- Over the asks. -/
def OnR (w : World) (cc n : Nat) (v : Value) (wr : World) : Prop := ∃ (j : Nat) (b : CB) (q : Cq), j ≤ 80 ∧ j ≤ n ∧ v = .int .i64 (j : Int) ∧ CW w wr smR cc b q ∧ EInv q
/-- Behind them. -/
def OnE (w : World) (cc : Nat) (wr : World) : Prop := ∃ (b : CB) (q : Cq), CW w wr smR cc b q ∧ EInv q
/-- Over the effects. -/
def OfR (w : World) (m : Nat) (v : Value) (wr : World) : Prop := ∃ i : Nat, i ≤ m ∧ v = .int .i64 (i : Int) ∧ Below w.heap.size w wr
/-- Over those ahead of one. -/
def OgR (w : World) (E : List Ef) (i : Nat) (hi : i < E.length) (f v : Value) (wr : World) : Prop := ∃ (k : Nat) (t : Bool), k ≤ i ∧ v = .int .i64 (k : Int) ∧ f = .bool t ∧ Below w.heap.size w wr ∧ (t = false → ∀ j (hj : j < k) (hl : j < E.length), ¬ (E[j].o = E[i].o ∧ E[j].s = E[i].s))
set_option maxHeartbeats 16000000 in
theorem crewOnce_walk (A : Option Addr) (n c : Nat) (X : Nat → Ax) (w : World) (hA : AV w A n c X) :
    Calls Tryz.prog 5 #[.slice A n c] w fun e w' => e = .returned (.bool true) ∧ Below w.heap.size w w' := by
  have HA := Lib.hid hA
  have hn : (n : Int) ≤ 9223372036854775807 := by have h1 := hA.1; have h2 := hA.2.1; unfold maxLen at h2; omega
  clear hA
  go_enter Tryz.func5, Tryz.ntmps5
  go_wp2_with fail
  with_reducible refine (small_any w).mono ?_
  rintro e w1 ⟨b, rfl, hs⟩
  have S_1 := Lib.hid hs
  clear hs
  obtain ⟨cc, hcc⟩ : ∃ cc, b.c = cc := ⟨_, rfl⟩
  rw [hcc] at S_1 ⊢
  clear hcc
  go_wp2_with fail
  with_reducible refine (long_any A n c X w1 (HA.out.below S_1.out.bel)).mono ?_
  rintro e w2 ⟨hb, t, rfl, ht⟩
  have S_2 := Lib.hid (S_1.out.below hb)
  have HT := Lib.hid ht
  clear hb ht S_1
  cases t
  · have HS : Hid (ShortA n X) := Lib.hid (HT.out rfl)
    clear HT
    go_upto_block 0 with (fail)
    go_cut [4] (fun s4 W => OnE w cc W)
    case first =>
      go_wp2_with fail
      go_loopw [4] (fun i wr => OnR w cc n i wr) (fun i _ => 81 - (intOf i).toNat)
      case atStart => exact ⟨0, b, smQ, by omega, by omega, rfl, S_2.out, EInv.start⟩
      case round =>
        clear S_2
        obtain ⟨j, b, q, hj, hjn, rfl, hS, hE⟩ := hrel
        have S_4 := Lib.hid hS
        have EI_4 := Lib.hid hE
        have HAr := Lib.hid (HA.out.below hS.bel)
        clear hS hE
        by_cases hlt : j < n
        · by_cases h60 : j < 80
          · have hlt2 : (j : Int) < (n : Int) := by omega
            have hlt3 : decide ((j : Int) < (n : Int)) = true := by simp; omega
            have h3 : decide ((j : Int) < 80) = true := by simp; omega
            obtain ⟨g, o, rfl, -⟩ := HAr.out.2.2.2.1 (by omega)
            obtain ⟨x0, x1, x2, x3, x4, x5, x6, x7⟩ := HAr.out.2.2.2.at j hlt
            have HX := Lib.hid (HAr.out.2.2.2.2 j hlt)
            have HX0 := Lib.hid (HA.out.2.2.2.2 j hlt)
            have HSX := Lib.hid (HS.out j hlt (by omega))
            obtain ⟨x, hx⟩ : ∃ x, X j = x := ⟨_, rfl⟩
            rw [hx] at x0 x1 x2 x3 x4 x5 x6 x7 HX HX0 HSX
            clear hx
            go_wp2_with fail
            with_reducible refine (asknote_any2 x wr HX.out).mono ?_
            rintro e w5 ⟨hb, A2, c2, rfl, hin, hown, hlt5⟩
            obtain ⟨ep, hep, hee⟩ : ∃ ep : Nat, (x.e : Int) % 6 = (ep : Int) ∧ ep < 4294967296 := ⟨x.e % 6, by omega, by omega⟩
            have HEP := Lib.hid hee
            clear hee x0 x1 x2 x3 x4 x5 x6 x7
            obtain ⟨w6, HW, hl, hs, hk6⟩ : ∃ W, W = w5.alloc (.cells #[.int .i64 7, .int .u32 (ep : Int), .int .u32 0, .int .u64 0, .int .u64 0, .int .u32 (x.o : Int), .int .i64 x.s, .bool x.u, .int .i64 0, .slice none 0 0, .slice A2 (askD x).length c2] 55) ∧ Lies W w5.heap.size 55 #[.int .i64 7, .int .u32 (ep : Int), .int .u32 0, .int .u64 0, .int .u64 0, .int .u32 (x.o : Int), .int .i64 x.s, .bool x.u, .int .i64 0, .slice none 0 0, .slice A2 (askD x).length c2] ∧ CW w W smR cc b q ∧ Kn W b A2 c2 (askD x) := ⟨_, rfl, Lies.made w5 55 _, (S_4.out.below hb).alloc _, (Kn.ask S_4.out HX0.out hin hown hlt5).below (Fe.below1 _ _)⟩
            have S_6 := Lib.hid hs
            have LN_6 := Lib.hid hl
            have KN_6 := Lib.hid hk6
            clear hb hin hl hs hk6 hown hlt5 S_4 HX HAr
            have C := Lib.hid (kn_serve S_6.out KN_6.out x.u HEP.out HX0.out.o HX0.out.s (askD_big HSX.out))
            have T := Lib.hid (serve_twice S_6.out.inv (stN ep x.o x.s x.u (askD x)) HX0.out.o HEP.out)
            have EI_7 := Lib.hid (EI_4.out.serve S_6.out.inv (stN ep x.o x.s x.u (askD x)) HX0.out.o)
            go_wp2_with fail
            rw [hep]
            rw [← HW]
            clear HW hep
            with_reducible refine C.out.mono ?_
            rintro e w7 ⟨b7, v7, he, hO, hv, hs, hg, hf⟩
            have S_7 := Lib.hid hs
            have KN_7 := Lib.hid (KN_6.out.serve hg hf)
            have LN_7 := Lib.hid (far55 LN_6.out S_6.out.at_ hg)
            obtain ⟨a7, ha⟩ : ∃ a, (serveS q (stN ep x.o x.s x.u (askD x))).a = a := ⟨_, rfl⟩
            obtain ⟨q7, hq⟩ : ∃ a, (serveS q (stN ep x.o x.s x.u (askD x))).q = a := ⟨_, rfl⟩
            rw [ha] at he hO T
            rw [hq] at S_7 T EI_7
            clear ha hq hs hg hf C S_6 LN_6 KN_6 EI_4
            obtain ⟨k1, e1, x3, x4, x5, od, st, un, cd, ky, dt⟩ := a7
            dsimp only at he hO T
            obtain ⟨A7, c7, rfl, -, -⟩ := hO.slice
            have KV_7 := Lib.hid (Kn.own hO hv)
            clear hO hv
            subst he
            have C := Lib.hid (kn_serve (S_7.out.alloc (.cells #[.int .i64 k1, .int .u32 (e1 : Int), .int .u32 (x3 : Int), .int .u64 (x4 : Int), .int .u64 (x5 : Int), .int .u32 (od : Int), .int .i64 st, .bool un, .int .i64 cd, .slice none 0 0, .slice A7 dt.length c7] 55)) (KN_7.out.below (Fe.below1 _ _)) x.u HEP.out HX0.out.o HX0.out.s (askD_big HSX.out))
            have EI_9 := Lib.hid (EI_7.out.serve S_7.out.inv (stN ep x.o x.s x.u (askD x)) HX0.out.o)
            obtain ⟨n0, n1, n2, n3, n4, n5, n6, n7, n8, n9, n10⟩ := (Lies.alloc LN_7.out (.cells #[.int .i64 k1, .int .u32 (e1 : Int), .int .u32 (x3 : Int), .int .u64 (x4 : Int), .int .u64 (x5 : Int), .int .u32 (od : Int), .int .i64 st, .bool un, .int .i64 cd, .slice none 0 0, .slice A7 dt.length c7] 55)).cells11
            go_wp2_with fail
            clear n0 n1 n2 n3 n4 n5 n6 n7 n8 n9 n10
            obtain ⟨w8, HW, hl, hs, hb⟩ : ∃ W, W = w7.alloc (.cells #[.int .i64 k1, .int .u32 (e1 : Int), .int .u32 (x3 : Int), .int .u64 (x4 : Int), .int .u64 (x5 : Int), .int .u32 (od : Int), .int .i64 st, .bool un, .int .i64 cd, .slice none 0 0, .slice A7 dt.length c7] 55) ∧ Lies W w7.heap.size 55 #[.int .i64 k1, .int .u32 (e1 : Int), .int .u32 (x3 : Int), .int .u64 (x4 : Int), .int .u64 (x5 : Int), .int .u32 (od : Int), .int .i64 st, .bool un, .int .i64 cd, .slice none 0 0, .slice A7 dt.length c7] ∧ CW w W smR cc b7 q7 ∧ Below w7.heap.size w7 W := ⟨_, rfl, Lies.made w7 55 _, S_7.out.alloc _, Fe.below1 _ _⟩
            rw [← HW] at C ⊢
            have S_8 := Lib.hid hs
            have LA_8 := Lib.hid hl
            have KV_8 := Lib.hid (KV_7.out.below hb)
            clear hs hl hb HW S_7 KV_7 KN_7 LN_7 EI_7
            with_reducible refine C.out.mono ?_
            rintro e w9 ⟨b9, v9, he, hO, hv, hs, hg, hf⟩
            have S_9 := Lib.hid hs
            have KV_9 := Lib.hid (KV_8.out.serve hg hf)
            have LA_9 := Lib.hid (far55 LA_8.out S_8.out.at_ hg)
            clear hs hg hf C S_8 LA_8 KV_8
            obtain ⟨q9, hq⟩ : ∃ a, (serveS q7 (stN ep x.o x.s x.u (askD x))).q = a := ⟨_, rfl⟩
            rw [hq] at S_9 EI_9
            clear hq
            by_cases h8 : k1 = 8
            · have ea := T.out h8
              subst h8
              rw [ea] at he hO
              dsimp only at he hO
              clear ea T
              obtain ⟨A9, c9, rfl, -, -⟩ := hO.slice
              have KW_9 := Lib.hid (Kn.own hO hv)
              clear hO hv
              subst he
              have HB := Lib.hid (Fe.below1 w9 (.cells #[.int .i64 8, .int .u32 (e1 : Int), .int .u32 (x3 : Int), .int .u64 (x4 : Int), .int .u64 (x5 : Int), .int .u32 (od : Int), .int .i64 st, .bool un, .int .i64 cd, .slice none 0 0, .slice A9 dt.length c9] 55))
              have CS := Lib.hid (same25_eq ⟨8, e1, x3, x4, x5, od, st, un, cd, ky, dt⟩ A7 A9 dt.length dt.length c7 c9 _ (KV_9.out.below HB.out).i.1 (KW_9.out.below HB.out).i.1)
              obtain ⟨a0, a1, a2, a3, a4, a5, a6, a7, a8, a9, a10⟩ := (Lies.alloc LA_9.out (.cells #[.int .i64 8, .int .u32 (e1 : Int), .int .u32 (x3 : Int), .int .u64 (x4 : Int), .int .u64 (x5 : Int), .int .u32 (od : Int), .int .i64 st, .bool un, .int .i64 cd, .slice none 0 0, .slice A9 dt.length c9] 55)).cells11
              go_wp2_with fail
              with_reducible refine CS.out.mono ?_
              rintro e w11 ⟨rfl, hb⟩
              have S_11 := Lib.hid ((S_9.out.below HB.out).below hb)
              clear hb CS a0 a1 a2 a3 a4 a5 a6 a7 a8 a9 a10
              go_wp2
              go_roundw
              case rel => exact ⟨j + 1, b9, q9, by omega, by omega, by go_num, S_11.out, EI_9.out⟩
              case measure => simp [intOf]; omega
            · obtain ⟨A9, c9, rfl, -, -⟩ := hO.slice
              have d8 : (k1 == 8) = false := beq_eq_false_iff_ne.2 h8
              clear h8 T
              obtain ⟨a9, ha⟩ : ∃ a, (serveS q7 (stN ep x.o x.s x.u (askD x))).a = a := ⟨_, rfl⟩
              rw [ha] at he hO
              clear ha hO hv
              obtain ⟨k2, e2, y3, y4, y5, od2, st2, un2, cd2, ky2, dt2⟩ := a9
              try dsimp only at he
              subst he
              have LA_10 : ∀ o, Lies (w9.alloc o) _ 55 _ := fun o => Lies.alloc LA_9.out o
              obtain ⟨a0, a1, a2, a3, a4, a5, a6, a7, a8, a9, a10⟩ := (LA_10 (.cells #[.int .i64 k2, .int .u32 (e2 : Int), .int .u32 (y3 : Int), .int .u64 (y4 : Int), .int .u64 (y5 : Int), .int .u32 (od2 : Int), .int .i64 st2, .bool un2, .int .i64 cd2, .slice none 0 0, .slice A9 dt2.length c9] 55)).cells11
              clear LA_10
              go_wp2
              go_roundw
              case rel => exact ⟨j + 1, b9, q9, by omega, by omega, by go_num, S_9.out.alloc _, EI_9.out⟩
              case measure => simp [intOf]; omega
          · have h3 : decide ((j : Int) < 80) = false := by simp; omega
            have hlt2 : (j : Int) < (n : Int) := by omega
            go_wp2
            go_meet
            exact ⟨b, q, S_4.out, EI_4.out⟩
        · have hlt3 : decide ((j : Int) < (n : Int)) = false := by simp; omega
          go_wp2
          go_meet
          exact ⟨b, q, S_4.out, EI_4.out⟩
    obtain ⟨b, q, hS, hE⟩ := hcut
    have S_4 := Lib.hid hS
    have EI := Lib.hid hE
    clear hS hE S_2
    go_wp2_with fail
    with_reducible refine (cw_effects S_4.out).mono ?_
    rintro e w6 ⟨ve, rfl, hr, hb⟩
    have S_6 := Lib.hid (S_4.out.below hb)
    obtain ⟨Ae, ce, rfl, hme, -⟩ := F_row hr
    have RE := Lib.hid hr
    have HEL : Hid (q.E.length ≤ 200) := Lib.hid (by have h1 := S_4.out.inv.el; have h2 := S_4.out.inv.n; omega)
    clear hr hb S_4
    obtain ⟨E, hEE⟩ : ∃ E, q.E = E := ⟨_, rfl⟩
    have EB : Hid (∀ k i (hk : k < i) (hi : i < E.length) (hk2 : k < E.length), E[k].o = E[i].o → E[k].s = E[i].s → E[k].u = false ∧ E[i].u = true) := Lib.hid (by subst hEE; exact fun k i hk hi _ => EI.out.b k i hk hi)
    have EC : Hid (∀ i (hi : i < E.length), E[i].u = true → ∃ k, ∃ hk : k < i, ∃ hl : k < E.length, E[k].o = E[i].o ∧ E[k].s = E[i].s) := Lib.hid (by subst hEE; exact fun i hi hu => by obtain ⟨k, hk, e⟩ := EI.out.c i hi hu; exact ⟨k, hk, by omega, e⟩)
    rw [hEE] at RE hme HEL ⊢
    clear hEE EI
    go_wp2_with fail
    go_loopw [9] (fun v wr => OfR w6 E.length v wr) (fun i _ => E.length + 1 - (intOf i).toNat)
    case atStart => exact ⟨0, by omega, rfl, Below.refl _ _⟩
    case round =>
      obtain ⟨i, hi, rfl, hbr⟩ := hrel
      have HBR := Lib.hid hbr
      clear hbr
      rename World => wo
      by_cases hli : i < E.length
      · have hlt2 : (i : Int) < (E.length : Int) := by omega
        have hlt3 : decide ((i : Int) < (E.length : Int)) = true := by simp; omega
        go_wp2_with fail
        go_loopw [10, 11] (fun f v wr => OgR wo E i hli f v wr) (fun _ v _ => E.length + 1 - (intOf v).toNat)
        case atStart => exact ⟨0, false, by omega, rfl, rfl, Below.refl _ _, fun _ j hj => absurd hj (Nat.not_lt_zero j)⟩
        case round =>
          obtain ⟨k, t, hk, rfl, rfl, hbq, hno⟩ := hrel
          have HBQ := Lib.hid hbq
          have HNO := Lib.hid hno
          clear hbq hno
          have HB2 := Lib.hid (HBR.out.trans (HBQ.out.mono HBR.out.size))
          by_cases hki : k < i
          · have hkl : k < E.length := by omega
            have e1 : (k : Int) < (i : Int) := by omega
            have e2 : decide ((k : Int) < (i : Int)) = true := by simp; omega
            have e2b : decide (k < i) = true := by simp; omega
            have e3 : (k : Int) < (E.length : Int) := by omega
            obtain ⟨A', c', e', -, hc⟩ := F_row (RE.out.below HB2.out)
            injection e' with e' t1 t2
            clear t1 t2
            subst e'
            obtain ⟨ge, ex, y0, y1, y2⟩ := hc k hkl
            clear hc
            subst ex
            obtain ⟨A', c', e', -, hc⟩ := F_row (RE.out.below HB2.out)
            injection e' with e' t1 t2
            clear t1 t2
            subst e'
            obtain ⟨gx, ex, z0, z1, z2⟩ := hc i hli
            injection ex with ex
            injection ex with ex
            subst ex
            clear hc
            obtain ⟨p, hp⟩ : ∃ p, E[k] = p := ⟨_, rfl⟩
            obtain ⟨r, hr⟩ : ∃ p, E[i] = p := ⟨_, rfl⟩
            have EBK : Hid (p.o = r.o → p.s = r.s → p.u = false ∧ r.u = true) := Lib.hid (by rw [← hp, ← hr]; exact EB.out k i hki hli hkl)
            rw [hp] at y0 y1 y2
            rw [hr] at z0 z1 z2
            have HP := Lib.hid hp
            have HR := Lib.hid hr
            clear hp hr
            obtain ⟨po, ps, pu⟩ := p
            obtain ⟨ro, rs, ru⟩ := r
            dsimp only at y0 y1 y2 z0 z1 z2 EBK
            go_wp2_with fail
            by_cases ho : po = ro
            · by_cases hs : ps = rs
              · obtain ⟨rfl, rfl⟩ := EBK.out ho hs
                have f0 : ((po : Int) == (ro : Int)) = true := by rw [ho]; simp
                have f0b : (po == ro) = true := by rw [ho]; simp
                have f1 : (ps == rs) = true := by rw [hs]; simp
                clear ho hs
                refine wp_region_noPanic ?_
                refine wp_region_held_drew (S := fun W => W.cell? ⟨ge, k * 3, none⟩ = some (.int .u32 (po : Int)) ∧ W.cell? ⟨ge, k * 3 + 1, none⟩ = some (.int .i64 ps) ∧ W.cell? ⟨ge, k * 3 + 2, none⟩ = some (.bool false) ∧ W.cell? ⟨ge, i * 3, none⟩ = some (.int .u32 (ro : Int)) ∧ W.cell? ⟨ge, i * 3 + 1, none⟩ = some (.int .i64 rs) ∧ W.cell? ⟨ge, i * 3 + 2, none⟩ = some (.bool true)) (by kernel_rfl) (⟨y0, y1, y2, z0, z1, z2⟩) (fun hH0 => ?_)
                refine Fe.any_take 0 72 ?vt41 rfl rfl (by kernel_rfl) (by kernel_rfl) (by kernel_rfl) (fun _ _ _ h => h) (by rfl) ?ht41 hH0 ?rt41
                case ht41 => ((intro W hSw); obtain ⟨q0, q1, q2, q3, q4, q5⟩ := hSw; go_simp; (try with_reducible rfl))
                try simp only [Act.put, List.setIfInBounds_toArray, List.set_cons_zero, List.set_cons_succ]
                refine Fe.any_take 1 73 ?vt42 rfl rfl (by kernel_rfl) (by kernel_rfl) (by kernel_rfl) (fun _ _ _ h => h) (by rfl) ?ht42 hH0 ?rt42
                case ht42 => ((intro W hSw); obtain ⟨q0, q1, q2, q3, q4, q5⟩ := hSw; go_simp; (try with_reducible rfl))
                try simp only [Act.put, List.setIfInBounds_toArray, List.set_cons_zero, List.set_cons_succ]
                refine Fe.any_take 2 74 ?vt43 rfl rfl (by kernel_rfl) (by kernel_rfl) (by kernel_rfl) (fun _ _ _ h => h) (by rfl) ?ht43 hH0 ?rt43
                case ht43 => ((intro W hSw); obtain ⟨q0, q1, q2, q3, q4, q5⟩ := hSw; go_simp; (try with_reducible rfl))
                try simp only [Act.put, List.setIfInBounds_toArray, List.set_cons_zero, List.set_cons_succ]
                refine Fe.any_take 3 75 ?vt44 rfl rfl (by kernel_rfl) (by kernel_rfl) (by kernel_rfl) (fun _ _ _ h => h) (by rfl) ?ht44 hH0 ?rt44
                case ht44 => ((intro W hSw); obtain ⟨q0, q1, q2, q3, q4, q5⟩ := hSw; go_simp; (try with_reducible rfl))
                try simp only [Act.put, List.setIfInBounds_toArray, List.set_cons_zero, List.set_cons_succ]
                refine Fe.any_take 4 76 ?vt45 rfl rfl (by kernel_rfl) (by kernel_rfl) (by kernel_rfl) (fun _ _ _ h => h) (by rfl) ?ht45 hH0 ?rt45
                case ht45 => ((intro W hSw); obtain ⟨q0, q1, q2, q3, q4, q5⟩ := hSw; go_simp; (try with_reducible rfl))
                try simp only [Act.put, List.setIfInBounds_toArray, List.set_cons_zero, List.set_cons_succ]
                refine Fe.any_take 5 77 ?vt46 rfl rfl (by kernel_rfl) (by kernel_rfl) (by kernel_rfl) (fun _ _ _ h => h) (by rfl) ?ht46 hH0 ?rt46
                case ht46 => ((intro W hSw); obtain ⟨q0, q1, q2, q3, q4, q5⟩ := hSw; go_simp; (try with_reducible rfl))
                try simp only [Act.put, List.setIfInBounds_toArray, List.set_cons_zero, List.set_cons_succ]
                refine Fe.any_take 6 78 ?vt47 rfl rfl (by kernel_rfl) (by kernel_rfl) (by kernel_rfl) (fun _ _ _ h => h) (by rfl) ?ht47 hH0 ?rt47
                case ht47 => ((intro W hSw); obtain ⟨q0, q1, q2, q3, q4, q5⟩ := hSw; go_simp; (try with_reducible rfl))
                try simp only [Act.put, List.setIfInBounds_toArray, List.set_cons_zero, List.set_cons_succ]
                refine Fe.any_take 7 79 ?vt48 rfl rfl (by kernel_rfl) (by kernel_rfl) (by kernel_rfl) (fun _ _ _ h => h) (by rfl) ?ht48 hH0 ?rt48
                case ht48 => ((intro W hSw); obtain ⟨q0, q1, q2, q3, q4, q5⟩ := hSw; go_simp; (try with_reducible rfl))
                try simp only [Act.put, List.setIfInBounds_toArray, List.set_cons_zero, List.set_cons_succ]
                refine Fe.any_take 8 80 ?vt49 rfl rfl (by kernel_rfl) (by kernel_rfl) (by kernel_rfl) (fun _ _ _ h => h) (by rfl) ?ht49 hH0 ?rt49
                case ht49 => ((intro W hSw); obtain ⟨q0, q1, q2, q3, q4, q5⟩ := hSw; go_simp; (try with_reducible rfl))
                try simp only [Act.put, List.setIfInBounds_toArray, List.set_cons_zero, List.set_cons_succ]
                refine Fe.any_take 9 81 ?vt50 rfl rfl (by kernel_rfl) (by kernel_rfl) (by kernel_rfl) (fun _ _ _ h => h) (by rfl) ?ht50 hH0 ?rt50
                case ht50 => ((intro W hSw); obtain ⟨q0, q1, q2, q3, q4, q5⟩ := hSw; go_simp; (try with_reducible rfl))
                try simp only [Act.put, List.setIfInBounds_toArray, List.set_cons_zero, List.set_cons_succ]
                refine Fe.any_take 10 82 ?vt51 rfl rfl (by kernel_rfl) (by kernel_rfl) (by kernel_rfl) (fun _ _ _ h => h) (by rfl) ?ht51 hH0 ?rt51
                case ht51 => ((intro W hSw); obtain ⟨q0, q1, q2, q3, q4, q5⟩ := hSw; go_simp; (try with_reducible rfl))
                try simp only [Act.put, List.setIfInBounds_toArray, List.set_cons_zero, List.set_cons_succ]
                refine Fe.any_take 11 83 ?vt52 rfl rfl (by kernel_rfl) (by kernel_rfl) (by kernel_rfl) (fun _ _ _ h => h) (by rfl) ?ht52 hH0 ?rt52
                case ht52 => ((intro W hSw); obtain ⟨q0, q1, q2, q3, q4, q5⟩ := hSw; go_simp; (try with_reducible rfl))
                try simp only [Act.put, List.setIfInBounds_toArray, List.set_cons_zero, List.set_cons_succ]
                refine Fe.any_take 12 84 ?vt53 rfl rfl (by kernel_rfl) (by kernel_rfl) (by kernel_rfl) (fun _ _ _ h => h) (by rfl) ?ht53 hH0 ?rt53
                case ht53 => ((intro W hSw); obtain ⟨q0, q1, q2, q3, q4, q5⟩ := hSw; go_simp; (try with_reducible rfl))
                try simp only [Act.put, List.setIfInBounds_toArray, List.set_cons_zero, List.set_cons_succ]
                refine Fe.any_take 13 85 ?vt54 rfl rfl (by kernel_rfl) (by kernel_rfl) (by kernel_rfl) (fun _ _ _ h => h) (by rfl) ?ht54 hH0 ?rt54
                case ht54 => ((intro W hSw); obtain ⟨q0, q1, q2, q3, q4, q5⟩ := hSw; go_simp; (try with_reducible rfl))
                try simp only [Act.put, List.setIfInBounds_toArray, List.set_cons_zero, List.set_cons_succ]
                refine Fe.any_take 14 86 ?vt55 rfl rfl (by kernel_rfl) (by kernel_rfl) (by kernel_rfl) (fun _ _ _ h => h) (by rfl) ?ht55 hH0 ?rt55
                case ht55 => ((intro W hSw); obtain ⟨q0, q1, q2, q3, q4, q5⟩ := hSw; go_simp; (try with_reducible rfl))
                try simp only [Act.put, List.setIfInBounds_toArray, List.set_cons_zero, List.set_cons_succ]
                refine Fe.any_take 15 87 ?vt56 rfl rfl (by kernel_rfl) (by kernel_rfl) (by kernel_rfl) (fun _ _ _ h => h) (by rfl) ?ht56 hH0 ?rt56
                case ht56 => ((intro W hSw); obtain ⟨q0, q1, q2, q3, q4, q5⟩ := hSw; go_simp; (try with_reducible rfl))
                try simp only [Act.put, List.setIfInBounds_toArray, List.set_cons_zero, List.set_cons_succ]
                refine Fe.any_take 16 88 ?vt57 rfl rfl (by kernel_rfl) (by kernel_rfl) (by kernel_rfl) (fun _ _ _ h => h) (by rfl) ?ht57 hH0 ?rt57
                case ht57 => ((intro W hSw); obtain ⟨q0, q1, q2, q3, q4, q5⟩ := hSw; go_simp; (try with_reducible rfl))
                try simp only [Act.put, List.setIfInBounds_toArray, List.set_cons_zero, List.set_cons_succ]
                refine Fe.any_take 17 89 ?vt58 rfl rfl (by kernel_rfl) (by kernel_rfl) (by kernel_rfl) (fun _ _ _ h => h) (by rfl) ?ht58 hH0 ?rt58
                case ht58 => ((intro W hSw); obtain ⟨q0, q1, q2, q3, q4, q5⟩ := hSw; go_simp; (try with_reducible rfl))
                try simp only [Act.put, List.setIfInBounds_toArray, List.set_cons_zero, List.set_cons_succ]
                refine Fe.any_take 18 90 ?vt59 rfl rfl (by kernel_rfl) (by kernel_rfl) (by kernel_rfl) (fun _ _ _ h => h) (by rfl) ?ht59 hH0 ?rt59
                case ht59 => ((intro W hSw); obtain ⟨q0, q1, q2, q3, q4, q5⟩ := hSw; go_simp; (try with_reducible rfl))
                try simp only [Act.put, List.setIfInBounds_toArray, List.set_cons_zero, List.set_cons_succ]
                refine Fe.any_take 19 91 ?vt60 rfl rfl (by kernel_rfl) (by kernel_rfl) (by kernel_rfl) (fun _ _ _ h => h) (by rfl) ?ht60 hH0 ?rt60
                case ht60 => ((intro W hSw); obtain ⟨q0, q1, q2, q3, q4, q5⟩ := hSw; go_simp; (try with_reducible rfl))
                try simp only [Act.put, List.setIfInBounds_toArray, List.set_cons_zero, List.set_cons_succ]
                refine Fe.any_take 20 92 ?vt61 rfl rfl (by kernel_rfl) (by kernel_rfl) (by kernel_rfl) (fun _ _ _ h => h) (by rfl) ?ht61 hH0 ?rt61
                case ht61 => ((intro W hSw); obtain ⟨q0, q1, q2, q3, q4, q5⟩ := hSw; go_simp; (try with_reducible rfl))
                try simp only [Act.put, List.setIfInBounds_toArray, List.set_cons_zero, List.set_cons_succ]
                refine Fe.any_take 21 93 ?vt62 rfl rfl (by kernel_rfl) (by kernel_rfl) (by kernel_rfl) (fun _ _ _ h => h) (by rfl) ?ht62 hH0 ?rt62
                case ht62 => ((intro W hSw); obtain ⟨q0, q1, q2, q3, q4, q5⟩ := hSw; go_simp; (try with_reducible rfl))
                try simp only [Act.put, List.setIfInBounds_toArray, List.set_cons_zero, List.set_cons_succ]
                refine Fe.any_take 22 94 ?vt63 rfl rfl (by kernel_rfl) (by kernel_rfl) (by kernel_rfl) (fun _ _ _ h => h) (by rfl) ?ht63 hH0 ?rt63
                case ht63 => ((intro W hSw); obtain ⟨q0, q1, q2, q3, q4, q5⟩ := hSw; go_simp; (try with_reducible rfl))
                try simp only [Act.put, List.setIfInBounds_toArray, List.set_cons_zero, List.set_cons_succ]
                refine Fe.any_take 23 95 ?vt64 rfl rfl (by kernel_rfl) (by kernel_rfl) (by kernel_rfl) (fun _ _ _ h => h) (by rfl) ?ht64 hH0 ?rt64
                case ht64 => ((intro W hSw); obtain ⟨q0, q1, q2, q3, q4, q5⟩ := hSw; go_simp; (try with_reducible rfl))
                try simp only [Act.put, List.setIfInBounds_toArray, List.set_cons_zero, List.set_cons_succ]
                clear hH0
                refine wpAnyH_done (by kernel_rfl) ?_ _
                refine NoPanic.normal ?_
                go_wp2_with fail
                refine wp_region_noPanic ?_
                refine wp_region_held_drew (S := fun W => W.cell? ⟨ge, k * 3, none⟩ = some (.int .u32 (po : Int)) ∧ W.cell? ⟨ge, k * 3 + 1, none⟩ = some (.int .i64 ps) ∧ W.cell? ⟨ge, k * 3 + 2, none⟩ = some (.bool false) ∧ W.cell? ⟨ge, i * 3, none⟩ = some (.int .u32 (ro : Int)) ∧ W.cell? ⟨ge, i * 3 + 1, none⟩ = some (.int .i64 rs) ∧ W.cell? ⟨ge, i * 3 + 2, none⟩ = some (.bool true)) (by kernel_rfl) (⟨y0, y1, y2, z0, z1, z2⟩) (fun hH0 => ?_)
                refine Fe.any_take 0 96 ?vt66 rfl rfl (by kernel_rfl) (by kernel_rfl) (by kernel_rfl) (fun _ _ _ h => h) (by rfl) ?ht66 hH0 ?rt66
                case ht66 => ((intro W hSw); obtain ⟨q0, q1, q2, q3, q4, q5⟩ := hSw; go_simp; (try with_reducible rfl))
                try simp only [Act.put, List.setIfInBounds_toArray, List.set_cons_zero, List.set_cons_succ]
                refine Fe.any_take 1 97 ?vt67 rfl rfl (by kernel_rfl) (by kernel_rfl) (by kernel_rfl) (fun _ _ _ h => h) (by rfl) ?ht67 hH0 ?rt67
                case ht67 => ((intro W hSw); obtain ⟨q0, q1, q2, q3, q4, q5⟩ := hSw; go_simp; (try with_reducible rfl))
                try simp only [Act.put, List.setIfInBounds_toArray, List.set_cons_zero, List.set_cons_succ]
                refine Fe.any_take 2 98 ?vt68 rfl rfl (by kernel_rfl) (by kernel_rfl) (by kernel_rfl) (fun _ _ _ h => h) (by rfl) ?ht68 hH0 ?rt68
                case ht68 => ((intro W hSw); obtain ⟨q0, q1, q2, q3, q4, q5⟩ := hSw; go_simp; (try with_reducible rfl))
                try simp only [Act.put, List.setIfInBounds_toArray, List.set_cons_zero, List.set_cons_succ]
                refine Fe.any_take 3 99 ?vt69 rfl rfl (by kernel_rfl) (by kernel_rfl) (by kernel_rfl) (fun _ _ _ h => h) (by rfl) ?ht69 hH0 ?rt69
                case ht69 => ((intro W hSw); obtain ⟨q0, q1, q2, q3, q4, q5⟩ := hSw; go_simp; (try with_reducible rfl))
                try simp only [Act.put, List.setIfInBounds_toArray, List.set_cons_zero, List.set_cons_succ]
                refine Fe.any_take 4 100 ?vt70 rfl rfl (by kernel_rfl) (by kernel_rfl) (by kernel_rfl) (fun _ _ _ h => h) (by rfl) ?ht70 hH0 ?rt70
                case ht70 => ((intro W hSw); obtain ⟨q0, q1, q2, q3, q4, q5⟩ := hSw; go_simp; (try with_reducible rfl))
                try simp only [Act.put, List.setIfInBounds_toArray, List.set_cons_zero, List.set_cons_succ]
                refine Fe.any_take 5 101 ?vt71 rfl rfl (by kernel_rfl) (by kernel_rfl) (by kernel_rfl) (fun _ _ _ h => h) (by rfl) ?ht71 hH0 ?rt71
                case ht71 => ((intro W hSw); obtain ⟨q0, q1, q2, q3, q4, q5⟩ := hSw; go_simp; (try with_reducible rfl))
                try simp only [Act.put, List.setIfInBounds_toArray, List.set_cons_zero, List.set_cons_succ]
                refine Fe.any_take 6 102 ?vt72 rfl rfl (by kernel_rfl) (by kernel_rfl) (by kernel_rfl) (fun _ _ _ h => h) (by rfl) ?ht72 hH0 ?rt72
                case ht72 => ((intro W hSw); obtain ⟨q0, q1, q2, q3, q4, q5⟩ := hSw; go_simp; (try with_reducible rfl))
                try simp only [Act.put, List.setIfInBounds_toArray, List.set_cons_zero, List.set_cons_succ]
                refine Fe.any_take 7 103 ?vt73 rfl rfl (by kernel_rfl) (by kernel_rfl) (by kernel_rfl) (fun _ _ _ h => h) (by rfl) ?ht73 hH0 ?rt73
                case ht73 => ((intro W hSw); obtain ⟨q0, q1, q2, q3, q4, q5⟩ := hSw; go_simp; (try with_reducible rfl))
                try simp only [Act.put, List.setIfInBounds_toArray, List.set_cons_zero, List.set_cons_succ]
                refine Fe.any_take 8 104 ?vt74 rfl rfl (by kernel_rfl) (by kernel_rfl) (by kernel_rfl) (fun _ _ _ h => h) (by rfl) ?ht74 hH0 ?rt74
                case ht74 => ((intro W hSw); obtain ⟨q0, q1, q2, q3, q4, q5⟩ := hSw; go_simp; (try with_reducible rfl))
                try simp only [Act.put, List.setIfInBounds_toArray, List.set_cons_zero, List.set_cons_succ]
                refine Fe.any_take 9 105 ?vt75 rfl rfl (by kernel_rfl) (by kernel_rfl) (by kernel_rfl) (fun _ _ _ h => h) (by rfl) ?ht75 hH0 ?rt75
                case ht75 => ((intro W hSw); obtain ⟨q0, q1, q2, q3, q4, q5⟩ := hSw; go_simp; (try with_reducible rfl))
                try simp only [Act.put, List.setIfInBounds_toArray, List.set_cons_zero, List.set_cons_succ]
                refine Fe.any_take 10 106 ?vt76 rfl rfl (by kernel_rfl) (by kernel_rfl) (by kernel_rfl) (fun _ _ _ h => h) (by rfl) ?ht76 hH0 ?rt76
                case ht76 => ((intro W hSw); obtain ⟨q0, q1, q2, q3, q4, q5⟩ := hSw; go_simp; (try with_reducible rfl))
                try simp only [Act.put, List.setIfInBounds_toArray, List.set_cons_zero, List.set_cons_succ]
                refine Fe.any_take 11 107 ?vt77 rfl rfl (by kernel_rfl) (by kernel_rfl) (by kernel_rfl) (fun _ _ _ h => h) (by rfl) ?ht77 hH0 ?rt77
                case ht77 => ((intro W hSw); obtain ⟨q0, q1, q2, q3, q4, q5⟩ := hSw; go_simp; (try with_reducible rfl))
                try simp only [Act.put, List.setIfInBounds_toArray, List.set_cons_zero, List.set_cons_succ]
                refine Fe.any_take 12 108 ?vt78 rfl rfl (by kernel_rfl) (by kernel_rfl) (by kernel_rfl) (fun _ _ _ h => h) (by rfl) ?ht78 hH0 ?rt78
                case ht78 => ((intro W hSw); obtain ⟨q0, q1, q2, q3, q4, q5⟩ := hSw; go_simp; (try with_reducible rfl))
                try simp only [Act.put, List.setIfInBounds_toArray, List.set_cons_zero, List.set_cons_succ]
                refine Fe.any_take 13 109 ?vt79 rfl rfl (by kernel_rfl) (by kernel_rfl) (by kernel_rfl) (fun _ _ _ h => h) (by rfl) ?ht79 hH0 ?rt79
                case ht79 => ((intro W hSw); obtain ⟨q0, q1, q2, q3, q4, q5⟩ := hSw; go_simp; (try with_reducible rfl))
                try simp only [Act.put, List.setIfInBounds_toArray, List.set_cons_zero, List.set_cons_succ]
                refine Fe.any_take 14 110 ?vt80 rfl rfl (by kernel_rfl) (by kernel_rfl) (by kernel_rfl) (fun _ _ _ h => h) (by rfl) ?ht80 hH0 ?rt80
                case ht80 => ((intro W hSw); obtain ⟨q0, q1, q2, q3, q4, q5⟩ := hSw; go_simp; (try with_reducible rfl))
                try simp only [Act.put, List.setIfInBounds_toArray, List.set_cons_zero, List.set_cons_succ]
                refine Fe.any_take 15 111 ?vt81 rfl rfl (by kernel_rfl) (by kernel_rfl) (by kernel_rfl) (fun _ _ _ h => h) (by rfl) ?ht81 hH0 ?rt81
                case ht81 => ((intro W hSw); obtain ⟨q0, q1, q2, q3, q4, q5⟩ := hSw; go_simp; (try with_reducible rfl))
                try simp only [Act.put, List.setIfInBounds_toArray, List.set_cons_zero, List.set_cons_succ]
                refine Fe.any_take 16 112 ?vt82 rfl rfl (by kernel_rfl) (by kernel_rfl) (by kernel_rfl) (fun _ _ _ h => h) (by rfl) ?ht82 hH0 ?rt82
                case ht82 => ((intro W hSw); obtain ⟨q0, q1, q2, q3, q4, q5⟩ := hSw; go_simp; (try with_reducible rfl))
                try simp only [Act.put, List.setIfInBounds_toArray, List.set_cons_zero, List.set_cons_succ]
                refine Fe.any_take 17 113 ?vt83 rfl rfl (by kernel_rfl) (by kernel_rfl) (by kernel_rfl) (fun _ _ _ h => h) (by rfl) ?ht83 hH0 ?rt83
                case ht83 => ((intro W hSw); obtain ⟨q0, q1, q2, q3, q4, q5⟩ := hSw; go_simp; (try with_reducible rfl))
                try simp only [Act.put, List.setIfInBounds_toArray, List.set_cons_zero, List.set_cons_succ]
                clear hH0
                refine wpAnyH_done (by kernel_rfl) ?_ _
                refine NoPanic.normal ?_
                go_wp2
                go_roundw
                case rel => exact ⟨k + 1, true, by omega, by go_num, rfl, HBQ.out.drew.drew, (fun ht => by cases ht)⟩
                case measure => simp [intOf]; omega
              · have HN : Hid (¬ (po = ro ∧ ps = rs)) := Lib.hid (fun h => hs h.2)
                have f0 : ((po : Int) == (ro : Int)) = true := by rw [ho]; simp
                have f0b : (po == ro) = true := by rw [ho]; simp
                have f1 : (ps == rs) = false := beq_eq_false_iff_ne.2 hs
                clear ho hs
                refine wp_region_noPanic ?_
                refine wp_region_held_drew (S := fun W => W.cell? ⟨ge, k * 3, none⟩ = some (.int .u32 (po : Int)) ∧ W.cell? ⟨ge, k * 3 + 1, none⟩ = some (.int .i64 ps) ∧ W.cell? ⟨ge, k * 3 + 2, none⟩ = some (.bool pu) ∧ W.cell? ⟨ge, i * 3, none⟩ = some (.int .u32 (ro : Int)) ∧ W.cell? ⟨ge, i * 3 + 1, none⟩ = some (.int .i64 rs) ∧ W.cell? ⟨ge, i * 3 + 2, none⟩ = some (.bool ru)) (by kernel_rfl) (⟨y0, y1, y2, z0, z1, z2⟩) (fun hH0 => ?_)
                refine Fe.any_take 0 72 ?vt16 rfl rfl (by kernel_rfl) (by kernel_rfl) (by kernel_rfl) (fun _ _ _ h => h) (by rfl) ?ht16 hH0 ?rt16
                case ht16 => ((intro W hSw); obtain ⟨q0, q1, q2, q3, q4, q5⟩ := hSw; go_simp; (try with_reducible rfl))
                try simp only [Act.put, List.setIfInBounds_toArray, List.set_cons_zero, List.set_cons_succ]
                refine Fe.any_take 1 73 ?vt17 rfl rfl (by kernel_rfl) (by kernel_rfl) (by kernel_rfl) (fun _ _ _ h => h) (by rfl) ?ht17 hH0 ?rt17
                case ht17 => ((intro W hSw); obtain ⟨q0, q1, q2, q3, q4, q5⟩ := hSw; go_simp; (try with_reducible rfl))
                try simp only [Act.put, List.setIfInBounds_toArray, List.set_cons_zero, List.set_cons_succ]
                refine Fe.any_take 2 74 ?vt18 rfl rfl (by kernel_rfl) (by kernel_rfl) (by kernel_rfl) (fun _ _ _ h => h) (by rfl) ?ht18 hH0 ?rt18
                case ht18 => ((intro W hSw); obtain ⟨q0, q1, q2, q3, q4, q5⟩ := hSw; go_simp; (try with_reducible rfl))
                try simp only [Act.put, List.setIfInBounds_toArray, List.set_cons_zero, List.set_cons_succ]
                refine Fe.any_take 3 75 ?vt19 rfl rfl (by kernel_rfl) (by kernel_rfl) (by kernel_rfl) (fun _ _ _ h => h) (by rfl) ?ht19 hH0 ?rt19
                case ht19 => ((intro W hSw); obtain ⟨q0, q1, q2, q3, q4, q5⟩ := hSw; go_simp; (try with_reducible rfl))
                try simp only [Act.put, List.setIfInBounds_toArray, List.set_cons_zero, List.set_cons_succ]
                refine Fe.any_take 4 76 ?vt20 rfl rfl (by kernel_rfl) (by kernel_rfl) (by kernel_rfl) (fun _ _ _ h => h) (by rfl) ?ht20 hH0 ?rt20
                case ht20 => ((intro W hSw); obtain ⟨q0, q1, q2, q3, q4, q5⟩ := hSw; go_simp; (try with_reducible rfl))
                try simp only [Act.put, List.setIfInBounds_toArray, List.set_cons_zero, List.set_cons_succ]
                refine Fe.any_take 5 77 ?vt21 rfl rfl (by kernel_rfl) (by kernel_rfl) (by kernel_rfl) (fun _ _ _ h => h) (by rfl) ?ht21 hH0 ?rt21
                case ht21 => ((intro W hSw); obtain ⟨q0, q1, q2, q3, q4, q5⟩ := hSw; go_simp; (try with_reducible rfl))
                try simp only [Act.put, List.setIfInBounds_toArray, List.set_cons_zero, List.set_cons_succ]
                refine Fe.any_take 6 78 ?vt22 rfl rfl (by kernel_rfl) (by kernel_rfl) (by kernel_rfl) (fun _ _ _ h => h) (by rfl) ?ht22 hH0 ?rt22
                case ht22 => ((intro W hSw); obtain ⟨q0, q1, q2, q3, q4, q5⟩ := hSw; go_simp; (try with_reducible rfl))
                try simp only [Act.put, List.setIfInBounds_toArray, List.set_cons_zero, List.set_cons_succ]
                refine Fe.any_take 7 79 ?vt23 rfl rfl (by kernel_rfl) (by kernel_rfl) (by kernel_rfl) (fun _ _ _ h => h) (by rfl) ?ht23 hH0 ?rt23
                case ht23 => ((intro W hSw); obtain ⟨q0, q1, q2, q3, q4, q5⟩ := hSw; go_simp; (try with_reducible rfl))
                try simp only [Act.put, List.setIfInBounds_toArray, List.set_cons_zero, List.set_cons_succ]
                refine Fe.any_take 8 80 ?vt24 rfl rfl (by kernel_rfl) (by kernel_rfl) (by kernel_rfl) (fun _ _ _ h => h) (by rfl) ?ht24 hH0 ?rt24
                case ht24 => ((intro W hSw); obtain ⟨q0, q1, q2, q3, q4, q5⟩ := hSw; go_simp; (try with_reducible rfl))
                try simp only [Act.put, List.setIfInBounds_toArray, List.set_cons_zero, List.set_cons_succ]
                refine Fe.any_take 9 81 ?vt25 rfl rfl (by kernel_rfl) (by kernel_rfl) (by kernel_rfl) (fun _ _ _ h => h) (by rfl) ?ht25 hH0 ?rt25
                case ht25 => ((intro W hSw); obtain ⟨q0, q1, q2, q3, q4, q5⟩ := hSw; go_simp; (try with_reducible rfl))
                try simp only [Act.put, List.setIfInBounds_toArray, List.set_cons_zero, List.set_cons_succ]
                refine Fe.any_take 10 82 ?vt26 rfl rfl (by kernel_rfl) (by kernel_rfl) (by kernel_rfl) (fun _ _ _ h => h) (by rfl) ?ht26 hH0 ?rt26
                case ht26 => ((intro W hSw); obtain ⟨q0, q1, q2, q3, q4, q5⟩ := hSw; go_simp; (try with_reducible rfl))
                try simp only [Act.put, List.setIfInBounds_toArray, List.set_cons_zero, List.set_cons_succ]
                refine Fe.any_take 11 83 ?vt27 rfl rfl (by kernel_rfl) (by kernel_rfl) (by kernel_rfl) (fun _ _ _ h => h) (by rfl) ?ht27 hH0 ?rt27
                case ht27 => ((intro W hSw); obtain ⟨q0, q1, q2, q3, q4, q5⟩ := hSw; go_simp; (try with_reducible rfl))
                try simp only [Act.put, List.setIfInBounds_toArray, List.set_cons_zero, List.set_cons_succ]
                refine Fe.any_take 12 84 ?vt28 rfl rfl (by kernel_rfl) (by kernel_rfl) (by kernel_rfl) (fun _ _ _ h => h) (by rfl) ?ht28 hH0 ?rt28
                case ht28 => ((intro W hSw); obtain ⟨q0, q1, q2, q3, q4, q5⟩ := hSw; go_simp; (try with_reducible rfl))
                try simp only [Act.put, List.setIfInBounds_toArray, List.set_cons_zero, List.set_cons_succ]
                refine Fe.any_take 13 85 ?vt29 rfl rfl (by kernel_rfl) (by kernel_rfl) (by kernel_rfl) (fun _ _ _ h => h) (by rfl) ?ht29 hH0 ?rt29
                case ht29 => ((intro W hSw); obtain ⟨q0, q1, q2, q3, q4, q5⟩ := hSw; go_simp; (try with_reducible rfl))
                try simp only [Act.put, List.setIfInBounds_toArray, List.set_cons_zero, List.set_cons_succ]
                refine Fe.any_take 14 86 ?vt30 rfl rfl (by kernel_rfl) (by kernel_rfl) (by kernel_rfl) (fun _ _ _ h => h) (by rfl) ?ht30 hH0 ?rt30
                case ht30 => ((intro W hSw); obtain ⟨q0, q1, q2, q3, q4, q5⟩ := hSw; go_simp; (try with_reducible rfl))
                try simp only [Act.put, List.setIfInBounds_toArray, List.set_cons_zero, List.set_cons_succ]
                refine Fe.any_take 15 87 ?vt31 rfl rfl (by kernel_rfl) (by kernel_rfl) (by kernel_rfl) (fun _ _ _ h => h) (by rfl) ?ht31 hH0 ?rt31
                case ht31 => ((intro W hSw); obtain ⟨q0, q1, q2, q3, q4, q5⟩ := hSw; go_simp; (try with_reducible rfl))
                try simp only [Act.put, List.setIfInBounds_toArray, List.set_cons_zero, List.set_cons_succ]
                refine Fe.any_take 16 88 ?vt32 rfl rfl (by kernel_rfl) (by kernel_rfl) (by kernel_rfl) (fun _ _ _ h => h) (by rfl) ?ht32 hH0 ?rt32
                case ht32 => ((intro W hSw); obtain ⟨q0, q1, q2, q3, q4, q5⟩ := hSw; go_simp; (try with_reducible rfl))
                try simp only [Act.put, List.setIfInBounds_toArray, List.set_cons_zero, List.set_cons_succ]
                refine Fe.any_take 17 89 ?vt33 rfl rfl (by kernel_rfl) (by kernel_rfl) (by kernel_rfl) (fun _ _ _ h => h) (by rfl) ?ht33 hH0 ?rt33
                case ht33 => ((intro W hSw); obtain ⟨q0, q1, q2, q3, q4, q5⟩ := hSw; go_simp; (try with_reducible rfl))
                try simp only [Act.put, List.setIfInBounds_toArray, List.set_cons_zero, List.set_cons_succ]
                refine Fe.any_take 18 90 ?vt34 rfl rfl (by kernel_rfl) (by kernel_rfl) (by kernel_rfl) (fun _ _ _ h => h) (by rfl) ?ht34 hH0 ?rt34
                case ht34 => ((intro W hSw); obtain ⟨q0, q1, q2, q3, q4, q5⟩ := hSw; go_simp; (try with_reducible rfl))
                try simp only [Act.put, List.setIfInBounds_toArray, List.set_cons_zero, List.set_cons_succ]
                refine Fe.any_take 19 91 ?vt35 rfl rfl (by kernel_rfl) (by kernel_rfl) (by kernel_rfl) (fun _ _ _ h => h) (by rfl) ?ht35 hH0 ?rt35
                case ht35 => ((intro W hSw); obtain ⟨q0, q1, q2, q3, q4, q5⟩ := hSw; go_simp; (try with_reducible rfl))
                try simp only [Act.put, List.setIfInBounds_toArray, List.set_cons_zero, List.set_cons_succ]
                refine Fe.any_take 20 92 ?vt36 rfl rfl (by kernel_rfl) (by kernel_rfl) (by kernel_rfl) (fun _ _ _ h => h) (by rfl) ?ht36 hH0 ?rt36
                case ht36 => ((intro W hSw); obtain ⟨q0, q1, q2, q3, q4, q5⟩ := hSw; go_simp; (try with_reducible rfl))
                try simp only [Act.put, List.setIfInBounds_toArray, List.set_cons_zero, List.set_cons_succ]
                refine Fe.any_take 21 93 ?vt37 rfl rfl (by kernel_rfl) (by kernel_rfl) (by kernel_rfl) (fun _ _ _ h => h) (by rfl) ?ht37 hH0 ?rt37
                case ht37 => ((intro W hSw); obtain ⟨q0, q1, q2, q3, q4, q5⟩ := hSw; go_simp; (try with_reducible rfl))
                try simp only [Act.put, List.setIfInBounds_toArray, List.set_cons_zero, List.set_cons_succ]
                refine Fe.any_take 22 94 ?vt38 rfl rfl (by kernel_rfl) (by kernel_rfl) (by kernel_rfl) (fun _ _ _ h => h) (by rfl) ?ht38 hH0 ?rt38
                case ht38 => ((intro W hSw); obtain ⟨q0, q1, q2, q3, q4, q5⟩ := hSw; go_simp; (try with_reducible rfl))
                try simp only [Act.put, List.setIfInBounds_toArray, List.set_cons_zero, List.set_cons_succ]
                refine Fe.any_take 23 95 ?vt39 rfl rfl (by kernel_rfl) (by kernel_rfl) (by kernel_rfl) (fun _ _ _ h => h) (by rfl) ?ht39 hH0 ?rt39
                case ht39 => ((intro W hSw); obtain ⟨q0, q1, q2, q3, q4, q5⟩ := hSw; go_simp; (try with_reducible rfl))
                try simp only [Act.put, List.setIfInBounds_toArray, List.set_cons_zero, List.set_cons_succ]
                clear hH0
                refine wpAnyH_done (by kernel_rfl) ?_ _
                refine NoPanic.normal ?_
                go_wp2
                go_roundw
                case rel => exact ⟨k + 1, t, by omega, by go_num, rfl, HBQ.out.drew, (fun ht j hj hl => by
                  rcases (by omega : j < k ∨ j = k) with h | rfl
                  · exact HNO.out ht j h hl
                  · rw [HP.out, HR.out]; exact HN.out)⟩
                case measure => simp [intOf]; omega
            · have HN : Hid (¬ (po = ro ∧ ps = rs)) := Lib.hid (fun h => ho h.1)
              have f0 : ((po : Int) == (ro : Int)) = false := beq_eq_false_iff_ne.2 (by omega)
              have f0b : (po == ro) = false := beq_eq_false_iff_ne.2 ho
              clear ho
              refine wp_region_noPanic ?_
              refine wp_region_held_drew (S := fun W => W.cell? ⟨ge, k * 3, none⟩ = some (.int .u32 (po : Int)) ∧ W.cell? ⟨ge, k * 3 + 1, none⟩ = some (.int .i64 ps) ∧ W.cell? ⟨ge, k * 3 + 2, none⟩ = some (.bool pu) ∧ W.cell? ⟨ge, i * 3, none⟩ = some (.int .u32 (ro : Int)) ∧ W.cell? ⟨ge, i * 3 + 1, none⟩ = some (.int .i64 rs) ∧ W.cell? ⟨ge, i * 3 + 2, none⟩ = some (.bool ru)) (by kernel_rfl) (⟨y0, y1, y2, z0, z1, z2⟩) (fun hH0 => ?_)
              refine Fe.any_take 0 72 ?vt2 rfl rfl (by kernel_rfl) (by kernel_rfl) (by kernel_rfl) (fun _ _ _ h => h) (by rfl) ?ht2 hH0 ?rt2
              case ht2 => ((intro W hSw); obtain ⟨q0, q1, q2, q3, q4, q5⟩ := hSw; go_simp; (try with_reducible rfl))
              try simp only [Act.put, List.setIfInBounds_toArray, List.set_cons_zero, List.set_cons_succ]
              refine Fe.any_take 1 73 ?vt3 rfl rfl (by kernel_rfl) (by kernel_rfl) (by kernel_rfl) (fun _ _ _ h => h) (by rfl) ?ht3 hH0 ?rt3
              case ht3 => ((intro W hSw); obtain ⟨q0, q1, q2, q3, q4, q5⟩ := hSw; go_simp; (try with_reducible rfl))
              try simp only [Act.put, List.setIfInBounds_toArray, List.set_cons_zero, List.set_cons_succ]
              refine Fe.any_take 2 74 ?vt4 rfl rfl (by kernel_rfl) (by kernel_rfl) (by kernel_rfl) (fun _ _ _ h => h) (by rfl) ?ht4 hH0 ?rt4
              case ht4 => ((intro W hSw); obtain ⟨q0, q1, q2, q3, q4, q5⟩ := hSw; go_simp; (try with_reducible rfl))
              try simp only [Act.put, List.setIfInBounds_toArray, List.set_cons_zero, List.set_cons_succ]
              refine Fe.any_take 3 75 ?vt5 rfl rfl (by kernel_rfl) (by kernel_rfl) (by kernel_rfl) (fun _ _ _ h => h) (by rfl) ?ht5 hH0 ?rt5
              case ht5 => ((intro W hSw); obtain ⟨q0, q1, q2, q3, q4, q5⟩ := hSw; go_simp; (try with_reducible rfl))
              try simp only [Act.put, List.setIfInBounds_toArray, List.set_cons_zero, List.set_cons_succ]
              refine Fe.any_take 4 76 ?vt6 rfl rfl (by kernel_rfl) (by kernel_rfl) (by kernel_rfl) (fun _ _ _ h => h) (by rfl) ?ht6 hH0 ?rt6
              case ht6 => ((intro W hSw); obtain ⟨q0, q1, q2, q3, q4, q5⟩ := hSw; go_simp; (try with_reducible rfl))
              try simp only [Act.put, List.setIfInBounds_toArray, List.set_cons_zero, List.set_cons_succ]
              refine Fe.any_take 5 77 ?vt7 rfl rfl (by kernel_rfl) (by kernel_rfl) (by kernel_rfl) (fun _ _ _ h => h) (by rfl) ?ht7 hH0 ?rt7
              case ht7 => ((intro W hSw); obtain ⟨q0, q1, q2, q3, q4, q5⟩ := hSw; go_simp; (try with_reducible rfl))
              try simp only [Act.put, List.setIfInBounds_toArray, List.set_cons_zero, List.set_cons_succ]
              refine Fe.any_take 6 78 ?vt8 rfl rfl (by kernel_rfl) (by kernel_rfl) (by kernel_rfl) (fun _ _ _ h => h) (by rfl) ?ht8 hH0 ?rt8
              case ht8 => ((intro W hSw); obtain ⟨q0, q1, q2, q3, q4, q5⟩ := hSw; go_simp; (try with_reducible rfl))
              try simp only [Act.put, List.setIfInBounds_toArray, List.set_cons_zero, List.set_cons_succ]
              refine Fe.any_take 7 79 ?vt9 rfl rfl (by kernel_rfl) (by kernel_rfl) (by kernel_rfl) (fun _ _ _ h => h) (by rfl) ?ht9 hH0 ?rt9
              case ht9 => ((intro W hSw); obtain ⟨q0, q1, q2, q3, q4, q5⟩ := hSw; go_simp; (try with_reducible rfl))
              try simp only [Act.put, List.setIfInBounds_toArray, List.set_cons_zero, List.set_cons_succ]
              refine Fe.any_take 8 80 ?vt10 rfl rfl (by kernel_rfl) (by kernel_rfl) (by kernel_rfl) (fun _ _ _ h => h) (by rfl) ?ht10 hH0 ?rt10
              case ht10 => ((intro W hSw); obtain ⟨q0, q1, q2, q3, q4, q5⟩ := hSw; go_simp; (try with_reducible rfl))
              try simp only [Act.put, List.setIfInBounds_toArray, List.set_cons_zero, List.set_cons_succ]
              refine Fe.any_take 9 81 ?vt11 rfl rfl (by kernel_rfl) (by kernel_rfl) (by kernel_rfl) (fun _ _ _ h => h) (by rfl) ?ht11 hH0 ?rt11
              case ht11 => ((intro W hSw); obtain ⟨q0, q1, q2, q3, q4, q5⟩ := hSw; go_simp; (try with_reducible rfl))
              try simp only [Act.put, List.setIfInBounds_toArray, List.set_cons_zero, List.set_cons_succ]
              refine Fe.any_take 10 82 ?vt12 rfl rfl (by kernel_rfl) (by kernel_rfl) (by kernel_rfl) (fun _ _ _ h => h) (by rfl) ?ht12 hH0 ?rt12
              case ht12 => ((intro W hSw); obtain ⟨q0, q1, q2, q3, q4, q5⟩ := hSw; go_simp; (try with_reducible rfl))
              try simp only [Act.put, List.setIfInBounds_toArray, List.set_cons_zero, List.set_cons_succ]
              refine Fe.any_take 11 83 ?vt13 rfl rfl (by kernel_rfl) (by kernel_rfl) (by kernel_rfl) (fun _ _ _ h => h) (by rfl) ?ht13 hH0 ?rt13
              case ht13 => ((intro W hSw); obtain ⟨q0, q1, q2, q3, q4, q5⟩ := hSw; go_simp; (try with_reducible rfl))
              try simp only [Act.put, List.setIfInBounds_toArray, List.set_cons_zero, List.set_cons_succ]
              refine Fe.any_skip 12 84 rfl rfl (by kernel_rfl) (by kernel_rfl) (by kernel_rfl) (fun _ _ _ h => h) (by rfl) hH0 ?_
              try simp only [Act.put, List.setIfInBounds_toArray, List.set_cons_zero, List.set_cons_succ]
              refine Fe.any_skip 13 85 rfl rfl (by kernel_rfl) (by kernel_rfl) (by kernel_rfl) (fun _ _ _ h => h) (by rfl) hH0 ?_
              try simp only [Act.put, List.setIfInBounds_toArray, List.set_cons_zero, List.set_cons_succ]
              refine Fe.any_skip 14 86 rfl rfl (by kernel_rfl) (by kernel_rfl) (by kernel_rfl) (fun _ _ _ h => h) (by rfl) hH0 ?_
              try simp only [Act.put, List.setIfInBounds_toArray, List.set_cons_zero, List.set_cons_succ]
              refine Fe.any_skip 15 87 rfl rfl (by kernel_rfl) (by kernel_rfl) (by kernel_rfl) (fun _ _ _ h => h) (by rfl) hH0 ?_
              try simp only [Act.put, List.setIfInBounds_toArray, List.set_cons_zero, List.set_cons_succ]
              refine Fe.any_skip 16 88 rfl rfl (by kernel_rfl) (by kernel_rfl) (by kernel_rfl) (fun _ _ _ h => h) (by rfl) hH0 ?_
              try simp only [Act.put, List.setIfInBounds_toArray, List.set_cons_zero, List.set_cons_succ]
              refine Fe.any_skip 17 89 rfl rfl (by kernel_rfl) (by kernel_rfl) (by kernel_rfl) (fun _ _ _ h => h) (by rfl) hH0 ?_
              try simp only [Act.put, List.setIfInBounds_toArray, List.set_cons_zero, List.set_cons_succ]
              refine Fe.any_skip 18 90 rfl rfl (by kernel_rfl) (by kernel_rfl) (by kernel_rfl) (fun _ _ _ h => h) (by rfl) hH0 ?_
              try simp only [Act.put, List.setIfInBounds_toArray, List.set_cons_zero, List.set_cons_succ]
              refine Fe.any_skip 19 91 rfl rfl (by kernel_rfl) (by kernel_rfl) (by kernel_rfl) (fun _ _ _ h => h) (by rfl) hH0 ?_
              try simp only [Act.put, List.setIfInBounds_toArray, List.set_cons_zero, List.set_cons_succ]
              refine Fe.any_skip 20 92 rfl rfl (by kernel_rfl) (by kernel_rfl) (by kernel_rfl) (fun _ _ _ h => h) (by rfl) hH0 ?_
              try simp only [Act.put, List.setIfInBounds_toArray, List.set_cons_zero, List.set_cons_succ]
              refine Fe.any_skip 21 93 rfl rfl (by kernel_rfl) (by kernel_rfl) (by kernel_rfl) (fun _ _ _ h => h) (by rfl) hH0 ?_
              try simp only [Act.put, List.setIfInBounds_toArray, List.set_cons_zero, List.set_cons_succ]
              refine Fe.any_skip 22 94 rfl rfl (by kernel_rfl) (by kernel_rfl) (by kernel_rfl) (fun _ _ _ h => h) (by rfl) hH0 ?_
              try simp only [Act.put, List.setIfInBounds_toArray, List.set_cons_zero, List.set_cons_succ]
              refine Fe.any_take 23 95 ?vt14 rfl rfl (by kernel_rfl) (by kernel_rfl) (by kernel_rfl) (fun _ _ _ h => h) (by rfl) ?ht14 hH0 ?rt14
              case ht14 => ((intro W hSw); obtain ⟨q0, q1, q2, q3, q4, q5⟩ := hSw; go_simp; (try with_reducible rfl))
              try simp only [Act.put, List.setIfInBounds_toArray, List.set_cons_zero, List.set_cons_succ]
              clear hH0
              refine wpAnyH_done (by kernel_rfl) ?_ _
              refine NoPanic.normal ?_
              go_wp2
              go_roundw
              case rel => exact ⟨k + 1, t, by omega, by go_num, rfl, HBQ.out.drew, (fun ht j hj hl => by
                rcases (by omega : j < k ∨ j = k) with h | rfl
                · exact HNO.out ht j h hl
                · rw [HP.out, HR.out]; exact HN.out)⟩
              case measure => simp [intOf]; omega
          · have e2 : decide ((k : Int) < (i : Int)) = false := by simp; omega
            have e2b : decide (k < i) = false := by simp; omega
            obtain ⟨A', c', e', -, hc⟩ := F_row (RE.out.below HB2.out)
            injection e' with e' t1 t2
            clear t1 t2
            subst e'
            obtain ⟨ge, ex, z0, z1, z2⟩ := hc i hli
            clear hc
            subst ex
            obtain ⟨ru, hr⟩ : ∃ p, E[i].u = p := ⟨_, rfl⟩
            rw [hr] at z2
            clear z0 z1
            have HT : Hid (ru = true → t = true) := Lib.hid (fun hu => by
              cases t
              · obtain ⟨j, hj, hl, e⟩ := EC.out i hli (hr.trans hu)
                exact absurd e (HNO.out rfl j (by omega) hl)
              · rfl)
            clear hr hk hki
            cases ru
            · go_wp2
              go_roundw
              case rel => exact ⟨i + 1, by omega, by go_num, HB2.out⟩
              case measure => simp [intOf]; omega
            · obtain rfl := HT.out rfl
              go_wp2
              go_roundw
              case rel => exact ⟨i + 1, by omega, by go_num, HB2.out⟩
              case measure => simp [intOf]; omega
      · have hlt3 : decide ((i : Int) < (E.length : Int)) = false := by simp; omega
        have hlt4 : decide (i < E.length) = false := by simpa using hli
        have S_7 := Lib.hid (S_6.out.below HBR.out)
        go_wp2_with fail
        with_reducible refine (known_any _).mono ?_
        rintro e w90 ⟨rfl, hb⟩
        have S_90 := Lib.hid (S_7.out.below hb)
        clear hb
        go_wp2
        go_ret
        exact ⟨rfl, S_90.out.bel⟩
  · clear HT
    go_wp2_with fail
    with_reducible refine (known_any _).mono ?_
    rintro e w90 ⟨rfl, hb⟩
    have S_90 := Lib.hid (S_2.out.below hb)
    clear hb
    go_wp2
    go_ret
    exact ⟨rfl, S_90.out.bel⟩

end Go.Proofs.YtpbclmnhkmcknaaGreat
