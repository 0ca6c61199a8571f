/-
  FenceOrder, walked.
-/
import Derived.Test.YtfcfejmammohpaaOrderM
import Derived.Test.YtfcfejmammohpaaKnownP
import Derived.Test.YtfcfejmammohpaaSee
import Derived.Deep.RegionHeld3
import Derived.Deep.DeepCutAuto
import Derived.Deep.CutRange
namespace Go.Proofs.Ytfcfejmammohpaa
open Go.RowKit
set_option maxRecDepth 100000
set_option linter.unusedVariables false
set_option linter.unusedSimpArgs false

theorem wrap64_small' (n : Int) (h0 : 0 ≤ n) (h1 : n < 9223372036854775808) : IntKind.i64.wrap n = n := by rw [IntKind.wrap_i64]; omega
set_option maxHeartbeats 16000000 in
theorem fenceOrder_walk (a0 : Option Addr) (n0 c0 : Nat) (sw : Int) (w : World) (hV : CV w a0 n0 c0) (hsw : in64 sw) (KN : ∀ W, Calls Try.prog 12 #[] W fun x w' => x = .returned (.bool true) ∧ Below W.heap.size W w') :
    Calls Try.prog 10 #[.slice a0 n0 c0, .int .i64 sw] w fun x w' => x = .returned (.bool true) ∧ Below w.heap.size w w' := by
  have CKN := Lib.hid KN
  obtain ⟨hnc, hcm, -, X, hX⟩ := hV
  have HX := Lib.hid hX
  have hn63 : n0 ≤ maxLen := Nat.le_trans hnc hcm
  unfold maxLen at hn63
  unfold in64 at hsw
  clear KN hX hnc hcm
  obtain ⟨sf, hsf⟩ : ∃ f : Nat → Int, f = (fun i => wrap64 ((IntKind.u64.wrap (X i).s).tmod 16)) := ⟨_, rfl⟩
  have HSF := Lib.hid hsf
  have HSB : Hid (∀ i, 0 ≤ sf i ∧ sf i < 16) := Lib.hid (fun i => by rw [hsf]; exact step16 _)
  clear hsf
  go_enter Try.func10, Try.ntmps10
  go_wp2_with fail
  go_loopw [5, 6] (OrA w sf n0) (fun _ i _ => n0 - (intOf i).toNat)
  case atStart => exact ⟨0, none, 0, fun _ => ⟨0, 0, none, 0⟩, by omega, by omega, rfl, rfl, ⟨OwnN.nil _ _ _, fun i hi => by omega, fun i hi => by omega, Below.refl _ _⟩⟩
  case round =>
    obtain ⟨j, A, c, Z, hj, hj2, rfl, rfl, hM⟩ := hrel
    have HM := Lib.hid hM
    clear hM
    by_cases hlt : j < n0
    · by_cases h12 : j < 12
      · obtain ⟨b, off, rfl, -⟩ := HX.out.1 (by omega)
        have hi : (j : Int) < (n0 : Int) := by omega
        have d1 : decide ((j : Int) < 12) = true := by rw [decide_eq_true_iff]; omega
        have d2 : decide (j < 12) = true := decide_eq_true h12
        obtain ⟨-, -, q2, -, -, -⟩ := (HX.out.below HM.out.b).at j hlt
        obtain ⟨ys, hys⟩ : ∃ q, (X j).s = q := ⟨_, rfl⟩
        rw [hys] at q2
        have HYS : Hid (sf j = wrap64 ((IntKind.u64.wrap ys).tmod 16)) := Lib.hid (by rw [HSF.out, ← hys])
        clear hys
        have CST := Lib.hid (step_at 1 (1 + j) (wrap64 ((IntKind.u64.wrap ys).tmod 16)) false [120] ⟨#[120]⟩ wr (by decide) rfl (by decide) (by decide) (by omega))
        unfold StepAt at CST
        rw [show (stN 1 (1 + j) (wrap64 ((IntKind.u64.wrap ys).tmod 16)) false [120]).data.length = 1 from rfl, show ((1 : Nat) : Int) = 1 from rfl, show ((1 + j : Nat) : Int) = 1 + (j : Int) by omega] at CST
        go_wp2_with fail
        with_reducible refine CST.out.mono ?_
        rintro x w2 ⟨cN, rfl, hN, hb⟩
        have HB2 := Lib.hid hb
        have HNB : Hid (Bys w2 (some ⟨wr.heap.size + 1, 0, none⟩) 1 [120] ∧ 1 ≤ cN ∧ cN ≤ maxLen) := Lib.hid ⟨hN.d, hN.dc, hN.dm⟩
        clear hN hb q2 CST d1 d2
        have RW2 := Lib.hid ((HM.out.row.belowT HB2.out).alloc (.cells #[.int .i64 7, .int .u32 1, .int .u32 0, .int .u64 0, .int .u64 0, .int .u32 (1 + (j : Int)), .int .i64 (wrap64 ((IntKind.u64.wrap ys).tmod 16)), .bool false, .int .i64 0, .slice none 0 0, .slice (some ⟨wr.heap.size + 1, 0, none⟩) 1 cN] 29))
        have HSZ : Hid (w.heap.size ≤ (w2.alloc (.cells #[.int .i64 7, .int .u32 1, .int .u32 0, .int .u64 0, .int .u64 0, .int .u32 (1 + (j : Int)), .int .i64 (wrap64 ((IntKind.u64.wrap ys).tmod 16)), .bool false, .int .i64 0, .slice none 0 0, .slice (some ⟨wr.heap.size + 1, 0, none⟩) 1 cN] 29)).heap.size) := Lib.hid (Nat.le_trans (Nat.le_trans HM.out.b.size HB2.out.size) (by simp))
        have LY : Hid (Lies (w2.alloc (.cells #[.int .i64 7, .int .u32 1, .int .u32 0, .int .u64 0, .int .u64 0, .int .u32 (1 + (j : Int)), .int .i64 (wrap64 ((IntKind.u64.wrap ys).tmod 16)), .bool false, .int .i64 0, .slice none 0 0, .slice (some ⟨wr.heap.size + 1, 0, none⟩) 1 cN] 29)) w2.heap.size 29 (nc ⟨1 + j, wrap64 ((IntKind.u64.wrap ys).tmod 16), some ⟨wr.heap.size + 1, 0, none⟩, cN⟩)) := Lib.hid (by
          have e : nc ⟨1 + j, wrap64 ((IntKind.u64.wrap ys).tmod 16), some ⟨wr.heap.size + 1, 0, none⟩, cN⟩ = #[.int .i64 7, .int .u32 1, .int .u32 0, .int .u64 0, .int .u64 0, .int .u32 (1 + (j : Int)), .int .i64 (wrap64 ((IntKind.u64.wrap ys).tmod 16)), .bool false, .int .i64 0, .slice none 0 0, .slice (some ⟨wr.heap.size + 1, 0, none⟩) 1 cN] := by
            show (#[.int .i64 7, .int .u32 ((1 : Nat) : Int), .int .u32 0, .int .u64 0, .int .u64 0, .int .u32 ((1 + j : Nat) : Int), .int .i64 (wrap64 ((IntKind.u64.wrap ys).tmod 16)), .bool false, .int .i64 0, .slice none 0 0, .slice (some ⟨wr.heap.size + 1, 0, none⟩) 1 cN] : Array Value) = _
            rw [show ((1 + j : Nat) : Int) = 1 + (j : Int) by omega]
            rfl
          rw [e]
          exact Lies.made w2 29 #[.int .i64 7, .int .u32 1, .int .u32 0, .int .u64 0, .int .u64 0, .int .u32 (1 + (j : Int)), .int .i64 (wrap64 ((IntKind.u64.wrap ys).tmod 16)), .bool false, .int .i64 0, .slice none 0 0, .slice (some ⟨wr.heap.size + 1, 0, none⟩) 1 cN])
        skip
        go_wp2_with (first
          | ((show wpList Try.prog _ _ (⟨some 44, .call { callee := .builtin .append, args := #[.tmp 30, .tmp 43], argTypes := #[74, 74] }, _, _, _, none⟩ :: _) _ _); (refine wpl_appendN (some 44) _ _ _ (.tmp 30) (.tmp 43) w.heap.size (.slice A j c) j Z w2.heap.size ⟨1 + j, wrap64 ((IntKind.u64.wrap ys).tmod 16), some ⟨wr.heap.size + 1, 0, none⟩, cN⟩ ?hs ?hx RW2.out ?hl ?hm HSZ.out ?_); (case hs => rfl); (case hx => rfl); (case hl => exact LY.out); (case hm => omega); (intro v' w4 ho hg hv); (have HO4 := Lib.hid ho); (have HG4 := Lib.hid hg); (have HV4 := Lib.hid hv); (clear ho hg hv)))
        obtain ⟨A', c', hv', -⟩ := HO4.out.slice
        subst hv'
        have NM4 := Lib.hid (NM.snoc (y := ⟨1 + j, wrap64 ((IntKind.u64.wrap ys).tmod 16), some ⟨wr.heap.size + 1, 0, none⟩, cN⟩) HM.out HB2.out (below1 w2 (.cells #[.int .i64 7, .int .u32 1, .int .u32 0, .int .u64 0, .int .u64 0, .int .u32 (1 + (j : Int)), .int .i64 (wrap64 ((IntKind.u64.wrap ys).tmod 16)), .bool false, .int .i64 0, .slice none 0 0, .slice (some ⟨wr.heap.size + 1, 0, none⟩) 1 cN] 29)) ⟨rfl, HYS.out.symm⟩ rfl HNB.out.1 HNB.out.2 HO4.out HG4.out HV4.out)
        go_roundw
        case rel => exact ⟨j + 1, A', c', _, by omega, by omega, by go_num, rfl, NM4.out⟩
        case measure => simp [intOf]; omega
      · have d1 : decide ((j : Int) < (n0 : Int)) = true := by rw [decide_eq_true_iff]; omega
        have d1b : decide (j < n0) = true := decide_eq_true hlt
        have d2 : decide ((j : Int) < 12) = false := by rw [decide_eq_false_iff_not]; omega
        have d2b : decide (j < 12) = false := decide_eq_false h12
        clear hlt
        have hn0 : 0 < j := by omega
        · have e1 : decide ((0 : Int) < (j : Int)) = true := by rw [decide_eq_true_iff]; omega
          have e2 : decide (0 < j) = true := decide_eq_true hn0
          obtain ⟨k, hk, hkn⟩ := swap_lt sw j hn0 hj2
          have HK := Lib.hid hk
          clear hk
          have LF2 : Hid (Lies ((wr.alloc (.cells #[.int .u32 0, .slice none 0 0] 25)).alloc (.cells #[.int .u32 0, .slice none 0 0] 25)) wr.heap.size 25 #[.int .u32 0, .slice none 0 0]) := Lib.hid ((Lies.made wr 25 #[.int .u32 0, .slice none 0 0]).alloc _)
          have LG2 : Hid (Lies ((wr.alloc (.cells #[.int .u32 0, .slice none 0 0] 25)).alloc (.cells #[.int .u32 0, .slice none 0 0] 25)) (wr.heap.size + 1) 25 #[.int .u32 0, .slice none 0 0]) := Lib.hid (Lies.made2 wr (.cells #[.int .u32 0, .slice none 0 0] 25) 25 #[.int .u32 0, .slice none 0 0])
          have B2 := Lib.hid (below2 wr (.cells #[.int .u32 0, .slice none 0 0] 25) (.cells #[.int .u32 0, .slice none 0 0] 25))
          go_wp2_with fail
          rw [HK.out]
          clear e1 e2
          obtain ⟨x2, hx2⟩ : ∃ z, z = ((wr.alloc (.cells #[.int .u32 0, .slice none 0 0] 25)).alloc (.cells #[.int .u32 0, .slice none 0 0] 25)) := ⟨_, rfl⟩
          rw [← hx2]
          rw [← hx2] at LF2 LG2 B2
          clear hx2
          obtain ⟨gf, hgf⟩ : ∃ g, g = wr.heap.size := ⟨_, rfl⟩
          rw [← hgf]
          rw [← hgf] at LF2 LG2
          have HGF0 := Lib.hid hgf
          clear hgf
          obtain ⟨x1, hx1⟩ : ∃ z, z = wr := ⟨_, rfl⟩
          rw [← hx1] at HM B2 HGF0
          clear hx1
          obtain ⟨b, off, hAb, -⟩ : ∃ b off, A = some ⟨b, off, none⟩ ∧ True := by
            obtain ⟨A', c', hv, -, -, -, hat⟩ := HM.out.row.slice
            injection hv with z1 z2 z3
            obtain ⟨b, off, h1, -⟩ := hat hn0
            exact ⟨b, off, z1.trans h1, trivial⟩
          subst hAb
          have HRB : Hid (b < x1.heap.size) := Lib.hid (HM.out.row.blockLt b rfl)
          have hj100 : j ≤ 100 := by omega
          go_loopw [11] (OrB x1 sf j k gf (gf + 1)) (fun i _ => j - (intOf i).toNat)
          case atStart => exact ⟨0, 0, none, 0, fun _ => ⟨kz, .slice none 0 0, .slice none 0 0⟩, none, 0, fun _ => ⟨kz, .slice none 0 0, .slice none 0 0⟩, by omega, rfl, by omega, LF2.out, LG2.out, NF.nil _ _ _, (fun q hq => by omega), NF.nil _ _ _, (fun q hq => by omega), B2.out⟩
          case round =>
            clear LF2 LG2 B2
            obtain ⟨i, ep, Af, cf, Yf, Ag, cg, Yg, hi, rfl, hep, hlf, hlg, hnf, hyf, hng, hyg, hq⟩ := hrel
            have LF := Lib.hid hlf
            have LG := Lib.hid hlg
            have NFf := Lib.hid hnf
            have HYf := Lib.hid hyf
            have NFg := Lib.hid hng
            have HYg := Lib.hid hyg
            have Q := Lib.hid hq
            have HEP := Lib.hid hep
            clear hlf hlg hnf hyf hng hyg hq hep
            have HFf : Hid (FV wr Af i cf (kO sf)) := Lib.hid (by obtain ⟨A', c', hv, hf⟩ := NFf.out.fv HYf.out; injection hv with z1 z2 z3; subst z1 z3; exact hf)
            have HFg : Hid (FV wr Ag i cg (fun q => kO sf (gi j k i q))) := Lib.hid (by obtain ⟨A', c', hv, hf⟩ := NFg.out.fv (T := fun q => kO sf (gi j k i q)) HYg.out; injection hv with z1 z2 z3; subst z1 z3; exact hf)
            by_cases hij : i < j
            · have hii : (i : Int) < (j : Int) := by omega
              obtain ⟨t1, ht1, HE1⟩ := (HM.out.below Q.out).ent HSB.out hj100 i hij
              have hmk : (i + k) % j < j := Nat.mod_lt _ hn0
              obtain ⟨m, hm⟩ : ∃ m, (i + k) % j = m := ⟨_, rfl⟩
              rw [hm] at hmk
              have HMM := Lib.hid hm
              have HR1 := Lib.hid (fun W (hb : Below x1.heap.size x1 W) => (HM.out.below hb).row.at i hij)
              have HR2 := Lib.hid (fun W (hb : Below x1.heap.size x1 W) => (HM.out.below hb).row.at m hmk)
              have HEa := Lib.hid (fun W (hb : Below x1.heap.size x1 W) => (HM.out.below hb).ent HSB.out hj100 i hij)
              have HEb := Lib.hid (fun W (hb : Below x1.heap.size x1 W) => (HM.out.below hb).ent HSB.out hj100 m hmk)
              have o1 := HM.out.o i hij
              have o2 := HM.out.o m hmk
              obtain ⟨t2, ht2, -⟩ := HEb.out wr Q.out
              obtain ⟨oi, hoi⟩ : ∃ q, 1 + i = q := ⟨_, rfl⟩
              obtain ⟨om, hom⟩ : ∃ q, 1 + m = q := ⟨_, rfl⟩
              have HOI := Lib.hid hoi
              have HOM := Lib.hid hom
              rw [o1.1, o1.2, ht1, hoi] at HR1
              rw [o2.1, o2.2, ht2, hom] at HR2
              obtain ⟨zc1, hzc1⟩ : ∃ q, (Z i).c = q := ⟨_, rfl⟩
              obtain ⟨zc2, hzc2⟩ : ∃ q, (Z m).c = q := ⟨_, rfl⟩
              rw [hzc1] at HR1
              rw [hzc2] at HR2
              have HN1 : Hid (∀ W, Below x1.heap.size x1 W → EntV W (stN 1 (1 + i) (sf i) false [120]) none (some ⟨t1, 0, none⟩) 0 zc1) := Lib.hid (fun W hb => by obtain ⟨b', h1, h2⟩ := HEa.out W hb; rw [ht1] at h1; injection h1 with h1; rw [← h1, hzc1] at h2; exact h2)
              have HN2 : Hid (∀ W, Below x1.heap.size x1 W → EntV W (stN 1 (1 + m) (sf m) false [120]) none (some ⟨t2, 0, none⟩) 0 zc2) := Lib.hid (fun W hb => by obtain ⟨b', h1, h2⟩ := HEb.out W hb; rw [ht2] at h1; injection h1 with h1; rw [← h1, hzc2] at h2; exact h2)
              clear HE1 HEa HEb o1 o2 ht1 ht2 hzc1 hzc2 hm hoi hom
              obtain ⟨si, hsi⟩ : ∃ q, sf i = q := ⟨_, rfl⟩
              obtain ⟨sm, hsm⟩ : ∃ q, sf m = q := ⟨_, rfl⟩
              rw [hsi] at HR1
              have HSI := Lib.hid hsi
              have HSMm := Lib.hid hsm
              rw [hsm] at HR2
              have D15 := Lib.hid (fun W (hb : Below wr.heap.size wr W) => keepo_lit (s := sf) (φ := fun q => q) (q := i) (p := i) HSB.out (fun a b h _ => h) (Nat.le_refl i) (fun q hq => hq) (fun q h1 h2 => by omega) ep HEP.out (by omega) (fun q => q) id_ins Af cf (some ⟨t1, 0, none⟩) zc1 W (HFf.out.below hb) (HN1.out W (Q.out.trans (hb.mono Q.out.size))) oi si HOI.out HSI.out)
              have D16 := Lib.hid (fun x4 (Qx : Below x1.heap.size x1 x4) (HFx : FV x4 Ag i cg (fun q => kO sf (gi j k i q))) W (hb : Below x4.heap.size x4 W) => keepo_lit (s := sf) (φ := gi j k i) (q := (i + k) % j) (p := gp j k i) HSB.out (gi_mono hkn (by omega)) (by unfold gp; split <;> omega) (gi_lo hkn hij) (gi_hi hkn hij) ep HEP.out (by omega) (gi j k (i + 1)) (gi_ins hkn hij) Ag cg (some ⟨t2, 0, none⟩) zc2 W (HFx.below hb) (by rw [HMM.out]; exact HN2.out W (Qx.trans (hb.mono Qx.size))) om sm (by rw [HMM.out]; exact HOM.out) (by rw [HMM.out]; exact HSMm.out))
              clear hsi hsm
              go_wp2_with fail
              have HGG : Hid (gf + 1 < wr.heap.size) := Lib.hid LG.out.lt
              have Z := Lib.hid (Below.refl wr.heap.size wr)
              obtain ⟨u0, u1⟩ := LF.out.cells2
              obtain ⟨v0, v1, v2, v3, v4, v5, v6, v7, v8, v9, v10⟩ := HR1.out wr Q.out
              have hz1 : wr.heap.size ≠ gf := by have := Q.out.size; have := HGF0.out; have := LF.out.lt; have := HGG.out; omega
              have hz2 : wr.heap.size ≠ gf + 1 := by have := HGG.out; omega
              have hz3 : wr.heap.size ≠ b := by have := Q.out.size; have := HRB.out; omega
              go_cut [12, 13] from 57 to 91 (fun s12 s13 W => s13 = .int .i64 0 ∧ ∃ g A6 c6 Y6, s12 = .pointer (some ⟨g, 0, none⟩) ∧ Lies W g 25 #[.int .u32 1, .slice A6 (i + 1) c6] ∧ NF W 0 (.slice A6 (i + 1) c6) (i + 1) Y6 ∧ (∀ q, q < i + 1 → (Y6 q).k = kO sf q) ∧ wr.heap.size ≤ g ∧ Below wr.heap.size wr W)
              case first =>
                as_aux_lemma =>
                  go_region_held3 (fun W => W.cell? ⟨gf, 0, none⟩ = some (.int .u32 (ep : Int)) ∧ W.cell? ⟨gf, 1, none⟩ = some (.slice Af i cf) ∧ W.cell? ⟨b, off + i * 11, none⟩ = some (.int .i64 7) ∧ W.cell? ⟨b, off + i * 11 + 1, none⟩ = some (.int .u32 1) ∧ W.cell? ⟨b, off + i * 11 + 2, none⟩ = some (.int .u32 0) ∧ W.cell? ⟨b, off + i * 11 + 3, none⟩ = some (.int .u64 0) ∧ W.cell? ⟨b, off + i * 11 + 4, none⟩ = some (.int .u64 0) ∧ W.cell? ⟨b, off + i * 11 + 5, none⟩ = some (.int .u32 (oi : Int)) ∧ W.cell? ⟨b, off + i * 11 + 6, none⟩ = some (.int .i64 si) ∧ W.cell? ⟨b, off + i * 11 + 7, none⟩ = some (.bool false) ∧ W.cell? ⟨b, off + i * 11 + 8, none⟩ = some (.int .i64 0) ∧ W.cell? ⟨b, off + i * 11 + 9, none⟩ = some (.slice none 0 0) ∧ W.cell? ⟨b, off + i * 11 + 10, none⟩ = some (.slice (some ⟨t1, 0, none⟩) 1 zc1)) (first | (with_reducible exact ⟨u0, u1, v0, v1, v2, v3, v4, v5, v6, v7, v8, v9, v10⟩) | go_keep)
                    (first
                    | (go_at_call 26; (with_reducible refine (D15.out wr.drew Z.out.drew).mono ?_); (rintro x wb ⟨A6, c6, Y6, rfl, hnf, hyk, hb⟩); (have Z := Lib.hid (Z.out.drew.trans (hb.mono Z.out.size))); (clear u0 u1 v0 v1 v2 v3 v4 v5 v6 v7 v8 v9 v10); (obtain ⟨u0, u1⟩ := (Lies.below LF.out Z.out (Lies.lt LF.out)).cells2); (obtain ⟨v0, v1, v2, v3, v4, v5, v6, v7, v8, v9, v10⟩ := HR1.out _ (Q.out.trans (Z.out.mono Q.out.size))); (have hy1 : wb.heap.size ≠ gf := fun e => by have := Z.out.size; have := HGG.out; omega); (have hy2 : wb.heap.size ≠ gf + 1 := fun e => by have := Z.out.size; have := HGG.out; omega); (have hy3 : wb.heap.size ≠ b := fun e => by have := Z.out.size; have := Q.out.size; have := HRB.out; omega); (have NF6 := Lib.hid (hnf.mono (Nat.zero_le _))); (have HY6 := Lib.hid hyk); (clear hnf hyk hb))
                    | (go_at_call 26; (with_reducible refine (D15.out (wr.alloc (.cells #[.int .u32 0, .slice none 0 0] 25)).drew (Z.out.alloc Z.out.size (.cells #[.int .u32 0, .slice none 0 0] 25)).drew).mono ?_); (rintro x wb ⟨A6, c6, Y6, rfl, hnf, hyk, hb⟩); (have LZ2 := Lib.hid (Lies.below (Lies.drew (Lies.made wr 25 #[.int .u32 0, .slice none 0 0])) hb (Lies.lt (Lies.made wr 25 #[.int .u32 0, .slice none 0 0])))); (have GZ := Lib.hid (Nat.le_refl wr.heap.size)); (obtain ⟨zq0, zq1⟩ := LZ2.out.cells2); (obtain ⟨zf0, zf1⟩ := LZ2.out.free2); (have Z := Lib.hid ((Z.out.alloc Z.out.size (.cells #[.int .u32 0, .slice none 0 0] 25)).drew.trans (hb.mono (Z.out.alloc Z.out.size (.cells #[.int .u32 0, .slice none 0 0] 25)).size))); (clear u0 u1 v0 v1 v2 v3 v4 v5 v6 v7 v8 v9 v10); (obtain ⟨u0, u1⟩ := (Lies.below LF.out Z.out (Lies.lt LF.out)).cells2); (obtain ⟨v0, v1, v2, v3, v4, v5, v6, v7, v8, v9, v10⟩ := HR1.out _ (Q.out.trans (Z.out.mono Q.out.size))); (have hy1 : wb.heap.size ≠ gf := fun e => by have := Z.out.size; have := HGG.out; omega); (have hy2 : wb.heap.size ≠ gf + 1 := fun e => by have := Z.out.size; have := HGG.out; omega); (have hy3 : wb.heap.size ≠ b := fun e => by have := Z.out.size; have := Q.out.size; have := HRB.out; omega); (have NF6 := Lib.hid (hnf.mono (Nat.zero_le _))); (have HY6 := Lib.hid hyk); (clear hnf hyk hb)))
                  all_goals
                    go_wp2_with fail
                    go_meet
                    first
                    | (with_reducible exact ⟨rfl, _, _, _, Y6, rfl, (Lies.put2 LZ2.out _ _), (NF.put2 NF6.out LZ2.out _ _), HY6.out, GZ.out, (below_put2 Z.out GZ.out _ _)⟩)
                    | (with_reducible exact ⟨rfl, _, _, _, Y6, rfl, (Lies.made wb 25 #[.int .u32 1, .slice A6 (i + 1) c6]), (NF.below NF6.out (below1 _ _)), HY6.out, Z.out.size, (Z.out.alloc Z.out.size (.cells #[.int .u32 1, .slice A6 (i + 1) c6] 25))⟩)
              case rest =>
                obtain ⟨rfl, gx, A6, c6, Y6, rfl, hL5, hN5, hY5, hgx, hBy⟩ := hcut
                generalize wc = x4 at *
                have LX4 := Lib.hid hL5
                have NX4 := Lib.hid hN5
                have HYX := Lib.hid hY5
                have HGX := Lib.hid hgx
                have Q4 := Lib.hid (Q.out.trans (hBy.mono Q.out.size))
                have LF4 := Lib.hid (LF.out.below hBy LF.out.lt)
                have LG4 := Lib.hid (LG.out.below hBy LG.out.lt)
                have HFg4 := Lib.hid (HFg.out.below hBy)
                have HSW4 := Lib.hid hBy.size
                clear hL5 hN5 hY5 hgx hBy D15 u0 u1 v0 v1 v2 v3 v4 v5 v6 v7 v8 v9 v10 hz1 hz2 hz3 Z
                have D16x := Lib.hid (D16.out x4 Q4.out HFg4.out)
                clear D16
                obtain ⟨ik, hik⟩ : ∃ q, i + k = q := ⟨_, rfl⟩
                have wa : IntKind.i64.wrap ((i : Int) + (k : Int)) = (ik : Int) := by rw [wrap64_small' _ (by omega) (by omega)]; omega
                have wa2 : wrap64 ((i : Int) + (k : Int)) = (ik : Int) := by unfold wrap64; omega
                have wm : ((ik : Int)).tmod (j : Int) = (m : Int) := by rw [Int.tmod_eq_emod_of_nonneg (Int.natCast_nonneg _), ← HMM.out, hik]; rfl
                have wm2 : IntKind.i64.wrap (m : Int) = (m : Int) := wrap64_small' _ (by omega) (by omega)
                have wjn : ¬ (j : Int) = 0 := by omega
                have wjn2 : ¬ j = 0 := by omega
                have wj : ((j : Int) == 0) = false := by rw [beq_eq_false_iff_ne]; omega
                have hmj : (m : Int) < (j : Int) := by omega
                go_wp2_with fail
                clear HGG
                have HGG : Hid (gf + 1 < x4.heap.size) := Lib.hid LG4.out.lt
                have Z := Lib.hid (Below.refl x4.heap.size x4)
                obtain ⟨u0, u1⟩ := LG4.out.cells2
                obtain ⟨v0, v1, v2, v3, v4, v5, v6, v7, v8, v9, v10⟩ := HR2.out x4 Q4.out
                have hz1 : x4.heap.size ≠ gf := by have := Q4.out.size; have := HGF0.out; have := LG4.out.lt; have := HGG.out; omega
                have hz2 : x4.heap.size ≠ gf + 1 := by have := HGG.out; omega
                have hz3 : x4.heap.size ≠ b := by have := Q4.out.size; have := HRB.out; omega
                go_cut [14, 15] from 57 to 91 (fun s12 s13 W => s13 = .int .i64 0 ∧ ∃ g A6 c6 Y6, s12 = .pointer (some ⟨g, 0, none⟩) ∧ Lies W g 25 #[.int .u32 1, .slice A6 (i + 1) c6] ∧ NF W 0 (.slice A6 (i + 1) c6) (i + 1) Y6 ∧ (∀ q, q < i + 1 → (Y6 q).k = kO sf (gi j k (i + 1) q)) ∧ x4.heap.size ≤ g ∧ Below x4.heap.size x4 W)
                case first =>
                  as_aux_lemma =>
                    go_region_held3 (fun W => W.cell? ⟨(gf + 1), 0, none⟩ = some (.int .u32 (ep : Int)) ∧ W.cell? ⟨(gf + 1), 1, none⟩ = some (.slice Ag i cg) ∧ W.cell? ⟨b, off + m * 11, none⟩ = some (.int .i64 7) ∧ W.cell? ⟨b, off + m * 11 + 1, none⟩ = some (.int .u32 1) ∧ W.cell? ⟨b, off + m * 11 + 2, none⟩ = some (.int .u32 0) ∧ W.cell? ⟨b, off + m * 11 + 3, none⟩ = some (.int .u64 0) ∧ W.cell? ⟨b, off + m * 11 + 4, none⟩ = some (.int .u64 0) ∧ W.cell? ⟨b, off + m * 11 + 5, none⟩ = some (.int .u32 (om : Int)) ∧ W.cell? ⟨b, off + m * 11 + 6, none⟩ = some (.int .i64 sm) ∧ W.cell? ⟨b, off + m * 11 + 7, none⟩ = some (.bool false) ∧ W.cell? ⟨b, off + m * 11 + 8, none⟩ = some (.int .i64 0) ∧ W.cell? ⟨b, off + m * 11 + 9, none⟩ = some (.slice none 0 0) ∧ W.cell? ⟨b, off + m * 11 + 10, none⟩ = some (.slice (some ⟨t2, 0, none⟩) 1 zc2)) (first | (with_reducible exact ⟨u0, u1, v0, v1, v2, v3, v4, v5, v6, v7, v8, v9, v10⟩) | go_keep)
                      (first
                      | (go_at_call 26; (with_reducible refine (D16x.out x4.drew Z.out.drew).mono ?_); (rintro x wb ⟨A6, c6, Y6, rfl, hnf, hyk, hb⟩); (have Z := Lib.hid (Z.out.drew.trans (hb.mono Z.out.size))); (clear u0 u1 v0 v1 v2 v3 v4 v5 v6 v7 v8 v9 v10); (obtain ⟨u0, u1⟩ := (Lies.below LG4.out Z.out (Lies.lt LG4.out)).cells2); (obtain ⟨v0, v1, v2, v3, v4, v5, v6, v7, v8, v9, v10⟩ := HR2.out _ (Q4.out.trans (Z.out.mono Q4.out.size))); (have hy1 : wb.heap.size ≠ gf := fun e => by have := Z.out.size; have := HGG.out; omega); (have hy2 : wb.heap.size ≠ gf + 1 := fun e => by have := Z.out.size; have := HGG.out; omega); (have hy3 : wb.heap.size ≠ b := fun e => by have := Z.out.size; have := Q4.out.size; have := HRB.out; omega); (have NF6 := Lib.hid (hnf.mono (Nat.zero_le _))); (have HY6 := Lib.hid hyk); (clear hnf hyk hb))
                      | (go_at_call 26; (with_reducible refine (D16x.out (x4.alloc (.cells #[.int .u32 0, .slice none 0 0] 25)).drew (Z.out.alloc Z.out.size (.cells #[.int .u32 0, .slice none 0 0] 25)).drew).mono ?_); (rintro x wb ⟨A6, c6, Y6, rfl, hnf, hyk, hb⟩); (have LZ2 := Lib.hid (Lies.below (Lies.drew (Lies.made x4 25 #[.int .u32 0, .slice none 0 0])) hb (Lies.lt (Lies.made x4 25 #[.int .u32 0, .slice none 0 0])))); (have GZ := Lib.hid (Nat.le_refl x4.heap.size)); (obtain ⟨zq0, zq1⟩ := LZ2.out.cells2); (obtain ⟨zf0, zf1⟩ := LZ2.out.free2); (have Z := Lib.hid ((Z.out.alloc Z.out.size (.cells #[.int .u32 0, .slice none 0 0] 25)).drew.trans (hb.mono (Z.out.alloc Z.out.size (.cells #[.int .u32 0, .slice none 0 0] 25)).size))); (clear u0 u1 v0 v1 v2 v3 v4 v5 v6 v7 v8 v9 v10); (obtain ⟨u0, u1⟩ := (Lies.below LG4.out Z.out (Lies.lt LG4.out)).cells2); (obtain ⟨v0, v1, v2, v3, v4, v5, v6, v7, v8, v9, v10⟩ := HR2.out _ (Q4.out.trans (Z.out.mono Q4.out.size))); (have hy1 : wb.heap.size ≠ gf := fun e => by have := Z.out.size; have := HGG.out; omega); (have hy2 : wb.heap.size ≠ gf + 1 := fun e => by have := Z.out.size; have := HGG.out; omega); (have hy3 : wb.heap.size ≠ b := fun e => by have := Z.out.size; have := Q4.out.size; have := HRB.out; omega); (have NF6 := Lib.hid (hnf.mono (Nat.zero_le _))); (have HY6 := Lib.hid hyk); (clear hnf hyk hb)))
                    all_goals
                      go_wp2_with fail
                      go_meet
                      first
                      | (with_reducible exact ⟨rfl, _, _, _, Y6, rfl, (Lies.put2 LZ2.out _ _), (NF.put2 NF6.out LZ2.out _ _), HY6.out, GZ.out, (below_put2 Z.out GZ.out _ _)⟩)
                      | (with_reducible exact ⟨rfl, _, _, _, Y6, rfl, (Lies.made wb 25 #[.int .u32 1, .slice A6 (i + 1) c6]), (NF.below NF6.out (below1 _ _)), HY6.out, Z.out.size, (Z.out.alloc Z.out.size (.cells #[.int .u32 1, .slice A6 (i + 1) c6] 25))⟩)
                case rest =>
                  obtain ⟨rfl, gy, A7, c7, Y7, rfl, hL5, hN5, hY5, hgy, hBy⟩ := hcut
                  generalize wc = x5 at *
                  have LY5 := Lib.hid hL5
                  have NY5 := Lib.hid hN5
                  have HYY := Lib.hid hY5
                  have Q5 := Lib.hid (Q4.out.trans (hBy.mono Q4.out.size))
                  have LF5 := Lib.hid (LF4.out.below hBy LF4.out.lt)
                  have LG5 := Lib.hid (LG4.out.below hBy LG4.out.lt)
                  have LX5 := Lib.hid (LX4.out.below hBy LX4.out.lt)
                  have NX5 := Lib.hid (NX4.out.below hBy)
                  have hgy1 : gy ≠ gf := by have := HGG.out; omega
                  have hgy2 : gy ≠ gf + 1 := by have := HGG.out; omega
                  have hgx1 : gx ≠ gf := by have := HGX.out; have := LG.out.lt; omega
                  have hgx2 : gx ≠ gf + 1 := by have := HGX.out; have := LG.out.lt; omega
                  clear hL5 hN5 hY5 hgy hBy D16x wa wa2 wm wm2 wj wjn wjn2 u0 u1 v0 v1 v2 v3 v4 v5 v6 v7 v8 v9 v10 hz1 hz2 hz3 Z
                  have LY6 : Hid (Lies ((x5.setCell ⟨gf, 0, none⟩ (.int .u32 1)).setCell ⟨gf, 1, none⟩ (.slice A6 (i + 1) c6)) gy 25 #[.int .u32 1, .slice A7 (i + 1) c7]) := Lib.hid ((LY5.out.other (a := ⟨gf, 0, none⟩) hgy1 _).other (a := ⟨gf, 1, none⟩) hgy1 _)
                  have LG6 : Hid (Lies ((x5.setCell ⟨gf, 0, none⟩ (.int .u32 1)).setCell ⟨gf, 1, none⟩ (.slice A6 (i + 1) c6)) (gf + 1) 25 #[.int .u32 (ep : Int), .slice Ag i cg]) := Lib.hid ((LG5.out.other (a := ⟨gf, 0, none⟩) (Nat.succ_ne_self gf) _).other (a := ⟨gf, 1, none⟩) (Nat.succ_ne_self gf) _)
                  obtain ⟨a1, a2⟩ := LX5.out.cells2
                  obtain ⟨a3, a4⟩ := LF5.out.cells2
                  obtain ⟨a5, a6⟩ := LF5.out.free2
                  obtain ⟨a7, a8⟩ := LY6.out.cells2
                  obtain ⟨b1, b2⟩ := LG6.out.cells2
                  obtain ⟨b3, b4⟩ := LG6.out.free2
                  go_wp2
                  go_roundw
                  case rel => exact ⟨i + 1, 1, A6, c6, Y6, A7, c7, Y7, by omega, by go_num, by omega, ((LF5.out.put2 _ _).other (a := ⟨gf + 1, 0, none⟩) (Nat.ne_of_lt (Nat.lt_succ_self gf)) _).other (a := ⟨gf + 1, 1, none⟩) (Nat.ne_of_lt (Nat.lt_succ_self gf)) _, LG6.out.put2 _ _, (NX5.out.put2 LF5.out _ _).put2 LG6.out _ _, HYX.out, (NY5.out.put2 LF5.out _ _).put2 LG6.out _ _, HYY.out, below_put2 (below_put2 Q5.out (Nat.le_of_eq HGF0.out.symm) _ _) (by have := HGF0.out; omega) _ _⟩
                  case measure => simp [intOf]; omega
            · have d3 : decide ((i : Int) < (j : Int)) = false := by rw [decide_eq_false_iff_not]; omega
              have d4 : decide (i < j) = false := by rw [decide_eq_false_iff_not]; omega
              have hie : i = j := by omega
              rw [hie] at LF LG HFf HFg
              have FVf := HFf
              have FVg : Hid (FV wr Ag j cg (kO sf)) := Lib.hid (HFg.out.congr (fun q hq => by rw [gi_end hkn q hq]))
              have LFx := LF
              have LGx := LG
              have HEX : Hid (ep < 4294967296) := Lib.hid (by have := HEP.out; omega)
              have BBx := Lib.hid (HM.out.b.trans (Q.out.mono HM.out.b.size))
              have HCK : Hid (chkC j (kO sf) = 0) := Lib.hid (by unfold chkC; rw [if_pos ((okB_iff _ _).2 (ordT_ok (φ := fun q => q) HSB.out (fun a b h _ => h) (by omega)))])
              have CP1 := Lib.hid (fun W (hb : Below wr.heap.size wr W) => put_any ep Af j cf (kO sf) W (FVf.out.below hb) HEX.out)
              have CP2 := Lib.hid (fun W (hb : Below wr.heap.size wr W) => put_any ep Ag j cg (kO sf) W (FVg.out.below hb) HEX.out)
              unfold PutPost at CP1 CP2
              rw [HCK.out] at CP1 CP2
              generalize (if okB j (kO sf) = true then putS ep j (kO sf) else []) = L at *
              obtain ⟨f0, f1⟩ := LFx.out.cells2
              obtain ⟨h0, h1⟩ := LGx.out.cells2
              go_wp2_with fail
              with_reducible refine (CP1.out _ (Below.refl _ _)).mono ?_
              rintro x u1 ⟨v1, rfl, ho, hb⟩
              obtain ⟨P1, p1, rfl, hb1, -⟩ := ho.slice
              have O1 := Lib.hid ho
              have Q1 := Lib.hid hb
              have LG1 := Lib.hid (LGx.out.below hb LGx.out.lt)
              clear ho hb hb1 f0 f1 h0 h1
              obtain ⟨h0, h1⟩ := LG1.out.cells2
              go_wp2_with fail
              with_reducible refine (CP2.out _ Q1.out).mono ?_
              rintro x u2 ⟨v2, rfl, ho, hb⟩
              obtain ⟨P2, p2, rfl, hb1, -⟩ := ho.slice
              have O2 := Lib.hid ho
              have O1b := Lib.hid (O1.out.belowOwn hb)
              have Q2 := Lib.hid (Q1.out.trans (hb.mono Q1.out.size))
              clear ho hb hb1 h0 h1
              have r1 := run_str O1b.out.bys.1 p1
              have r2 := run_str O2.out.bys.1 p2
              generalize str L = SS at *
              generalize L.length = LL at *
              go_wp2_with fail
              with_reducible refine (CKN.out _).mono ?_
              rintro x u3 ⟨rfl, hb⟩
              have BE := Lib.hid (BBx.out.trans ((Q2.out.trans (hb.mono Q2.out.size)).mono BBx.out.size))
              clear hb
              go_wp2
              go_ret
              exact ⟨rfl, BE.out⟩
    · have d1 : decide ((j : Int) < (n0 : Int)) = false := by rw [decide_eq_false_iff_not]; omega
      have d1b : decide (j < n0) = false := decide_eq_false hlt
      clear hlt
      by_cases hn0 : 0 < j
      · have e1 : decide ((0 : Int) < (j : Int)) = true := by rw [decide_eq_true_iff]; omega
        have e2 : decide (0 < j) = true := decide_eq_true hn0
        obtain ⟨k, hk, hkn⟩ := swap_lt sw j hn0 hj2
        have HK := Lib.hid hk
        clear hk
        have LF2 : Hid (Lies ((wr.alloc (.cells #[.int .u32 0, .slice none 0 0] 25)).alloc (.cells #[.int .u32 0, .slice none 0 0] 25)) wr.heap.size 25 #[.int .u32 0, .slice none 0 0]) := Lib.hid ((Lies.made wr 25 #[.int .u32 0, .slice none 0 0]).alloc _)
        have LG2 : Hid (Lies ((wr.alloc (.cells #[.int .u32 0, .slice none 0 0] 25)).alloc (.cells #[.int .u32 0, .slice none 0 0] 25)) (wr.heap.size + 1) 25 #[.int .u32 0, .slice none 0 0]) := Lib.hid (Lies.made2 wr (.cells #[.int .u32 0, .slice none 0 0] 25) 25 #[.int .u32 0, .slice none 0 0])
        have B2 := Lib.hid (below2 wr (.cells #[.int .u32 0, .slice none 0 0] 25) (.cells #[.int .u32 0, .slice none 0 0] 25))
        go_wp2_with fail
        rw [HK.out]
        clear e1 e2
        obtain ⟨x2, hx2⟩ : ∃ z, z = ((wr.alloc (.cells #[.int .u32 0, .slice none 0 0] 25)).alloc (.cells #[.int .u32 0, .slice none 0 0] 25)) := ⟨_, rfl⟩
        rw [← hx2]
        rw [← hx2] at LF2 LG2 B2
        clear hx2
        obtain ⟨gf, hgf⟩ : ∃ g, g = wr.heap.size := ⟨_, rfl⟩
        rw [← hgf]
        rw [← hgf] at LF2 LG2
        have HGF0 := Lib.hid hgf
        clear hgf
        obtain ⟨x1, hx1⟩ : ∃ z, z = wr := ⟨_, rfl⟩
        rw [← hx1] at HM B2 HGF0
        clear hx1
        obtain ⟨b, off, hAb, -⟩ : ∃ b off, A = some ⟨b, off, none⟩ ∧ True := by
          obtain ⟨A', c', hv, -, -, -, hat⟩ := HM.out.row.slice
          injection hv with z1 z2 z3
          obtain ⟨b, off, h1, -⟩ := hat hn0
          exact ⟨b, off, z1.trans h1, trivial⟩
        subst hAb
        have HRB : Hid (b < x1.heap.size) := Lib.hid (HM.out.row.blockLt b rfl)
        have hj100 : j ≤ 100 := by omega
        go_loopw [11] (OrB x1 sf j k gf (gf + 1)) (fun i _ => j - (intOf i).toNat)
        case atStart => exact ⟨0, 0, none, 0, fun _ => ⟨kz, .slice none 0 0, .slice none 0 0⟩, none, 0, fun _ => ⟨kz, .slice none 0 0, .slice none 0 0⟩, by omega, rfl, by omega, LF2.out, LG2.out, NF.nil _ _ _, (fun q hq => by omega), NF.nil _ _ _, (fun q hq => by omega), B2.out⟩
        case round =>
          clear LF2 LG2 B2
          obtain ⟨i, ep, Af, cf, Yf, Ag, cg, Yg, hi, rfl, hep, hlf, hlg, hnf, hyf, hng, hyg, hq⟩ := hrel
          have LF := Lib.hid hlf
          have LG := Lib.hid hlg
          have NFf := Lib.hid hnf
          have HYf := Lib.hid hyf
          have NFg := Lib.hid hng
          have HYg := Lib.hid hyg
          have Q := Lib.hid hq
          have HEP := Lib.hid hep
          clear hlf hlg hnf hyf hng hyg hq hep
          have HFf : Hid (FV wr Af i cf (kO sf)) := Lib.hid (by obtain ⟨A', c', hv, hf⟩ := NFf.out.fv HYf.out; injection hv with z1 z2 z3; subst z1 z3; exact hf)
          have HFg : Hid (FV wr Ag i cg (fun q => kO sf (gi j k i q))) := Lib.hid (by obtain ⟨A', c', hv, hf⟩ := NFg.out.fv (T := fun q => kO sf (gi j k i q)) HYg.out; injection hv with z1 z2 z3; subst z1 z3; exact hf)
          by_cases hij : i < j
          · have hii : (i : Int) < (j : Int) := by omega
            obtain ⟨t1, ht1, HE1⟩ := (HM.out.below Q.out).ent HSB.out hj100 i hij
            have hmk : (i + k) % j < j := Nat.mod_lt _ hn0
            obtain ⟨m, hm⟩ : ∃ m, (i + k) % j = m := ⟨_, rfl⟩
            rw [hm] at hmk
            have HMM := Lib.hid hm
            have HR1 := Lib.hid (fun W (hb : Below x1.heap.size x1 W) => (HM.out.below hb).row.at i hij)
            have HR2 := Lib.hid (fun W (hb : Below x1.heap.size x1 W) => (HM.out.below hb).row.at m hmk)
            have HEa := Lib.hid (fun W (hb : Below x1.heap.size x1 W) => (HM.out.below hb).ent HSB.out hj100 i hij)
            have HEb := Lib.hid (fun W (hb : Below x1.heap.size x1 W) => (HM.out.below hb).ent HSB.out hj100 m hmk)
            have o1 := HM.out.o i hij
            have o2 := HM.out.o m hmk
            obtain ⟨t2, ht2, -⟩ := HEb.out wr Q.out
            obtain ⟨oi, hoi⟩ : ∃ q, 1 + i = q := ⟨_, rfl⟩
            obtain ⟨om, hom⟩ : ∃ q, 1 + m = q := ⟨_, rfl⟩
            have HOI := Lib.hid hoi
            have HOM := Lib.hid hom
            rw [o1.1, o1.2, ht1, hoi] at HR1
            rw [o2.1, o2.2, ht2, hom] at HR2
            obtain ⟨zc1, hzc1⟩ : ∃ q, (Z i).c = q := ⟨_, rfl⟩
            obtain ⟨zc2, hzc2⟩ : ∃ q, (Z m).c = q := ⟨_, rfl⟩
            rw [hzc1] at HR1
            rw [hzc2] at HR2
            have HN1 : Hid (∀ W, Below x1.heap.size x1 W → EntV W (stN 1 (1 + i) (sf i) false [120]) none (some ⟨t1, 0, none⟩) 0 zc1) := Lib.hid (fun W hb => by obtain ⟨b', h1, h2⟩ := HEa.out W hb; rw [ht1] at h1; injection h1 with h1; rw [← h1, hzc1] at h2; exact h2)
            have HN2 : Hid (∀ W, Below x1.heap.size x1 W → EntV W (stN 1 (1 + m) (sf m) false [120]) none (some ⟨t2, 0, none⟩) 0 zc2) := Lib.hid (fun W hb => by obtain ⟨b', h1, h2⟩ := HEb.out W hb; rw [ht2] at h1; injection h1 with h1; rw [← h1, hzc2] at h2; exact h2)
            clear HE1 HEa HEb o1 o2 ht1 ht2 hzc1 hzc2 hm hoi hom
            obtain ⟨si, hsi⟩ : ∃ q, sf i = q := ⟨_, rfl⟩
            obtain ⟨sm, hsm⟩ : ∃ q, sf m = q := ⟨_, rfl⟩
            rw [hsi] at HR1
            have HSI := Lib.hid hsi
            have HSMm := Lib.hid hsm
            rw [hsm] at HR2
            have D15 := Lib.hid (fun W (hb : Below wr.heap.size wr W) => keepo_lit (s := sf) (φ := fun q => q) (q := i) (p := i) HSB.out (fun a b h _ => h) (Nat.le_refl i) (fun q hq => hq) (fun q h1 h2 => by omega) ep HEP.out (by omega) (fun q => q) id_ins Af cf (some ⟨t1, 0, none⟩) zc1 W (HFf.out.below hb) (HN1.out W (Q.out.trans (hb.mono Q.out.size))) oi si HOI.out HSI.out)
            have D16 := Lib.hid (fun x4 (Qx : Below x1.heap.size x1 x4) (HFx : FV x4 Ag i cg (fun q => kO sf (gi j k i q))) W (hb : Below x4.heap.size x4 W) => keepo_lit (s := sf) (φ := gi j k i) (q := (i + k) % j) (p := gp j k i) HSB.out (gi_mono hkn (by omega)) (by unfold gp; split <;> omega) (gi_lo hkn hij) (gi_hi hkn hij) ep HEP.out (by omega) (gi j k (i + 1)) (gi_ins hkn hij) Ag cg (some ⟨t2, 0, none⟩) zc2 W (HFx.below hb) (by rw [HMM.out]; exact HN2.out W (Qx.trans (hb.mono Qx.size))) om sm (by rw [HMM.out]; exact HOM.out) (by rw [HMM.out]; exact HSMm.out))
            clear hsi hsm
            go_wp2_with fail
            have HGG : Hid (gf + 1 < wr.heap.size) := Lib.hid LG.out.lt
            have Z := Lib.hid (Below.refl wr.heap.size wr)
            obtain ⟨u0, u1⟩ := LF.out.cells2
            obtain ⟨v0, v1, v2, v3, v4, v5, v6, v7, v8, v9, v10⟩ := HR1.out wr Q.out
            have hz1 : wr.heap.size ≠ gf := by have := Q.out.size; have := HGF0.out; have := LF.out.lt; have := HGG.out; omega
            have hz2 : wr.heap.size ≠ gf + 1 := by have := HGG.out; omega
            have hz3 : wr.heap.size ≠ b := by have := Q.out.size; have := HRB.out; omega
            go_cut [12, 13] from 57 to 91 (fun s12 s13 W => s13 = .int .i64 0 ∧ ∃ g A6 c6 Y6, s12 = .pointer (some ⟨g, 0, none⟩) ∧ Lies W g 25 #[.int .u32 1, .slice A6 (i + 1) c6] ∧ NF W 0 (.slice A6 (i + 1) c6) (i + 1) Y6 ∧ (∀ q, q < i + 1 → (Y6 q).k = kO sf q) ∧ wr.heap.size ≤ g ∧ Below wr.heap.size wr W)
            case first =>
              as_aux_lemma =>
                go_region_held3 (fun W => W.cell? ⟨gf, 0, none⟩ = some (.int .u32 (ep : Int)) ∧ W.cell? ⟨gf, 1, none⟩ = some (.slice Af i cf) ∧ W.cell? ⟨b, off + i * 11, none⟩ = some (.int .i64 7) ∧ W.cell? ⟨b, off + i * 11 + 1, none⟩ = some (.int .u32 1) ∧ W.cell? ⟨b, off + i * 11 + 2, none⟩ = some (.int .u32 0) ∧ W.cell? ⟨b, off + i * 11 + 3, none⟩ = some (.int .u64 0) ∧ W.cell? ⟨b, off + i * 11 + 4, none⟩ = some (.int .u64 0) ∧ W.cell? ⟨b, off + i * 11 + 5, none⟩ = some (.int .u32 (oi : Int)) ∧ W.cell? ⟨b, off + i * 11 + 6, none⟩ = some (.int .i64 si) ∧ W.cell? ⟨b, off + i * 11 + 7, none⟩ = some (.bool false) ∧ W.cell? ⟨b, off + i * 11 + 8, none⟩ = some (.int .i64 0) ∧ W.cell? ⟨b, off + i * 11 + 9, none⟩ = some (.slice none 0 0) ∧ W.cell? ⟨b, off + i * 11 + 10, none⟩ = some (.slice (some ⟨t1, 0, none⟩) 1 zc1)) (first | (with_reducible exact ⟨u0, u1, v0, v1, v2, v3, v4, v5, v6, v7, v8, v9, v10⟩) | go_keep)
                  (first
                  | (go_at_call 26; (with_reducible refine (D15.out wr.drew Z.out.drew).mono ?_); (rintro x wb ⟨A6, c6, Y6, rfl, hnf, hyk, hb⟩); (have Z := Lib.hid (Z.out.drew.trans (hb.mono Z.out.size))); (clear u0 u1 v0 v1 v2 v3 v4 v5 v6 v7 v8 v9 v10); (obtain ⟨u0, u1⟩ := (Lies.below LF.out Z.out (Lies.lt LF.out)).cells2); (obtain ⟨v0, v1, v2, v3, v4, v5, v6, v7, v8, v9, v10⟩ := HR1.out _ (Q.out.trans (Z.out.mono Q.out.size))); (have hy1 : wb.heap.size ≠ gf := fun e => by have := Z.out.size; have := HGG.out; omega); (have hy2 : wb.heap.size ≠ gf + 1 := fun e => by have := Z.out.size; have := HGG.out; omega); (have hy3 : wb.heap.size ≠ b := fun e => by have := Z.out.size; have := Q.out.size; have := HRB.out; omega); (have NF6 := Lib.hid (hnf.mono (Nat.zero_le _))); (have HY6 := Lib.hid hyk); (clear hnf hyk hb))
                  | (go_at_call 26; (with_reducible refine (D15.out (wr.alloc (.cells #[.int .u32 0, .slice none 0 0] 25)).drew (Z.out.alloc Z.out.size (.cells #[.int .u32 0, .slice none 0 0] 25)).drew).mono ?_); (rintro x wb ⟨A6, c6, Y6, rfl, hnf, hyk, hb⟩); (have LZ2 := Lib.hid (Lies.below (Lies.drew (Lies.made wr 25 #[.int .u32 0, .slice none 0 0])) hb (Lies.lt (Lies.made wr 25 #[.int .u32 0, .slice none 0 0])))); (have GZ := Lib.hid (Nat.le_refl wr.heap.size)); (obtain ⟨zq0, zq1⟩ := LZ2.out.cells2); (obtain ⟨zf0, zf1⟩ := LZ2.out.free2); (have Z := Lib.hid ((Z.out.alloc Z.out.size (.cells #[.int .u32 0, .slice none 0 0] 25)).drew.trans (hb.mono (Z.out.alloc Z.out.size (.cells #[.int .u32 0, .slice none 0 0] 25)).size))); (clear u0 u1 v0 v1 v2 v3 v4 v5 v6 v7 v8 v9 v10); (obtain ⟨u0, u1⟩ := (Lies.below LF.out Z.out (Lies.lt LF.out)).cells2); (obtain ⟨v0, v1, v2, v3, v4, v5, v6, v7, v8, v9, v10⟩ := HR1.out _ (Q.out.trans (Z.out.mono Q.out.size))); (have hy1 : wb.heap.size ≠ gf := fun e => by have := Z.out.size; have := HGG.out; omega); (have hy2 : wb.heap.size ≠ gf + 1 := fun e => by have := Z.out.size; have := HGG.out; omega); (have hy3 : wb.heap.size ≠ b := fun e => by have := Z.out.size; have := Q.out.size; have := HRB.out; omega); (have NF6 := Lib.hid (hnf.mono (Nat.zero_le _))); (have HY6 := Lib.hid hyk); (clear hnf hyk hb)))
                all_goals
                  go_wp2_with fail
                  go_meet
                  first
                  | (with_reducible exact ⟨rfl, _, _, _, Y6, rfl, (Lies.put2 LZ2.out _ _), (NF.put2 NF6.out LZ2.out _ _), HY6.out, GZ.out, (below_put2 Z.out GZ.out _ _)⟩)
                  | (with_reducible exact ⟨rfl, _, _, _, Y6, rfl, (Lies.made wb 25 #[.int .u32 1, .slice A6 (i + 1) c6]), (NF.below NF6.out (below1 _ _)), HY6.out, Z.out.size, (Z.out.alloc Z.out.size (.cells #[.int .u32 1, .slice A6 (i + 1) c6] 25))⟩)
            case rest =>
              obtain ⟨rfl, gx, A6, c6, Y6, rfl, hL5, hN5, hY5, hgx, hBy⟩ := hcut
              generalize wc = x4 at *
              have LX4 := Lib.hid hL5
              have NX4 := Lib.hid hN5
              have HYX := Lib.hid hY5
              have HGX := Lib.hid hgx
              have Q4 := Lib.hid (Q.out.trans (hBy.mono Q.out.size))
              have LF4 := Lib.hid (LF.out.below hBy LF.out.lt)
              have LG4 := Lib.hid (LG.out.below hBy LG.out.lt)
              have HFg4 := Lib.hid (HFg.out.below hBy)
              have HSW4 := Lib.hid hBy.size
              clear hL5 hN5 hY5 hgx hBy D15 u0 u1 v0 v1 v2 v3 v4 v5 v6 v7 v8 v9 v10 hz1 hz2 hz3 Z
              have D16x := Lib.hid (D16.out x4 Q4.out HFg4.out)
              clear D16
              obtain ⟨ik, hik⟩ : ∃ q, i + k = q := ⟨_, rfl⟩
              have wa : IntKind.i64.wrap ((i : Int) + (k : Int)) = (ik : Int) := by rw [wrap64_small' _ (by omega) (by omega)]; omega
              have wa2 : wrap64 ((i : Int) + (k : Int)) = (ik : Int) := by unfold wrap64; omega
              have wm : ((ik : Int)).tmod (j : Int) = (m : Int) := by rw [Int.tmod_eq_emod_of_nonneg (Int.natCast_nonneg _), ← HMM.out, hik]; rfl
              have wm2 : IntKind.i64.wrap (m : Int) = (m : Int) := wrap64_small' _ (by omega) (by omega)
              have wjn : ¬ (j : Int) = 0 := by omega
              have wjn2 : ¬ j = 0 := by omega
              have wj : ((j : Int) == 0) = false := by rw [beq_eq_false_iff_ne]; omega
              have hmj : (m : Int) < (j : Int) := by omega
              go_wp2_with fail
              clear HGG
              have HGG : Hid (gf + 1 < x4.heap.size) := Lib.hid LG4.out.lt
              have Z := Lib.hid (Below.refl x4.heap.size x4)
              obtain ⟨u0, u1⟩ := LG4.out.cells2
              obtain ⟨v0, v1, v2, v3, v4, v5, v6, v7, v8, v9, v10⟩ := HR2.out x4 Q4.out
              have hz1 : x4.heap.size ≠ gf := by have := Q4.out.size; have := HGF0.out; have := LG4.out.lt; have := HGG.out; omega
              have hz2 : x4.heap.size ≠ gf + 1 := by have := HGG.out; omega
              have hz3 : x4.heap.size ≠ b := by have := Q4.out.size; have := HRB.out; omega
              go_cut [14, 15] from 57 to 91 (fun s12 s13 W => s13 = .int .i64 0 ∧ ∃ g A6 c6 Y6, s12 = .pointer (some ⟨g, 0, none⟩) ∧ Lies W g 25 #[.int .u32 1, .slice A6 (i + 1) c6] ∧ NF W 0 (.slice A6 (i + 1) c6) (i + 1) Y6 ∧ (∀ q, q < i + 1 → (Y6 q).k = kO sf (gi j k (i + 1) q)) ∧ x4.heap.size ≤ g ∧ Below x4.heap.size x4 W)
              case first =>
                as_aux_lemma =>
                  go_region_held3 (fun W => W.cell? ⟨(gf + 1), 0, none⟩ = some (.int .u32 (ep : Int)) ∧ W.cell? ⟨(gf + 1), 1, none⟩ = some (.slice Ag i cg) ∧ W.cell? ⟨b, off + m * 11, none⟩ = some (.int .i64 7) ∧ W.cell? ⟨b, off + m * 11 + 1, none⟩ = some (.int .u32 1) ∧ W.cell? ⟨b, off + m * 11 + 2, none⟩ = some (.int .u32 0) ∧ W.cell? ⟨b, off + m * 11 + 3, none⟩ = some (.int .u64 0) ∧ W.cell? ⟨b, off + m * 11 + 4, none⟩ = some (.int .u64 0) ∧ W.cell? ⟨b, off + m * 11 + 5, none⟩ = some (.int .u32 (om : Int)) ∧ W.cell? ⟨b, off + m * 11 + 6, none⟩ = some (.int .i64 sm) ∧ W.cell? ⟨b, off + m * 11 + 7, none⟩ = some (.bool false) ∧ W.cell? ⟨b, off + m * 11 + 8, none⟩ = some (.int .i64 0) ∧ W.cell? ⟨b, off + m * 11 + 9, none⟩ = some (.slice none 0 0) ∧ W.cell? ⟨b, off + m * 11 + 10, none⟩ = some (.slice (some ⟨t2, 0, none⟩) 1 zc2)) (first | (with_reducible exact ⟨u0, u1, v0, v1, v2, v3, v4, v5, v6, v7, v8, v9, v10⟩) | go_keep)
                    (first
                    | (go_at_call 26; (with_reducible refine (D16x.out x4.drew Z.out.drew).mono ?_); (rintro x wb ⟨A6, c6, Y6, rfl, hnf, hyk, hb⟩); (have Z := Lib.hid (Z.out.drew.trans (hb.mono Z.out.size))); (clear u0 u1 v0 v1 v2 v3 v4 v5 v6 v7 v8 v9 v10); (obtain ⟨u0, u1⟩ := (Lies.below LG4.out Z.out (Lies.lt LG4.out)).cells2); (obtain ⟨v0, v1, v2, v3, v4, v5, v6, v7, v8, v9, v10⟩ := HR2.out _ (Q4.out.trans (Z.out.mono Q4.out.size))); (have hy1 : wb.heap.size ≠ gf := fun e => by have := Z.out.size; have := HGG.out; omega); (have hy2 : wb.heap.size ≠ gf + 1 := fun e => by have := Z.out.size; have := HGG.out; omega); (have hy3 : wb.heap.size ≠ b := fun e => by have := Z.out.size; have := Q4.out.size; have := HRB.out; omega); (have NF6 := Lib.hid (hnf.mono (Nat.zero_le _))); (have HY6 := Lib.hid hyk); (clear hnf hyk hb))
                    | (go_at_call 26; (with_reducible refine (D16x.out (x4.alloc (.cells #[.int .u32 0, .slice none 0 0] 25)).drew (Z.out.alloc Z.out.size (.cells #[.int .u32 0, .slice none 0 0] 25)).drew).mono ?_); (rintro x wb ⟨A6, c6, Y6, rfl, hnf, hyk, hb⟩); (have LZ2 := Lib.hid (Lies.below (Lies.drew (Lies.made x4 25 #[.int .u32 0, .slice none 0 0])) hb (Lies.lt (Lies.made x4 25 #[.int .u32 0, .slice none 0 0])))); (have GZ := Lib.hid (Nat.le_refl x4.heap.size)); (obtain ⟨zq0, zq1⟩ := LZ2.out.cells2); (obtain ⟨zf0, zf1⟩ := LZ2.out.free2); (have Z := Lib.hid ((Z.out.alloc Z.out.size (.cells #[.int .u32 0, .slice none 0 0] 25)).drew.trans (hb.mono (Z.out.alloc Z.out.size (.cells #[.int .u32 0, .slice none 0 0] 25)).size))); (clear u0 u1 v0 v1 v2 v3 v4 v5 v6 v7 v8 v9 v10); (obtain ⟨u0, u1⟩ := (Lies.below LG4.out Z.out (Lies.lt LG4.out)).cells2); (obtain ⟨v0, v1, v2, v3, v4, v5, v6, v7, v8, v9, v10⟩ := HR2.out _ (Q4.out.trans (Z.out.mono Q4.out.size))); (have hy1 : wb.heap.size ≠ gf := fun e => by have := Z.out.size; have := HGG.out; omega); (have hy2 : wb.heap.size ≠ gf + 1 := fun e => by have := Z.out.size; have := HGG.out; omega); (have hy3 : wb.heap.size ≠ b := fun e => by have := Z.out.size; have := Q4.out.size; have := HRB.out; omega); (have NF6 := Lib.hid (hnf.mono (Nat.zero_le _))); (have HY6 := Lib.hid hyk); (clear hnf hyk hb)))
                  all_goals
                    go_wp2_with fail
                    go_meet
                    first
                    | (with_reducible exact ⟨rfl, _, _, _, Y6, rfl, (Lies.put2 LZ2.out _ _), (NF.put2 NF6.out LZ2.out _ _), HY6.out, GZ.out, (below_put2 Z.out GZ.out _ _)⟩)
                    | (with_reducible exact ⟨rfl, _, _, _, Y6, rfl, (Lies.made wb 25 #[.int .u32 1, .slice A6 (i + 1) c6]), (NF.below NF6.out (below1 _ _)), HY6.out, Z.out.size, (Z.out.alloc Z.out.size (.cells #[.int .u32 1, .slice A6 (i + 1) c6] 25))⟩)
              case rest =>
                obtain ⟨rfl, gy, A7, c7, Y7, rfl, hL5, hN5, hY5, hgy, hBy⟩ := hcut
                generalize wc = x5 at *
                have LY5 := Lib.hid hL5
                have NY5 := Lib.hid hN5
                have HYY := Lib.hid hY5
                have Q5 := Lib.hid (Q4.out.trans (hBy.mono Q4.out.size))
                have LF5 := Lib.hid (LF4.out.below hBy LF4.out.lt)
                have LG5 := Lib.hid (LG4.out.below hBy LG4.out.lt)
                have LX5 := Lib.hid (LX4.out.below hBy LX4.out.lt)
                have NX5 := Lib.hid (NX4.out.below hBy)
                have hgy1 : gy ≠ gf := by have := HGG.out; omega
                have hgy2 : gy ≠ gf + 1 := by have := HGG.out; omega
                have hgx1 : gx ≠ gf := by have := HGX.out; have := LG.out.lt; omega
                have hgx2 : gx ≠ gf + 1 := by have := HGX.out; have := LG.out.lt; omega
                clear hL5 hN5 hY5 hgy hBy D16x wa wa2 wm wm2 wj wjn wjn2 u0 u1 v0 v1 v2 v3 v4 v5 v6 v7 v8 v9 v10 hz1 hz2 hz3 Z
                have LY6 : Hid (Lies ((x5.setCell ⟨gf, 0, none⟩ (.int .u32 1)).setCell ⟨gf, 1, none⟩ (.slice A6 (i + 1) c6)) gy 25 #[.int .u32 1, .slice A7 (i + 1) c7]) := Lib.hid ((LY5.out.other (a := ⟨gf, 0, none⟩) hgy1 _).other (a := ⟨gf, 1, none⟩) hgy1 _)
                have LG6 : Hid (Lies ((x5.setCell ⟨gf, 0, none⟩ (.int .u32 1)).setCell ⟨gf, 1, none⟩ (.slice A6 (i + 1) c6)) (gf + 1) 25 #[.int .u32 (ep : Int), .slice Ag i cg]) := Lib.hid ((LG5.out.other (a := ⟨gf, 0, none⟩) (Nat.succ_ne_self gf) _).other (a := ⟨gf, 1, none⟩) (Nat.succ_ne_self gf) _)
                obtain ⟨a1, a2⟩ := LX5.out.cells2
                obtain ⟨a3, a4⟩ := LF5.out.cells2
                obtain ⟨a5, a6⟩ := LF5.out.free2
                obtain ⟨a7, a8⟩ := LY6.out.cells2
                obtain ⟨b1, b2⟩ := LG6.out.cells2
                obtain ⟨b3, b4⟩ := LG6.out.free2
                go_wp2
                go_roundw
                case rel => exact ⟨i + 1, 1, A6, c6, Y6, A7, c7, Y7, by omega, by go_num, by omega, ((LF5.out.put2 _ _).other (a := ⟨gf + 1, 0, none⟩) (Nat.ne_of_lt (Nat.lt_succ_self gf)) _).other (a := ⟨gf + 1, 1, none⟩) (Nat.ne_of_lt (Nat.lt_succ_self gf)) _, LG6.out.put2 _ _, (NX5.out.put2 LF5.out _ _).put2 LG6.out _ _, HYX.out, (NY5.out.put2 LF5.out _ _).put2 LG6.out _ _, HYY.out, below_put2 (below_put2 Q5.out (Nat.le_of_eq HGF0.out.symm) _ _) (by have := HGF0.out; omega) _ _⟩
                case measure => simp [intOf]; omega
          · have d3 : decide ((i : Int) < (j : Int)) = false := by rw [decide_eq_false_iff_not]; omega
            have d4 : decide (i < j) = false := by rw [decide_eq_false_iff_not]; omega
            have hie : i = j := by omega
            rw [hie] at LF LG HFf HFg
            have FVf := HFf
            have FVg : Hid (FV wr Ag j cg (kO sf)) := Lib.hid (HFg.out.congr (fun q hq => by rw [gi_end hkn q hq]))
            have LFx := LF
            have LGx := LG
            have HEX : Hid (ep < 4294967296) := Lib.hid (by have := HEP.out; omega)
            have BBx := Lib.hid (HM.out.b.trans (Q.out.mono HM.out.b.size))
            have HCK : Hid (chkC j (kO sf) = 0) := Lib.hid (by unfold chkC; rw [if_pos ((okB_iff _ _).2 (ordT_ok (φ := fun q => q) HSB.out (fun a b h _ => h) (by omega)))])
            have CP1 := Lib.hid (fun W (hb : Below wr.heap.size wr W) => put_any ep Af j cf (kO sf) W (FVf.out.below hb) HEX.out)
            have CP2 := Lib.hid (fun W (hb : Below wr.heap.size wr W) => put_any ep Ag j cg (kO sf) W (FVg.out.below hb) HEX.out)
            unfold PutPost at CP1 CP2
            rw [HCK.out] at CP1 CP2
            generalize (if okB j (kO sf) = true then putS ep j (kO sf) else []) = L at *
            obtain ⟨f0, f1⟩ := LFx.out.cells2
            obtain ⟨h0, h1⟩ := LGx.out.cells2
            go_wp2_with fail
            with_reducible refine (CP1.out _ (Below.refl _ _)).mono ?_
            rintro x u1 ⟨v1, rfl, ho, hb⟩
            obtain ⟨P1, p1, rfl, hb1, -⟩ := ho.slice
            have O1 := Lib.hid ho
            have Q1 := Lib.hid hb
            have LG1 := Lib.hid (LGx.out.below hb LGx.out.lt)
            clear ho hb hb1 f0 f1 h0 h1
            obtain ⟨h0, h1⟩ := LG1.out.cells2
            go_wp2_with fail
            with_reducible refine (CP2.out _ Q1.out).mono ?_
            rintro x u2 ⟨v2, rfl, ho, hb⟩
            obtain ⟨P2, p2, rfl, hb1, -⟩ := ho.slice
            have O2 := Lib.hid ho
            have O1b := Lib.hid (O1.out.belowOwn hb)
            have Q2 := Lib.hid (Q1.out.trans (hb.mono Q1.out.size))
            clear ho hb hb1 h0 h1
            have r1 := run_str O1b.out.bys.1 p1
            have r2 := run_str O2.out.bys.1 p2
            generalize str L = SS at *
            generalize L.length = LL at *
            go_wp2_with fail
            with_reducible refine (CKN.out _).mono ?_
            rintro x u3 ⟨rfl, hb⟩
            have BE := Lib.hid (BBx.out.trans ((Q2.out.trans (hb.mono Q2.out.size)).mono BBx.out.size))
            clear hb
            go_wp2
            go_ret
            exact ⟨rfl, BE.out⟩
      · have e1 : decide ((0 : Int) < (j : Int)) = false := by rw [decide_eq_false_iff_not]; omega
        have e2 : decide (0 < j) = false := decide_eq_false hn0
        have LF2 : Hid (Lies ((wr.alloc (.cells #[.int .u32 0, .slice none 0 0] 25)).alloc (.cells #[.int .u32 0, .slice none 0 0] 25)) wr.heap.size 25 #[.int .u32 0, .slice none 0 0]) := Lib.hid ((Lies.made wr 25 #[.int .u32 0, .slice none 0 0]).alloc _)
        have LG2 : Hid (Lies ((wr.alloc (.cells #[.int .u32 0, .slice none 0 0] 25)).alloc (.cells #[.int .u32 0, .slice none 0 0] 25)) (wr.heap.size + 1) 25 #[.int .u32 0, .slice none 0 0]) := Lib.hid (Lies.made2 wr (.cells #[.int .u32 0, .slice none 0 0] 25) 25 #[.int .u32 0, .slice none 0 0])
        have B2 := Lib.hid (below2 wr (.cells #[.int .u32 0, .slice none 0 0] 25) (.cells #[.int .u32 0, .slice none 0 0] 25))
        go_wp2_with fail
        obtain ⟨x2, hx2⟩ : ∃ z, z = ((wr.alloc (.cells #[.int .u32 0, .slice none 0 0] 25)).alloc (.cells #[.int .u32 0, .slice none 0 0] 25)) := ⟨_, rfl⟩
        rw [← hx2]
        rw [← hx2] at LF2 LG2 B2
        clear hx2
        go_loopw [11] (fun i wz => i = .int .i64 0 ∧ wz = x2) (fun _ _ => 0)
        case atStart => exact ⟨rfl, rfl⟩
        case round =>
          obtain ⟨rfl, hwz⟩ := hrel
          rw [hwz]
          clear hwz
          have hj0 : j = 0 := by omega
          have d3 : decide ((0 : Int) < (j : Int)) = false := e1
          have BBx := Lib.hid (HM.out.b.trans (B2.out.mono HM.out.b.size))
          have FVf : Hid (FV x2 none 0 0 (kO sf)) := Lib.hid (FV.nil _ _)
          have FVg := FVf
          have LFx := LF2
          have LGx := LG2
          have HEX : Hid (0 < 4294967296) := Lib.hid (by decide)
          have HCK : Hid (chkC 0 (kO sf) = 0) := Lib.hid (by rfl)
          have CP1 := Lib.hid (fun W (hb : Below x2.heap.size x2 W) => put_any 0 none 0 0 (kO sf) W (FVf.out.below hb) HEX.out)
          have CP2 := Lib.hid (fun W (hb : Below x2.heap.size x2 W) => put_any 0 none 0 0 (kO sf) W (FVg.out.below hb) HEX.out)
          unfold PutPost at CP1 CP2
          rw [HCK.out] at CP1 CP2
          rw [show ((0 : Nat) : Int) = 0 from rfl] at CP1 CP2
          generalize (if okB 0 (kO sf) = true then putS 0 0 (kO sf) else []) = L at *
          obtain ⟨f0, f1⟩ := LFx.out.cells2
          obtain ⟨h0, h1⟩ := LGx.out.cells2
          go_wp2_with fail
          with_reducible refine (CP1.out _ (Below.refl _ _)).mono ?_
          rintro x u1 ⟨v1, rfl, ho, hb⟩
          obtain ⟨P1, p1, rfl, hb1, -⟩ := ho.slice
          have O1 := Lib.hid ho
          have Q1 := Lib.hid hb
          have LG1 := Lib.hid (LGx.out.below hb LGx.out.lt)
          clear ho hb hb1 f0 f1 h0 h1
          obtain ⟨h0, h1⟩ := LG1.out.cells2
          go_wp2_with fail
          with_reducible refine (CP2.out _ Q1.out).mono ?_
          rintro x u2 ⟨v2, rfl, ho, hb⟩
          obtain ⟨P2, p2, rfl, hb1, -⟩ := ho.slice
          have O2 := Lib.hid ho
          have O1b := Lib.hid (O1.out.belowOwn hb)
          have Q2 := Lib.hid (Q1.out.trans (hb.mono Q1.out.size))
          clear ho hb hb1 h0 h1
          have r1 := run_str O1b.out.bys.1 p1
          have r2 := run_str O2.out.bys.1 p2
          generalize str L = SS at *
          generalize L.length = LL at *
          go_wp2_with fail
          with_reducible refine (CKN.out _).mono ?_
          rintro x u3 ⟨rfl, hb⟩
          have BE := Lib.hid (BBx.out.trans ((Q2.out.trans (hb.mono Q2.out.size)).mono BBx.out.size))
          clear hb
          go_wp2
          go_ret
          exact ⟨rfl, BE.out⟩

end Go.Proofs.Ytfcfejmammohpaa
