/-
  FenceFull, walked.
-/
import Derived.Test.YtfcfejmammohpaaFullP
import Derived.Test.YtfcfejmammohpaaSee
import Derived.Deep.RegionHeld3
import Derived.Deep.DeepCutAuto
import Derived.Deep.CutRange
namespace Go.Proofs.Ytfcfejmammohpaa
open Go.RowKit
set_option maxRecDepth 100000
set_option linter.unusedVariables false
set_option linter.unusedSimpArgs false

/-- j steps are kept. -/
def FuR (w : World) (g0 fi dt : Nat) (i : Value) (wr : World) : Prop :=
  ∃ (j ep : Nat) (A : Option Addr) (c : Nat) (X : Nat → Kx), j ≤ 200 ∧ i = .int .u32 (j : Int) ∧ ep ≤ 1 ∧ (j = 0 ∨ ep = 1) ∧ Lies wr g0 25 #[.int .u32 (ep : Int), .slice A j c] ∧ NF wr 0 (.slice A j c) j X ∧ (∀ i, i < j → (X i).k = fT fi dt i) ∧ Below w.heap.size w wr
set_option maxHeartbeats 16000000 in
theorem fenceFull_walk (od dt : Nat) (w : World) (hod : od < 4294967296) (hdt : dt < 256) (KN : ∀ W, Calls Try.prog 12 #[] W fun x w' => x = .returned (.bool true) ∧ Below W.heap.size W w') :
    Calls Try.prog 9 #[.int .u32 (od : Int), .int .u8 (dt : Int)] w fun x w' => x = .returned (.bool true) ∧ Below w.heap.size w w' := by
  have CKN := Lib.hid KN
  clear KN
  obtain ⟨fi, hfi⟩ : ∃ f : Nat, f = 1 + od % 1000000 := ⟨_, rfl⟩
  have e6 : (1 + (od : Int) % 1000000) = ((fi : Nat) : Int) := by omega
  have hf1 : 1 ≤ fi := by omega
  have hf2 : fi ≤ 1000000 := by omega
  have E6 := Lib.hid e6
  have HDT := Lib.hid hdt
  clear hfi e6
  have BYW : Hid (∀ W : World, Bys (W.alloc (.cells #[.int .u8 (dt : Int)] 5)) (some ⟨W.heap.size, 0, none⟩) 1 [dt]) := Lib.hid (fun W => Bys.const W _ [dt] (0, 0) 1 rfl rfl (fun c hc => by simp at hc; omega))
  have BYW2 : Hid (∀ W : World, Bys ((W.alloc (.cells #[.int .u32 0, .slice none 0 0] 25)).alloc (.cells #[.int .u8 (dt : Int)] 5)) (some ⟨W.heap.size + 1, 0, none⟩) 1 [dt]) := Lib.hid (fun W => by have h := BYW.out (W.alloc (.cells #[.int .u32 0, .slice none 0 0] 25)); rw [show (W.alloc (.cells #[.int .u32 0, .slice none 0 0] 25)).heap.size = W.heap.size + 1 by simp] at h; exact h)
  have LMW2 : Hid (∀ W : World, Lies ((W.alloc (.cells #[.int .u8 (dt : Int)] 5)).alloc (.cells #[.int .u32 0, .slice none 0 0] 25)) (W.heap.size + 1) 25 #[.int .u32 0, .slice none 0 0]) := Lib.hid (fun W => by have h := Lies.made (W.alloc (.cells #[.int .u8 (dt : Int)] 5)) 25 #[.int .u32 0, .slice none 0 0]; rw [show (W.alloc (.cells #[.int .u8 (dt : Int)] 5)).heap.size = W.heap.size + 1 by simp] at h; exact h)
  have L0 := Lib.hid (Lies.made w 25 #[.int .u32 0, .slice none 0 0])
  have BB := Lib.hid (below1 w (.cells #[.int .u32 0, .slice none 0 0] 25))
  go_enter Try.func9, Try.ntmps9
  go_wp2_with fail
  rw [E6.out]
  have HG0 := Lib.hid (Nat.le_refl w.heap.size)
  obtain ⟨g0, hg0⟩ : ∃ g, g = w.heap.size := ⟨_, rfl⟩
  have HG := Lib.hid hg0
  clear hg0
  rw [← HG.out]
  go_loopw [7] (FuR w g0 fi dt) (fun i _ => 200 - (intOf i).toNat)
  case atStart => exact ⟨0, 0, none, 0, fun _ => ⟨kz, .slice none 0 0, .slice none 0 0⟩, by omega, rfl, by omega, .inl rfl, by rw [HG.out]; exact L0.out, NF.nil _ _ _, (fun i hi => by omega), BB.out⟩
  case round =>
    obtain ⟨j, ep, A, c, X, hj, rfl, hep, hj1, hl, hnf, hx, hq⟩ := hrel
    have LF := Lib.hid hl
    have HNF := Lib.hid hnf
    have HX := Lib.hid hx
    have Q := Lib.hid hq
    have HEP := Lib.hid hep
    have HJ1 := Lib.hid hj1
    clear hl hnf hx hq hep hj1 L0 BB
    have HF : Hid (FV wr A j c (fT fi dt)) := Lib.hid (by obtain ⟨A', c', hv, hf⟩ := HNF.out.fv HX.out; injection hv with z1 z2 z3; subst z1 z3; exact hf)
    have HGl := Lib.hid LF.out.lt
    by_cases hlt : j < 200
    · have d0 : decide (j < 200) = true := decide_eq_true hlt
      have d1 : decide ((j : Int) < 200) = true := by rw [decide_eq_true_iff]; omega
      have S6 := Lib.hid (fun W => step_any 1 (fi + j) 0 false [120] ⟨#[120]⟩ W (by decide) rfl (by decide) (by decide) (by omega))
      unfold StepPost at S6
      rw [show (stN 1 (fi + j) 0 false [120]).data.length = 1 from rfl, show ((1 : Nat) : Int) = 1 from rfl, show ((fi + j : Nat) : Int) = IntKind.u32.wrap ((fi : Int) + (j : Int)) by rw [IntKind.wrap_u32]; omega] at S6
      have D6 := Lib.hid (fun W (hb : Below wr.heap.size wr W) Q q gB (hN : EntV W (stN 1 (fi + j) 0 false [120]) none Q 0 q) (hR : Bys W (some ⟨gB, 0, none⟩) 1 [dt]) => keepf_any ep fi dt j A c Q q (some ⟨gB, 0, none⟩) 1 W HEP.out hlt hf1 (HF.out.below hb) hN hR (Nat.le_refl 1) (by unfold maxLen; omega) (fun h => by cases h))
      go_wp2_with fail
      clear d0 d1
      have Z := Lib.hid (Below.refl wr.heap.size wr)
      obtain ⟨u0, u1⟩ := LF.out.cells2
      have hgF : wr.heap.size ≠ g0 := Nat.ne_of_gt LF.out.lt
      have hgF1 : wr.heap.size + 1 ≠ g0 := by have := LF.out.lt; omega
      have HGF := Lib.hid LF.out.lt
      go_cut [8, 9] from 22 to 48 (fun s8 s9 W => s9 = .int .i64 0 ∧ ∃ g A6 c6 X6, s8 = .pointer (some ⟨g, 0, none⟩) ∧ Lies W g 25 #[.int .u32 1, .slice A6 (j + 1) c6] ∧ NF W 0 (.slice A6 (j + 1) c6) (j + 1) X6 ∧ (∀ i, i < j + 1 → (X6 i).k = fT fi dt i) ∧ g0 < g ∧ Below wr.heap.size wr W)
      case first =>
        as_aux_lemma =>
          go_region_held3 (fun W => W.cell? ⟨g0, 0, none⟩ = some (.int .u32 (ep : Int)) ∧ W.cell? ⟨g0, 1, none⟩ = some (.slice A j c)) (first | (with_reducible exact ⟨u0, u1⟩) | go_keep)
            (first
            | (go_at_call 31; (with_reducible refine (S6.out wr.drew).mono ?_); (rintro x wa ⟨Q, q, rfl, hN, hb⟩); (have HNa := Lib.hid hN); (have Z := Lib.hid ((Z.out).drew.trans (hb.mono (Z.out).size))); (clear u0 u1); (obtain ⟨u0, u1⟩ := (Lies.below LF.out Z.out (Lies.lt LF.out)).cells2); (have hgA : wa.heap.size ≠ g0 := Nat.ne_of_gt (Nat.lt_of_lt_of_le HGF.out Z.out.size)); (have hgA1 : wa.heap.size + 1 ≠ g0 := Nat.ne_of_gt (Nat.lt_succ_of_lt (Nat.lt_of_lt_of_le HGF.out Z.out.size))); (clear hN hb))
            | (go_at_call 31; (with_reducible refine (S6.out (wr.alloc (.cells #[.int .u32 0, .slice none 0 0] 25)).drew).mono ?_); (rintro x wa ⟨Q, q, rfl, hN, hb⟩); (have HNa := Lib.hid hN); (have LZ1 := Lib.hid (Lies.below (Lies.drew (Lies.made wr 25 #[.int .u32 0, .slice none 0 0])) hb (Lies.lt (Lies.made wr 25 #[.int .u32 0, .slice none 0 0])))); (have GZ := Lib.hid (Nat.le_refl wr.heap.size)); (have Z := Lib.hid (((Z.out.alloc Z.out.size (.cells #[.int .u32 0, .slice none 0 0] 25))).drew.trans (hb.mono ((Z.out.alloc Z.out.size (.cells #[.int .u32 0, .slice none 0 0] 25))).size))); (clear u0 u1); (obtain ⟨u0, u1⟩ := (Lies.below LF.out Z.out (Lies.lt LF.out)).cells2); (have hgA : wa.heap.size ≠ g0 := Nat.ne_of_gt (Nat.lt_of_lt_of_le HGF.out Z.out.size)); (have hgA1 : wa.heap.size + 1 ≠ g0 := Nat.ne_of_gt (Nat.lt_succ_of_lt (Nat.lt_of_lt_of_le HGF.out Z.out.size))); (clear hN hb))
            | (go_at_call 31; (with_reducible refine (S6.out (wr.alloc (.cells #[.int .u8 (dt : Int)] 5)).drew).mono ?_); (rintro x wa ⟨Q, q, rfl, hN, hb⟩); (have HNa := Lib.hid hN); (have HB1 := Lib.hid (Bys.below (Bys.drew (BYW.out wr)) hb)); (have Z := Lib.hid (((Z.out.alloc Z.out.size (.cells #[.int .u8 (dt : Int)] 5))).drew.trans (hb.mono ((Z.out.alloc Z.out.size (.cells #[.int .u8 (dt : Int)] 5))).size))); (clear u0 u1); (obtain ⟨u0, u1⟩ := (Lies.below LF.out Z.out (Lies.lt LF.out)).cells2); (have hgA : wa.heap.size ≠ g0 := Nat.ne_of_gt (Nat.lt_of_lt_of_le HGF.out Z.out.size)); (have hgA1 : wa.heap.size + 1 ≠ g0 := Nat.ne_of_gt (Nat.lt_succ_of_lt (Nat.lt_of_lt_of_le HGF.out Z.out.size))); (clear hN hb))
            | (go_at_call 31; (with_reducible refine (S6.out ((wr.alloc (.cells #[.int .u32 0, .slice none 0 0] 25)).alloc (.cells #[.int .u8 (dt : Int)] 5)).drew).mono ?_); (rintro x wa ⟨Q, q, rfl, hN, hb⟩); (have HNa := Lib.hid hN); (have LZ1 := Lib.hid (Lies.below (Lies.drew (Lies.alloc (Lies.made wr 25 #[.int .u32 0, .slice none 0 0]) (.cells #[.int .u8 (dt : Int)] 5))) hb (Lies.lt (Lies.alloc (Lies.made wr 25 #[.int .u32 0, .slice none 0 0]) (.cells #[.int .u8 (dt : Int)] 5))))); (have GZ := Lib.hid (Nat.le_refl wr.heap.size)); (have HB1 := Lib.hid (Bys.below (Bys.drew (BYW2.out wr)) hb)); (have Z := Lib.hid ((((Z.out.alloc Z.out.size (.cells #[.int .u32 0, .slice none 0 0] 25)).alloc (Z.out.alloc Z.out.size (.cells #[.int .u32 0, .slice none 0 0] 25)).size (.cells #[.int .u8 (dt : Int)] 5))).drew.trans (hb.mono (((Z.out.alloc Z.out.size (.cells #[.int .u32 0, .slice none 0 0] 25)).alloc (Z.out.alloc Z.out.size (.cells #[.int .u32 0, .slice none 0 0] 25)).size (.cells #[.int .u8 (dt : Int)] 5))).size))); (clear u0 u1); (obtain ⟨u0, u1⟩ := (Lies.below LF.out Z.out (Lies.lt LF.out)).cells2); (have hgA : wa.heap.size ≠ g0 := Nat.ne_of_gt (Nat.lt_of_lt_of_le HGF.out Z.out.size)); (have hgA1 : wa.heap.size + 1 ≠ g0 := Nat.ne_of_gt (Nat.lt_succ_of_lt (Nat.lt_of_lt_of_le HGF.out Z.out.size))); (clear hN hb))
            | (go_at_call 31; (with_reducible refine (S6.out ((wr.alloc (.cells #[.int .u8 (dt : Int)] 5)).alloc (.cells #[.int .u32 0, .slice none 0 0] 25)).drew).mono ?_); (rintro x wa ⟨Q, q, rfl, hN, hb⟩); (have HNa := Lib.hid hN); (have LZ1 := Lib.hid (Lies.below (Lies.drew (LMW2.out wr)) hb (Lies.lt (LMW2.out wr)))); (have GZ := Lib.hid (Nat.le_succ wr.heap.size)); (have HB1 := Lib.hid (Bys.below (Bys.drew (Bys.below (BYW.out wr) (below1 _ (.cells #[.int .u32 0, .slice none 0 0] 25)))) hb)); (have Z := Lib.hid ((((Z.out.alloc Z.out.size (.cells #[.int .u8 (dt : Int)] 5)).alloc (Z.out.alloc Z.out.size (.cells #[.int .u8 (dt : Int)] 5)).size (.cells #[.int .u32 0, .slice none 0 0] 25))).drew.trans (hb.mono (((Z.out.alloc Z.out.size (.cells #[.int .u8 (dt : Int)] 5)).alloc (Z.out.alloc Z.out.size (.cells #[.int .u8 (dt : Int)] 5)).size (.cells #[.int .u32 0, .slice none 0 0] 25))).size))); (clear u0 u1); (obtain ⟨u0, u1⟩ := (Lies.below LF.out Z.out (Lies.lt LF.out)).cells2); (have hgA : wa.heap.size ≠ g0 := Nat.ne_of_gt (Nat.lt_of_lt_of_le HGF.out Z.out.size)); (have hgA1 : wa.heap.size + 1 ≠ g0 := Nat.ne_of_gt (Nat.lt_succ_of_lt (Nat.lt_of_lt_of_le HGF.out Z.out.size))); (clear hN hb))
            | (go_at_call 26; (with_reducible refine (D6.out wa Z.out Q q _ HNa.out HB1.out).mono ?_); (rintro x wb ⟨A6, c6, X6, rfl, hnf, hxk, hb⟩); (have LZ2 := Lib.hid (Lies.below LZ1.out hb (Lies.lt LZ1.out))); (obtain ⟨zc0, zc1⟩ := LZ2.out.cells2); (obtain ⟨zf0, zf1⟩ := LZ2.out.free2); (have Z := Lib.hid (Z.out.trans (hb.mono Z.out.size))); (clear u0 u1); (obtain ⟨u0, u1⟩ := (Lies.below LF.out Z.out (Lies.lt LF.out)).cells2); (have hgB : wb.heap.size ≠ g0 := Nat.ne_of_gt (Nat.lt_of_lt_of_le HGF.out Z.out.size)); (have NF6 := Lib.hid (hnf.mono (Nat.zero_le _))); (have HX6 := Lib.hid hxk); (clear hnf hxk); (clear hb))
            | (go_at_call 26; (with_reducible refine (D6.out (wa.alloc (.cells #[.int .u8 (dt : Int)] 5)) (Z.out.alloc Z.out.size (.cells #[.int .u8 (dt : Int)] 5)) Q q _ (HNa.out.below (below1 _ (.cells #[.int .u8 (dt : Int)] 5))) (BYW.out wa)).mono ?_); (rintro x wb ⟨A6, c6, X6, rfl, hnf, hxk, hb⟩); (have LZ2 := Lib.hid (Lies.below (LZ1.out.alloc (.cells #[.int .u8 (dt : Int)] 5)) hb (Lies.lt (LZ1.out.alloc (.cells #[.int .u8 (dt : Int)] 5))))); (obtain ⟨zc0, zc1⟩ := LZ2.out.cells2); (obtain ⟨zf0, zf1⟩ := LZ2.out.free2); (have Z := Lib.hid ((Z.out.alloc Z.out.size (.cells #[.int .u8 (dt : Int)] 5)).trans (hb.mono (Z.out.alloc Z.out.size (.cells #[.int .u8 (dt : Int)] 5)).size))); (clear u0 u1); (obtain ⟨u0, u1⟩ := (Lies.below LF.out Z.out (Lies.lt LF.out)).cells2); (have hgB : wb.heap.size ≠ g0 := Nat.ne_of_gt (Nat.lt_of_lt_of_le HGF.out Z.out.size)); (have NF6 := Lib.hid (hnf.mono (Nat.zero_le _))); (have HX6 := Lib.hid hxk); (clear hnf hxk); (clear hb))
            | (go_at_call 26; (with_reducible refine (D6.out (wa.alloc (.cells #[.int .u32 0, .slice none 0 0] 25)) (Z.out.alloc Z.out.size (.cells #[.int .u32 0, .slice none 0 0] 25)) Q q _ (HNa.out.below (below1 _ (.cells #[.int .u32 0, .slice none 0 0] 25))) (HB1.out.below (below1 _ (.cells #[.int .u32 0, .slice none 0 0] 25)))).mono ?_); (rintro x wb ⟨A6, c6, X6, rfl, hnf, hxk, hb⟩); (have LZ2 := Lib.hid (Lies.below (Lies.made wa 25 #[.int .u32 0, .slice none 0 0]) hb (Lies.lt (Lies.made wa 25 #[.int .u32 0, .slice none 0 0])))); (obtain ⟨zc0, zc1⟩ := LZ2.out.cells2); (obtain ⟨zf0, zf1⟩ := LZ2.out.free2); (have GZ := Lib.hid Z.out.size); (have Z := Lib.hid ((Z.out.alloc Z.out.size (.cells #[.int .u32 0, .slice none 0 0] 25)).trans (hb.mono (Z.out.alloc Z.out.size (.cells #[.int .u32 0, .slice none 0 0] 25)).size))); (clear u0 u1); (obtain ⟨u0, u1⟩ := (Lies.below LF.out Z.out (Lies.lt LF.out)).cells2); (have hgB : wb.heap.size ≠ g0 := Nat.ne_of_gt (Nat.lt_of_lt_of_le HGF.out Z.out.size)); (have NF6 := Lib.hid (hnf.mono (Nat.zero_le _))); (have HX6 := Lib.hid hxk); (clear hnf hxk); (clear hb))
            | (go_at_call 26; (with_reducible refine (D6.out ((wa.alloc (.cells #[.int .u8 (dt : Int)] 5)).alloc (.cells #[.int .u32 0, .slice none 0 0] 25)) ((Z.out.alloc Z.out.size (.cells #[.int .u8 (dt : Int)] 5)).alloc (Z.out.alloc Z.out.size (.cells #[.int .u8 (dt : Int)] 5)).size (.cells #[.int .u32 0, .slice none 0 0] 25)) Q q _ ((HNa.out.below (below1 _ (.cells #[.int .u8 (dt : Int)] 5))).below (below1 _ (.cells #[.int .u32 0, .slice none 0 0] 25))) ((BYW.out wa).below (below1 _ (.cells #[.int .u32 0, .slice none 0 0] 25)))).mono ?_); (rintro x wb ⟨A6, c6, X6, rfl, hnf, hxk, hb⟩); (have LZ2 := Lib.hid (Lies.below (LMW2.out wa) hb (Lies.lt (LMW2.out wa)))); (obtain ⟨zc0, zc1⟩ := LZ2.out.cells2); (obtain ⟨zf0, zf1⟩ := LZ2.out.free2); (have GZ := Lib.hid (Nat.le_succ_of_le Z.out.size)); (have Z := Lib.hid (((Z.out.alloc Z.out.size (.cells #[.int .u8 (dt : Int)] 5)).alloc (Z.out.alloc Z.out.size (.cells #[.int .u8 (dt : Int)] 5)).size (.cells #[.int .u32 0, .slice none 0 0] 25)).trans (hb.mono ((Z.out.alloc Z.out.size (.cells #[.int .u8 (dt : Int)] 5)).alloc (Z.out.alloc Z.out.size (.cells #[.int .u8 (dt : Int)] 5)).size (.cells #[.int .u32 0, .slice none 0 0] 25)).size))); (clear u0 u1); (obtain ⟨u0, u1⟩ := (Lies.below LF.out Z.out (Lies.lt LF.out)).cells2); (have hgB : wb.heap.size ≠ g0 := Nat.ne_of_gt (Nat.lt_of_lt_of_le HGF.out Z.out.size)); (have NF6 := Lib.hid (hnf.mono (Nat.zero_le _))); (have HX6 := Lib.hid hxk); (clear hnf hxk); (clear hb))
            | (go_at_call 26; (with_reducible refine (D6.out ((wa.alloc (.cells #[.int .u32 0, .slice none 0 0] 25)).alloc (.cells #[.int .u8 (dt : Int)] 5)) ((Z.out.alloc Z.out.size (.cells #[.int .u32 0, .slice none 0 0] 25)).alloc (Z.out.alloc Z.out.size (.cells #[.int .u32 0, .slice none 0 0] 25)).size (.cells #[.int .u8 (dt : Int)] 5)) Q q _ ((HNa.out.below (below1 _ (.cells #[.int .u32 0, .slice none 0 0] 25))).below (below1 _ (.cells #[.int .u8 (dt : Int)] 5))) (BYW2.out wa)).mono ?_); (rintro x wb ⟨A6, c6, X6, rfl, hnf, hxk, hb⟩); (have LZ2 := Lib.hid (Lies.below (Lies.alloc (Lies.made wa 25 #[.int .u32 0, .slice none 0 0]) (.cells #[.int .u8 (dt : Int)] 5)) hb (Lies.lt (Lies.alloc (Lies.made wa 25 #[.int .u32 0, .slice none 0 0]) (.cells #[.int .u8 (dt : Int)] 5))))); (obtain ⟨zc0, zc1⟩ := LZ2.out.cells2); (obtain ⟨zf0, zf1⟩ := LZ2.out.free2); (have GZ := Lib.hid Z.out.size); (have Z := Lib.hid (((Z.out.alloc Z.out.size (.cells #[.int .u32 0, .slice none 0 0] 25)).alloc (Z.out.alloc Z.out.size (.cells #[.int .u32 0, .slice none 0 0] 25)).size (.cells #[.int .u8 (dt : Int)] 5)).trans (hb.mono ((Z.out.alloc Z.out.size (.cells #[.int .u32 0, .slice none 0 0] 25)).alloc (Z.out.alloc Z.out.size (.cells #[.int .u32 0, .slice none 0 0] 25)).size (.cells #[.int .u8 (dt : Int)] 5)).size))); (clear u0 u1); (obtain ⟨u0, u1⟩ := (Lies.below LF.out Z.out (Lies.lt LF.out)).cells2); (have hgB : wb.heap.size ≠ g0 := Nat.ne_of_gt (Nat.lt_of_lt_of_le HGF.out Z.out.size)); (have NF6 := Lib.hid (hnf.mono (Nat.zero_le _))); (have HX6 := Lib.hid hxk); (clear hnf hxk); (clear hb))
            | (go_at_call 26; (with_reducible refine (D6.out wa Z.out Q q _ HNa.out HB1.out).mono ?_); (rintro x wb ⟨A6, c6, X6, rfl, hnf, hxk, hb⟩); (have Z := Lib.hid (Z.out.trans (hb.mono Z.out.size))); (clear u0 u1); (obtain ⟨u0, u1⟩ := (Lies.below LF.out Z.out (Lies.lt LF.out)).cells2); (have hgB : wb.heap.size ≠ g0 := Nat.ne_of_gt (Nat.lt_of_lt_of_le HGF.out Z.out.size)); (have NF6 := Lib.hid (hnf.mono (Nat.zero_le _))); (have HX6 := Lib.hid hxk); (clear hnf hxk); (clear hb))
            | (go_at_call 26; (with_reducible refine (D6.out (wa.alloc (.cells #[.int .u8 (dt : Int)] 5)) (Z.out.alloc Z.out.size (.cells #[.int .u8 (dt : Int)] 5)) Q q _ (HNa.out.below (below1 _ (.cells #[.int .u8 (dt : Int)] 5))) (BYW.out wa)).mono ?_); (rintro x wb ⟨A6, c6, X6, rfl, hnf, hxk, hb⟩); (have Z := Lib.hid ((Z.out.alloc Z.out.size (.cells #[.int .u8 (dt : Int)] 5)).trans (hb.mono (Z.out.alloc Z.out.size (.cells #[.int .u8 (dt : Int)] 5)).size))); (clear u0 u1); (obtain ⟨u0, u1⟩ := (Lies.below LF.out Z.out (Lies.lt LF.out)).cells2); (have hgB : wb.heap.size ≠ g0 := Nat.ne_of_gt (Nat.lt_of_lt_of_le HGF.out Z.out.size)); (have NF6 := Lib.hid (hnf.mono (Nat.zero_le _))); (have HX6 := Lib.hid hxk); (clear hnf hxk); (clear hb)))
          all_goals
            go_wp2_with fail
            go_meet
            first
            | (with_reducible exact ⟨rfl, _, _, _, X6, rfl, (Lies.put2 LZ2.out _ _), (NF.put2 NF6.out LZ2.out _ _), HX6.out, (Nat.lt_of_lt_of_le HGF.out GZ.out), (below_put2 Z.out GZ.out _ _)⟩)
            | (with_reducible exact ⟨rfl, _, _, _, X6, rfl, (Lies.made wb 25 #[.int .u32 1, .slice A6 (j + 1) c6]), (NF.below NF6.out (below1 _ _)), HX6.out, (Nat.lt_of_lt_of_le HGF.out Z.out.size), (Z.out.alloc Z.out.size (.cells #[.int .u32 1, .slice A6 (j + 1) c6] 25))⟩)
      case rest =>
        obtain ⟨rfl, g, A6, c6, X6, rfl, hLG, hNF, hX6, hgg, hBy⟩ := hcut
        generalize wc = x6 at *
        have LG := Lib.hid hLG
        have NF6 := Lib.hid hNF
        have HX6 := Lib.hid hX6
        have LF6 := Lib.hid (LF.out.below hBy LF.out.lt)
        have Q6 := Lib.hid (Q.out.trans (hBy.mono Q.out.size))
        clear hLG hNF hX6 hBy D6 S6 u0 u1 hgF hgF1 HGF Z LF Q HF HNF HX HJ1 HEP
        obtain ⟨p0, p1⟩ := LG.out.cells2
        obtain ⟨q0, q1⟩ := LF6.out.cells2
        obtain ⟨r0, r1⟩ := LF6.out.free2
        go_wp2
        go_roundw
        case rel => exact ⟨j + 1, 1, A6, c6, X6, by omega, by go_num, by omega, .inr rfl, LF6.out.put2 _ _, NF6.out.put2 LF6.out _ _, HX6.out, below_put2 Q6.out (Nat.le_of_eq HG.out.symm) _ _⟩
        case measure => simp [intOf]; omega
    · have d0 : decide (j < 200) = false := decide_eq_false hlt
      have d1 : decide ((j : Int) < 200) = false := by rw [decide_eq_false_iff_not]; omega
      have hj2 : j = 200 := by omega
      have hep1 : ep = 1 := by rcases HJ1.out with h | h; omega; exact h
      go_wp2_with fail
      clear d0 d1 hlt hj
      rw [hj2] at LF HF HNF
      rw [hep1] at LF
      rw [show ((1 : Nat) : Int) = 1 from rfl] at LF
      clear HX HJ1 HEP HNF hj2 hep1
      have HB := Q
      clear Q
      have HFx := HF
      clear HF
      generalize wr = x9 at *
      have S10 := Lib.hid (fun W => step_any 1 (fi + 200) 0 false [120] ⟨#[120]⟩ W (by decide) rfl (by decide) (by decide) (by omega))
      unfold StepPost at S10
      rw [show (stN 1 (fi + 200) 0 false [120]).data.length = 1 from rfl, show ((1 : Nat) : Int) = 1 from rfl, show ((fi + 200 : Nat) : Int) = IntKind.u32.wrap ((fi : Int) + 200) by rw [IntKind.wrap_u32]; omega] at S10
      have S11 := Lib.hid (fun W => step_any 1 (fi + 7) 0 false [120] ⟨#[120]⟩ W (by decide) rfl (by decide) (by decide) (by omega))
      unfold StepPost at S11
      rw [show (stN 1 (fi + 7) 0 false [120]).data.length = 1 from rfl, show ((1 : Nat) : Int) = 1 from rfl, show ((fi + 7 : Nat) : Int) = IntKind.u32.wrap ((fi : Int) + 7) by rw [IntKind.wrap_u32]; omega] at S11
      have S12 := Lib.hid (fun W => step_any 1 (fi + 200) 0 false [120] ⟨#[120]⟩ W (by decide) rfl (by decide) (by decide) (by omega))
      unfold StepPost at S12
      rw [show (stN 1 (fi + 200) 0 false [120]).data.length = 1 from rfl, show ((1 : Nat) : Int) = 1 from rfl, show ((fi + 200 : Nat) : Int) = IntKind.u32.wrap ((fi : Int) + 200) by rw [IntKind.wrap_u32]; omega] at S12
      have D10 := Lib.hid (fun W (hb : Below x9.heap.size x9 W) Q q (hN : EntV W (stN 1 (fi + 200) 0 false [120]) none Q 0 q) => keepx_any fi dt A c Q q W hf1 (HFx.out.below hb) hN)
      have Z := Lib.hid (Below.refl x9.heap.size x9)
      obtain ⟨u0, u1⟩ := LF.out.cells2
      have hgF : x9.heap.size ≠ g0 := Nat.ne_of_gt LF.out.lt
      have HGF := Lib.hid LF.out.lt
      go_cut [11] (fun s W => s = .int .i64 5 ∧ Below x9.heap.size x9 W)
      case first =>
        as_aux_lemma =>
          go_region_held3 (fun W => W.cell? ⟨g0, 0, none⟩ = some (.int .u32 1) ∧ W.cell? ⟨g0, 1, none⟩ = some (.slice A 200 c)) (first | (with_reducible exact ⟨u0, u1⟩) | go_keep)
            (first
            | (go_at_call 31; (with_reducible refine (S10.out x9.drew).mono ?_); (rintro x wa ⟨Q, q, rfl, hN, hb⟩); (have HNa := Lib.hid hN); (have Z := Lib.hid (Z.out.drew.trans (hb.mono Z.out.size))); (clear u0 u1); (obtain ⟨u0, u1⟩ := (Lies.below LF.out Z.out (Lies.lt LF.out)).cells2); (have hgA : wa.heap.size ≠ g0 := Nat.ne_of_gt (Nat.lt_of_lt_of_le HGF.out Z.out.size)); (clear hN hb))
            | (go_at_call 31; (with_reducible refine (S10.out (x9.alloc (.cells #[.int .u32 0, .slice none 0 0] 25)).drew).mono ?_); (rintro x wa ⟨Q, q, rfl, hN, hb⟩); (have HNa := Lib.hid hN); (have Z := Lib.hid ((Z.out.alloc Z.out.size (.cells #[.int .u32 0, .slice none 0 0] 25)).drew.trans (hb.mono (by simp)))); (clear u0 u1); (obtain ⟨u0, u1⟩ := (Lies.below LF.out Z.out (Lies.lt LF.out)).cells2); (have LZ1 := Lib.hid (Lies.below (Lies.drew (Lies.made x9 25 #[.int .u32 0, .slice none 0 0])) hb (Lies.lt (Lies.made x9 25 #[.int .u32 0, .slice none 0 0])))); (have GZ := Lib.hid (Nat.le_refl x9.heap.size)); (clear hN hb))
            | (go_at_call 26; (with_reducible refine (D10.out wa Z.out Q q HNa.out).mono ?_); (rintro x wb ⟨e10, A10, n10, c10, rfl, hb⟩); (have LZ2 := Lib.hid (Lies.below LZ1.out hb (Lies.lt LZ1.out))); (obtain ⟨zc0, zc1⟩ := LZ2.out.cells2); (obtain ⟨zf0, zf1⟩ := LZ2.out.free2); (have Z := Lib.hid (Z.out.trans (hb.mono Z.out.size))); (clear u0 u1); (obtain ⟨u0, u1⟩ := (Lies.below LF.out Z.out (Lies.lt LF.out)).cells2); (have hgB : wb.heap.size ≠ g0 := Nat.ne_of_gt (Nat.lt_of_lt_of_le HGF.out Z.out.size)); (clear hb))
            | (go_at_call 26; (with_reducible refine (D10.out (wa.alloc (.cells #[.int .u32 0, .slice none 0 0] 25)) (Z.out.alloc Z.out.size (.cells #[.int .u32 0, .slice none 0 0] 25)) Q q (HNa.out.below (below1 wa (.cells #[.int .u32 0, .slice none 0 0] 25)))).mono ?_); (rintro x wb ⟨e10, A10, n10, c10, rfl, hb⟩); (have LZ2 := Lib.hid (Lies.below (Lies.made wa 25 #[.int .u32 0, .slice none 0 0]) hb (Lies.lt (Lies.made wa 25 #[.int .u32 0, .slice none 0 0])))); (have GZ := Lib.hid Z.out.size); (obtain ⟨zc0, zc1⟩ := LZ2.out.cells2); (obtain ⟨zf0, zf1⟩ := LZ2.out.free2); (have Z := Lib.hid ((Z.out.alloc Z.out.size (.cells #[.int .u32 0, .slice none 0 0] 25)).trans (hb.mono (Z.out.alloc Z.out.size (.cells #[.int .u32 0, .slice none 0 0] 25)).size))); (clear u0 u1); (obtain ⟨u0, u1⟩ := (Lies.below LF.out Z.out (Lies.lt LF.out)).cells2); (have hgB : wb.heap.size ≠ g0 := Nat.ne_of_gt (Nat.lt_of_lt_of_le HGF.out Z.out.size)); (clear hb))
            | (go_at_call 26; (with_reducible refine (D10.out wa Z.out Q q HNa.out).mono ?_); (rintro x wb ⟨e10, A10, n10, c10, rfl, hb⟩); (have Z := Lib.hid (Z.out.trans (hb.mono Z.out.size))); (clear u0 u1); (obtain ⟨u0, u1⟩ := (Lies.below LF.out Z.out (Lies.lt LF.out)).cells2); (have hgB : wb.heap.size ≠ g0 := Nat.ne_of_gt (Nat.lt_of_lt_of_le HGF.out Z.out.size)); (clear hb)))
          all_goals
            go_wp2_with fail
            go_meet
            first
            | (with_reducible exact ⟨rfl, (below_put2 Z.out GZ.out _ _)⟩)
            | (with_reducible exact ⟨rfl, (Z.out.alloc Z.out.size (.cells #[.int .u32 (e10 : Nat), .slice A10 n10 c10] 25))⟩)
      case rest =>
        obtain ⟨rfl, hBy⟩ := hcut
        generalize wc = x10 at *
        have LF2 := Lib.hid (LF.out.below hBy LF.out.lt)
        have HF2 := Lib.hid (HFx.out.below hBy)
        have HB2 := Lib.hid (HB.out.trans (hBy.mono HB.out.size))
        clear hBy D10 u0 u1 hgF HGF Z LF HFx HB
        have LF := LF2
        have HFx := HF2
        have HB := HB2
        clear LF2 HF2 HB2
        have D11 := Lib.hid (fun W (hb : Below x10.heap.size x10 W) Q q (hN : EntV W (stN 1 (fi + 7) 0 false [120]) none Q 0 q) => act_any 1 A 200 c (fT fi dt) (stN 1 (fi + 7) 0 false [120]) Q q W (HFx.out.below hb) hN (show in64 0 by unfold in64; decide) (by decide) rfl (fun a e r => a = 2 ∧ e = 0 ∧ r = [dt]) (by rw [ask_fT2 hf1 (by decide) (by decide)]; exact ⟨rfl, rfl, rfl⟩))
        unfold ActPost at D11
        rw [show (stN 1 (fi + 7) 0 false [120]).data.length = 1 from rfl, show ((1 : Nat) : Int) = 1 from rfl] at D11
        go_wp2_with fail
        have Z := Lib.hid (Below.refl x10.heap.size x10)
        obtain ⟨u0, u1⟩ := LF.out.cells2
        have hgF : x10.heap.size ≠ g0 := Nat.ne_of_gt LF.out.lt
        have HGF := Lib.hid LF.out.lt
        go_cut [12, 13, 14] (fun s12 s13 s14 W => s12 = .int .i64 2 ∧ s14 = .int .i64 0 ∧ ∃ g o11 s11 u11 A111 n111 c111 c11 A211 c211, s13 = .pointer (some ⟨g, 0, none⟩) ∧ Lies W g 34 #[.int .u32 (o11 : Int), .int .i64 s11, .bool u11, .slice A111 n111 c111, .int .i64 c11, .slice A211 1 c211] ∧ Own W 0 (.slice A211 1 c211) [dt] ∧ Below x10.heap.size x10 W)
        case first =>
          as_aux_lemma =>
            go_region_held3 (fun W => W.cell? ⟨g0, 0, none⟩ = some (.int .u32 1) ∧ W.cell? ⟨g0, 1, none⟩ = some (.slice A 200 c)) (first | (with_reducible exact ⟨u0, u1⟩) | go_keep)
              (first
              | (go_at_call 31; (with_reducible refine (S11.out x10.drew).mono ?_); (rintro x wa ⟨Q, q, rfl, hN, hb⟩); (have HNa := Lib.hid hN); (have Z := Lib.hid (Z.out.drew.trans (hb.mono Z.out.size))); (clear u0 u1); (obtain ⟨u0, u1⟩ := (Lies.below LF.out Z.out (Lies.lt LF.out)).cells2); (have hgA : wa.heap.size ≠ g0 := Nat.ne_of_gt (Nat.lt_of_lt_of_le HGF.out Z.out.size)); (clear hN hb))
              | (go_at_call 31; (with_reducible refine (S11.out (x10.alloc (.cells #[.int .u32 0, .int .i64 0, .bool false, .slice none 0 0, .int .i64 0, .slice none 0 0] 34)).drew).mono ?_); (rintro x wa ⟨Q, q, rfl, hN, hb⟩); (have HNa := Lib.hid hN); (have Z := Lib.hid ((Z.out.alloc Z.out.size (.cells #[.int .u32 0, .int .i64 0, .bool false, .slice none 0 0, .int .i64 0, .slice none 0 0] 34)).drew.trans (hb.mono (by simp)))); (clear u0 u1); (obtain ⟨u0, u1⟩ := (Lies.below LF.out Z.out (Lies.lt LF.out)).cells2); (have LZ1 := Lib.hid (Lies.below (Lies.drew (Lies.made x10 34 #[.int .u32 0, .int .i64 0, .bool false, .slice none 0 0, .int .i64 0, .slice none 0 0])) hb (Lies.lt (Lies.made x10 34 #[.int .u32 0, .int .i64 0, .bool false, .slice none 0 0, .int .i64 0, .slice none 0 0])))); (have GZ := Lib.hid (Nat.le_refl x10.heap.size)); (clear hN hb))
              | (go_at_call 14; (with_reducible refine (D11.out wa Z.out Q q HNa.out).mono ?_); (rintro x wb ⟨a11, e11, o11, s11, u11, A111, n111, c111, c11, A211, c211, r11, rfl, hB11, hb, rfl, rfl, rfl⟩); (have LZ2 := Lib.hid (Lies.below LZ1.out hb (Lies.lt LZ1.out))); (obtain ⟨zc0, zc1, zc2, zc3, zc4, zc5⟩ := LZ2.out.cells6); (obtain ⟨zf0, zf1, zf2, zf3, zf4, zf5⟩ := LZ2.out.free6); (have Z := Lib.hid (Z.out.trans (hb.mono Z.out.size))); (clear u0 u1); (obtain ⟨u0, u1⟩ := (Lies.below LF.out Z.out (Lies.lt LF.out)).cells2); (have hgB : wb.heap.size ≠ g0 := Nat.ne_of_gt (Nat.lt_of_lt_of_le HGF.out Z.out.size)); (have RB3 := Lib.hid (hB11.mono (Nat.zero_le _))); (clear hB11); (clear hb))
              | (go_at_call 14; (with_reducible refine (D11.out (wa.alloc (.cells #[.int .u32 0, .int .i64 0, .bool false, .slice none 0 0, .int .i64 0, .slice none 0 0] 34)) (Z.out.alloc Z.out.size (.cells #[.int .u32 0, .int .i64 0, .bool false, .slice none 0 0, .int .i64 0, .slice none 0 0] 34)) Q q (HNa.out.below (below1 wa (.cells #[.int .u32 0, .int .i64 0, .bool false, .slice none 0 0, .int .i64 0, .slice none 0 0] 34)))).mono ?_); (rintro x wb ⟨a11, e11, o11, s11, u11, A111, n111, c111, c11, A211, c211, r11, rfl, hB11, hb, rfl, rfl, rfl⟩); (have LZ2 := Lib.hid (Lies.below (Lies.made wa 34 #[.int .u32 0, .int .i64 0, .bool false, .slice none 0 0, .int .i64 0, .slice none 0 0]) hb (Lies.lt (Lies.made wa 34 #[.int .u32 0, .int .i64 0, .bool false, .slice none 0 0, .int .i64 0, .slice none 0 0])))); (have GZ := Lib.hid Z.out.size); (obtain ⟨zc0, zc1, zc2, zc3, zc4, zc5⟩ := LZ2.out.cells6); (obtain ⟨zf0, zf1, zf2, zf3, zf4, zf5⟩ := LZ2.out.free6); (have Z := Lib.hid ((Z.out.alloc Z.out.size (.cells #[.int .u32 0, .int .i64 0, .bool false, .slice none 0 0, .int .i64 0, .slice none 0 0] 34)).trans (hb.mono (Z.out.alloc Z.out.size (.cells #[.int .u32 0, .int .i64 0, .bool false, .slice none 0 0, .int .i64 0, .slice none 0 0] 34)).size))); (clear u0 u1); (obtain ⟨u0, u1⟩ := (Lies.below LF.out Z.out (Lies.lt LF.out)).cells2); (have hgB : wb.heap.size ≠ g0 := Nat.ne_of_gt (Nat.lt_of_lt_of_le HGF.out Z.out.size)); (have RB3 := Lib.hid (hB11.mono (Nat.zero_le _))); (clear hB11); (clear hb))
              | (go_at_call 14; (with_reducible refine (D11.out wa Z.out Q q HNa.out).mono ?_); (rintro x wb ⟨a11, e11, o11, s11, u11, A111, n111, c111, c11, A211, c211, r11, rfl, hB11, hb, rfl, rfl, rfl⟩); (have Z := Lib.hid (Z.out.trans (hb.mono Z.out.size))); (clear u0 u1); (obtain ⟨u0, u1⟩ := (Lies.below LF.out Z.out (Lies.lt LF.out)).cells2); (have hgB : wb.heap.size ≠ g0 := Nat.ne_of_gt (Nat.lt_of_lt_of_le HGF.out Z.out.size)); (have RB3 := Lib.hid (hB11.mono (Nat.zero_le _))); (clear hB11); (clear hb)))
            all_goals
              go_wp2_with fail
              go_meet
              first
              | (with_reducible exact ⟨rfl, rfl, _, _, _, _, _, _, _, _, _, _, rfl, (Lies.put6 LZ2.out _ _ _ _ _ _), (Own.put6 RB3.out LZ2.out (by decide) _ _ _ _ _ _), (below_put6 Z.out GZ.out _ _ _ _ _ _)⟩)
              | (with_reducible exact ⟨rfl, rfl, _, _, _, _, _, _, _, _, _, _, rfl, (Lies.made wb 34 #[.int .u32 (o11 : Int), .int .i64 s11, .bool u11, .slice A111 n111 c111, .int .i64 c11, .slice A211 1 c211]), (Own.alloc RB3.out _), (Z.out.alloc Z.out.size (.cells #[.int .u32 (o11 : Int), .int .i64 s11, .bool u11, .slice A111 n111 c111, .int .i64 c11, .slice A211 1 c211] 34))⟩)
        case rest =>
          obtain ⟨rfl, rfl, g13, o11, s11, u11, A111, n111, c111, c11, A211, c211, rfl, hLK, hOK, hBy⟩ := hcut
          have LK := Lib.hid hLK
          have OR := Lib.hid hOK
          have LF2 := Lib.hid (LF.out.below hBy LF.out.lt)
          have HF2 := Lib.hid (HFx.out.below hBy)
          have HB2 := Lib.hid (HB.out.trans (hBy.mono HB.out.size))
          clear hLK hOK hBy D11 u0 u1 hgF HGF Z LF HFx HB
          have LF := LF2
          have HFx := HF2
          have HB := HB2
          clear LF2 HF2 HB2
          generalize wc = x11 at *
          have D12 := Lib.hid (fun W (hb : Below x11.heap.size x11 W) Q q (hN : EntV W (stN 1 (fi + 200) 0 false [120]) none Q 0 q) => act_any 1 A 200 c (fT fi dt) (stN 1 (fi + 200) 0 false [120]) Q q W (HFx.out.below hb) hN (show in64 0 by unfold in64; decide) (by decide) rfl (fun a e r => a = 1 ∧ e = 0) (by rw [ask_fT (by decide) hf1 (by decide) (by decide)]; exact ⟨rfl, rfl⟩))
          unfold ActPost at D12
          rw [show (stN 1 (fi + 200) 0 false [120]).data.length = 1 from rfl, show ((1 : Nat) : Int) = 1 from rfl] at D12
          go_wp2_with fail
          have Z := Lib.hid (Below.refl x11.heap.size x11)
          obtain ⟨u0, u1⟩ := LF.out.cells2
          have hgF : x11.heap.size ≠ g0 := Nat.ne_of_gt LF.out.lt
          have HGF := Lib.hid LF.out.lt
          go_cut [15, 17] (fun s15 s17 W => s15 = .int .i64 1 ∧ s17 = .int .i64 0 ∧ Below x11.heap.size x11 W)
          case first =>
            as_aux_lemma =>
              go_region_held3 (fun W => W.cell? ⟨g0, 0, none⟩ = some (.int .u32 1) ∧ W.cell? ⟨g0, 1, none⟩ = some (.slice A 200 c)) (first | (with_reducible exact ⟨u0, u1⟩) | go_keep)
                (first
                | (go_at_call 31; (with_reducible refine (S12.out x11.drew).mono ?_); (rintro x wa ⟨Q, q, rfl, hN, hb⟩); (have HNa := Lib.hid hN); (have Z := Lib.hid (Z.out.drew.trans (hb.mono Z.out.size))); (clear u0 u1); (obtain ⟨u0, u1⟩ := (Lies.below LF.out Z.out (Lies.lt LF.out)).cells2); (have hgA : wa.heap.size ≠ g0 := Nat.ne_of_gt (Nat.lt_of_lt_of_le HGF.out Z.out.size)); (clear hN hb))
                | (go_at_call 31; (with_reducible refine (S12.out (x11.alloc (.cells #[.int .u32 0, .int .i64 0, .bool false, .slice none 0 0, .int .i64 0, .slice none 0 0] 34)).drew).mono ?_); (rintro x wa ⟨Q, q, rfl, hN, hb⟩); (have HNa := Lib.hid hN); (have Z := Lib.hid ((Z.out.alloc Z.out.size (.cells #[.int .u32 0, .int .i64 0, .bool false, .slice none 0 0, .int .i64 0, .slice none 0 0] 34)).drew.trans (hb.mono (by simp)))); (clear u0 u1); (obtain ⟨u0, u1⟩ := (Lies.below LF.out Z.out (Lies.lt LF.out)).cells2); (have LZ1 := Lib.hid (Lies.below (Lies.drew (Lies.made x11 34 #[.int .u32 0, .int .i64 0, .bool false, .slice none 0 0, .int .i64 0, .slice none 0 0])) hb (Lies.lt (Lies.made x11 34 #[.int .u32 0, .int .i64 0, .bool false, .slice none 0 0, .int .i64 0, .slice none 0 0])))); (have GZ := Lib.hid (Nat.le_refl x11.heap.size)); (clear hN hb))
                | (go_at_call 14; (with_reducible refine (D12.out wa Z.out Q q HNa.out).mono ?_); (rintro x wb ⟨a12, e12, o12, s12, u12, A112, n112, c112, c12, A212, c212, r12, rfl, hB12, hb, rfl, rfl⟩); (have LZ2 := Lib.hid (Lies.below LZ1.out hb (Lies.lt LZ1.out))); (obtain ⟨zc0, zc1, zc2, zc3, zc4, zc5⟩ := LZ2.out.cells6); (obtain ⟨zf0, zf1, zf2, zf3, zf4, zf5⟩ := LZ2.out.free6); (have Z := Lib.hid (Z.out.trans (hb.mono Z.out.size))); (clear u0 u1); (obtain ⟨u0, u1⟩ := (Lies.below LF.out Z.out (Lies.lt LF.out)).cells2); (have hgB : wb.heap.size ≠ g0 := Nat.ne_of_gt (Nat.lt_of_lt_of_le HGF.out Z.out.size)); (clear hB12); (clear hb))
                | (go_at_call 14; (with_reducible refine (D12.out (wa.alloc (.cells #[.int .u32 0, .int .i64 0, .bool false, .slice none 0 0, .int .i64 0, .slice none 0 0] 34)) (Z.out.alloc Z.out.size (.cells #[.int .u32 0, .int .i64 0, .bool false, .slice none 0 0, .int .i64 0, .slice none 0 0] 34)) Q q (HNa.out.below (below1 wa (.cells #[.int .u32 0, .int .i64 0, .bool false, .slice none 0 0, .int .i64 0, .slice none 0 0] 34)))).mono ?_); (rintro x wb ⟨a12, e12, o12, s12, u12, A112, n112, c112, c12, A212, c212, r12, rfl, hB12, hb, rfl, rfl⟩); (have LZ2 := Lib.hid (Lies.below (Lies.made wa 34 #[.int .u32 0, .int .i64 0, .bool false, .slice none 0 0, .int .i64 0, .slice none 0 0]) hb (Lies.lt (Lies.made wa 34 #[.int .u32 0, .int .i64 0, .bool false, .slice none 0 0, .int .i64 0, .slice none 0 0])))); (have GZ := Lib.hid Z.out.size); (obtain ⟨zc0, zc1, zc2, zc3, zc4, zc5⟩ := LZ2.out.cells6); (obtain ⟨zf0, zf1, zf2, zf3, zf4, zf5⟩ := LZ2.out.free6); (have Z := Lib.hid ((Z.out.alloc Z.out.size (.cells #[.int .u32 0, .int .i64 0, .bool false, .slice none 0 0, .int .i64 0, .slice none 0 0] 34)).trans (hb.mono (Z.out.alloc Z.out.size (.cells #[.int .u32 0, .int .i64 0, .bool false, .slice none 0 0, .int .i64 0, .slice none 0 0] 34)).size))); (clear u0 u1); (obtain ⟨u0, u1⟩ := (Lies.below LF.out Z.out (Lies.lt LF.out)).cells2); (have hgB : wb.heap.size ≠ g0 := Nat.ne_of_gt (Nat.lt_of_lt_of_le HGF.out Z.out.size)); (clear hB12); (clear hb))
                | (go_at_call 14; (with_reducible refine (D12.out wa Z.out Q q HNa.out).mono ?_); (rintro x wb ⟨a12, e12, o12, s12, u12, A112, n112, c112, c12, A212, c212, r12, rfl, hB12, hb, rfl, rfl⟩); (have Z := Lib.hid (Z.out.trans (hb.mono Z.out.size))); (clear u0 u1); (obtain ⟨u0, u1⟩ := (Lies.below LF.out Z.out (Lies.lt LF.out)).cells2); (have hgB : wb.heap.size ≠ g0 := Nat.ne_of_gt (Nat.lt_of_lt_of_le HGF.out Z.out.size)); (clear hB12); (clear hb)))
              all_goals
                go_wp2_with fail
                go_meet
                first
                | (with_reducible exact ⟨rfl, rfl, (below_put6 Z.out GZ.out _ _ _ _ _ _)⟩)
                | (with_reducible exact ⟨rfl, rfl, (Z.out.alloc Z.out.size (.cells #[.int .u32 (o12 : Int), .int .i64 s12, .bool u12, .slice A112 n112 c112, .int .i64 c12, .slice A212 r12.length c212] 34))⟩)
          case rest =>
            obtain ⟨rfl, rfl, hBy⟩ := hcut
            generalize wc = x12 at *
            have LK2 := Lib.hid (LK.out.below hBy LK.out.lt)
            have OR2 := Lib.hid (OR.out.belowOwn hBy)
            have HB2 := Lib.hid (HB.out.trans (hBy.mono HB.out.size))
            clear u0 u1 hgF HGF Z hBy
            obtain ⟨k0, k1, k2, k3, k4, k5⟩ := LK2.out.cells6
            obtain ⟨b5, o5, rfl, hc5⟩ := OR2.out.bys.1.2.2 (by decide)
            have c50 := hc5 0 (by decide)
            rw [show [dt].getD 0 0 = dt from rfl, Nat.add_zero] at c50
            clear hc5
            go_wp2_with fail
            with_reducible refine (CKN.out _).mono ?_
            rintro x w5 ⟨rfl, hb⟩
            have BE := Lib.hid (HB2.out.trans (hb.mono HB2.out.size))
            clear hb
            go_wp2
            go_ret
            exact ⟨rfl, BE.out⟩

end Go.Proofs.Ytfcfejmammohpaa
