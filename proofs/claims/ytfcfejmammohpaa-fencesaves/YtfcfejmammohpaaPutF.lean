/-
  The contract of Put.
-/
import Derived.Test.YtfcfejmammohpaaPutK
import Derived.Test.YtfcfejmammohpaaChk
import Derived.Deep.RegionHeld3
import Derived.Deep.DeepCutAuto
namespace Go.Proofs.Ytfcfejmammohpaa
open Go.RowKit
set_option maxRecDepth 100000
set_option linter.unusedVariables false
set_option linter.unusedSimpArgs false

theorem KTx.below {w w' : World} {B : Nat} {x : Kx} (h : KTx w B x) (hb : Below w.heap.size w w') : KTx w' B x := ⟨h.t.below hb, h.a, h.r⟩
/-- What Put answers. -/
def PutPost (w : World) (ep n : Nat) (T : Nat → Kp) (x : Ending) (w' : World) : Prop := ∃ v, x = .returned (.tuple #[v, .int .i64 (chkC n T : Nat)]) ∧ Own w' w.heap.size v (if okB n T = true then putS ep n T else []) ∧ Below w.heap.size w w'
def PtR (y : World) (n : Nat) (T : Nat → Kp) (hd : List Nat) (i : Value) (wr : World) : Prop := ∃ j : Nat, j ≤ n ∧ i = .int .i64 (j : Int) ∧ Wr wr y.heap.size y.heap.size (hd ++ encL j T) ∧ Below y.heap.size y wr
set_option maxHeartbeats 8000000 in
theorem put_any (ep : Nat) (A : Option Addr) (n c : Nat) (T : Nat → Kp) (w : World) (hF : FV w A n c T) (hep : ep < 4294967296) : Calls Try.prog 32 #[.agg #[.int .u32 (ep : Int), .slice A n c]] w (PutPost w ep n T) := by
  have HF := Lib.hid (hF.below (below1 w (.cells #[.int .u32 (ep : Int), .slice A n c] 25)))
  have BB := Lib.hid (below1 w (.cells #[.int .u32 (ep : Int), .slice A n c] 25))
  have LF := Lib.hid (Lies.made w 25 #[.int .u32 (ep : Int), .slice A n c])
  have CK := Lib.hid (fun W (h : FV W A n c T) => check_fence ep A n c T W h)
  obtain ⟨l0, l1⟩ := LF.out.cells2
  clear hF
  unfold PutPost
  cases hok : okB n T
  · have h2 : chkC n T = 2 := by unfold chkC; rw [hok]; rfl
    rw [h2] at CK ⊢
    rw [if_neg (by decide)]
    go_enter Try.func32, Try.ntmps32
    go_wp2_with fail
    with_reducible refine (CK.out _ HF.out).mono ?_
    rintro x w2 ⟨rfl, hb⟩
    have B2 := Lib.hid (BB.out.trans (hb.mono BB.out.size))
    clear hb
    go_wp2
    go_ret2
    exact ⟨_, rfl, Own.nil _ _, B2.out⟩
  · have h2 : chkC n T = 0 := by unfold chkC; rw [hok]; rfl
    rw [h2] at CK ⊢
    rw [if_pos rfl]
    have HOK := Lib.hid ((okB_iff n T).1 hok)
    have hn2 : n ≤ 200 := HOK.out.1
    clear hok h2
    go_enter Try.func32, Try.ntmps32
    go_wp2_with fail
    with_reducible refine (CK.out _ HF.out).mono ?_
    rintro x y ⟨rfl, hb⟩
    have BY := Lib.hid (BB.out.trans (hb.mono BB.out.size))
    have LFy := Lib.hid (LF.out.below hb LF.out.lt)
    have HFy := Lib.hid (HF.out.below hb)
    clear hb l0 l1 LF HF BB CK
    go_wp2_with fail
    have eN : ((n : Nat) : Int) = IntKind.u8.wrap (n : Int) := by rw [IntKind.wrap_u8]; omega
    have C1 : Hid (Calls Try.prog 52 #[] y.drew fun e w' => e = .returned (.pointer (some ⟨y.heap.size, 0, none⟩)) ∧ Wr w' y.heap.size y.heap.size [] ∧ Below y.heap.size y.drew w' ∧ Keep y.drew w') := Lib.hid (newWriter_any y.drew)
    have C2 := Lib.hid (fun W h => wu32_any y.heap.size y.heap.size ep [] W h hep (by simp))
    have C3 := Lib.hid (fun W h => wu8_any y.heap.size y.heap.size n (Ent.be 4 ep) W h (by omega) (by rw [Ent.be_len]; omega))
    rw [List.nil_append] at C2
    rw [eN] at C3
    clear eN
    unfold WrPost at C2 C3
    obtain ⟨hd, hhd⟩ : ∃ q, Ent.be 4 ep ++ Ent.be 1 n = q := ⟨_, rfl⟩
    rw [hhd] at C3
    have HHD : Hid (hd.length = 5 ∧ putS ep n T = hd ++ encL n T) := Lib.hid ⟨by rw [← hhd, List.length_append, Ent.be_len, Ent.be_len], by unfold putS; rw [hhd]⟩
    clear hhd
    generalize Ent.be 4 ep = l4 at *
    obtain ⟨l0, l1⟩ := LFy.out.cells2
    have gz : y.heap.size ≠ w.heap.size := Nat.ne_of_gt LFy.out.lt
    have KP := Lib.hid LFy.out.cells2
    have Z := Lib.hid (Below.refl y.heap.size y)
    go_cut [5] (fun s5 W => s5 = .pointer (some ⟨y.heap.size, 0, none⟩) ∧ Wr W y.heap.size y.heap.size hd ∧ Below y.heap.size y W)
    case first =>
      go_region_held3 (fun W => W.cell? ⟨w.heap.size, 0, none⟩ = some (.int .u32 (ep : Int)) ∧ W.cell? ⟨w.heap.size, 1, none⟩ = some (.slice A n c)) (first | (with_reducible exact KP.out) | go_keep)
        (first
        | (go_at_call 52; (with_reducible refine C1.out.mono ?_); (rintro x v1 ⟨rfl, hw, hb, hk⟩); (have WR1 := Lib.hid hw); (have Z := Lib.hid (Z.out.drew.trans hb)); (clear KP); (have KP := Lib.hid (Lies.cells2 (Lies.below LFy.out Z.out LFy.out.lt))); (clear hw hb hk))
        | (go_at_call 53; (with_reducible refine (C2.out v1 WR1.out).mono ?_); (rintro x v2 ⟨rfl, hw, hb, hk⟩); (have WR2 := Lib.hid hw); (have Z := Lib.hid (Z.out.trans hb)); (clear KP); (have KP := Lib.hid (Lies.cells2 (Lies.below LFy.out Z.out LFy.out.lt))); (clear hw hb hk))
        | (go_at_call 54; (with_reducible refine (C3.out v2 WR2.out).mono ?_); (rintro x v3 ⟨rfl, hw, hb, hk⟩); (have WR3 := Lib.hid hw); (have Z := Lib.hid (Z.out.trans hb)); (clear KP); (have KP := Lib.hid (Lies.cells2 (Lies.below LFy.out Z.out LFy.out.lt))); (clear hw hb hk)))
      all_goals
        go_wp2_with fail
        go_meet
        exact ⟨rfl, WR3.out, Z.out⟩
    case rest =>
      obtain ⟨rfl, hW, hB⟩ := hcut
      have WR0 := Lib.hid hW
      have Q0 := Lib.hid hB
      clear hW hB l0 l1 KP Z C1 C2 C3 gz
      have LF0 := Lib.hid (LFy.out.below Q0.out LFy.out.lt)
      obtain ⟨l0, l1⟩ := LF0.out.cells2
      obtain ⟨hnc, hcm, -, X, hX, hXk⟩ := HFy.out
      have HX := Lib.hid hX
      have HXK := Lib.hid hXk
      clear hX hXk hnc hcm
      go_wp2_with fail
      clear l0 l1
      go_loopw [25] (PtR y n T hd) (fun i _ => n - (intOf i).toNat)
      case atStart => exact ⟨0, by omega, rfl, by simpa [encL] using WR0.out, Q0.out⟩
      case round =>
        clear WR0 Q0 LF0
        obtain ⟨j, hj, rfl, hW, hB⟩ := hrel
        have WR := Lib.hid hW
        have Q := Lib.hid hB
        clear hW hB
        have HLN : Hid ((hd ++ encL j T).length ≤ 190000) := Lib.hid (by
          have h1 := encL_len (n := j) (T := T) (fun i hi => (HOK.out.2 i (by omega)).1)
          have h2 := HHD.out.1
          rw [List.length_append]; omega)
        by_cases hlt : j < n
        · have hi : (j : Int) < (n : Int) := by omega
          obtain ⟨b, off, rfl, -⟩ := HX.out.1 (by omega)
          have HKx := Lib.hid ((HX.out.2 j hlt).low (Nat.le_refl y.heap.size))
          have HR := Lib.hid ((HX.out.below Q.out).at j hlt)
          have HV : Hid (vk (X j).k = true) := Lib.hid (by rw [HXK.out j hlt]; exact (HOK.out.2 j hlt).1)
          have HE : Hid (encK (X j).k = encK (T j)) := Lib.hid (by rw [HXK.out j hlt])
          obtain ⟨xA, xc, e1, -⟩ := HKx.out.a
          obtain ⟨xB, xd, e2, -⟩ := HKx.out.r
          obtain ⟨xx, hxx⟩ : ∃ q, X j = q := ⟨_, rfl⟩
          rw [hxx] at HKx HR HV HE e1 e2
          clear hxx
          obtain ⟨⟨xo, xs, xu, xa, xq, xr⟩, xK, xD⟩ := xx
          dsimp only at HR e1 e2
          subst e1 e2
          obtain ⟨q0, q1, q2, q3, q4, q5⟩ := HR.out
          have CW := Lib.hid (fun W (h : Wr W y.heap.size y.heap.size (hd ++ encL j T)) (hb : Below y.heap.size y W) => write_any y.heap.size y.heap.size (hd ++ encL j T) _ W h (HKx.out.below hb) HV.out HLN.out)
          unfold WritePost at CW
          rw [HE.out, List.append_assoc, ← encL_succ] at CW
          obtain ⟨xn, hxn⟩ : ∃ q, xa.length = q := ⟨_, rfl⟩
          obtain ⟨xm, hxm⟩ : ∃ q, xr.length = q := ⟨_, rfl⟩
          rw [hxn, hxm] at CW
          rw [hxn] at q3
          rw [hxm] at q5
          clear hxn hxm HKx HR HV HE
          have WRa := Lib.hid (WR.out.below (below1 wr (.cells #[.int .u32 (xo : Int), .int .i64 xs, .bool xu, .slice xA xn xc, .int .i64 xq, .slice xB xm xd] 34)))
          have Qa := Lib.hid (Q.out.alloc Q.out.size (.cells #[.int .u32 (xo : Int), .int .i64 xs, .bool xu, .slice xA xn xc, .int .i64 xq, .slice xB xm xd] 34))
          obtain ⟨z0, z1, z2, z3, z4, z5⟩ := (Lies.made wr 34 #[.int .u32 (xo : Int), .int .i64 xs, .bool xu, .slice xA xn xc, .int .i64 xq, .slice xB xm xd]).cells6
          go_wp2_with fail
          with_reducible refine (CW.out _ WRa.out Qa.out).mono ?_
          rintro x w4 ⟨rfl, hw, hb, hk⟩
          have WR4 := Lib.hid hw
          have Q4 := Lib.hid (Qa.out.trans hb)
          clear hw hb hk
          go_wp2
          go_roundw
          case rel => exact ⟨j + 1, by omega, by go_num, WR4.out, Q4.out⟩
          case measure => simp [intOf]; omega
        · have d0 : decide ((j : Int) < (n : Int)) = false := by rw [decide_eq_false_iff_not]; omega
          have d0b : decide (j < n) = false := by rw [decide_eq_false_iff_not]; omega
          have hjn : j = n := by omega
          have CD := Lib.hid (wdone_any y.heap.size y.heap.size _ wr WR.out (by have := HLN.out; omega))
          unfold DonePost at CD
          rw [hjn, ← HHD.out.2] at CD
          go_wp2_with fail
          with_reducible refine CD.out.mono ?_
          rintro x w5 ⟨v, rfl, ho, hb⟩
          have HO := Lib.hid ho
          have Q5 := Lib.hid (Q.out.trans (hb.mono Q.out.size))
          have HSZ := Lib.hid (Nat.le_trans BY.out.size Q.out.size)
          clear ho hb
          go_wp2
          go_ret2
          exact ⟨_, rfl, HO.out.mono HSZ.out, BY.out.trans (Q5.out.mono BY.out.size)⟩

end Go.Proofs.Ytfcfejmammohpaa
