/-
  The contract of the document's Get.
-/
import Derived.Test.YtfcfejmammohpaaRGetM
import Derived.Deep.DeepCutAuto
namespace Go.Proofs.Ytfcfejmammohpaa
open Go.RowKit
set_option maxRecDepth 100000
set_option linter.unusedVariables false
set_option linter.unusedSimpArgs false

theorem GM.below {w0 w w' : World} {p gf gr ep j c m : Nat} {A : Option Addr} {X : Nat → Kx} (h : GM w0 p gf gr ep A j c m X w) (hb : Below w.heap.size w w') : GM w0 p gf gr ep A j c m X w' :=
  h.same (fun k h1 h2 => hb.block k (Nat.lt_of_lt_of_le h1 h.mw)) (h.bel.trans (hb.mono (by have := h.mw; have := h.hp; have := h.hf; have := h.fm; omega))) (Nat.le_trans h.mw hb.size)
/-- A fence whose blocks all lie from B on. -/
def FS (w : World) (B : Nat) (A : Option Addr) (n c : Nat) (T : Nat → Kp) : Prop := ∀ W : World, (∀ k, B ≤ k → k < w.heap.size → W.heap[k]? = w.heap[k]?) → FV W A n c T
theorem FS.fv {w : World} {B : Nat} {A : Option Addr} {n c : Nat} {T : Nat → Kp} (h : FS w B A n c T) : FV w A n c T := h w (fun _ _ _ => rfl)
theorem FS.below {w w' : World} {B : Nat} {A : Option Addr} {n c : Nat} {T : Nat → Kp} (h : FS w B A n c T) (hb : Below w.heap.size w w') : FS w' B A n c T := fun W hW => h W (fun k h1 h2 => (hW k h1 (Nat.lt_of_lt_of_le h2 hb.size)).trans (hb.block k h2))
theorem FS.grown {w w' : World} {B g : Nat} {A : Option Addr} {n c : Nat} {T : Nat → Kp} (h : FS w B A n c T) (hg : w.grownBy w' (some g)) (hB : g < B) : FS w' B A n c T := fun W hW => h W (fun k h1 h2 => (hW k h1 (Nat.lt_of_lt_of_le h2 hg.size)).trans (hg.block k h2 (fun e => by injection e; omega)))
theorem FS.congr {w : World} {B : Nat} {A : Option Addr} {n c : Nat} {T T' : Nat → Kp} (h : FS w B A n c T) (e : ∀ i, i < n → T i = T' i) : FS w B A n c T' := fun W hW => (h W hW).congr e
def FsPost (w : World) (E : Nat) (F : Fc) (x : Ending) (w' : World) : Prop := ∃ A c, x = .returned (.tuple #[.agg #[.int .u32 (F.ep : Int), .slice A F.n c], .int .i64 (E : Int)]) ∧ FS w' w.heap.size A F.n c F.T ∧ Below w.heap.size w w'
def RgR (w : World) (p gf gr ep n : Nat) (l : List Nat) (s : Ent.St) (i : Value) (wr : World) : Prop := ∃ (j : Nat) (A : Option Addr) (c : Nat) (X : Nat → Kx), j ≤ n ∧ i = .int .i64 (j : Int) ∧ Rf wr p (rdSt fpos l s j) l ∧ GM w p gf gr ep A j c wr.heap.size X wr ∧ ∀ i, i < j → (X i).k = rdE fpos l s i
theorem GM.fs {w W : World} {A : Option Addr} {j c m p gf gr ep : Nat} {X : Nat → Kx} {w0 : World} {T : Nat → Kp} (h : GM w0 p gf gr ep A j c m X w) (e : ∀ i, i < j → (X i).k = T i) (hk : ∀ k, gf + 1 ≤ k → k < w.heap.size → W.heap[k]? = w.heap[k]?) : FV W A j c T := by
  have hm := h.mw
  obtain ⟨A', c', hv, h1, h2, h3, _⟩ := h.row.slice
  injection hv with z1 z2 z3
  subst z1 z3
  refine ⟨h1, h2, h3, X, OwnK.ks (h.row.same (fun k q => hk k (h.row.block k q) (h.row.blockLt k q))) (fun i hi => ⟨?_, ?_, (h.b i hi).1, (h.b i hi).2.1, (h.b i hi).2.2⟩), e⟩
  · exact ((h.ta i hi).same (w' := W) (fun k q1 q2 q3 => ⟨hk k q1 (by omega), q3⟩) (Nat.le_refl _)).reads
  · exact ((h.tr i hi).same (w' := W) (fun k q1 q2 q3 => ⟨hk k q1 (by omega), q3⟩) (Nat.le_refl _)).reads
theorem GM.fsput {w W : World} {A : Option Addr} {j c m p gf gr ep : Nat} {X : Nat → Kx} {w0 : World} {T : Nat → Kp} (h : GM w0 p gf gr ep A j c m X w) (e : ∀ i, i < j → (X i).k = T i) (u v : Value) : FS ((w.setCell ⟨gr, 0, none⟩ u).setCell ⟨gr, 1, none⟩ v) gr A j c T := by
  intro W hW
  have hp := h.hp
  have hf := h.hf
  refine h.fs e (fun k h1 h2 => ?_)
  rw [hW k (by omega) (by rw [size_put, size_put]; exact h2), heap_setCell_other _ ⟨gr, 1, none⟩ k v (by show k ≠ gr; omega), heap_setCell_other _ ⟨gr, 0, none⟩ k u (by show k ≠ gr; omega)]
set_option maxHeartbeats 16000000 in
theorem rget_any (A0 : Option Addr) (n0 c0 : Nat) (l : List Nat) (w : World) (hB : Bys w A0 n0 l) (hn0 : n0 ≤ 190000) (hnc : n0 ≤ c0) (hcm : c0 ≤ maxLen) : Calls Try.prog 35 #[.slice A0 n0 c0] w (FsPost w (getE fpos l) (getF fpos l)) := by
  have hll : l.length = n0 := hB.1
  have hsm := hB.2.1
  have HSM := Lib.hid hsm
  have hl2 : l.length ≤ 200000 := by omega
  have R0 : Rf ((w.alloc (.cells #[.int .u32 0, .slice none 0 0] 25)).alloc (.cells #[.slice A0 n0 c0, .int .i64 0, .bool false] 111)) (w.heap.size + 1) (0, false) l := by
    refine ⟨A0, c0, ?_, by rw [hll]; exact (hB.alloc _).alloc _, ?_, Nat.zero_le _, by omega, hcm⟩
    · rw [hll]; exact Lies.made2 w _ 111 _
    · intro h0 ad e
      obtain ⟨b, off, e2, hc⟩ := hB.2.2 (by omega)
      have := block_lt_of_cell (hc 0 (by omega))
      rw [e2] at e; injection e with e; subst e; show b < _; simp at this; omega
  have RF0 := Lib.hid R0
  have LR0 : Hid (Lies ((w.alloc (.cells #[.int .u32 0, .slice none 0 0] 25)).alloc (.cells #[.slice A0 n0 c0, .int .i64 0, .bool false] 111)) w.heap.size 25 #[.int .u32 0, .slice none 0 0]) := Lib.hid ((Lies.made w 25 #[.int .u32 0, .slice none 0 0]).alloc (.cells #[.slice A0 n0 c0, .int .i64 0, .bool false] 111))
  have BB0 := Lib.hid (below2 w (.cells #[.int .u32 0, .slice none 0 0] 25) (.cells #[.slice A0 n0 c0, .int .i64 0, .bool false] 111))
  have HB5 := Lib.hid (fun W (hb : Below w.heap.size w W) => hB.below hb)
  have C4 : Hid (∀ p s W, Rf W p s l → Calls Try.prog 62 #[.pointer (some ⟨p, 0, none⟩), .int .i64 4] W (RfnPost W p 4 l s)) := Lib.hid (fun p s W h => rfnum_any p 4 s l W h (by omega) (by omega) hl2)
  have C1 : Hid (∀ p s W, Rf W p s l → Calls Try.prog 62 #[.pointer (some ⟨p, 0, none⟩), .int .i64 1] W (RfnPost W p 1 l s)) := Lib.hid (fun p s W h => rfnum_any p 1 s l W h (by omega) (by omega) hl2)
  have CT := Lib.hid (fun p s W h => rftext_any p s l W h hl2)
  unfold RfnPost at C4 C1
  unfold RftPost at CT
  have HEP : Hid (rEp l < 4294967296) := Lib.hid (by have := Ent.rnum_lt l hsm 4 (0, false); show (Ent.rnum l 4 (0, false)).1 < _; omega)
  have HNL : Hid (rN l < 256) := Lib.hid (by have := Ent.rnum_lt l hsm 1 (Ent.rnum l 4 (0, false)).2; show (Ent.rnum l 1 (Ent.rnum l 4 (0, false)).2).1 < _; omega)
  have HYES := Lib.hid (fun h => getF_yes (f := fpos) (l := l) h)
  have HNOT := Lib.hid (fun h => getF_no (f := fpos) (l := l) h)
  have HIS : Hid (isF fpos l ↔ (okB (rN l) (rdE fpos l (rS l)) = true ∧ putS (rEp l) (rN l) (rdE fpos l (rS l)) = l)) := Lib.hid Iff.rfl
  have C4a := Lib.hid (C4.out (w.heap.size + 1) (0, false))
  have C1a := Lib.hid (fun p => C1.out p (Ent.rnum l 4 (0, false)).2)
  generalize hE : rEp l = ep at *
  generalize hN : rN l = n at *
  generalize hS : rS l = s2 at *
  unfold rEp at hE
  unfold rN at hN
  unfold rS at hS
  rw [hE] at C4a
  obtain ⟨s1, hs1⟩ : ∃ q, (Ent.rnum l 4 (0, false)).2 = q := ⟨_, rfl⟩
  rw [hs1] at C4a C1a hN hS
  rw [hN, hS] at C1a
  clear hE hN hS hs1 hB hsm R0
  generalize getF fpos l = gF at *
  generalize getE fpos l = gE at *
  have hw1 : IntKind.u32.wrap (ep : Int) = (ep : Int) := by have := HEP.out; rw [IntKind.wrap_u32]; omega
  have hw2 : IntKind.i64.wrap (n : Int) = (n : Int) := IntWalk.i64_in _ (by have := HNL.out; omega)
  go_enter Try.func35, Try.ntmps35
  go_wp2_with fail
  with_reducible refine (C4a.out _ RF0.out).mono ?_
  rintro x w1 ⟨rfl, hr, hg⟩
  have LR1 := Lib.hid ((LR0.out.grown hg (fun e => by injection e; omega)).alloc (.cells #[.int .u32 (ep : Int), .slice none 0 0] 25))
  have hb1 := BB0.out.grown hg BB0.out.size (fun k hk => by injection hk; omega)
  have BB1 := Lib.hid (hb1.alloc hb1.size (.cells #[.int .u32 (ep : Int), .slice none 0 0] 25))
  have HPF : Hid (w.heap.size + 1 < w1.heap.size) := Lib.hid hr.lt
  have RF1 := Lib.hid (hr.below (below1 w1 (.cells #[.int .u32 (ep : Int), .slice none 0 0] 25)))
  have LF1 := Lib.hid (Lies.made w1 25 #[.int .u32 (ep : Int), .slice none 0 0])
  clear hr hg hb1 LR0 BB0 RF0 C4a
  go_wp2_with fail
  with_reducible refine (C1a.out _ _ RF1.out).mono ?_
  rintro x w2 ⟨rfl, hr, hg⟩
  obtain ⟨gr, hgr⟩ : ∃ g, g = w.heap.size := ⟨_, rfl⟩
  obtain ⟨p, hp⟩ : ∃ g, g = w.heap.size + 1 := ⟨_, rfl⟩
  obtain ⟨gf, hgf⟩ : ∃ g, g = w1.heap.size := ⟨_, rfl⟩
  have GM2 : GM w p gf gr ep none 0 0 w2.heap.size (fun _ => ⟨kz, .slice none 0 0, .slice none 0 0⟩) w2 := by
    have h1 := HPF.out
    have hz := hg.size
    have hz1 : (w1.alloc (.cells #[.int .u32 (ep : Int), .slice none 0 0] 25)).heap.size = w1.heap.size + 1 := by simp
    refine ⟨?_, ?_, OwnK.nil _ _ _, (fun k hk => by cases hk), fun i hi => absurd hi (Nat.not_lt_zero i), fun i hi => absurd hi (Nat.not_lt_zero i), fun i hi => absurd hi (Nat.not_lt_zero i), ?_, hgr.symm, by omega, by omega, by omega, Nat.le_refl _⟩
    · rw [hgf]; exact LF1.out.grown hg (fun e => by injection e; omega)
    · rw [hgr]; exact LR1.out.grown hg (fun e => by injection e; omega)
    · rw [hgr]; exact BB1.out.grown hg BB1.out.size (fun k hk => by injection hk; omega)
  have HGM := Lib.hid GM2
  have HRF := Lib.hid hr
  rw [← hp] at HRF
  have HGR := Lib.hid hgr
  clear GM2 hr hg LF1 LR1 RF1 BB1 HPF C1a
  go_wp2_with fail
  rw [← hgf, ← hp, ← hgr]
  clear hgf hp hgr
  have hn255 : n < 256 := HNL.out
  go_loopw [7] (RgR w p gf gr ep n l s2) (fun i _ => n - (intOf i).toNat)
  case atStart => exact ⟨0, none, 0, _, by omega, rfl, HRF.out, HGM.out, fun i hi => absurd hi (Nat.not_lt_zero i)⟩
  case round =>
    clear HGM HRF hw1 hw2
    obtain ⟨j, A, c, X, hj, rfl, hrf, hgm, hx⟩ := hrel
    have RFj := Lib.hid hrf
    have GMj := Lib.hid hgm
    have HX := Lib.hid hx
    clear hrf hgm hx
    by_cases hlt : j < n
    · have dj : decide ((j : Int) < (n : Int)) = true := by rw [decide_eq_true_iff]; omega
      have djb : decide (j < n) = true := decide_eq_true hlt
      have HKJ : Hid (rdE fpos l s2 j = (rdK fpos l (rdSt fpos l s2 j)).1 ∧ rdSt fpos l s2 (j + 1) = (rdK fpos l (rdSt fpos l s2 j)).2) := Lib.hid ⟨rfl, rfl⟩
      obtain ⟨s, hs⟩ : ∃ q, rdSt fpos l s2 j = q := ⟨_, rfl⟩
      rw [hs] at HKJ RFj
      clear hs
      unfold rdK at HKJ
      dsimp only at HKJ
      have hsm := HSM.out
      have K1 := Lib.hid (C4.out p s)
      have b1 := Ent.rnum_lt l hsm 4 s
      obtain ⟨r1, hr1⟩ : ∃ q, Ent.rnum l 4 s = q := ⟨_, rfl⟩
      rw [hr1] at K1 b1 HKJ
      have K2 := Lib.hid (C1.out p r1.2)
      have b2 := Ent.rnum_lt l hsm 1 r1.2
      obtain ⟨r2, hr2⟩ : ∃ q, Ent.rnum l 1 r1.2 = q := ⟨_, rfl⟩
      rw [hr2] at K2 b2 HKJ
      have K3 := Lib.hid (C1.out p r2.2)
      have b3 := Ent.rnum_lt l hsm 1 r2.2
      obtain ⟨r3, hr3⟩ : ∃ q, Ent.rnum l 1 r2.2 = q := ⟨_, rfl⟩
      rw [hr3] at K3 b3 HKJ
      have K4 := Lib.hid (C1.out p r3.2)
      have b4 := Ent.rnum_lt l hsm 1 r3.2
      obtain ⟨r4, hr4⟩ : ∃ q, Ent.rnum l 1 r3.2 = q := ⟨_, rfl⟩
      rw [hr4] at K4 b4 HKJ
      have K5 := Lib.hid (CT.out p r4.2)
      obtain ⟨r5, hr5⟩ : ∃ q, Ent.rtxt l r4.2 = q := ⟨_, rfl⟩
      rw [hr5] at K5 HKJ
      have K6 := Lib.hid (CT.out p r5.2)
      obtain ⟨r6, hr6⟩ : ∃ q, Ent.rtxt l r5.2 = q := ⟨_, rfl⟩
      rw [hr6] at K6 HKJ
      clear hr1 hr2 hr3 hr4 hr5 hr6 hsm
      obtain ⟨n1, s1⟩ := r1
      obtain ⟨n2, t2⟩ := r2
      obtain ⟨n3, t3⟩ := r3
      obtain ⟨n4, t4⟩ := r4
      obtain ⟨l5, t5⟩ := r5
      obtain ⟨l6, t6⟩ := r6
      dsimp only at *
      have hv1 : IntKind.u32.wrap (n1 : Int) = (n1 : Int) := by rw [IntKind.wrap_u32]; omega
      have hv2 : IntKind.i64.wrap (n2 : Int) = (n2 : Int) := IntWalk.i64_in _ (by omega)
      have hv4 : IntKind.i64.wrap (n4 : Int) = (n4 : Int) := IntWalk.i64_in _ (by omega)
      have HB1 := Lib.hid b1
      have HB2 := Lib.hid b2
      have HB4 := Lib.hid b4
      clear b1 b2 b3 b4
      have GM0 := Lib.hid (GMj.out.alloc (.cells #[.int .u32 0, .int .i64 0, .bool false, .slice none 0 0, .int .i64 0, .slice none 0 0] 34))
      have LK0 := Lib.hid (Lies.made wr 34 #[.int .u32 0, .int .i64 0, .bool false, .slice none 0 0, .int .i64 0, .slice none 0 0])
      have RF0 := Lib.hid (RFj.out.below (below1 wr (.cells #[.int .u32 0, .int .i64 0, .bool false, .slice none 0 0, .int .i64 0, .slice none 0 0] 34)))
      have HPW : Hid (p < wr.heap.size) := Lib.hid RFj.out.lt
      have HRB : Hid (∀ k, (Value.slice A j c).ownBlock = some k → k < wr.heap.size) := Lib.hid GMj.out.rm
      have HFW : Hid (gf < wr.heap.size) := Lib.hid GMj.out.fm
      have HPF : Hid (p < gf) := Lib.hid GMj.out.hf
      clear RFj GMj
      go_wp2_with fail
      with_reducible refine (K1.out _ RF0.out).mono ?_
      rintro x w1 ⟨rfl, hr, hg⟩
      have LKa := Lib.hid (LK0.out.grown hg (fun e => by have := HPW.out; injection e; omega))
      have GMa := Lib.hid (GM0.out.grown hg)
      have LK1x := Lib.hid (LKa.out.put 0 (.int .u32 (n1 : Int)))
      have GM1 := Lib.hid (GMa.out.setq (Nat.le_refl wr.heap.size) 0 (.int .u32 (n1 : Int)))
      have RF1 := Lib.hid (hr.setq HPW.out 0 (.int .u32 (n1 : Int)))
      obtain ⟨a1_0, a1_1, a1_2, a1_3, a1_4, a1_5⟩ := LKa.out.cells6
      obtain ⟨f1_0, f1_1, f1_2, f1_3, f1_4, f1_5⟩ := LKa.out.free6
      have LK1 : Hid (Lies (w1.setCell ⟨wr.heap.size, 0, none⟩ (.int .u32 (n1 : Int))) wr.heap.size 34 #[.int .u32 (n1 : Int), .int .i64 0, .bool false, .slice none 0 0, .int .i64 0, .slice none 0 0]) := LK1x
      clear LK1x LKa GMa LK0 GM0 RF0 hr hg
      go_wp2_with fail
      with_reducible refine (K2.out _ RF1.out).mono ?_
      rintro x w2 ⟨rfl, hr, hg⟩
      have LKa := Lib.hid (LK1.out.grown hg (fun e => by have := HPW.out; injection e; omega))
      have GMa := Lib.hid (GM1.out.grown hg)
      have LK2x := Lib.hid (LKa.out.put 1 (.int .i64 (n2 : Int)))
      have GM2 := Lib.hid (GMa.out.setq (Nat.le_refl wr.heap.size) 1 (.int .i64 (n2 : Int)))
      have RF2 := Lib.hid (hr.setq HPW.out 1 (.int .i64 (n2 : Int)))
      obtain ⟨a2_0, a2_1, a2_2, a2_3, a2_4, a2_5⟩ := LKa.out.cells6
      obtain ⟨f2_0, f2_1, f2_2, f2_3, f2_4, f2_5⟩ := LKa.out.free6
      have LK2 : Hid (Lies (w2.setCell ⟨wr.heap.size, 1, none⟩ (.int .i64 (n2 : Int))) wr.heap.size 34 #[.int .u32 (n1 : Int), .int .i64 (n2 : Int), .bool false, .slice none 0 0, .int .i64 0, .slice none 0 0]) := LK2x
      clear LK2x LKa GMa LK1 GM1 RF1 hr hg
      go_wp2_with fail
      with_reducible refine (K3.out _ RF2.out).mono ?_
      rintro x w3 ⟨rfl, hr, hg⟩
      have LKa := Lib.hid (LK2.out.grown hg (fun e => by have := HPW.out; injection e; omega))
      have GMa := Lib.hid (GM2.out.grown hg)
      have LK3x := Lib.hid (LKa.out.put 2 (.bool (decide (0 < n3))))
      have GM3 := Lib.hid (GMa.out.setq (Nat.le_refl wr.heap.size) 2 (.bool (decide (0 < n3))))
      have RF3 := Lib.hid (hr.setq HPW.out 2 (.bool (decide (0 < n3))))
      obtain ⟨a3_0, a3_1, a3_2, a3_3, a3_4, a3_5⟩ := LKa.out.cells6
      obtain ⟨f3_0, f3_1, f3_2, f3_3, f3_4, f3_5⟩ := LKa.out.free6
      have LK3 : Hid (Lies (w3.setCell ⟨wr.heap.size, 2, none⟩ (.bool (decide (0 < n3)))) wr.heap.size 34 #[.int .u32 (n1 : Int), .int .i64 (n2 : Int), .bool (decide (0 < n3)), .slice none 0 0, .int .i64 0, .slice none 0 0]) := LK3x
      clear LK3x LKa GMa LK2 GM2 RF2 hr hg
      go_wp2_with fail
      with_reducible refine (K4.out _ RF3.out).mono ?_
      rintro x w4 ⟨rfl, hr, hg⟩
      have LKa := Lib.hid (LK3.out.grown hg (fun e => by have := HPW.out; injection e; omega))
      have GMa := Lib.hid (GM3.out.grown hg)
      have LK4x := Lib.hid (LKa.out.put 4 (.int .i64 (n4 : Int)))
      have GM4 := Lib.hid (GMa.out.setq (Nat.le_refl wr.heap.size) 4 (.int .i64 (n4 : Int)))
      have RF4 := Lib.hid (hr.setq HPW.out 4 (.int .i64 (n4 : Int)))
      obtain ⟨a4_0, a4_1, a4_2, a4_3, a4_4, a4_5⟩ := LKa.out.cells6
      obtain ⟨f4_0, f4_1, f4_2, f4_3, f4_4, f4_5⟩ := LKa.out.free6
      have LK4 : Hid (Lies (w4.setCell ⟨wr.heap.size, 4, none⟩ (.int .i64 (n4 : Int))) wr.heap.size 34 #[.int .u32 (n1 : Int), .int .i64 (n2 : Int), .bool (decide (0 < n3)), .slice none 0 0, .int .i64 (n4 : Int), .slice none 0 0]) := LK4x
      clear LK4x LKa GMa LK3 GM3 RF3 hr hg
      go_wp2_with fail
      with_reducible refine (K5.out _ RF4.out).mono ?_
      rintro x w5 ⟨v5, rfl, ho, hr, hg⟩
      have TX5 := Lib.hid ho
      obtain ⟨A5, c5, rfl, -⟩ := ho
      have SZ5 := Lib.hid (show wr.heap.size < _ from LK4.out.lt)
      have LKa := Lib.hid (LK4.out.grown hg (fun e => by have := HPW.out; injection e; omega))
      have GMa := Lib.hid (GM4.out.grown hg)
      have LK5x := Lib.hid (LKa.out.put 3 (.slice A5 l5.length c5))
      have GM5 := Lib.hid (GMa.out.setq (Nat.le_refl wr.heap.size) 3 (.slice A5 l5.length c5))
      have RF5 := Lib.hid (hr.setq HPW.out 3 (.slice A5 l5.length c5))
      have TX5b := Lib.hid (TX5.out.put SZ5.out (o := 3) (.slice A5 l5.length c5))
      obtain ⟨a5_0, a5_1, a5_2, a5_3, a5_4, a5_5⟩ := LKa.out.cells6
      obtain ⟨f5_0, f5_1, f5_2, f5_3, f5_4, f5_5⟩ := LKa.out.free6
      have LK5 : Hid (Lies (w5.setCell ⟨wr.heap.size, 3, none⟩ (.slice A5 l5.length c5)) wr.heap.size 34 #[.int .u32 (n1 : Int), .int .i64 (n2 : Int), .bool (decide (0 < n3)), .slice A5 l5.length c5, .int .i64 (n4 : Int), .slice none 0 0]) := LK5x
      clear LK5x LKa GMa LK4 GM4 RF4 hr hg
      go_wp2_with fail
      with_reducible refine (K6.out _ RF5.out).mono ?_
      rintro x w6 ⟨v6, rfl, ho, hr, hg⟩
      have TX6 := Lib.hid ho
      obtain ⟨A6, c6, rfl, -⟩ := ho
      have SZ6 := Lib.hid (show wr.heap.size < _ from LK5.out.lt)
      have LKa := Lib.hid (LK5.out.grown hg (fun e => by have := HPW.out; injection e; omega))
      have GMa := Lib.hid (GM5.out.grown hg)
      have TX5c := Lib.hid (TX5b.out.grown (Nat.lt_trans HPW.out SZ5.out) hg)
      have HS6 := Lib.hid hg.size
      have LK6x := Lib.hid (LKa.out.put 5 (.slice A6 l6.length c6))
      have GM6 := Lib.hid (GMa.out.setq (Nat.le_refl wr.heap.size) 5 (.slice A6 l6.length c6))
      have RF6 := Lib.hid (hr.setq HPW.out 5 (.slice A6 l6.length c6))
      have TX6b := Lib.hid (TX6.out.put SZ6.out (o := 5) (.slice A6 l6.length c6))
      have TX5d := Lib.hid (TX5c.out.put SZ5.out (o := 5) (.slice A6 l6.length c6))
      obtain ⟨a6_0, a6_1, a6_2, a6_3, a6_4, a6_5⟩ := LKa.out.cells6
      obtain ⟨f6_0, f6_1, f6_2, f6_3, f6_4, f6_5⟩ := LKa.out.free6
      have LK6 : Hid (Lies (w6.setCell ⟨wr.heap.size, 5, none⟩ (.slice A6 l6.length c6)) wr.heap.size 34 #[.int .u32 (n1 : Int), .int .i64 (n2 : Int), .bool (decide (0 < n3)), .slice A5 l5.length c5, .int .i64 (n4 : Int), .slice A6 l6.length c6]) := LK6x
      clear LK6x LKa GMa LK5 GM5 RF5 hr hg
      go_upto_region 14 with fail
      obtain ⟨z6, hz6⟩ : ∃ z, z = w6.setCell ⟨wr.heap.size, 5, none⟩ (.slice A6 l6.length c6) := ⟨_, rfl⟩
      have HZ6 : Hid (z6.heap.size = w6.heap.size) := Lib.hid (by rw [hz6, size_put])
      rw [← hz6]
      rw [← hz6] at LK6 GM6 RF6 TX5d TX6b
      clear hz6
      clear a1_0 f1_0 a1_1 f1_1 a1_2 f1_2 a1_3 f1_3 a1_4 f1_4 a1_5 f1_5 a2_0 f2_0 a2_1 f2_1 a2_2 f2_2 a2_3 f2_3 a2_4 f2_4 a2_5 f2_5 a3_0 f3_0 a3_1 f3_1 a3_2 f3_2 a3_3 f3_3 a3_4 f3_4 a3_5 f3_5 a4_0 f4_0 a4_1 f4_1 a4_2 f4_2 a4_3 f4_3 a4_4 f4_4 a4_5 f4_5 a5_0 f5_0 a5_1 f5_1 a5_2 f5_2 a5_3 f5_3 a5_4 f5_4 a5_5 f5_5 a6_0 f6_0 a6_1 f6_1 a6_2 f6_2 a6_3 f6_3 a6_4 f6_4 a6_5 f6_5
      have TA := Lib.hid (Tx.txM (B := gf + 1) (m := z6.heap.size) (row := .slice A j c) TX5d.out (by have := SZ5.out; have := HFW.out; omega) (Nat.le_refl _) (fun k hk => Nat.lt_trans (HRB.out k hk) SZ5.out))
      have TR := Lib.hid (Tx.txM (B := gf + 1) (m := z6.heap.size) (row := .slice A j c) TX6b.out (by have := SZ6.out; have := HFW.out; omega) (Nat.le_refl _) (fun k hk => Nat.lt_trans (HRB.out k hk) SZ6.out))
      have LG : Hid (Lies (z6.alloc (.cells #[.int .u32 (n1 : Int), .int .i64 (n2 : Int), .bool (decide (0 < n3)), .slice A5 l5.length c5, .int .i64 (n4 : Int), .slice A6 l6.length c6] 34)) z6.heap.size 34 #[.int .u32 (n1 : Int), .int .i64 (n2 : Int), .bool (decide (0 < n3)), .slice A5 l5.length c5, .int .i64 (n4 : Int), .slice A6 l6.length c6]) := Lib.hid (Lies.made z6 34 #[.int .u32 (n1 : Int), .int .i64 (n2 : Int), .bool (decide (0 < n3)), .slice A5 l5.length c5, .int .i64 (n4 : Int), .slice A6 l6.length c6])
      have GM7 := Lib.hid (GM6.out.alloc (.cells #[.int .u32 (n1 : Int), .int .i64 (n2 : Int), .bool (decide (0 < n3)), .slice A5 l5.length c5, .int .i64 (n4 : Int), .slice A6 l6.length c6] 34))
      have HYB : Hid ((n1 : Nat) < 4294967296 ∧ in64 (n2 : Int) ∧ in64 (n4 : Int)) := Lib.hid ⟨by have := HB1.out; omega, by have := HB2.out; unfold in64; omega, by have := HB4.out; unfold in64; omega⟩
      have HKS : Hid (Ks (z6.alloc (.cells #[.int .u32 (n1 : Int), .int .i64 (n2 : Int), .bool (decide (0 < n3)), .slice A5 l5.length c5, .int .i64 (n4 : Int), .slice A6 l6.length c6] 34)) (some ⟨z6.heap.size, 0, none⟩) 1 (fun _ => ⟨⟨n1, (n2 : Int), decide (0 < n3), l5, (n4 : Int), l6⟩, .slice A5 l5.length c5, .slice A6 l6.length c6⟩)) := Lib.hid (by
        refine ⟨fun _ => ⟨z6.heap.size, 0, rfl, fun k hk i hi => ?_⟩, fun _ _ => ⟨TA.out.reads.below (below1 _ _), TR.out.reads.below (below1 _ _), HYB.out.1, HYB.out.2.1, HYB.out.2.2⟩⟩
        rw [LG.out.cell]
        obtain rfl : k = 0 := by omega
        simp)
      have hsz : gf + 1 ≤ (z6.alloc (.cells #[.int .u32 (n1 : Int), .int .i64 (n2 : Int), .bool (decide (0 < n3)), .slice A5 l5.length c5, .int .i64 (n4 : Int), .slice A6 l6.length c6] 34)).heap.size := Nat.le_trans GM7.out.fm GM7.out.mw
      obtain ⟨k0, k1, k2, k3, k4, k5⟩ := LK6.out.cells6
      obtain ⟨q0, q1⟩ := GM6.out.lf.cells2
      go_wp2_with (first
        | ((with_reducible refine wpl_appendK (some 53) _ _ _ (.tmp 50) (.tmp 52) (gf + 1) (.slice A j c) j X (some ⟨z6.heap.size, 0, none⟩) 1 1 (fun _ => ⟨⟨n1, (n2 : Int), decide (0 < n3), l5, (n4 : Int), l6⟩, .slice A5 l5.length c5, .slice A6 l6.length c6⟩) ?hs ?hx GM7.out.row HKS.out ?ha ?hm hsz ?_); (case hs => rfl); (case hx => rfl); (case ha => (intro h; cases h)); (case hm => omega); (intro v' w9 ho hgr hv); (obtain ⟨A9, c9, rfl, -⟩ := OwnK.slice ho); (have HO9 := Lib.hid ho); (have HG9 := Lib.hid hgr); (have HV9 := Lib.hid hv); (have LF9 := Lib.hid (Lies.grown GM7.out.lf hgr (fun e => by have := GM7.out.row.block gf e.symm; omega))); (clear ho hgr hv q0 q1 k0 k1 k2 k3 k4 k5); (obtain ⟨q0, q1⟩ := Lies.cells2 LF9.out); (obtain ⟨qf0, qf1⟩ := Lies.free2 LF9.out)))
      go_roundw
      case rel =>
        have hO : OwnK w9 (gf + 1) (.slice A9 (j + 1) c9) (j + 1) (fun i => if i < j then X i else ⟨⟨n1, (n2 : Int), decide (0 < n3), l5, (n4 : Int), l6⟩, .slice A5 l5.length c5, .slice A6 l6.length c6⟩) := HO9.out
        have hM := GM.snoc (y := ⟨⟨n1, (n2 : Int), decide (0 < n3), l5, (n4 : Int), l6⟩, .slice A5 l5.length c5, .slice A6 l6.length c6⟩) GM6.out TA.out TR.out HYB.out hO HG9.out HV9.out
        refine ⟨j + 1, A9, c9, (fun i => if i < j then X i else ⟨⟨n1, (n2 : Int), decide (0 < n3), l5, (n4 : Int), l6⟩, .slice A5 l5.length c5, .slice A6 l6.length c6⟩), by omega, by go_num, ?_, ?_, ?_⟩
        · rw [HKJ.out.2]; exact RF6.out.snoc HPF.out HG9.out (fun k hk => by have := GM6.out.row.block k hk; omega) _
        · exact hM.up
        · intro i hi
          show (if i < j then X i else _).k = _
          by_cases e : i < j
          · rw [if_pos e]; exact HX.out i e
          · obtain rfl : i = j := by omega
            rw [if_neg e, HKJ.out.1]; rfl
      case measure => simp [intOf]; omega
    · have dj : decide ((j : Int) < (n : Int)) = false := by rw [decide_eq_false_iff_not]; omega
      have djb : decide (j < n) = false := decide_eq_false hlt
      have hjn : j = n := by omega
      rw [hjn] at GMj HX
      have HFV : Hid (FV wr A n c (rdE fpos l s2)) := Lib.hid (GMj.out.fv HX.out)
      have CP := Lib.hid (rputf_any ep A n c (rdE fpos l s2) wr HFV.out HEP.out)
      unfold PutPost at CP
      obtain ⟨t0, t1⟩ := GMj.out.lf.cells2
      cases hok : okB n (rdE fpos l s2)
      · have hck : chkC n (rdE fpos l s2) = 2 := by unfold chkC; rw [hok]; rfl
        rw [hck] at CP
        rw [hok] at CP
        rw [if_neg (by decide)] at CP
        go_wp2_with fail
        with_reducible refine CP.out.mono ?_
        rintro x w5 ⟨v, rfl, ho, hb⟩
        obtain ⟨Ap, cp, rfl, -⟩ := ho.slice
        have HO := Lib.hid ho
        have GM5 := Lib.hid (GMj.out.below hb)
        clear ho hb t0 t1 CP
        obtain ⟨t0, t1⟩ := GM5.out.lf.cells2
        obtain ⟨a0, a1⟩ := GM5.out.lr.cells2
        obtain ⟨a2, a3⟩ := GM5.out.lr.free2
        have HBW := Lib.hid (HB5.out w5 (by have h := GM5.out.bel; rw [HGR.out] at h; exact h))
        have HNI : Hid (¬ isF fpos l) := Lib.hid (fun h => by have h2 := (HIS.out.1 h).1; rw [hok] at h2; cases h2)
        go_wp2
        refine ret_fence gr 25 _ rfl rfl (GM5.out.lr.put2 _ _) rfl rfl ?_
        rw [(HNOT.out HNI.out).1, (HNOT.out HNI.out).2]
        exact ⟨none, 0, rfl, fun W _ => FV.nil W _, by have h := GM5.out.bel; rw [HGR.out] at h; have h2 := below_put2 h (Nat.le_of_eq HGR.out.symm) (.int .u32 0) (.slice none 0 0); exact h2⟩
      · have hck : chkC n (rdE fpos l s2) = 0 := by unfold chkC; rw [hok]; rfl
        rw [hck] at CP
        rw [hok] at CP
        rw [if_pos rfl] at CP
        go_wp2_with fail
        with_reducible refine CP.out.mono ?_
        rintro x w5 ⟨v, rfl, ho, hb⟩
        obtain ⟨Ap, cp, rfl, -⟩ := ho.slice
        have HO := Lib.hid ho
        have GM5 := Lib.hid (GMj.out.below hb)
        clear ho hb t0 t1 CP
        obtain ⟨t0, t1⟩ := GM5.out.lf.cells2
        obtain ⟨a0, a1⟩ := GM5.out.lr.cells2
        obtain ⟨a2, a3⟩ := GM5.out.lr.free2
        have HBW := Lib.hid (HB5.out w5 (by have h := GM5.out.bel; rw [HGR.out] at h; exact h))
        have q1 := run_str HO.out.bys.1 cp
        have q2 := run_str HBW.out c0
        have q3 := str_eq (putS ep n (rdE fpos l s2)) l HO.out.bys.1.2.1 HBW.out.2.1
        by_cases heq : putS ep n (rdE fpos l s2) = l
        · have HYI := Lib.hid (HIS.out.2 ⟨hok, heq⟩)
          have hsb : sameB (putS ep n (rdE fpos l s2)) l = true := by unfold sameB; exact decide_eq_true heq
          rw [hsb] at q3
          generalize (putS ep n (rdE fpos l s2)).length = pl at *
          generalize str (putS ep n (rdE fpos l s2)) = S1 at *
          generalize str l = S2 at *
          clear heq hsb
          go_wp2
          refine ret_fence gr 25 _ rfl rfl (GM5.out.lr.put2 _ _) rfl rfl ?_
          rw [(HYES.out HYI.out).1, (HYES.out HYI.out).2]
          exact ⟨A, c, rfl, by have h := GM.fsput (W := w5) GM5.out HX.out (.int .u32 (ep : Int)) (.slice A n c); rw [HGR.out] at h ⊢; exact h, by have h := GM5.out.bel; rw [HGR.out] at h; exact below_put2 h (Nat.le_of_eq HGR.out.symm) _ _⟩
        · have HNI : Hid (¬ isF fpos l) := Lib.hid (fun h => heq (HIS.out.1 h).2)
          have hsb : sameB (putS ep n (rdE fpos l s2)) l = false := by unfold sameB; exact decide_eq_false heq
          rw [hsb] at q3
          generalize (putS ep n (rdE fpos l s2)).length = pl at *
          generalize str (putS ep n (rdE fpos l s2)) = S1 at *
          generalize str l = S2 at *
          clear heq hsb
          go_wp2
          refine ret_fence gr 25 _ rfl rfl (GM5.out.lr.put2 _ _) rfl rfl ?_
          rw [(HNOT.out HNI.out).1, (HNOT.out HNI.out).2]
          exact ⟨none, 0, rfl, fun W _ => FV.nil W _, by have h := GM5.out.bel; rw [HGR.out] at h; have h2 := below_put2 h (Nat.le_of_eq HGR.out.symm) (.int .u32 0) (.slice none 0 0); exact h2⟩

end Go.Proofs.Ytfcfejmammohpaa
