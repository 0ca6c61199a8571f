/-
  The contracts of onlyHas and note.Check: for every note.
-/
import Derived.Test.YtfcfejmammohpaaNZero
namespace Go.Proofs.Ytfcfejmammohpaa
open Go.RowKit
set_option maxRecDepth 100000

def OhR (w : World) (s : List Nat) (e : Note) (K D : Value) (_ : Value) (wr : World) : Prop :=
  ∃ j : Nat, j ≤ 10 ∧ It wr (w.heap.size + 1) Ent.alpha j ∧ Lies wr w.heap.size 29 (evs e K D) ∧ Below w.heap.size w wr ∧ ∀ i, i < j → Ent.fine s e (Ent.alpha.getD i 0) = true
theorem only_of (s : List Nat) (e : Note) (h : ∀ i, i < 10 → Ent.fine s e (Ent.alpha.getD i 0) = true) : Ent.only s e = true := by
  unfold Ent.only
  rw [List.all_eq_true]
  intro c hc
  obtain ⟨i, hi, rfl⟩ := List.mem_iff_getElem.1 hc
  have := h i hi
  simpa [List.getD, hi] using this
theorem only_not (s : List Nat) (e : Note) (j : Nat) (hj : j < 10) (h : Ent.fine s e (Ent.alpha.getD j 0) = false) : Ent.only s e = false := by
  unfold Ent.only
  rw [List.all_eq_false]
  have hj' : j < Ent.alpha.length := hj
  refine ⟨Ent.alpha[j], List.getElem_mem hj', ?_⟩
  rw [show Ent.alpha.getD j 0 = Ent.alpha[j] from by simp [List.getD, hj']] at h
  rw [h]; decide
theorem alpha_at (j : Nat) (hj : j < 10) : Ent.alpha.getD j 0 ∈ Ent.alpha := by
  have hj' : j < Ent.alpha.length := hj
  rw [show Ent.alpha.getD j 0 = Ent.alpha[j] from by simp [List.getD, hj']]
  exact List.getElem_mem hj'

set_option maxRecDepth 100000 in
set_option maxHeartbeats 1000000 in
theorem onlyHas_any (s : List Nat) (hs : ∀ x ∈ s, x < 128) (e : Note) (A1 A2 : Option Addr) (c1 c2 : Nat) (w : World) :
    Calls Try.prog 89 #[.agg (evs e (.slice A1 e.key.length c1) (.slice A2 e.data.length c2)), .string (str s)] w (BoolPost (Ent.only s e) w) := by
  have C1 := Lib.hid (fun c (hc : c < 128) W => contains_any s c (fun x hx => by have := hs x hx; omega) hc W)
  have C2 := Lib.hid (fun c (hc : c ∈ Ent.alpha) W => isZero_any e A1 A2 c1 c2 c hc W)
  unfold BoolPost at *
  generalize Value.slice A1 e.key.length c1 = K at *
  generalize Value.slice A2 e.data.length c2 = D at *
  go_enter Try.func89, Try.ntmps89
  go_wp2_with fail
  go_loopw [6] (OhR w s e K D) (fun _ wr => 10 - wr.iterPos (w.heap.size + 1))
  case atStart => exact ⟨0, by omega, by have := It.made (w.alloc (.cells (evs e K D) 29)) Ent.alpha; rw [size_one] at this; exact this, (Lies.made w 29 _).alloc _, (below1 w _).alloc (by simp) _, fun i hi => by omega⟩
  case round =>
    obtain ⟨j, hj, hit, hL, hbel, hf⟩ := hrel
    have hpos := hit.pos
    have HF := Lib.hid hf
    have HBE := Lib.hid hbel
    have HL := Lib.hid hL
    have HIT := Lib.hid hit
    clear hf hbel hL hit
    by_cases hp : j < 10
    · have hnx := next_str HIT.out hp Ent.alpha_small
      have hca := alpha_at j hp
      have hc := Ent.alpha_small _ hca
      have hL2 := HL.out.mv HIT.out (j + 1)
      have HL2 := Lib.hid hL2
      have HIT2 := Lib.hid (HIT.out.mv (j + 1))
      have HBE2 := Lib.hid (below_mv HBE.out (k := w.heap.size + 1) (by omega) Ent.alpha (j + 1))
      obtain ⟨W, hW⟩ : ∃ W, mv wr (w.heap.size + 1) Ent.alpha (j + 1) = W := ⟨_, rfl⟩
      rw [hW] at hL2 HL2 HIT2 HBE2
      simp only [hW] at hnx
      obtain ⟨e0, e1, e2, e3, e4, e5, e6, e7, e8, e9, e10⟩ := hL2.cellsE
      obtain ⟨c, hcc⟩ : ∃ c, Ent.alpha.getD j 0 = c := ⟨_, rfl⟩
      rw [hcc] at hca hc
      simp only [hcc] at hnx
      have HCC := Lib.hid hcc
      clear hcc hL2 hW HL HIT HBE
      have hfc : Ent.fine s e c = (s.contains c || Ent.isZ c e) := rfl
      have HFC := Lib.hid hfc
      have D1 := Lib.hid (C1.out c hc)
      have D2 := Lib.hid (C2.out c hca)
      clear hfc C1 C2
      generalize s.contains c = r1 at *
      generalize Ent.isZ c e = r2 at *
      go_wp2_with fail
      with_reducible refine (D1.out _).mono ?_
      rintro x w1 ⟨rfl, rfl⟩
      cases r1
      · go_wp2_with fail
        with_reducible refine (D2.out _).mono ?_
        rintro x w2 ⟨rfl, hb2⟩
        cases r2
        · go_wp2
          go_ret
          rw [only_not s e j hp (by rw [HCC.out, HFC.out]; rfl)]
          exact ⟨rfl, HBE2.out.trans (hb2.mono HBE2.out.size)⟩
        · go_wp2
          go_roundw
          case rel =>
            refine ⟨j + 1, by omega, HIT2.out.below hb2 HIT2.out.lt, HL2.out.below hb2 HL2.out.lt, HBE2.out.trans (hb2.mono HBE2.out.size), fun i hi => ?_⟩
            by_cases h : i < j
            · exact HF.out i h
            · have : i = j := by omega
              subst this
              rw [HCC.out, HFC.out]; rfl
          case measure =>
            rw [(HIT2.out.below hb2 HIT2.out.lt).pos, hpos]; omega
      · go_wp2
        go_roundw
        case rel =>
          refine ⟨j + 1, by omega, HIT2.out, HL2.out, HBE2.out, fun i hi => ?_⟩
          by_cases h : i < j
          · exact HF.out i h
          · have : i = j := by omega
            subst this
            rw [HCC.out, HFC.out]; rfl
        case measure =>
          rw [HIT2.out.pos, hpos]; omega
    · have hnx := next_fin HIT.out hp
      have hj10 : j = 10 := by omega
      have HJ := Lib.hid hj10
      clear hj10
      go_wp2
      go_ret
      rw [only_of s e (fun i hi => HF.out i (by rw [HJ.out]; exact hi))]
      exact ⟨rfl, HBE.out⟩

/-- The error's number. -/
def chkN (e : Note) : Nat := if Ent.ok e = true then 0 else 50
def ChkPost (e : Note) (w : World) (x : Ending) (w' : World) : Prop := x = .returned (.int .i64 (chkN e : Nat)) ∧ Below w.heap.size w w'
theorem chkN_of {e : Note} {b : Bool} (h : Ent.ok e = b) : chkN e = if b = true then 0 else 50 := by unfold chkN; rw [h]
theorem str_nil (s : List Nat) : ((str s).toList == ([] : List UInt8)) = decide (s = []) := by
  rw [str_toList]
  cases s <;> rfl

set_option maxRecDepth 100000 in
set_option maxHeartbeats 1000000 in
theorem check_any (e : Note) (A1 A2 : Option Addr) (c1 c2 : Nat) (w : World) :
    Calls Try.prog 64 #[.agg (evs e (.slice A1 e.key.length c1) (.slice A2 e.data.length c2))] w (ChkPost e w) := by
  have hf : Ent.ok e = (!decide (Ent.lets e.kind = []) && (Ent.only (Ent.lets e.kind) e && (Ent.inB e && !Ent.lackK e))) := rfl
  have C0 := fun W => Lib.hid (names_any e.kind W)
  have C1 := fun W => Lib.hid (onlyHas_any (Ent.lets e.kind) (fun x hx => Ent.alpha_small x (Ent.lets_sub _ x hx)) e A1 A2 c1 c2 W)
  have C2 := fun W => Lib.hid (inBounds_any e A1 A2 c1 c2 W)
  have C3 := fun W => Lib.hid (lacksKey_any e A1 A2 c1 c2 W)
  have hnil := str_nil (Ent.lets e.kind)
  generalize hK : Value.slice A1 e.key.length c1 = K at *
  generalize hD : Value.slice A2 e.data.length c2 = D at *
  clear hK hD
  unfold BoolPost at C1 C2 C3
  unfold NamesPost at C0
  unfold ChkPost
  generalize decide (Ent.lets e.kind = []) = r0 at *
  generalize Ent.only (Ent.lets e.kind) e = r1 at *
  generalize Ent.inB e = r2 at *
  generalize Ent.lackK e = r3 at *
  generalize str (Ent.lets e.kind) = S at *
  have HF := Lib.hid hf
  clear hf
  go_enter Try.func64, Try.ntmps64
  go_wp2_with fail
  with_reducible refine (C0 _).out.mono ?_
  rintro x w0 ⟨rfl, rfl⟩
  have b0 := below1 w (.cells (evs e K D) 29)
  have L0 := Lib.hid (Lies.made w 29 (evs e K D))
  cases r0
  · go_wp2_with fail
    with_reducible refine (C1 _).out.mono ?_
    rintro x w1 ⟨rfl, hb1⟩
    have b1 : Below w.heap.size w w1 := b0.trans (hb1.mono b0.size)
    have L1 := Lib.hid (L0.out.below hb1 L0.out.lt)
    obtain ⟨e0, e1, e2, e3, e4, e5, e6, e7, e8, e9, e10⟩ := L1.out.cellsE
    cases r1
    · go_wp2
      go_ret
      rw [chkN_of (b := false) (by rw [HF.out]; rfl)]
      exact ⟨rfl, b1⟩
    · go_wp2_with fail
      with_reducible refine (C2 _).out.mono ?_
      rintro x w2 ⟨rfl, hb2⟩
      have b2 : Below w.heap.size w w2 := b1.trans (hb2.mono b1.size)
      have L2 := Lib.hid (L1.out.below hb2 L1.out.lt)
      clear e0 e1 e2 e3 e4 e5 e6 e7 e8 e9 e10
      obtain ⟨e0, e1, e2, e3, e4, e5, e6, e7, e8, e9, e10⟩ := L2.out.cellsE
      cases r2
      · go_wp2
        go_ret
        rw [chkN_of (b := false) (by rw [HF.out]; rfl)]
        exact ⟨rfl, b2⟩
      · go_wp2_with fail
        with_reducible refine (C3 _).out.mono ?_
        rintro x w3 ⟨rfl, hb3⟩
        have b3 : Below w.heap.size w w3 := b2.trans (hb3.mono b2.size)
        clear e0 e1 e2 e3 e4 e5 e6 e7 e8 e9 e10
        cases r3
        · go_wp2
          go_ret
          rw [chkN_of (b := true) (by rw [HF.out]; rfl)]
          exact ⟨rfl, b3⟩
        · go_wp2
          go_ret
          rw [chkN_of (b := false) (by rw [HF.out]; rfl)]
          exact ⟨rfl, b3⟩
  · go_wp2
    go_ret
    rw [chkN_of (b := false) (by rw [HF.out]; rfl)]
    exact ⟨rfl, b0⟩

end Go.Proofs.Ytfcfejmammohpaa
