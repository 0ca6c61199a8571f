/-
  Texts of one proof, in their order: CStep, CIn, CAsk.
-/
import Derived.Deep.Slices
import Derived.Deep.Fields
import Derived.ChangeSame
import Derived.ProofKit
import Derived.OpenShut
import Derived.Test.YtpbclmnhkmcknaaGreatB17
namespace Go.Proofs.YtpbclmnhkmcknaaGreat
open Go.RowKit
open Fe (Lies Own Bys Reads NF Kx Kp Note)
set_option maxRecDepth 100000
set_option linter.unusedVariables false
set_option linter.unusedSimpArgs false

set_option maxHeartbeats 4000000 in
theorem rencode_any (k : Wk) (A : Option Addr) (c : Nat) (w : World) (hB : Bys w A k.x.length k.x) (hA : A = none → c = 0) (hx : k.x.length ≤ maxLen) :
    Calls Tryz.prog 13 #[.agg #[.int .i64 k.t, .int .i64 k.n, .slice A k.x.length c]] w (EncPost w k) := by
  cases hv : wkB k
  · obtain ⟨t, n, x⟩ := k
    have hv2 : ¬ (1 ≤ t ∧ t ≤ 6 ∧ 0 ≤ n ∧ n ≤ 1000000000 ∧ x.length ≤ 32) := fun h => by rw [(wkB_iff ⟨t, n, x⟩).2 h] at hv; cases hv
    unfold EncPost
    rw [hv]
    dsimp only at *
    clear hB hA hv
    generalize x.length = m at *
    obtain ⟨b1, h1⟩ : ∃ b, decide (t < 1) = b := ⟨_, rfl⟩
    obtain ⟨b2, h2⟩ : ∃ b, decide (6 < t) = b := ⟨_, rfl⟩
    obtain ⟨b3, h3⟩ : ∃ b, decide (n < 0) = b := ⟨_, rfl⟩
    obtain ⟨b4, h4⟩ : ∃ b, decide (1000000000 < n) = b := ⟨_, rfl⟩
    obtain ⟨b5, h5⟩ : ∃ b, decide (32 < (m : Int)) = b := ⟨_, rfl⟩
    have h6 : decide (32 < m) = b5 := by rw [← h5]; exact decide_eq_decide.2 (by omega)
    have hz : b1 || (b2 || (b3 || (b4 || b5))) := by
      rw [← h1, ← h2, ← h3, ← h4, ← h5]
      simp only [Bool.or_eq_true, decide_eq_true_eq]
      omega
    clear hv2
    cases b1 <;> cases b2 <;> cases b3 <;> cases b4 <;> cases b5
    all_goals first
      | (exact absurd hz (by decide))
      | (go_enter Tryz.func13, Tryz.ntmps13; go_wp2; go_ret2; exact ⟨Fe.below1 _ _, .inl ⟨by first | trivial | rfl, rfl⟩⟩)
  · obtain ⟨h1, h2, h3, h4, h5⟩ := (wkB_iff k).1 hv
    obtain ⟨t, n, x⟩ := k
    dsimp only at *
    obtain ⟨tn, rfl⟩ : ∃ tn : Nat, t = (tn : Int) := ⟨t.toNat, by omega⟩
    obtain ⟨nn, rfl⟩ : ∃ nn : Nat, n = (nn : Int) := ⟨n.toNat, by omega⟩
    have HE : Hid (encW ⟨(tn : Int), (nn : Int), x⟩ = [Fe.num 1 tn, Fe.num 4 nn, ⟨0, 0, .slice A x.length c, x⟩].flatMap Fe.Fld.enc) := Lib.hid (by simp [encW, Fe.Fld.enc])
    have e1 : IntKind.u64.wrap (tn : Int) = (tn : Int) := by rw [IntKind.wrap_u64]; omega
    have e2 : IntKind.u64.wrap (nn : Int) = (nn : Int) := by rw [IntKind.wrap_u64]; omega
    have d1 : decide ((tn : Int) < 1) = false := by simp; omega
    have d2 : decide ((6 : Int) < (tn : Int)) = false := by simp; omega
    have d2' : decide (6 < tn) = false := by simp; omega
    have d3 : decide ((nn : Int) < 0) = false := by simp
    have d4 : decide ((1000000000 : Int) < (nn : Int)) = false := by simp; omega
    have d4' : decide (1000000000 < nn) = false := by simp; omega
    have d5 : decide ((32 : Int) < (x.length : Int)) = false := by simp; omega
    have d5' : decide (32 < x.length) = false := by simp; omega
    have d1' : decide (tn < 1) = false := by simp; omega
    have HF : Hid (Fe.Flds ((w.alloc (.cells #[.int .i64 (tn : Int), .int .i64 (nn : Int), .slice A x.length c] 24)).alloc (.cells #[.int .i64 1, .int .u64 (tn : Int), .slice none 0 0, .int .i64 4, .int .u64 (nn : Int), .slice none 0 0, .int .i64 0, .int .u64 0, .slice A x.length c] 101)) (w.heap.size + 1) [Fe.num 1 tn, Fe.num 4 nn, ⟨0, 0, .slice A x.length c, x⟩]) := Lib.hid (by
      have L := Lies.made2 w (.cells #[.int .i64 (tn : Int), .int .i64 (nn : Int), .slice A x.length c] 24) 101 #[.int .i64 1, .int .u64 (tn : Int), .slice none 0 0, .int .i64 4, .int .u64 (nn : Int), .slice none 0 0, .int .i64 0, .int .u64 0, .slice A x.length c]
      intro i hi
      have hi3 : i < 3 := hi
      rcases (by omega : i = 0 ∨ i = 1 ∨ i = 2) with rfl | rfl | rfl
      · exact ⟨.inl ⟨rfl, (show tn < 256 by omega), rfl⟩, L.cell 0, L.cell 1, L.cell 2⟩
      · exact ⟨.inr (.inl ⟨rfl, (show nn < 4294967296 by omega), rfl⟩), L.cell 3, L.cell 4, L.cell 5⟩
      · exact ⟨.inr (.inr (.inr ⟨rfl, rfl, A, c, rfl, hB.below (Fe.below2 w _ _), hA, (show x.length ≤ 255 by omega)⟩)), L.cell 6, L.cell 7, L.cell 8⟩)
    have BB := Lib.hid (Fe.below2 w (.cells #[.int .i64 (tn : Int), .int .i64 (nn : Int), .slice A x.length c] 24) (.cells #[.int .i64 1, .int .u64 (tn : Int), .slice none 0 0, .int .i64 4, .int .u64 (nn : Int), .slice none 0 0, .int .i64 0, .int .u64 0, .slice A x.length c] 101))
    unfold EncPost
    rw [hv]
    clear hv hB hA h1 h2 h3 h4 h5
    go_enter Tryz.func13, Tryz.ntmps13
    go_wp2_with fail
    with_reducible refine (Fe.rput_any (w.heap.size + 1) 3 3 _ _ HF.out rfl (by decide)).mono ?_
    rintro e w2 ⟨v, rfl, ho, hb⟩
    have HO := Lib.hid (ho.mono BB.out.size)
    have B2 := Lib.hid (BB.out.trans (hb.mono BB.out.size))
    clear ho hb
    go_wp2
    go_ret2
    exact ⟨B2.out, .inr ⟨by first | trivial | rfl, v, rfl, by rw [HE.out]; exact HO.out⟩⟩
/-- A note that asks for a work. -/
abbrev stN (ep od : Nat) (st : Int) (un : Bool) (l : List Nat) : Note := ⟨7, ep, 0, 0, 0, od, st, un, 0, [], l⟩
def datW (k : Wk) : List Nat := if wkB k = true then encW k else []
set_option maxHeartbeats 4000000 in
theorem step_any (ep od : Nat) (st : Int) (un : Bool) (k : Wk) (A : Option Addr) (c : Nat) (w : World) (hB : Bys w A k.x.length k.x) (hA : A = none → c = 0) (hx : k.x.length ≤ maxLen) :
    Calls Tryz.prog 40 #[.int .u32 (ep : Int), .int .u32 (od : Int), .int .i64 st, .bool un, .agg #[.int .i64 k.t, .int .i64 k.n, .slice A k.x.length c]] w fun x w' =>
      ∃ A2 c2, x = .returned (.agg (Fe.evs (stN ep od st un (datW k)) (.slice none 0 0) (.slice A2 (datW k).length c2))) ∧ Own w' w.heap.size (.slice A2 (datW k).length c2) (datW k) ∧ Below w.heap.size w w' := by
  have LW := Lib.hid ((Lies.made w 24 #[.int .i64 k.t, .int .i64 k.n, .slice A k.x.length c]).alloc (.cells NZ 55))
  have LR := Lib.hid (Lies.made2 w (.cells #[.int .i64 k.t, .int .i64 k.n, .slice A k.x.length c] 24) 55 NZ)
  have BB := Lib.hid (Fe.below2 w (.cells #[.int .i64 k.t, .int .i64 k.n, .slice A k.x.length c] 24) (.cells NZ 55))
  have CE := Lib.hid (rencode_any k A c _ (hB.below BB.out) hA hx)
  obtain ⟨c0, c1, c2⟩ := LW.out.cells3
  unfold EncPost at CE
  have HDW : Hid (datW k = if wkB k = true then encW k else []) := Lib.hid rfl
  clear hB
  go_enter Tryz.func40, Tryz.ntmps40
  go_wp2_with fail
  with_reducible refine CE.out.mono ?_
  rintro x w2 ⟨hb, ⟨hv, rfl⟩ | ⟨hv, v, rfl, ho⟩⟩
  · have HD0 : Hid (datW k = []) := Lib.hid (by rw [HDW.out, if_neg (by rw [hv]; decide)])
    have LR2 := Lib.hid (LR.out.below hb LR.out.lt)
    have BB2 := Lib.hid (BB.out.trans (hb.mono BB.out.size))
    clear hb hv CE
    obtain ⟨r0, r1, r2, r3, r4, r5, r6, r7, r8, r9, r10⟩ := LR2.out.cells11
    obtain ⟨s0, s1, s2, s3, s4, s5, s6, s7, s8, s9, s10⟩ := LR2.out.free11
    go_wp2
    rw [nest11]
    refine ret_note (w.heap.size + 1) _ rfl rfl (Lies_put11 LR2.out rfl _ _ _ _ _ _ _ _ _ _ _) rfl rfl ?_
    refine ⟨none, 0, by rw [HD0.out]; rfl, by rw [HD0.out]; exact Own.nil _ _, ?_⟩
    exact (put11_chg _ (w.heap.size + 1) _ _ _ _ _ _ _ _ _ _ _).below BB2.out BB2.out.size (fun i hi => by rw [show i = w.heap.size + 1 from hi]; exact Nat.le_succ _)
  · have HD0 : Hid (datW k = encW k) := Lib.hid (by rw [HDW.out, if_pos hv])
    have LR2 := Lib.hid (LR.out.below hb LR.out.lt)
    have BB2 := Lib.hid (BB.out.trans (hb.mono BB.out.size))
    have HO2 := Lib.hid (ho.mono BB.out.size)
    obtain ⟨A2, c2', rfl, -⟩ := ho.slice
    clear hb hv ho CE
    obtain ⟨r0, r1, r2, r3, r4, r5, r6, r7, r8, r9, r10⟩ := LR2.out.cells11
    obtain ⟨s0, s1, s2, s3, s4, s5, s6, s7, s8, s9, s10⟩ := LR2.out.free11
    go_wp2
    rw [nest11]
    refine ret_note (w.heap.size + 1) _ rfl rfl (Lies_put11 LR2.out rfl _ _ _ _ _ _ _ _ _ _ _) rfl rfl ?_
    refine ⟨A2, c2', by rw [HD0.out]; rfl, by rw [HD0.out]; exact Own_same HO2.out fun i hi => (put11_chg _ (w.heap.size + 1) _ _ _ _ _ _ _ _ _ _ _).block i (HO2.out.lt i hi) ((Kb.row HO2.out.1 hi).ne (Kb.of LR2.out) (by decide)), ?_⟩
    exact (put11_chg _ (w.heap.size + 1) _ _ _ _ _ _ _ _ _ _ _).below BB2.out BB2.out.size (fun i hi => by rw [show i = w.heap.size + 1 from hi]; exact Nat.le_succ _)

end Go.Proofs.YtpbclmnhkmcknaaGreat

namespace Go.Proofs.YtpbclmnhkmcknaaGreat
open Go.RowKit
open Fe (Lies Own Bys Reads NF Kx Kp Note)
set_option maxRecDepth 100000
set_option linter.unusedVariables false
set_option linter.unusedSimpArgs false

open Go.ChangeShapes Go.WideShapes
/-- A slice of bytes that came in. -/
def InBytes (w : World) (a : Option Addr) (len cap : Nat) (l : List Nat) : Prop := Bys w a len l ∧ len ≤ cap ∧ cap ≤ maxLen ∧ (a = none → cap = 0)
theorem InBytes.below {w w' : World} {a : Option Addr} {len cap : Nat} {l : List Nat} (h : InBytes w a len cap l) (hb : Below w.heap.size w w') : InBytes w' a len cap l := ⟨h.1.below hb, h.2⟩
theorem i64_bnd {z : Int} (h : (Lit.int IntKind.i64 z).wf = true) : Fe.in64 z := by
  have := bounds_i64 h
  unfold Fe.in64
  omega

/-- An ask. -/
structure Ax where
  e : Nat
  o : Nat
  s : Int
  u : Bool
  k : Wk
  A : Option Addr
  c : Nat
  r : List Nat
  B : Option Addr
  d : Nat
abbrev ax8 (x : Ax) : Array Value := #[.int .u32 (x.e : Int), .int .u32 (x.o : Int), .int .i64 x.s, .bool x.u, .int .i64 x.k.t, .int .i64 x.k.n, .slice x.A x.k.x.length x.c, .slice x.B x.r.length x.d]
structure AT (w : World) (x : Ax) : Prop where
  e : x.e < 4294967296
  o : x.o < 4294967296
  s : Fe.in64 x.s
  t : Fe.in64 x.k.t
  n : Fe.in64 x.k.n
  kx : InBytes w x.A x.k.x.length x.c x.k.x
  rr : InBytes w x.B x.r.length x.d x.r
theorem AT.below {w w' : World} {x : Ax} (h : AT w x) (hb : Below w.heap.size w w') : AT w' x := ⟨h.e, h.o, h.s, h.t, h.n, h.kx.below hb, h.rr.below hb⟩
def As (w : World) (A : Option Addr) (n : Nat) (X : Nat → Ax) : Prop :=
  (0 < n → ∃ b off, A = some ⟨b, off, none⟩ ∧ ∀ i, i < n → ∀ j, j < 8 → w.cell? ⟨b, off + i * 8 + j, none⟩ = (ax8 (X i)).toList[j]?) ∧ ∀ i, i < n → AT w (X i)
theorem As.below {w w' : World} {A : Option Addr} {n : Nat} {X : Nat → Ax} (h : As w A n X) (hb : Below w.heap.size w w') : As w' A n X := by
  refine ⟨fun h0 => ?_, fun i hi => (h.2 i hi).below hb⟩
  obtain ⟨b, off, e, hc⟩ := h.1 h0
  refine ⟨b, off, e, fun i hi j hj => ?_⟩
  have := hc i hi j hj
  have hs : (ax8 (X i)).toList[j]? = some ((ax8 (X i)).toList[j]'(by simpa using hj)) := List.getElem?_eq_getElem _
  rw [hs] at this ⊢
  rw [hb.cell (block_lt_of_cell this)]
  exact this
theorem As.at {w : World} {b off n : Nat} {X : Nat → Ax} (h : As w (some ⟨b, off, none⟩) n X) (i : Nat) (hi : i < n) :
    w.cell? ⟨b, off + i * 8, none⟩ = some (.int .u32 ((X i).e : Int)) ∧ w.cell? ⟨b, off + i * 8 + 1, none⟩ = some (.int .u32 ((X i).o : Int)) ∧ w.cell? ⟨b, off + i * 8 + 2, none⟩ = some (.int .i64 (X i).s) ∧ w.cell? ⟨b, off + i * 8 + 3, none⟩ = some (.bool (X i).u) ∧ w.cell? ⟨b, off + i * 8 + 4, none⟩ = some (.int .i64 (X i).k.t) ∧ w.cell? ⟨b, off + i * 8 + 5, none⟩ = some (.int .i64 (X i).k.n) ∧ w.cell? ⟨b, off + i * 8 + 6, none⟩ = some (.slice (X i).A (X i).k.x.length (X i).c) ∧ w.cell? ⟨b, off + i * 8 + 7, none⟩ = some (.slice (X i).B (X i).r.length (X i).d) := by
  obtain ⟨b', off', e, hc⟩ := h.1 (by omega)
  injection e with e
  injection e with e1 e2 _
  subst e1 e2
  exact ⟨hc i hi 0 (by omega), hc i hi 1 (by omega), hc i hi 2 (by omega), hc i hi 3 (by omega), hc i hi 4 (by omega), hc i hi 5 (by omega), hc i hi 6 (by omega), hc i hi 7 (by omega)⟩
/-- A list of asks that came in. -/
def AV (w : World) (A : Option Addr) (n c : Nat) (X : Nat → Ax) : Prop := n ≤ c ∧ c ≤ maxLen ∧ (A = none → c = 0) ∧ As w A n X
theorem AV.below {w w' : World} {A : Option Addr} {n c : Nat} {X : Nat → Ax} (h : AV w A n c X) (hb : Below w.heap.size w w') : AV w' A n c X := by
  obtain ⟨h1, h2, h3, h4⟩ := h
  exact ⟨h1, h2, h3, h4.below hb⟩
section
variable {H : Type} {enc : TypeId × Value → H} {w : World}
theorem in_bytes {fuel : Nat} {c : Value} {x : DataW H × List MemPlace} (h : DataW.trod enc Tryz.prog w 0 (fun _ => true) true fuel 22 [c] = some x) : ∃ a len cap l, c = .slice a len cap ∧ InBytes w a len cap l := by
  rcases open_ints Tryz.underlying22 Tryz.underlying5 (by kernel_rfl) h with ⟨hcs, _⟩ | ⟨x, l, c', zs, hcs, _, hl, hm, hz, _, hcell, hwz⟩
  · simp only [List.cons.injEq, and_true] at hcs
    obtain ⟨q, hq⟩ := Fe.IsRow.bys (w := w) (zs := []) (.inl ⟨rfl, rfl, rfl, rfl⟩)
    exact ⟨_, _, _, q, hcs, hq⟩
  · simp only [List.cons.injEq, and_true] at hcs
    obtain ⟨q, hq⟩ := Fe.IsRow.bys (w := w) (a := some x) (len := l) (cap := c') (zs := zs) (.inr ⟨_, rfl, hl, hm, by simpa using hz, hcell, hwz⟩)
    exact ⟨_, _, _, q, hcs, hq⟩
theorem in_u32 {fuel : Nat} {c : Value} {x : DataW H × List MemPlace} (h : DataW.trod enc Tryz.prog w 0 (fun _ => true) true fuel 52 [c] = some x) : ∃ n : Nat, c = .int .u32 (n : Nat) ∧ n < 4294967296 := by
  obtain ⟨z, h1, _, h2⟩ := DataW.trod_int Tryz.underlying52 h
  simp only [List.cons.injEq, and_true] at h1
  have := bounds_u32 h2
  exact ⟨z.toNat, by rw [h1, Int.toNat_of_nonneg this.1], by omega⟩
theorem in_i64 {fuel : Nat} {c : Value} {x : DataW H × List MemPlace} (h : DataW.trod enc Tryz.prog w 0 (fun _ => true) true fuel 3 [c] = some x) : ∃ z : Int, c = .int .i64 z ∧ Fe.in64 z := by
  obtain ⟨z, h1, _, h2⟩ := DataW.trod_int Tryz.underlying3 h
  simp only [List.cons.injEq, and_true] at h1
  exact ⟨z, h1, i64_bnd h2⟩
theorem in_bool {fuel : Nat} {c : Value} {x : DataW H × List MemPlace} (h : DataW.trod enc Tryz.prog w 0 (fun _ => true) true fuel 4 [c] = some x) : ∃ b : Bool, c = .bool b := by
  obtain ⟨b, h1, _⟩ := DataW.trod_bool Tryz.underlying4 h
  simp only [List.cons.injEq, and_true] at h1
  exact ⟨b, h1⟩

set_option maxRecDepth 100000 in
theorem in_work {fuel : Nat} {cs : List Value} {x : DataW H × List MemPlace} (h : DataW.trod enc Tryz.prog w 0 (fun _ => true) true fuel 24 cs = some x) :
    ∃ (k : Wk) (A : Option Addr) (c : Nat), cs = [.int .i64 k.t, .int .i64 k.n, .slice A k.x.length c] ∧ Fe.in64 k.t ∧ Fe.in64 k.n ∧ InBytes w A k.x.length c k.x := by
  have k3 : Tryz.prog.cellsOf 3 = 1 := by kernel_rfl
  have k22 : Tryz.prog.cellsOf 22 = 1 := by kernel_rfl
  have k24 : Tryz.prog.cellsOf 24 = 3 := by kernel_rfl
  obtain ⟨xs, n, _, _, hlen, hxl, hg⟩ := DataW.trod_struct Tryz.underlying24 h
  rw [k24] at hlen
  match cs, hlen, xs, hxl with
  | [c0, c1, c2], _, [y0, y1, y2], _ =>
    have t0 : DataW.trod enc Tryz.prog w 0 (fun _ => true) true n 3 [c0] = some y0 := by
      have := hg 0 _ rfl
      change DataW.trod enc Tryz.prog w 0 (fun _ => true) true n 3 (([c0, c1, c2].drop 0).take (Tryz.prog.cellsOf 3)) = some y0 at this
      rw [k3] at this
      exact this
    have t1 : DataW.trod enc Tryz.prog w 0 (fun _ => true) true n 3 [c1] = some y1 := by
      have := hg 1 _ rfl
      change DataW.trod enc Tryz.prog w 0 (fun _ => true) true n 3 (([c0, c1, c2].drop 1).take (Tryz.prog.cellsOf 3)) = some y1 at this
      rw [k3] at this
      exact this
    have t2 : DataW.trod enc Tryz.prog w 0 (fun _ => true) true n 22 [c2] = some y2 := by
      have := hg 2 _ rfl
      change DataW.trod enc Tryz.prog w 0 (fun _ => true) true n 22 (([c0, c1, c2].drop 2).take (Tryz.prog.cellsOf 22)) = some y2 at this
      rw [k22] at this
      exact this
    obtain ⟨z0, rfl, b0⟩ := in_i64 t0
    obtain ⟨z1, rfl, b1⟩ := in_i64 t1
    obtain ⟨A1, n1, d1, l1, rfl, h1, h2, h3, h4⟩ := in_bytes t2
    have e1 := h1.1
    subst e1
    exact ⟨⟨z0, z1, l1⟩, A1, d1, rfl, b0, b1, h1, h2, h3, h4⟩
set_option maxRecDepth 100000 in
theorem in_ask {fuel : Nat} {cs : List Value} {x : DataW H × List MemPlace} (h : DataW.trod enc Tryz.prog w 0 (fun _ => true) true fuel 57 cs = some x) :
    ∃ y : Ax, cs = (ax8 y).toList ∧ AT w y := by
  have k3 : Tryz.prog.cellsOf 3 = 1 := by kernel_rfl
  have k4 : Tryz.prog.cellsOf 4 = 1 := by kernel_rfl
  have k52 : Tryz.prog.cellsOf 52 = 1 := by kernel_rfl
  have k22 : Tryz.prog.cellsOf 22 = 1 := by kernel_rfl
  have k24 : Tryz.prog.cellsOf 24 = 3 := by kernel_rfl
  have k57 : Tryz.prog.cellsOf 57 = 8 := by kernel_rfl
  obtain ⟨xs, n, _, _, hlen, hxl, hg⟩ := DataW.trod_struct Tryz.underlying57 h
  rw [k57] at hlen
  match cs, hlen, xs, hxl with
  | [c0, c1, c2, c3, c4, c5, c6, c7], _, [y0, y1, y2, y3, y4, y5], _ =>
    have t0 : DataW.trod enc Tryz.prog w 0 (fun _ => true) true n 52 [c0] = some y0 := by
      have := hg 0 _ rfl
      change DataW.trod enc Tryz.prog w 0 (fun _ => true) true n 52 (([c0, c1, c2, c3, c4, c5, c6, c7].drop 0).take (Tryz.prog.cellsOf 52)) = some y0 at this
      rw [k52] at this
      exact this
    have t1 : DataW.trod enc Tryz.prog w 0 (fun _ => true) true n 52 [c1] = some y1 := by
      have := hg 1 _ rfl
      change DataW.trod enc Tryz.prog w 0 (fun _ => true) true n 52 (([c0, c1, c2, c3, c4, c5, c6, c7].drop 1).take (Tryz.prog.cellsOf 52)) = some y1 at this
      rw [k52] at this
      exact this
    have t2 : DataW.trod enc Tryz.prog w 0 (fun _ => true) true n 3 [c2] = some y2 := by
      have := hg 2 _ rfl
      change DataW.trod enc Tryz.prog w 0 (fun _ => true) true n 3 (([c0, c1, c2, c3, c4, c5, c6, c7].drop 2).take (Tryz.prog.cellsOf 3)) = some y2 at this
      rw [k3] at this
      exact this
    have t3 : DataW.trod enc Tryz.prog w 0 (fun _ => true) true n 4 [c3] = some y3 := by
      have := hg 3 _ rfl
      change DataW.trod enc Tryz.prog w 0 (fun _ => true) true n 4 (([c0, c1, c2, c3, c4, c5, c6, c7].drop 3).take (Tryz.prog.cellsOf 4)) = some y3 at this
      rw [k4] at this
      exact this
    have t4 : DataW.trod enc Tryz.prog w 0 (fun _ => true) true n 24 [c4, c5, c6] = some y4 := by
      have := hg 4 _ rfl
      change DataW.trod enc Tryz.prog w 0 (fun _ => true) true n 24 (([c0, c1, c2, c3, c4, c5, c6, c7].drop 4).take (Tryz.prog.cellsOf 24)) = some y4 at this
      rw [k24] at this
      exact this
    have t5 : DataW.trod enc Tryz.prog w 0 (fun _ => true) true n 22 [c7] = some y5 := by
      have := hg 5 _ rfl
      change DataW.trod enc Tryz.prog w 0 (fun _ => true) true n 22 (([c0, c1, c2, c3, c4, c5, c6, c7].drop 7).take (Tryz.prog.cellsOf 22)) = some y5 at this
      rw [k22] at this
      exact this
    obtain ⟨z0, rfl, b0⟩ := in_u32 t0
    obtain ⟨z1, rfl, b1⟩ := in_u32 t1
    obtain ⟨z2, rfl, b2⟩ := in_i64 t2
    obtain ⟨z3, rfl⟩ := in_bool t3
    obtain ⟨k, A, c, hk, b4, b5, h6⟩ := in_work t4
    simp only [List.cons.injEq, and_true] at hk
    obtain ⟨rfl, rfl, rfl⟩ := hk
    obtain ⟨A1, n1, d1, l1, rfl, h1, h2, h3, h4⟩ := in_bytes t5
    have e1 := h1.1
    subst e1
    exact ⟨⟨z0, z1, z2, z3, k, A, c, l1, A1, d1⟩, rfl, ⟨b0, b1, b2, b4, b5, h6, h1, h2, h3, h4⟩⟩
set_option maxRecDepth 100000 in
theorem in_asks {v0 : Option Addr} {n0 c0 : Nat} {d : DataW H} {p : List MemPlace} (h : DataW.Trod enc Tryz.prog w 0 (fun _ => true) true 44 (.slice v0 n0 c0) d p) : ∃ X, AV w v0 n0 c0 X := by
  obtain ⟨fuel, hf⟩ := h
  have k57 : Tryz.prog.cellsOf 57 = 8 := by kernel_rfl
  have hf' : DataW.trod enc Tryz.prog w 0 (fun _ => true) true fuel 44 [.slice v0 n0 c0] = some (d, p) := hf
  rcases Deep.open_slice Tryz.underlying44 hf' with ⟨hcs, _⟩ | ⟨x, l, c, m, n, D, Pl, hcs, _, hl, hm, hmm, _, hi⟩
  · simp at hcs
    obtain ⟨rfl, rfl, rfl⟩ := hcs
    exact ⟨fun _ => ⟨0, 0, 0, false, ⟨0, 0, []⟩, none, 0, [], none, 0⟩, Nat.le_refl _, by unfold maxLen; omega, fun _ => rfl, fun h => absurd h (Nat.lt_irrefl 0), fun i hi => absurd hi (Nat.not_lt_zero i)⟩
  · simp at hcs
    obtain ⟨rfl, rfl, rfl⟩ := hcs
    have hm2 : m = c0 := by rw [hmm]; rfl
    subst hm2
    have each : ∀ i, i < n0 → ∃ y : Ax, AT w y ∧ ∀ j v, (ax8 y).toList[j]? = some v → w.cell? (x.add (i * 8 + j)) = some v := fun i hi2 => by
      obtain ⟨cs', hc, ht⟩ := hi i (by omega)
      rw [k57] at hc
      obtain ⟨y, h1, h2⟩ := in_ask ht
      obtain ⟨_, hcl, hat⟩ := World.cells?_some hc
      refine ⟨y, h2, fun j v hj => ?_⟩
      rw [← h1] at hj
      have hjl : j < 8 := by have := (List.getElem?_eq_some_iff.1 hj).1; omega
      rw [← Go.Deep.add_add, hat j hjl, hj]
    have zy : Ax := ⟨0, 0, 0, false, ⟨0, 0, []⟩, none, 0, [], none, 0⟩
    obtain ⟨X, hX⟩ : ∃ X : Nat → Ax, ∀ i, i < n0 → AT w (X i) ∧ ∀ j v, (ax8 (X i)).toList[j]? = some v → w.cell? (x.add (i * 8 + j)) = some v :=
      ⟨fun i => if h : i < n0 then (each i h).choose else zy, fun i hi2 => by dsimp only; rw [dif_pos hi2]; exact (each i hi2).choose_spec⟩
    refine ⟨X, hl, hm, (fun h => by cases h), fun h0 => ?_, fun i hi2 => (hX i hi2).1⟩
    obtain ⟨b, off, spot⟩ := x
    have hspot : spot = none := by
      have := (hX 0 h0).2 0 _ rfl
      simpa [Addr.add] using World.cell?_spot this
    subst hspot
    refine ⟨b, off, rfl, fun i hi2 j hj => ?_⟩
    have hs : (ax8 (X i)).toList[j]? = some ((ax8 (X i)).toList[j]'(by simpa using hj)) := List.getElem?_eq_getElem _
    have := (hX i hi2).2 j _ hs
    rw [Fe.add_off, ← Nat.add_assoc] at this
    rw [this, hs]
end

end Go.Proofs.YtpbclmnhkmcknaaGreat

namespace Go.Proofs.YtpbclmnhkmcknaaGreat
open Go.RowKit
open Fe (Lies Own Bys Reads NF Kx Kp Note)
set_option maxRecDepth 100000
set_option linter.unusedVariables false
set_option linter.unusedSimpArgs false

/-- An ask's note. -/
def askD (x : Ax) : List Nat := if 0 < x.r.length then x.r else datW x.k
abbrev askN (x : Ax) : Note := stN x.e x.o x.s x.u (askD x)
def AskPost (w : World) (x : Ax) (e : Ending) (w' : World) : Prop :=
  Below w.heap.size w w' ∧ ∃ A c, e = .returned (.agg (Fe.evs (askN x) (.slice none 0 0) (.slice A (askD x).length c))) ∧ InBytes w' A (askD x).length c (askD x) ∧ ((A = x.B ∧ 0 < x.r.length) ∨ ∀ i, (Value.slice A (askD x).length c).ownBlock = some i → w.heap.size ≤ i)
/-- The same, and that its block is there. -/
def AskPost2 (w : World) (x : Ax) (e : Ending) (w' : World) : Prop :=
  Below w.heap.size w w' ∧ ∃ A c, e = .returned (.agg (Fe.evs (askN x) (.slice none 0 0) (.slice A (askD x).length c))) ∧ InBytes w' A (askD x).length c (askD x) ∧ ((A = x.B ∧ 0 < x.r.length) ∨ ∀ i, (Value.slice A (askD x).length c).ownBlock = some i → w.heap.size ≤ i) ∧ ∀ i, (Value.slice A (askD x).length c).ownBlock = some i → i < w'.heap.size
theorem InBytes.lt1 {w : World} {a : Option Addr} {n c : Nat} {l : List Nat} (h : InBytes w a n c l) (h0 : 0 < n) {m d i : Nat} (hi : (Value.slice a m d).ownBlock = some i) : i < w.heap.size := by
  obtain ⟨b, off, rfl, hc⟩ := h.1.2.2 h0
  have : b = i := by simpa [Value.ownBlock] using hi
  subst this
  exact block_lt_of_cell (hc 0 h0)
theorem Own.inb {w : World} {B : Nat} {A : Option Addr} {n c : Nat} {l : List Nat} (h : Own w B (.slice A n c) l) : InBytes w A n c l := by
  obtain ⟨h1, h2, h3, h4⟩ := h.bys
  exact ⟨h1, h2, h3, fun e => (h4 e).2⟩
theorem Lies_cells8 {w : World} {g : Nat} {t : TypeId} {z0 z1 z2 z3 z4 z5 z6 z7 : Value} (h : Lies w g t #[z0, z1, z2, z3, z4, z5, z6, z7]) : w.cell? ⟨g, 0, none⟩ = some z0 ∧ w.cell? ⟨g, 1, none⟩ = some z1 ∧ w.cell? ⟨g, 2, none⟩ = some z2 ∧ w.cell? ⟨g, 3, none⟩ = some z3 ∧ w.cell? ⟨g, 4, none⟩ = some z4 ∧ w.cell? ⟨g, 5, none⟩ = some z5 ∧ w.cell? ⟨g, 6, none⟩ = some z6 ∧ w.cell? ⟨g, 7, none⟩ = some z7 := ⟨h.cell 0, h.cell 1, h.cell 2, h.cell 3, h.cell 4, h.cell 5, h.cell 6, h.cell 7⟩
set_option maxHeartbeats 4000000 in
theorem asknote_any2 (x : Ax) (w : World) (h : AT w x) : Calls Tryz.prog 22 #[.agg (ax8 x)] w (AskPost2 w x) := by
  have LW := Lib.hid ((Lies.made w 57 (ax8 x)).alloc (.cells NZ 55))
  have LR := Lib.hid (Lies.made2 w (.cells (ax8 x) 57) 55 NZ)
  have BB := Lib.hid (Fe.below2 w (.cells (ax8 x) 57) (.cells NZ 55))
  have CE := Lib.hid (step_any x.e x.o x.s x.u x.k x.A x.c _ (h.kx.1.below BB.out) h.kx.2.2.2 (Nat.le_trans h.kx.2.1 h.kx.2.2.1))
  have HR := Lib.hid h.rr
  have HK := Lib.hid (show askD x = if 0 < x.r.length then x.r else datW x.k from rfl)
  obtain ⟨c0, c1, c2, c3, c4, c5, c6, c7⟩ := Lies_cells8 LW.out
  clear h
  unfold AskPost2
  go_enter Tryz.func22, Tryz.ntmps22
  go_wp2_with fail
  with_reducible refine CE.out.mono ?_
  rintro e w2 ⟨A, c, rfl, ho, hb⟩
  have HO := Lib.hid (ho.mono BB.out.size)
  have LW2 := Lib.hid (LW.out.below hb LW.out.lt)
  have LR2 := Lib.hid (LR.out.below hb LR.out.lt)
  have B2 := Lib.hid (BB.out.trans (hb.mono BB.out.size))
  clear ho hb CE
  have LW3 := Lib.hid (LW2.out.alloc (.cells #[.int .i64 7, .int .u32 (x.e : Int), .int .u32 0, .int .u64 0, .int .u64 0, .int .u32 (x.o : Int), .int .i64 x.s, .bool x.u, .int .i64 0, .slice none 0 0, .slice A (datW x.k).length c] 55))
  have LR3 := Lib.hid (LR2.out.alloc (.cells #[.int .i64 7, .int .u32 (x.e : Int), .int .u32 0, .int .u64 0, .int .u64 0, .int .u32 (x.o : Int), .int .i64 x.s, .bool x.u, .int .i64 0, .slice none 0 0, .slice A (datW x.k).length c] 55))
  have LN := Lib.hid (Lies.made w2 55 #[.int .i64 7, .int .u32 (x.e : Int), .int .u32 0, .int .u64 0, .int .u64 0, .int .u32 (x.o : Int), .int .i64 x.s, .bool x.u, .int .i64 0, .slice none 0 0, .slice A (datW x.k).length c])
  have B3 := Lib.hid (B2.out.trans ((Fe.below1 w2 (.cells #[.int .i64 7, .int .u32 (x.e : Int), .int .u32 0, .int .u64 0, .int .u64 0, .int .u32 (x.o : Int), .int .i64 x.s, .bool x.u, .int .i64 0, .slice none 0 0, .slice A (datW x.k).length c] 55)).mono B2.out.size))
  have HO3 := Lib.hid (HO.out.alloc (.cells #[.int .i64 7, .int .u32 (x.e : Int), .int .u32 0, .int .u64 0, .int .u64 0, .int .u32 (x.o : Int), .int .i64 x.s, .bool x.u, .int .i64 0, .slice none 0 0, .slice A (datW x.k).length c] 55))
  obtain ⟨c0, c1, c2, c3, c4, c5, c6, c7⟩ := Lies_cells8 LW3.out
  obtain ⟨n0, n1, n2, n3, n4, n5, n6, n7, n8, n9, n10⟩ := LN.out.cells11
  obtain ⟨f0, f1, f2, f3, f4, f5, f6, f7, f8, f9, f10⟩ := LN.out.free11
  obtain ⟨s0, s1, s2, s3, s4, s5, s6, s7, s8, s9, s10⟩ := LR3.out.free11
  by_cases hr : 0 < x.r.length
  · have hd : decide (0 < x.r.length) = true := decide_eq_true hr
    have hd2 : decide ((0 : Int) < (x.r.length : Int)) = true := decide_eq_true (by omega)
    have LR4 := Lib.hid (LR2.out.alloc (.cells #[.int .i64 7, .int .u32 (x.e : Int), .int .u32 0, .int .u64 0, .int .u64 0, .int .u32 (x.o : Int), .int .i64 x.s, .bool x.u, .int .i64 0, .slice none 0 0, .slice x.B x.r.length x.d] 55))
    have B4 := Lib.hid (B2.out.trans ((Fe.below1 w2 (.cells #[.int .i64 7, .int .u32 (x.e : Int), .int .u32 0, .int .u64 0, .int .u64 0, .int .u32 (x.o : Int), .int .i64 x.s, .bool x.u, .int .i64 0, .slice none 0 0, .slice x.B x.r.length x.d] 55)).mono B2.out.size))
    obtain ⟨t0, t1, t2, t3, t4, t5, t6, t7, t8, t9, t10⟩ := LR4.out.free11
    obtain ⟨r0, r1, r2, r3, r4, r5, r6, r7, r8, r9, r10⟩ := LR4.out.cells11
    have HK2 : Hid (askD x = x.r) := Lib.hid (by rw [HK.out, if_pos hr])
    have HR0 := Lib.hid hr
    clear hr
    go_wp2
    rw [nest11]
    refine ret_note (w.heap.size + 1) _ rfl rfl (Lies_put11 LR4.out rfl _ _ _ _ _ _ _ _ _ _ _) rfl rfl ?_
    have X := put11_chg (w2.alloc (.cells #[.int .i64 7, .int .u32 (x.e : Int), .int .u32 0, .int .u64 0, .int .u64 0, .int .u32 (x.o : Int), .int .i64 x.s, .bool x.u, .int .i64 0, .slice none 0 0, .slice x.B x.r.length x.d] 55)) (w.heap.size + 1) (.int .i64 7) (.int .u32 (x.e : Int)) (.int .u32 0) (.int .u64 0) (.int .u64 0) (.int .u32 (x.o : Int)) (.int .i64 x.s) (.bool x.u) (.int .i64 0) (.slice none 0 0) (.slice x.B x.r.length x.d)
    have BX := X.below B4.out B4.out.size (fun i hi => by rw [show i = w.heap.size + 1 from hi]; exact Nat.le_succ _)
    rw [HK2.out]
    exact ⟨BX, x.B, x.d, rfl, HR.out.below BX, .inl ⟨rfl, HR0.out⟩, fun i hi => InBytes.lt1 (HR.out.below BX) HR0.out hi⟩
  · have hd : decide (0 < x.r.length) = false := decide_eq_false hr
    have hd2 : decide ((0 : Int) < (x.r.length : Int)) = false := decide_eq_false (by omega)
    have HK2 : Hid (askD x = datW x.k) := Lib.hid (by rw [HK.out, if_neg hr])
    obtain ⟨r0, r1, r2, r3, r4, r5, r6, r7, r8, r9, r10⟩ := LR3.out.cells11
    clear hr
    go_wp2
    rw [nest11]
    refine ret_note (w.heap.size + 1) _ rfl rfl (Lies_put11 LR3.out rfl _ _ _ _ _ _ _ _ _ _ _) rfl rfl ?_
    have X := put11_chg (w2.alloc (.cells #[.int .i64 7, .int .u32 (x.e : Int), .int .u32 0, .int .u64 0, .int .u64 0, .int .u32 (x.o : Int), .int .i64 x.s, .bool x.u, .int .i64 0, .slice none 0 0, .slice A (datW x.k).length c] 55)) (w.heap.size + 1) (.int .i64 7) (.int .u32 (x.e : Int)) (.int .u32 0) (.int .u64 0) (.int .u64 0) (.int .u32 (x.o : Int)) (.int .i64 x.s) (.bool x.u) (.int .i64 0) (.slice none 0 0) (.slice A (datW x.k).length c)
    have BX := X.below B3.out B3.out.size (fun i hi => by rw [show i = w.heap.size + 1 from hi]; exact Nat.le_succ _)
    rw [HK2.out]
    have HOX := Own_same HO3.out fun i hi => X.block i (HO3.out.lt i hi) ((Kb.row HO3.out.1 hi).ne (Kb.of LR3.out) (by decide))
    exact ⟨BX, A, c, rfl, Own.inb HOX, (.inr fun i hi => Fe.Own.block HOX i hi), fun i hi => Fe.Own.lt HOX i hi⟩
theorem asknote_any (x : Ax) (w : World) (h : AT w x) : Calls Tryz.prog 22 #[.agg (ax8 x)] w (AskPost w x) :=
  (asknote_any2 x w h).mono fun e w1 ⟨h1, A, c, h2, h3, h4, _⟩ => ⟨h1, A, c, h2, h3, h4⟩

end Go.Proofs.YtpbclmnhkmcknaaGreat
