/-
  Texts of one proof, in their order: DoCanc, CrewM, CEnc, CDec.
-/
import Derived.Test.YtpbclmnhkmcknaaGreatZ14
namespace Go.Proofs.YtpbclmnhkmcknaaGreat.Do
open Go.RowKit Go.Maps
set_option maxRecDepth 100000
set_option linter.unusedVariables false
set_option linter.unusedSimpArgs false

def CancPost (w : World) (b : SB) (q : Ss) (o : Nat) (e : Ending) (w' : World) : Prop :=
  e = .returned (.int .i64 (verd (findH q.H o).isSome)) ∧ At w' b (cancS q o) ∧ Frm w w' b

set_option maxHeartbeats 8000000 in
theorem canc_any (R : List Int) (b : SB) (q : Ss) (o : Nat) (w : World) (hA : At w b q) (hI : Inv R q) (ho : o < 4294967296) :
    Calls Tryz.prog 159 #[.pointer (some ⟨b.s, 0, none⟩), .int .u32 (o : Int)] w (CancPost w b q o) := by
  have HA := Lib.hid hA
  have HI := Lib.hid hI
  obtain ⟨A, cap, hbv⟩ := hA.len
  have hC := hA.c
  rw [hbv] at hC
  obtain ⟨c0, c1⟩ := hC.cells2
  have HBV := Lib.hid hbv
  clear hC hbv
  cases hf : findH q.H o with
  | none =>
    have HF := Lib.hid hf
    have lk := hA.o.look_none o ho hf
    clear hA hI hf
    go_enter Tryz.func159, Tryz.ntmps159
    go_wp2
    go_ret
    unfold CancPost
    rw [cancS_no HF.out, HF.out]
    exact ⟨rfl, HA.out.below (below1 _ _), Frm.of_below b (below1 _ _)⟩
  | some y =>
    have HF := Lib.hid hf
    have lk := hA.o.look_some o ho hf
    obtain ⟨hy, rfl⟩ := findH_some hf
    obtain ⟨hb1, hb2, hb3, hb4⟩ := hI.canc_bnd hy
    have hA1 := hA.alloc (.cells #[.int .i64 (y.d : Int), .int .i64 y.k] 276)
    have hC2 := hA1.c
    rw [HBV.out] at hC2
    obtain ⟨d0, d1⟩ := hC2.cells2
    obtain ⟨w2, hu1, hu2, hu3⟩ := hA1.o.del hI.hs y hy ho 0
    obtain ⟨hA2, hF2⟩ := hA1.turnH hu2 hu3
    have HNM : ¬ b.isMap w.heap.size := fun hm => Nat.lt_irrefl _ (hA.map_lt hm)
    have L2 := Lib.hid (hF2.lies (Lies.made w 276 #[.int .i64 (y.d : Int), .int .i64 y.k]) HNM)
    have HF2 := Lib.hid ((Frm.of_below b (below1 w (.cells #[.int .i64 (y.d : Int), .int .i64 y.k] 276))).trans hF2)
    have HA2 := Lib.hid hA2
    obtain ⟨cap', hv', hcc, hcm, hc⟩ := hA2.row (show 0 < q.F.length by omega)
    obtain ⟨x0, xf⟩ := hc y.d hb1
    rw [HBV.out] at hv'
    injection hv' with q1 q2 q3
    subst q1 q3
    obtain ⟨hp1, hp2⟩ := hA2.putF (show y.d < (Ss.mk q.F (delH q.H y.o)).F.length from hb1) (fr q.F y.d + y.k)
    have HP1 := Lib.hid hp1
    have HP2 := Lib.hid hp2
    have hC3 := hA2.c
    rw [HBV.out] at hC3
    obtain ⟨f0, f1⟩ := hC3.cells2
    have hd2 : (y.d : Int) < (q.F.length : Int) := by omega
    have hd3 : decide ((y.d : Int) < 0) = false := by simp
    obtain ⟨p0, p1⟩ := L2.out.cells2
    replace x0 : w2.cell? ⟨b.g, y.d, none⟩ = some (.int .i64 (fr q.F y.d)) := x0
    have ew : IntKind.i64.wrap (fr q.F y.d + y.k) = fr q.F y.d + y.k := IntWalk.i64_in _ (by omega)
    have HX : Hid (cancS q y.o = ⟨q.F.set y.d (fr q.F y.d + y.k), delH q.H y.o⟩) := Lib.hid (cancS_yes hf)
    clear hA hI hf hA1 hC2 hu2 hu3 hA2 hF2 hc hp1 hp2 hC3 q2 HNM hb3 hb4 hb2
    generalize hxx : fr q.F y.d = x at *
    have hy2 : (y.d : Int).toNat = y.d := by simp
    clear hxx
    go_enter Tryz.func159, Tryz.ntmps159
    go_wp2_with fail
    refine wp_region_still_tail 12 (by kernel_rfl) (by kernel_rfl) ?_
    simp only [List.take_succ_cons, List.take_zero, List.drop_succ_cons, List.drop_zero]
    refine still_val 25 ?va0 rfl (by rfl) ?hya0 ?resta0
    case hya0 => (go_simp; (try with_reducible rfl))
    try simp only [Act.put, List.setIfInBounds_toArray, List.set_cons_zero, List.set_cons_succ]
    refine still_val 26 ?va1 rfl (by rfl) ?hya1 ?resta1
    case hya1 => (go_simp; (try with_reducible rfl))
    try simp only [Act.put, List.setIfInBounds_toArray, List.set_cons_zero, List.set_cons_succ]
    refine still_val 27 ?va2 rfl (by rfl) ?hya2 ?resta2
    case hya2 => (go_simp; (try with_reducible rfl))
    try simp only [Act.put, List.setIfInBounds_toArray, List.set_cons_zero, List.set_cons_succ]
    refine still_val 28 ?va3 rfl (by rfl) ?hya3 ?resta3
    case hya3 => (go_simp; (try with_reducible rfl))
    try simp only [Act.put, List.setIfInBounds_toArray, List.set_cons_zero, List.set_cons_succ]
    refine still_val 29 ?va4 rfl (by rfl) ?hya4 ?resta4
    case hya4 => (go_simp; (try with_reducible rfl))
    try simp only [Act.put, List.setIfInBounds_toArray, List.set_cons_zero, List.set_cons_succ]
    refine still_val 30 ?va5 rfl (by rfl) ?hya5 ?resta5
    case hya5 => (go_simp; (try with_reducible rfl))
    try simp only [Act.put, List.setIfInBounds_toArray, List.set_cons_zero, List.set_cons_succ]
    refine still_val 31 ?va6 rfl (by rfl) ?hya6 ?resta6
    case hya6 => (go_simp; (try with_reducible rfl))
    try simp only [Act.put, List.setIfInBounds_toArray, List.set_cons_zero, List.set_cons_succ]
    refine still_val 32 ?va7 rfl (by rfl) ?hya7 ?resta7
    case hya7 => (go_simp; (try with_reducible rfl))
    try simp only [Act.put, List.setIfInBounds_toArray, List.set_cons_zero, List.set_cons_succ]
    refine still_val 33 ?va8 rfl (by rfl) ?hya8 ?resta8
    case hya8 => (go_simp; (try with_reducible rfl))
    try simp only [Act.put, List.setIfInBounds_toArray, List.set_cons_zero, List.set_cons_succ]
    refine still_val 34 ?va9 rfl (by rfl) ?hya9 ?resta9
    case hya9 => (go_simp; (try with_reducible rfl))
    try simp only [Act.put, List.setIfInBounds_toArray, List.set_cons_zero, List.set_cons_succ]
    refine still_val 35 ?va10 rfl (by rfl) ?hya10 ?resta10
    case hya10 => (go_simp; (try with_reducible rfl))
    try simp only [Act.put, List.setIfInBounds_toArray, List.set_cons_zero, List.set_cons_succ]
    refine still_val 36 ?va11 rfl (by rfl) ?hya11 ?resta11
    case hya11 => (go_simp; (try with_reducible rfl))
    try simp only [Act.put, List.setIfInBounds_toArray, List.set_cons_zero, List.set_cons_succ]
    refine wpStill_nil ?_
    change wpList _ _ _ _ _ w2.drew
    go_wp2
    go_ret
    refine ⟨by rw [HF.out]; rfl, ?_, ?_⟩
    · rw [HX.out]; exact HP1.out.drew
    · exact HF2.out.trans HP2.out.drew

end Go.Proofs.YtpbclmnhkmcknaaGreat.Do

namespace Go.Proofs.YtpbclmnhkmcknaaGreat
open Go.RowKit
open Fe (Lies Own Bys Reads NF Kx Kp)
set_option maxRecDepth 100000
set_option linter.unusedVariables false
set_option linter.unusedSimpArgs false

/-! ### kinds of blocks -/
/-- A block of cells of a type, or (none) a map. -/
def Kb (w : World) (i : Nat) : Option TypeId → Prop
  | none => ∃ es c, w.heap[i]? = some (.map es c)
  | some t => ∃ cs fr, w.heap[i]? = some (.cells cs t fr)
theorem Kb.ne {w : World} {i j : Nat} {t u : Option TypeId} (h : Kb w i t) (h' : Kb w j u) (hn : t ≠ u) : i ≠ j := by
  rintro rfl
  cases t <;> cases u
  · exact hn rfl
  · obtain ⟨_, _, e⟩ := h
    obtain ⟨_, _, e'⟩ := h'
    rw [e] at e'; cases e'
  · obtain ⟨_, _, e⟩ := h
    obtain ⟨_, _, e'⟩ := h'
    rw [e] at e'; cases e'
  · obtain ⟨_, _, e⟩ := h
    obtain ⟨_, _, e'⟩ := h'
    rw [e] at e'
    injection e' with e'
    injection e' with _ e'
    exact hn (by rw [e'])
theorem Kb.lt {w : World} {i : Nat} {t : Option TypeId} (h : Kb w i t) : i < w.heap.size := by
  refine Classical.byContradiction fun hn => ?_
  cases t
  · obtain ⟨_, _, e⟩ := h
    rw [Array.getElem?_eq_none (by omega)] at e; cases e
  · obtain ⟨_, _, e⟩ := h
    rw [Array.getElem?_eq_none (by omega)] at e; cases e
theorem Kb.of {w : World} {g : Nat} {t : TypeId} {cs : Array Value} (h : Lies w g t cs) : Kb w g (some t) := ⟨cs, (0, 0), h⟩
theorem Kb.sk {w : World} {m : Nat} {K : List St.Kd} (h : St.OwnK w m K) : Kb w m none := by
  obtain ⟨D, ⟨es, clock, hb, -⟩, -⟩ := h
  exact ⟨es, clock, hb⟩
theorem Kb.sh {w : World} {m : Nat} {H : List St.Hd} (h : St.OwnH w m H) : Kb w m none := by
  obtain ⟨D, ⟨es, clock, hb, -⟩, -⟩ := h
  exact ⟨es, clock, hb⟩
theorem Kb.pk {w : World} {m : Nat} {K : List Pu.Kd} (h : Pu.OwnK w m K) : Kb w m none := by
  obtain ⟨D, ⟨es, clock, hb, -⟩, -⟩ := h
  exact ⟨es, clock, hb⟩
theorem Kb.ph {w : World} {m : Nat} {H : List Pu.Hd} (h : Pu.OwnH w m H) : Kb w m none := by
  obtain ⟨D, ⟨es, clock, hb, -⟩, -⟩ := h
  exact ⟨es, clock, hb⟩
theorem Kb.dh {w : World} {m : Nat} {H : List Do.Hd} (h : Do.OwnH w m H) : Kb w m none := by
  obtain ⟨D, ⟨es, clock, hb, -⟩, -⟩ := h
  exact ⟨es, clock, hb⟩
theorem Kb.row {w : World} {B : Nat} {t : TypeId} {k n : Nat} {v : Value} {xs : List Value} (h : w.ownsRow B t k v n xs) {i : Nat} (hi : v.ownBlock = some i) : Kb w i (some t) := by
  rcases h.2 with ⟨rfl, _⟩ | ⟨g, cap, cur, rfl, _, hg, _⟩
  · cases hi
  · have : g = i := by simpa [Value.ownBlock] using hi
    subst this
    exact ⟨cur, (0, 0), hg⟩

/-! ### what stays -/
/-- All but what F holds, and what is new, is as it was. -/
structure Chg (F : Nat → Prop) (w w' : World) : Prop where
  os : w'.os = w.os
  tape : w'.tape = w.tape
  output : w'.output = w.output
  size : w.heap.size ≤ w'.heap.size
  block : ∀ i, i < w.heap.size → ¬ F i → w'.heap[i]? = w.heap[i]?
theorem Chg.refl (F : Nat → Prop) (w : World) : Chg F w w := ⟨rfl, rfl, rfl, Nat.le_refl _, fun _ _ _ => rfl⟩
theorem Chg.of {F : Nat → Prop} {w w' : World} (h : Below w.heap.size w w') : Chg F w w' := ⟨h.os, h.tape, h.output, h.size, fun i hi _ => h.block i hi⟩
theorem Chg.mono {F G : Nat → Prop} {w w' : World} (h : Chg F w w') (hG : ∀ i, i < w.heap.size → F i → G i) : Chg G w w' := ⟨h.os, h.tape, h.output, h.size, fun i hi hn => h.block i hi (fun hf => hn (hG i hi hf))⟩
theorem Chg.trans {F G : Nat → Prop} {w w' w'' : World} (h : Chg F w w') (h' : Chg G w' w'') (hG : ∀ i, G i → F i ∨ w.heap.size ≤ i) : Chg F w w'' :=
  ⟨h'.os.trans h.os, h'.tape.trans h.tape, h'.output.trans h.output, Nat.le_trans h.size h'.size, fun i hi hn => (h'.block i (Nat.lt_of_lt_of_le hi h.size) (fun hg => by
    rcases hG i hg with h1 | h1
    · exact hn h1
    · omega)).trans (h.block i hi hn)⟩
theorem Chg.below {F : Nat → Prop} {w w' a : World} {B : Nat} (h : Chg F w w') (hb : Below B a w) (hB : B ≤ w.heap.size) (h1 : ∀ i, F i → B ≤ i) : Below B a w' :=
  ⟨h.os.trans hb.os, h.tape.trans hb.tape, h.output.trans hb.output, Nat.le_trans hb.size h.size, fun k hk => (h.block k (by omega) (fun hm => by have := h1 k hm; omega)).trans (hb.block k hk)⟩
theorem Chg.drew {F : Nat → Prop} {w w' : World} (h : Chg F w w') : Chg F w w'.drew := ⟨h.os, h.tape, h.output, h.size, h.block⟩
theorem Chg.drew0 {F : Nat → Prop} {w w' : World} (h : Chg F w.drew w') : Chg F w w' := ⟨h.os, h.tape, h.output, h.size, h.block⟩
/-- What a statement about memory hangs on: it stays true where the blocks of X are as they were. -/
def Sta (w : World) (X : Nat → Prop) (R : World → Prop) : Prop := (∀ i, X i → i < w.heap.size) ∧ ∀ w', (∀ i, X i → w'.heap[i]? = w.heap[i]?) → R w'
theorem Sta.now {w : World} {X : Nat → Prop} {R : World → Prop} (h : Sta w X R) : R w := h.2 w fun _ _ => rfl
theorem Sta.go {w w' : World} {X : Nat → Prop} {R : World → Prop} (h : Sta w X R) (hs : w.heap.size ≤ w'.heap.size) (he : ∀ i, X i → w'.heap[i]? = w.heap[i]?) : Sta w' X R :=
  ⟨fun i hi => Nat.lt_of_lt_of_le (h.1 i hi) hs, fun w'' h'' => h.2 w'' fun i hi => (h'' i hi).trans (he i hi)⟩
theorem Sta.below {w w' : World} {X : Nat → Prop} {R : World → Prop} (h : Sta w X R) (hb : Below w.heap.size w w') : Sta w' X R := h.go hb.size fun i hi => hb.block i (h.1 i hi)
theorem Sta.chg {F : Nat → Prop} {w w' : World} {X : Nat → Prop} {R : World → Prop} (h : Sta w X R) (hc : Chg F w w') (hd : ∀ i, X i → ¬ F i) : Sta w' X R := h.go hc.size fun i hi => hc.block i (h.1 i hi) (hd i hi)

/-! ### rows of effects, of slices -/
/-- A slice of bytes, as a value. -/
structure Sl where
  A : Option Addr
  n : Nat
  c : Nat
abbrev Sl.v (s : Sl) : Value := .slice s.A s.n s.c
def encV (s : Sl) : List Value := [s.v]
def encF (e : Ef) : List Value := [.int .u32 (e.o : Int), .int .i64 e.s, .bool e.u]
theorem encV_len (x : Sl) : (encV x).length = 1 := rfl
theorem encF_len (x : Ef) : (encF x).length = 3 := rfl
theorem encV_one (x : Sl) : ∀ v ∈ encV x, v.oneCell' = true := by
  intro v hv
  simp [encV] at hv
  subst hv
  rfl
theorem encF_one (x : Ef) : ∀ v ∈ encF x, v.oneCell' = true := by
  intro v hv
  simp [encF] at hv
  rcases hv with rfl | rfl | rfl <;> rfl
abbrev OwnF (w : World) (B : Nat) (v : Value) (l : List Ef) : Prop := St.OwnE encF 83 3 w B v l
abbrev OwnV (w : World) (B : Nat) (v : Value) (l : List Sl) : Prop := St.OwnE encV 22 1 w B v l
/-- A slice that reads as these bytes, at the begin of a block. -/
def Nt (w : World) (s : Sl) (l : List Nat) : Prop :=
  s.n = l.length ∧ l.length ≤ s.c ∧ s.c ≤ maxLen ∧ (∀ c ∈ l, c < 256) ∧ ((l = [] ∧ s.A = none ∧ s.c = 0) ∨ ∃ g cur fr, s.A = some ⟨g, 0, none⟩ ∧ w.heap[g]? = some (.cells cur 5 fr) ∧ ∀ i, i < l.length → cur[i]? = some (.int .u8 (l.getD i 0 : Nat)))
/-- Slices that read as these bytes. -/
def Nts (w : World) (V : List Sl) (M : List (List Nat)) : Prop := V.length = M.length ∧ ∀ i (h1 : i < V.length) (h2 : i < M.length), Nt w V[i] M[i]
/-- The blocks of slices. -/
def Vb (V : List Sl) (i : Nat) : Prop := ∃ s ∈ V, s.v.ownBlock = some i

theorem Own_same {w w' : World} {B : Nat} {v : Value} {l : List Nat} (h : Own w B v l) (hs : ∀ k, v.ownBlock = some k → w'.heap[k]? = w.heap[k]?) : Own w' B v l := by
  obtain ⟨⟨h0, h1⟩, h2⟩ := h
  refine ⟨⟨h0, ?_⟩, h2⟩
  rcases h1 with h1 | ⟨g, cap, cur, hv, hg0, hg, hr⟩
  · exact .inl h1
  · exact .inr ⟨g, cap, cur, hv, hg0, (hs g (by rw [hv]; rfl)).trans hg, hr⟩
theorem Nt.of_own {w : World} {B : Nat} {s : Sl} {l : List Nat} (h : Own w B s.v l) : Nt w s l := by
  obtain ⟨A, n, c⟩ := s
  have hl := h.2
  rcases h.form with ⟨h1, rfl⟩ | ⟨g, cap, cur, h1, h2, h3, h4, h5, h6, h7⟩
  · injection h1 with e1 e2 e3
    subst e1 e2 e3
    exact ⟨rfl, Nat.le_refl _, Nat.zero_le _, hl, .inl ⟨rfl, rfl, rfl⟩⟩
  · injection h1 with e1 e2 e3
    subst e1 e2 e3
    exact ⟨rfl, h4, h5, hl, .inr ⟨g, cur, (0, 0), rfl, h3, h7⟩⟩
theorem Nt.same {w w' : World} {s : Sl} {l : List Nat} (h : Nt w s l) (hs : ∀ k, s.v.ownBlock = some k → w'.heap[k]? = w.heap[k]?) : Nt w' s l := by
  obtain ⟨h1, h2, h3, h4, h5⟩ := h
  refine ⟨h1, h2, h3, h4, ?_⟩
  rcases h5 with h5 | ⟨g, cur, fr, e, hg, hc⟩
  · exact .inl h5
  · exact .inr ⟨g, cur, fr, e, (hs g (by unfold Sl.v; rw [e]; rfl)).trans hg, hc⟩
theorem Nt.kb {w : World} {s : Sl} {l : List Nat} (h : Nt w s l) {i : Nat} (hi : s.v.ownBlock = some i) : Kb w i (some 5) := by
  obtain ⟨h1, h2, h3, h4, ⟨h5, h6, h7⟩ | ⟨g, cur, fr, e, hg, hc⟩⟩ := h
  · unfold Sl.v at hi; rw [h6] at hi; cases hi
  · unfold Sl.v at hi; rw [e] at hi
    have : g = i := by simpa [Value.ownBlock] using hi
    subst this
    exact ⟨cur, fr, hg⟩
theorem Nt.reads {w : World} {s : Sl} {l : List Nat} (h : Nt w s l) : Reads w s.v l := by
  obtain ⟨h1, h2, h3, h4, h5⟩ := h
  refine ⟨s.A, s.c, by unfold Sl.v; rw [h1], ⟨rfl, h4, fun h0 => ?_⟩, h2, h3, fun e => ?_⟩
  · rcases h5 with ⟨h5, -, -⟩ | ⟨g, cur, fr, e, hg, hc⟩
    · rw [h5] at h0; simp at h0
    · refine ⟨g, 0, e, fun i hi => ?_⟩
      rw [Nat.zero_add, cell_of_row w g i cur 5 fr hg]
      exact hc i hi
  · rcases h5 with ⟨-, -, h5⟩ | ⟨g, cur, fr, e', hg, hc⟩
    · exact h5
    · rw [e'] at e; cases e
theorem Nts.same {w w' : World} {V : List Sl} {M : List (List Nat)} (h : Nts w V M) (hs : ∀ i, Vb V i → w'.heap[i]? = w.heap[i]?) : Nts w' V M :=
  ⟨h.1, fun i h1 h2 => (h.2 i h1 h2).same fun k hk => hs k ⟨V[i], List.getElem_mem h1, hk⟩⟩
theorem Nts.kb {w : World} {V : List Sl} {M : List (List Nat)} (h : Nts w V M) {i : Nat} (hi : Vb V i) : Kb w i (some 5) := by
  obtain ⟨s, hs, e⟩ := hi
  obtain ⟨j, hj, rfl⟩ := List.getElem_of_mem hs
  exact (h.2 j hj (by rw [← h.1]; exact hj)).kb e
theorem Nts.snoc {w : World} {V : List Sl} {M : List (List Nat)} (h : Nts w V M) {s : Sl} {l : List Nat} (hs : Nt w s l) : Nts w (V ++ [s]) (M ++ [l]) := by
  refine ⟨by simp [h.1], fun i h1 h2 => ?_⟩
  by_cases hi : i < V.length
  · rw [List.getElem_append_left hi, List.getElem_append_left (by rw [← h.1]; exact hi)]
    exact h.2 i hi _
  · have hl := h.1
    have : i = V.length := by simp at h1; omega
    subst this
    simp [hl]
    exact hs
theorem Vb.snoc {V : List Sl} {s : Sl} {i : Nat} (h : Vb (V ++ [s]) i) : Vb V i ∨ s.v.ownBlock = some i := by
  obtain ⟨x, hx, e⟩ := h
  rcases List.mem_append.1 hx with hx | hx
  · exact .inl ⟨x, hx, e⟩
  · simp at hx
    subst hx
    exact .inr e
/-- The blocks of a fence's list. -/
def Lb (v : Value) (n : Nat) (X : Nat → Kx) (i : Nat) : Prop := v.ownBlock = some i ∨ ∃ k, k < n ∧ ((X k).K.ownBlock = some i ∨ (X k).D.ownBlock = some i)
theorem NF_same {w w' : World} {B : Nat} {v : Value} {n : Nat} {X : Nat → Kx} (h : NF w B v n X) (hs : ∀ i, Lb v n X i → w'.heap[i]? = w.heap[i]?) : NF w' B v n X :=
  ⟨h.row.same fun k hk => hs k (.inl hk), fun i hi => Own_same (h.a i hi) fun k hk => hs k (.inr ⟨i, hi, .inl hk⟩), fun i hi => Own_same (h.r i hi) fun k hk => hs k (.inr ⟨i, hi, .inr hk⟩), h.b, h.da, h.dr⟩
theorem NF_kb {w : World} {B : Nat} {v : Value} {n : Nat} {X : Nat → Kx} (h : NF w B v n X) {i : Nat} (hi : Lb v n X i) : Kb w i (some 130) ∨ Kb w i (some 5) := by
  rcases hi with hi | ⟨k, hk, hi | hi⟩
  · exact .inl (Kb.row h.row hi)
  · exact .inr (Kb.row (h.a k hk).1 hi)
  · exact .inr (Kb.row (h.r k hk).1 hi)
theorem NF_ge {w : World} {B : Nat} {v : Value} {n : Nat} {X : Nat → Kx} (h : NF w B v n X) {i : Nat} (hi : Lb v n X i) : B ≤ i := by
  rcases hi with hi | ⟨k, hk, hi | hi⟩
  · exact h.row.block i hi
  · exact (h.a k hk).block i hi
  · exact (h.r k hk).block i hi

/-! ### the crew -/
structure CB where
  c : Nat
  s : St.SB
  p : Pu.SB
  d : Do.SB
  n : Nat
  vL : Value
  X : Nat → Kx
  vE : Value
  vM : Value
  V : List Sl
/-- Its cells. -/
abbrev ccs (b : CB) (ep : Nat) : Array Value := #[.pointer (some ⟨b.s.s, 0, none⟩), .pointer (some ⟨b.p.s, 0, none⟩), .pointer (some ⟨b.d.s, 0, none⟩), .int .u32 (ep : Int), b.vL, b.vE, b.vM]
/-- The maps of a stock. -/
def sMap (b : St.SB) (i : Nat) : Prop := i = b.k ∨ i = b.h
/-- All blocks of a crew. -/
def CB.foot (b : CB) (i : Nat) : Prop :=
  i = b.c ∨ i = b.s.s ∨ i = b.p.s ∨ i = b.d.s ∨ sMap b.s i ∨ b.p.isMap i ∨ b.d.isMap i ∨ Lb b.vL b.n b.X i ∨ b.vE.ownBlock = some i ∨ b.vM.ownBlock = some i ∨ Vb b.V i
structure CAt (w : World) (b : CB) (q : Cq) : Prop where
  c : Lies w b.c 122 (ccs b q.f.ep)
  s : St.At w b.s q.s
  p : Pu.At w b.p q.p
  d : Do.At w b.d q.d
  fn : b.n = q.f.n
  f : NF w 0 b.vL b.n b.X
  fx : ∀ i, i < b.n → (b.X i).k = q.f.T i
  e : OwnF w 0 b.vE q.E
  m : OwnV w 0 b.vM b.V
  nt : Nts w b.V q.M
  sp : ∀ i, sMap b.s i → ¬ b.p.isMap i
  sd : ∀ i, sMap b.s i → ¬ b.d.isMap i
  pd : ∀ i, b.p.isMap i → ¬ b.d.isMap i
theorem St_same {w w' : World} {b : St.SB} {q : St.Ss} (h : St.At w b q) (h0 : w'.heap[b.s]? = w.heap[b.s]?) (hs : ∀ i, sMap b i → w'.heap[i]? = w.heap[i]?) : St.At w' b q :=
  ⟨h.c.same h0, h.ok.same (hs _ (.inl rfl)), h.oh.same (hs _ (.inr rfl)), h.n⟩
section
variable {w : World} {b : CB} {q : Cq}
theorem CAt.ks (h : CAt w b q) {i : Nat} (hi : sMap b.s i) : Kb w i none := by
  rcases hi with rfl | rfl
  · exact Kb.sk h.s.ok
  · exact Kb.sh h.s.oh
theorem CAt.kp (h : CAt w b q) {i : Nat} (hi : b.p.isMap i) : Kb w i none := by
  rcases hi with rfl | rfl | rfl | rfl
  · exact Kb.pk h.p.ok
  · exact Kb.ph h.p.o1
  · exact Kb.ph h.p.o2
  · exact Kb.ph h.p.o3
theorem CAt.kd (h : CAt w b q) {i : Nat} (hi : b.d.isMap i) : Kb w i none ∨ Kb w i (some 3) := by
  rcases hi with rfl | rfl
  · rcases h.d.f with ⟨-, e, -⟩ | ⟨cap, cur, -, hL, -⟩
    · rw [e]; exact .inl (Kb.dh h.d.o)
    · exact .inr ⟨cur, (0, 0), hL⟩
  · exact .inl (Kb.dh h.d.o)
theorem CAt.kc (h : CAt w b q) : Kb w b.c (some 122) := Kb.of h.c
theorem CAt.kss (h : CAt w b q) : Kb w b.s.s (some 175) := Kb.of h.s.c
theorem CAt.kps (h : CAt w b q) : Kb w b.p.s (some 186) := Kb.of h.p.c
theorem CAt.kds (h : CAt w b q) : Kb w b.d.s (some 193) := Kb.of h.d.c
theorem CAt.ke (h : CAt w b q) {i : Nat} (hi : b.vE.ownBlock = some i) : Kb w i (some 83) := Kb.row h.e hi
theorem CAt.km (h : CAt w b q) {i : Nat} (hi : b.vM.ownBlock = some i) : Kb w i (some 22) := Kb.row h.m hi
theorem CAt.foot_lt (h : CAt w b q) {i : Nat} (hi : b.foot i) : i < w.heap.size := by
  rcases hi with rfl | rfl | rfl | rfl | hi | hi | hi | hi | hi | hi | hi
  · exact h.kc.lt
  · exact h.kss.lt
  · exact h.kps.lt
  · exact h.kds.lt
  · exact (h.ks hi).lt
  · exact (h.kp hi).lt
  · rcases h.kd hi with h | h <;> exact h.lt
  · rcases NF_kb h.f hi with h | h <;> exact h.lt
  · exact (h.ke hi).lt
  · exact (h.km hi).lt
  · exact (h.nt.kb hi).lt
theorem CAt.same {w' : World} (h : CAt w b q) (hs : ∀ i, b.foot i → w'.heap[i]? = w.heap[i]?) : CAt w' b q where
  c := (hs _ (.inl rfl)).trans h.c
  s := St_same h.s (hs _ (.inr (.inl rfl))) fun i hi => hs i (.inr (.inr (.inr (.inr (.inl hi)))))
  p := h.p.same (hs _ (.inr (.inr (.inl rfl)))) fun i hi => hs i (.inr (.inr (.inr (.inr (.inr (.inl hi))))))
  d := h.d.same (hs _ (.inr (.inr (.inr (.inl rfl))))) fun i hi => hs i (.inr (.inr (.inr (.inr (.inr (.inr (.inl hi)))))))
  fn := h.fn
  f := NF_same h.f fun i hi => hs i (.inr (.inr (.inr (.inr (.inr (.inr (.inr (.inl hi))))))))
  fx := h.fx
  e := h.e.same fun i hi => hs i (.inr (.inr (.inr (.inr (.inr (.inr (.inr (.inr (.inl hi)))))))))
  m := h.m.same fun i hi => hs i (.inr (.inr (.inr (.inr (.inr (.inr (.inr (.inr (.inr (.inl hi))))))))))
  nt := h.nt.same fun i hi => hs i (.inr (.inr (.inr (.inr (.inr (.inr (.inr (.inr (.inr (.inr hi))))))))))
  sp := h.sp
  sd := h.sd
  pd := h.pd
theorem CAt.below {w' : World} (h : CAt w b q) (hb : Below w.heap.size w w') : CAt w' b q := h.same fun i hi => hb.block i (h.foot_lt hi)
theorem CAt.alloc (h : CAt w b q) (o : Obj) : CAt (w.alloc o) b q := h.below (Fe.below1 w o)
theorem CAt.drew (h : CAt w b q) : CAt w.drew b q := h.same fun _ _ => rfl
theorem CAt.drewN (h : CAt w b q) (n : Nat) : CAt (w.drewN n) b q := h.same fun _ _ => rfl
theorem CAt.chg {F : Nat → Prop} {w' : World} (h : CAt w b q) (hc : Chg F w w') (hd : ∀ i, b.foot i → ¬ F i) : CAt w' b q := h.same fun i hi => hc.block i (h.foot_lt hi) (hd i hi)
theorem CAt.sta (h : CAt w b q) : Sta w b.foot fun w' => CAt w' b q := ⟨fun i hi => h.foot_lt hi, fun w' hs => h.same hs⟩

/-- A call on the stock. -/
theorem CAt.stock {w' : World} {s' : St.Ss} (h : CAt w b q) (hA : St.At w' b.s s') (hF : St.Frm w w' b.s) : CAt w' b { q with s := s' } ∧ Chg b.foot w w' := by
  have hn : ∀ i, Kb w i none ∨ (∃ t, Kb w i (some t)) → (¬ sMap b.s i) → w'.heap[i]? = w.heap[i]? := fun i hk hi => by
    refine hF.block i ?_ (fun e => hi (.inl e)) (fun e => hi (.inr e))
    rcases hk with hk | ⟨t, hk⟩ <;> exact hk.lt
  have hc : ∀ i t, Kb w i (some t) → w'.heap[i]? = w.heap[i]? := fun i t hk => hn i (.inr ⟨t, hk⟩) fun hi => (h.ks hi).ne hk (by simp) rfl
  refine ⟨⟨(hc _ _ h.kc).trans h.c, hA, h.p.same (hc _ _ h.kps) fun i hi => hn i (.inl (h.kp hi)) fun hs => h.sp i hs hi, h.d.same (hc _ _ h.kds) fun i hi => ?_, h.fn, NF_same h.f fun i hi => ?_, h.fx, h.e.same fun i hi => hc i _ (h.ke hi), h.m.same fun i hi => hc i _ (h.km hi), h.nt.same fun i hi => hc i _ (h.nt.kb hi), h.sp, h.sd, h.pd⟩, ⟨hF.os, hF.tape, hF.output, hF.size, fun i hi hn => hF.block i hi (fun e => hn (.inr (.inr (.inr (.inr (.inl (.inl e))))))) (fun e => hn (.inr (.inr (.inr (.inr (.inl (.inr e)))))))⟩⟩
  · rcases h.kd hi with hk | hk
    · exact hn i (.inl hk) fun hs => h.sd i hs hi
    · exact hc i _ hk
  · rcases NF_kb h.f hi with hk | hk <;> exact hc i _ hk
/-- A call on the purse. -/
theorem CAt.purse {w' : World} {s' : Pu.Ss} (h : CAt w b q) (hA : Pu.At w' b.p s') (hF : Pu.Frm w w' b.p) : CAt w' b { q with p := s' } ∧ Chg b.foot w w' := by
  have hn : ∀ i, Kb w i none ∨ (∃ t, Kb w i (some t)) → (¬ b.p.isMap i) → w'.heap[i]? = w.heap[i]? := fun i hk hi => by
    refine hF.block i ?_ hi
    rcases hk with hk | ⟨t, hk⟩ <;> exact hk.lt
  have hc : ∀ i t, Kb w i (some t) → w'.heap[i]? = w.heap[i]? := fun i t hk => hn i (.inr ⟨t, hk⟩) fun hi => (h.kp hi).ne hk (by simp) rfl
  refine ⟨⟨(hc _ _ h.kc).trans h.c, St_same h.s (hc _ _ h.kss) fun i hi => hn i (.inl (h.ks hi)) fun hs => h.sp i hi hs, hA, h.d.same (hc _ _ h.kds) fun i hi => ?_, h.fn, NF_same h.f fun i hi => ?_, h.fx, h.e.same fun i hi => hc i _ (h.ke hi), h.m.same fun i hi => hc i _ (h.km hi), h.nt.same fun i hi => hc i _ (h.nt.kb hi), h.sp, h.sd, h.pd⟩, ⟨hF.os, hF.tape, hF.output, hF.size, fun i hi hn => hF.block i hi (fun e => hn (.inr (.inr (.inr (.inr (.inr (.inl e)))))))⟩⟩
  · rcases h.kd hi with hk | hk
    · exact hn i (.inl hk) fun hs => h.pd i hs hi
    · exact hc i _ hk
  · rcases NF_kb h.f hi with hk | hk <;> exact hc i _ hk
/-- A call on the dock. -/
theorem CAt.dock {w' : World} {s' : Do.Ss} (h : CAt w b q) (hA : Do.At w' b.d s') (hF : Do.Frm w w' b.d) : CAt w' b { q with d := s' } ∧ Chg b.foot w w' := by
  have hn : ∀ i, Kb w i none ∨ (∃ t, Kb w i (some t)) → (¬ b.d.isMap i) → w'.heap[i]? = w.heap[i]? := fun i hk hi => by
    refine hF.block i ?_ hi
    rcases hk with hk | ⟨t, hk⟩ <;> exact hk.lt
  have hc : ∀ i t, Kb w i (some t) → t ≠ 3 → w'.heap[i]? = w.heap[i]? := fun i t hk h3 => hn i (.inr ⟨t, hk⟩) fun hi => by
    rcases h.kd hi with hd | hd
    · exact hd.ne hk (by simp) rfl
    · exact hd.ne hk (fun e => h3 (by injection e with e; exact e.symm)) rfl
  refine ⟨⟨(hc _ _ h.kc (by decide)).trans h.c, St_same h.s (hc _ _ h.kss (by decide)) fun i hi => hn i (.inl (h.ks hi)) fun hs => h.sd i hi hs, h.p.same (hc _ _ h.kps (by decide)) fun i hi => hn i (.inl (h.kp hi)) fun hs => h.pd i hi hs, hA, h.fn, NF_same h.f fun i hi => ?_, h.fx, h.e.same fun i hi => hc i _ (h.ke hi) (by decide), h.m.same fun i hi => hc i _ (h.km hi) (by decide), h.nt.same fun i hi => hc i _ (h.nt.kb hi) (by decide), h.sp, h.sd, h.pd⟩, ⟨hF.os, hF.tape, hF.output, hF.size, fun i hi hn => hF.block i hi (fun e => hn (.inr (.inr (.inr (.inr (.inr (.inr (.inl e))))))))⟩⟩
  rcases NF_kb h.f hi with hk | hk <;> exact hc i _ hk (by decide)
end

end Go.Proofs.YtpbclmnhkmcknaaGreat

namespace Go.Proofs.YtpbclmnhkmcknaaGreat
open Go.RowKit
open Fe (Lies Own Bys Reads NF Kx Kp Note)
set_option maxRecDepth 100000
set_option linter.unusedVariables false
set_option linter.unusedSimpArgs false

theorem isValid_any (k : Wk) (A : Option Addr) (c : Nat) (w : World) (hx : k.x.length ≤ maxLen) :
    Calls Tryz.prog 42 #[.agg #[.int .i64 k.t, .int .i64 k.n, .slice A k.x.length c]] w fun e w' => e = .returned (.bool (wkB k)) ∧ Below w.heap.size w w' := by
  have e1 : wkB k = (decide (1 ≤ k.t) && (decide (k.t ≤ 6) && (decide (0 ≤ k.n) && (decide (k.n ≤ 1000000000) && decide ((k.x.length : Int) ≤ 32))))) := by
    unfold wkB
    rw [show decide (k.x.length ≤ 32) = decide ((k.x.length : Int) ≤ 32) from decide_eq_decide.2 (by omega)]
  rw [e1]
  clear e1
  obtain ⟨t, n, x⟩ := k
  dsimp only at *
  generalize x.length = m at *
  obtain ⟨b1, h1⟩ : ∃ b, decide (1 ≤ t) = b := ⟨_, rfl⟩
  obtain ⟨b2, h2⟩ : ∃ b, decide (t ≤ 6) = b := ⟨_, rfl⟩
  obtain ⟨b3, h3⟩ : ∃ b, decide (0 ≤ n) = b := ⟨_, rfl⟩
  obtain ⟨b4, h4⟩ : ∃ b, decide (n ≤ 1000000000) = b := ⟨_, rfl⟩
  obtain ⟨b5, h5⟩ : ∃ b, decide ((m : Int) ≤ 32) = b := ⟨_, rfl⟩
  have h6 : decide (m ≤ 32) = b5 := by rw [← h5]; exact decide_eq_decide.2 (by omega)
  rw [h1, h2, h3, h4, h5]
  cases b1 <;> cases b2 <;> cases b3 <;> cases b4 <;> cases b5
  all_goals
    go_enter Tryz.func42, Tryz.ntmps42
    go_wp2
    go_ret
    exact ⟨rfl, Fe.below1 _ _⟩

/-- What a reader says at its end. -/
def doneZ (l : List Nat) (s : Fe.Ent.St) : Int := if s.2 = true then 10 else if s.1 < l.length then 11 else 0
theorem doneZ_iff (l : List Nat) (s : Fe.Ent.St) (h : s.1 ≤ l.length) : doneZ l s = 0 ↔ (!s.2 && decide (s.1 = l.length)) = true := by
  unfold doneZ
  obtain ⟨i, sh⟩ := s
  cases sh
  · by_cases h1 : i < l.length
    · rw [if_neg (by simp), if_pos h1]
      simp; omega
    · rw [if_neg (by simp), if_neg h1]
      simp at h ⊢; omega
  · simp
set_option maxHeartbeats 400000 in
theorem rdone_any (p : Nat) (s : Fe.Ent.St) (l : List Nat) (w : World) (hR : Fe.Rd 166 w p s l) (hl : l.length ≤ 200000) :
    Calls Tryz.prog 53 #[.pointer (some ⟨p, 0, none⟩)] w fun e w' => e = .returned (.int .i64 (doneZ l s)) ∧ ∃ k, w' = w.drewN k := by
  have C1 := Lib.hid (Fe.left_any p s l w hR hl)
  obtain ⟨A, c, hL, hB, _, hi, _, _⟩ := hR
  have hc2 := hL.cell 2
  obtain ⟨i, sh⟩ := s
  simp only at hi hc2 C1
  clear hL hB
  unfold doneZ
  simp only
  cases sh
  · obtain ⟨z, hz⟩ : ∃ z, l.length - i = z := ⟨_, rfl⟩
    rw [hz] at C1
    by_cases hd : i < l.length
    · rw [if_neg (by simp), if_pos hd]
      have hd1 : decide (0 < z) = true := by simp; omega
      have hd2 : decide ((0 : Int) < (z : Int)) = true := by simp; omega
      go_enter Tryz.func53, Tryz.ntmps53
      go_wp2_with fail
      with_reducible refine C1.out.mono ?_
      rintro e w2 ⟨rfl, q, rfl⟩
      go_wp2
      go_ret
      exact ⟨rfl, q, rfl⟩
    · rw [if_neg (by simp), if_neg hd]
      have hd1 : decide (0 < z) = false := by simp; omega
      have hd2 : decide ((0 : Int) < (z : Int)) = false := by simp; omega
      go_enter Tryz.func53, Tryz.ntmps53
      go_wp2_with fail
      with_reducible refine C1.out.mono ?_
      rintro e w2 ⟨rfl, q, rfl⟩
      go_wp2
      go_ret
      exact ⟨rfl, q, rfl⟩
  · rw [if_pos rfl]
    go_enter Tryz.func53, Tryz.ntmps53
    go_wp2
    go_ret
    exact ⟨rfl, 0, rfl⟩

/-- What Encode gives. -/
def EncPost (w : World) (k : Wk) (e : Ending) (w' : World) : Prop :=
  Below w.heap.size w w' ∧ ((wkB k = false ∧ e = .returned (.tuple #[.slice none 0 0, .int .i64 120])) ∨ (wkB k = true ∧ ∃ v, e = .returned (.tuple #[v, .int .i64 0]) ∧ Own w' w.heap.size v (encW k)))
set_option maxHeartbeats 4000000 in
theorem encode_any (k : Wk) (A : Option Addr) (c : Nat) (w : World) (hB : Bys w A k.x.length k.x) (hA : A = none → c = 0) (hx : k.x.length ≤ maxLen) :
    Calls Tryz.prog 12 #[.agg #[.int .i64 k.t, .int .i64 k.n, .slice A k.x.length c]] w (EncPost w k) := by
  have CV := Lib.hid (fun W => isValid_any k A c W hx)
  have HB0 := Lib.hid hB
  have HA := Lib.hid hA
  cases hv : wkB k
  · rw [hv] at CV
    unfold EncPost
    rw [hv]
    clear hv hB hA
    go_enter Tryz.func12, Tryz.ntmps12
    go_wp2_with fail
    with_reducible refine (CV.out _).mono ?_
    rintro e w1 ⟨rfl, hb1⟩
    have BB := Lib.hid ((Fe.below1 w (.cells #[.int .i64 k.t, .int .i64 k.n, .slice A k.x.length c] 24)).trans (hb1.mono (by simp)))
    clear hb1
    go_wp2
    go_ret2
    exact ⟨BB.out, .inl ⟨by first | trivial | rfl, rfl⟩⟩
  · rw [hv] at CV
    obtain ⟨h1, h2, h3, h4, h5⟩ := (wkB_iff k).1 hv
    obtain ⟨t, n, x⟩ := k
    dsimp only at *
    obtain ⟨tn, rfl⟩ : ∃ tn : Nat, t = (tn : Int) := ⟨t.toNat, by omega⟩
    obtain ⟨nn, rfl⟩ : ∃ nn : Nat, n = (nn : Int) := ⟨n.toNat, by omega⟩
    have HE : Hid (encW ⟨(tn : Int), (nn : Int), x⟩ = [] ++ Fe.Ent.be 1 tn ++ Fe.Ent.be 4 nn ++ Fe.Ent.txt x) := Lib.hid (by unfold encW; simp)
    have e8 : IntKind.u8.wrap (tn : Int) = (tn : Int) := Fe.wrap_u8 tn (by omega)
    have e32 : IntKind.u32.wrap (nn : Int) = (nn : Int) := by rw [IntKind.wrap_u32]; omega
    have ht : tn < 256 := by omega
    have hn : nn < 4294967296 := by omega
    have h255 : x.length ≤ 255 := by omega
    have hxl : ([] ++ Fe.Ent.be 1 tn ++ Fe.Ent.be 4 nn).length ≤ 200000 ∧ ([] ++ Fe.Ent.be 1 tn).length ≤ 200000 ∧ ([] ++ Fe.Ent.be 1 tn ++ Fe.Ent.be 4 nn ++ Fe.Ent.txt x).length ≤ 200000 := by
      simp only [List.length_append, Fe.Ent.be_len, txt_len, List.length_nil]; omega
    have HXL := Lib.hid hxl
    unfold EncPost
    rw [hv]
    clear hv hB hA h1 h2 h3 h4 h5 hxl
    go_enter Tryz.func12, Tryz.ntmps12
    go_wp2_with fail
    with_reducible refine (CV.out _).mono ?_
    rintro e w1 ⟨rfl, hb1⟩
    have BB := Lib.hid ((Fe.below1 w (.cells #[.int .i64 (tn : Int), .int .i64 (nn : Int), .slice A x.length c] 24)).trans (hb1.mono (by simp)))
    have LB : Hid (Lies w1 w.heap.size 24 #[.int .i64 (tn : Int), .int .i64 (nn : Int), .slice A x.length c]) := Lib.hid ((Lies.made w 24 _).below hb1 (by simp))
    have HBx := Lib.hid (HB0.out.below BB.out)
    clear hb1
    go_wp2_with fail
    refine wp_region_noPanic ?_
    refine wp_region_held_drew (S := fun W => Lies W w.heap.size 24 #[.int .i64 (tn : Int), .int .i64 (nn : Int), .slice A x.length c]) (by kernel_rfl) (LB.out) (fun hH0 => ?_)
    refine Fe.any_take 1 8 ?vt2 rfl rfl (by kernel_rfl) (by kernel_rfl) (by kernel_rfl) (fun _ _ _ h => h) (by rfl) ?ht2 hH0 ?rt2
    case ht2 => ((intro W hSw); obtain ⟨o0, o1, o2⟩ := Fe.Lies.cells3 hSw; go_simp; (try with_reducible rfl))
    try simp only [Act.put, List.setIfInBounds_toArray, List.set_cons_zero, List.set_cons_succ]
    refine Fe.any_take 2 9 ?vt3 rfl rfl (by kernel_rfl) (by kernel_rfl) (by kernel_rfl) (fun _ _ _ h => h) (by rfl) ?ht3 hH0 ?rt3
    case ht3 => ((intro W hSw); obtain ⟨o0, o1, o2⟩ := Fe.Lies.cells3 hSw; go_simp; (try with_reducible rfl))
    try simp only [Act.put, List.setIfInBounds_toArray, List.set_cons_zero, List.set_cons_succ]
    refine Fe.any_take 3 10 ?vt4 rfl rfl (by kernel_rfl) (by kernel_rfl) (by kernel_rfl) (fun _ _ _ h => h) (by rfl) ?ht4 hH0 ?rt4
    case ht4 => ((intro W hSw); obtain ⟨o0, o1, o2⟩ := Fe.Lies.cells3 hSw; go_simp; (try with_reducible rfl))
    try simp only [Act.put, List.setIfInBounds_toArray, List.set_cons_zero, List.set_cons_succ]
    refine Fe.any_take 5 12 ?vt5 rfl rfl (by kernel_rfl) (by kernel_rfl) (by kernel_rfl) (fun _ _ _ h => h) (by rfl) ?ht5 hH0 ?rt5
    case ht5 => ((intro W hSw); obtain ⟨o0, o1, o2⟩ := Fe.Lies.cells3 hSw; go_simp; (try with_reducible rfl))
    try simp only [Act.put, List.setIfInBounds_toArray, List.set_cons_zero, List.set_cons_succ]
    refine Fe.any_take 6 13 ?vt6 rfl rfl (by kernel_rfl) (by kernel_rfl) (by kernel_rfl) (fun _ _ _ h => h) (by rfl) ?ht6 hH0 ?rt6
    case ht6 => ((intro W hSw); obtain ⟨o0, o1, o2⟩ := Fe.Lies.cells3 hSw; go_simp; (try with_reducible rfl))
    try simp only [Act.put, List.setIfInBounds_toArray, List.set_cons_zero, List.set_cons_succ]
    refine Fe.any_take 7 14 ?vt7 rfl rfl (by kernel_rfl) (by kernel_rfl) (by kernel_rfl) (fun _ _ _ h => h) (by rfl) ?ht7 hH0 ?rt7
    case ht7 => ((intro W hSw); obtain ⟨o0, o1, o2⟩ := Fe.Lies.cells3 hSw; go_simp; (try with_reducible rfl))
    try simp only [Act.put, List.setIfInBounds_toArray, List.set_cons_zero, List.set_cons_succ]
    refine Fe.any_take 9 16 ?vt8 rfl rfl (by kernel_rfl) (by kernel_rfl) (by kernel_rfl) (fun _ _ _ h => h) (by rfl) ?ht8 hH0 ?rt8
    case ht8 => ((intro W hSw); obtain ⟨o0, o1, o2⟩ := Fe.Lies.cells3 hSw; go_simp; (try with_reducible rfl))
    try simp only [Act.put, List.setIfInBounds_toArray, List.set_cons_zero, List.set_cons_succ]
    refine Fe.any_take 10 17 ?vt9 rfl rfl (by kernel_rfl) (by kernel_rfl) (by kernel_rfl) (fun _ _ _ h => h) (by rfl) ?ht9 hH0 ?rt9
    case ht9 => ((intro W hSw); obtain ⟨o0, o1, o2⟩ := Fe.Lies.cells3 hSw; go_simp; (try with_reducible rfl))
    try simp only [Act.put, List.setIfInBounds_toArray, List.set_cons_zero, List.set_cons_succ]
    refine wpAnyH_ready (rs := [0]) (by kernel_rfl) (by simp) ?_
    refine AllReadyH.cons rfl (fun K hK => ?_) AllReadyH.nil
    go_simp
    go_at_call 43
    with_reducible refine (Fe.newWriter_any _).mono ?_
    rintro e w2 ⟨rfl, hw, hb, hk⟩
    have WR_2 : Hid (Fe.Wr w2 w1.heap.size w1.heap.size []) := Lib.hid hw
    have LB_2 := Lib.hid (hk.lies (by decide) (by decide) LB.out)
    have BX_2 : Hid (Below w1.heap.size w1 w2) := Lib.hid (Below.trans (Below.drew (Below.refl _ _)) hb)
    clear hw hb hk
    refine hK.out _ _ (LB_2.out) (fun hH1 => ?_)
    clear hK K hH0
    try simp only [Act.put, List.setIfInBounds_toArray, List.set_cons_zero, List.set_cons_succ]
    refine wpAnyH_ready (rs := [4]) (by kernel_rfl) (by simp) ?_
    refine AllReadyH.cons rfl (fun K hK => ?_) AllReadyH.nil
    go_simp
    go_at_call 44
    with_reducible refine (Fe.wu8_any _ _ tn _ _ WR_2.out ht (by simp)).mono ?_
    rintro e w3 ⟨rfl, hw, hb, hk⟩
    have WR_3 := Lib.hid hw
    have LB_3 := Lib.hid (hk.lies (by decide) (by decide) LB_2.out)
    have BX_3 := Lib.hid (BX_2.out.trans hb)
    clear hw hb hk
    refine hK.out _ _ (LB_3.out) (fun hH2 => ?_)
    clear hK K hH1
    try simp only [Act.put, List.setIfInBounds_toArray, List.set_cons_zero, List.set_cons_succ]
    refine wpAnyH_ready (rs := [8]) (by kernel_rfl) (by simp) ?_
    refine AllReadyH.cons rfl (fun K hK => ?_) AllReadyH.nil
    go_simp
    go_at_call 45
    with_reducible refine (Fe.wu32_any _ _ nn _ _ WR_3.out hn HXL.out.2.1).mono ?_
    rintro e w4 ⟨rfl, hw, hb, hk⟩
    have WR_4 := Lib.hid hw
    have LB_4 := Lib.hid (hk.lies (by decide) (by decide) LB_3.out)
    have BX_4 := Lib.hid (BX_3.out.trans hb)
    clear hw hb hk
    refine hK.out _ _ (LB_4.out) (fun hH3 => ?_)
    clear hK K hH2
    try simp only [Act.put, List.setIfInBounds_toArray, List.set_cons_zero, List.set_cons_succ]
    refine wpAnyH_ready (rs := [11]) (by kernel_rfl) (by simp) ?_
    refine AllReadyH.cons rfl (fun K hK => ?_) AllReadyH.nil
    go_simp
    go_at_call 46
    have HBy := Lib.hid (HBx.out.belowB (HBx.out.low (Nat.le_refl _)) BX_4.out)
    with_reducible refine (Fe.wtext_any _ _ _ x A x.length c _ WR_4.out HBy.out (HBx.out.low (Nat.le_refl _)) HA.out h255 HXL.out.1).mono ?_
    rintro e w5 ⟨rfl, hw, hb, hk⟩
    have WR_5 := Lib.hid hw
    have LB_5 := Lib.hid (hk.lies (by decide) (by decide) LB_4.out)
    have BX_5 := Lib.hid (BX_4.out.trans hb)
    clear hw hb hk
    refine hK.out _ _ (LB_5.out) (fun hH4 => ?_)
    clear hK K hH3
    try simp only [Act.put, List.setIfInBounds_toArray, List.set_cons_zero, List.set_cons_succ]
    refine wpAnyH_ready (rs := [12]) (by kernel_rfl) (by simp) ?_
    refine AllReadyH.cons rfl (fun K hK => ?_) AllReadyH.nil
    go_simp
    go_at_call 47
    with_reducible refine (Fe.wdone_any _ _ _ _ WR_5.out HXL.out.2.2).mono ?_
    rintro e w6 ⟨v, rfl, ho, hb⟩
    have HO := Lib.hid ho
    have BX_6 := Lib.hid (BX_5.out.trans (hb.mono BX_5.out.size))
    have LB_6 := Lib.hid (LB_5.out.below hb LB_5.out.lt)
    clear ho hb
    refine hK.out _ _ (LB_6.out) (fun hH5 => ?_)
    clear hK K hH4
    try simp only [Act.put, List.setIfInBounds_toArray, List.set_cons_zero, List.set_cons_succ]
    refine Fe.any_take 13 20 ?vt10 rfl rfl (by kernel_rfl) (by kernel_rfl) (by kernel_rfl) (fun _ _ _ h => h) (by rfl) ?ht10 hH5 ?rt10
    case ht10 => ((intro W hSw); go_simp; (try with_reducible rfl))
    try simp only [Act.put, List.setIfInBounds_toArray, List.set_cons_zero, List.set_cons_succ]
    refine Fe.any_take 14 21 ?vt11 rfl rfl (by kernel_rfl) (by kernel_rfl) (by kernel_rfl) (fun _ _ _ h => h) (by rfl) ?ht11 hH5 ?rt11
    case ht11 => ((intro W hSw); go_simp; (try with_reducible rfl))
    try simp only [Act.put, List.setIfInBounds_toArray, List.set_cons_zero, List.set_cons_succ]
    refine Fe.any_take 15 2 ?vt12 rfl rfl (by kernel_rfl) (by kernel_rfl) (by kernel_rfl) (fun _ _ _ h => h) (by rfl) ?ht12 hH5 ?rt12
    case ht12 => ((intro W hSw); go_simp; (try with_reducible rfl))
    try simp only [Act.put, List.setIfInBounds_toArray, List.set_cons_zero, List.set_cons_succ]
    refine Fe.any_take 16 3 ?vt13 rfl rfl (by kernel_rfl) (by kernel_rfl) (by kernel_rfl) (fun _ _ _ h => h) (by rfl) ?ht13 hH5 ?rt13
    case ht13 => ((intro W hSw); go_simp; (try with_reducible rfl))
    try simp only [Act.put, List.setIfInBounds_toArray, List.set_cons_zero, List.set_cons_succ]
    clear hH5
    refine wpAnyH_done (by kernel_rfl) ?_ _
    refine NoPanic.normal ?_
    go_wp2
    go_ret2
    refine ⟨BB.out.trans (BX_6.out.mono BB.out.size), .inr ⟨by first | trivial | rfl, v, rfl, ?_⟩⟩
    rw [HE.out]
    exact HO.out.mono (Nat.le_trans BB.out.size BX_5.out.size)

end Go.Proofs.YtpbclmnhkmcknaaGreat

namespace Go.Proofs.YtpbclmnhkmcknaaGreat
open Go.RowKit
open Fe (Lies Own Bys Reads NF Kx Kp Note)
set_option maxRecDepth 100000
set_option linter.unusedVariables false
set_option linter.unusedSimpArgs false

/-- What Decode gives. -/
def DecPost (w : World) (l : List Nat) (e : Ending) (w' : World) : Prop :=
  Below w.heap.size w w' ∧ ((decS l = none ∧ e = .returned (.tuple #[.agg #[.int .i64 0, .int .i64 0, .slice none 0 0], .int .i64 120])) ∨
    ∃ (k : Wk) (s : Sl), decS l = some k ∧ s.n = k.x.length ∧ e = .returned (.tuple #[.agg #[.int .i64 k.t, .int .i64 k.n, s.v], .int .i64 0]) ∧ Own w' w.heap.size s.v k.x)
theorem ret_work {fn : Func} {R : Ending → World → Prop} {a : Act} {w : World} {p u : Tmp} (g : Nat) (t : TypeId) (cs : Array Value) (h : fn.results = #[.cell p 24, .tmp u]) (hp : a.tmps.getD p undef = .pointer (some ⟨g, 0, none⟩)) (hg : Lies w g t cs) (hs : cs.size = 3) (hd : a.defers = [])
    (hR : R (.returned (.tuple #[.agg cs, a.tmps.getD u undef])) w) : bodyPost Tryz.prog fn R .ret a w :=
  bodyPost_ret (Fe.results_cell_run h _ _ g cs hp (run_loadVar_row w g t 24 cs (0, 0) _ hg Tryz.underlying24 rfl (by rw [hs]; kernel_rfl))) hd hR
abbrev put3 (w : World) (g : Nat) (a0 a1 a2 : Value) : World := ((w.setCell ⟨g, 0, none⟩ a0).setCell ⟨g, 1, none⟩ a1).setCell ⟨g, 2, none⟩ a2
theorem Lies_put3 {w : World} {g : Nat} {t : TypeId} {z0 z1 z2 : Value} (h : Lies w g t #[z0, z1, z2]) (a0 a1 a2 : Value) : Lies (put3 w g a0 a1 a2) g t #[a0, a1, a2] := ((h.put 0 a0).put 1 a1).put 2 a2
theorem below_put3 {B g : Nat} {w0 w : World} (h : Below B w0 w) (hg : B ≤ g) (a0 a1 a2 : Value) : Below B w0 (put3 w g a0 a1 a2) := ((h.setCell (p := ⟨g, 0, none⟩) hg a0).setCell (p := ⟨g, 1, none⟩) hg a1).setCell (p := ⟨g, 2, none⟩) hg a2
theorem Own_lies_put {w : World} {B : Nat} {v : Value} {l : List Nat} {g : Nat} {t : TypeId} {cs : Array Value} (h : Own w B v l) (hL : Lies w g t cs) (ht : t ≠ 5) (o : Nat) (u : Value) : Own (w.setCell ⟨g, o, none⟩ u) B v l :=
  h.setOther (a := ⟨g, o, none⟩) (h.ne hL ht) u
theorem Own_put3 {w : World} {B : Nat} {v : Value} {l : List Nat} {g : Nat} {z0 z1 z2 : Value} (h : Own w B v l) (hL : Lies w g 24 #[z0, z1, z2]) (a0 a1 a2 : Value) : Own (put3 w g a0 a1 a2) B v l :=
  Own_lies_put (Own_lies_put (Own_lies_put h hL (by decide) 0 a0) (hL.put 0 a0) (by decide) 1 a1) ((hL.put 0 a0).put 1 a1) (by decide) 2 a2
set_option maxHeartbeats 4000000 in
theorem decode_any (l : List Nat) (A : Option Addr) (n c : Nat) (w : World) (hB : Bys w A n l) (hl : l.length ≤ 200000) : Calls Tryz.prog 14 #[.slice A n c] w (DecPost w l) := by
  have HB0 := Lib.hid hB
  have hsm := hB.2.1
  have hnl : n ≤ 200000 := by have := hB.1; omega
  obtain ⟨q1, q2, q3, q4, q5⟩ := rdW_small hsm
  have HSM := Lib.hid q4
  have HD : Hid (decS l = if rdB l = true ∧ wkB (rdW l) = true then some (rdW l) else none) := Lib.hid rfl
  obtain ⟨a1, hr1⟩ : ∃ a, Fe.Ent.rnum l 1 (0, false) = a := ⟨_, rfl⟩
  obtain ⟨a2, hr2⟩ : ∃ a, Fe.Ent.rnum l 4 a1.2 = a := ⟨_, rfl⟩
  obtain ⟨a3, hr3⟩ : ∃ a, Fe.Ent.rtxt l a2.2 = a := ⟨_, rfl⟩
  have e1 : r1 l = a1 := hr1
  have e2 : r2 l = a2 := by unfold r2; rw [e1]; exact hr2
  have e3 : r3 l = a3 := by unfold r3; rw [e2]; exact hr3
  have eW : rdW l = ⟨(a1.1 : Nat), (a2.1 : Nat), a3.1⟩ := by unfold rdW; rw [e1, e2, e3]
  have eB : rdB l = (!a3.2.2 && decide (a3.2.1 = l.length)) := by unfold rdB; rw [e3]
  rw [e1] at q2
  rw [e2] at q3
  rw [eW] at HSM q5 HD
  rw [eB] at HD
  have HR1 := Lib.hid hr1
  have HR2 := Lib.hid hr2
  have HR3 := Lib.hid hr3
  clear e1 e2 e3 eW eB q1 q4 hsm hB hr1 hr2 hr3
  obtain ⟨n1, s1⟩ := a1
  obtain ⟨n2, s2⟩ := a2
  obtain ⟨x, s3⟩ := a3
  dsimp only at *
  have LR0 := Lib.hid (Lies.made w 24 #[.int .i64 0, .int .i64 0, .slice none 0 0])
  have BB0 := Lib.hid (Fe.below1 w (.cells #[.int .i64 0, .int .i64 0, .slice none 0 0] 24))
  have HB := Lib.hid (HB0.out.alloc (.cells #[.int .i64 0, .int .i64 0, .slice none 0 0] 24))
  go_enter Tryz.func14, Tryz.ntmps14
  go_wp2_with fail
  with_reducible refine (Fe.newReader_any A n c l _ HB.out hnl).mono ?_
  rintro e w1 ⟨p, rfl, hR, hb, hp⟩
  have RD1 := Lib.hid hR
  have HP : Hid (w.heap.size < p) := Lib.hid (by rw [Fe.size_one] at hp; omega)
  have BB1 := Lib.hid (BB0.out.trans (hb.mono BB0.out.size))
  have LR1 := Lib.hid (LR0.out.below hb LR0.out.lt)
  clear hR hb hp
  go_wp2_with fail
  with_reducible refine (Fe.ru8_any p (0, false) l w1 RD1.out hl).mono ?_
  rintro e w2 ⟨he, hR, hg⟩
  rw [HR1.out] at he hR
  subst he
  dsimp only at *
  have RD2 := Lib.hid hR
  have BB2 := Lib.hid (BB1.out.grown hg BB1.out.size (fun k hk => by injection hk with hk; have := HP.out; omega))
  have LR2 := Lib.hid (LR1.out.grown hg (fun e => by injection e with e; have := HP.out; omega))
  clear hR hg
  go_wp2_with fail
  with_reducible refine (Fe.ru32_any p s1 l w2 RD2.out hl).mono ?_
  rintro e w3 ⟨he, hR, hg⟩
  rw [HR2.out] at he hR
  subst he
  dsimp only at *
  have RD3 := Lib.hid hR
  have BB3 := Lib.hid (BB2.out.grown hg BB2.out.size (fun k hk => by injection hk with hk; have := HP.out; omega))
  have LR3 := Lib.hid (LR2.out.grown hg (fun e => by injection e with e; have := HP.out; omega))
  clear hR hg
  go_wp2_with fail
  with_reducible refine (Fe.rtext_any p s2 l w3 RD3.out hl).mono ?_
  rintro e w4 ⟨v, he, hO, hR, hg⟩
  rw [HR3.out] at hO hR
  subst he
  dsimp only at *
  obtain ⟨vA, vc, rfl, hvb, hv1, hv2, hv3⟩ := hO.slice
  have HO := Lib.hid ((hO.mono (show w.heap.size ≤ w3.heap.size from BB3.out.size)).alloc (.cells #[.int .i64 (n1 : Int), .int .i64 (n2 : Int), .slice vA x.length vc] 24))
  have RD4 := Lib.hid (hR.below (Fe.below1 w4 (.cells #[.int .i64 (n1 : Int), .int .i64 (n2 : Int), .slice vA x.length vc] 24)))
  have hs3 : s3.1 ≤ l.length := by obtain ⟨_, _, _, _, _, h, _⟩ := hR; exact h
  have BB4 := Lib.hid ((BB3.out.grown hg BB3.out.size (fun k hk => by injection hk with hk; have := HP.out; omega)).alloc (BB3.out.grown hg BB3.out.size (fun k hk => by injection hk with hk; have := HP.out; omega)).size (.cells #[.int .i64 (n1 : Int), .int .i64 (n2 : Int), .slice vA x.length vc] 24))
  have LR4 := Lib.hid ((LR3.out.grown hg (fun e => by injection e with e; have := HP.out; omega)).alloc (.cells #[.int .i64 (n1 : Int), .int .i64 (n2 : Int), .slice vA x.length vc] 24))
  have LW4 := Lib.hid (Lies.made w4 24 #[.int .i64 (n1 : Int), .int .i64 (n2 : Int), .slice vA x.length vc])
  have hxm : x.length ≤ maxLen := by unfold maxLen; omega
  have CV := Lib.hid (fun W => isValid_any ⟨(n1 : Int), (n2 : Int), x⟩ vA vc W hxm)
  have hdz := doneZ_iff l s3 hs3
  clear hO hR hg hvb hv1 hv2 hv3 hs3
  have i1 : wrap64 (n1 : Int) = (n1 : Int) := by unfold wrap64; omega
  have i2 : wrap64 (n2 : Int) = (n2 : Int) := by unfold wrap64; omega
  have CD := Lib.hid (rdone_any p s3 l _ RD4.out hl)
  obtain ⟨z, hz⟩ : ∃ z, doneZ l s3 = z := ⟨_, rfl⟩
  rw [hz] at CD hdz
  obtain ⟨W4, hW4⟩ : ∃ W4, W4 = w4.alloc (.cells #[.int .i64 (n1 : Int), .int .i64 (n2 : Int), .slice vA x.length vc] 24) := ⟨_, rfl⟩
  rw [← hW4] at HO RD4 BB4 LR4 LW4 CD
  have HW4 := Lib.hid hW4
  have D5 := fun k5 : Nat => Fe.below_drewN (Below.refl W4.heap.size W4) k5
  have LR5 := Lib.hid (fun k5 : Nat => LR4.out.below (D5 k5) LR4.out.lt)
  have LW5 := Lib.hid (fun k5 : Nat => LW4.out.below (D5 k5) LW4.out.lt)
  have BB5 := Lib.hid (fun k5 : Nat => BB4.out.trans ((D5 k5).mono BB4.out.size))
  have HO5 := Lib.hid (fun k5 : Nat => HO.out.belowOwn (D5 k5))
  clear D5 hW4
  cases hb3 : (!s3.2 && decide (s3.1 = l.length))
  · rw [hb3] at HD hdz
    have HDN : Hid (decS l = none) := Lib.hid (by rw [HD.out, if_neg (by simp)])
    have z1 : (z == 0) = false := by
      rw [beq_eq_false_iff_ne]
      exact fun e => by have := hdz.1 e; cases this
    have z2 : (z != 0) = true := by rw [bne, z1]; rfl
    clear hdz hz HD hb3 CV
    go_wp2_with fail
    rw [← HW4.out]
    with_reducible refine CD.out.mono ?_
    rintro e w5 ⟨rfl, k5, rfl⟩
    obtain ⟨c0, c1, c2⟩ := (LR5.out k5).cells3
    obtain ⟨f0, f1, f2⟩ := (LR5.out k5).free3
    go_wp2
    exact ret_work w.heap.size 24 _ rfl rfl (Lies_put3 (LR5.out k5) _ _ _) rfl rfl ⟨below_put3 (BB5.out k5) (Nat.le_refl _) _ _ _, .inl ⟨HDN.out, rfl⟩⟩
  · rw [hb3] at HD hdz
    have z0 : z = 0 := hdz.2 rfl
    subst z0
    cases hw3 : wkB ⟨(n1 : Int), (n2 : Int), x⟩
    · rw [hw3] at HD CV
      have HDN : Hid (decS l = none) := Lib.hid (by rw [HD.out, if_neg (by simp)])
      clear hdz hz HD hb3 hw3
      go_wp2_with fail
      rw [← HW4.out]
      with_reducible refine CD.out.mono ?_
      rintro e w5 ⟨rfl, k5, rfl⟩
      obtain ⟨d0, d1, d2⟩ := (LW5.out k5).cells3
      go_wp2_with fail
      with_reducible refine (CV.out _).mono ?_
      rintro e w6 ⟨rfl, hb6⟩
      have LR6 := Lib.hid ((LR5.out k5).below hb6 (LR5.out k5).lt)
      have BB6 := Lib.hid ((BB5.out k5).trans (hb6.mono (BB5.out k5).size))
      clear hb6
      obtain ⟨c0, c1, c2⟩ := LR6.out.cells3
      obtain ⟨f0, f1, f2⟩ := LR6.out.free3
      go_wp2
      exact ret_work w.heap.size 24 _ rfl rfl (Lies_put3 LR6.out _ _ _) rfl rfl ⟨below_put3 BB6.out (Nat.le_refl _) _ _ _, .inl ⟨HDN.out, rfl⟩⟩
    · rw [hw3] at HD CV
      have HDS : Hid (decS l = some ⟨(n1 : Int), (n2 : Int), x⟩) := Lib.hid (by rw [HD.out, if_pos ⟨rfl, rfl⟩])
      clear hdz hz HD hb3 hw3
      go_wp2_with fail
      rw [← HW4.out]
      with_reducible refine CD.out.mono ?_
      rintro e w5 ⟨rfl, k5, rfl⟩
      obtain ⟨d0, d1, d2⟩ := (LW5.out k5).cells3
      go_wp2_with fail
      with_reducible refine (CV.out _).mono ?_
      rintro e w6 ⟨rfl, hb6⟩
      have LR6 := Lib.hid ((LR5.out k5).below hb6 (LR5.out k5).lt)
      have LW6 := Lib.hid ((LW5.out k5).below hb6 (LW5.out k5).lt)
      have HO6 := Lib.hid ((HO5.out k5).belowOwn hb6)
      have BB6 := Lib.hid ((BB5.out k5).trans (hb6.mono (BB5.out k5).size))
      clear hb6
      obtain ⟨c0, c1, c2⟩ := LR6.out.cells3
      obtain ⟨f0, f1, f2⟩ := LR6.out.free3
      obtain ⟨k0, k1, k2⟩ := LW6.out.cells3
      go_wp2
      exact ret_work w.heap.size 24 _ rfl rfl (Lies_put3 LR6.out _ _ _) rfl rfl ⟨below_put3 BB6.out (Nat.le_refl _) _ _ _, .inr ⟨_, ⟨vA, x.length, vc⟩, HDS.out, rfl, rfl, Own_put3 HO6.out LR6.out _ _ _⟩⟩

end Go.Proofs.YtpbclmnhkmcknaaGreat
