/-
  Texts of one proof, in their order: DoCanc, CrewM, CEnc.
-/
import Derived.Test.YtpbclmnhkmcknaaGreatB11
namespace Go.Proofs.YtpbclmnhkmcknaaGreat.Do
open Go.RowKit Go.Maps
set_option maxRecDepth 100000
set_option linter.unusedVariables false
set_option linter.unusedSimpArgs false

def CancPost (w : World) (b : SB) (q : Ss) (o : Nat) (e : Ending) (w' : World) : Prop :=
  e = .returned (.int .i64 (verd (findH q.H o).isSome)) ∧ At w' b (cancS q o) ∧ Frm w w' b

set_option maxHeartbeats 8000000 in
theorem canc_any (R : List Int) (b : SB) (q : Ss) (o : Nat) (w : World) (hA : At w b q) (hI : Inv R q) (ho : o < 4294967296) :
    Calls Tryz.prog 159 #[.pointer (some ⟨b.s, 0, none⟩), .int .u32 (o : Int)] w (CancPost w b q o) := by
  have HA := Lib.hid hA
  have HI := Lib.hid hI
  obtain ⟨A, cap, hbv⟩ := hA.len
  have hC := hA.c
  rw [hbv] at hC
  obtain ⟨c0, c1⟩ := hC.cells2
  have HBV := Lib.hid hbv
  clear hC hbv
  cases hf : findH q.H o with
  | none =>
    have HF := Lib.hid hf
    have lk := hA.o.look_none o ho hf
    clear hA hI hf
    go_enter Tryz.func159, Tryz.ntmps159
    go_wp2
    go_ret
    unfold CancPost
    rw [cancS_no HF.out, HF.out]
    exact ⟨rfl, HA.out.below (below1 _ _), Frm.of_below b (below1 _ _)⟩
  | some y =>
    have HF := Lib.hid hf
    have lk := hA.o.look_some o ho hf
    obtain ⟨hy, rfl⟩ := findH_some hf
    obtain ⟨hb1, hb2, hb3, hb4⟩ := hI.canc_bnd hy
    have hA1 := hA.alloc (.cells #[.int .i64 (y.d : Int), .int .i64 y.k] 276)
    have hC2 := hA1.c
    rw [HBV.out] at hC2
    obtain ⟨d0, d1⟩ := hC2.cells2
    obtain ⟨w2, hu1, hu2, hu3⟩ := hA1.o.del hI.hs y hy ho 0
    obtain ⟨hA2, hF2⟩ := hA1.turnH hu2 hu3
    have HNM : ¬ b.isMap w.heap.size := fun hm => Nat.lt_irrefl _ (hA.map_lt hm)
    have L2 := Lib.hid (hF2.lies (Lies.made w 276 #[.int .i64 (y.d : Int), .int .i64 y.k]) HNM)
    have HF2 := Lib.hid ((Frm.of_below b (below1 w (.cells #[.int .i64 (y.d : Int), .int .i64 y.k] 276))).trans hF2)
    have HA2 := Lib.hid hA2
    obtain ⟨cap', hv', hcc, hcm, hc⟩ := hA2.row (show 0 < q.F.length by omega)
    obtain ⟨x0, xf⟩ := hc y.d hb1
    rw [HBV.out] at hv'
    injection hv' with q1 q2 q3
    subst q1 q3
    obtain ⟨hp1, hp2⟩ := hA2.putF (show y.d < (Ss.mk q.F (delH q.H y.o)).F.length from hb1) (fr q.F y.d + y.k)
    have HP1 := Lib.hid hp1
    have HP2 := Lib.hid hp2
    have hC3 := hA2.c
    rw [HBV.out] at hC3
    obtain ⟨f0, f1⟩ := hC3.cells2
    have hd2 : (y.d : Int) < (q.F.length : Int) := by omega
    have hd3 : decide ((y.d : Int) < 0) = false := by simp
    obtain ⟨p0, p1⟩ := L2.out.cells2
    replace x0 : w2.cell? ⟨b.g, y.d, none⟩ = some (.int .i64 (fr q.F y.d)) := x0
    have ew : IntKind.i64.wrap (fr q.F y.d + y.k) = fr q.F y.d + y.k := IntWalk.i64_in _ (by omega)
    have HX : Hid (cancS q y.o = ⟨q.F.set y.d (fr q.F y.d + y.k), delH q.H y.o⟩) := Lib.hid (cancS_yes hf)
    clear hA hI hf hA1 hC2 hu2 hu3 hA2 hF2 hc hp1 hp2 hC3 q2 HNM hb3 hb4 hb2
    generalize hxx : fr q.F y.d = x at *
    have hy2 : (y.d : Int).toNat = y.d := by simp
    clear hxx
    go_enter Tryz.func159, Tryz.ntmps159
    go_wp2_with fail
    refine wp_region_still_tail 12 (by kernel_rfl) (by kernel_rfl) ?_
    simp only [List.take_succ_cons, List.take_zero, List.drop_succ_cons, List.drop_zero]
    refine still_val 25 ?va0 rfl (by rfl) ?hya0 ?resta0
    case hya0 => (go_simp; (try with_reducible rfl))
    try simp only [Act.put, List.setIfInBounds_toArray, List.set_cons_zero, List.set_cons_succ]
    refine still_val 26 ?va1 rfl (by rfl) ?hya1 ?resta1
    case hya1 => (go_simp; (try with_reducible rfl))
    try simp only [Act.put, List.setIfInBounds_toArray, List.set_cons_zero, List.set_cons_succ]
    refine still_val 27 ?va2 rfl (by rfl) ?hya2 ?resta2
    case hya2 => (go_simp; (try with_reducible rfl))
    try simp only [Act.put, List.setIfInBounds_toArray, List.set_cons_zero, List.set_cons_succ]
    refine still_val 28 ?va3 rfl (by rfl) ?hya3 ?resta3
    case hya3 => (go_simp; (try with_reducible rfl))
    try simp only [Act.put, List.setIfInBounds_toArray, List.set_cons_zero, List.set_cons_succ]
    refine still_val 29 ?va4 rfl (by rfl) ?hya4 ?resta4
    case hya4 => (go_simp; (try with_reducible rfl))
    try simp only [Act.put, List.setIfInBounds_toArray, List.set_cons_zero, List.set_cons_succ]
    refine still_val 30 ?va5 rfl (by rfl) ?hya5 ?resta5
    case hya5 => (go_simp; (try with_reducible rfl))
    try simp only [Act.put, List.setIfInBounds_toArray, List.set_cons_zero, List.set_cons_succ]
    refine still_val 31 ?va6 rfl (by rfl) ?hya6 ?resta6
    case hya6 => (go_simp; (try with_reducible rfl))
    try simp only [Act.put, List.setIfInBounds_toArray, List.set_cons_zero, List.set_cons_succ]
    refine still_val 32 ?va7 rfl (by rfl) ?hya7 ?resta7
    case hya7 => (go_simp; (try with_reducible rfl))
    try simp only [Act.put, List.setIfInBounds_toArray, List.set_cons_zero, List.set_cons_succ]
    refine still_val 33 ?va8 rfl (by rfl) ?hya8 ?resta8
    case hya8 => (go_simp; (try with_reducible rfl))
    try simp only [Act.put, List.setIfInBounds_toArray, List.set_cons_zero, List.set_cons_succ]
    refine still_val 34 ?va9 rfl (by rfl) ?hya9 ?resta9
    case hya9 => (go_simp; (try with_reducible rfl))
    try simp only [Act.put, List.setIfInBounds_toArray, List.set_cons_zero, List.set_cons_succ]
    refine still_val 35 ?va10 rfl (by rfl) ?hya10 ?resta10
    case hya10 => (go_simp; (try with_reducible rfl))
    try simp only [Act.put, List.setIfInBounds_toArray, List.set_cons_zero, List.set_cons_succ]
    refine still_val 36 ?va11 rfl (by rfl) ?hya11 ?resta11
    case hya11 => (go_simp; (try with_reducible rfl))
    try simp only [Act.put, List.setIfInBounds_toArray, List.set_cons_zero, List.set_cons_succ]
    refine wpStill_nil ?_
    change wpList _ _ _ _ _ w2.drew
    go_wp2
    go_ret
    refine ⟨by rw [HF.out]; rfl, ?_, ?_⟩
    · rw [HX.out]; exact HP1.out.drew
    · exact HF2.out.trans HP2.out.drew

end Go.Proofs.YtpbclmnhkmcknaaGreat.Do

namespace Go.Proofs.YtpbclmnhkmcknaaGreat
open Go.RowKit
open Fe (Lies Own Bys Reads NF Kx Kp)
set_option maxRecDepth 100000
set_option linter.unusedVariables false
set_option linter.unusedSimpArgs false

/-! ### kinds of blocks -/
/-- A block of cells of a type, or (none) a map. -/
def Kb (w : World) (i : Nat) : Option TypeId → Prop
  | none => ∃ es c, w.heap[i]? = some (.map es c)
  | some t => ∃ cs fr, w.heap[i]? = some (.cells cs t fr)
theorem Kb.ne {w : World} {i j : Nat} {t u : Option TypeId} (h : Kb w i t) (h' : Kb w j u) (hn : t ≠ u) : i ≠ j := by
  rintro rfl
  cases t <;> cases u
  · exact hn rfl
  · obtain ⟨_, _, e⟩ := h
    obtain ⟨_, _, e'⟩ := h'
    rw [e] at e'; cases e'
  · obtain ⟨_, _, e⟩ := h
    obtain ⟨_, _, e'⟩ := h'
    rw [e] at e'; cases e'
  · obtain ⟨_, _, e⟩ := h
    obtain ⟨_, _, e'⟩ := h'
    rw [e] at e'
    injection e' with e'
    injection e' with _ e'
    exact hn (by rw [e'])
theorem Kb.lt {w : World} {i : Nat} {t : Option TypeId} (h : Kb w i t) : i < w.heap.size := by
  refine Classical.byContradiction fun hn => ?_
  cases t
  · obtain ⟨_, _, e⟩ := h
    rw [Array.getElem?_eq_none (by omega)] at e; cases e
  · obtain ⟨_, _, e⟩ := h
    rw [Array.getElem?_eq_none (by omega)] at e; cases e
theorem Kb.of {w : World} {g : Nat} {t : TypeId} {cs : Array Value} (h : Lies w g t cs) : Kb w g (some t) := ⟨cs, (0, 0), h⟩
theorem Kb.sk {w : World} {m : Nat} {K : List St.Kd} (h : St.OwnK w m K) : Kb w m none := by
  obtain ⟨D, ⟨es, clock, hb, -⟩, -⟩ := h
  exact ⟨es, clock, hb⟩
theorem Kb.sh {w : World} {m : Nat} {H : List St.Hd} (h : St.OwnH w m H) : Kb w m none := by
  obtain ⟨D, ⟨es, clock, hb, -⟩, -⟩ := h
  exact ⟨es, clock, hb⟩
theorem Kb.pk {w : World} {m : Nat} {K : List Pu.Kd} (h : Pu.OwnK w m K) : Kb w m none := by
  obtain ⟨D, ⟨es, clock, hb, -⟩, -⟩ := h
  exact ⟨es, clock, hb⟩
theorem Kb.ph {w : World} {m : Nat} {H : List Pu.Hd} (h : Pu.OwnH w m H) : Kb w m none := by
  obtain ⟨D, ⟨es, clock, hb, -⟩, -⟩ := h
  exact ⟨es, clock, hb⟩
theorem Kb.dh {w : World} {m : Nat} {H : List Do.Hd} (h : Do.OwnH w m H) : Kb w m none := by
  obtain ⟨D, ⟨es, clock, hb, -⟩, -⟩ := h
  exact ⟨es, clock, hb⟩
theorem Kb.row {w : World} {B : Nat} {t : TypeId} {k n : Nat} {v : Value} {xs : List Value} (h : w.ownsRow B t k v n xs) {i : Nat} (hi : v.ownBlock = some i) : Kb w i (some t) := by
  rcases h.2 with ⟨rfl, _⟩ | ⟨g, cap, cur, rfl, _, hg, _⟩
  · cases hi
  · have : g = i := by simpa [Value.ownBlock] using hi
    subst this
    exact ⟨cur, (0, 0), hg⟩

/-! ### what stays -/
/-- All but what F holds, and what is new, is as it was. -/
structure Chg (F : Nat → Prop) (w w' : World) : Prop where
  os : w'.os = w.os
  tape : w'.tape = w.tape
  output : w'.output = w.output
  size : w.heap.size ≤ w'.heap.size
  block : ∀ i, i < w.heap.size → ¬ F i → w'.heap[i]? = w.heap[i]?
theorem Chg.of {F : Nat → Prop} {w w' : World} (h : Below w.heap.size w w') : Chg F w w' := ⟨h.os, h.tape, h.output, h.size, fun i hi _ => h.block i hi⟩
theorem Chg.trans {F G : Nat → Prop} {w w' w'' : World} (h : Chg F w w') (h' : Chg G w' w'') (hG : ∀ i, G i → F i ∨ w.heap.size ≤ i) : Chg F w w'' :=
  ⟨h'.os.trans h.os, h'.tape.trans h.tape, h'.output.trans h.output, Nat.le_trans h.size h'.size, fun i hi hn => (h'.block i (Nat.lt_of_lt_of_le hi h.size) (fun hg => by
    rcases hG i hg with h1 | h1
    · exact hn h1
    · omega)).trans (h.block i hi hn)⟩
theorem Chg.below {F : Nat → Prop} {w w' a : World} {B : Nat} (h : Chg F w w') (hb : Below B a w) (hB : B ≤ w.heap.size) (h1 : ∀ i, F i → B ≤ i) : Below B a w' :=
  ⟨h.os.trans hb.os, h.tape.trans hb.tape, h.output.trans hb.output, Nat.le_trans hb.size h.size, fun k hk => (h.block k (by omega) (fun hm => by have := h1 k hm; omega)).trans (hb.block k hk)⟩
theorem Chg.drew {F : Nat → Prop} {w w' : World} (h : Chg F w w') : Chg F w w'.drew := ⟨h.os, h.tape, h.output, h.size, h.block⟩
theorem Chg.drew0 {F : Nat → Prop} {w w' : World} (h : Chg F w.drew w') : Chg F w w' := ⟨h.os, h.tape, h.output, h.size, h.block⟩
/-- What a statement about memory hangs on: it stays true where the blocks of X are as they were. -/
def Sta (w : World) (X : Nat → Prop) (R : World → Prop) : Prop := (∀ i, X i → i < w.heap.size) ∧ ∀ w', (∀ i, X i → w'.heap[i]? = w.heap[i]?) → R w'
theorem Sta.now {w : World} {X : Nat → Prop} {R : World → Prop} (h : Sta w X R) : R w := h.2 w fun _ _ => rfl
/-! ### rows of effects, of slices -/
/-- A slice of bytes, as a value. -/
structure Sl where
  A : Option Addr
  n : Nat
  c : Nat
abbrev Sl.v (s : Sl) : Value := .slice s.A s.n s.c
def encV (s : Sl) : List Value := [s.v]
def encF (e : Ef) : List Value := [.int .u32 (e.o : Int), .int .i64 e.s, .bool e.u]
theorem encV_len (x : Sl) : (encV x).length = 1 := rfl
theorem encF_len (x : Ef) : (encF x).length = 3 := rfl
theorem encV_one (x : Sl) : ∀ v ∈ encV x, v.oneCell' = true := by
  intro v hv
  simp [encV] at hv
  subst hv
  rfl
theorem encF_one (x : Ef) : ∀ v ∈ encF x, v.oneCell' = true := by
  intro v hv
  simp [encF] at hv
  rcases hv with rfl | rfl | rfl <;> rfl
abbrev OwnF (w : World) (B : Nat) (v : Value) (l : List Ef) : Prop := St.OwnE encF 83 3 w B v l
abbrev OwnV (w : World) (B : Nat) (v : Value) (l : List Sl) : Prop := St.OwnE encV 22 1 w B v l
/-- A slice that reads as these bytes, at the begin of a block. -/
def Nt (w : World) (s : Sl) (l : List Nat) : Prop :=
  s.n = l.length ∧ l.length ≤ s.c ∧ s.c ≤ maxLen ∧ (∀ c ∈ l, c < 256) ∧ ((l = [] ∧ s.A = none ∧ s.c = 0) ∨ ∃ g cur fr, s.A = some ⟨g, 0, none⟩ ∧ w.heap[g]? = some (.cells cur 5 fr) ∧ ∀ i, i < l.length → cur[i]? = some (.int .u8 (l.getD i 0 : Nat)))
/-- Slices that read as these bytes. -/
def Nts (w : World) (V : List Sl) (M : List (List Nat)) : Prop := V.length = M.length ∧ ∀ i (h1 : i < V.length) (h2 : i < M.length), Nt w V[i] M[i]
/-- The blocks of slices. -/
def Vb (V : List Sl) (i : Nat) : Prop := ∃ s ∈ V, s.v.ownBlock = some i

theorem Own_same {w w' : World} {B : Nat} {v : Value} {l : List Nat} (h : Own w B v l) (hs : ∀ k, v.ownBlock = some k → w'.heap[k]? = w.heap[k]?) : Own w' B v l := by
  obtain ⟨⟨h0, h1⟩, h2⟩ := h
  refine ⟨⟨h0, ?_⟩, h2⟩
  rcases h1 with h1 | ⟨g, cap, cur, hv, hg0, hg, hr⟩
  · exact .inl h1
  · exact .inr ⟨g, cap, cur, hv, hg0, (hs g (by rw [hv]; rfl)).trans hg, hr⟩
theorem Nt.of_own {w : World} {B : Nat} {s : Sl} {l : List Nat} (h : Own w B s.v l) : Nt w s l := by
  obtain ⟨A, n, c⟩ := s
  have hl := h.2
  rcases h.form with ⟨h1, rfl⟩ | ⟨g, cap, cur, h1, h2, h3, h4, h5, h6, h7⟩
  · injection h1 with e1 e2 e3
    subst e1 e2 e3
    exact ⟨rfl, Nat.le_refl _, Nat.zero_le _, hl, .inl ⟨rfl, rfl, rfl⟩⟩
  · injection h1 with e1 e2 e3
    subst e1 e2 e3
    exact ⟨rfl, h4, h5, hl, .inr ⟨g, cur, (0, 0), rfl, h3, h7⟩⟩
theorem Nt.same {w w' : World} {s : Sl} {l : List Nat} (h : Nt w s l) (hs : ∀ k, s.v.ownBlock = some k → w'.heap[k]? = w.heap[k]?) : Nt w' s l := by
  obtain ⟨h1, h2, h3, h4, h5⟩ := h
  refine ⟨h1, h2, h3, h4, ?_⟩
  rcases h5 with h5 | ⟨g, cur, fr, e, hg, hc⟩
  · exact .inl h5
  · exact .inr ⟨g, cur, fr, e, (hs g (by unfold Sl.v; rw [e]; rfl)).trans hg, hc⟩
theorem Nt.kb {w : World} {s : Sl} {l : List Nat} (h : Nt w s l) {i : Nat} (hi : s.v.ownBlock = some i) : Kb w i (some 5) := by
  obtain ⟨h1, h2, h3, h4, ⟨h5, h6, h7⟩ | ⟨g, cur, fr, e, hg, hc⟩⟩ := h
  · unfold Sl.v at hi; rw [h6] at hi; cases hi
  · unfold Sl.v at hi; rw [e] at hi
    have : g = i := by simpa [Value.ownBlock] using hi
    subst this
    exact ⟨cur, fr, hg⟩
theorem Nt.reads {w : World} {s : Sl} {l : List Nat} (h : Nt w s l) : Reads w s.v l := by
  obtain ⟨h1, h2, h3, h4, h5⟩ := h
  refine ⟨s.A, s.c, by unfold Sl.v; rw [h1], ⟨rfl, h4, fun h0 => ?_⟩, h2, h3, fun e => ?_⟩
  · rcases h5 with ⟨h5, -, -⟩ | ⟨g, cur, fr, e, hg, hc⟩
    · rw [h5] at h0; simp at h0
    · refine ⟨g, 0, e, fun i hi => ?_⟩
      rw [Nat.zero_add, cell_of_row w g i cur 5 fr hg]
      exact hc i hi
  · rcases h5 with ⟨-, -, h5⟩ | ⟨g, cur, fr, e', hg, hc⟩
    · exact h5
    · rw [e'] at e; cases e
theorem Nts.same {w w' : World} {V : List Sl} {M : List (List Nat)} (h : Nts w V M) (hs : ∀ i, Vb V i → w'.heap[i]? = w.heap[i]?) : Nts w' V M :=
  ⟨h.1, fun i h1 h2 => (h.2 i h1 h2).same fun k hk => hs k ⟨V[i], List.getElem_mem h1, hk⟩⟩
theorem Nts.kb {w : World} {V : List Sl} {M : List (List Nat)} (h : Nts w V M) {i : Nat} (hi : Vb V i) : Kb w i (some 5) := by
  obtain ⟨s, hs, e⟩ := hi
  obtain ⟨j, hj, rfl⟩ := List.getElem_of_mem hs
  exact (h.2 j hj (by rw [← h.1]; exact hj)).kb e
theorem Nts.snoc {w : World} {V : List Sl} {M : List (List Nat)} (h : Nts w V M) {s : Sl} {l : List Nat} (hs : Nt w s l) : Nts w (V ++ [s]) (M ++ [l]) := by
  refine ⟨by simp [h.1], fun i h1 h2 => ?_⟩
  by_cases hi : i < V.length
  · rw [List.getElem_append_left hi, List.getElem_append_left (by rw [← h.1]; exact hi)]
    exact h.2 i hi _
  · have hl := h.1
    have : i = V.length := by simp at h1; omega
    subst this
    simp [hl]
    exact hs
theorem Vb.snoc {V : List Sl} {s : Sl} {i : Nat} (h : Vb (V ++ [s]) i) : Vb V i ∨ s.v.ownBlock = some i := by
  obtain ⟨x, hx, e⟩ := h
  rcases List.mem_append.1 hx with hx | hx
  · exact .inl ⟨x, hx, e⟩
  · simp at hx
    subst hx
    exact .inr e
/-- The blocks of a fence's list. -/
def Lb (v : Value) (n : Nat) (X : Nat → Kx) (i : Nat) : Prop := v.ownBlock = some i ∨ ∃ k, k < n ∧ ((X k).K.ownBlock = some i ∨ (X k).D.ownBlock = some i)
theorem NF_same {w w' : World} {B : Nat} {v : Value} {n : Nat} {X : Nat → Kx} (h : NF w B v n X) (hs : ∀ i, Lb v n X i → w'.heap[i]? = w.heap[i]?) : NF w' B v n X :=
  ⟨h.row.same fun k hk => hs k (.inl hk), fun i hi => Own_same (h.a i hi) fun k hk => hs k (.inr ⟨i, hi, .inl hk⟩), fun i hi => Own_same (h.r i hi) fun k hk => hs k (.inr ⟨i, hi, .inr hk⟩), h.b, h.da, h.dr⟩
theorem NF_kb {w : World} {B : Nat} {v : Value} {n : Nat} {X : Nat → Kx} (h : NF w B v n X) {i : Nat} (hi : Lb v n X i) : Kb w i (some 130) ∨ Kb w i (some 5) := by
  rcases hi with hi | ⟨k, hk, hi | hi⟩
  · exact .inl (Kb.row h.row hi)
  · exact .inr (Kb.row (h.a k hk).1 hi)
  · exact .inr (Kb.row (h.r k hk).1 hi)
theorem NF_ge {w : World} {B : Nat} {v : Value} {n : Nat} {X : Nat → Kx} (h : NF w B v n X) {i : Nat} (hi : Lb v n X i) : B ≤ i := by
  rcases hi with hi | ⟨k, hk, hi | hi⟩
  · exact h.row.block i hi
  · exact (h.a k hk).block i hi
  · exact (h.r k hk).block i hi

/-! ### the crew -/
structure CB where
  c : Nat
  s : St.SB
  p : Pu.SB
  d : Do.SB
  n : Nat
  vL : Value
  X : Nat → Kx
  vE : Value
  vM : Value
  V : List Sl
/-- Its cells. -/
abbrev ccs (b : CB) (ep : Nat) : Array Value := #[.pointer (some ⟨b.s.s, 0, none⟩), .pointer (some ⟨b.p.s, 0, none⟩), .pointer (some ⟨b.d.s, 0, none⟩), .int .u32 (ep : Int), b.vL, b.vE, b.vM]
/-- The maps of a stock. -/
def sMap (b : St.SB) (i : Nat) : Prop := i = b.k ∨ i = b.h
/-- All blocks of a crew. -/
def CB.foot (b : CB) (i : Nat) : Prop :=
  i = b.c ∨ i = b.s.s ∨ i = b.p.s ∨ i = b.d.s ∨ sMap b.s i ∨ b.p.isMap i ∨ b.d.isMap i ∨ Lb b.vL b.n b.X i ∨ b.vE.ownBlock = some i ∨ b.vM.ownBlock = some i ∨ Vb b.V i
structure CAt (w : World) (b : CB) (q : Cq) : Prop where
  c : Lies w b.c 122 (ccs b q.f.ep)
  s : St.At w b.s q.s
  p : Pu.At w b.p q.p
  d : Do.At w b.d q.d
  fn : b.n = q.f.n
  f : NF w 0 b.vL b.n b.X
  fx : ∀ i, i < b.n → (b.X i).k = q.f.T i
  e : OwnF w 0 b.vE q.E
  m : OwnV w 0 b.vM b.V
  nt : Nts w b.V q.M
  sp : ∀ i, sMap b.s i → ¬ b.p.isMap i
  sd : ∀ i, sMap b.s i → ¬ b.d.isMap i
  pd : ∀ i, b.p.isMap i → ¬ b.d.isMap i
theorem St_same {w w' : World} {b : St.SB} {q : St.Ss} (h : St.At w b q) (h0 : w'.heap[b.s]? = w.heap[b.s]?) (hs : ∀ i, sMap b i → w'.heap[i]? = w.heap[i]?) : St.At w' b q :=
  ⟨h.c.same h0, h.ok.same (hs _ (.inl rfl)), h.oh.same (hs _ (.inr rfl)), h.n⟩
section
variable {w : World} {b : CB} {q : Cq}
theorem CAt.ks (h : CAt w b q) {i : Nat} (hi : sMap b.s i) : Kb w i none := by
  rcases hi with rfl | rfl
  · exact Kb.sk h.s.ok
  · exact Kb.sh h.s.oh
theorem CAt.kp (h : CAt w b q) {i : Nat} (hi : b.p.isMap i) : Kb w i none := by
  rcases hi with rfl | rfl | rfl | rfl
  · exact Kb.pk h.p.ok
  · exact Kb.ph h.p.o1
  · exact Kb.ph h.p.o2
  · exact Kb.ph h.p.o3
theorem CAt.kd (h : CAt w b q) {i : Nat} (hi : b.d.isMap i) : Kb w i none ∨ Kb w i (some 3) := by
  rcases hi with rfl | rfl
  · rcases h.d.f with ⟨-, e, -⟩ | ⟨cap, cur, -, hL, -⟩
    · rw [e]; exact .inl (Kb.dh h.d.o)
    · exact .inr ⟨cur, (0, 0), hL⟩
  · exact .inl (Kb.dh h.d.o)
theorem CAt.kc (h : CAt w b q) : Kb w b.c (some 122) := Kb.of h.c
theorem CAt.kss (h : CAt w b q) : Kb w b.s.s (some 175) := Kb.of h.s.c
theorem CAt.kps (h : CAt w b q) : Kb w b.p.s (some 186) := Kb.of h.p.c
theorem CAt.kds (h : CAt w b q) : Kb w b.d.s (some 193) := Kb.of h.d.c
theorem CAt.ke (h : CAt w b q) {i : Nat} (hi : b.vE.ownBlock = some i) : Kb w i (some 83) := Kb.row h.e hi
theorem CAt.km (h : CAt w b q) {i : Nat} (hi : b.vM.ownBlock = some i) : Kb w i (some 22) := Kb.row h.m hi
theorem CAt.foot_lt (h : CAt w b q) {i : Nat} (hi : b.foot i) : i < w.heap.size := by
  rcases hi with rfl | rfl | rfl | rfl | hi | hi | hi | hi | hi | hi | hi
  · exact h.kc.lt
  · exact h.kss.lt
  · exact h.kps.lt
  · exact h.kds.lt
  · exact (h.ks hi).lt
  · exact (h.kp hi).lt
  · rcases h.kd hi with h | h <;> exact h.lt
  · rcases NF_kb h.f hi with h | h <;> exact h.lt
  · exact (h.ke hi).lt
  · exact (h.km hi).lt
  · exact (h.nt.kb hi).lt
theorem CAt.same {w' : World} (h : CAt w b q) (hs : ∀ i, b.foot i → w'.heap[i]? = w.heap[i]?) : CAt w' b q where
  c := (hs _ (.inl rfl)).trans h.c
  s := St_same h.s (hs _ (.inr (.inl rfl))) fun i hi => hs i (.inr (.inr (.inr (.inr (.inl hi)))))
  p := h.p.same (hs _ (.inr (.inr (.inl rfl)))) fun i hi => hs i (.inr (.inr (.inr (.inr (.inr (.inl hi))))))
  d := h.d.same (hs _ (.inr (.inr (.inr (.inl rfl))))) fun i hi => hs i (.inr (.inr (.inr (.inr (.inr (.inr (.inl hi)))))))
  fn := h.fn
  f := NF_same h.f fun i hi => hs i (.inr (.inr (.inr (.inr (.inr (.inr (.inr (.inl hi))))))))
  fx := h.fx
  e := h.e.same fun i hi => hs i (.inr (.inr (.inr (.inr (.inr (.inr (.inr (.inr (.inl hi)))))))))
  m := h.m.same fun i hi => hs i (.inr (.inr (.inr (.inr (.inr (.inr (.inr (.inr (.inr (.inl hi))))))))))
  nt := h.nt.same fun i hi => hs i (.inr (.inr (.inr (.inr (.inr (.inr (.inr (.inr (.inr (.inr hi))))))))))
  sp := h.sp
  sd := h.sd
  pd := h.pd
theorem CAt.below {w' : World} (h : CAt w b q) (hb : Below w.heap.size w w') : CAt w' b q := h.same fun i hi => hb.block i (h.foot_lt hi)
theorem CAt.alloc (h : CAt w b q) (o : Obj) : CAt (w.alloc o) b q := h.below (Fe.below1 w o)
theorem CAt.drew (h : CAt w b q) : CAt w.drew b q := h.same fun _ _ => rfl
theorem CAt.chg {F : Nat → Prop} {w' : World} (h : CAt w b q) (hc : Chg F w w') (hd : ∀ i, b.foot i → ¬ F i) : CAt w' b q := h.same fun i hi => hc.block i (h.foot_lt hi) (hd i hi)
/-- A call on the stock. -/
theorem CAt.stock {w' : World} {s' : St.Ss} (h : CAt w b q) (hA : St.At w' b.s s') (hF : St.Frm w w' b.s) : CAt w' b { q with s := s' } ∧ Chg b.foot w w' := by
  have hn : ∀ i, Kb w i none ∨ (∃ t, Kb w i (some t)) → (¬ sMap b.s i) → w'.heap[i]? = w.heap[i]? := fun i hk hi => by
    refine hF.block i ?_ (fun e => hi (.inl e)) (fun e => hi (.inr e))
    rcases hk with hk | ⟨t, hk⟩ <;> exact hk.lt
  have hc : ∀ i t, Kb w i (some t) → w'.heap[i]? = w.heap[i]? := fun i t hk => hn i (.inr ⟨t, hk⟩) fun hi => (h.ks hi).ne hk (by simp) rfl
  refine ⟨⟨(hc _ _ h.kc).trans h.c, hA, h.p.same (hc _ _ h.kps) fun i hi => hn i (.inl (h.kp hi)) fun hs => h.sp i hs hi, h.d.same (hc _ _ h.kds) fun i hi => ?_, h.fn, NF_same h.f fun i hi => ?_, h.fx, h.e.same fun i hi => hc i _ (h.ke hi), h.m.same fun i hi => hc i _ (h.km hi), h.nt.same fun i hi => hc i _ (h.nt.kb hi), h.sp, h.sd, h.pd⟩, ⟨hF.os, hF.tape, hF.output, hF.size, fun i hi hn => hF.block i hi (fun e => hn (.inr (.inr (.inr (.inr (.inl (.inl e))))))) (fun e => hn (.inr (.inr (.inr (.inr (.inl (.inr e)))))))⟩⟩
  · rcases h.kd hi with hk | hk
    · exact hn i (.inl hk) fun hs => h.sd i hs hi
    · exact hc i _ hk
  · rcases NF_kb h.f hi with hk | hk <;> exact hc i _ hk
/-- A call on the purse. -/
theorem CAt.purse {w' : World} {s' : Pu.Ss} (h : CAt w b q) (hA : Pu.At w' b.p s') (hF : Pu.Frm w w' b.p) : CAt w' b { q with p := s' } ∧ Chg b.foot w w' := by
  have hn : ∀ i, Kb w i none ∨ (∃ t, Kb w i (some t)) → (¬ b.p.isMap i) → w'.heap[i]? = w.heap[i]? := fun i hk hi => by
    refine hF.block i ?_ hi
    rcases hk with hk | ⟨t, hk⟩ <;> exact hk.lt
  have hc : ∀ i t, Kb w i (some t) → w'.heap[i]? = w.heap[i]? := fun i t hk => hn i (.inr ⟨t, hk⟩) fun hi => (h.kp hi).ne hk (by simp) rfl
  refine ⟨⟨(hc _ _ h.kc).trans h.c, St_same h.s (hc _ _ h.kss) fun i hi => hn i (.inl (h.ks hi)) fun hs => h.sp i hi hs, hA, h.d.same (hc _ _ h.kds) fun i hi => ?_, h.fn, NF_same h.f fun i hi => ?_, h.fx, h.e.same fun i hi => hc i _ (h.ke hi), h.m.same fun i hi => hc i _ (h.km hi), h.nt.same fun i hi => hc i _ (h.nt.kb hi), h.sp, h.sd, h.pd⟩, ⟨hF.os, hF.tape, hF.output, hF.size, fun i hi hn => hF.block i hi (fun e => hn (.inr (.inr (.inr (.inr (.inr (.inl e)))))))⟩⟩
  · rcases h.kd hi with hk | hk
    · exact hn i (.inl hk) fun hs => h.pd i hs hi
    · exact hc i _ hk
  · rcases NF_kb h.f hi with hk | hk <;> exact hc i _ hk
/-- A call on the dock. -/
theorem CAt.dock {w' : World} {s' : Do.Ss} (h : CAt w b q) (hA : Do.At w' b.d s') (hF : Do.Frm w w' b.d) : CAt w' b { q with d := s' } ∧ Chg b.foot w w' := by
  have hn : ∀ i, Kb w i none ∨ (∃ t, Kb w i (some t)) → (¬ b.d.isMap i) → w'.heap[i]? = w.heap[i]? := fun i hk hi => by
    refine hF.block i ?_ hi
    rcases hk with hk | ⟨t, hk⟩ <;> exact hk.lt
  have hc : ∀ i t, Kb w i (some t) → t ≠ 3 → w'.heap[i]? = w.heap[i]? := fun i t hk h3 => hn i (.inr ⟨t, hk⟩) fun hi => by
    rcases h.kd hi with hd | hd
    · exact hd.ne hk (by simp) rfl
    · exact hd.ne hk (fun e => h3 (by injection e with e; exact e.symm)) rfl
  refine ⟨⟨(hc _ _ h.kc (by decide)).trans h.c, St_same h.s (hc _ _ h.kss (by decide)) fun i hi => hn i (.inl (h.ks hi)) fun hs => h.sd i hi hs, h.p.same (hc _ _ h.kps (by decide)) fun i hi => hn i (.inl (h.kp hi)) fun hs => h.pd i hi hs, hA, h.fn, NF_same h.f fun i hi => ?_, h.fx, h.e.same fun i hi => hc i _ (h.ke hi) (by decide), h.m.same fun i hi => hc i _ (h.km hi) (by decide), h.nt.same fun i hi => hc i _ (h.nt.kb hi) (by decide), h.sp, h.sd, h.pd⟩, ⟨hF.os, hF.tape, hF.output, hF.size, fun i hi hn => hF.block i hi (fun e => hn (.inr (.inr (.inr (.inr (.inr (.inr (.inl e))))))))⟩⟩
  rcases NF_kb h.f hi with hk | hk <;> exact hc i _ hk (by decide)
end

end Go.Proofs.YtpbclmnhkmcknaaGreat

namespace Go.Proofs.YtpbclmnhkmcknaaGreat
open Go.RowKit
open Fe (Lies Own Bys Reads NF Kx Kp Note)
set_option maxRecDepth 100000
set_option linter.unusedVariables false
set_option linter.unusedSimpArgs false

theorem isValid_any (k : Wk) (A : Option Addr) (c : Nat) (w : World) (hx : k.x.length ≤ maxLen) :
    Calls Tryz.prog 42 #[.agg #[.int .i64 k.t, .int .i64 k.n, .slice A k.x.length c]] w fun e w' => e = .returned (.bool (wkB k)) ∧ Below w.heap.size w w' := by
  have e1 : wkB k = (decide (1 ≤ k.t) && (decide (k.t ≤ 6) && (decide (0 ≤ k.n) && (decide (k.n ≤ 1000000000) && decide ((k.x.length : Int) ≤ 32))))) := by
    unfold wkB
    rw [show decide (k.x.length ≤ 32) = decide ((k.x.length : Int) ≤ 32) from decide_eq_decide.2 (by omega)]
  rw [e1]
  clear e1
  obtain ⟨t, n, x⟩ := k
  dsimp only at *
  generalize x.length = m at *
  obtain ⟨b1, h1⟩ : ∃ b, decide (1 ≤ t) = b := ⟨_, rfl⟩
  obtain ⟨b2, h2⟩ : ∃ b, decide (t ≤ 6) = b := ⟨_, rfl⟩
  obtain ⟨b3, h3⟩ : ∃ b, decide (0 ≤ n) = b := ⟨_, rfl⟩
  obtain ⟨b4, h4⟩ : ∃ b, decide (n ≤ 1000000000) = b := ⟨_, rfl⟩
  obtain ⟨b5, h5⟩ : ∃ b, decide ((m : Int) ≤ 32) = b := ⟨_, rfl⟩
  have h6 : decide (m ≤ 32) = b5 := by rw [← h5]; exact decide_eq_decide.2 (by omega)
  rw [h1, h2, h3, h4, h5]
  cases b1 <;> cases b2 <;> cases b3 <;> cases b4 <;> cases b5
  all_goals
    go_enter Tryz.func42, Tryz.ntmps42
    go_wp2
    go_ret
    exact ⟨rfl, Fe.below1 _ _⟩

/-- What a reader says at its end. -/
def doneZ (l : List Nat) (s : Fe.Ent.St) : Int := if s.2 = true then 10 else if s.1 < l.length then 11 else 0
theorem doneZ_iff (l : List Nat) (s : Fe.Ent.St) (h : s.1 ≤ l.length) : doneZ l s = 0 ↔ (!s.2 && decide (s.1 = l.length)) = true := by
  unfold doneZ
  obtain ⟨i, sh⟩ := s
  cases sh
  · by_cases h1 : i < l.length
    · rw [if_neg (by simp), if_pos h1]
      simp; omega
    · rw [if_neg (by simp), if_neg h1]
      simp at h ⊢; omega
  · simp
set_option maxHeartbeats 400000 in
theorem rdone_any (p : Nat) (s : Fe.Ent.St) (l : List Nat) (w : World) (hR : Fe.Rd 166 w p s l) (hl : l.length ≤ 200000) :
    Calls Tryz.prog 53 #[.pointer (some ⟨p, 0, none⟩)] w fun e w' => e = .returned (.int .i64 (doneZ l s)) ∧ ∃ k, w' = w.drewN k := by
  have C1 := Lib.hid (Fe.left_any p s l w hR hl)
  obtain ⟨A, c, hL, hB, _, hi, _, _⟩ := hR
  have hc2 := hL.cell 2
  obtain ⟨i, sh⟩ := s
  simp only at hi hc2 C1
  clear hL hB
  unfold doneZ
  simp only
  cases sh
  · obtain ⟨z, hz⟩ : ∃ z, l.length - i = z := ⟨_, rfl⟩
    rw [hz] at C1
    by_cases hd : i < l.length
    · rw [if_neg (by simp), if_pos hd]
      have hd1 : decide (0 < z) = true := by simp; omega
      have hd2 : decide ((0 : Int) < (z : Int)) = true := by simp; omega
      go_enter Tryz.func53, Tryz.ntmps53
      go_wp2_with fail
      with_reducible refine C1.out.mono ?_
      rintro e w2 ⟨rfl, q, rfl⟩
      go_wp2
      go_ret
      exact ⟨rfl, q, rfl⟩
    · rw [if_neg (by simp), if_neg hd]
      have hd1 : decide (0 < z) = false := by simp; omega
      have hd2 : decide ((0 : Int) < (z : Int)) = false := by simp; omega
      go_enter Tryz.func53, Tryz.ntmps53
      go_wp2_with fail
      with_reducible refine C1.out.mono ?_
      rintro e w2 ⟨rfl, q, rfl⟩
      go_wp2
      go_ret
      exact ⟨rfl, q, rfl⟩
  · rw [if_pos rfl]
    go_enter Tryz.func53, Tryz.ntmps53
    go_wp2
    go_ret
    exact ⟨rfl, 0, rfl⟩

/-- What Encode gives. -/
def EncPost (w : World) (k : Wk) (e : Ending) (w' : World) : Prop :=
  Below w.heap.size w w' ∧ ((wkB k = false ∧ e = .returned (.tuple #[.slice none 0 0, .int .i64 120])) ∨ (wkB k = true ∧ ∃ v, e = .returned (.tuple #[v, .int .i64 0]) ∧ Own w' w.heap.size v (encW k)))
end Go.Proofs.YtpbclmnhkmcknaaGreat
