/-
  A stock in memory: its block and its two maps; what a call on it leaves as it was; a store into a map where the order is open.
-/
import Derived.Test.YtlgdjmmhdfpfeaaMapM
namespace Go.Proofs.Ytlgdjmmhdfpfeaa
open Go.RowKit Go.Maps
set_option maxRecDepth 100000
set_option linter.unusedVariables false
set_option linter.unusedSimpArgs false

theorem Lies.cells2 {w : World} {g : Nat} {t : TypeId} {a b : Value} (h : Lies w g t #[a, b]) : w.cell? ⟨g, 0, none⟩ = some a ∧ w.cell? ⟨g, 1, none⟩ = some b := ⟨h.cell 0, h.cell 1⟩
theorem Lies.cells3 {w : World} {g : Nat} {t : TypeId} {a b c : Value} (h : Lies w g t #[a, b, c]) : w.cell? ⟨g, 0, none⟩ = some a ∧ w.cell? ⟨g, 1, none⟩ = some b ∧ w.cell? ⟨g, 2, none⟩ = some c := ⟨h.cell 0, h.cell 1, h.cell 2⟩
theorem Lies.cells4 {w : World} {g : Nat} {t : TypeId} {a b c d : Value} (h : Lies w g t #[a, b, c, d]) : w.cell? ⟨g, 0, none⟩ = some a ∧ w.cell? ⟨g, 1, none⟩ = some b ∧ w.cell? ⟨g, 2, none⟩ = some c ∧ w.cell? ⟨g, 3, none⟩ = some d := ⟨h.cell 0, h.cell 1, h.cell 2, h.cell 3⟩
theorem Lies.free2 {w : World} {g : Nat} {t : TypeId} {cs : Array Value} (h : Lies w g t cs) : w.frozen? ⟨g, 0, none⟩ = false ∧ w.frozen? ⟨g, 1, none⟩ = false := ⟨h.free 0, h.free 1⟩
theorem Lies.free3 {w : World} {g : Nat} {t : TypeId} {cs : Array Value} (h : Lies w g t cs) : w.frozen? ⟨g, 0, none⟩ = false ∧ w.frozen? ⟨g, 1, none⟩ = false ∧ w.frozen? ⟨g, 2, none⟩ = false := ⟨h.free 0, h.free 1, h.free 2⟩
theorem Lies.free4 {w : World} {g : Nat} {t : TypeId} {cs : Array Value} (h : Lies w g t cs) : w.frozen? ⟨g, 0, none⟩ = false ∧ w.frozen? ⟨g, 1, none⟩ = false ∧ w.frozen? ⟨g, 2, none⟩ = false ∧ w.frozen? ⟨g, 3, none⟩ = false := ⟨h.free 0, h.free 1, h.free 2, h.free 3⟩
theorem Lies.same {w w' : World} {g : Nat} {t : TypeId} {cs : Array Value} (h : Lies w g t cs) (e : w'.heap[g]? = w.heap[g]?) : Lies w' g t cs := e.trans h

theorem Lies.cells5 {w : World} {g : Nat} {t : TypeId} {a b c d e : Value} (h : Lies w g t #[a, b, c, d, e]) : w.cell? ⟨g, 0, none⟩ = some a ∧ w.cell? ⟨g, 1, none⟩ = some b ∧ w.cell? ⟨g, 2, none⟩ = some c ∧ w.cell? ⟨g, 3, none⟩ = some d ∧ w.cell? ⟨g, 4, none⟩ = some e := ⟨h.cell 0, h.cell 1, h.cell 2, h.cell 3, h.cell 4⟩
theorem Lies.free5 {w : World} {g : Nat} {t : TypeId} {cs : Array Value} (h : Lies w g t cs) : w.frozen? ⟨g, 0, none⟩ = false ∧ w.frozen? ⟨g, 1, none⟩ = false ∧ w.frozen? ⟨g, 2, none⟩ = false ∧ w.frozen? ⟨g, 3, none⟩ = false ∧ w.frozen? ⟨g, 4, none⟩ = false := ⟨h.free 0, h.free 1, h.free 2, h.free 3, h.free 4⟩

/-- The blocks of a purse: its own, the accounts', and those of the payments in each state. -/
structure SB where
  s : Nat
  k : Nat
  p1 : Nat
  p2 : Nat
  p3 : Nat
def SB.p (b : SB) (t : Nat) : Nat := if t = 1 then b.p1 else if t = 2 then b.p2 else b.p3
/-- The cells of a purse. -/
abbrev pcs (b : SB) : Array Value := #[.map (some b.k), .map none, .map (some b.p1), .map (some b.p2), .map (some b.p3)]
/-- Is it one of its maps? -/
def SB.isMap (b : SB) (i : Nat) : Prop := i = b.k ∨ i = b.p1 ∨ i = b.p2 ∨ i = b.p3
structure At (w : World) (b : SB) (q : Ss) : Prop where
  c : Lies w b.s 58 (pcs b)
  ok : OwnK w b.k q.K
  o1 : OwnH w b.p1 (stH q.H 1)
  o2 : OwnH w b.p2 (stH q.H 2)
  o3 : OwnH w b.p3 (stH q.H 3)
  n : b.k ≠ b.p1 ∧ b.k ≠ b.p2 ∧ b.k ≠ b.p3 ∧ b.p1 ≠ b.p2 ∧ b.p1 ≠ b.p3 ∧ b.p2 ≠ b.p3
theorem OwnK.ne_lies {w : World} {m : Nat} {K : List Kd} (h : OwnK w m K) {g : Nat} {t : TypeId} {cs : Array Value} (hL : Lies w g t cs) : m ≠ g := fun e => by
  obtain ⟨D, ⟨es, clock, hb, -⟩, -⟩ := h
  unfold Lies at hL
  rw [← e, hb] at hL
  cases hL
theorem OwnH.ne_lies {w : World} {m : Nat} {H : List Hd} (h : OwnH w m H) {g : Nat} {t : TypeId} {cs : Array Value} (hL : Lies w g t cs) : m ≠ g := fun e => by
  obtain ⟨D, ⟨es, clock, hb, -⟩, -⟩ := h
  unfold Lies at hL
  rw [← e, hb] at hL
  cases hL
theorem At.op {w : World} {b : SB} {q : Ss} (h : At w b q) (t : Nat) (ht : 1 ≤ t ∧ t ≤ 3) : OwnH w (b.p t) (stH q.H t) := by
  rcases (by omega : t = 1 ∨ t = 2 ∨ t = 3) with rfl | rfl | rfl
  · exact h.o1
  · exact h.o2
  · exact h.o3
theorem SB.p_map (b : SB) (t : Nat) : b.isMap (b.p t) := by
  unfold SB.isMap SB.p
  split
  · exact .inr (.inl rfl)
  · split
    · exact .inr (.inr (.inl rfl))
    · exact .inr (.inr (.inr rfl))
theorem SB.k_map (b : SB) : b.isMap b.k := .inl rfl
theorem At.map_lt {w : World} {b : SB} {q : Ss} (h : At w b q) {i : Nat} (hi : b.isMap i) : i < w.heap.size := by
  rcases hi with rfl | rfl | rfl | rfl
  · exact h.ok.lt
  · exact h.o1.lt
  · exact h.o2.lt
  · exact h.o3.lt
theorem At.map_ne {w : World} {b : SB} {q : Ss} (h : At w b q) {g : Nat} {t : TypeId} {cs : Array Value} (hL : Lies w g t cs) : ¬ b.isMap g := by
  rintro (e | e | e | e)
  · exact h.ok.ne_lies hL e.symm
  · exact h.o1.ne_lies hL e.symm
  · exact h.o2.ne_lies hL e.symm
  · exact h.o3.ne_lies hL e.symm
theorem At.p_ne {w : World} {b : SB} {q : Ss} (h : At w b q) {t u : Nat} (ht : 1 ≤ t ∧ t ≤ 3) (hu : 1 ≤ u ∧ u ≤ 3) (hn : t ≠ u) : b.p t ≠ b.p u := by
  obtain ⟨-, -, -, h1, h2, h3⟩ := h.n
  rcases (by omega : t = 1 ∨ t = 2 ∨ t = 3) with rfl | rfl | rfl <;> rcases (by omega : u = 1 ∨ u = 2 ∨ u = 3) with rfl | rfl | rfl <;> simp only [SB.p, Nat.reduceEqDiff, if_true, if_false] <;> first | exact absurd rfl hn | assumption | exact Ne.symm (by assumption)
theorem At.k_ne {w : World} {b : SB} {q : Ss} (h : At w b q) (t : Nat) : b.k ≠ b.p t := by
  obtain ⟨h1, h2, h3, -⟩ := h.n
  unfold SB.p
  split
  · exact h1
  · split
    · exact h2
    · exact h3

/-- Nothing but the maps, and what is new, has turned. -/
structure Frm (w w' : World) (b : SB) : Prop where
  os : w'.os = w.os
  tape : w'.tape = w.tape
  output : w'.output = w.output
  size : w.heap.size ≤ w'.heap.size
  block : ∀ i, i < w.heap.size → ¬ b.isMap i → w'.heap[i]? = w.heap[i]?
theorem Frm.refl (w : World) (b : SB) : Frm w w b := ⟨rfl, rfl, rfl, Nat.le_refl _, fun _ _ _ => rfl⟩
theorem Frm.trans {w w' w'' : World} {b : SB} (h : Frm w w' b) (h' : Frm w' w'' b) : Frm w w'' b :=
  ⟨h'.os.trans h.os, h'.tape.trans h.tape, h'.output.trans h.output, Nat.le_trans h.size h'.size, fun i hi h1 => (h'.block i (Nat.lt_of_lt_of_le hi h.size) h1).trans (h.block i hi h1)⟩
theorem Frm.of_below {w w' : World} (b : SB) (h : Below w.heap.size w w') : Frm w w' b := ⟨h.os, h.tape, h.output, h.size, fun i hi _ => h.block i hi⟩
theorem Frm.of_grown {w w' : World} {b : SB} {r : Nat} (h : w.grownBy w' (some r)) (hr : b.isMap r) : Frm w w' b :=
  ⟨h.os, h.tape, h.output, h.size, fun i hi h1 => h.block i hi (fun e => by injection e with e; subst e; exact h1 hr)⟩
theorem Frm.drew {w w' : World} {b : SB} (h : Frm w w' b) : Frm w w'.drew b := ⟨h.os, h.tape, h.output, h.size, h.block⟩
theorem Frm.alloc {w w' : World} {b : SB} (h : Frm w w' b) (o : Obj) : Frm w (w'.alloc o) b := h.trans (Frm.of_below b (below1 w' o))
theorem Frm.lies {w w' : World} {b : SB} (h : Frm w w' b) {g : Nat} {t : TypeId} {cs : Array Value} (hL : Lies w g t cs) (h1 : ¬ b.isMap g) : Lies w' g t cs := hL.same (h.block g hL.lt h1)
theorem Frm.below {w w' a : World} {b : SB} {B : Nat} (h : Frm w w' b) (hb : Below B a w) (hB : B ≤ w.heap.size) (h1 : ∀ i, b.isMap i → B ≤ i) : Below B a w' :=
  ⟨h.os.trans hb.os, h.tape.trans hb.tape, h.output.trans hb.output, Nat.le_trans hb.size h.size, fun k hk => (h.block k (by omega) (fun hm => by have := h1 k hm; omega)).trans (hb.block k hk)⟩

theorem At.same {w w' : World} {b : SB} {q : Ss} (h : At w b q) (h0 : w'.heap[b.s]? = w.heap[b.s]?) (hs : ∀ i, b.isMap i → w'.heap[i]? = w.heap[i]?) : At w' b q :=
  ⟨h.c.same h0, h.ok.same (hs _ (.inl rfl)), h.o1.same (hs _ (.inr (.inl rfl))), h.o2.same (hs _ (.inr (.inr (.inl rfl)))), h.o3.same (hs _ (.inr (.inr (.inr rfl)))), h.n⟩
theorem At.below {w w' : World} {b : SB} {q : Ss} (h : At w b q) (hb : Below w.heap.size w w') : At w' b q :=
  h.same (hb.block _ h.c.lt) fun i hi => hb.block _ (h.map_lt hi)
theorem At.alloc {w : World} {b : SB} {q : Ss} (h : At w b q) (o : Obj) : At (w.alloc o) b q := h.below (below1 w o)
theorem At.drew {w : World} {b : SB} {q : Ss} (h : At w b q) : At w.drew b q := h.same rfl fun _ _ => rfl
theorem At.setCell {w : World} {b : SB} {q : Ss} (h : At w b q) {g : Nat} {t : TypeId} {cs : Array Value} (hL : Lies w g t cs) (hn : g ≠ b.s) (i : Nat) (v : Value) : At (w.setCell ⟨g, i, none⟩ v) b q :=
  h.same (heap_setCell_other w _ _ v (Ne.symm hn)) fun j hj => heap_setCell_other w _ _ v (fun e => h.map_ne hL (by rw [← show j = g from e]; exact hj))
theorem Frm.at_other {w w' : World} {b c : SB} {q : Ss} (h : Frm w w' b) (hA : At w c q) (h1 : ¬ b.isMap c.s) (h2 : ∀ i, c.isMap i → ¬ b.isMap i) : At w' c q :=
  hA.same (h.block _ hA.c.lt h1) fun i hi => h.block _ (hA.map_lt hi) (h2 i hi)

theorem At.turnK {w w' : World} {b : SB} {q : Ss} {K' : List Kd} (h : At w b q) (ho : OwnK w' b.k K') (ht : w.mapTurned w' b.k) : At w' b ⟨K', q.H⟩ ∧ Frm w w' b := by
  have hF := Frm.of_grown (b := b) ht.grown b.k_map
  have hg := ht.grown
  have hne : ∀ i, i < w.heap.size → i ≠ b.k → w'.heap[i]? = w.heap[i]? := fun i hi hn => hg.block i hi (fun e => hn (Option.some.inj e))
  obtain ⟨n1, n2, n3, -⟩ := h.n
  exact ⟨⟨h.c.same (hne _ h.c.lt (fun e => h.ok.ne_lies h.c e.symm)), ho, h.o1.same (hne _ h.o1.lt (Ne.symm n1)), h.o2.same (hne _ h.o2.lt (Ne.symm n2)), h.o3.same (hne _ h.o3.lt (Ne.symm n3)), h.n⟩, hF⟩
/-- A purse in memory whose payments are these, state by state. -/
structure AtM (w : World) (b : SB) (K : List Kd) (P1 P2 P3 : List Hd) : Prop where
  c : Lies w b.s 58 (pcs b)
  ok : OwnK w b.k K
  o1 : OwnH w b.p1 P1
  o2 : OwnH w b.p2 P2
  o3 : OwnH w b.p3 P3
  n : b.k ≠ b.p1 ∧ b.k ≠ b.p2 ∧ b.k ≠ b.p3 ∧ b.p1 ≠ b.p2 ∧ b.p1 ≠ b.p3 ∧ b.p2 ≠ b.p3
theorem At.m {w : World} {b : SB} {q : Ss} (h : At w b q) : AtM w b q.K (stH q.H 1) (stH q.H 2) (stH q.H 3) := ⟨h.c, h.ok, h.o1, h.o2, h.o3, h.n⟩
theorem AtM.at {w : World} {b : SB} {K : List Kd} {P1 P2 P3 H : List Hd} (h : AtM w b K P1 P2 P3) (h1 : stH H 1 = P1) (h2 : stH H 2 = P2) (h3 : stH H 3 = P3) : At w b ⟨K, H⟩ := by
  subst h1 h2 h3
  exact ⟨h.c, h.ok, h.o1, h.o2, h.o3, h.n⟩
section
variable {w w' : World} {b : SB} {K K' : List Kd} {P1 P2 P3 P' : List Hd}
theorem AtM.map_lt (h : AtM w b K P1 P2 P3) {i : Nat} (hi : b.isMap i) : i < w.heap.size := by
  rcases hi with rfl | rfl | rfl | rfl
  · exact h.ok.lt
  · exact h.o1.lt
  · exact h.o2.lt
  · exact h.o3.lt
theorem AtM.map_ne (h : AtM w b K P1 P2 P3) {g : Nat} {t : TypeId} {cs : Array Value} (hL : Lies w g t cs) : ¬ b.isMap g := by
  rintro (e | e | e | e)
  · exact h.ok.ne_lies hL e.symm
  · exact h.o1.ne_lies hL e.symm
  · exact h.o2.ne_lies hL e.symm
  · exact h.o3.ne_lies hL e.symm
theorem AtM.same (h : AtM w b K P1 P2 P3) (h0 : w'.heap[b.s]? = w.heap[b.s]?) (hs : ∀ i, b.isMap i → w'.heap[i]? = w.heap[i]?) : AtM w' b K P1 P2 P3 :=
  ⟨h.c.same h0, h.ok.same (hs _ (.inl rfl)), h.o1.same (hs _ (.inr (.inl rfl))), h.o2.same (hs _ (.inr (.inr (.inl rfl)))), h.o3.same (hs _ (.inr (.inr (.inr rfl)))), h.n⟩
theorem AtM.below (h : AtM w b K P1 P2 P3) (hb : Below w.heap.size w w') : AtM w' b K P1 P2 P3 := h.same (hb.block _ h.c.lt) fun i hi => hb.block _ (h.map_lt hi)
theorem AtM.alloc (h : AtM w b K P1 P2 P3) (o : Obj) : AtM (w.alloc o) b K P1 P2 P3 := h.below (below1 w o)
theorem AtM.drew (h : AtM w b K P1 P2 P3) : AtM w.drew b K P1 P2 P3 := h.same rfl fun _ _ => rfl
theorem AtM.setCell (h : AtM w b K P1 P2 P3) {g : Nat} {t : TypeId} {cs : Array Value} (hL : Lies w g t cs) (hn : g ≠ b.s) (i : Nat) (v : Value) : AtM (w.setCell ⟨g, i, none⟩ v) b K P1 P2 P3 :=
  h.same (heap_setCell_other w _ _ v (Ne.symm hn)) fun j hj => heap_setCell_other w _ _ v (fun e => h.map_ne hL (by rw [← show j = g from e]; exact hj))
theorem AtM.turn (h : AtM w b K P1 P2 P3) {m : Nat} (hm : b.isMap m) (ht : w.mapTurned w' m) : Frm w w' b ∧ Lies w' b.s 58 (pcs b) ∧ ∀ i, b.isMap i → i ≠ m → w'.heap[i]? = w.heap[i]? := by
  have hg := ht.grown
  have hne : ∀ i, i < w.heap.size → i ≠ m → w'.heap[i]? = w.heap[i]? := fun i hi hn => hg.block i hi (fun e => hn (Option.some.inj e))
  exact ⟨Frm.of_grown hg hm, h.c.same (hne _ h.c.lt (fun e => h.map_ne h.c (by rw [e]; exact hm))), fun i hi hn => hne i (h.map_lt hi) hn⟩
theorem AtM.turnK (h : AtM w b K P1 P2 P3) (ho : OwnK w' b.k K') (ht : w.mapTurned w' b.k) : AtM w' b K' P1 P2 P3 ∧ Frm w w' b := by
  obtain ⟨hF, hc, hs⟩ := h.turn b.k_map ht
  obtain ⟨n1, n2, n3, -⟩ := h.n
  exact ⟨⟨hc, ho, h.o1.same (hs _ (.inr (.inl rfl)) (Ne.symm n1)), h.o2.same (hs _ (.inr (.inr (.inl rfl))) (Ne.symm n2)), h.o3.same (hs _ (.inr (.inr (.inr rfl))) (Ne.symm n3)), h.n⟩, hF⟩
theorem AtM.turn1 (h : AtM w b K P1 P2 P3) (ho : OwnH w' b.p1 P') (ht : w.mapTurned w' b.p1) : AtM w' b K P' P2 P3 ∧ Frm w w' b := by
  obtain ⟨hF, hc, hs⟩ := h.turn (.inr (.inl rfl)) ht
  obtain ⟨n1, n2, n3, n4, n5, n6⟩ := h.n
  exact ⟨⟨hc, h.ok.same (hs _ (.inl rfl) n1), ho, h.o2.same (hs _ (.inr (.inr (.inl rfl))) (Ne.symm n4)), h.o3.same (hs _ (.inr (.inr (.inr rfl))) (Ne.symm n5)), h.n⟩, hF⟩
theorem AtM.turn2 (h : AtM w b K P1 P2 P3) (ho : OwnH w' b.p2 P') (ht : w.mapTurned w' b.p2) : AtM w' b K P1 P' P3 ∧ Frm w w' b := by
  obtain ⟨hF, hc, hs⟩ := h.turn (.inr (.inr (.inl rfl))) ht
  obtain ⟨n1, n2, n3, n4, n5, n6⟩ := h.n
  exact ⟨⟨hc, h.ok.same (hs _ (.inl rfl) n2), h.o1.same (hs _ (.inr (.inl rfl)) n4), ho, h.o3.same (hs _ (.inr (.inr (.inr rfl))) (Ne.symm n6)), h.n⟩, hF⟩
theorem AtM.turn3 (h : AtM w b K P1 P2 P3) (ho : OwnH w' b.p3 P') (ht : w.mapTurned w' b.p3) : AtM w' b K P1 P2 P' ∧ Frm w w' b := by
  obtain ⟨hF, hc, hs⟩ := h.turn (.inr (.inr (.inr rfl))) ht
  obtain ⟨n1, n2, n3, n4, n5, n6⟩ := h.n
  exact ⟨⟨hc, h.ok.same (hs _ (.inl rfl) n3), h.o1.same (hs _ (.inr (.inl rfl)) n5), h.o2.same (hs _ (.inr (.inr (.inl rfl))) n6), ho, h.n⟩, hF⟩
end

/-- A store into a map, where the order is open. -/
theorem stp_upd {ops : Array Oper} {a : Act} {w : World} {K : Act → World → Prop} {Q : Exit → Act → World → Prop} {E : Prop} (dst : Option Tmp) (ty : TypeId) (pos : String) (aft : Array Edge) (t : TypeId) (m k v : Operand)
    (mv kv vv : Value) (w' : World) (hm : a.eval m = mv) (hk : a.eval k = kv) (hv : a.eval v = vv) (hrun : (Instr.mapUpdate t mv kv vv).run Try.prog w = .ok () w') (h : K (a.put dst undef) w') :
    if Region.wanted ⟨dst, .mapUpdate t m k v, ty, pos, aft, none⟩ (yielded ops a.tmps) = true then Oper.wp Try.prog ⟨dst, .mapUpdate t m k v, ty, pos, aft, none⟩ a w K Q else E := by
  rw [if_pos (by simp [Region.wanted])]
  unfold Oper.wp
  simp [execOp, hm, hk, hv, hrun, Result.andThen]
  exact h
/-- .. where it is not. -/
theorem wpl_upd {ops : Array Oper} {rest : List Oper} {a : Act} {w : World} {Q : Exit → Act → World → Prop} (dst : Option Tmp) (ty : TypeId) (pos : String) (aft : Array Edge) (t : TypeId) (m k v : Operand)
    (mv kv vv : Value) (w' : World) (hm : a.eval m = mv) (hk : a.eval k = kv) (hv : a.eval v = vv) (hrun : (Instr.mapUpdate t mv kv vv).run Try.prog w = .ok () w') (h : wpList Try.prog ops Q rest (a.put dst undef) w') :
    wpList Try.prog ops Q (⟨dst, .mapUpdate t m k v, ty, pos, aft, none⟩ :: rest) a w := by
  refine wpList_plain rfl fun K' hK' => ?_
  unfold Oper.wp
  simp [execOp, hm, hk, hv, hrun, Result.andThen]
  exact hK' _ _ h

end Go.Proofs.Ytlgdjmmhdfpfeaa
