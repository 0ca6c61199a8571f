/-
  A stock in memory: its block and its two maps; what a call on it leaves as it was; a store into a map where the order is open.
-/
import Derived.Test.YtimoobhnhldgbaaMapM
namespace Go.Proofs.Ytimoobhnhldgbaa
open Go.RowKit Go.Maps
set_option maxRecDepth 100000
set_option linter.unusedVariables false
set_option linter.unusedSimpArgs false

theorem Lies.cells2 {w : World} {g : Nat} {t : TypeId} {a b : Value} (h : Lies w g t #[a, b]) : w.cell? ⟨g, 0, none⟩ = some a ∧ w.cell? ⟨g, 1, none⟩ = some b := ⟨h.cell 0, h.cell 1⟩
theorem Lies.cells3 {w : World} {g : Nat} {t : TypeId} {a b c : Value} (h : Lies w g t #[a, b, c]) : w.cell? ⟨g, 0, none⟩ = some a ∧ w.cell? ⟨g, 1, none⟩ = some b ∧ w.cell? ⟨g, 2, none⟩ = some c := ⟨h.cell 0, h.cell 1, h.cell 2⟩
theorem Lies.cells4 {w : World} {g : Nat} {t : TypeId} {a b c d : Value} (h : Lies w g t #[a, b, c, d]) : w.cell? ⟨g, 0, none⟩ = some a ∧ w.cell? ⟨g, 1, none⟩ = some b ∧ w.cell? ⟨g, 2, none⟩ = some c ∧ w.cell? ⟨g, 3, none⟩ = some d := ⟨h.cell 0, h.cell 1, h.cell 2, h.cell 3⟩
theorem Lies.free2 {w : World} {g : Nat} {t : TypeId} {cs : Array Value} (h : Lies w g t cs) : w.frozen? ⟨g, 0, none⟩ = false ∧ w.frozen? ⟨g, 1, none⟩ = false := ⟨h.free 0, h.free 1⟩
theorem Lies.free3 {w : World} {g : Nat} {t : TypeId} {cs : Array Value} (h : Lies w g t cs) : w.frozen? ⟨g, 0, none⟩ = false ∧ w.frozen? ⟨g, 1, none⟩ = false ∧ w.frozen? ⟨g, 2, none⟩ = false := ⟨h.free 0, h.free 1, h.free 2⟩
theorem Lies.free4 {w : World} {g : Nat} {t : TypeId} {cs : Array Value} (h : Lies w g t cs) : w.frozen? ⟨g, 0, none⟩ = false ∧ w.frozen? ⟨g, 1, none⟩ = false ∧ w.frozen? ⟨g, 2, none⟩ = false ∧ w.frozen? ⟨g, 3, none⟩ = false := ⟨h.free 0, h.free 1, h.free 2, h.free 3⟩
theorem Lies.same {w w' : World} {g : Nat} {t : TypeId} {cs : Array Value} (h : Lies w g t cs) (e : w'.heap[g]? = w.heap[g]?) : Lies w' g t cs := e.trans h

/-- The blocks of a stock. -/
structure SB where
  s : Nat
  k : Nat
  h : Nat
structure At (w : World) (b : SB) (q : Ss) : Prop where
  c : Lies w b.s 57 #[.map (some b.k), .map (some b.h)]
  ok : OwnK w b.k q.K
  oh : OwnH w b.h q.H
  n : b.k ≠ b.h
theorem At.nk {w : World} {b : SB} {q : Ss} (h : At w b q) : b.k ≠ b.s := fun e => by
  obtain ⟨D, ⟨es, clock, hb, -⟩, -⟩ := h.ok
  have := h.c
  unfold Lies at this
  rw [← e, hb] at this
  cases this
theorem At.nh {w : World} {b : SB} {q : Ss} (h : At w b q) : b.h ≠ b.s := fun e => by
  obtain ⟨D, ⟨es, clock, hb, -⟩, -⟩ := h.oh
  have := h.c
  unfold Lies at this
  rw [← e, hb] at this
  cases this

/-- Nothing but the two maps, and what is new, has turned. -/
structure Frm (w w' : World) (b : SB) : Prop where
  os : w'.os = w.os
  tape : w'.tape = w.tape
  output : w'.output = w.output
  size : w.heap.size ≤ w'.heap.size
  block : ∀ i, i < w.heap.size → i ≠ b.k → i ≠ b.h → w'.heap[i]? = w.heap[i]?
theorem Frm.refl (w : World) (b : SB) : Frm w w b := ⟨rfl, rfl, rfl, Nat.le_refl _, fun _ _ _ _ => rfl⟩
theorem Frm.trans {w w' w'' : World} {b : SB} (h : Frm w w' b) (h' : Frm w' w'' b) : Frm w w'' b :=
  ⟨h'.os.trans h.os, h'.tape.trans h.tape, h'.output.trans h.output, Nat.le_trans h.size h'.size, fun i hi h1 h2 => (h'.block i (Nat.lt_of_lt_of_le hi h.size) h1 h2).trans (h.block i hi h1 h2)⟩
theorem Frm.of_below {w w' : World} (b : SB) (h : Below w.heap.size w w') : Frm w w' b := ⟨h.os, h.tape, h.output, h.size, fun i hi _ _ => h.block i hi⟩
theorem Frm.of_grown {w w' : World} {b : SB} {r : Nat} (h : w.grownBy w' (some r)) (hr : r = b.k ∨ r = b.h) : Frm w w' b :=
  ⟨h.os, h.tape, h.output, h.size, fun i hi h1 h2 => h.block i hi (fun e => by injection e with e; subst e; rcases hr with hr | hr <;> contradiction)⟩
theorem Frm.drew {w w' : World} {b : SB} (h : Frm w w' b) : Frm w w'.drew b := ⟨h.os, h.tape, h.output, h.size, h.block⟩
theorem Frm.alloc {w w' : World} {b : SB} (h : Frm w w' b) (o : Obj) : Frm w (w'.alloc o) b := h.trans (Frm.of_below b (below1 w' o))
theorem Frm.lies {w w' : World} {b : SB} (h : Frm w w' b) {g : Nat} {t : TypeId} {cs : Array Value} (hL : Lies w g t cs) (h1 : g ≠ b.k) (h2 : g ≠ b.h) : Lies w' g t cs := hL.same (h.block g hL.lt h1 h2)
theorem Frm.below {w w' a : World} {b : SB} {B : Nat} (h : Frm w w' b) (hb : Below B a w) (hB : B ≤ w.heap.size) (h1 : B ≤ b.k) (h2 : B ≤ b.h) : Below B a w' :=
  ⟨h.os.trans hb.os, h.tape.trans hb.tape, h.output.trans hb.output, Nat.le_trans hb.size h.size, fun k hk => (h.block k (by omega) (by omega) (by omega)).trans (hb.block k hk)⟩

theorem At.below {w w' : World} {b : SB} {q : Ss} (h : At w b q) (hb : Below w.heap.size w w') : At w' b q :=
  ⟨h.c.same (hb.block _ h.c.lt), h.ok.same (hb.block _ h.ok.lt), h.oh.same (hb.block _ h.oh.lt), h.n⟩
theorem At.alloc {w : World} {b : SB} {q : Ss} (h : At w b q) (o : Obj) : At (w.alloc o) b q := h.below (below1 w o)
theorem At.drew {w : World} {b : SB} {q : Ss} (h : At w b q) : At w.drew b q := ⟨h.c, h.ok, h.oh, h.n⟩
theorem At.setCell {w : World} {b : SB} {q : Ss} (h : At w b q) {g : Nat} {t : TypeId} {cs : Array Value} (hL : Lies w g t cs) (hn : g ≠ b.s) (i : Nat) (v : Value) : At (w.setCell ⟨g, i, none⟩ v) b q := by
  have hk : b.k ≠ g := fun e => by
    obtain ⟨D, ⟨es, clock, hb, -⟩, -⟩ := h.ok
    unfold Lies at hL
    rw [← e, hb] at hL
    cases hL
  have hh : b.h ≠ g := fun e => by
    obtain ⟨D, ⟨es, clock, hb, -⟩, -⟩ := h.oh
    unfold Lies at hL
    rw [← e, hb] at hL
    cases hL
  exact ⟨h.c.other (Ne.symm hn) v, h.ok.same (heap_setCell_other w _ _ v hk), h.oh.same (heap_setCell_other w _ _ v hh), h.n⟩
/-- Another stock is as it was. -/
theorem Frm.at_other {w w' : World} {b c : SB} {q : Ss} (h : Frm w w' b) (hA : At w c q) (h1 : c.s ≠ b.k ∧ c.s ≠ b.h) (h2 : c.k ≠ b.k ∧ c.k ≠ b.h) (h3 : c.h ≠ b.k ∧ c.h ≠ b.h) : At w' c q :=
  ⟨h.lies hA.c h1.1 h1.2, hA.ok.same (h.block _ hA.ok.lt h2.1 h2.2), hA.oh.same (h.block _ hA.oh.lt h3.1 h3.2), hA.n⟩

theorem At.turnK {w w' : World} {b : SB} {q : Ss} {K' : List Kd} (h : At w b q) (ho : OwnK w' b.k K') (ht : w.mapTurned w' b.k) : At w' b ⟨K', q.H⟩ ∧ Frm w w' b := by
  have hF := Frm.of_grown (b := b) ht.grown (.inl rfl)
  have hg := ht.grown
  exact ⟨⟨h.c.same (hg.block _ h.c.lt (fun e => h.nk (by injection e with e; exact e.symm))), ho, h.oh.same (hg.block _ h.oh.lt (fun e => h.n (by injection e with e; exact e.symm))), h.n⟩, hF⟩
theorem At.turnH {w w' : World} {b : SB} {q : Ss} {H' : List Hd} (h : At w b q) (ho : OwnH w' b.h H') (ht : w.mapTurned w' b.h) : At w' b ⟨q.K, H'⟩ ∧ Frm w w' b := by
  have hF := Frm.of_grown (b := b) ht.grown (.inr rfl)
  have hg := ht.grown
  exact ⟨⟨h.c.same (hg.block _ h.c.lt (fun e => h.nh (by injection e with e; exact e.symm))), h.ok.same (hg.block _ h.ok.lt (fun e => h.n (by injection e with e))), ho, h.n⟩, hF⟩

/-- A store into a map, where the order is open. -/
theorem stp_upd {ops : Array Oper} {a : Act} {w : World} {K : Act → World → Prop} {Q : Exit → Act → World → Prop} {E : Prop} (dst : Option Tmp) (ty : TypeId) (pos : String) (aft : Array Edge) (t : TypeId) (m k v : Operand)
    (mv kv vv : Value) (w' : World) (hm : a.eval m = mv) (hk : a.eval k = kv) (hv : a.eval v = vv) (hrun : (Instr.mapUpdate t mv kv vv).run Try.prog w = .ok () w') (h : K (a.put dst undef) w') :
    if Region.wanted ⟨dst, .mapUpdate t m k v, ty, pos, aft, none⟩ (yielded ops a.tmps) = true then Oper.wp Try.prog ⟨dst, .mapUpdate t m k v, ty, pos, aft, none⟩ a w K Q else E := by
  rw [if_pos (by simp [Region.wanted])]
  unfold Oper.wp
  simp [execOp, hm, hk, hv, hrun, Result.andThen]
  exact h
/-- .. where it is not. -/
theorem wpl_upd {ops : Array Oper} {rest : List Oper} {a : Act} {w : World} {Q : Exit → Act → World → Prop} (dst : Option Tmp) (ty : TypeId) (pos : String) (aft : Array Edge) (t : TypeId) (m k v : Operand)
    (mv kv vv : Value) (w' : World) (hm : a.eval m = mv) (hk : a.eval k = kv) (hv : a.eval v = vv) (hrun : (Instr.mapUpdate t mv kv vv).run Try.prog w = .ok () w') (h : wpList Try.prog ops Q rest (a.put dst undef) w') :
    wpList Try.prog ops Q (⟨dst, .mapUpdate t m k v, ty, pos, aft, none⟩ :: rest) a w := by
  refine wpList_plain rfl fun K' hK' => ?_
  unfold Oper.wp
  simp [execOp, hm, hk, hv, hrun, Result.andThen]
  exact hK' _ _ h

end Go.Proofs.Ytimoobhnhldgbaa
