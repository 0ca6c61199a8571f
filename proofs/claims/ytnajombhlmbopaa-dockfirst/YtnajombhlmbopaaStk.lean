/-
  A dock in memory: its block, its row of days and its map; what a call on it leaves as it was; a store into a map where the order is open.
-/
import Derived.Test.YtnajombhlmbopaaMapM
namespace Go.Proofs.Ytnajombhlmbopaa
open Go.RowKit Go.Maps
set_option maxRecDepth 100000
set_option linter.unusedVariables false
set_option linter.unusedSimpArgs false

theorem Lies.cells2 {w : World} {g : Nat} {t : TypeId} {a b : Value} (h : Lies w g t #[a, b]) : w.cell? ⟨g, 0, none⟩ = some a ∧ w.cell? ⟨g, 1, none⟩ = some b := ⟨h.cell 0, h.cell 1⟩
theorem Lies.cells3 {w : World} {g : Nat} {t : TypeId} {a b c : Value} (h : Lies w g t #[a, b, c]) : w.cell? ⟨g, 0, none⟩ = some a ∧ w.cell? ⟨g, 1, none⟩ = some b ∧ w.cell? ⟨g, 2, none⟩ = some c := ⟨h.cell 0, h.cell 1, h.cell 2⟩
theorem Lies.cells4 {w : World} {g : Nat} {t : TypeId} {a b c d : Value} (h : Lies w g t #[a, b, c, d]) : w.cell? ⟨g, 0, none⟩ = some a ∧ w.cell? ⟨g, 1, none⟩ = some b ∧ w.cell? ⟨g, 2, none⟩ = some c ∧ w.cell? ⟨g, 3, none⟩ = some d := ⟨h.cell 0, h.cell 1, h.cell 2, h.cell 3⟩
theorem Lies.free2 {w : World} {g : Nat} {t : TypeId} {cs : Array Value} (h : Lies w g t cs) : w.frozen? ⟨g, 0, none⟩ = false ∧ w.frozen? ⟨g, 1, none⟩ = false := ⟨h.free 0, h.free 1⟩
theorem Lies.free3 {w : World} {g : Nat} {t : TypeId} {cs : Array Value} (h : Lies w g t cs) : w.frozen? ⟨g, 0, none⟩ = false ∧ w.frozen? ⟨g, 1, none⟩ = false ∧ w.frozen? ⟨g, 2, none⟩ = false := ⟨h.free 0, h.free 1, h.free 2⟩
theorem Lies.free4 {w : World} {g : Nat} {t : TypeId} {cs : Array Value} (h : Lies w g t cs) : w.frozen? ⟨g, 0, none⟩ = false ∧ w.frozen? ⟨g, 1, none⟩ = false ∧ w.frozen? ⟨g, 2, none⟩ = false ∧ w.frozen? ⟨g, 3, none⟩ = false := ⟨h.free 0, h.free 1, h.free 2, h.free 3⟩
theorem Lies.same {w w' : World} {g : Nat} {t : TypeId} {cs : Array Value} (h : Lies w g t cs) (e : w'.heap[g]? = w.heap[g]?) : Lies w' g t cs := e.trans h

theorem Lies.cells5 {w : World} {g : Nat} {t : TypeId} {a b c d e : Value} (h : Lies w g t #[a, b, c, d, e]) : w.cell? ⟨g, 0, none⟩ = some a ∧ w.cell? ⟨g, 1, none⟩ = some b ∧ w.cell? ⟨g, 2, none⟩ = some c ∧ w.cell? ⟨g, 3, none⟩ = some d ∧ w.cell? ⟨g, 4, none⟩ = some e := ⟨h.cell 0, h.cell 1, h.cell 2, h.cell 3, h.cell 4⟩
theorem Lies.free5 {w : World} {g : Nat} {t : TypeId} {cs : Array Value} (h : Lies w g t cs) : w.frozen? ⟨g, 0, none⟩ = false ∧ w.frozen? ⟨g, 1, none⟩ = false ∧ w.frozen? ⟨g, 2, none⟩ = false ∧ w.frozen? ⟨g, 3, none⟩ = false ∧ w.frozen? ⟨g, 4, none⟩ = false := ⟨h.free 0, h.free 1, h.free 2, h.free 3, h.free 4⟩

/-- The blocks of a dock: its own, the row of days (a value and a block), the map. -/
structure SB where
  s : Nat
  v : Value
  g : Nat
  m : Nat
/-- Is it one that its calls turn? -/
def SB.isMap (b : SB) (i : Nat) : Prop := i = b.g ∨ i = b.m
theorem SB.g_map (b : SB) : b.isMap b.g := .inl rfl
theorem SB.m_map (b : SB) : b.isMap b.m := .inr rfl
/-- The row of days. -/
def RowF (w : World) (v : Value) (g m : Nat) (F : List Int) : Prop :=
  (F = [] ∧ g = m ∧ ∃ A c, v = .slice A 0 c) ∨
  ∃ cap cur, v = .slice (some ⟨g, 0, none⟩) F.length cap ∧ Lies w g 3 cur ∧ F.length ≤ cur.size ∧ F.length ≤ cap ∧ cap ≤ maxLen ∧ ∀ i, i < F.length → cur[i]? = some (.int .i64 (fr F i))
structure At (w : World) (b : SB) (q : Ss) : Prop where
  c : Lies w b.s 55 #[b.v, .map (some b.m)]
  f : RowF w b.v b.g b.m q.F
  o : OwnH w b.m q.H
theorem OwnH.ne_lies {w : World} {m : Nat} {H : List Hd} (h : OwnH w m H) {g : Nat} {t : TypeId} {cs : Array Value} (hL : Lies w g t cs) : m ≠ g := fun e => by
  obtain ⟨D, ⟨es, clock, hb, -⟩, -⟩ := h
  unfold Lies at hL
  rw [← e, hb] at hL
  cases hL
theorem Lies.ne_ty {w : World} {g g' : Nat} {t t' : TypeId} {cs cs' : Array Value} (h : Lies w g t cs) (h' : Lies w g' t' cs') (ht : t ≠ t') : g ≠ g' := fun e => by
  subst e
  unfold Lies at h h'
  rw [h] at h'
  injection h' with h'
  injection h' with _ h'
  exact ht h'
theorem At.map_lt {w : World} {b : SB} {q : Ss} (h : At w b q) {i : Nat} (hi : b.isMap i) : i < w.heap.size := by
  rcases hi with rfl | rfl
  · rcases h.f with ⟨-, e, -⟩ | ⟨cap, cur, -, hL, -⟩
    · rw [e]; exact h.o.lt
    · exact hL.lt
  · exact h.o.lt
theorem At.map_ne {w : World} {b : SB} {q : Ss} (h : At w b q) {g : Nat} {t : TypeId} {cs : Array Value} (hL : Lies w g t cs) (ht : t ≠ 3) : ¬ b.isMap g := by
  rintro (e | e)
  · rcases h.f with ⟨-, e', -⟩ | ⟨cap, cur, -, hL', -⟩
    · exact h.o.ne_lies hL (e'.symm.trans e.symm)
    · exact hL.ne_ty hL' ht e
  · exact h.o.ne_lies hL e.symm
theorem At.s_ne {w : World} {b : SB} {q : Ss} (h : At w b q) : ¬ b.isMap b.s := h.map_ne h.c (by decide)

/-- Nothing but the map, the row of days, and what is new, has turned. -/
structure Frm (w w' : World) (b : SB) : Prop where
  os : w'.os = w.os
  tape : w'.tape = w.tape
  output : w'.output = w.output
  size : w.heap.size ≤ w'.heap.size
  block : ∀ i, i < w.heap.size → ¬ b.isMap i → w'.heap[i]? = w.heap[i]?
theorem Frm.refl (w : World) (b : SB) : Frm w w b := ⟨rfl, rfl, rfl, Nat.le_refl _, fun _ _ _ => rfl⟩
theorem Frm.trans {w w' w'' : World} {b : SB} (h : Frm w w' b) (h' : Frm w' w'' b) : Frm w w'' b :=
  ⟨h'.os.trans h.os, h'.tape.trans h.tape, h'.output.trans h.output, Nat.le_trans h.size h'.size, fun i hi h1 => (h'.block i (Nat.lt_of_lt_of_le hi h.size) h1).trans (h.block i hi h1)⟩
theorem Frm.of_below {w w' : World} (b : SB) (h : Below w.heap.size w w') : Frm w w' b := ⟨h.os, h.tape, h.output, h.size, fun i hi _ => h.block i hi⟩
theorem Frm.of_grown {w w' : World} {b : SB} {r : Nat} (h : w.grownBy w' (some r)) (hr : b.isMap r) : Frm w w' b :=
  ⟨h.os, h.tape, h.output, h.size, fun i hi h1 => h.block i hi (fun e => by injection e with e; subst e; exact h1 hr)⟩
theorem Frm.drew {w w' : World} {b : SB} (h : Frm w w' b) : Frm w w'.drew b := ⟨h.os, h.tape, h.output, h.size, h.block⟩
theorem Frm.alloc {w w' : World} {b : SB} (h : Frm w w' b) (o : Obj) : Frm w (w'.alloc o) b := h.trans (Frm.of_below b (below1 w' o))
theorem Frm.lies {w w' : World} {b : SB} (h : Frm w w' b) {g : Nat} {t : TypeId} {cs : Array Value} (hL : Lies w g t cs) (h1 : ¬ b.isMap g) : Lies w' g t cs := hL.same (h.block g hL.lt h1)
theorem Frm.below {w w' a : World} {b : SB} {B : Nat} (h : Frm w w' b) (hb : Below B a w) (hB : B ≤ w.heap.size) (h1 : ∀ i, b.isMap i → B ≤ i) : Below B a w' :=
  ⟨h.os.trans hb.os, h.tape.trans hb.tape, h.output.trans hb.output, Nat.le_trans hb.size h.size, fun k hk => (h.block k (by omega) (fun hm => by have := h1 k hm; omega)).trans (hb.block k hk)⟩


theorem RowF.same {w w' : World} {v : Value} {g m : Nat} {F : List Int} (h : RowF w v g m F) (e : w'.heap[g]? = w.heap[g]?) : RowF w' v g m F := by
  rcases h with h | ⟨cap, cur, h1, h2, h3⟩
  · exact .inl h
  · exact .inr ⟨cap, cur, h1, h2.same e, h3⟩
theorem At.same {w w' : World} {b : SB} {q : Ss} (h : At w b q) (h0 : w'.heap[b.s]? = w.heap[b.s]?) (hs : ∀ i, b.isMap i → w'.heap[i]? = w.heap[i]?) : At w' b q :=
  ⟨h.c.same h0, h.f.same (hs _ b.g_map), h.o.same (hs _ b.m_map)⟩
theorem At.below {w w' : World} {b : SB} {q : Ss} (h : At w b q) (hb : Below w.heap.size w w') : At w' b q :=
  h.same (hb.block _ h.c.lt) fun i hi => hb.block _ (h.map_lt hi)
theorem At.alloc {w : World} {b : SB} {q : Ss} (h : At w b q) (o : Obj) : At (w.alloc o) b q := h.below (below1 w o)
theorem At.drew {w : World} {b : SB} {q : Ss} (h : At w b q) : At w.drew b q := h.same rfl fun _ _ => rfl
theorem At.drewN {w : World} {b : SB} {q : Ss} (h : At w b q) (n : Nat) : At (w.drewN n) b q := h.below (below_drewN (Below.refl _ _) n)
theorem At.setCell {w : World} {b : SB} {q : Ss} (h : At w b q) {g : Nat} {t : TypeId} {cs : Array Value} (hL : Lies w g t cs) (ht : t ≠ 3) (hn : g ≠ b.s) (i : Nat) (v : Value) : At (w.setCell ⟨g, i, none⟩ v) b q :=
  h.same (heap_setCell_other w _ _ v (Ne.symm hn)) fun j hj => heap_setCell_other w _ _ v (fun e => h.map_ne hL ht (by rw [← show j = g from e]; exact hj))
theorem Frm.at_other {w w' : World} {b c : SB} {q : Ss} (h : Frm w w' b) (hA : At w c q) (h1 : ¬ b.isMap c.s) (h2 : ∀ i, c.isMap i → ¬ b.isMap i) : At w' c q :=
  hA.same (h.block _ hA.c.lt h1) fun i hi => h.block _ (hA.map_lt hi) (h2 i hi)
theorem At.turnH {w w' : World} {b : SB} {q : Ss} {H' : List Hd} (h : At w b q) (ho : OwnH w' b.m H') (ht : w.mapTurned w' b.m) : At w' b ⟨q.F, H'⟩ ∧ Frm w w' b := by
  have hF := Frm.of_grown (b := b) ht.grown b.m_map
  have hg := ht.grown
  have hne : ∀ i, i < w.heap.size → i ≠ b.m → w'.heap[i]? = w.heap[i]? := fun i hi hn => hg.block i hi (fun e => hn (Option.some.inj e))
  refine ⟨⟨h.c.same (hne _ h.c.lt (fun e => h.o.ne_lies h.c e.symm)), ?_, ho⟩, hF⟩
  rcases h.f with h1 | ⟨cap, cur, h1, h2, h3⟩
  · exact .inl h1
  · exact .inr ⟨cap, cur, h1, h2.same (hne _ h2.lt (fun e => h.o.ne_lies h2 e.symm)), h3⟩
/-- The row of days, where there is a day. -/
theorem At.row {w : World} {b : SB} {q : Ss} (h : At w b q) (h0 : 0 < q.F.length) : ∃ cap, b.v = .slice (some ⟨b.g, 0, none⟩) q.F.length cap ∧ q.F.length ≤ cap ∧ cap ≤ maxLen ∧ ∀ i, i < q.F.length → w.cell? ⟨b.g, i, none⟩ = some (.int .i64 (fr q.F i)) ∧ w.frozen? ⟨b.g, i, none⟩ = false := by
  rcases h.f with ⟨e, -⟩ | ⟨cap, cur, h1, h2, h3, h4, h5, h6⟩
  · rw [e] at h0; simp at h0
  · exact ⟨cap, h1, h4, h5, fun i hi => ⟨(h2.cell i).trans (h6 i hi), h2.free i⟩⟩
theorem At.len {w : World} {b : SB} {q : Ss} (h : At w b q) : ∃ A cap, b.v = .slice A q.F.length cap := by
  rcases h.f with ⟨e, -, A, c, h⟩ | ⟨cap, cur, h1, -⟩
  · rw [e]; exact ⟨A, c, h⟩
  · exact ⟨_, cap, h1⟩
/-- A day's room is written. -/
theorem At.putF {w : World} {b : SB} {q : Ss} (h : At w b q) {d : Nat} (hd : d < q.F.length) (x : Int) : At (w.setCell ⟨b.g, d, none⟩ (.int .i64 x)) b ⟨q.F.set d x, q.H⟩ ∧ Frm w (w.setCell ⟨b.g, d, none⟩ (.int .i64 x)) b := by
  rcases h.f with ⟨e, -⟩ | ⟨cap, cur, h1, h2, h3, h4, h5, h6⟩
  · rw [e] at hd; simp at hd
  · have hsg : b.s ≠ b.g := h.c.ne_ty h2 (by decide)
    refine ⟨⟨h.c.other (a := ⟨b.g, d, none⟩) hsg _, .inr ⟨cap, _, by rw [List.length_set]; exact h1, h2.put d _, by simpa using h3, by simpa using h4, h5, fun i hi => ?_⟩, h.o.same (heap_setCell_other w _ _ _ (fun e => h.o.ne_lies h2 e))⟩, ⟨rfl, rfl, rfl, by simp, fun i hi hn => heap_setCell_other w _ _ _ (fun e => hn (.inl e))⟩⟩
    rw [List.length_set] at hi
    rw [Array.getElem?_setIfInBounds, fr_set]
    by_cases e : d = i
    · subst e
      rw [if_pos rfl, if_pos (by omega), if_pos ⟨rfl, hd⟩]
    · rw [if_neg e, if_neg (by omega)]
      exact h6 i hi

/-- A store into a map, where the order is open. -/
theorem stp_upd {ops : Array Oper} {a : Act} {w : World} {K : Act → World → Prop} {Q : Exit → Act → World → Prop} {E : Prop} (dst : Option Tmp) (ty : TypeId) (pos : String) (aft : Array Edge) (t : TypeId) (m k v : Operand)
    (mv kv vv : Value) (w' : World) (hm : a.eval m = mv) (hk : a.eval k = kv) (hv : a.eval v = vv) (hrun : (Instr.mapUpdate t mv kv vv).run Try.prog w = .ok () w') (h : K (a.put dst undef) w') :
    if Region.wanted ⟨dst, .mapUpdate t m k v, ty, pos, aft, none⟩ (yielded ops a.tmps) = true then Oper.wp Try.prog ⟨dst, .mapUpdate t m k v, ty, pos, aft, none⟩ a w K Q else E := by
  rw [if_pos (by simp [Region.wanted])]
  unfold Oper.wp
  simp [execOp, hm, hk, hv, hrun, Result.andThen]
  exact h
/-- .. where it is not. -/
theorem wpl_upd {ops : Array Oper} {rest : List Oper} {a : Act} {w : World} {Q : Exit → Act → World → Prop} (dst : Option Tmp) (ty : TypeId) (pos : String) (aft : Array Edge) (t : TypeId) (m k v : Operand)
    (mv kv vv : Value) (w' : World) (hm : a.eval m = mv) (hk : a.eval k = kv) (hv : a.eval v = vv) (hrun : (Instr.mapUpdate t mv kv vv).run Try.prog w = .ok () w') (h : wpList Try.prog ops Q rest (a.put dst undef) w') :
    wpList Try.prog ops Q (⟨dst, .mapUpdate t m k v, ty, pos, aft, none⟩ :: rest) a w := by
  refine wpList_plain rfl fun K' hK' => ?_
  unfold Oper.wp
  simp [execOp, hm, hk, hv, hrun, Result.andThen]
  exact hK' _ _ h

end Go.Proofs.Ytnajombhlmbopaa
