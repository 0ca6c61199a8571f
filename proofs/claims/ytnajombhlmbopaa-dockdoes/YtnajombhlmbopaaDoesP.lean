/-
  The dock and its reference side by side in memory.
-/
import Derived.Test.YtnajombhlmbopaaRelM
import Derived.Test.YtnajombhlmbopaaRefN
import Derived.Test.YtnajombhlmbopaaRefH
namespace Go.Proofs.Ytnajombhlmbopaa
open Go.Proofs Go.RowKit
set_option maxRecDepth 100000
set_option linter.unusedVariables false

theorem SW.low {w0 w w' : World} {R : List Int} {b : SB} {q : Ss} {B : Nat} (h : SW w0 w R b q) (hb : Below B w w') (h1 : b.s < B ∧ ∀ i, b.isMap i → i < B) (h0 : w0.heap.size ≤ B) : SW w0 w' R b q :=
  ⟨h.ok.same (hb.block _ h1.1) fun i hi => hb.block _ (h1.2 i hi), h.inv, h.bel.trans (hb.mono h0), h.lo⟩

structure DW (w0 w : World) (R : List Int) (b : SB) (q : Ss) (B g : Nat) (vF vL : Value) (r : Rs) : Prop where
  s : SW w0 w R b q
  ra : RAt w B g vF vL r
  rel : Rel R q r
  lo : b.s < B ∧ ∀ i, b.isMap i → i < B
  hB : w0.heap.size ≤ B ∧ B ≤ w.heap.size
theorem DW.below {w0 w w' : World} {R : List Int} {b : SB} {q : Ss} {B g : Nat} {vF vL : Value} {r : Rs} (h : DW w0 w R b q B g vF vL r) (hb : Below w.heap.size w w') : DW w0 w' R b q B g vF vL r :=
  ⟨h.s.below hb, h.ra.below hb, h.rel, h.lo, h.hB.1, Nat.le_trans h.hB.2 hb.size⟩
/-- A block that is neither's is written. -/
theorem DW.own {w0 w w' : World} {R : List Int} {b : SB} {q : Ss} {B g : Nat} {vF vL : Value} {r : Rs} (D : DW w0 w R b q B g vF vL r) {go : Nat} {t : TypeId} {ds : Array Value} (hp : PutW w w' go t ds) (h1 : w0.heap.size ≤ go) (h2 : go ≠ b.s ∧ ¬ b.isMap go) (h3 : go < B) : DW w0 w' R b q B g vF vL r := by
  have hne : ∀ i, i < w.heap.size → i ≠ go → w'.heap[i]? = w.heap[i]? := fun i hi hn => hp.grown.block i hi (fun e => hn (Option.some.inj e))
  refine ⟨⟨D.s.ok.same (hne _ D.s.ok.c.lt (fun e => h2.1 e.symm)) (fun i hi => hne i (D.s.ok.map_lt hi) (fun e => h2.2 (e ▸ hi))), D.s.inv, D.s.bel.grown hp.grown D.s.bel.size (fun k hk => by injection hk with hk; omega), D.s.lo⟩, D.ra.same fun k hk hk2 => hne k hk2 (fun e => by omega), D.rel, D.lo, D.hB.1, by rw [hp.size]; exact D.hB.2⟩
/-- Behind an act of both. -/
theorem DW.act {w0 wr w3 w4 : World} {R : List Int} {b : SB} {q : Ss} {B g : Nat} {vF vL vL4 : Value} {r r' : Rs} {a : Ac} (D : DW w0 wr R b q B g vF vL r) (hs : SW w0 w3 R b (actS q a)) (hF : Frm wr w3 b) (hr : RAt w4 B g vF vL4 r') (hf : RFrm w3 w4 g vL) (e : r' = rstep r a) : DW w0 w4 R b (actS q a) B g vF vL4 (rstep r a) := by
  subst e
  have hR3 := D.ra.frm hF D.lo.2
  have hB3 : B ≤ w3.heap.size := Nat.le_trans D.hB.2 hF.size
  have hb := hf.below hB3 hR3.lo (fun k hk => (hR3.l.block k hk).1)
  exact ⟨hs.low hb D.lo D.hB.1, hr, D.rel.step D.s.inv a, D.lo, D.hB.1, Nat.le_trans hB3 hb.size⟩

/-- A row that may be written over. -/
def RowW (w : World) (B : Nat) (t : TypeId) (sz : Nat) (v : Value) (n : Nat) : Prop := n = 0 ∨ ∃ g o c cs, v = .slice (some ⟨g, o, none⟩) n c ∧ B ≤ g ∧ Lies w g t cs ∧ o + n * sz ≤ cs.size
theorem OwnE.roww {α : Type} {enc : α → List Value} {e : TypeId} {k : Nat} {w : World} {B : Nat} {v : Value} {l : List α} (h : OwnE enc e k w B v l) : RowW w B e k v l.length := by
  rcases h.form with ⟨rfl, rfl⟩ | ⟨g, cap, cur, rfl, h1, h2, h3, h4, h5, h6⟩
  · exact .inl rfl
  · refine .inr ⟨g, 0, cap, cur, rfl, h1, h2, ?_⟩
    rw [h5, Nat.zero_add]
    exact Nat.mul_le_mul_right k h3
theorem RowW.below {w w' : World} {B : Nat} {t : TypeId} {sz : Nat} {v : Value} {n : Nat} (h : RowW w B t sz v n) (hb : Below w.heap.size w w') : RowW w' B t sz v n := by
  rcases h with h | ⟨g2, o, c, cs2, rfl, h1, h2, h3⟩
  · exact .inl h
  · exact .inr ⟨g2, o, c, cs2, rfl, h1, h2.below hb h2.lt, h3⟩
/-- The same, of a block below C. -/
def RowO (w : World) (B C : Nat) (v : Value) (n : Nat) : Prop := n = 0 ∨ ∃ g o c cs, v = .slice (some ⟨g, o, none⟩) n c ∧ B ≤ g ∧ g < C ∧ Lies w g 3 cs ∧ o + n ≤ cs.size
theorem OwnE.rowo {w : World} {B : Nat} {v : Value} {l : List Int} (h : OwnI w B v l) : RowO w B w.heap.size v l.length := by
  rcases h.form with ⟨rfl, rfl⟩ | ⟨g, cap, cur, rfl, h1, h2, h3, h4, h5, h6⟩
  · exact .inl rfl
  · exact .inr ⟨g, 0, cap, cur, rfl, h1, h2.lt, h2, by omega⟩
theorem RowO.below {w w' : World} {B C : Nat} {v : Value} {n : Nat} (h : RowO w B C v n) (hb : Below w.heap.size w w') : RowO w' B C v n := by
  rcases h with h | ⟨g2, o, c, cs2, rfl, h1, hc, h2, h3⟩
  · exact .inl h
  · exact .inr ⟨g2, o, c, cs2, rfl, h1, hc, h2.below hb h2.lt, h3⟩
/-- 'append' of an argument to nothing. -/
theorem wpl_appArg {ops : Array Oper} {rest : List Oper} {a : Act} {w : World} {Q : Exit → Act → World → Prop} (dst : Option Tmp) (ty : TypeId) (pos : String) (aft : Array Edge) (s x : Operand)
    (A : Option Addr) (n c : Nat) (l : List Int) (hs : a.eval s = .slice none 0 0) (hx : a.eval x = .slice A n c) (hG : Iin w A n l) (hn : n ≤ 1000)
    (h : ∀ v' w', OwnI w' w.heap.size v' l → Below w.heap.size w w' → wpList Try.prog ops Q rest (a.put dst v') w') :
    wpList Try.prog ops Q (⟨dst, .call { callee := .builtin .append, args := #[s, x], argTypes := #[22, 22] }, ty, pos, aft, none⟩ :: rest) a w := by
  by_cases h0 : n = 0
  · subst h0
    have hl : l = [] := List.eq_nil_of_length_eq_zero hG.1
    subst hl
    exact wpl_appI0 dst ty pos aft s x w.heap.size c A (.slice none 0 0) [] hs hx (OwnE.nil _ _) (h _ _ (OwnE.nil _ _) (Below.refl _ _))
  · obtain ⟨b, off, rfl, hbl, hcell⟩ := hG.2 (by omega)
    refine wpl_appIs dst ty pos aft s x w.heap.size (.slice none 0 0) [] l b off c n hG.1 hs hx (OwnE.nil _ _) (fun i hi j hj => ?_) (by have := hG.1; simp; omega) (Nat.le_refl _) (fun v' w' h1 h2 h3 => h v' w' h1 ?_)
    · have e0 : j = 0 := by omega
      subst e0
      rw [Nat.mul_one, Nat.add_zero, hcell i hi]
      rfl
    · exact (Below.refl _ _).grown h2 (Nat.le_refl _) (fun k hk => by cases hk)

end Go.Proofs.Ytnajombhlmbopaa
