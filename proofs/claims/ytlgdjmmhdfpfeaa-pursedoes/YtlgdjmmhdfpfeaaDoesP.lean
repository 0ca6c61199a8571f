/-
  The purse and its reference side by side in memory.
-/
import Derived.Test.YtlgdjmmhdfpfeaaRelM
import Derived.Test.YtlgdjmmhdfpfeaaRefN
import Derived.Test.YtlgdjmmhdfpfeaaRefH
namespace Go.Proofs.Ytlgdjmmhdfpfeaa
open Go.Proofs Go.RowKit
set_option maxRecDepth 100000
set_option linter.unusedVariables false

theorem SW.low {w0 w w' : World} {b : SB} {q : Ss} {B : Nat} (h : SW w0 w b q) (hb : Below B w w') (h1 : b.s < B ∧ ∀ i, b.isMap i → i < B) (h0 : w0.heap.size ≤ B) : SW w0 w' b q :=
  ⟨h.ok.same (hb.block _ h1.1) fun i hi => hb.block _ (h1.2 i hi), h.inv, h.bel.trans (hb.mono h0), h.lo⟩

structure DW (w0 w : World) (b : SB) (q : Ss) (B g : Nat) (vF vL : Value) (r : Rs) : Prop where
  s : SW w0 w b q
  ra : RAt w B g vF vL r
  rel : Rel q r
  lo : b.s < B ∧ ∀ i, b.isMap i → i < B
  hB : w0.heap.size ≤ B ∧ B ≤ w.heap.size
theorem DW.below {w0 w w' : World} {b : SB} {q : Ss} {B g : Nat} {vF vL : Value} {r : Rs} (h : DW w0 w b q B g vF vL r) (hb : Below w.heap.size w w') : DW w0 w' b q B g vF vL r :=
  ⟨h.s.below hb, h.ra.below hb, h.rel, h.lo, h.hB.1, Nat.le_trans h.hB.2 hb.size⟩
/-- Behind an act of both. -/
theorem DW.act {w0 wr w3 w4 : World} {b : SB} {q : Ss} {B g : Nat} {vF vL vL4 : Value} {r r' : Rs} {a : Ac} (D : DW w0 wr b q B g vF vL r) (hs : SW w0 w3 b (actS q a)) (hF : Frm wr w3 b) (hr : RAt w4 B g vF vL4 r') (hf : RFrm w3 w4 g vL) (e : r' = rstep r a) : DW w0 w4 b (actS q a) B g vF vL4 (rstep r a) := by
  subst e
  have hR3 := D.ra.frm hF D.lo.2
  have hB3 : B ≤ w3.heap.size := Nat.le_trans D.hB.2 hF.size
  have hb := hf.below hB3 hR3.lo (fun k hk => (hR3.l.block k hk).1)
  exact ⟨hs.low hb D.lo D.hB.1, hr, D.rel.step D.s.inv a, D.lo, D.hB.1, Nat.le_trans hB3 hb.size⟩

/-- A row that may be written over. -/
def RowW (w : World) (B : Nat) (t : TypeId) (sz : Nat) (v : Value) (n : Nat) : Prop := n = 0 ∨ ∃ g o c cs, v = .slice (some ⟨g, o, none⟩) n c ∧ B ≤ g ∧ Lies w g t cs ∧ o + n * sz ≤ cs.size
theorem OwnE.roww {α : Type} {enc : α → List Value} {e : TypeId} {k : Nat} {w : World} {B : Nat} {v : Value} {l : List α} (h : OwnE enc e k w B v l) : RowW w B e k v l.length := by
  rcases h.form with ⟨rfl, rfl⟩ | ⟨g, cap, cur, rfl, h1, h2, h3, h4, h5, h6⟩
  · exact .inl rfl
  · refine .inr ⟨g, 0, cap, cur, rfl, h1, h2, ?_⟩
    rw [h5, Nat.zero_add]
    exact Nat.mul_le_mul_right k h3
theorem RowW.put {w w' : World} {B : Nat} {t : TypeId} {sz : Nat} {v : Value} {n : Nat} (h : RowW w B t sz v n) {g : Nat} {t' : TypeId} {cs ds : Array Value} (hL : Lies w g t' cs) (hp : PutW w w' g t' ds) (hne : t ≠ t') : RowW w' B t sz v n := by
  rcases h with h | ⟨g2, o, c, cs2, rfl, h1, h2, h3⟩
  · exact .inl h
  · refine .inr ⟨g2, o, c, cs2, rfl, h1, h2.same (hp.grown.block g2 h2.lt (fun e => ?_)), h3⟩
    injection e with e
    subst e
    unfold Lies at hL h2
    rw [h2] at hL
    injection hL with hL
    injection hL with _ hL
    exact hne hL
theorem RowW.below {w w' : World} {B : Nat} {t : TypeId} {sz : Nat} {v : Value} {n : Nat} (h : RowW w B t sz v n) (hb : Below w.heap.size w w') : RowW w' B t sz v n := by
  rcases h with h | ⟨g2, o, c, cs2, rfl, h1, h2, h3⟩
  · exact .inl h
  · exact .inr ⟨g2, o, c, cs2, rfl, h1, h2.below hb h2.lt, h3⟩

end Go.Proofs.Ytlgdjmmhdfpfeaa
