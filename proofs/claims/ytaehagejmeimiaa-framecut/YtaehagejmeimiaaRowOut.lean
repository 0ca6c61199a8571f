/-
  What 'row' returns, written out.
-/
import Derived.Test.YtaehagejmeimiaaRowFn
namespace Go.Proofs.Ytaehagejmeimiaa
open Go.RowKit

theorem AllRead.small {w : World} {vs : List Value} {ls : List (List Nat)} (h : AllRead w vs ls) : ∀ x ∈ ls, ∀ c ∈ x, c < 256 := by
  intro x hx
  obtain ⟨i, hi, rfl⟩ := List.mem_iff_getElem.1 hx
  obtain ⟨A, c, _, hb, _⟩ := h.2 i (by rw [h.1]; exact hi) hi
  exact hb.2.1

/-- The bytes, the bodies and the ends. -/
structure RowOut (w w' : World) (Ab : Option Addr) (L cb : Nat) (Ag : Option Addr) (n cg : Nat) (Ae : Option Addr) (ce : Nat) (gvs : List Value) (good : List (List Nat)) : Prop where
  len : (Frm.row good).length = L
  cnt : good.length = n
  own : Own w' w.heap.size (.slice Ab L cb) (Frm.row good)
  cells : Cells w' Ag n gvs
  reads : AllRead w' gvs good
  ends : Nums w' Ae n (endsOf good)
  short : Frm.Short good
  small : ∀ x ∈ good, ∀ c ∈ x, c < 256
  lenB : L ≤ 8008
  cntB : 8 * n ≤ L
  capB : L ≤ cb ∧ cb ≤ maxLen ∧ (Ab = none → cb = 0)
  capG : n ≤ cg ∧ cg ≤ maxLen ∧ (Ag = none → cg = 0)
  capE : n ≤ ce ∧ ce ≤ maxLen
  bel : Below w.heap.size w w'
  rowG : LRow w' w.heap.size (.slice Ag n cg) gvs
  rowE : IRow w' w.heap.size (.slice Ae n ce) (endsOf good)
  reads0 : AllRead w gvs good

def RowPost' (w : World) (e : Ending) (w' : World) : Prop :=
  ∃ Ab L cb Ag n cg Ae ce gvs good, e = .returned (.tuple #[.slice Ab L cb, .slice Ag n cg, .slice Ae n ce]) ∧ RowOut w w' Ab L cb Ag n cg Ae ce gvs good

theorem row_out (a : Option Addr) (n cap : Nat) (ls : List (List Nat)) (w : World) (hI : InLists w a n cap ls) : Calls Try.prog 25 #[.slice a n cap] w (RowPost' w) := by
  refine (row_any a n cap ls w hI).mono ?_
  rintro e w' ⟨vb, vg, ve, gvs, good, rfl, hO, hL, hA, hIr, hS, hlen, hb⟩
  obtain ⟨Ab, cb, rfl, _, h1, h2, h3⟩ := hO.slice
  obtain ⟨Ag, cg, rfl, hC, g1, g2, g3⟩ := hL.slice
  obtain ⟨Ae, ce, rfl, hN, e1, e2⟩ := hIr.slice
  have hgl := hA.1
  have hel := endsOf_len good
  rw [hgl] at hC g1 hL ⊢
  rw [hel] at hN e1 hIr ⊢
  exact ⟨Ab, _, cb, Ag, _, cg, Ae, ce, gvs, good, rfl, rfl, rfl, hO, hC, hA.below hb, hN, hS, hA.small, hlen, row_count good, ⟨h1, h2, h3⟩, ⟨g1, g2, g3⟩, ⟨e1, e2⟩, hb, hL, hIr, hA⟩

theorem RowOut.bys {w w' : World} {Ab : Option Addr} {L cb : Nat} {Ag : Option Addr} {n cg : Nat} {Ae : Option Addr} {ce : Nat} {gvs : List Value} {good : List (List Nat)} (h : RowOut w w' Ab L cb Ag n cg Ae ce gvs good) : Bys w' Ab L (Frm.row good) := h.own.bys.1

theorem row_take (ls : List (List Nat)) (k : Nat) (h : k < ls.length) : Frm.row (ls.take (k + 1)) = Frm.row (ls.take k) ++ Frm.frm ls[k] := by
  rw [List.take_succ_eq_append_getElem h, Frm.row_snoc]
theorem row_take_len (ls : List (List Nat)) (k : Nat) (h : k < ls.length) : (Frm.row (ls.take (k + 1))).length = (Frm.row (ls.take k)).length + 8 + (ls[k]).length := by
  rw [row_take ls k h, List.length_append, Frm.frm_len]; omega
theorem row_take_le (ls : List (List Nat)) (k : Nat) : (Frm.row (ls.take k)).length ≤ (Frm.row ls).length := by
  have : Frm.row ls = Frm.row (ls.take k) ++ Frm.row (ls.drop k) := by rw [← Frm.row_append, List.take_append_drop]
  rw [this, List.length_append]; omega

end Go.Proofs.Ytaehagejmeimiaa
