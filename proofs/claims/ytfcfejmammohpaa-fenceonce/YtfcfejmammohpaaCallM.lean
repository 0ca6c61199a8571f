/-
  The memory of what the calls keep: a fence, what was done, told and undone.
-/
import Derived.Test.YtfcfejmammohpaaInvP
import Derived.Test.YtfcfejmammohpaaSpoilK
namespace Go.Proofs.Ytfcfejmammohpaa
open Go.RowKit
set_option maxRecDepth 100000
set_option linter.unusedVariables false
set_option linter.unusedSimpArgs false

structure St where
  ep : Nat
  A : Option Addr
  n : Nat
  c : Nat
  Y : Nat → Kx
  Ad : Option Addr
  nd : Nat
  cd : Nat
  D : Nat → Kx
  At : Option Addr
  nt : Nat
  ct : Nat
  U : Nat → Kx
  Ao : Option Addr
  no : Nat
  co : Nat
  O : Nat → Kx
abbrev St.vf (s : St) : Value := .slice s.A s.n s.c
abbrev St.vd (s : St) : Value := .slice s.Ad s.nd s.cd
abbrev St.vt (s : St) : Value := .slice s.At s.nt s.ct
abbrev St.vo (s : St) : Value := .slice s.Ao s.no s.co
abbrev St.cells (s : St) : Array Value := #[.int .u32 (s.ep : Int), .slice s.A s.n s.c, .slice s.Ad s.nd s.cd, .slice s.At s.nt s.ct, .slice s.Ao s.no s.co, .bool false]
abbrev St.inv (s : St) : Prop := Inv s.ep s.n (fun i => (s.Y i).k) s.nd (fun i => (s.D i).k) s.nt (fun i => (s.U i).k) s.no (fun i => (s.O i).k)
def Apart (u v : Value) : Prop := ∀ g, u.ownBlock = some g → v.ownBlock ≠ some g
theorem Apart.symm {u v : Value} (h : Apart u v) : Apart v u := fun g h1 h2 => h g h2 h1
/-- A list of kept steps whose texts lie in blocks of their own. -/
structure KL (w : World) (B : Nat) (v : Value) (n : Nat) (X : Nat → Kx) : Prop where
  row : OwnK w B v n X
  a : ∀ i, i < n → Own w B (X i).K (X i).k.a
  r : ∀ i, i < n → Own w B (X i).D (X i).k.r
  b : ∀ i, i < n → (X i).k.o < 4294967296 ∧ in64 (X i).k.s ∧ in64 (X i).k.c
theorem KL.kt {w : World} {B : Nat} {v : Value} {n : Nat} {X : Nat → Kx} (h : KL w B v n X) : ∀ i, i < n → KT w (X i) := fun i hi => ⟨(h.a i hi).reads, (h.r i hi).reads, (h.b i hi).1, (h.b i hi).2.1, (h.b i hi).2.2⟩
theorem KL.below {w w' : World} {B : Nat} {v : Value} {n : Nat} {X : Nat → Kx} (h : KL w B v n X) (hb : Below w.heap.size w w') : KL w' B v n X :=
  ⟨h.row.belowT hb, fun i hi => (h.a i hi).belowOwn hb, fun i hi => (h.r i hi).belowOwn hb, h.b⟩
theorem KL.nil (w : World) (B : Nat) (X : Nat → Kx) : KL w B (.slice none 0 0) 0 X := ⟨OwnK.nil w B X, fun i hi => (by omega), fun i hi => (by omega), fun i hi => (by omega)⟩
theorem OwnK.grownRow {w w' : World} {B : Nat} {v u : Value} {n : Nat} {X : Nat → Kx} (h : OwnK w B v n X) (hg : w.grownBy w' u.ownBlock) (ha : Apart v u) : OwnK w' B v n X :=
  h.same (fun k hk => hg.block k (h.blockLt k hk) (fun e => ha k hk e.symm))
theorem KL.grownRow {w w' : World} {B B' : Nat} {v u : Value} {n m : Nat} {X Z : Nat → Kx} (h : KL w B v n X) (hr : OwnK w B' u m Z) (hg : w.grownBy w' u.ownBlock) (ha : Apart v u) : KL w' B v n X :=
  ⟨h.row.grownRow hg ha, fun i hi => (h.a i hi).grownK hr hg, fun i hi => (h.r i hi).grownK hr hg, h.b⟩
theorem NF.grownRow {w w' : World} {B B' : Nat} {v u : Value} {n m : Nat} {X Z : Nat → Kx} (h : NF w B v n X) (hr : OwnK w B' u m Z) (hg : w.grownBy w' u.ownBlock) (ha : Apart v u) : NF w' B v n X :=
  ⟨h.row.grownRow hg ha, fun i hi => (h.a i hi).grownK hr hg, fun i hi => (h.r i hi).grownK hr hg, h.b, h.da, h.dr⟩
theorem OwnK.setBox {w : World} {B g : Nat} {v : Value} {n : Nat} {X : Nat → Kx} (h : OwnK w B v n X) (hg : g < B) (o : Nat) (u : Value) : OwnK (w.setCell ⟨g, o, none⟩ u) B v n X :=
  h.same (fun k hk => heap_setCell_other w ⟨g, o, none⟩ k u (by have := h.block k hk; show k ≠ g; omega))
theorem KL.setBox {w : World} {B g : Nat} {t : TypeId} {cs : Array Value} {v : Value} {n : Nat} {X : Nat → Kx} (h : KL w B v n X) (hL : Lies w g t cs) (ht : t ≠ 5) (hg : g < B) (o : Nat) (u : Value) : KL (w.setCell ⟨g, o, none⟩ u) B v n X :=
  ⟨h.row.setBox hg o u, fun i hi => (h.a i hi).lies_put hL ht o u, fun i hi => (h.r i hi).lies_put hL ht o u, h.b⟩
theorem NF.setBox {w : World} {B g : Nat} {t : TypeId} {cs : Array Value} {v : Value} {n : Nat} {X : Nat → Kx} (h : NF w B v n X) (hL : Lies w g t cs) (ht : t ≠ 5) (hg : g < B) (o : Nat) (u : Value) : NF (w.setCell ⟨g, o, none⟩ u) B v n X :=
  ⟨h.row.setBox hg o u, fun i hi => (h.a i hi).lies_put hL ht o u, fun i hi => (h.r i hi).lies_put hL ht o u, h.b, h.da, h.dr⟩
/-- The memory. -/
structure SM (w0 : World) (gs : Nat) (s : St) (w : World) : Prop where
  hg : w0.heap.size = gs
  box : Lies w gs 62 s.cells
  f : NF w (gs + 1) s.vf s.n s.Y
  d : OwnK w (gs + 1) s.vd s.nd s.D
  df : ∀ i, i < s.nd → ∃ A m c, (s.D i).K = .slice A m c ∧ (s.D i).D = .slice none 0 0
  t : KL w (gs + 1) s.vt s.nt s.U
  o : KL w (gs + 1) s.vo s.no s.O
  fd : Apart s.vf s.vd
  ft : Apart s.vf s.vt
  fo : Apart s.vf s.vo
  dt : Apart s.vd s.vt
  dO : Apart s.vd s.vo
  tO : Apart s.vt s.vo
  bel : Below gs w0 w
section
variable {w0 w w' : World} {gs : Nat} {s : St}
theorem SM.lt (h : SM w0 gs s w) : gs < w.heap.size := h.box.lt
theorem SM.below (h : SM w0 gs s w) (hb : Below w.heap.size w w') : SM w0 gs s w' :=
  ⟨h.hg, h.box.below hb h.box.lt, h.f.below hb, h.d.belowT hb, h.df, h.t.below hb, h.o.below hb, h.fd, h.ft, h.fo, h.dt, h.dO, h.tO, h.bel.trans (hb.mono (Nat.le_of_lt h.lt))⟩
theorem SM.drew (h : SM w0 gs s w) : SM w0 gs s w.drew := ⟨h.hg, h.box, ⟨h.f.row, h.f.a, h.f.r, h.f.b, h.f.da, h.f.dr⟩, h.d, h.df, ⟨h.t.row, h.t.a, h.t.r, h.t.b⟩, ⟨h.o.row, h.o.a, h.o.r, h.o.b⟩, h.fd, h.ft, h.fo, h.dt, h.dO, h.tO, h.bel.drew⟩
theorem SM.alloc (h : SM w0 gs s w) (o : Obj) : SM w0 gs s (w.alloc o) := h.below (below1 w o)
theorem SM.fv (h : SM w0 gs s w) : FV w s.A s.n s.c (fun i => (s.Y i).k) := by
  obtain ⟨A, c, hv, hf⟩ := h.f.fv (T := fun i => (s.Y i).k) (fun i hi => rfl)
  injection hv with z1 z2 z3
  rw [z1, z3]; exact hf
/-- The new row lies apart. -/
theorem apart_new {u v : Value} {B n gg c m : Nat} {X : Nat → Kx} (hu : OwnK w B u n X) (h : Apart u v) (hb : v.ownBlock = some gg ∨ gg = w.heap.size) : Apart u (.slice (some ⟨gg, 0, none⟩) m c) := fun k hk e => by
  have e' : gg = k := by simpa [Value.ownBlock] using e
  subst e'
  rcases hb with hb | hb
  · exact h _ hk hb
  · have := hu.blockLt _ hk; omega
variable {y : Kx} {gg cap : Nat} {w9 : World}
theorem SM.told (h : SM w0 gs s w) (ya : Own w (gs + 1) y.K y.k.a) (yr : Own w (gs + 1) y.D y.k.r) (yb : y.k.o < 4294967296 ∧ in64 y.k.s ∧ in64 y.k.c)
    (ho : OwnK w9 (gs + 1) (.slice (some ⟨gg, 0, none⟩) (s.nt + 1) cap) (s.nt + 1) (snoc s.nt s.U y)) (hg : w.grownBy w9 s.vt.ownBlock) (hb : s.vt.ownBlock = some gg ∨ gg = w.heap.size) :
    SM w0 gs { s with At := some ⟨gg, 0, none⟩, nt := s.nt + 1, ct := cap, U := snoc s.nt s.U y } (w9.setCell ⟨gs, 3, none⟩ (.slice (some ⟨gg, 0, none⟩) (s.nt + 1) cap)) := by
  have hL : Lies w9 gs 62 s.cells := h.box.grown hg (fun e => by have := h.t.row.block gs e.symm; omega)
  have hx : ∀ i, i < s.nt + 1 → Own w9 (gs + 1) (snoc s.nt s.U y i).K (snoc s.nt s.U y i).k.a ∧ Own w9 (gs + 1) (snoc s.nt s.U y i).D (snoc s.nt s.U y i).k.r ∧ ((snoc s.nt s.U y i).k.o < 4294967296 ∧ in64 (snoc s.nt s.U y i).k.s ∧ in64 (snoc s.nt s.U y i).k.c) := fun i hi => by
    by_cases hin : i < s.nt
    · rw [snoc_lt hin]; exact ⟨(h.t.a i hin).grownK h.t.row hg, (h.t.r i hin).grownK h.t.row hg, h.t.b i hin⟩
    · obtain rfl : i = s.nt := by omega
      rw [snoc_at]; exact ⟨ya.grownK h.t.row hg, yr.grownK h.t.row hg, yb⟩
  refine ⟨h.hg, hL.put 3 _, (h.f.grownRow h.t.row hg h.ft).setBox hL (by decide) (by omega) _ _, (h.d.grownRow hg h.dt).setBox (by omega) _ _, h.df, ⟨ho.setBox (by omega) _ _, fun i hi => (hx i hi).1.lies_put hL (by decide) _ _, fun i hi => (hx i hi).2.1.lies_put hL (by decide) _ _, fun i hi => (hx i hi).2.2⟩, (h.o.grownRow h.t.row hg h.tO.symm).setBox hL (by decide) (by omega) _ _, h.fd, apart_new h.f.row h.ft hb, h.fo, apart_new h.d h.dt hb, h.dO, (apart_new h.o.row h.tO.symm hb).symm, ?_⟩
  exact (h.bel.grown hg (Nat.le_of_lt h.lt) (fun k hk => by have := h.t.row.block k hk; omega)).setCell (p := ⟨gs, 3, none⟩) (Nat.le_refl _) _
theorem SM.over (h : SM w0 gs s w) (ya : Own w (gs + 1) y.K y.k.a) (yr : Own w (gs + 1) y.D y.k.r) (yb : y.k.o < 4294967296 ∧ in64 y.k.s ∧ in64 y.k.c)
    (ho : OwnK w9 (gs + 1) (.slice (some ⟨gg, 0, none⟩) (s.no + 1) cap) (s.no + 1) (snoc s.no s.O y)) (hg : w.grownBy w9 s.vo.ownBlock) (hb : s.vo.ownBlock = some gg ∨ gg = w.heap.size) :
    SM w0 gs { s with Ao := some ⟨gg, 0, none⟩, no := s.no + 1, co := cap, O := snoc s.no s.O y } (w9.setCell ⟨gs, 4, none⟩ (.slice (some ⟨gg, 0, none⟩) (s.no + 1) cap)) := by
  have hL : Lies w9 gs 62 s.cells := h.box.grown hg (fun e => by have := h.o.row.block gs e.symm; omega)
  have hx : ∀ i, i < s.no + 1 → Own w9 (gs + 1) (snoc s.no s.O y i).K (snoc s.no s.O y i).k.a ∧ Own w9 (gs + 1) (snoc s.no s.O y i).D (snoc s.no s.O y i).k.r ∧ ((snoc s.no s.O y i).k.o < 4294967296 ∧ in64 (snoc s.no s.O y i).k.s ∧ in64 (snoc s.no s.O y i).k.c) := fun i hi => by
    by_cases hin : i < s.no
    · rw [snoc_lt hin]; exact ⟨(h.o.a i hin).grownK h.o.row hg, (h.o.r i hin).grownK h.o.row hg, h.o.b i hin⟩
    · obtain rfl : i = s.no := by omega
      rw [snoc_at]; exact ⟨ya.grownK h.o.row hg, yr.grownK h.o.row hg, yb⟩
  refine ⟨h.hg, hL.put 4 _, (h.f.grownRow h.o.row hg h.fo).setBox hL (by decide) (by omega) _ _, (h.d.grownRow hg h.dO).setBox (by omega) _ _, h.df, (h.t.grownRow h.o.row hg h.tO).setBox hL (by decide) (by omega) _ _, ⟨ho.setBox (by omega) _ _, fun i hi => (hx i hi).1.lies_put hL (by decide) _ _, fun i hi => (hx i hi).2.1.lies_put hL (by decide) _ _, fun i hi => (hx i hi).2.2⟩, h.fd, h.ft, apart_new h.f.row h.fo hb, h.dt, apart_new h.d h.dO hb, apart_new h.t.row h.tO hb, ?_⟩
  exact (h.bel.grown hg (Nat.le_of_lt h.lt) (fun k hk => by have := h.o.row.block k hk; omega)).setCell (p := ⟨gs, 4, none⟩) (Nat.le_refl _) _
theorem SM.done (h : SM w0 gs s w) (yf : ∃ A m c, y.K = .slice A m c ∧ y.D = .slice none 0 0)
    (ho : OwnK w9 (gs + 1) (.slice (some ⟨gg, 0, none⟩) (s.nd + 1) cap) (s.nd + 1) (snoc s.nd s.D y)) (hg : w.grownBy w9 s.vd.ownBlock) (hb : s.vd.ownBlock = some gg ∨ gg = w.heap.size) :
    SM w0 gs { s with Ad := some ⟨gg, 0, none⟩, nd := s.nd + 1, cd := cap, D := snoc s.nd s.D y } (w9.setCell ⟨gs, 2, none⟩ (.slice (some ⟨gg, 0, none⟩) (s.nd + 1) cap)) := by
  have hL : Lies w9 gs 62 s.cells := h.box.grown hg (fun e => by have := h.d.block gs e.symm; omega)
  refine ⟨h.hg, hL.put 2 _, (h.f.grownRow h.d hg h.fd).setBox hL (by decide) (by omega) _ _, ho.setBox (by omega) _ _, fun i hi => ?_, (h.t.grownRow h.d hg h.dt.symm).setBox hL (by decide) (by omega) _ _, (h.o.grownRow h.d hg h.dO.symm).setBox hL (by decide) (by omega) _ _, apart_new h.f.row h.fd hb, h.ft, h.fo, (apart_new h.t.row h.dt.symm hb).symm, (apart_new h.o.row h.dO.symm hb).symm, h.tO, ?_⟩
  · show ∃ A m c, (snoc s.nd s.D y i).K = .slice A m c ∧ (snoc s.nd s.D y i).D = .slice none 0 0
    by_cases hin : i < s.nd
    · rw [snoc_lt hin]; exact h.df i hin
    · have hi' : i < s.nd + 1 := hi
      obtain rfl : i = s.nd := by omega
      rw [snoc_at]; exact yf
  · exact (h.bel.grown hg (Nat.le_of_lt h.lt) (fun k hk => by have := h.d.block k hk; omega)).setCell (p := ⟨gs, 2, none⟩) (Nat.le_refl _) _
/-- Another fence. -/
theorem SM.fence {wk : World} {E n' c' : Nat} {A' : Option Addr} {Y' : Nat → Kx} (h : SM w0 gs s w) (hk : SM w0 gs s wk) (hf : NF w wk.heap.size (.slice A' n' c') n' Y') :
    SM w0 gs { s with ep := E, A := A', n := n', c := c', Y := Y' } (put2 w gs (.int .u32 (E : Int)) (.slice A' n' c')) := by
  have hlt := hk.lt
  have h1 : Lies (w.setCell ⟨gs, 0, none⟩ (.int .u32 (E : Int))) gs 62 (s.cells.setIfInBounds 0 (.int .u32 (E : Int))) := h.box.put 0 _
  have ap {v : Value} {B m : Nat} {X : Nat → Kx} (hv : OwnK wk B v m X) : Apart (.slice A' n' c') v := fun g e1 e2 => by have := hf.row.block g e1; have := hv.blockLt g e2; omega
  refine ⟨h.hg, h1.put 1 _, ((hf.mono (by omega)).setBox h.box (by decide) (by omega) 0 (.int .u32 (E : Int))).setBox h1 (by decide) (by omega) 1 _, (h.d.setBox (by omega) 0 (.int .u32 (E : Int))).setBox (by omega) 1 _, h.df, (h.t.setBox h.box (by decide) (by omega) 0 (.int .u32 (E : Int))).setBox h1 (by decide) (by omega) 1 _, (h.o.setBox h.box (by decide) (by omega) 0 (.int .u32 (E : Int))).setBox h1 (by decide) (by omega) 1 _, ap hk.d, ap hk.t.row, ap hk.o.row, h.dt, h.dO, h.tO, ?_⟩
  exact (h.bel.setCell (p := ⟨gs, 0, none⟩) (Nat.le_refl _) (.int .u32 (E : Int))).setCell (p := ⟨gs, 1, none⟩) (Nat.le_refl _) _
end
/-- A cell is written as it was. -/
theorem setCell_same {w : World} {g i : Nat} {t : TypeId} {cs : Array Value} {v : Value} (h : Lies w g t cs) (hv : cs[i]? = some v) : w.setCell ⟨g, i, none⟩ v = w := by
  have h1 : ∀ k, (w.setCell ⟨g, i, none⟩ v).heap[k]? = w.heap[k]? := fun k => by
    by_cases hk : k = g
    · subst hk
      have := h.put i v
      unfold Lies at this h
      rw [this, h]
      have e : cs.setIfInBounds i v = cs := by
        apply Array.ext_getElem?
        intro j
        rw [Array.getElem?_setIfInBounds]
        by_cases hj : i = j
        · subst hj
          have hs : i < cs.size := (Array.getElem?_eq_some_iff.1 hv).1
          rw [if_pos rfl, if_pos hs, hv]
        · rw [if_neg hj]
      rw [e]
    · exact heap_setCell_other w ⟨g, i, none⟩ k v hk
  have h2 : (w.setCell ⟨g, i, none⟩ v).heap = w.heap := Array.ext_getElem? h1
  have h3 : w.setCell ⟨g, i, none⟩ v = { w with heap := (w.setCell ⟨g, i, none⟩ v).heap } := by rfl
  rw [h3, h2]

end Go.Proofs.Ytfcfejmammohpaa
