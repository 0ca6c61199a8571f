/-
  What the document's Get holds on to in memory while it reads kept steps.
-/
import Derived.Test.YtfcfejmammohpaaGetF
import Derived.Test.YtfcfejmammohpaaRPutF
import Derived.Test.YtfcfejmammohpaaRfRd
namespace Go.Proofs.Ytfcfejmammohpaa
open Go.RowKit
set_option maxRecDepth 100000
set_option linter.unusedVariables false
set_option linter.unusedSimpArgs false

def fpos : Nat → Bool := fun n => decide (0 < n)
theorem Bys.sameB {w w' : World} {A : Option Addr} {n : Nat} {l : List Nat} (h : Bys w A n l) (hs : ∀ ad, A = some ad → w'.heap[ad.block]? = w.heap[ad.block]?) : Bys w' A n l := by
  obtain ⟨h1, h2, h3⟩ := h
  refine ⟨h1, h2, fun h0 => ?_⟩
  obtain ⟨b, off, e, hc⟩ := h3 h0
  refine ⟨b, off, e, fun i hi => ?_⟩
  rw [← hc i hi]
  unfold World.cell?
  rw [hs _ e]
/-- A text in a block below m that is not the row's. -/
def TxM (w : World) (B m : Nat) (row v : Value) (l : List Nat) : Prop :=
  ∃ A c, v = .slice A l.length c ∧ Bys w A l.length l ∧ l.length ≤ c ∧ c ≤ maxLen ∧ (A = none → c = 0) ∧ ∀ ad, A = some ad → B ≤ ad.block ∧ ad.block < m ∧ row.ownBlock ≠ some ad.block
theorem TxM.reads {w : World} {B m : Nat} {row v : Value} {l : List Nat} (h : TxM w B m row v l) : Reads w v l := by
  obtain ⟨A, c, h1, h2, h3, h4, h5, _⟩ := h
  exact ⟨A, c, h1, h2, h3, h4, h5⟩
theorem TxM.same {w w' : World} {B m m' : Nat} {row row' v : Value} {l : List Nat} (h : TxM w B m row v l) (hs : ∀ k, B ≤ k → k < m → row.ownBlock ≠ some k → w'.heap[k]? = w.heap[k]? ∧ row'.ownBlock ≠ some k) (hm : m ≤ m') : TxM w' B m' row' v l := by
  obtain ⟨A, c, h1, h2, h3, h4, h5, h6⟩ := h
  refine ⟨A, c, h1, h2.sameB (fun ad e => ?_), h3, h4, h5, fun ad e => ?_⟩
  · obtain ⟨q1, q2, q3⟩ := h6 ad e
    exact (hs _ q1 q2 q3).1
  · obtain ⟨q1, q2, q3⟩ := h6 ad e
    exact ⟨q1, Nat.lt_of_lt_of_le q2 hm, (hs _ q1 q2 q3).2⟩
theorem Tx.txM {w : World} {B B' m : Nat} {row v : Value} {l : List Nat} (h : Tx w B' v l) (hB : B ≤ B') (hm : w.heap.size ≤ m) (hr : ∀ k, row.ownBlock = some k → k < B') : TxM w B m row v l := by
  obtain ⟨A, c, h1, h2, h3, h4, h5, h6⟩ := h
  refine ⟨A, c, h1, h2, h3, h4, h5, fun ad e => ?_⟩
  obtain ⟨q1, q2⟩ := h6 ad e
  exact ⟨by omega, by omega, fun e2 => by have := hr _ e2; omega⟩
/-- The memory: the fence's box, the answer's box, the row of kept steps, its texts. -/
structure GM (w0 : World) (p gf gr ep : Nat) (A : Option Addr) (j c m : Nat) (X : Nat → Kx) (w : World) : Prop where
  lf : Lies w gf 25 #[.int .u32 (ep : Int), .slice A j c]
  lr : Lies w gr 25 #[.int .u32 0, .slice none 0 0]
  row : OwnK w (gf + 1) (.slice A j c) j X
  rm : ∀ k, (Value.slice A j c).ownBlock = some k → k < m
  ta : ∀ i, i < j → TxM w (gf + 1) m (.slice A j c) (X i).K (X i).k.a
  tr : ∀ i, i < j → TxM w (gf + 1) m (.slice A j c) (X i).D (X i).k.r
  b : ∀ i, i < j → (X i).k.o < 4294967296 ∧ in64 (X i).k.s ∧ in64 (X i).k.c
  bel : Below gr w0 w
  hs : w0.heap.size = gr
  hp : gr < p
  hf : p < gf
  fm : gf < m
  mw : m ≤ w.heap.size
section
variable {w0 w w' : World} {p gf gr ep j c m : Nat} {A : Option Addr} {X : Nat → Kx}
theorem GM.same (h : GM w0 p gf gr ep A j c m X w) (hs : ∀ k, k < m → k ≠ p → w'.heap[k]? = w.heap[k]?) (hb : Below gr w0 w') (hz : m ≤ w'.heap.size) : GM w0 p gf gr ep A j c m X w' := by
  have hp := h.hp
  have hf := h.hf
  have fm := h.fm
  refine ⟨(hs gf fm (by omega)).trans h.lf, (hs gr (by omega) (by omega)).trans h.lr, h.row.same (fun k hk => hs k (h.rm k hk) (by have := h.row.block k hk; omega)), h.rm, fun i hi => ?_, fun i hi => ?_, h.b, hb, h.hs, hp, hf, fm, hz⟩
  · exact (h.ta i hi).same (fun k h1 h2 h3 => ⟨hs k h2 (by omega), h3⟩) (Nat.le_refl _)
  · exact (h.tr i hi).same (fun k h1 h2 h3 => ⟨hs k h2 (by omega), h3⟩) (Nat.le_refl _)
theorem GM.grown (h : GM w0 p gf gr ep A j c m X w) (hg : w.grownBy w' (some p)) : GM w0 p gf gr ep A j c m X w' :=
  h.same (fun k h1 h2 => hg.block k (Nat.lt_of_lt_of_le h1 h.mw) (fun e => h2 (Option.some.inj e))) (h.bel.grown hg (by have := h.mw; have := h.hp; have := h.hf; have := h.fm; omega) (fun k hk => by have := h.hp; injection hk; omega)) (Nat.le_trans h.mw hg.size)
theorem GM.setq (h : GM w0 p gf gr ep A j c m X w) {g : Nat} (hg : m ≤ g) (o : Nat) (u : Value) : GM w0 p gf gr ep A j c m X (w.setCell ⟨g, o, none⟩ u) :=
  h.same (fun k h1 h2 => heap_setCell_other w ⟨g, o, none⟩ k u (by show k ≠ g; omega)) (h.bel.setCell (p := ⟨g, o, none⟩) (by have := h.hp; have := h.hf; have := h.fm; show gr ≤ g; omega) u) (by rw [size_put]; exact h.mw)
theorem GM.alloc (h : GM w0 p gf gr ep A j c m X w) (o : Obj) : GM w0 p gf gr ep A j c m X (w.alloc o) :=
  h.same (fun k h1 h2 => Below.heap_alloc w o k (Nat.lt_of_lt_of_le h1 h.mw)) (h.bel.alloc (by have := h.mw; have := h.hp; have := h.hf; have := h.fm; omega) o) (Nat.le_trans h.mw (by simp))
theorem GM.up (h : GM w0 p gf gr ep A j c m X w) : GM w0 p gf gr ep A j c w.heap.size X w := by
  have hm := h.mw
  refine ⟨h.lf, h.lr, h.row, fun k hk => Nat.lt_of_lt_of_le (h.rm k hk) hm, fun i hi => ?_, fun i hi => ?_, h.b, h.bel, h.hs, h.hp, h.hf, Nat.lt_of_lt_of_le h.fm hm, Nat.le_refl _⟩
  · exact (h.ta i hi).same (fun k h1 h2 h3 => ⟨rfl, h3⟩) hm
  · exact (h.tr i hi).same (fun k h1 h2 h3 => ⟨rfl, h3⟩) hm
theorem GM.fv {T : Nat → Kp} (h : GM w0 p gf gr ep A j c m X w) (e : ∀ i, i < j → (X i).k = T i) : FV w A j c T := by
  obtain ⟨A', c', hv, h1, h2, h3, _⟩ := h.row.slice
  injection hv with z1 z2 z3
  subst z1 z3
  exact ⟨h1, h2, h3, X, h.row.ks (fun i hi => ⟨(h.ta i hi).reads, (h.tr i hi).reads, (h.b i hi).1, (h.b i hi).2.1, (h.b i hi).2.2⟩), e⟩
/-- One more, and its row stored. -/
theorem GM.snoc {y : Kx} {A' : Option Addr} {c' : Nat} {o : Obj} {w9 : World} (h : GM w0 p gf gr ep A j c m X w) (hya : TxM w (gf + 1) w.heap.size (.slice A j c) y.K y.k.a) (hyr : TxM w (gf + 1) w.heap.size (.slice A j c) y.D y.k.r) (hyb : y.k.o < 4294967296 ∧ in64 y.k.s ∧ in64 y.k.c)
    (ho : OwnK w9 (gf + 1) (.slice A' (j + 1) c') (j + 1) (fun i => if i < j then X i else y)) (hg : (w.alloc o).grownBy w9 (Value.slice A j c).ownBlock) (hv : (Value.slice A' (j + 1) c').ownBlock = (Value.slice A j c).ownBlock ∨ (Value.slice A' (j + 1) c').ownBlock = some (w.alloc o).heap.size) :
    GM w0 p gf gr ep A' (j + 1) c' w9.heap.size (fun i => if i < j then X i else y) (w9.setCell ⟨gf, 1, none⟩ (.slice A' (j + 1) c')) := by
  have hm := h.mw
  have hp := h.hp
  have hf := h.hf
  have fm := h.fm
  have hsz : (w.alloc o).heap.size = w.heap.size + 1 := by simp
  have hz9 := hg.size
  rw [hsz] at hz9 hv
  have keep : ∀ k, k < w.heap.size → (Value.slice A j c).ownBlock ≠ some k → k ≠ gf → (w9.setCell ⟨gf, 1, none⟩ (.slice A' (j + 1) c')).heap[k]? = w.heap[k]? := by
    intro k h1 h2 h3
    rw [heap_setCell_other w9 ⟨gf, 1, none⟩ k _ (by show k ≠ gf; exact h3), hg.block k (by omega) (fun e => h2 e.symm), Below.heap_alloc w o k h1]
  have nrow : ∀ k, k < w.heap.size → (Value.slice A j c).ownBlock ≠ some k → (Value.slice A' (j + 1) c').ownBlock ≠ some k := by
    intro k h1 h2 e
    rcases hv with hv | hv
    · exact h2 (hv ▸ e)
    · rw [hv] at e; injection e with e; omega
  have hgfr : ∀ k, k ≤ gf → (Value.slice A j c).ownBlock ≠ some k := fun k hk e => by have := h.row.block k e; omega
  have tm : ∀ {m1 : Nat} {v : Value} {l : List Nat}, m1 ≤ w.heap.size → TxM w (gf + 1) m1 (.slice A j c) v l → TxM (w9.setCell ⟨gf, 1, none⟩ (.slice A' (j + 1) c')) (gf + 1) w9.heap.size (.slice A' (j + 1) c') v l := by
    intro m1 v l hm1 ht
    exact ht.same (fun k h1 h2 h3 => ⟨keep k (by omega) h3 (by omega), nrow k (by omega) h3⟩) (by omega)
  have cs {P : Kx → Prop} (h1 : ∀ i, i < j → P (X i)) (h2 : P y) : ∀ i, i < j + 1 → P ((fun i => if i < j then X i else y) i) := fun i hi => by
    show P (if i < j then X i else y)
    by_cases e : i < j
    · rw [if_pos e]; exact h1 i e
    · rw [if_neg e]; exact h2
  have lf9 : Lies w9 gf 25 #[.int .u32 (ep : Int), .slice A j c] := (h.lf.alloc o).grown hg (fun e => hgfr gf (Nat.le_refl _) e.symm)
  refine ⟨lf9.put 1 _, (keep gr (by omega) (hgfr gr (by omega)) (by omega)).trans h.lr, ho.same (fun k hk => heap_setCell_other w9 ⟨gf, 1, none⟩ k _ (by have := ho.block k hk; show k ≠ gf; omega)), fun k hk => ho.blockLt k hk, cs (P := fun x => TxM _ (gf + 1) w9.heap.size _ x.K x.k.a) (fun i hi => tm hm (h.ta i hi)) (tm (Nat.le_refl _) hya), cs (P := fun x => TxM _ (gf + 1) w9.heap.size _ x.D x.k.r) (fun i hi => tm hm (h.tr i hi)) (tm (Nat.le_refl _) hyr), cs (P := fun x => x.k.o < 4294967296 ∧ in64 x.k.s ∧ in64 x.k.c) h.b hyb, ?_, h.hs, hp, hf, by omega, by rw [size_put]; exact Nat.le_refl _⟩
  exact (((h.bel.alloc (by omega) o).grown hg (by omega) (fun k hk => by have := h.row.block k hk; omega))).setCell (p := ⟨gf, 1, none⟩) (by show gr ≤ gf; omega) _
end
theorem Rf.same {w w' : World} {p : Nat} {s : Ent.St} {l : List Nat} (h : Rf w p s l) (hs : ∀ k, k ≤ p → w'.heap[k]? = w.heap[k]?) : Rf w' p s l := by
  obtain ⟨A, c, hL, hB, h3, h4, h5⟩ := h
  refine ⟨A, c, (hs p (Nat.le_refl _)).trans hL, ?_, h3, h4, h5⟩
  by_cases h0 : 0 < l.length
  · exact hB.sameB (fun ad e => hs _ (by have := h3 h0 ad e; omega))
  · exact ⟨hB.1, hB.2.1, fun h => absurd h h0⟩
/-- The reader behind the append and the store. -/
theorem Rf.snoc {w w9 : World} {p gf : Nat} {s : Ent.St} {l : List Nat} {o : Obj} {r : Option Nat} (h : Rf w p s l) (hpf : p < gf) (hg : (w.alloc o).grownBy w9 r) (hr : ∀ k, r = some k → gf < k) (u : Value) : Rf (w9.setCell ⟨gf, 1, none⟩ u) p s l := by
  have hlt := h.lt
  refine h.same (fun k hk => ?_)
  rw [heap_setCell_other w9 ⟨gf, 1, none⟩ k u (by show k ≠ gf; omega), hg.block k (by simp; omega) (fun e => by have := hr k e.symm; omega), Below.heap_alloc w o k (by omega)]

end Go.Proofs.Ytfcfejmammohpaa
