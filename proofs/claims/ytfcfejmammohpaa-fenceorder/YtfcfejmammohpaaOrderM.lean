/-
  The notes of FenceOrder, in memory.
-/
import Derived.Test.YtfcfejmammohpaaOrderP
import Derived.Test.YtfcfejmammohpaaStep2
import Derived.Test.YtfcfejmammohpaaCallV
namespace Go.Proofs.Ytfcfejmammohpaa
open Go.RowKit
set_option maxRecDepth 100000
set_option linter.unusedVariables false
set_option linter.unusedSimpArgs false

/-- Keep of one more, its note written out. -/
theorem keepo_lit {s : Nat → Int} (hs : ∀ i, 0 ≤ s i ∧ s i < 16) {j : Nat} {φ : Nat → Nat} (hφ : ∀ a b, a < b → b < j → φ a < φ b) {q p : Nat} (hp : p ≤ j) (h1 : ∀ i, i < p → φ i < q) (h2 : ∀ i, p ≤ i → i < j → q < φ i) (ep : Nat) (hep : ep ≤ 1) (hj : j < 200) (ψ : Nat → Nat) (hψ : ∀ i, i < j + 1 → ins p (kO s q) (fun i => kO s (φ i)) i = kO s (ψ i)) (A : Option Addr) (c : Nat) (Q : Option Addr) (qc : Nat) (w : World) (hF : FV w A j c (fun i => kO s (φ i))) (hN : EntV w (stN 1 (1 + q) (s q) false [120]) none Q 0 qc) (oq : Nat) (sq : Int) (ho : 1 + q = oq) (hsq : s q = sq) :
    Calls Try.prog 26 #[.agg #[.int .u32 (ep : Int), .slice A j c], .agg #[.int .i64 7, .int .u32 1, .int .u32 0, .int .u64 0, .int .u64 0, .int .u32 (oq : Int), .int .i64 sq, .bool false, .int .i64 0, .slice none 0 0, .slice Q 1 qc], .int .i64 2, .slice none 0 0] w fun x w' => ∃ A' c' X', x = .returned (.tuple #[.agg #[.int .u32 1, .slice A' (j + 1) c'], .int .i64 0]) ∧ NF w' w.heap.size (.slice A' (j + 1) c') (j + 1) X' ∧ (∀ i, i < j + 1 → (X' i).k = kO s (ψ i)) ∧ Below w.heap.size w w' := by
  subst ho hsq
  exact keepo_any hs hφ hp h1 h2 ep hep hj ψ hψ A c Q qc w hF hN
theorem step16 (st : Int) : 0 ≤ wrap64 ((IntKind.u64.wrap st).tmod 16) ∧ wrap64 ((IntKind.u64.wrap st).tmod 16) < 16 := by
  have h0 : 0 ≤ IntKind.u64.wrap st := by rw [IntKind.wrap_u64]; omega
  rw [Int.tmod_eq_emod_of_nonneg h0]
  generalize IntKind.u64.wrap st = q at *
  unfold wrap64
  omega
theorem swap_lt (sw : Int) (n : Nat) (hn : 0 < n) (h2 : n ≤ 12) : ∃ k : Nat, wrap64 ((IntKind.u64.wrap sw).tmod (n : Int)) = (k : Int) ∧ k < n := by
  have h0 : 0 ≤ IntKind.u64.wrap sw := by rw [IntKind.wrap_u64]; omega
  rw [Int.tmod_eq_emod_of_nonneg h0]
  generalize IntKind.u64.wrap sw = q at *
  have h1 := Int.emod_nonneg q (show (n : Int) ≠ 0 by omega)
  have h3 := Int.emod_lt_of_pos q (show (0 : Int) < (n : Int) by omega)
  refine ⟨(q % (n : Int)).toNat, ?_, by omega⟩
  unfold wrap64
  omega
theorem Bys.grownNe {w w' : World} {b off n : Nat} {l : List Nat} {r : Option Nat} (h : Bys w (some ⟨b, off, none⟩) n l) (hg : w.grownBy w' r) (hne : some b ≠ r) : Bys w' (some ⟨b, off, none⟩) n l := by
  obtain ⟨h1, h2, h3⟩ := h
  refine ⟨h1, h2, fun h0 => ?_⟩
  obtain ⟨b', off', e, hc⟩ := h3 h0
  injection e with e
  injection e with e1 e2 _
  subst e1 e2
  refine ⟨b, off, rfl, fun i hi => ?_⟩
  have h := hc i hi
  have hb := hg.block b (block_lt_of_cell h) hne
  rw [← h]
  unfold World.cell?
  rw [hb]
/-- The notes so far: the row, and their texts. -/
structure NM (w0 : World) (s : Nat → Int) (A : Option Addr) (j c : Nat) (Z : Nat → Nx) (w : World) : Prop where
  row : OwnN w w0.heap.size (.slice A j c) j Z
  o : ∀ i, i < j → (Z i).o = 1 + i ∧ (Z i).s = s i
  t : ∀ i, i < j → ∃ b, (Z i).A = some ⟨b, 0, none⟩ ∧ Bys w (some ⟨b, 0, none⟩) 1 [120] ∧ 1 ≤ (Z i).c ∧ (Z i).c ≤ maxLen ∧ b < w.heap.size ∧ (∀ g, (Value.slice A j c).ownBlock = some g → g ≠ b)
  b : Below w0.heap.size w0 w
theorem NM.below {w0 w w' : World} {s : Nat → Int} {A : Option Addr} {j c : Nat} {Z : Nat → Nx} (h : NM w0 s A j c Z w) (hb : Below w.heap.size w w') : NM w0 s A j c Z w' :=
  ⟨h.row.belowT hb, h.o, fun i hi => by obtain ⟨b, h1, h2, h3, h4, h5, h6⟩ := h.t i hi; exact ⟨b, h1, h2.below hb, h3, h4, Nat.lt_of_lt_of_le h5 hb.size, h6⟩, h.b.trans (hb.mono h.b.size)⟩
theorem NM.ent {w0 w : World} {s : Nat → Int} {A : Option Addr} {j c : Nat} {Z : Nat → Nx} (h : NM w0 s A j c Z w) (hs : ∀ i, 0 ≤ s i ∧ s i < 16) (hj : j ≤ 100) (i : Nat) (hi : i < j) : ∃ b, (Z i).A = some ⟨b, 0, none⟩ ∧ EntV w (stN 1 (1 + i) (s i) false [120]) none (some ⟨b, 0, none⟩) 0 (Z i).c := by
  obtain ⟨b, h1, h2, h3, h4, h5, h6⟩ := h.t i hi
  exact ⟨b, h1, entV_st h2 h3 h4 (fun e => by cases e) (by decide) (by omega) (by have := hs i; unfold in64; omega)⟩
/-- A note more. -/
theorem NM.snoc {w0 w w2 w3 w' : World} {s : Nat → Int} {A : Option Addr} {j c : Nat} {Z : Nat → Nx} {y : Nx} {A' : Option Addr} {c' : Nat} (h : NM w0 s A j c Z w) (hb : Below w.heap.size w w2) (hb3 : Below w2.heap.size w2 w3)
    (hy : y.o = 1 + j ∧ y.s = s j) (hyA : y.A = some ⟨w.heap.size + 1, 0, none⟩) (hyB : Bys w2 (some ⟨w.heap.size + 1, 0, none⟩) 1 [120]) (hyc : 1 ≤ y.c ∧ y.c ≤ maxLen)
    (ho : OwnN w' w0.heap.size (.slice A' (j + 1) c') (j + 1) (fun i => if i = j then y else Z i)) (hg : w3.grownBy w' (Value.slice A j c).ownBlock) (hv : (Value.slice A' (j + 1) c').ownBlock = (Value.slice A j c).ownBlock ∨ (Value.slice A' (j + 1) c').ownBlock = some w3.heap.size) :
    NM w0 s A' (j + 1) c' (fun i => if i = j then y else Z i) w' := by
  have h3 := (h.below hb).below hb3
  have hlt : w.heap.size + 1 < w2.heap.size := by
    obtain ⟨b, off, e, hc⟩ := hyB.2.2 (by decide)
    injection e with e
    injection e with e1 _ _
    subst e1
    exact block_lt_of_cell (hc 0 (by decide))
  have hs3 := hb3.size
  have hs2 := hb.size
  have hge := hg.size
  have hrow : ∀ g, (Value.slice A j c).ownBlock = some g → g < w.heap.size := h.row.blockLt
  refine ⟨ho, fun i hi => ?_, fun i hi => ?_, h3.b.grown hg h3.b.size (fun k hk => h3.row.block k hk)⟩
  · by_cases e : i = j
    · subst e; rw [if_pos rfl]; exact hy
    · rw [if_neg e]; exact h.o i (by omega)
  · by_cases e : i = j
    · subst e
      rw [if_pos rfl]
      refine ⟨w.heap.size + 1, hyA, (hyB.below hb3).grownNe hg (fun q => by have := hrow _ q.symm; omega), hyc.1, hyc.2, by omega, fun g hg2 => ?_⟩
      rcases hv with hv | hv
      · rw [hv] at hg2; have := hrow g hg2; omega
      · rw [hv] at hg2; injection hg2 with hg2; omega
    · rw [if_neg e]
      obtain ⟨b, h1, h2, h4, h5, h6, h7⟩ := h3.t i (by omega)
      have hbw : b < w.heap.size := by
        obtain ⟨b', h1', _, _, _, h6', _⟩ := h.t i (by omega)
        rw [h1] at h1'
        injection h1' with h1'
        injection h1' with h1' _ _
        omega
      refine ⟨b, h1, h2.grownNe hg (fun q => h7 b q.symm rfl), h4, h5, by omega, fun g hg2 => ?_⟩
      rcases hv with hv | hv
      · rw [hv] at hg2; exact h7 g hg2
      · rw [hv] at hg2; injection hg2 with hg2; omega
def OrA (w0 : World) (s : Nat → Int) (m : Nat) (s5 s6 : Value) (wr : World) : Prop := ∃ (j : Nat) (A : Option Addr) (c : Nat) (Z : Nat → Nx), j ≤ m ∧ j ≤ 12 ∧ s6 = .int .i64 (j : Int) ∧ s5 = .slice A j c ∧ NM w0 s A j c Z wr
/-- Two fences. -/
def OrB (x1 : World) (s : Nat → Int) (n k gf gg : Nat) (i : Value) (wr : World) : Prop := ∃ (j ep : Nat) (A : Option Addr) (c : Nat) (Y : Nat → Kx) (A' : Option Addr) (c' : Nat) (Y' : Nat → Kx), j ≤ n ∧ i = .int .i64 (j : Int) ∧ ep ≤ 1 ∧ Lies wr gf 25 #[.int .u32 (ep : Int), .slice A j c] ∧ Lies wr gg 25 #[.int .u32 (ep : Int), .slice A' j c'] ∧ NF wr 0 (.slice A j c) j Y ∧ (∀ q, q < j → (Y q).k = kO s q) ∧ NF wr 0 (.slice A' j c') j Y' ∧ (∀ q, q < j → (Y' q).k = kO s (gi n k j q)) ∧ Below x1.heap.size x1 wr

end Go.Proofs.Ytfcfejmammohpaa
