/-
  Starts, and slices of them, that came in, as the contracts want them.
-/
import Derived.Test.YtngnfgnaagbpjaaTab
import Derived.Deep.Slices
import Derived.Deep.Fields
import Derived.ChangeSame
import Derived.ProofKit
import Derived.OpenShut
namespace Go.Proofs.Ytngnfgnaagbpjaa
open Go.RowKit Go.ChangeShapes Go.WideShapes

/-- A slice of starts that came in. -/
def InTab (w : World) (a : Option Addr) (len cap : Nat) (t : Tbl) : Prop := Tab w a len t ∧ len ≤ cap ∧ cap ≤ maxLen ∧ (a = none → cap = 0)

theorem nat_u64 {z : Int} (h : (Lit.int .u64 z).wf = true) : ∃ n : Nat, z = (n : Int) ∧ n < 18446744073709551616 := by
  have := bounds_u64 h
  exact ⟨z.toNat, by omega, by omega⟩
theorem nat_u32 {z : Int} (h : (Lit.int .u32 z).wf = true) : ∃ n : Nat, z = (n : Int) ∧ n < 4294967296 := by
  have := bounds_u32 h
  exact ⟨z.toNat, by omega, by omega⟩

section
variable {H : Type} {enc : TypeId × Value → H} {w : World}

theorem in_u64 {fuel : Nat} {c : Value} {x : DataW H × List MemPlace} (h : DataW.trod enc Try.prog w 0 (fun _ => true) true fuel 23 [c] = some x) : ∃ n : Nat, c = .int .u64 (n : Nat) ∧ n < 18446744073709551616 := by
  obtain ⟨z, h1, _, h2⟩ := DataW.trod_int Try.underlying23 h
  simp only [List.cons.injEq, and_true] at h1
  have := bounds_u64 h2
  exact ⟨z.toNat, by rw [h1, Int.toNat_of_nonneg this.1], by omega⟩
theorem in_u32 {fuel : Nat} {c : Value} {x : DataW H × List MemPlace} (h : DataW.trod enc Try.prog w 0 (fun _ => true) true fuel 24 [c] = some x) : ∃ n : Nat, c = .int .u32 (n : Nat) ∧ n < 4294967296 := by
  obtain ⟨z, h1, _, h2⟩ := DataW.trod_int Try.underlying24 h
  simp only [List.cons.injEq, and_true] at h1
  have := bounds_u32 h2
  exact ⟨z.toNat, by rw [h1, Int.toNat_of_nonneg this.1], by omega⟩

set_option maxRecDepth 100000 in
/-- A start's cells, one by one. -/
theorem in_cells {fuel : Nat} {cs : List Value} {x : DataW H × List MemPlace} (h : DataW.trod enc Try.prog w 0 (fun _ => true) true fuel 37 cs = some x) :
    ∃ e l : Nat, cs = (scs e l).toList ∧ e < 4294967296 ∧ l < 18446744073709551616 := by
  have k24 : Try.prog.cellsOf 24 = 1 := by kernel_rfl
  have k23 : Try.prog.cellsOf 23 = 1 := by kernel_rfl
  have k37 : Try.prog.cellsOf 37 = 2 := by kernel_rfl
  obtain ⟨xs, n, _, _, hlen, hxl, hg⟩ := DataW.trod_struct Try.underlying37 h
  rw [k37] at hlen
  match cs, hlen, xs, hxl with
  | [c0, c1], _, [y0, y1], _ =>
    have t0 : DataW.trod enc Try.prog w 0 (fun _ => true) true n 24 [c0] = some y0 := by
      have := hg 0 _ rfl
      change DataW.trod enc Try.prog w 0 (fun _ => true) true n 24 (([c0, c1].drop 0).take (Try.prog.cellsOf 24)) = some y0 at this
      rw [k24] at this
      exact this
    have t1 : DataW.trod enc Try.prog w 0 (fun _ => true) true n 23 [c1] = some y1 := by
      have := hg 1 _ rfl
      change DataW.trod enc Try.prog w 0 (fun _ => true) true n 23 (([c0, c1].drop 1).take (Try.prog.cellsOf 23)) = some y1 at this
      rw [k23] at this
      exact this
    obtain ⟨z0, rfl, b0⟩ := in_u32 t0
    obtain ⟨z1, rfl, b1⟩ := in_u64 t1
    exact ⟨z0, z1, rfl, b0, b1⟩

/-- A start that came in. -/
theorem in_start {r : Reach} {b0 : Nat} {v : Value} {d : DataW H} {p : List MemPlace} (hv : Value.okWide Try.prog w r b0 37 v) (h : DataW.Trod enc Try.prog w 0 (fun _ => true) true 37 v d p) :
    ∃ e l : Nat, v = .agg (scs e l) ∧ e < 4294967296 ∧ l < 18446744073709551616 := by
  obtain ⟨cs, rfl, _⟩ := okWide_struct Try.underlying37 hv
  obtain ⟨fuel, hf⟩ := h
  obtain ⟨e, l, h1, h2⟩ := in_cells hf
  refine ⟨e, l, ?_, h2⟩
  congr 1
  apply Array.toList_inj.1
  simpa [Value.cells] using h1

theorem ep_map (f : Nat → Nat × Nat) (n i : Nat) (h : i < n) : ep ((List.range n).map f) i = (f i).1 := by
  unfold ep; simp [List.getD, h]
theorem ls_map (f : Nat → Nat × Nat) (n i : Nat) (h : i < n) : ls ((List.range n).map f) i = (f i).2 := by
  unfold ls; simp [List.getD, h]

set_option maxRecDepth 100000 in
/-- A slice of starts that came in. -/
theorem in_tab {a : Option Addr} {len cap : Nat} {d : DataW H} {p : List MemPlace} (h : DataW.Trod enc Try.prog w 0 (fun _ => true) true 22 (.slice a len cap) d p) :
    ∃ t, InTab w a len cap t := by
  have k37 : Try.prog.cellsOf 37 = 2 := by kernel_rfl
  obtain ⟨fuel, hf⟩ := h
  rcases Deep.open_slice Try.underlying22 hf with ⟨hcs, _⟩ | ⟨x, l, c, m, n, D, Pl, hcs, _, hl, hm, hmm, _, hi⟩
  · simp [Value.cells] at hcs
    obtain ⟨rfl, rfl, rfl⟩ := hcs
    exact ⟨[], Tab.none_ w, Nat.le_refl _, by unfold maxLen; omega, fun _ => rfl⟩
  · simp [Value.cells] at hcs
    obtain ⟨rfl, rfl, rfl⟩ := hcs
    have hm2 : m = cap := by rw [hmm]; rfl
    subst hm2
    have each : ∀ i, i < len → ∃ s : Nat × Nat, (s.1 < 4294967296 ∧ s.2 < 18446744073709551616) ∧ ∀ j v, (scs s.1 s.2).toList[j]? = some v → w.cell? (x.add (i * 2 + j)) = some v := fun i hi2 => by
      obtain ⟨cs', hc, ht⟩ := hi i (by omega)
      rw [k37] at hc
      obtain ⟨e, l, h1, h2⟩ := in_cells ht
      obtain ⟨_, hcl, hat⟩ := World.cells?_some hc
      refine ⟨(e, l), h2, fun j v hj => ?_⟩
      rw [← h1] at hj
      have hjl : j < 2 := by have := (List.getElem?_eq_some_iff.1 hj).1; omega
      rw [← Go.Deep.add_add, hat j hjl, hj]
    obtain ⟨f, hf2⟩ := Deep.choose_lt each
    refine ⟨(List.range len).map f, ⟨by simp, fun i => ?_, fun h0 => ?_⟩, hl, hm, fun h => by cases h⟩
    · by_cases hi2 : i < len
      · rw [ep_map f len i hi2, ls_map f len i hi2]; exact (hf2 i hi2).1
      · unfold ep ls; simp [List.getD, List.getElem?_eq_none (show ((List.range len).map f).length ≤ i by simp; omega)]
    · obtain ⟨b, off, spot⟩ := x
      have hspot : spot = none := by
        obtain ⟨_, hc⟩ := hf2 0 h0
        have := hc 0 _ rfl
        simpa [Addr.add] using World.cell?_spot this
      subst hspot
      refine ⟨b, off, rfl, fun i hi2 => ?_⟩
      obtain ⟨_, hc⟩ := hf2 i hi2
      rw [ep_map f len i hi2, ls_map f len i hi2]
      have c0 := hc 0 _ rfl
      have c1 := hc 1 _ rfl
      rw [add_off] at c0 c1
      exact ⟨c0, c1⟩
end

end Go.Proofs.Ytngnfgnaagbpjaa
