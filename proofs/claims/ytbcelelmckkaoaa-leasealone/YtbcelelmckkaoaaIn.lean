/-
  Leases that came in, as the contracts want them.
-/
import Derived.Test.YtbcelelmckkaoaaBase
import Derived.Deep.Slices
import Derived.Deep.Fields
import Derived.ChangeSame
import Derived.ProofKit
import Derived.OpenShut
namespace Go.Proofs.Ytbcelelmckkaoaa
open Go.RowKit Go.ChangeShapes Go.WideShapes

theorem nat_u64 {z : Int} (h : (Lit.int .u64 z).wf = true) : ∃ n : Nat, z = (n : Int) ∧ n < 18446744073709551616 := by
  have := bounds_u64 h
  exact ⟨z.toNat, by omega, by omega⟩
theorem nat_u32 {z : Int} (h : (Lit.int .u32 z).wf = true) : ∃ n : Nat, z = (n : Int) ∧ n < 4294967296 := by
  have := bounds_u32 h
  exact ⟨z.toNat, by omega, by omega⟩
theorem int_i64 {z : Int} (h : (Lit.int .i64 z).wf = true) : -9223372036854775808 ≤ z ∧ z < 9223372036854775808 := by
  have := bounds_i64 h
  omega

section
variable {H : Type} {enc : TypeId × Value → H} {w : World}

theorem in_u64 {fuel : Nat} {c : Value} {x : DataW H × List MemPlace} (h : DataW.trod enc Try.prog w 0 (fun _ => true) true fuel 23 [c] = some x) : ∃ n : Nat, c = .int .u64 (n : Nat) ∧ n < 18446744073709551616 := by
  obtain ⟨z, h1, _, h2⟩ := DataW.trod_int Try.underlying23 h
  simp only [List.cons.injEq, and_true] at h1
  have := bounds_u64 h2
  exact ⟨z.toNat, by rw [h1, Int.toNat_of_nonneg this.1], by omega⟩
theorem in_u32 {fuel : Nat} {c : Value} {x : DataW H × List MemPlace} (h : DataW.trod enc Try.prog w 0 (fun _ => true) true fuel 22 [c] = some x) : ∃ n : Nat, c = .int .u32 (n : Nat) ∧ n < 4294967296 := by
  obtain ⟨z, h1, _, h2⟩ := DataW.trod_int Try.underlying22 h
  simp only [List.cons.injEq, and_true] at h1
  have := bounds_u32 h2
  exact ⟨z.toNat, by rw [h1, Int.toNat_of_nonneg this.1], by omega⟩
theorem in_i64 {fuel : Nat} {c : Value} {x : DataW H × List MemPlace} (h : DataW.trod enc Try.prog w 0 (fun _ => true) true fuel 3 [c] = some x) : ∃ z : Int, c = .int .i64 z ∧ -9223372036854775808 ≤ z ∧ z < 9223372036854775808 := by
  obtain ⟨z, h1, _, h2⟩ := DataW.trod_int Try.underlying3 h
  simp only [List.cons.injEq, and_true] at h1
  exact ⟨z, h1, int_i64 h2⟩

set_option maxRecDepth 100000 in
/-- A lease's cells, one by one. -/
theorem in_cells {fuel : Nat} {cs : List Value} {x : DataW H × List MemPlace} (h : DataW.trod enc Try.prog w 0 (fun _ => true) true fuel 25 cs = some x) :
    ∃ (e : Nat) (hd : Int) (u : Nat) (m : Int), cs = [.int .u32 (e : Int), .int .i64 hd, .int .u64 (u : Int), .int .i64 m] ∧ e < 4294967296 ∧ u < 18446744073709551616 := by
  have k22 : Try.prog.cellsOf 22 = 1 := by kernel_rfl
  have k23 : Try.prog.cellsOf 23 = 1 := by kernel_rfl
  have k3 : Try.prog.cellsOf 3 = 1 := by kernel_rfl
  have k25 : Try.prog.cellsOf 25 = 4 := by kernel_rfl
  obtain ⟨xs, n, _, _, hlen, hxl, hg⟩ := DataW.trod_struct Try.underlying25 h
  rw [k25] at hlen
  match cs, hlen, xs, hxl with
  | [c0, c1, c2, c3], _, [y0, y1, y2, y3], _ =>
    have t0 : DataW.trod enc Try.prog w 0 (fun _ => true) true n 22 [c0] = some y0 := by
      have := hg 0 _ rfl
      change DataW.trod enc Try.prog w 0 (fun _ => true) true n 22 (([c0, c1, c2, c3].drop 0).take (Try.prog.cellsOf 22)) = some y0 at this
      rw [k22] at this
      exact this
    have t1 : DataW.trod enc Try.prog w 0 (fun _ => true) true n 3 [c1] = some y1 := by
      have := hg 1 _ rfl
      change DataW.trod enc Try.prog w 0 (fun _ => true) true n 3 (([c0, c1, c2, c3].drop 1).take (Try.prog.cellsOf 3)) = some y1 at this
      rw [k3] at this
      exact this
    have t2 : DataW.trod enc Try.prog w 0 (fun _ => true) true n 23 [c2] = some y2 := by
      have := hg 2 _ rfl
      change DataW.trod enc Try.prog w 0 (fun _ => true) true n 23 (([c0, c1, c2, c3].drop 2).take (Try.prog.cellsOf 23)) = some y2 at this
      rw [k23] at this
      exact this
    have t3 : DataW.trod enc Try.prog w 0 (fun _ => true) true n 3 [c3] = some y3 := by
      have := hg 3 _ rfl
      change DataW.trod enc Try.prog w 0 (fun _ => true) true n 3 (([c0, c1, c2, c3].drop 3).take (Try.prog.cellsOf 3)) = some y3 at this
      rw [k3] at this
      exact this
    obtain ⟨z0, rfl, b0⟩ := in_u32 t0
    obtain ⟨z1, rfl, b1⟩ := in_i64 t1
    obtain ⟨z2, rfl, b2⟩ := in_u64 t2
    obtain ⟨z3, rfl, b3⟩ := in_i64 t3
    exact ⟨z0, z1, z2, z3, rfl, b0, b2⟩

/-- A lease that came in. -/
theorem in_lease {r : Reach} {b0 : Nat} {v : Value} {d : DataW H} {p : List MemPlace} (hv : Value.okWide Try.prog w r b0 25 v) (h : DataW.Trod enc Try.prog w 0 (fun _ => true) true 25 v d p) :
    ∃ (e : Nat) (hd : Int) (u : Nat) (m : Int), v = .agg #[.int .u32 (e : Int), .int .i64 hd, .int .u64 (u : Int), .int .i64 m] ∧ e < 4294967296 ∧ u < 18446744073709551616 := by
  obtain ⟨cs, rfl, _⟩ := okWide_struct Try.underlying25 hv
  obtain ⟨fuel, hf⟩ := h
  obtain ⟨e, hd, u, m, h1, h2⟩ := in_cells hf
  refine ⟨e, hd, u, m, ?_, h2⟩
  congr 1
  apply Array.toList_inj.1
  simpa [Value.cells] using h1
end

end Go.Proofs.Ytbcelelmckkaoaa
