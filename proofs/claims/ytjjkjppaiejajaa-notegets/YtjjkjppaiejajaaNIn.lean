/-
  Notes that came in, as the contracts want them.
-/
import Derived.Test.YtjjkjppaiejajaaNVal
import Derived.Test.YtjjkjppaiejajaaArgs
import Derived.Deep.Slices
import Derived.Deep.Fields
import Derived.ChangeSame
import Derived.ProofKit
import Derived.OpenShut
namespace Go.Proofs.Ytjjkjppaiejajaa
open Go.RowKit Go.ChangeShapes Go.WideShapes

/-- A slice of bytes that came in. -/
def InBytes (w : World) (a : Option Addr) (len cap : Nat) (l : List Nat) : Prop := Bys w a len l ∧ len ≤ cap ∧ cap ≤ maxLen ∧ (a = none → cap = 0)
theorem InBytes.below {w w' : World} {a : Option Addr} {len cap : Nat} {l : List Nat} (h : InBytes w a len cap l) (hb : Below w.heap.size w w') : InBytes w' a len cap l := ⟨h.1.below hb, h.2⟩


section
variable {H : Type} {enc : TypeId × Value → H} {w : World}

theorem in_bytes {fuel : Nat} {c : Value} {x : DataW H × List MemPlace} (h : DataW.trod enc Try.prog w 0 (fun _ => true) true fuel 24 [c] = some x) : ∃ a len cap l, c = .slice a len cap ∧ InBytes w a len cap l := by
  rcases open_ints Try.underlying24 Try.underlying5 (by kernel_rfl) h with ⟨hcs, _⟩ | ⟨x, l, c', zs, hcs, _, hl, hm, hz, _, hcell, hwz⟩
  · simp only [List.cons.injEq, and_true] at hcs
    obtain ⟨q, hq⟩ := IsRow.bys (w := w) (zs := []) (.inl ⟨rfl, rfl, rfl, rfl⟩)
    exact ⟨_, _, _, q, hcs, hq⟩
  · simp only [List.cons.injEq, and_true] at hcs
    obtain ⟨q, hq⟩ := IsRow.bys (w := w) (a := some x) (len := l) (cap := c') (zs := zs) (.inr ⟨_, rfl, hl, hm, by simpa using hz, hcell, hwz⟩)
    exact ⟨_, _, _, q, hcs, hq⟩
theorem in_u64 {fuel : Nat} {c : Value} {x : DataW H × List MemPlace} (h : DataW.trod enc Try.prog w 0 (fun _ => true) true fuel 23 [c] = some x) : ∃ n : Nat, c = .int .u64 (n : Nat) ∧ n < 18446744073709551616 := by
  obtain ⟨z, h1, _, h2⟩ := DataW.trod_int Try.underlying23 h
  simp only [List.cons.injEq, and_true] at h1
  have := bounds_u64 h2
  exact ⟨z.toNat, by rw [h1, Int.toNat_of_nonneg this.1], by omega⟩
theorem in_u32 {fuel : Nat} {c : Value} {x : DataW H × List MemPlace} (h : DataW.trod enc Try.prog w 0 (fun _ => true) true fuel 22 [c] = some x) : ∃ n : Nat, c = .int .u32 (n : Nat) ∧ n < 4294967296 := by
  obtain ⟨z, h1, _, h2⟩ := DataW.trod_int Try.underlying22 h
  simp only [List.cons.injEq, and_true] at h1
  have := bounds_u32 h2
  exact ⟨z.toNat, by rw [h1, Int.toNat_of_nonneg this.1], by omega⟩
theorem in_i64 {fuel : Nat} {c : Value} {x : DataW H × List MemPlace} (h : DataW.trod enc Try.prog w 0 (fun _ => true) true fuel 3 [c] = some x) : ∃ z : Int, c = .int .i64 z := by
  obtain ⟨z, h1, _, _⟩ := DataW.trod_int Try.underlying3 h
  simp only [List.cons.injEq, and_true] at h1
  exact ⟨z, h1⟩
theorem in_bool {fuel : Nat} {c : Value} {x : DataW H × List MemPlace} (h : DataW.trod enc Try.prog w 0 (fun _ => true) true fuel 4 [c] = some x) : ∃ b : Bool, c = .bool b := by
  obtain ⟨b, h1, _⟩ := DataW.trod_bool Try.underlying4 h
  simp only [List.cons.injEq, and_true] at h1
  exact ⟨b, h1⟩

set_option maxRecDepth 100000 in
/-- A note's cells, one by one. -/
theorem in_cells {fuel : Nat} {cs : List Value} {x : DataW H × List MemPlace} (h : DataW.trod enc Try.prog w 0 (fun _ => true) true fuel 26 cs = some x) :
    ∃ e A1 A2 c1 c2, cs = (evs e (.slice A1 e.key.length c1) (.slice A2 e.data.length c2)).toList ∧ EntV w e A1 A2 c1 c2 := by
  have k3 : Try.prog.cellsOf 3 = 1 := by kernel_rfl
  have k4 : Try.prog.cellsOf 4 = 1 := by kernel_rfl
  have k22 : Try.prog.cellsOf 22 = 1 := by kernel_rfl
  have k23 : Try.prog.cellsOf 23 = 1 := by kernel_rfl
  have k24 : Try.prog.cellsOf 24 = 1 := by kernel_rfl
  have k26 : Try.prog.cellsOf 26 = 11 := by kernel_rfl
  obtain ⟨xs, n, _, _, hlen, hxl, hg⟩ := DataW.trod_struct Try.underlying26 h
  rw [k26] at hlen
  match cs, hlen, xs, hxl with
  | [c0, c1, c2, c3, c4, c5, c6, c7, c8, c9, c10], _, [y0, y1, y2, y3, y4, y5, y6, y7, y8, y9, y10], _ =>
    have t0 : DataW.trod enc Try.prog w 0 (fun _ => true) true n 3 [c0] = some y0 := by
      have := hg 0 _ rfl
      change DataW.trod enc Try.prog w 0 (fun _ => true) true n 3 (([c0, c1, c2, c3, c4, c5, c6, c7, c8, c9, c10].drop 0).take (Try.prog.cellsOf 3)) = some y0 at this
      rw [k3] at this
      exact this
    have t1 : DataW.trod enc Try.prog w 0 (fun _ => true) true n 22 [c1] = some y1 := by
      have := hg 1 _ rfl
      change DataW.trod enc Try.prog w 0 (fun _ => true) true n 22 (([c0, c1, c2, c3, c4, c5, c6, c7, c8, c9, c10].drop 1).take (Try.prog.cellsOf 22)) = some y1 at this
      rw [k22] at this
      exact this
    have t2 : DataW.trod enc Try.prog w 0 (fun _ => true) true n 22 [c2] = some y2 := by
      have := hg 2 _ rfl
      change DataW.trod enc Try.prog w 0 (fun _ => true) true n 22 (([c0, c1, c2, c3, c4, c5, c6, c7, c8, c9, c10].drop 2).take (Try.prog.cellsOf 22)) = some y2 at this
      rw [k22] at this
      exact this
    have t3 : DataW.trod enc Try.prog w 0 (fun _ => true) true n 23 [c3] = some y3 := by
      have := hg 3 _ rfl
      change DataW.trod enc Try.prog w 0 (fun _ => true) true n 23 (([c0, c1, c2, c3, c4, c5, c6, c7, c8, c9, c10].drop 3).take (Try.prog.cellsOf 23)) = some y3 at this
      rw [k23] at this
      exact this
    have t4 : DataW.trod enc Try.prog w 0 (fun _ => true) true n 23 [c4] = some y4 := by
      have := hg 4 _ rfl
      change DataW.trod enc Try.prog w 0 (fun _ => true) true n 23 (([c0, c1, c2, c3, c4, c5, c6, c7, c8, c9, c10].drop 4).take (Try.prog.cellsOf 23)) = some y4 at this
      rw [k23] at this
      exact this
    have t5 : DataW.trod enc Try.prog w 0 (fun _ => true) true n 22 [c5] = some y5 := by
      have := hg 5 _ rfl
      change DataW.trod enc Try.prog w 0 (fun _ => true) true n 22 (([c0, c1, c2, c3, c4, c5, c6, c7, c8, c9, c10].drop 5).take (Try.prog.cellsOf 22)) = some y5 at this
      rw [k22] at this
      exact this
    have t6 : DataW.trod enc Try.prog w 0 (fun _ => true) true n 3 [c6] = some y6 := by
      have := hg 6 _ rfl
      change DataW.trod enc Try.prog w 0 (fun _ => true) true n 3 (([c0, c1, c2, c3, c4, c5, c6, c7, c8, c9, c10].drop 6).take (Try.prog.cellsOf 3)) = some y6 at this
      rw [k3] at this
      exact this
    have t7 : DataW.trod enc Try.prog w 0 (fun _ => true) true n 4 [c7] = some y7 := by
      have := hg 7 _ rfl
      change DataW.trod enc Try.prog w 0 (fun _ => true) true n 4 (([c0, c1, c2, c3, c4, c5, c6, c7, c8, c9, c10].drop 7).take (Try.prog.cellsOf 4)) = some y7 at this
      rw [k4] at this
      exact this
    have t8 : DataW.trod enc Try.prog w 0 (fun _ => true) true n 3 [c8] = some y8 := by
      have := hg 8 _ rfl
      change DataW.trod enc Try.prog w 0 (fun _ => true) true n 3 (([c0, c1, c2, c3, c4, c5, c6, c7, c8, c9, c10].drop 8).take (Try.prog.cellsOf 3)) = some y8 at this
      rw [k3] at this
      exact this
    have t9 : DataW.trod enc Try.prog w 0 (fun _ => true) true n 24 [c9] = some y9 := by
      have := hg 9 _ rfl
      change DataW.trod enc Try.prog w 0 (fun _ => true) true n 24 (([c0, c1, c2, c3, c4, c5, c6, c7, c8, c9, c10].drop 9).take (Try.prog.cellsOf 24)) = some y9 at this
      rw [k24] at this
      exact this
    have t10 : DataW.trod enc Try.prog w 0 (fun _ => true) true n 24 [c10] = some y10 := by
      have := hg 10 _ rfl
      change DataW.trod enc Try.prog w 0 (fun _ => true) true n 24 (([c0, c1, c2, c3, c4, c5, c6, c7, c8, c9, c10].drop 10).take (Try.prog.cellsOf 24)) = some y10 at this
      rw [k24] at this
      exact this
    obtain ⟨z0, rfl⟩ := in_i64 t0
    obtain ⟨z1, rfl, b1⟩ := in_u32 t1
    obtain ⟨z2, rfl, b2⟩ := in_u32 t2
    obtain ⟨z3, rfl, b3⟩ := in_u64 t3
    obtain ⟨z4, rfl, b4⟩ := in_u64 t4
    obtain ⟨z5, rfl, b5⟩ := in_u32 t5
    obtain ⟨z6, rfl⟩ := in_i64 t6
    obtain ⟨z7, rfl⟩ := in_bool t7
    obtain ⟨z8, rfl⟩ := in_i64 t8
    obtain ⟨A1, n1, c1, l1, rfl, h1, h2, h3, h4⟩ := in_bytes t9
    obtain ⟨A2, n2, c2, l2, rfl, g1, g2, g3, g4⟩ := in_bytes t10
    have e1 := h1.1
    have e2 := g1.1
    subst e1 e2
    exact ⟨⟨z0, z1, z2, z3, z4, z5, z6, z7, z8, l1, l2⟩, A1, A2, c1, c2, rfl, h1, h2, h3, h4, g1, g2, g3, g4, b1, b2, b3, b4, b5, h1.2.1, g1.2.1⟩

/-- A note that came in. -/
theorem in_entry {r : Reach} {b0 : Nat} {v : Value} {d : DataW H} {p : List MemPlace} (hv : Value.okWide Try.prog w r b0 26 v) (h : DataW.Trod enc Try.prog w 0 (fun _ => true) true 26 v d p) :
    ∃ e A1 A2 c1 c2, v = .agg (evs e (.slice A1 e.key.length c1) (.slice A2 e.data.length c2)) ∧ EntV w e A1 A2 c1 c2 := by
  obtain ⟨cs, rfl, _⟩ := okWide_struct Try.underlying26 hv
  obtain ⟨fuel, hf⟩ := h
  obtain ⟨e, A1, A2, c1, c2, h1, h2⟩ := in_cells hf
  refine ⟨e, A1, A2, c1, c2, ?_, h2⟩
  congr 1
  apply Array.toList_inj.1
  simpa [Value.cells] using h1

end

end Go.Proofs.Ytjjkjppaiejajaa
