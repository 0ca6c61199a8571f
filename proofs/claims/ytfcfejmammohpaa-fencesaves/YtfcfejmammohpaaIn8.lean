/-
  Notes that came in, as the contracts want them.
-/
import Derived.Test.YtfcfejmammohpaaNVal
import Derived.Test.YtfcfejmammohpaaLend
import Derived.Test.YtfcfejmammohpaaKRow
import Derived.Deep.Slices
import Derived.Deep.Fields
import Derived.ChangeSame
import Derived.ProofKit
import Derived.OpenShut
namespace Go.Proofs.Ytfcfejmammohpaa
open Go.RowKit Go.ChangeShapes Go.WideShapes
set_option maxRecDepth 100000

/-- A slice of bytes that came in. -/
def InBytes (w : World) (a : Option Addr) (len cap : Nat) (l : List Nat) : Prop := Bys w a len l ∧ len ≤ cap ∧ cap ≤ maxLen ∧ (a = none → cap = 0)
theorem InBytes.below {w w' : World} {a : Option Addr} {len cap : Nat} {l : List Nat} (h : InBytes w a len cap l) (hb : Below w.heap.size w w') : InBytes w' a len cap l := ⟨h.1.below hb, h.2⟩


theorem i64_bnd {z : Int} (h : (Lit.int IntKind.i64 z).wf = true) : in64 z := by
  have := bounds_i64 h
  unfold in64
  omega
section
variable {H : Type} {enc : TypeId × Value → H} {w : World}

theorem in_bytes {fuel : Nat} {c : Value} {x : DataW H × List MemPlace} (h : DataW.trod enc Try.prog w 0 (fun _ => true) true fuel 27 [c] = some x) : ∃ a len cap l, c = .slice a len cap ∧ InBytes w a len cap l := by
  rcases open_ints Try.underlying27 Try.underlying5 (by kernel_rfl) h with ⟨hcs, _⟩ | ⟨x, l, c', zs, hcs, _, hl, hm, hz, _, hcell, hwz⟩
  · simp only [List.cons.injEq, and_true] at hcs
    obtain ⟨q, hq⟩ := IsRow.bys (w := w) (zs := []) (.inl ⟨rfl, rfl, rfl, rfl⟩)
    exact ⟨_, _, _, q, hcs, hq⟩
  · simp only [List.cons.injEq, and_true] at hcs
    obtain ⟨q, hq⟩ := IsRow.bys (w := w) (a := some x) (len := l) (cap := c') (zs := zs) (.inr ⟨_, rfl, hl, hm, by simpa using hz, hcell, hwz⟩)
    exact ⟨_, _, _, q, hcs, hq⟩
theorem in_u64 {fuel : Nat} {c : Value} {x : DataW H × List MemPlace} (h : DataW.trod enc Try.prog w 0 (fun _ => true) true fuel 26 [c] = some x) : ∃ n : Nat, c = .int .u64 (n : Nat) ∧ n < 18446744073709551616 := by
  obtain ⟨z, h1, _, h2⟩ := DataW.trod_int Try.underlying26 h
  simp only [List.cons.injEq, and_true] at h1
  have := bounds_u64 h2
  exact ⟨z.toNat, by rw [h1, Int.toNat_of_nonneg this.1], by omega⟩
theorem in_u32 {fuel : Nat} {c : Value} {x : DataW H × List MemPlace} (h : DataW.trod enc Try.prog w 0 (fun _ => true) true fuel 22 [c] = some x) : ∃ n : Nat, c = .int .u32 (n : Nat) ∧ n < 4294967296 := by
  obtain ⟨z, h1, _, h2⟩ := DataW.trod_int Try.underlying22 h
  simp only [List.cons.injEq, and_true] at h1
  have := bounds_u32 h2
  exact ⟨z.toNat, by rw [h1, Int.toNat_of_nonneg this.1], by omega⟩
theorem in_i64 {fuel : Nat} {c : Value} {x : DataW H × List MemPlace} (h : DataW.trod enc Try.prog w 0 (fun _ => true) true fuel 3 [c] = some x) : ∃ z : Int, c = .int .i64 z ∧ in64 z := by
  obtain ⟨z, h1, _, h2⟩ := DataW.trod_int Try.underlying3 h
  simp only [List.cons.injEq, and_true] at h1
  exact ⟨z, h1, i64_bnd h2⟩
theorem in_bool {fuel : Nat} {c : Value} {x : DataW H × List MemPlace} (h : DataW.trod enc Try.prog w 0 (fun _ => true) true fuel 4 [c] = some x) : ∃ b : Bool, c = .bool b := by
  obtain ⟨b, h1, _⟩ := DataW.trod_bool Try.underlying4 h
  simp only [List.cons.injEq, and_true] at h1
  exact ⟨b, h1⟩

set_option maxRecDepth 100000 in
/-- A note's cells, one by one. -/
theorem in_cells {fuel : Nat} {cs : List Value} {x : DataW H × List MemPlace} (h : DataW.trod enc Try.prog w 0 (fun _ => true) true fuel 29 cs = some x) :
    ∃ e A1 A2 c1 c2, cs = (evs e (.slice A1 e.key.length c1) (.slice A2 e.data.length c2)).toList ∧ EntV w e A1 A2 c1 c2 ∧ in64 e.step ∧ in64 e.code := by
  have k3 : Try.prog.cellsOf 3 = 1 := by kernel_rfl
  have k4 : Try.prog.cellsOf 4 = 1 := by kernel_rfl
  have k22 : Try.prog.cellsOf 22 = 1 := by kernel_rfl
  have k23 : Try.prog.cellsOf 26 = 1 := by kernel_rfl
  have k24 : Try.prog.cellsOf 27 = 1 := by kernel_rfl
  have k26 : Try.prog.cellsOf 29 = 11 := by kernel_rfl
  obtain ⟨xs, n, _, _, hlen, hxl, hg⟩ := DataW.trod_struct Try.underlying29 h
  rw [k26] at hlen
  match cs, hlen, xs, hxl with
  | [c0, c1, c2, c3, c4, c5, c6, c7, c8, c9, c10], _, [y0, y1, y2, y3, y4, y5, y6, y7, y8, y9, y10], _ =>
    have t0 : DataW.trod enc Try.prog w 0 (fun _ => true) true n 3 [c0] = some y0 := by
      have := hg 0 _ rfl
      change DataW.trod enc Try.prog w 0 (fun _ => true) true n 3 (([c0, c1, c2, c3, c4, c5, c6, c7, c8, c9, c10].drop 0).take (Try.prog.cellsOf 3)) = some y0 at this
      rw [k3] at this
      exact this
    have t1 : DataW.trod enc Try.prog w 0 (fun _ => true) true n 22 [c1] = some y1 := by
      have := hg 1 _ rfl
      change DataW.trod enc Try.prog w 0 (fun _ => true) true n 22 (([c0, c1, c2, c3, c4, c5, c6, c7, c8, c9, c10].drop 1).take (Try.prog.cellsOf 22)) = some y1 at this
      rw [k22] at this
      exact this
    have t2 : DataW.trod enc Try.prog w 0 (fun _ => true) true n 22 [c2] = some y2 := by
      have := hg 2 _ rfl
      change DataW.trod enc Try.prog w 0 (fun _ => true) true n 22 (([c0, c1, c2, c3, c4, c5, c6, c7, c8, c9, c10].drop 2).take (Try.prog.cellsOf 22)) = some y2 at this
      rw [k22] at this
      exact this
    have t3 : DataW.trod enc Try.prog w 0 (fun _ => true) true n 26 [c3] = some y3 := by
      have := hg 3 _ rfl
      change DataW.trod enc Try.prog w 0 (fun _ => true) true n 26 (([c0, c1, c2, c3, c4, c5, c6, c7, c8, c9, c10].drop 3).take (Try.prog.cellsOf 26)) = some y3 at this
      rw [k23] at this
      exact this
    have t4 : DataW.trod enc Try.prog w 0 (fun _ => true) true n 26 [c4] = some y4 := by
      have := hg 4 _ rfl
      change DataW.trod enc Try.prog w 0 (fun _ => true) true n 26 (([c0, c1, c2, c3, c4, c5, c6, c7, c8, c9, c10].drop 4).take (Try.prog.cellsOf 26)) = some y4 at this
      rw [k23] at this
      exact this
    have t5 : DataW.trod enc Try.prog w 0 (fun _ => true) true n 22 [c5] = some y5 := by
      have := hg 5 _ rfl
      change DataW.trod enc Try.prog w 0 (fun _ => true) true n 22 (([c0, c1, c2, c3, c4, c5, c6, c7, c8, c9, c10].drop 5).take (Try.prog.cellsOf 22)) = some y5 at this
      rw [k22] at this
      exact this
    have t6 : DataW.trod enc Try.prog w 0 (fun _ => true) true n 3 [c6] = some y6 := by
      have := hg 6 _ rfl
      change DataW.trod enc Try.prog w 0 (fun _ => true) true n 3 (([c0, c1, c2, c3, c4, c5, c6, c7, c8, c9, c10].drop 6).take (Try.prog.cellsOf 3)) = some y6 at this
      rw [k3] at this
      exact this
    have t7 : DataW.trod enc Try.prog w 0 (fun _ => true) true n 4 [c7] = some y7 := by
      have := hg 7 _ rfl
      change DataW.trod enc Try.prog w 0 (fun _ => true) true n 4 (([c0, c1, c2, c3, c4, c5, c6, c7, c8, c9, c10].drop 7).take (Try.prog.cellsOf 4)) = some y7 at this
      rw [k4] at this
      exact this
    have t8 : DataW.trod enc Try.prog w 0 (fun _ => true) true n 3 [c8] = some y8 := by
      have := hg 8 _ rfl
      change DataW.trod enc Try.prog w 0 (fun _ => true) true n 3 (([c0, c1, c2, c3, c4, c5, c6, c7, c8, c9, c10].drop 8).take (Try.prog.cellsOf 3)) = some y8 at this
      rw [k3] at this
      exact this
    have t9 : DataW.trod enc Try.prog w 0 (fun _ => true) true n 27 [c9] = some y9 := by
      have := hg 9 _ rfl
      change DataW.trod enc Try.prog w 0 (fun _ => true) true n 27 (([c0, c1, c2, c3, c4, c5, c6, c7, c8, c9, c10].drop 9).take (Try.prog.cellsOf 27)) = some y9 at this
      rw [k24] at this
      exact this
    have t10 : DataW.trod enc Try.prog w 0 (fun _ => true) true n 27 [c10] = some y10 := by
      have := hg 10 _ rfl
      change DataW.trod enc Try.prog w 0 (fun _ => true) true n 27 (([c0, c1, c2, c3, c4, c5, c6, c7, c8, c9, c10].drop 10).take (Try.prog.cellsOf 27)) = some y10 at this
      rw [k24] at this
      exact this
    obtain ⟨z0, rfl, _⟩ := in_i64 t0
    obtain ⟨z1, rfl, b1⟩ := in_u32 t1
    obtain ⟨z2, rfl, b2⟩ := in_u32 t2
    obtain ⟨z3, rfl, b3⟩ := in_u64 t3
    obtain ⟨z4, rfl, b4⟩ := in_u64 t4
    obtain ⟨z5, rfl, b5⟩ := in_u32 t5
    obtain ⟨z6, rfl, y6⟩ := in_i64 t6
    obtain ⟨z7, rfl⟩ := in_bool t7
    obtain ⟨z8, rfl, y8⟩ := in_i64 t8
    obtain ⟨A1, n1, c1, l1, rfl, h1, h2, h3, h4⟩ := in_bytes t9
    obtain ⟨A2, n2, c2, l2, rfl, g1, g2, g3, g4⟩ := in_bytes t10
    have e1 := h1.1
    have e2 := g1.1
    subst e1 e2
    exact ⟨⟨z0, z1, z2, z3, z4, z5, z6, z7, z8, l1, l2⟩, A1, A2, c1, c2, rfl, ⟨h1, h2, h3, h4, g1, g2, g3, g4, ⟨b1, b2, b3, b4, b5, h1.2.1, g1.2.1⟩⟩, y6, y8⟩

/-- A note that came in. -/
theorem in_entry {r : Reach} {b0 : Nat} {v : Value} {d : DataW H} {p : List MemPlace} (hv : Value.okWide Try.prog w r b0 29 v) (h : DataW.Trod enc Try.prog w 0 (fun _ => true) true 29 v d p) :
    ∃ e A1 A2 c1 c2, v = .agg (evs e (.slice A1 e.key.length c1) (.slice A2 e.data.length c2)) ∧ EntV w e A1 A2 c1 c2 ∧ in64 e.step ∧ in64 e.code := by
  obtain ⟨cs, rfl, _⟩ := okWide_struct Try.underlying29 hv
  obtain ⟨fuel, hf⟩ := h
  obtain ⟨e, A1, A2, c1, c2, h1, h2⟩ := in_cells hf
  refine ⟨e, A1, A2, c1, c2, ?_, h2⟩
  congr 1
  apply Array.toList_inj.1
  simpa [Value.cells] using h1


set_option maxRecDepth 100000 in
/-- A kept step's cells, one by one. -/
theorem in_kept {fuel : Nat} {cs : List Value} {x : DataW H × List MemPlace} (h : DataW.trod enc Try.prog w 0 (fun _ => true) true fuel 34 cs = some x) :
    ∃ y : Kx, cs = (kc y).toList ∧ KT w y := by
  have k3 : Try.prog.cellsOf 3 = 1 := by kernel_rfl
  have k4 : Try.prog.cellsOf 4 = 1 := by kernel_rfl
  have k22 : Try.prog.cellsOf 22 = 1 := by kernel_rfl
  have k27 : Try.prog.cellsOf 27 = 1 := by kernel_rfl
  have k34 : Try.prog.cellsOf 34 = 6 := by kernel_rfl
  obtain ⟨xs, n, _, _, hlen, hxl, hg⟩ := DataW.trod_struct Try.underlying34 h
  rw [k34] at hlen
  match cs, hlen, xs, hxl with
  | [c0, c1, c2, c3, c4, c5], _, [y0, y1, y2, y3, y4, y5], _ =>
    have t0 : DataW.trod enc Try.prog w 0 (fun _ => true) true n 22 [c0] = some y0 := by
      have := hg 0 _ rfl
      change DataW.trod enc Try.prog w 0 (fun _ => true) true n 22 (([c0, c1, c2, c3, c4, c5].drop 0).take (Try.prog.cellsOf 22)) = some y0 at this
      rw [k22] at this
      exact this
    have t1 : DataW.trod enc Try.prog w 0 (fun _ => true) true n 3 [c1] = some y1 := by
      have := hg 1 _ rfl
      change DataW.trod enc Try.prog w 0 (fun _ => true) true n 3 (([c0, c1, c2, c3, c4, c5].drop 1).take (Try.prog.cellsOf 3)) = some y1 at this
      rw [k3] at this
      exact this
    have t2 : DataW.trod enc Try.prog w 0 (fun _ => true) true n 4 [c2] = some y2 := by
      have := hg 2 _ rfl
      change DataW.trod enc Try.prog w 0 (fun _ => true) true n 4 (([c0, c1, c2, c3, c4, c5].drop 2).take (Try.prog.cellsOf 4)) = some y2 at this
      rw [k4] at this
      exact this
    have t3 : DataW.trod enc Try.prog w 0 (fun _ => true) true n 27 [c3] = some y3 := by
      have := hg 3 _ rfl
      change DataW.trod enc Try.prog w 0 (fun _ => true) true n 27 (([c0, c1, c2, c3, c4, c5].drop 3).take (Try.prog.cellsOf 27)) = some y3 at this
      rw [k27] at this
      exact this
    have t4 : DataW.trod enc Try.prog w 0 (fun _ => true) true n 3 [c4] = some y4 := by
      have := hg 4 _ rfl
      change DataW.trod enc Try.prog w 0 (fun _ => true) true n 3 (([c0, c1, c2, c3, c4, c5].drop 4).take (Try.prog.cellsOf 3)) = some y4 at this
      rw [k3] at this
      exact this
    have t5 : DataW.trod enc Try.prog w 0 (fun _ => true) true n 27 [c5] = some y5 := by
      have := hg 5 _ rfl
      change DataW.trod enc Try.prog w 0 (fun _ => true) true n 27 (([c0, c1, c2, c3, c4, c5].drop 5).take (Try.prog.cellsOf 27)) = some y5 at this
      rw [k27] at this
      exact this
    obtain ⟨z0, rfl, b0⟩ := in_u32 t0
    obtain ⟨z1, rfl, b1⟩ := in_i64 t1
    obtain ⟨z2, rfl⟩ := in_bool t2
    obtain ⟨A1, n1, d1, l1, rfl, h1, h2, h3, h4⟩ := in_bytes t3
    obtain ⟨z4, rfl, b4⟩ := in_i64 t4
    obtain ⟨A2, n2, d2, l2, rfl, g1, g2, g3, g4⟩ := in_bytes t5
    have e1 := h1.1
    have e2 := g1.1
    subst e1 e2
    exact ⟨⟨⟨z0, z1, z2, l1, z4, l2⟩, .slice A1 l1.length d1, .slice A2 l2.length d2⟩, rfl, ⟨⟨A1, d1, rfl, h1, h2, h3, h4⟩, ⟨A2, d2, rfl, g1, g2, g3, g4⟩, b0, b1, b4⟩⟩


set_option maxRecDepth 100000 in
/-- A list of kept steps that came in. -/
theorem in_kepts {fuel : Nat} {v : Value} {x : DataW H × List MemPlace} (h : DataW.trod enc Try.prog w 0 (fun _ => true) true fuel 23 [v] = some x) :
    ∃ A n c T, v = .slice A n c ∧ FV w A n c T := by
  have k34 : Try.prog.cellsOf 34 = 6 := by kernel_rfl
  rcases Deep.open_slice Try.underlying23 h with ⟨hcs, _⟩ | ⟨x, l, c, m, n, D, Pl, hcs, _, hl, hm, hmm, _, hi⟩
  · simp at hcs
    subst hcs
    exact ⟨none, 0, 0, fun _ => kz, rfl, FV.nil w _⟩
  · simp at hcs
    subst hcs
    have hm2 : m = c := by rw [hmm]; rfl
    subst hm2
    have each : ∀ i, i < l → ∃ y : Kx, KT w y ∧ ∀ j v, (kc y).toList[j]? = some v → w.cell? (x.add (i * 6 + j)) = some v := fun i hi2 => by
      obtain ⟨cs', hc, ht⟩ := hi i (by omega)
      rw [k34] at hc
      obtain ⟨y, h1, h2⟩ := in_kept ht
      obtain ⟨_, hcl, hat⟩ := World.cells?_some hc
      refine ⟨y, h2, fun j v hj => ?_⟩
      rw [← h1] at hj
      have hjl : j < 6 := by have := (List.getElem?_eq_some_iff.1 hj).1; omega
      rw [← Go.Deep.add_add, hat j hjl, hj]
    have zy : Kx := ⟨kz, .slice none 0 0, .slice none 0 0⟩
    obtain ⟨X, hX⟩ : ∃ X : Nat → Kx, ∀ i, i < l → KT w (X i) ∧ ∀ j v, (kc (X i)).toList[j]? = some v → w.cell? (x.add (i * 6 + j)) = some v :=
      ⟨fun i => if h : i < l then (each i h).choose else zy, fun i hi2 => by dsimp only; rw [dif_pos hi2]; exact (each i hi2).choose_spec⟩
    refine ⟨some x, l, m, fun i => (X i).k, rfl, hl, hm, (fun h => by cases h), X, ⟨fun h0 => ?_, fun i hi2 => (hX i hi2).1⟩, fun i _ => rfl⟩
    obtain ⟨b, off, spot⟩ := x
    have hspot : spot = none := by
      have := (hX 0 h0).2 0 _ rfl
      simpa [Addr.add] using World.cell?_spot this
    subst hspot
    refine ⟨b, off, rfl, fun i hi2 j hj => ?_⟩
    have hs : (kc (X i)).toList[j]? = some ((kc (X i)).toList[j]'(by simpa using hj)) := List.getElem?_eq_getElem _
    have := (hX i hi2).2 j _ hs
    rw [add_off, ← Nat.add_assoc] at this
    rw [this, hs]
set_option maxRecDepth 100000 in
/-- A fence that came in. -/
theorem in_fence {r : Reach} {b0 : Nat} {v : Value} {d : DataW H} {p : List MemPlace} (hv : Value.okWide Try.prog w r b0 25 v) (h : DataW.Trod enc Try.prog w 0 (fun _ => true) true 25 v d p) :
    ∃ ep A n c T, v = .agg #[.int .u32 ((ep : Nat) : Int), .slice A n c] ∧ ep < 4294967296 ∧ FV w A n c T := by
  have k22 : Try.prog.cellsOf 22 = 1 := by kernel_rfl
  have k23 : Try.prog.cellsOf 23 = 1 := by kernel_rfl
  have k25 : Try.prog.cellsOf 25 = 2 := by kernel_rfl
  obtain ⟨cs, rfl, _⟩ := okWide_struct Try.underlying25 hv
  obtain ⟨fuel, hf⟩ := h
  obtain ⟨xs, n, _, _, hlen, hxl, hg⟩ := DataW.trod_struct Try.underlying25 hf
  rw [k25] at hlen
  have hcs : (Value.agg cs).cells.toList = cs.toList := rfl
  obtain ⟨l, hl⟩ : ∃ l, cs.toList = l := ⟨_, rfl⟩
  have hl2 : cs = l.toArray := by rw [← hl]
  subst hl2
  simp only [Value.cells] at hlen hg
  match l, hlen, xs, hxl with
  | [c0, c1], _, [y0, y1], _ =>
    have t0 : DataW.trod enc Try.prog w 0 (fun _ => true) true n 22 [c0] = some y0 := by
      have := hg 0 _ rfl
      change DataW.trod enc Try.prog w 0 (fun _ => true) true n 22 (([c0, c1].drop 0).take (Try.prog.cellsOf 22)) = some y0 at this
      rw [k22] at this
      exact this
    have t1 : DataW.trod enc Try.prog w 0 (fun _ => true) true n 23 [c1] = some y1 := by
      have := hg 1 _ rfl
      change DataW.trod enc Try.prog w 0 (fun _ => true) true n 23 (([c0, c1].drop 1).take (Try.prog.cellsOf 23)) = some y1 at this
      rw [k23] at this
      exact this
    obtain ⟨z0, rfl, b0⟩ := in_u32 t0
    obtain ⟨A, n', c', T, rfl, hF⟩ := in_kepts t1
    exact ⟨z0, A, n', c', T, rfl, b0, hF⟩

end

theorem nat_u32 {z : Int} (h : (Lit.int IntKind.u32 z).wf = true) : ∃ n : Nat, z = (n : Int) ∧ n < 4294967296 := by
  have := bounds_u32 h
  exact ⟨z.toNat, by omega, by omega⟩
theorem nat_u8 {z : Int} (h : (Lit.int IntKind.u8 z).wf = true) : ∃ n : Nat, z = (n : Int) ∧ n < 256 := by
  have := bounds_u8 h
  exact ⟨z.toNat, by omega, by omega⟩

end Go.Proofs.Ytfcfejmammohpaa
