/-
  Calls that came in.
-/
import Derived.Test.YtfcfejmammohpaaIn8
import Derived.Test.YtfcfejmammohpaaCallM
namespace Go.Proofs.Ytfcfejmammohpaa
open Go.RowKit Go.ChangeShapes Go.WideShapes
set_option maxRecDepth 100000
set_option linter.unusedVariables false

/-- A call. -/
structure Cx where
  e : Nat
  o : Nat
  s : Int
  u : Bool
  A : Option Addr
  l : List Nat
  c : Nat
  g : Bool
abbrev cl6 (x : Cx) : Array Value := #[.int .u32 (x.e : Int), .int .u32 (x.o : Int), .int .i64 x.s, .bool x.u, .slice x.A x.l.length x.c, .bool x.g]
structure CT (w : World) (x : Cx) : Prop where
  e : x.e < 4294967296
  o : x.o < 4294967296
  s : in64 x.s
  b : Bys w x.A x.l.length x.l
  c : x.l.length ≤ x.c
  m : x.c ≤ maxLen
  a : x.A = none → x.c = 0
theorem CT.below {w w' : World} {x : Cx} (h : CT w x) (hb : Below w.heap.size w w') : CT w' x := ⟨h.e, h.o, h.s, h.b.below hb, h.c, h.m, h.a⟩
def Cs (w : World) (A : Option Addr) (n : Nat) (X : Nat → Cx) : Prop :=
  (0 < n → ∃ b off, A = some ⟨b, off, none⟩ ∧ ∀ i, i < n → ∀ j, j < 6 → w.cell? ⟨b, off + i * 6 + j, none⟩ = (cl6 (X i)).toList[j]?) ∧ ∀ i, i < n → CT w (X i)
theorem Cs.below {w w' : World} {A : Option Addr} {n : Nat} {X : Nat → Cx} (h : Cs w A n X) (hb : Below w.heap.size w w') : Cs w' A n X := by
  refine ⟨fun h0 => ?_, fun i hi => (h.2 i hi).below hb⟩
  obtain ⟨b, off, e, hc⟩ := h.1 h0
  refine ⟨b, off, e, fun i hi j hj => ?_⟩
  have := hc i hi j hj
  have hs : (cl6 (X i)).toList[j]? = some ((cl6 (X i)).toList[j]'(by simpa using hj)) := List.getElem?_eq_getElem _
  rw [hs] at this ⊢
  rw [hb.cell (block_lt_of_cell this)]
  exact this
theorem Cs.at {w : World} {b off n : Nat} {X : Nat → Cx} (h : Cs w (some ⟨b, off, none⟩) n X) (i : Nat) (hi : i < n) :
    w.cell? ⟨b, off + i * 6, none⟩ = some (.int .u32 ((X i).e : Int)) ∧ w.cell? ⟨b, off + i * 6 + 1, none⟩ = some (.int .u32 ((X i).o : Int)) ∧ w.cell? ⟨b, off + i * 6 + 2, none⟩ = some (.int .i64 (X i).s) ∧ w.cell? ⟨b, off + i * 6 + 3, none⟩ = some (.bool (X i).u) ∧ w.cell? ⟨b, off + i * 6 + 4, none⟩ = some (.slice (X i).A (X i).l.length (X i).c) ∧ w.cell? ⟨b, off + i * 6 + 5, none⟩ = some (.bool (X i).g) := by
  obtain ⟨b', off', e, hc⟩ := h.1 (by omega)
  injection e with e
  injection e with e1 e2 _
  subst e1 e2
  exact ⟨hc i hi 0 (by omega), hc i hi 1 (by omega), hc i hi 2 (by omega), hc i hi 3 (by omega), hc i hi 4 (by omega), hc i hi 5 (by omega)⟩
/-- A list of calls that came in. -/
def CV (w : World) (A : Option Addr) (n c : Nat) : Prop := n ≤ c ∧ c ≤ maxLen ∧ (A = none → c = 0) ∧ ∃ X, Cs w A n X
theorem CV.below {w w' : World} {A : Option Addr} {n c : Nat} (h : CV w A n c) (hb : Below w.heap.size w w') : CV w' A n c := by
  obtain ⟨h1, h2, h3, X, h4⟩ := h
  exact ⟨h1, h2, h3, X, h4.below hb⟩
section
variable {H : Type} {enc : TypeId × Value → H} {w : World}
set_option maxRecDepth 100000 in
theorem in_call {fuel : Nat} {cs : List Value} {x : DataW H × List MemPlace} (h : DataW.trod enc Try.prog w 0 (fun _ => true) true fuel 77 cs = some x) :
    ∃ y : Cx, cs = (cl6 y).toList ∧ CT w y := by
  have k3 : Try.prog.cellsOf 3 = 1 := by kernel_rfl
  have k4 : Try.prog.cellsOf 4 = 1 := by kernel_rfl
  have k22 : Try.prog.cellsOf 22 = 1 := by kernel_rfl
  have k27 : Try.prog.cellsOf 27 = 1 := by kernel_rfl
  have k77 : Try.prog.cellsOf 77 = 6 := by kernel_rfl
  obtain ⟨xs, n, _, _, hlen, hxl, hg⟩ := DataW.trod_struct Try.underlying77 h
  rw [k77] at hlen
  match cs, hlen, xs, hxl with
  | [c0, c1, c2, c3, c4, c5], _, [y0, y1, y2, y3, y4, y5], _ =>
    have t0 : DataW.trod enc Try.prog w 0 (fun _ => true) true n 22 [c0] = some y0 := by
      have := hg 0 _ rfl
      change DataW.trod enc Try.prog w 0 (fun _ => true) true n 22 (([c0, c1, c2, c3, c4, c5].drop 0).take (Try.prog.cellsOf 22)) = some y0 at this
      rw [k22] at this
      exact this
    have t1 : DataW.trod enc Try.prog w 0 (fun _ => true) true n 22 [c1] = some y1 := by
      have := hg 1 _ rfl
      change DataW.trod enc Try.prog w 0 (fun _ => true) true n 22 (([c0, c1, c2, c3, c4, c5].drop 1).take (Try.prog.cellsOf 22)) = some y1 at this
      rw [k22] at this
      exact this
    have t2 : DataW.trod enc Try.prog w 0 (fun _ => true) true n 3 [c2] = some y2 := by
      have := hg 2 _ rfl
      change DataW.trod enc Try.prog w 0 (fun _ => true) true n 3 (([c0, c1, c2, c3, c4, c5].drop 2).take (Try.prog.cellsOf 3)) = some y2 at this
      rw [k3] at this
      exact this
    have t3 : DataW.trod enc Try.prog w 0 (fun _ => true) true n 4 [c3] = some y3 := by
      have := hg 3 _ rfl
      change DataW.trod enc Try.prog w 0 (fun _ => true) true n 4 (([c0, c1, c2, c3, c4, c5].drop 3).take (Try.prog.cellsOf 4)) = some y3 at this
      rw [k4] at this
      exact this
    have t4 : DataW.trod enc Try.prog w 0 (fun _ => true) true n 27 [c4] = some y4 := by
      have := hg 4 _ rfl
      change DataW.trod enc Try.prog w 0 (fun _ => true) true n 27 (([c0, c1, c2, c3, c4, c5].drop 4).take (Try.prog.cellsOf 27)) = some y4 at this
      rw [k27] at this
      exact this
    have t5 : DataW.trod enc Try.prog w 0 (fun _ => true) true n 4 [c5] = some y5 := by
      have := hg 5 _ rfl
      change DataW.trod enc Try.prog w 0 (fun _ => true) true n 4 (([c0, c1, c2, c3, c4, c5].drop 5).take (Try.prog.cellsOf 4)) = some y5 at this
      rw [k4] at this
      exact this
    obtain ⟨z0, rfl, b0⟩ := in_u32 t0
    obtain ⟨z1, rfl, b1⟩ := in_u32 t1
    obtain ⟨z2, rfl, b2⟩ := in_i64 t2
    obtain ⟨z3, rfl⟩ := in_bool t3
    obtain ⟨A1, n1, d1, l1, rfl, h1, h2, h3, h4⟩ := in_bytes t4
    obtain ⟨z5, rfl⟩ := in_bool t5
    have e1 := h1.1
    subst e1
    exact ⟨⟨z0, z1, z2, z3, A1, l1, d1, z5⟩, rfl, ⟨b0, b1, b2, h1, h2, h3, h4⟩⟩
set_option maxRecDepth 100000 in
theorem in_calls {v0 : Option Addr} {n0 c0 : Nat} {d : DataW H} {p : List MemPlace} (h : DataW.Trod enc Try.prog w 0 (fun _ => true) true 57 (.slice v0 n0 c0) d p) : CV w v0 n0 c0 := by
  obtain ⟨fuel, hf⟩ := h
  have k77 : Try.prog.cellsOf 77 = 6 := by kernel_rfl
  have hf' : DataW.trod enc Try.prog w 0 (fun _ => true) true fuel 57 [.slice v0 n0 c0] = some (d, p) := hf
  rcases Deep.open_slice Try.underlying57 hf' with ⟨hcs, _⟩ | ⟨x, l, c, m, n, D, Pl, hcs, _, hl, hm, hmm, _, hi⟩
  · simp at hcs
    obtain ⟨rfl, rfl, rfl⟩ := hcs
    exact ⟨Nat.le_refl _, by unfold maxLen; omega, fun _ => rfl, fun _ => ⟨0, 0, 0, false, none, [], 0, false⟩, fun h => by omega, fun i hi => by omega⟩
  · simp at hcs
    obtain ⟨rfl, rfl, rfl⟩ := hcs
    have hm2 : m = c0 := by rw [hmm]; rfl
    subst hm2
    have each : ∀ i, i < n0 → ∃ y : Cx, CT w y ∧ ∀ j v, (cl6 y).toList[j]? = some v → w.cell? (x.add (i * 6 + j)) = some v := fun i hi2 => by
      obtain ⟨cs', hc, ht⟩ := hi i (by omega)
      rw [k77] at hc
      obtain ⟨y, h1, h2⟩ := in_call ht
      obtain ⟨_, hcl, hat⟩ := World.cells?_some hc
      refine ⟨y, h2, fun j v hj => ?_⟩
      rw [← h1] at hj
      have hjl : j < 6 := by have := (List.getElem?_eq_some_iff.1 hj).1; omega
      rw [← Go.Deep.add_add, hat j hjl, hj]
    have zy : Cx := ⟨0, 0, 0, false, none, [], 0, false⟩
    obtain ⟨X, hX⟩ : ∃ X : Nat → Cx, ∀ i, i < n0 → CT w (X i) ∧ ∀ j v, (cl6 (X i)).toList[j]? = some v → w.cell? (x.add (i * 6 + j)) = some v :=
      ⟨fun i => if h : i < n0 then (each i h).choose else zy, fun i hi2 => by dsimp only; rw [dif_pos hi2]; exact (each i hi2).choose_spec⟩
    refine ⟨hl, hm, (fun h => by cases h), X, fun h0 => ?_, fun i hi2 => (hX i hi2).1⟩
    obtain ⟨b, off, spot⟩ := x
    have hspot : spot = none := by
      have := (hX 0 h0).2 0 _ rfl
      simpa [Addr.add] using World.cell?_spot this
    subst hspot
    refine ⟨b, off, rfl, fun i hi2 j hj => ?_⟩
    have hs : (cl6 (X i)).toList[j]? = some ((cl6 (X i)).toList[j]'(by simpa using hj)) := List.getElem?_eq_getElem _
    have := (hX i hi2).2 j _ hs
    rw [add_off, ← Nat.add_assoc] at this
    rw [this, hs]
end

end Go.Proofs.Ytfcfejmammohpaa
