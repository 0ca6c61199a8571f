/-
  Numbers and acts that came in, as the contracts want them.
-/
import Derived.Test.YtnajombhlmbopaaNewF
import Derived.Deep.Slices
import Derived.Deep.Fields
import Derived.ChangeSame
import Derived.ProofKit
import Derived.OpenShut
namespace Go.Proofs.Ytnajombhlmbopaa
open Go.Proofs Go.RowKit Go.ChangeShapes Go.WideShapes
set_option maxRecDepth 100000
set_option linter.unusedVariables false

def in64 (z : Int) : Prop := -9223372036854775808 ≤ z ∧ z ≤ 9223372036854775807
/-- An act: kind, order, day, number. -/
structure Ac where
  t : Int
  o : Nat
  f : Int
  n : Int
abbrev encA (a : Ac) : List Value := [.int .i64 a.t, .int .u32 (a.o : Int), .int .i64 a.f, .int .i64 a.n]
/-- A slice of n acts that reads as l. -/
def Ain (w : World) (A : Option Addr) (n : Nat) (l : List Ac) : Prop :=
  l.length = n ∧ (0 < n → ∃ b off, A = some ⟨b, off, none⟩ ∧ b < w.heap.size ∧ ∀ (i : Nat) (hi : i < l.length), w.cell? ⟨b, off + i * 4, none⟩ = some (.int .i64 l[i].t) ∧ w.cell? ⟨b, off + i * 4 + 1, none⟩ = some (.int .u32 (l[i].o : Int)) ∧ w.cell? ⟨b, off + i * 4 + 2, none⟩ = some (.int .i64 l[i].f) ∧ w.cell? ⟨b, off + i * 4 + 3, none⟩ = some (.int .i64 l[i].n))
theorem Ain.below {w w' : World} {A : Option Addr} {n : Nat} {l : List Ac} (h : Ain w A n l) (hb : Below w.heap.size w w') : Ain w' A n l := by
  obtain ⟨h1, h2⟩ := h
  refine ⟨h1, fun h0 => ?_⟩
  obtain ⟨b, off, e, hlt, hc⟩ := h2 h0
  refine ⟨b, off, e, Nat.lt_of_lt_of_le hlt hb.size, fun i hi => ?_⟩
  obtain ⟨c1, c2, c3, c4⟩ := hc i hi
  exact ⟨by rw [hb.cell (p := ⟨b, off + i * 4, none⟩) hlt]; exact c1, by rw [hb.cell (p := ⟨b, off + i * 4 + 1, none⟩) hlt]; exact c2, by rw [hb.cell (p := ⟨b, off + i * 4 + 2, none⟩) hlt]; exact c3, by rw [hb.cell (p := ⟨b, off + i * 4 + 3, none⟩) hlt]; exact c4⟩
def IntsOk (l : List Int) : Prop := ∀ g ∈ l, in64 g
def ActsOk (l : List Ac) : Prop := ∀ a ∈ l, in64 a.t ∧ a.o < 4294967296 ∧ in64 a.f ∧ in64 a.n

section
variable {H : Type} {enc : TypeId × Value → H} {w : World}

theorem in_i64 {fuel : Nat} {c : Value} {x : DataW H × List MemPlace} (h : DataW.trod enc Try.prog w 0 (fun _ => true) true fuel 3 [c] = some x) : ∃ z : Int, c = .int .i64 z ∧ in64 z := by
  obtain ⟨z, h1, _, h2⟩ := DataW.trod_int Try.underlying3 h
  simp only [List.cons.injEq, and_true] at h1
  have := bounds_i64 h2
  exact ⟨z, h1, by unfold in64; omega⟩
theorem in_u32 {fuel : Nat} {c : Value} {x : DataW H × List MemPlace} (h : DataW.trod enc Try.prog w 0 (fun _ => true) true fuel 32 [c] = some x) : ∃ n : Nat, c = .int .u32 (n : Nat) ∧ n < 4294967296 := by
  obtain ⟨z, h1, _, h2⟩ := DataW.trod_int Try.underlying32 h
  simp only [List.cons.injEq, and_true] at h1
  have := bounds_u32 h2
  exact ⟨z.toNat, by rw [h1, Int.toNat_of_nonneg this.1], by omega⟩

theorem in_act {fuel : Nat} {cs : List Value} {x : DataW H × List MemPlace} (h : DataW.trod enc Try.prog w 0 (fun _ => true) true fuel 34 cs = some x) :
    ∃ y : Ac, cs = encA y ∧ in64 y.t ∧ y.o < 4294967296 ∧ in64 y.f ∧ in64 y.n := by
  have k3 : Try.prog.cellsOf 3 = 1 := by kernel_rfl
  have k32 : Try.prog.cellsOf 32 = 1 := by kernel_rfl
  have k34 : Try.prog.cellsOf 34 = 4 := by kernel_rfl
  obtain ⟨xs, n, _, _, hlen, hxl, hg⟩ := DataW.trod_struct Try.underlying34 h
  rw [k34] at hlen
  match cs, hlen, xs, hxl with
  | [c0, c1, c2, c3], _, [y0, y1, y2, y3], _ =>
    have t0 : DataW.trod enc Try.prog w 0 (fun _ => true) true n 3 [c0] = some y0 := by
      have := hg 0 _ rfl
      change DataW.trod enc Try.prog w 0 (fun _ => true) true n 3 (([c0, c1, c2, c3].drop 0).take (Try.prog.cellsOf 3)) = some y0 at this
      rw [k3] at this
      exact this
    have t1 : DataW.trod enc Try.prog w 0 (fun _ => true) true n 32 [c1] = some y1 := by
      have := hg 1 _ rfl
      change DataW.trod enc Try.prog w 0 (fun _ => true) true n 32 (([c0, c1, c2, c3].drop 1).take (Try.prog.cellsOf 32)) = some y1 at this
      rw [k32] at this
      exact this
    have t2 : DataW.trod enc Try.prog w 0 (fun _ => true) true n 3 [c2] = some y2 := by
      have := hg 2 _ rfl
      change DataW.trod enc Try.prog w 0 (fun _ => true) true n 3 (([c0, c1, c2, c3].drop 2).take (Try.prog.cellsOf 3)) = some y2 at this
      rw [k3] at this
      exact this
    have t3 : DataW.trod enc Try.prog w 0 (fun _ => true) true n 3 [c3] = some y3 := by
      have := hg 3 _ rfl
      change DataW.trod enc Try.prog w 0 (fun _ => true) true n 3 (([c0, c1, c2, c3].drop 3).take (Try.prog.cellsOf 3)) = some y3 at this
      rw [k3] at this
      exact this
    obtain ⟨z0, rfl, b0⟩ := in_i64 t0
    obtain ⟨z1, rfl, b1⟩ := in_u32 t1
    obtain ⟨z2, rfl, b2⟩ := in_i64 t2
    obtain ⟨z3, rfl, b3⟩ := in_i64 t3
    exact ⟨⟨z0, z1, z2, z3⟩, rfl, b0, b1, b2, b3⟩

theorem list_of {α : Type} (p : Nat → α → Prop) (d : α) (l : Nat) (each : ∀ i, i < l → ∃ y : α, p i y) : ∃ X : List α, X.length = l ∧ ∀ (i : Nat) (hi : i < X.length), p i X[i] := by
  induction l with
  | zero => exact ⟨[], rfl, fun i hi => absurd hi (by simp)⟩
  | succ m ih =>
    obtain ⟨X, hX, hp⟩ := ih fun i hi => each i (by omega)
    obtain ⟨y, hy⟩ := each m (by omega)
    refine ⟨X ++ [y], by simp [hX], fun i hi => ?_⟩
    by_cases h : i < X.length
    · rw [List.getElem_append_left h]; exact hp i h
    · have e : i = m := by rw [List.length_append] at hi; simp at hi; omega
      subst e
      rw [List.getElem_append_right (by omega)]
      simpa [hX] using hy

theorem in_ints {fuel : Nat} {v : Value} {x : DataW H × List MemPlace} (h : DataW.trod enc Try.prog w 0 (fun _ => true) true fuel 22 [v] = some x) :
    ∃ A n c l, v = .slice A n c ∧ Iin w A n l ∧ n ≤ c ∧ c ≤ maxLen ∧ IntsOk l := by
  have k3 : Try.prog.cellsOf 3 = 1 := by kernel_rfl
  rcases Deep.open_slice Try.underlying22 h with ⟨hcs, _⟩ | ⟨x, l, c, m, n, D, Pl, hcs, _, hl, hm, hmm, _, hi⟩
  · simp at hcs
    subst hcs
    exact ⟨none, 0, 0, [], rfl, ⟨rfl, fun h => absurd h (by simp)⟩, Nat.le_refl _, by unfold maxLen; omega, fun g hg => absurd hg (by simp)⟩
  · simp at hcs
    subst hcs
    have hm2 : m = c := by rw [hmm]; rfl
    subst hm2
    have each : ∀ i, i < l → ∃ y : Int, in64 y ∧ w.cell? (x.add i) = some (.int .i64 y) := fun i hi2 => by
      obtain ⟨cs', hc, ht⟩ := hi i (by omega)
      rw [k3] at hc
      obtain ⟨_, hcl, hat⟩ := World.cells?_some hc
      match cs', hcl with
      | [c0], _ =>
        obtain ⟨y, rfl, h2⟩ := in_i64 ht
        have := hat 0 (by omega)
        rw [Go.Deep.add_add, Nat.mul_one, Nat.add_zero] at this
        exact ⟨y, h2, this⟩
    obtain ⟨X, hX, hp⟩ := list_of _ default l each
    refine ⟨some x, l, m, X, rfl, ⟨hX, fun h0 => ?_⟩, hl, hm, fun g hg => ?_⟩
    · obtain ⟨b, off, spot⟩ := x
      have h00 := (hp 0 (by omega)).2
      have hspot : spot = none := by simpa [Addr.add] using World.cell?_spot h00
      subst hspot
      refine ⟨b, off, rfl, ?_, fun i hi2 => ?_⟩
      · rw [Addr.add_mid] at h00; exact block_lt_of_cell h00
      · have := (hp i hi2).2
        rw [Addr.add_mid] at this
        exact this
    · obtain ⟨i, hi2, rfl⟩ := List.getElem_of_mem hg
      exact (hp i hi2).1
theorem in_acts {fuel : Nat} {v : Value} {x : DataW H × List MemPlace} (h : DataW.trod enc Try.prog w 0 (fun _ => true) true fuel 23 [v] = some x) :
    ∃ A n c l, v = .slice A n c ∧ Ain w A n l ∧ n ≤ c ∧ c ≤ maxLen ∧ ActsOk l := by
  have k34 : Try.prog.cellsOf 34 = 4 := by kernel_rfl
  rcases Deep.open_slice Try.underlying23 h with ⟨hcs, _⟩ | ⟨x, l, c, m, n, D, Pl, hcs, _, hl, hm, hmm, _, hi⟩
  · simp at hcs
    subst hcs
    exact ⟨none, 0, 0, [], rfl, ⟨rfl, fun h => absurd h (by simp)⟩, Nat.le_refl _, by unfold maxLen; omega, fun g hg => absurd hg (by simp)⟩
  · simp at hcs
    subst hcs
    have hm2 : m = c := by rw [hmm]; rfl
    subst hm2
    have each : ∀ i, i < l → ∃ y : Ac, (in64 y.t ∧ y.o < 4294967296 ∧ in64 y.f ∧ in64 y.n) ∧ ∀ j v, (encA y)[j]? = some v → w.cell? (x.add (i * 4 + j)) = some v := fun i hi2 => by
      obtain ⟨cs', hc, ht⟩ := hi i (by omega)
      rw [k34] at hc
      obtain ⟨y, h1, h2⟩ := in_act ht
      obtain ⟨_, hcl, hat⟩ := World.cells?_some hc
      refine ⟨y, h2, fun j v hj => ?_⟩
      rw [← h1] at hj
      have hjl : j < 4 := by have := (List.getElem?_eq_some_iff.1 hj).1; omega
      rw [← Go.Deep.add_add, hat j hjl, hj]
    obtain ⟨X, hX, hp⟩ := list_of _ ⟨0, 0, 0, 0⟩ l each
    refine ⟨some x, l, m, X, rfl, ⟨hX, fun h0 => ?_⟩, hl, hm, fun g hg => ?_⟩
    · obtain ⟨b, off, spot⟩ := x
      have h00 := (hp 0 (by omega)).2 0 _ rfl
      have hspot : spot = none := by simpa [Addr.add] using World.cell?_spot h00
      subst hspot
      refine ⟨b, off, rfl, ?_, fun i hi2 => ⟨?_, ?_, ?_, ?_⟩⟩
      · rw [Addr.add_mid] at h00; exact block_lt_of_cell h00
      · have := (hp i hi2).2 0 _ rfl
        rw [Addr.add_mid] at this
        exact this
      · have := (hp i hi2).2 1 _ rfl
        rw [Addr.add_mid, ← Nat.add_assoc] at this
        exact this
      · have := (hp i hi2).2 2 _ rfl
        rw [Addr.add_mid, ← Nat.add_assoc] at this
        exact this
      · have := (hp i hi2).2 3 _ rfl
        rw [Addr.add_mid, ← Nat.add_assoc] at this
        exact this
    · obtain ⟨i, hi2, rfl⟩ := List.getElem_of_mem hg
      exact (hp i hi2).1
end
theorem i64_bnd {z : Int} (h : (Lit.int IntKind.i64 z).wf = true) : in64 z := by
  have := bounds_i64 h
  unfold in64
  omega
theorem nat_u32 {z : Int} (h : (Lit.int IntKind.u32 z).wf = true) : ∃ n : Nat, z = (n : Int) ∧ n < 4294967296 := by
  have := bounds_u32 h
  exact ⟨z.toNat, by omega, by omega⟩

end Go.Proofs.Ytnajombhlmbopaa
