/-
  What New makes of goods: the kinds, or none.
-/
import Derived.Test.YtlgdjmmhdfpfeaaCloneS
import Derived.Test.YtlgdjmmhdfpfeaaMet
namespace Go.Proofs.Ytlgdjmmhdfpfeaa
open Go.Proofs Go.RowKit
set_option maxRecDepth 100000
set_option linter.unusedVariables false

/-- One good more. -/
def addG (K : List Kd) (g : Kd) : Option (List Kd) := if (findK K g.n).isSome || !goodB g.n g.m g.h then none else some (insK g K)
def newGo : List Kd → List Kd → Option (List Kd)
  | K, [] => some K
  | K, g :: r => match addG K g with
    | none => none
    | some K' => newGo K' r
def newOf (l : List Kd) : Option (List Kd) := if 50 < l.length then none else newGo [] l

theorem newGo_cons (K : List Kd) (g : Kd) (r : List Kd) : newGo K (g :: r) = (addG K g).bind (fun K' => newGo K' r) := by
  conv => lhs; unfold newGo
  cases addG K g <;> rfl
theorem newGo_append : ∀ (a b : List Kd) (K : List Kd), newGo K (a ++ b) = (newGo K a).bind (fun K' => newGo K' b)
  | [], b, K => rfl
  | g :: r, b, K => by
    rw [List.cons_append, newGo_cons, newGo_cons]
    cases h : addG K g with
    | none => rfl
    | some K' => exact newGo_append r b K'
theorem newGo_step {l : List Kd} {j : Nat} (hj : j < l.length) {K : List Kd} (h : newGo [] (l.take j) = some K) : newGo [] (l.take (j + 1)) = addG K l[j] := by
  rw [List.take_succ_eq_append_getElem hj, newGo_append, h]
  show newGo K [l[j]] = _
  unfold newGo
  cases addG K l[j] <;> rfl
theorem newGo_none {l : List Kd} {j : Nat} (h : newGo [] (l.take j) = none) : newGo [] l = none := by
  have := newGo_append (l.take j) (l.drop j) []
  rw [List.take_append_drop, h] at this
  exact this
theorem addG_some {K K' : List Kd} {g : Kd} (h : addG K g = some K') : findK K g.n = none ∧ goodB g.n g.m g.h = true ∧ K' = insK g K := by
  unfold addG at h
  split at h
  · cases h
  · rename_i hc
    simp only [Bool.or_eq_true, Bool.not_eq_true', not_or, Bool.not_eq_false, Bool.not_eq_true, Option.isSome_eq_false_iff, Option.isNone_iff_eq_none] at hc
    exact ⟨hc.1, hc.2, by injection h with h; exact h.symm⟩
/-- What the kinds of a new stock are like. -/
structure NewK (K : List Kd) (l : List Kd) : Prop where
  ks : KSort K
  len : K.length = l.length
  good : ∀ k ∈ K, goodB k.n k.m k.h = true
  mem : ∀ k ∈ K, k ∈ l
theorem NewK.add {K K' : List Kd} {l : List Kd} {g : Kd} (h : NewK K l) (ha : addG K g = some K') : NewK K' (l ++ [g]) := by
  obtain ⟨h1, h2, rfl⟩ := addG_some ha
  refine ⟨h.ks.ins (findK_none h1), by rw [insK_length, h.len]; simp, fun k hk => ?_, fun k hk => ?_⟩
  · rcases mem_insK.1 hk with rfl | hk
    · exact h2
    · exact h.good k hk
  · rcases mem_insK.1 hk with rfl | hk
    · simp
    · exact List.mem_append_left _ (h.mem k hk)
theorem NewK.of : ∀ (l2 l : List Kd) (K K' : List Kd), NewK K l → newGo K l2 = some K' → NewK K' (l ++ l2)
  | [], l, K, K', h, e => by
    simp [newGo] at e
    subst e
    simpa using h
  | g :: r, l, K, K', h, e => by
    unfold newGo at e
    cases ha : addG K g with
    | none => rw [ha] at e; cases e
    | some K2 =>
      rw [ha] at e
      have := NewK.of r (l ++ [g]) K2 K' (h.add ha) e
      simpa using this
theorem NewK.go {l : List Kd} {K : List Kd} (h : newGo [] l = some K) : NewK K l := by
  have := NewK.of l [] [] K ⟨List.Pairwise.nil, rfl, (fun k hk => absurd hk (by simp)), fun k hk => absurd hk (by simp)⟩ h
  simpa using this
theorem newOf_some {l : List Kd} {K : List Kd} (h : newOf l = some K) : l.length ≤ 50 ∧ newGo [] l = some K ∧ NewK K l := by
  unfold newOf at h
  split at h
  · cases h
  · exact ⟨by omega, h, NewK.go h⟩
theorem newInv {l : List Kd} {K : List Kd} (h : newOf l = some K) : Inv ⟨K, []⟩ := by
  obtain ⟨h1, h2, h3⟩ := newOf_some h
  refine ⟨h3.ks, List.Pairwise.nil, fun k hk => ?_, fun k hk => ?_, (fun y hy => absurd hy (by simp)), by show K.length ≤ 50; rw [h3.len]; exact h1⟩
  · have := goodB_iff.1 (h3.good k hk)
    exact ⟨this.1, this.2.1⟩
  · have := goodB_iff.1 (h3.good k hk)
    show 0 ≤ k.h ∧ k.h ≤ k.m ∧ k.h = 0 ∧ k.m + 0 ≤ 1000000000
    omega

/-- A slice of n accounts that reads as l. -/
def Gin (w : World) (A : Option Addr) (n : Nat) (l : List Kd) : Prop :=
  l.length = n ∧ (0 < n → ∃ b off, A = some ⟨b, off, none⟩ ∧ b < w.heap.size ∧ ∀ (i : Nat) (hi : i < l.length), w.cell? ⟨b, off + i * 3, none⟩ = some (encStr l[i].n) ∧ w.cell? ⟨b, off + i * 3 + 1, none⟩ = some (.int .i64 l[i].m) ∧ w.cell? ⟨b, off + i * 3 + 2, none⟩ = some (.int .i64 l[i].h))
theorem Gin.below {w w' : World} {A : Option Addr} {n : Nat} {l : List Kd} (h : Gin w A n l) (hb : Below w.heap.size w w') : Gin w' A n l := by
  obtain ⟨h1, h2⟩ := h
  refine ⟨h1, fun h0 => ?_⟩
  obtain ⟨b, off, e, hlt, hc⟩ := h2 h0
  refine ⟨b, off, e, Nat.lt_of_lt_of_le hlt hb.size, fun i hi => ?_⟩
  obtain ⟨c1, c2, c3⟩ := hc i hi
  exact ⟨by rw [hb.cell (p := ⟨b, off + i * 3, none⟩) hlt]; exact c1, by rw [hb.cell (p := ⟨b, off + i * 3 + 1, none⟩) hlt]; exact c2, by rw [hb.cell (p := ⟨b, off + i * 3 + 2, none⟩) hlt]; exact c3⟩
theorem run_mk54 (n : Nat) (w : World) : (Instr.makeMap 54 (some (.int .i64 (n : Int)))).run Try.prog w = .ok (.map (some w.heap.size)) (w.alloc (.map #[] 0)) := by
  simp [Instr.makeMap, asInt, asIntOf, Result.andThen]

end Go.Proofs.Ytlgdjmmhdfpfeaa
