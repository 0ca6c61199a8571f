/-
  What was met in a range over a map.
-/
import Derived.Test.YtlgdjmmhdfpfeaaStk
namespace Go.Proofs.Ytlgdjmmhdfpfeaa
open Go.Proofs Go.RowKit Go.Maps
set_option maxRecDepth 100000
set_option linter.unusedVariables false
set_option linter.unusedSimpArgs false

/-! ### what was met in a range over a map -/
def MetK (K : List Kd) (left : Lit → Bool) (L : List Kd) : Prop := (L.map (·.n)).Nodup ∧ (∀ k ∈ L, k ∈ K ∧ left (.string k.n) = false) ∧ ∀ k ∈ K, left (.string k.n) = false → k ∈ L
def MetH (H : List Hd) (left : Lit → Bool) (L : List Hd) : Prop := (L.map (·.o)).Nodup ∧ (∀ k ∈ L, k ∈ H ∧ left (.int .u32 (k.o : Int)) = false) ∧ ∀ k ∈ H, left (.int .u32 (k.o : Int)) = false → k ∈ L

theorem MetK.start {D : DataW Unit} {K : List Kd} (h : KT D K) (hs : KSort K) : MetK K (Maps.has D) [] :=
  ⟨List.nodup_nil, (fun k hk => absurd hk (by simp)), fun k hk hf => by rw [h.has, hs.find hk] at hf; cases hf⟩
theorem MetH.start {D : DataW Unit} {H : List Hd} (h : HT D H) (hs : HSort H) : MetH H (Maps.has D) [] :=
  ⟨List.nodup_nil, (fun k hk => absurd hk (by simp)), fun k hk hf => by rw [h.has, hs.find hk] at hf; cases hf⟩
theorem KT.entry {D : DataW Unit} {K : List Kd} (h : KT D K) {x : List UInt8} {c : Kd} (hat : ∀ z, D.atKey (.string x) z = dK c) : c ∈ K ∧ c.n = x := by
  have h1 := h.find x
  cases hf : findK K x with
  | none =>
    rw [hf] at h1
    have := (h1 .nil).symm.trans (hat .nil)
    cases this
  | some k =>
    rw [hf] at h1
    have := dK_inj ((h1 .nil).symm.trans (hat .nil))
    subst this
    exact findK_some hf
theorem HT.entry {D : DataW Unit} {H : List Hd} (h : HT D H) {o : Nat} {c : Hd} (hat : ∀ z, D.atKey (.int .u32 (o : Int)) z = dH c) : ∃ y ∈ H, y.o = o ∧ y.n = c.n ∧ y.k = c.k := by
  have h1 := h.find o
  cases hf : findH H o with
  | none =>
    rw [hf] at h1
    have := (h1 .nil).symm.trans (hat .nil)
    cases this
  | some k =>
    rw [hf] at h1
    have := dH_inj ((h1 .nil).symm.trans (hat .nil))
    obtain ⟨hk, rfl⟩ := findH_some hf
    exact ⟨k, hk, rfl, this.1, this.2⟩
theorem MetK.step {K : List Kd} {left : Lit → Bool} {L : List Kd} (h : MetK K left L) (hs : KSort K) {c : Kd} (hc : c ∈ K) (hl : left (.string c.n) = true) : MetK K (fun z => left z && !z.sameKey (.string c.n)) (L ++ [c]) := by
  refine ⟨?_, ?_, ?_⟩
  · rw [List.map_append]
    refine List.nodup_append.2 ⟨h.1, by simp, fun a ha b hb => ?_⟩
    simp at hb
    subst hb
    obtain ⟨k, hk, rfl⟩ := List.mem_map.1 ha
    intro e
    have := (h.2.1 k hk).2
    rw [e, hl] at this
    cases this
  · intro k hk
    rcases List.mem_append.1 hk with hk | hk
    · exact ⟨(h.2.1 k hk).1, by simp only [(h.2.1 k hk).2, Bool.false_and]⟩
    · simp at hk; subst hk; exact ⟨hc, by simp [Lit.sameKey]⟩
  · intro k hk hf
    by_cases e : k.n = c.n
    · rw [hs.uniq hk hc e]; simp
    · refine List.mem_append_left _ (h.2.2 k hk ?_)
      simpa [Lit.sameKey, e] using hf
theorem MetH.step {H : List Hd} {left : Lit → Bool} {L : List Hd} (h : MetH H left L) (hs : HSort H) {c : Hd} (hc : c ∈ H) (hl : left (.int .u32 (c.o : Int)) = true) : MetH H (fun z => left z && !z.sameKey (.int .u32 (c.o : Int))) (L ++ [c]) := by
  refine ⟨?_, ?_, ?_⟩
  · rw [List.map_append]
    refine List.nodup_append.2 ⟨h.1, by simp, fun a ha b hb => ?_⟩
    simp at hb
    subst hb
    obtain ⟨k, hk, rfl⟩ := List.mem_map.1 ha
    intro e
    have := (h.2.1 k hk).2
    rw [e, hl] at this
    cases this
  · intro k hk
    rcases List.mem_append.1 hk with hk | hk
    · exact ⟨(h.2.1 k hk).1, by simp only [(h.2.1 k hk).2, Bool.false_and]⟩
    · simp at hk; subst hk; exact ⟨hc, by simp [Lit.sameKey]⟩
  · intro k hk hf
    by_cases e : k.o = c.o
    · rw [hs.uniq hk hc e]; simp
    · refine List.mem_append_left _ (h.2.2 k hk ?_)
      have e' : ¬ (k.o : Int) = (c.o : Int) := by omega
      simpa [Lit.sameKey, e, e'] using hf
theorem nodup_of_map {α β : Type} (f : α → β) : ∀ {l : List α}, (l.map f).Nodup → l.Nodup
  | [], _ => List.nodup_nil
  | x :: r, h => by
    rw [List.map_cons, List.nodup_cons] at h
    exact List.nodup_cons.2 ⟨fun hx => h.1 (List.mem_map_of_mem hx), nodup_of_map f h.2⟩
theorem MetK.perm {K : List Kd} {left : Lit → Bool} {L : List Kd} (h : MetK K left L) (hs : KSort K) (hl : ∀ kl, left kl = false) : L.Perm K := by
  have hn : K.Nodup := List.Pairwise.imp (fun {a b} hlt e => by subst e; exact nm_irrefl _ hlt) hs
  refine (List.perm_ext_iff_of_nodup (nodup_of_map _ h.1) hn).2 fun k => ⟨fun hk => (h.2.1 k hk).1, fun hk => h.2.2 k hk (hl _)⟩
theorem MetH.perm {H : List Hd} {left : Lit → Bool} {L : List Hd} (h : MetH H left L) (hs : HSort H) (hl : ∀ kl, left kl = false) : L.Perm H := by
  have hn : H.Nodup := List.Pairwise.imp (fun {a b} hlt e => by subst e; omega) hs
  refine (List.perm_ext_iff_of_nodup (nodup_of_map _ h.1) hn).2 fun k => ⟨fun hk => (h.2.1 k hk).1, fun hk => h.2.2 k hk (hl _)⟩
/-- The payments of all states, one state behind the other, are all payments. -/
theorem perm_states : ∀ H : List Hd, (∀ h ∈ H, 1 ≤ h.t ∧ h.t ≤ 3) → (stH H 1 ++ stH H 2 ++ stH H 3).Perm H
  | [], _ => List.Perm.refl _
  | h :: r, hb => by
    have ih := perm_states r fun y hy => hb y (List.mem_cons_of_mem _ hy)
    have hc : ∀ t, stH (h :: r) t = if h.t == t then h :: stH r t else stH r t := fun t => by unfold stH; rw [List.filter_cons]
    rw [hc, hc, hc]
    obtain ⟨b1, b2⟩ := hb h (List.mem_cons_self ..)
    rcases (by omega : h.t = 1 ∨ h.t = 2 ∨ h.t = 3) with e | e | e <;> rw [e] <;> simp only [Nat.reduceBEq, Bool.false_eq_true, if_false, if_true, beq_self_eq_true]
    · exact ih.cons h
    · refine List.Perm.trans ?_ (ih.cons h)
      rw [List.append_assoc, List.append_assoc, List.cons_append]
      exact List.perm_middle
    · refine List.Perm.trans ?_ (ih.cons h)
      exact List.perm_middle

end Go.Proofs.Ytlgdjmmhdfpfeaa
