/-
  Bookings sorted day by day, as the reference does it: the mathematics.
-/
import Derived.Test.YtnajombhlmbopaaSMath
namespace Go.Proofs.Ytnajombhlmbopaa
set_option linter.unusedVariables false

/-- The bookings of the days ahead of D; of the day D; those of the first i that came that are of the day D. -/
def upto (H : List Hd) (D : Nat) : List Hd := H.filter (fun h => decide (h.d < D))
def onD (H : List Hd) (D : Nat) : List Hd := H.filter (fun h => h.d == D)
def onL (L : List Hd) (D i : Nat) : List Hd := (L.take i).filter (fun h => h.d == D)
theorem mem_upto {H : List Hd} {D : Nat} {y : Hd} : y ∈ upto H D ↔ y ∈ H ∧ y.d < D := by simp [upto]
theorem mem_onD {H : List Hd} {D : Nat} {y : Hd} : y ∈ onD H D ↔ y ∈ H ∧ y.d = D := by simp [onD]
theorem HSort.upto {H : List Hd} (h : HSort H) (D : Nat) : HSort (upto H D) := ⟨h.p.filter _, h.u.filter _⟩
theorem HSort.onD {H : List Hd} (h : HSort H) (D : Nat) : HSort (onD H D) := ⟨h.p.filter _, h.u.filter _⟩
theorem upto_zero (H : List Hd) : upto H 0 = [] := by
  unfold Go.Proofs.Ytnajombhlmbopaa.upto
  rw [List.filter_eq_nil_iff]
  intro y _
  simp
theorem upto_all {H : List Hd} {D : Nat} (h : ∀ y ∈ H, y.d < D) : upto H D = H := by
  unfold Go.Proofs.Ytnajombhlmbopaa.upto
  rw [List.filter_eq_self]
  intro y hy
  simpa using h y hy
theorem upto_succ {H : List Hd} (h : HSort H) (D : Nat) : upto H (D + 1) = upto H D ++ onD H D := by
  refine (h.upto (D + 1)).ext ⟨?_, ?_⟩ fun y => ?_
  · rw [List.pairwise_append]
    refine ⟨(h.upto D).p, (h.onD D).p, fun a ha b hb => ?_⟩
    have h1 := (mem_upto.1 ha).2
    have h2 := (mem_onD.1 hb).2
    exact .inl (by omega)
  · rw [List.pairwise_append]
    refine ⟨(h.upto D).u, (h.onD D).u, fun a ha b hb e => ?_⟩
    obtain ⟨a1, a2⟩ := mem_upto.1 ha
    obtain ⟨b1, b2⟩ := mem_onD.1 hb
    have := h.uniq a1 b1 e
    subst this
    omega
  · rw [List.mem_append, mem_upto, mem_upto, mem_onD]
    constructor
    · rintro ⟨h1, h2⟩
      by_cases e : y.d = D
      · exact .inr ⟨h1, e⟩
      · exact .inl ⟨h1, by omega⟩
    · rintro (⟨h1, h2⟩ | ⟨h1, h2⟩)
      · exact ⟨h1, by omega⟩
      · exact ⟨h1, by omega⟩
theorem onL_skip {L : List Hd} {D i : Nat} (hi : i < L.length) (h : L[i].d ≠ D) : onL L D (i + 1) = onL L D i := by
  unfold onL
  rw [List.take_succ_eq_append_getElem hi, List.filter_append]
  simp [h]
theorem onL_more {L : List Hd} {D i : Nat} (hi : i < L.length) (h : L[i].d = D) : onL L D (i + 1) = onL L D i ++ [L[i]] := by
  unfold onL
  rw [List.take_succ_eq_append_getElem hi, List.filter_append]
  simp [h]
/-- A booking more of the same day, put in its place. -/
theorem ins_at {T : List Hd} (hs : HSort T) (x : Hd) (hd : ∀ z ∈ T, z.d = x.d) (hn : ∀ z ∈ T, z.o ≠ x.o) : ∀ {k : Nat}, k ≤ T.length → (∀ (i : Nat) (hi : i < T.length), i < k → T[i].o < x.o) → (∀ (h : k < T.length), ¬ T[k].o < x.o) → insH x T = T.take k ++ x :: T.drop k := by
  induction T with
  | nil => intro k hk _ _; have : k = 0 := by simpa using hk
           subst this; rfl
  | cons c r ih =>
    obtain ⟨h1, h2⟩ := hs.cons
    have hcd := hd c (List.mem_cons_self ..)
    have hcn := hn c (List.mem_cons_self ..)
    intro k hk hlt hge
    cases k with
    | zero =>
      have h := hge (by simp)
      rw [List.getElem_cons_zero] at h
      have : ahead x c := by unfold ahead; omega
      unfold insH
      rw [if_pos this]
      rfl
    | succ k =>
      have hc := hlt 0 (by simp) (by omega)
      rw [List.getElem_cons_zero] at hc
      have : ¬ ahead x c := by unfold ahead; omega
      have e1 := ih h2 (fun z hz => hd z (List.mem_cons_of_mem _ hz)) (fun z hz => hn z (List.mem_cons_of_mem _ hz)) (k := k) (by simpa using hk) (fun i hi hik => by have := hlt (i + 1) (by simpa using hi) (by omega); simpa using this) (fun h => by have := hge (by simpa using h); simpa using this)
      conv => lhs; unfold insH
      rw [if_neg this, e1]
      rfl
/-- What stands for the day D, behind the first i. -/
structure Tod (L : List Hd) (D i : Nat) (T : List Hd) : Prop where
  s : HSort T
  p : T.Perm (onL L D i)
theorem Tod.zero (L : List Hd) (D : Nat) : Tod L D 0 [] := ⟨HSort.nil, List.Perm.refl _⟩
theorem Tod.skip {L : List Hd} {D i : Nat} {T : List Hd} (h : Tod L D i T) (hi : i < L.length) (hd : L[i].d ≠ D) : Tod L D (i + 1) T := ⟨h.s, by rw [onL_skip hi hd]; exact h.p⟩
theorem Tod.mem {L : List Hd} {D i : Nat} {T : List Hd} (h : Tod L D i T) {z : Hd} (hz : z ∈ T) : z ∈ L.take i ∧ z.d = D := by
  have := h.p.mem_iff.1 hz
  simpa [onL] using this
theorem Tod.len {L : List Hd} {D i : Nat} {T : List Hd} (h : Tod L D i T) : T.length ≤ L.length := by
  rw [h.p.length_eq]
  unfold onL
  have := List.length_filter_le (fun h : Hd => h.d == D) (L.take i)
  rw [List.length_take] at this
  omega
theorem Tod.more {L : List Hd} (hu : L.Pairwise (fun a b => a.o ≠ b.o)) {D i : Nat} {T : List Hd} (h : Tod L D i T) (hi : i < L.length) (hd : L[i].d = D) {k : Nat} (hk : k ≤ T.length) (h1 : ∀ (p : Nat) (hp : p < T.length), p < k → T[p].o < L[i].o) (h2 : ∀ (h : k < T.length), ¬ T[k].o < L[i].o) :
    Tod L D (i + 1) (T.take k ++ [L[i]] ++ T.drop k) := by
  have hn : ∀ z ∈ T, z.o ≠ L[i].o := by
    intro z hz e
    obtain ⟨p, hp, rfl⟩ := List.getElem_of_mem (h.mem hz).1
    rw [List.length_take] at hp
    rw [List.getElem_take] at e
    exact (List.pairwise_iff_getElem.1 hu p i (by omega) hi (by omega)) e
  have e := ins_at h.s L[i] (fun z hz => by rw [(h.mem hz).2, hd]) hn hk h1 h2
  have e2 : T.take k ++ [L[i]] ++ T.drop k = insH L[i] T := by rw [e, List.append_assoc]; rfl
  rw [e2]
  refine ⟨h.s.ins hn, ?_⟩
  rw [onL_more hi hd]
  exact (ins_perm _ _).trans ((h.p.cons _).trans (List.perm_append_singleton _ _).symm)
theorem Tod.fin {H L : List Hd} (hs : HSort H) (hp : H.Perm L) {D : Nat} {T : List Hd} (h : Tod L D L.length T) : T = onD H D := by
  refine h.s.ext (hs.onD D) fun y => ?_
  rw [h.p.mem_iff, mem_onD, hp.mem_iff]
  simp [onL]

end Go.Proofs.Ytnajombhlmbopaa
