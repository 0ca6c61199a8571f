/-
  The dock and its reference: what they have in common, and that it stays so.
-/
import Derived.Test.YtnajombhlmbopaaRefO
import Derived.Test.YtnajombhlmbopaaRefT
import Derived.Test.YtnajombhlmbopaaRefM
import Derived.Test.YtnajombhlmbopaaHelp
namespace Go.Proofs.Ytnajombhlmbopaa
open Go.Proofs Go.RowKit
set_option maxRecDepth 100000
set_option linter.unusedVariables false

/-- What they have in common. -/
structure Rel (R : List Int) (q : Ss) (r : Rs) : Prop where
  f : r.F = R
  p : q.H.Perm r.L
section
variable {R : List Int} {q : Ss} {r : Rs}
theorem Rel.fok (h : Rel R q r) (hI : Inv R q) : FOk r.F := by
  rw [h.f]
  exact ⟨by have := hI.fz; omega, hI.rr⟩
theorem Rel.sumok (h : Rel R q r) (hI : Inv R q) (hl : q.H.length ≤ 1000) : SumOk r.L := ⟨by rw [← h.p.length_eq]; exact hl, fun y hy => by
  have h1 := hI.hh y (h.p.mem_iff.2 hy)
  omega⟩
theorem Rel.free (h : Rel R q r) (hI : Inv R q) : freeL r = q.F := by
  refine fr_ext (by rw [freeL_len, h.f, hI.fl]) fun d hd => ?_
  rw [freeL_len] at hd
  rw [fr_freeL r d hd, h.f, ← bkd_perm h.p]
  rw [h.f] at hd
  have := (hI.ff d hd).2
  omega
theorem Rel.room (h : Rel R q r) (hI : Inv R q) (d : Int) : rroomI r d = roomI q.F d := by
  unfold rroomI roomI
  rw [show q.F.length = r.F.length from by rw [h.f, hI.fl]]
  by_cases hd : 0 ≤ d ∧ d < (r.F.length : Int)
  · rw [if_pos hd, if_pos hd, ← fr_freeL r d.toNat (by omega), h.free hI]
  · rw [if_neg hd, if_neg hd]
theorem Rel.at_none (h : Rel R q r) {o : Nat} (hf : findH q.H o = none) : r.L.findIdx? (fun h => h.o == o) = none := by
  rw [List.findIdx?_eq_none_iff]
  intro y hy
  simpa using findH_none hf y (h.p.mem_iff.2 hy)
theorem Rel.at_some (h : Rel R q r) (hI : Inv R q) {o : Nat} {y : Hd} (hf : findH q.H o = some y) : ∃ (i : Nat) (hi : i < r.L.length), r.L.findIdx? (fun h => h.o == o) = some i ∧ r.L[i] = y := by
  obtain ⟨hy, ho⟩ := findH_some hf
  cases hx : r.L.findIdx? (fun h => h.o == o) with
  | none =>
    have := List.findIdx?_eq_none_iff.1 hx y (h.p.mem_iff.1 hy)
    simp [ho] at this
  | some i =>
    obtain ⟨hi, h1, -⟩ := List.findIdx?_eq_some_iff_getElem.1 hx
    have h1' : r.L[i].o = o := by simpa using h1
    exact ⟨i, hi, rfl, hI.hs.uniq (h.p.mem_iff.2 (List.getElem_mem hi)) hy (h1'.trans ho.symm)⟩
theorem Rel.atN (h : Rel R q r) (hI : Inv R q) (o : Nat) : ¬ 0 ≤ Go.Proofs.Ytnajombhlmbopaa.atN r.L o ↔ findH q.H o = none := by
  unfold Go.Proofs.Ytnajombhlmbopaa.atN
  cases hf : findH q.H o with
  | none => rw [h.at_none hf]; simp
  | some y =>
    obtain ⟨i, hi, e, -⟩ := h.at_some hI hf
    rw [e]
    simp
theorem Rel.bookD (h : Rel R q r) (hI : Inv R q) (o : Nat) (f n : Int) : rbookD r o f n = Go.Proofs.Ytnajombhlmbopaa.bookD q o f n := by
  unfold rbookD Go.Proofs.Ytnajombhlmbopaa.bookD
  rw [h.free hI]
  by_cases hc : o ≠ 0 ∧ 1 ≤ n ∧ 0 ≤ f ∧ findH q.H o = none
  · rw [if_pos hc, if_pos ⟨hc.1, hc.2.1, hc.2.2.1, (h.atN hI o).2 hc.2.2.2⟩]
  · rw [if_neg hc, if_neg (fun hh => hc ⟨hh.1, hh.2.1, hh.2.2.1, (h.atN hI o).1 hh.2.2.2⟩)]
theorem Rel.cancV (h : Rel R q r) (hI : Inv R q) (o : Nat) : rcancV r o = (findH q.H o).isSome := by
  unfold rcancV
  cases hf : findH q.H o with
  | none => rw [h.at_none hf]; rfl
  | some y =>
    obtain ⟨i, hi, e, -⟩ := h.at_some hI hf
    rw [e]; rfl
theorem Rel.book (h : Rel R q r) (hI : Inv R q) (o : Nat) (f n : Int) : Rel R (bookS q o f n) (rbookS r o n (rbookD r o f n)) := by
  rw [h.bookD hI]
  cases hv : Go.Proofs.Ytnajombhlmbopaa.bookD q o f n with
  | none => rw [bookS_no hv]; exact h
  | some d =>
    rw [bookS_yes hv]
    exact ⟨h.f, (ins_perm _ _).trans ((h.p.cons _).trans (List.perm_append_singleton _ _).symm)⟩
theorem erase_del : ∀ {L : List Hd} (hu : L.Pairwise (fun a b => a.o ≠ b.o)) {p : Nat} (hp : p < L.length), L.eraseIdx p = delH L L[p].o
  | [], _, p, hp => absurd hp (by simp)
  | x :: r, hu, 0, _ => by
    obtain ⟨h1, -⟩ := List.pairwise_cons.1 hu
    have : delH r x.o = r := delH_none fun y hy e => h1 y hy e.symm
    unfold delH at this ⊢
    simp [this]
  | x :: r, hu, p + 1, hp => by
    obtain ⟨h1, h2⟩ := List.pairwise_cons.1 hu
    have hp' : p < r.length := by simpa using hp
    have ih := erase_del h2 hp'
    have hx := h1 r[p] (List.getElem_mem hp')
    rw [List.eraseIdx_cons_succ, ih, List.getElem_cons_succ]
    unfold delH
    rw [List.filter_cons, if_pos (by simpa using hx)]
theorem Rel.canc (h : Rel R q r) (hI : Inv R q) (o : Nat) : Rel R (cancS q o) (rcancS r o) := by
  unfold rcancS
  cases hf : findH q.H o with
  | none => rw [h.at_none hf, cancS_no hf]; exact h
  | some y =>
    obtain ⟨i, hi, e, hy⟩ := h.at_some hI hf
    have ho := (findH_some hf).2
    rw [e, cancS_yes hf]
    refine ⟨h.f, ?_⟩
    show (delH q.H o).Perm (r.L.eraseIdx i)
    have hu : r.L.Pairwise (fun a b => a.o ≠ b.o) := (h.p.pairwise_iff (fun {a b} (h : a.o ≠ b.o) => Ne.symm h)).1 hI.hs.u
    rw [erase_del hu hi, hy, ho]
    exact h.p.filter _
theorem Rel.start {l : List Int} : Rel l ⟨l, []⟩ ⟨l, []⟩ := ⟨rfl, List.Perm.refl _⟩
/-- An act, as the reference does it. -/
def rstep (r : Rs) (a : Ac) : Rs := if isBk a.t = true then rbookS r a.o a.n (rbookD r a.o a.f a.n) else rcancS r a.o
theorem Rel.step (h : Rel R q r) (hI : Inv R q) (a : Ac) : Rel R (actS q a) (rstep r a) := by
  unfold actS rstep
  split
  · exact h.book hI _ _ _
  · exact h.canc hI _
end

end Go.Proofs.Ytnajombhlmbopaa
