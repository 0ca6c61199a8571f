/-
  The purse and its reference: what they have in common, and that it stays so.
-/
import Derived.Test.YtlgdjmmhdfpfeaaRefO
import Derived.Test.YtlgdjmmhdfpfeaaRefT
namespace Go.Proofs.Ytlgdjmmhdfpfeaa
open Go.Proofs Go.RowKit
set_option maxRecDepth 100000
set_option linter.unusedVariables false

/-- What was there at first, by name. -/
def firstL (q : Ss) : List Kd := q.K.map (fun k => ⟨k.n, k.m + held q.H k.n 2, 0⟩)
theorem first_upd {q : Ss} (hI : Inv q) {k k' : Kd} (hm : k ∈ q.K) (hn : k'.n = k.n) (H' : List Hd) (h1 : k'.m + held H' k.n 2 = k.m + held q.H k.n 2) (h2 : ∀ x, x ≠ k.n → held H' x 2 = held q.H x 2) : firstL ⟨updK q.K k', H'⟩ = firstL q := by
  unfold firstL updK
  rw [List.map_map]
  refine List.map_congr_left fun y hy => ?_
  simp only [Function.comp]
  by_cases e : y.n = k'.n
  · have ey : y = k := hI.ks.uniq hy hm (e.trans hn)
    subst ey
    rw [if_pos (by simpa using e), hn, h1]
  · rw [if_neg (by simpa using e), h2 y.n (fun h => e (h.trans hn.symm))]
theorem first_auth {q : Ss} (hI : Inv q) (o : Nat) (x : List UInt8) (n : Int) : firstL (authS q o x n) = firstL q := by
  cases hv : authV q o x n
  · rw [authS_no hv]
  · obtain ⟨-, -, -, k, hk, -⟩ := authV_iff.1 hv
    obtain ⟨hm, rfl⟩ := findK_some hk
    rw [authS_yes hv hk]
    refine first_upd hI (k := k) (k' := ⟨k.n, k.m, k.h + n⟩) hm rfl _ ?_ fun x hx => ?_
    · rw [held_ins]; simp
    · rw [held_ins]; simp
theorem first_mov {q : Ss} (hI : Inv q) (o : Nat) {c : Nat} (hc : c ≤ 2) : firstL (movS q o c) = firstL q := by
  cases hv : movV q o c with
  | false => rw [movS_no hv]
  | true =>
    obtain ⟨y, hf, ht⟩ := movV_iff.1 hv
    obtain ⟨hy, rfl⟩ := findH_some hf
    obtain ⟨k, hk, hm, e⟩ := hI.kn hy
    rw [movS_yes hf ht hk]
    refine first_upd hI (k := k) (k' := movK k y.k c) hm (movK_n k y.k c) _ ?_ fun x hx => ?_
    · rw [held_set hI.hs hy, ht, e]
      simp only [beq_self_eq_true, Bool.true_and]
      rcases frS_or c hc with ⟨rfl, e1, e2⟩ | ⟨rfl, e1, e2⟩ | ⟨rfl, e1, e2⟩ <;> (rw [e1, e2]; unfold movK; simp; try omega)
    · rw [held_set hI.hs hy]
      have hb : (y.n == x) = false := by rw [beq_eq_false_iff_ne]; intro h'; exact hx (h'.symm.trans e.symm)
      simp only [hb, Bool.false_and, Bool.false_eq_true, if_false]
      omega
theorem held_perm {L L' : List Hd} (h : L.Perm L') (x : List UInt8) (t : Nat) : held L x t = held L' x t := by
  induction h with
  | nil => rfl
  | cons a _ ih => simp only [held, ih]
  | swap a b l => simp only [held]; omega
  | trans _ _ i1 i2 => exact i1.trans i2
theorem tot_perm {L L' : List Hd} (h : L.Perm L') (t : Nat) : tot L t = tot L' t := by
  induction h with
  | nil => rfl
  | cons a _ ih => simp only [tot, ih]
  | swap a b l => simp only [tot]; omega
  | trans _ _ i1 i2 => exact i1.trans i2
theorem perm_insH (h : Hd) : ∀ H : List Hd, (insH h H).Perm (h :: H)
  | [] => List.Perm.refl _
  | x :: r => by
    unfold insH
    split
    · exact List.Perm.refl _
    · exact ((perm_insH h r).cons x).trans (List.Perm.swap _ _ _)
/-- The payment of an order goes to a state, in whatever order payments stand. -/
theorem perm_set {H L : List Hd} (hs : HSort H) (hp : H.Perm L) {i : Nat} (hi : i < L.length) (t : Nat) : (setH H L[i].o t).Perm (L.set i ⟨L[i].o, L[i].n, L[i].k, t⟩) := by
  have e : L.set i ⟨L[i].o, L[i].n, L[i].k, t⟩ = setH L L[i].o t := by
    apply List.ext_getElem
    · rw [List.length_set, setH_length]
    · intro j h1 h2
      have hj : j < L.length := by rwa [List.length_set] at h1
      rw [setH_at L _ t j h2 hj, List.getElem_set]
      by_cases hij : i = j
      · subst hij; rw [if_pos rfl, if_pos rfl]
      · rw [if_neg hij, if_neg (fun ho => ?_)]
        have h3 := hs.uniq (hp.mem_iff.2 (List.getElem_mem hj)) (hp.mem_iff.2 (List.getElem_mem hi)) ho
        have hn : L.Nodup := hp.nodup_iff.1 (nodup_of_sort hs)
        exact hij ((List.getElem_inj hn).1 h3).symm
  rw [e]
  exact hp.map _

/-- What they have in common. -/
structure Rel (q : Ss) (r : Rs) : Prop where
  f : firstL q = r.F
  p : q.H.Perm r.L
theorem Rel.goods {q : Ss} {r : Rs} (h : Rel q r) (hI : Inv q) : rgoods r = q.K := by
  unfold rgoods
  rw [← h.f]
  unfold firstL
  rw [List.map_map]
  conv => rhs; rw [← List.map_id q.K]
  refine List.map_congr_left fun k hk => ?_
  simp only [Function.comp]
  rw [← held_perm h.p, ← held_perm h.p, ← (hI.kf k hk).2.2.1]
  show (⟨k.n, k.m + held q.H k.n 2 - held q.H k.n 2, k.h⟩ : Kd) = k
  rw [show k.m + held q.H k.n 2 - held q.H k.n 2 = k.m from by omega]
theorem Rel.fok {q : Ss} {r : Rs} (h : Rel q r) (hI : Inv q) : FOk r.F := by
  rw [← h.f]
  refine ⟨by unfold firstL; rw [List.length_map]; have := hI.kz; omega, fun g hg => ?_⟩
  unfold firstL at hg
  obtain ⟨k, hk, rfl⟩ := List.mem_map.1 hg
  have h1 := hI.kf k hk
  have h2 := hI.kbs hk
  have h3 := held_nonneg hI.pos k.n 2
  dsimp only
  omega
theorem Rel.sumok {q : Ss} {r : Rs} (h : Rel q r) (hI : Inv q) (hl : q.H.length ≤ 1000) : SumOk r.L := ⟨by rw [← h.p.length_eq]; exact hl, fun y hy => by
  have hy' := h.p.mem_iff.2 hy
  have h1 := (hI.hh y hy').1
  have h2 := (hI.kb hy').1
  omega⟩
theorem Rel.at_none {q : Ss} {r : Rs} (h : Rel q r) {o : Nat} (hf : findH q.H o = none) : r.L.findIdx? (fun h => h.o == o) = none := by
  rw [List.findIdx?_eq_none_iff]
  intro y hy
  simpa using findH_none hf y (h.p.mem_iff.2 hy)
theorem Rel.at_some {q : Ss} {r : Rs} (h : Rel q r) (hI : Inv q) {o : Nat} {y : Hd} (hf : findH q.H o = some y) : ∃ (i : Nat) (hi : i < r.L.length), r.L.findIdx? (fun h => h.o == o) = some i ∧ r.L[i] = y := by
  obtain ⟨hy, ho⟩ := findH_some hf
  cases hx : r.L.findIdx? (fun h => h.o == o) with
  | none =>
    have := List.findIdx?_eq_none_iff.1 hx y (h.p.mem_iff.1 hy)
    simp [ho] at this
  | some i =>
    obtain ⟨hi, h1, -⟩ := List.findIdx?_eq_some_iff_getElem.1 hx
    have h1' : r.L[i].o = o := by simpa using h1
    exact ⟨i, hi, rfl, hI.hs.uniq (h.p.mem_iff.2 (List.getElem_mem hi)) hy (h1'.trans ho.symm)⟩
theorem Rel.atN {q : Ss} {r : Rs} (h : Rel q r) (hI : Inv q) (o : Nat) : decide (Go.Proofs.Ytlgdjmmhdfpfeaa.atN r.L o < 0) = (findH q.H o).isNone := by
  unfold Go.Proofs.Ytlgdjmmhdfpfeaa.atN
  cases hf : findH q.H o with
  | none => rw [h.at_none hf]; rfl
  | some y =>
    obtain ⟨i, hi, e, -⟩ := h.at_some hI hf
    rw [e]
    simp
theorem Rel.authV {q : Ss} {r : Rs} (h : Rel q r) (hI : Inv q) (o : Nat) (x : List UInt8) (n : Int) : rauthV r o x n = Go.Proofs.Ytlgdjmmhdfpfeaa.authV q o x n := by
  unfold rauthV Go.Proofs.Ytlgdjmmhdfpfeaa.authV
  rw [h.atN hI, h.goods hI]
  congr 1
  cases hf : findK q.K x with
  | none =>
    dsimp only
    rw [List.any_eq_false]
    intro g hg
    have := findK_none hf g hg
    simp [fitsG, this]
  | some k =>
    obtain ⟨hk, rfl⟩ := findK_some hf
    dsimp only
    by_cases hn : n ≤ k.m - k.h
    · rw [show decide (n ≤ k.m - k.h) = true from by simpa using hn, List.any_eq_true]
      exact ⟨k, hk, by simp [fitsG, hn]⟩
    · rw [show decide (n ≤ k.m - k.h) = false from by simpa using hn, List.any_eq_false]
      intro g hg
      by_cases e : g.n = k.n
      · rw [hI.ks.uniq hg hk e]
        simp [fitsG, hn]
      · simp [fitsG, e]
theorem Rel.movV {q : Ss} {r : Rs} (h : Rel q r) (hI : Inv q) (o c : Nat) : rturnV r o (frS c) = Go.Proofs.Ytlgdjmmhdfpfeaa.movV q o c := by
  unfold rturnV Go.Proofs.Ytlgdjmmhdfpfeaa.movV
  cases hf : findH q.H o with
  | none => rw [h.at_none hf]
  | some y =>
    obtain ⟨i, hi, e, hy⟩ := h.at_some hI hf
    rw [e]
    dsimp only
    rw [List.getD_eq_getElem?_getD, List.getElem?_eq_getElem hi, hy]
    rfl
theorem Rel.auth {q : Ss} {r : Rs} (h : Rel q r) (hI : Inv q) (o : Nat) (x : List UInt8) (n : Int) : Rel (authS q o x n) (rauthS r o x n) := by
  unfold rauthS
  rw [h.authV hI]
  by_cases hv : Go.Proofs.Ytlgdjmmhdfpfeaa.authV q o x n = true
  · rw [if_pos hv]
    obtain ⟨-, -, -, k, hk, -⟩ := authV_iff.1 hv
    obtain ⟨hm, rfl⟩ := findK_some hk
    refine ⟨(first_auth hI _ _ _).trans h.f, ?_⟩
    rw [authS_yes hv hk]
    exact (perm_insH _ _).trans ((h.p.cons _).trans (List.perm_append_singleton _ _).symm)
  · rw [if_neg hv, authS_no (by simpa using hv)]
    exact h
theorem Rel.mov {q : Ss} {r : Rs} (h : Rel q r) (hI : Inv q) (o : Nat) {c : Nat} (hc : c ≤ 2) : Rel (movS q o c) (rturnS r o (frS c) (toS c)) := by
  unfold rturnS
  rw [h.movV hI]
  by_cases hv : Go.Proofs.Ytlgdjmmhdfpfeaa.movV q o c = true
  · rw [if_pos hv]
    obtain ⟨y, hf, ht⟩ := movV_iff.1 hv
    obtain ⟨i, hi, e, hy⟩ := h.at_some hI hf
    obtain ⟨hyH, hyo⟩ := findH_some hf
    obtain ⟨k, hk, hm, hkn⟩ := hI.kn hyH
    rw [e]
    dsimp only
    have hgd : r.L.getD i default = r.L[i] := by rw [List.getD_eq_getElem?_getD, List.getElem?_eq_getElem hi]; rfl
    rw [hgd]
    refine ⟨(first_mov hI o hc).trans h.f, ?_⟩
    rw [movS_yes hf ht hk]
    have := perm_set hI.hs h.p hi (toS c)
    rw [hy, hyo] at this
    rw [hy, hyo]
    exact this
  · rw [if_neg hv, movS_no (by simpa using hv)]
    exact h
theorem Rel.start {K : List Kd} {l : List Kd} (h : newOf l = some K) : Rel ⟨K, []⟩ ⟨K, []⟩ := by
  have hN := (newOf_some h).2.2
  refine ⟨?_, List.Perm.refl _⟩
  unfold firstL
  conv => rhs; rw [← List.map_id K]
  refine List.map_congr_left fun k hk => ?_
  have := (goodB_iff.1 (hN.good k hk)).2.2.2.2
  show (⟨k.n, k.m + 0, 0⟩ : Kd) = k
  obtain ⟨kn, km, kh⟩ := k
  dsimp only at this ⊢
  subst this
  rw [Int.add_zero]

/-- An act, as the reference does it. -/
def rstep (r : Rs) (a : Ac) : Rs := if a.t = 0 ∨ a.t = 1 then rauthS r a.o a.x a.n else rturnS r a.o (frS (wayOf a.t)) (toS (wayOf a.t))
def rstepV (r : Rs) (a : Ac) : Bool := if a.t = 0 ∨ a.t = 1 then rauthV r a.o a.x a.n else rturnV r a.o (frS (wayOf a.t))
theorem Rel.step {q : Ss} {r : Rs} (h : Rel q r) (hI : Inv q) (a : Ac) : Rel (actS q a) (rstep r a) := by
  unfold actS rstep
  split
  · exact h.auth hI _ _ _
  · exact h.mov hI _ (wayOf_le _)
theorem Rel.stepV {q : Ss} {r : Rs} (h : Rel q r) (hI : Inv q) (a : Ac) : rstepV r a = actV q a := by
  unfold actV rstepV
  split
  · exact h.authV hI _ _ _
  · exact h.movV hI _ _

end Go.Proofs.Ytlgdjmmhdfpfeaa
