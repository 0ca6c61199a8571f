/-
  The stock and its reference: what they have in common, and that it stays so.
-/
import Derived.Test.YtimoobhnhldgbaaRefO
import Derived.Test.YtimoobhnhldgbaaRefL
import Derived.Test.YtimoobhnhldgbaaOnceP
namespace Go.Proofs.Ytimoobhnhldgbaa
open Go.Proofs Go.RowKit
set_option maxRecDepth 100000
set_option linter.unusedVariables false

theorem held_perm {L L' : List Hd} (h : L.Perm L') (x : List UInt8) : held L x = held L' x := by
  induction h with
  | nil => rfl
  | cons a _ ih => simp only [held, ih]
  | swap a b l => simp only [held]; omega
  | trans _ _ i1 i2 => exact i1.trans i2
theorem perm_insH (h : Hd) : ∀ H : List Hd, (insH h H).Perm (h :: H)
  | [] => List.Perm.refl _
  | x :: r => by
    unfold insH
    split
    · exact List.Perm.refl _
    · exact ((perm_insH h r).cons x).trans (List.Perm.swap _ _ _)
theorem perm_delH {H : List Hd} (hs : HSort H) {h : Hd} (hh : h ∈ H) : (h :: delH H h.o).Perm H := by
  induction H with
  | nil => cases hh
  | cons x r ih =>
    obtain ⟨h1, h2⟩ := List.pairwise_cons.1 hs
    rcases List.mem_cons.1 hh with rfl | hr
    · have : delH r h.o = r := by
        unfold delH
        rw [List.filter_eq_self]
        intro y hy
        have := h1 y hy
        simp; omega
      unfold delH at this ⊢
      rw [List.filter_cons, if_neg (by simp), this]
    · have hx := h1 h hr
      have := ih h2 hr
      unfold delH at this ⊢
      rw [List.filter_cons, if_pos (by simp; omega)]
      exact (List.Perm.swap _ _ _).trans (this.cons x)
theorem perm_dropAt {L : List Hd} {i : Nat} (hi : i < L.length) : (L[i] :: dropAt L i).Perm L := by
  have e : L = L.take i ++ L[i] :: L.drop (i + 1) := by
    rw [← List.drop_eq_getElem_cons hi, List.take_append_drop]
  conv => rhs; rw [e]
  exact List.perm_middle.symm

/-- What they have in common. -/
structure Rel (q : Ss) (r : Rs) : Prop where
  f : sumL q = r.F
  a : ∀ x, held r.A x = goneN q.K x
  p : q.H.Perm r.L
  ka : ∀ h ∈ r.A, 0 ≤ h.k ∧ h.k ≤ 1000000
theorem Rel.goods {q : Ss} {r : Rs} (h : Rel q r) (hI : Inv q) : rgoods r = goodsL q.K := by
  unfold rgoods goodsL
  rw [← h.f]
  unfold sumL
  rw [List.map_map]
  refine List.map_congr_left fun k hk => ?_
  simp only [Function.comp]
  rw [h.a, goneN_at hI hk, ← held_perm h.p]
  congr 1
  omega
theorem Rel.fok {q : Ss} {r : Rs} (h : Rel q r) (hI : Inv q) : FOk r.F := by
  rw [← h.f]
  refine ⟨by unfold sumL; rw [List.length_map]; have := hI.kz; omega, fun g hg => ?_⟩
  unfold sumL at hg
  obtain ⟨k, hk, rfl⟩ := List.mem_map.1 hg
  have h1 := hI.kf k hk
  have h2 := held_nonneg (fun z hz => (hI.hh z hz).1) k.n
  dsimp only
  omega
theorem Rel.sumL {q : Ss} {r : Rs} (h : Rel q r) (hI : Inv q) (hl : r.L.length ≤ 1000) : SumOk r.L := ⟨hl, fun y hy => by
  have hy' := h.p.mem_iff.2 hy
  have h1 := (hI.hh y hy').1
  have h2 := (hI.kb hy').1
  omega⟩
theorem Rel.sumA {q : Ss} {r : Rs} (h : Rel q r) (hl : r.A.length ≤ 1000) : SumOk r.A := ⟨hl, h.ka⟩
theorem Rel.at_none {q : Ss} {r : Rs} (h : Rel q r) {o : Nat} (hf : findH q.H o = none) : r.L.findIdx? (fun h => h.o == o) = none := by
  rw [List.findIdx?_eq_none_iff]
  intro y hy
  simpa using findH_none hf y (h.p.mem_iff.2 hy)
theorem Rel.at_some {q : Ss} {r : Rs} (h : Rel q r) (hI : Inv q) {o : Nat} {y : Hd} (hf : findH q.H o = some y) : ∃ (i : Nat) (hi : i < r.L.length), r.L.findIdx? (fun h => h.o == o) = some i ∧ r.L[i] = y := by
  obtain ⟨hy, ho⟩ := findH_some hf
  cases hx : r.L.findIdx? (fun h => h.o == o) with
  | none =>
    have := List.findIdx?_eq_none_iff.1 hx y (h.p.mem_iff.1 hy)
    simp [ho] at this
  | some i =>
    obtain ⟨hi, h1, -⟩ := List.findIdx?_eq_some_iff_getElem.1 hx
    have h1' : r.L[i].o = o := by simpa using h1
    exact ⟨i, hi, rfl, hI.hs.uniq (h.p.mem_iff.2 (List.getElem_mem hi)) hy (h1'.trans ho.symm)⟩
theorem Rel.atN {q : Ss} {r : Rs} (h : Rel q r) (hI : Inv q) (o : Nat) : decide (0 ≤ atN r.L o) = endV q o := by
  unfold endV Ytimoobhnhldgbaa.atN
  cases hf : findH q.H o with
  | none => rw [h.at_none hf]; rfl
  | some y =>
    obtain ⟨i, hi, e, -⟩ := h.at_some hI hf
    rw [e]
    simp
theorem Rel.holdV {q : Ss} {r : Rs} (h : Rel q r) (hI : Inv q) (o : Nat) (x : List UInt8) (n : Int) : rholdV r o x n = Ytimoobhnhldgbaa.holdV q o x n := by
  have h1 := h.atN hI o
  have h2 : decide (Ytimoobhnhldgbaa.atN r.L o < 0) = (findH q.H o).isNone := by
    have : decide (Ytimoobhnhldgbaa.atN r.L o < 0) = !decide (0 ≤ Ytimoobhnhldgbaa.atN r.L o) := by
      by_cases h : 0 ≤ Ytimoobhnhldgbaa.atN r.L o
      · simp [h]
      · simp [h]; omega
    rw [this, h1]
    unfold endV
    cases findH q.H o <;> rfl
  unfold rholdV Ytimoobhnhldgbaa.holdV
  rw [h2, h.goods hI]
  congr 1
  cases hf : findK q.K x with
  | none =>
    dsimp only
    rw [List.any_eq_false]
    intro g hg
    obtain ⟨k, hk, rfl⟩ := List.mem_map.1 hg
    have := findK_none hf k hk
    simp [fitsG, this]
  | some k =>
    obtain ⟨hk, rfl⟩ := findK_some hf
    dsimp only
    by_cases hn : n ≤ k.f
    · rw [show decide (n ≤ k.f) = true from by simpa using hn, List.any_eq_true]
      exact ⟨⟨k.n, k.f⟩, List.mem_map.2 ⟨k, hk, rfl⟩, by simp [fitsG, hn]⟩
    · rw [show decide (n ≤ k.f) = false from by simpa using hn, List.any_eq_false]
      intro g hg
      obtain ⟨k', hk', rfl⟩ := List.mem_map.1 hg
      by_cases e : k'.n = k.n
      · rw [hI.ks.uniq hk' hk e]
        simp [fitsG, hn]
      · simp [fitsG, e]
theorem Rel.leaveV {q : Ss} {r : Rs} (h : Rel q r) (hI : Inv q) (o : Nat) : rleaveV r o = endV q o := h.atN hI o
theorem Rel.hold {q : Ss} {r : Rs} (h : Rel q r) (hI : Inv q) (o : Nat) (x : List UInt8) (n : Int) : Rel (holdS q o x n) (rholdS r o x n) := by
  unfold rholdS
  rw [h.holdV hI]
  by_cases hv : Ytimoobhnhldgbaa.holdV q o x n = true
  · rw [if_pos hv]
    obtain ⟨-, -, -, k, hk, -⟩ := holdV_iff.1 hv
    obtain ⟨hm, rfl⟩ := findK_some hk
    refine ⟨(sum_hold hI _ _ _).trans h.f, fun y => (h.a y).trans (gone_hold hI _ _ _ y).symm, ?_, h.ka⟩
    rw [holdS_yes hv hk]
    exact (perm_insH _ _).trans ((h.p.cons _).trans (List.perm_append_singleton _ _).symm)
  · rw [if_neg hv, holdS_no (by simpa using hv)]
    exact h
theorem Rel.leave {q : Ss} {r : Rs} (h : Rel q r) (hI : Inv q) (o : Nat) (b : Bool) : Rel (endS q o b) (rleaveS r o b) := by
  unfold rleaveS
  cases hf : findH q.H o with
  | none =>
    rw [h.at_none hf, endS_no hf]
    exact h
  | some y =>
    obtain ⟨i, hi, e, hy⟩ := h.at_some hI hf
    obtain ⟨hyH, hyo⟩ := findH_some hf
    obtain ⟨k, hk, hm, hkn⟩ := hI.kn hyH
    rw [e]
    dsimp only
    rw [show r.L[i]? = some y from by rw [List.getElem?_eq_getElem hi, hy]]
    have hb := hI.kb hyH
    have h1 := (hI.hh y hyH).1
    refine ⟨(sum_end hI o b).trans h.f, fun x => ?_, ?_, fun z hz => ?_⟩
    · rw [gone_end hI]
      cases b
      · exact h.a x
      · show held (r.A ++ [y]) x = goneN q.K x + heldOf q.H o x
        rw [held_snoc, h.a]
        unfold heldOf
        rw [hf]
        dsimp only
        by_cases e2 : y.n = x
        · simp [e2]
        · simp [e2]
    · rw [endS_yes hf hk]
      have p1 := perm_delH hI.hs hyH
      have p2 := perm_dropAt hi
      rw [hy] at p2
      rw [hyo] at p1
      exact List.Perm.cons_inv (p1.trans (h.p.trans p2.symm))
    · cases b
      · exact h.ka z hz
      · rcases List.mem_append.1 hz with hz | hz
        · exact h.ka z hz
        · have : z = y := by simpa using hz
          subst this
          omega
theorem Rel.start {K : List Kd} {l : List Gd} (h : newOf l = some K) : Rel ⟨K, []⟩ ⟨goodsL K, [], []⟩ := by
  have hN := (newOf_some h).2.2
  refine ⟨sum_new hN, fun x => ?_, List.Perm.refl _, fun h hh => absurd hh (by simp)⟩
  show (0 : Int) = goneN K x
  unfold goneN
  cases hf : findK K x with
  | none => rfl
  | some k => exact (hN.good k (findK_some hf).1).2.symm
theorem rhold_len (r : Rs) (o : Nat) (x : List UInt8) (n : Int) : (rholdS r o x n).L.length ≤ r.L.length + 1 ∧ (rholdS r o x n).A.length ≤ r.A.length := by
  unfold rholdS
  split
  · exact ⟨by simp, Nat.le_refl _⟩
  · exact ⟨by omega, Nat.le_refl _⟩
theorem rleave_len (r : Rs) (o : Nat) (b : Bool) : (rleaveS r o b).L.length ≤ r.L.length + 1 ∧ (rleaveS r o b).A.length ≤ r.A.length + 1 := by
  unfold rleaveS
  split
  · exact ⟨by omega, by omega⟩
  · rename_i i hi
    refine ⟨by unfold dropAt; simp; omega, ?_⟩
    dsimp only
    split
    · rw [List.length_append]
      cases r.L[i]? <;> simp
    · omega

/-- An act, as the reference does it. -/
def rstep (r : Rs) (a : Ac) : Rs := if a.t = 0 ∨ a.t = 1 then rholdS r a.o a.x a.n else if a.t = 2 then rleaveS r a.o false else rleaveS r a.o true
def rstepV (r : Rs) (a : Ac) : Bool := if a.t = 0 ∨ a.t = 1 then rholdV r a.o a.x a.n else rleaveV r a.o
theorem Rel.step {q : Ss} {r : Rs} (h : Rel q r) (hI : Inv q) (a : Ac) : Rel (actS q a) (rstep r a) := by
  unfold actS rstep
  split
  · exact h.hold hI _ _ _
  · split
    · exact h.leave hI _ _
    · exact h.leave hI _ _
theorem Rel.stepV {q : Ss} {r : Rs} (h : Rel q r) (hI : Inv q) (a : Ac) : rstepV r a = actV q a := by
  unfold actV rstepV
  split
  · exact h.holdV hI _ _ _
  · exact h.leaveV hI _
theorem rstep_len (r : Rs) (a : Ac) : (rstep r a).L.length ≤ r.L.length + 1 ∧ (rstep r a).A.length ≤ r.A.length + 1 := by
  unfold rstep
  split
  · have := rhold_len r a.o a.x a.n; omega
  · split
    · exact rleave_len r a.o false
    · exact rleave_len r a.o true

end Go.Proofs.Ytimoobhnhldgbaa
