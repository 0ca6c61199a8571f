/-
  What a dock is, and what becomes of it, as plain lists: the free capacity by days, bookings by days and orders.
-/
import Derived.Test.YtnajombhlmbopaaBase
namespace Go.Proofs.Ytnajombhlmbopaa
set_option linter.unusedVariables false

/-- A booking: its order, its day, how many parcels. -/
structure Hd where
  o : Nat
  d : Nat
  k : Int
instance : Inhabited Hd := ⟨⟨0, 0, 0⟩⟩
/-- A dock. -/
structure Ss where
  F : List Int
  H : List Hd

/-- Ahead of one another: by days, then by orders. -/
def ahead (a b : Hd) : Prop := a.d < b.d ∨ (a.d = b.d ∧ a.o < b.o)
instance (a b : Hd) : Decidable (ahead a b) := by unfold ahead; infer_instance
def findH (H : List Hd) (o : Nat) : Option Hd := H.find? (fun h => h.o == o)
def insH (h : Hd) : List Hd → List Hd
  | [] => [h]
  | x :: r => if ahead h x then h :: x :: r else x :: insH h r
def delH (H : List Hd) (o : Nat) : List Hd := H.filter (fun h => h.o != o)
/-- The place of a day. -/
def fr (F : List Int) (d : Nat) : Int := F.getD d 0
/-- What is booked of a day. -/
def bkd : List Hd → Nat → Int
  | [], _ => 0
  | h :: r, d => (if h.d == d then h.k else 0) + bkd r d
/-- The first day from f on with room for n. -/
def fday (F : List Int) (f n : Int) : Option Nat := (List.range F.length).find? (fun d => decide (f ≤ (d : Int)) && decide (n ≤ fr F d))

def bookD (s : Ss) (o : Nat) (f n : Int) : Option Nat :=
  if o ≠ 0 ∧ 1 ≤ n ∧ 0 ≤ f ∧ findH s.H o = none then fday s.F f n else none
def bookS (s : Ss) (o : Nat) (f n : Int) : Ss :=
  match bookD s o f n with
  | none => s
  | some d => ⟨s.F.set d (fr s.F d - n), insH ⟨o, d, n⟩ s.H⟩
def cancS (s : Ss) (o : Nat) : Ss :=
  match findH s.H o with
  | none => s
  | some h => ⟨s.F.set h.d (fr s.F h.d + h.k), delH s.H o⟩
def verd (b : Bool) : Int := if b then 1 else 2
def dayI (d : Option Nat) : Int := match d with | none => 0 | some d => (d : Int)

structure HSort (H : List Hd) : Prop where
  p : H.Pairwise ahead
  u : H.Pairwise (fun a b => a.o ≠ b.o)

theorem ahead_irrefl (a : Hd) : ¬ ahead a a := by unfold ahead; omega
theorem ahead_trans {a b c : Hd} (h : ahead a b) (h' : ahead b c) : ahead a c := by unfold ahead at *; omega
theorem ahead_asymm {a b : Hd} (h : ahead a b) : ¬ ahead b a := by unfold ahead at *; omega
theorem ahead_tri {a b : Hd} (h : ¬ ahead a b) (h' : a.o ≠ b.o) : ahead b a := by unfold ahead at *; omega

/-! ### bookings -/
theorem findH_some {H : List Hd} {o : Nat} {h : Hd} (e : findH H o = some h) : h ∈ H ∧ h.o = o :=
  ⟨List.mem_of_find?_eq_some e, by simpa using List.find?_some e⟩
theorem findH_none {H : List Hd} {o : Nat} (h : findH H o = none) : ∀ x ∈ H, x.o ≠ o := fun k hk e => by
  have := List.find?_eq_none.1 h k hk
  simp [e] at this
theorem findH_none' {H : List Hd} {o : Nat} (h : ∀ x ∈ H, x.o ≠ o) : findH H o = none :=
  List.find?_eq_none.2 fun k hk => by simpa using h k hk
theorem HSort.nil : HSort [] := ⟨List.Pairwise.nil, List.Pairwise.nil⟩
theorem HSort.cons {x : Hd} {r : List Hd} (h : HSort (x :: r)) : (∀ y ∈ r, ahead x y ∧ x.o ≠ y.o) ∧ HSort r := by
  obtain ⟨h1, h2⟩ := List.pairwise_cons.1 h.p
  obtain ⟨h3, h4⟩ := List.pairwise_cons.1 h.u
  exact ⟨fun y hy => ⟨h1 y hy, h3 y hy⟩, h2, h4⟩
theorem HSort.mk_cons {x : Hd} {r : List Hd} (h : ∀ y ∈ r, ahead x y ∧ x.o ≠ y.o) (hr : HSort r) : HSort (x :: r) :=
  ⟨List.pairwise_cons.2 ⟨fun y hy => (h y hy).1, hr.p⟩, List.pairwise_cons.2 ⟨fun y hy => (h y hy).2, hr.u⟩⟩
theorem HSort.uniq {H : List Hd} (h : HSort H) {a b : Hd} (ha : a ∈ H) (hb : b ∈ H) (e : a.o = b.o) : a = b := by
  induction H with
  | nil => cases ha
  | cons x r ih =>
    obtain ⟨h1, h2⟩ := h.cons
    rcases List.mem_cons.1 ha with ea | ha'
    · rcases List.mem_cons.1 hb with eb | hb'
      · rw [ea, eb]
      · subst ea; exact absurd e (h1 b hb').2
    · rcases List.mem_cons.1 hb with eb | hb'
      · subst eb; exact absurd e.symm (h1 a ha').2
      · exact ih h2 ha' hb'
theorem HSort.find {H : List Hd} (h : HSort H) {x : Hd} (hx : x ∈ H) : findH H x.o = some x := by
  cases hf : findH H x.o with
  | none => exact absurd rfl (findH_none hf x hx)
  | some k' => obtain ⟨h1, h2⟩ := findH_some hf; rw [h.uniq h1 hx h2]
theorem mem_insH {h y : Hd} : ∀ {H : List Hd}, y ∈ insH h H ↔ y = h ∨ y ∈ H
  | [] => by simp [insH]
  | x :: r => by
    unfold insH
    split
    · simp
    · simp only [List.mem_cons, mem_insH (H := r)]
      constructor
      · rintro (h | h | h) <;> simp [h]
      · rintro (h | h | h) <;> simp [h]
theorem insH_length (h : Hd) : ∀ H : List Hd, (insH h H).length = H.length + 1
  | [] => rfl
  | x :: r => by unfold insH; split <;> simp [insH_length h r]
theorem HSort.ins {H : List Hd} {h : Hd} (hs : HSort H) (hn : ∀ x ∈ H, x.o ≠ h.o) : HSort (insH h H) := by
  induction H with
  | nil => exact ⟨List.pairwise_singleton _ _, List.pairwise_singleton _ _⟩
  | cons x r ih =>
    obtain ⟨h1, h2⟩ := hs.cons
    unfold insH
    split
    · rename_i e
      refine HSort.mk_cons (fun y hy => ?_) hs
      have hyo := hn y hy
      rcases List.mem_cons.1 hy with rfl | hy
      · exact ⟨e, fun e' => hyo e'.symm⟩
      · exact ⟨ahead_trans e (h1 y hy).1, fun e' => hyo e'.symm⟩
    · rename_i e
      refine HSort.mk_cons (fun y hy => ?_) (ih h2 fun y hy => hn y (List.mem_cons_of_mem _ hy))
      have hxo := hn x (List.mem_cons_self ..)
      rcases mem_insH.1 hy with rfl | hy
      · exact ⟨ahead_tri e (fun e' => hxo e'.symm), hxo⟩
      · exact h1 y hy
theorem HSort.del {H : List Hd} (hs : HSort H) (o : Nat) : HSort (delH H o) := ⟨hs.p.filter _, hs.u.filter _⟩
theorem mem_delH {H : List Hd} {o : Nat} {y : Hd} : y ∈ delH H o ↔ y ∈ H ∧ y.o ≠ o := by simp [delH, List.mem_filter]
theorem delH_none {H : List Hd} {o : Nat} (h : ∀ x ∈ H, x.o ≠ o) : delH H o = H := by
  unfold delH
  rw [List.filter_eq_self]
  intro y hy
  simpa using h y hy
theorem delH_ins {H : List Hd} {h : Hd} (hn : ∀ x ∈ H, x.o ≠ h.o) : delH (insH h H) h.o = H := by
  induction H with
  | nil => simp [insH, delH]
  | cons x r ih =>
    have hx := hn x (List.mem_cons_self ..)
    have ih' := ih fun y hy => hn y (List.mem_cons_of_mem _ hy)
    have hr : delH r h.o = r := delH_none fun y hy => hn y (List.mem_cons_of_mem _ hy)
    unfold insH
    split
    · unfold delH at hr ⊢
      simp [hx, hr]
    · unfold delH at ih' ⊢
      simp [hx, ih']
theorem delH_length {H : List Hd} (hs : HSort H) {h : Hd} (hh : h ∈ H) : (delH H h.o).length + 1 = H.length := by
  induction H with
  | nil => cases hh
  | cons x r ih =>
    obtain ⟨h1, h2⟩ := hs.cons
    rcases List.mem_cons.1 hh with rfl | hr
    · have : delH r h.o = r := delH_none fun y hy e => (h1 y hy).2 e.symm
      unfold delH at this ⊢
      simp [this]
    · have hx := (h1 h hr).2
      have := ih h2 hr
      unfold delH at this ⊢
      rw [List.filter_cons, if_pos (by simpa using hx)]
      simp [this]
theorem findH_ins {H : List Hd} {h : Hd} (hs : HSort H) (hn : ∀ x ∈ H, x.o ≠ h.o) (o : Nat) : findH (insH h H) o = if o = h.o then some h else findH H o := by
  split
  · rename_i e; subst e; exact (hs.ins hn).find (mem_insH.2 (.inl rfl))
  · rename_i e
    cases hf : findH H o with
    | none =>
      refine findH_none' fun y hy e' => ?_
      rcases mem_insH.1 hy with rfl | hy
      · exact e e'.symm
      · exact findH_none hf y hy e'
    | some y =>
      obtain ⟨hy, rfl⟩ := findH_some hf
      exact (hs.ins hn).find (mem_insH.2 (.inr hy))
theorem findH_del {H : List Hd} (hs : HSort H) (o q : Nat) : findH (delH H q) o = if o = q then none else findH H o := by
  split
  · rename_i e; subst e; exact findH_none' fun y hy => (mem_delH.1 hy).2
  · rename_i e
    cases hf : findH H o with
    | none => exact findH_none' fun y hy e' => findH_none hf y (mem_delH.1 hy).1 e'
    | some y =>
      obtain ⟨hy, rfl⟩ := findH_some hf
      exact (hs.del q).find (mem_delH.2 ⟨hy, e⟩)
theorem bkd_ins (h : Hd) (d : Nat) : ∀ H : List Hd, bkd (insH h H) d = (if h.d == d then h.k else 0) + bkd H d
  | [] => rfl
  | y :: r => by
    unfold insH
    split
    · rfl
    · simp only [bkd, bkd_ins h d r]; omega
theorem bkd_del {H : List Hd} (hs : HSort H) {h : Hd} (hh : h ∈ H) (d : Nat) : bkd (delH H h.o) d = bkd H d - (if h.d == d then h.k else 0) := by
  induction H with
  | nil => cases hh
  | cons y r ih =>
    obtain ⟨h1, h2⟩ := hs.cons
    rcases List.mem_cons.1 hh with rfl | hr
    · have e : delH r h.o = r := delH_none fun z hz e => (h1 z hz).2 e.symm
      unfold delH at e ⊢
      rw [List.filter_cons, if_neg (by simp), e]
      simp only [bkd]; omega
    · have hx := (h1 h hr).2
      have := ih h2 hr
      unfold delH at this ⊢
      rw [List.filter_cons, if_pos (by simpa using hx)]
      simp only [bkd, this]; omega
theorem bkd_nonneg {H : List Hd} (h : ∀ y ∈ H, 1 ≤ y.k) (d : Nat) : 0 ≤ bkd H d := by
  induction H with
  | nil => exact Int.le_refl _
  | cons y r ih =>
    have h1 := h y (List.mem_cons_self ..)
    have h2 := ih fun z hz => h z (List.mem_cons_of_mem _ hz)
    simp only [bkd]
    split <;> omega
theorem bkd_ge {H : List Hd} (h : ∀ y ∈ H, 1 ≤ y.k) {y : Hd} (hy : y ∈ H) : y.k ≤ bkd H y.d := by
  induction H with
  | nil => cases hy
  | cons z r ih =>
    have h1 := h z (List.mem_cons_self ..)
    have h3 := fun z hz => h z (List.mem_cons_of_mem _ hz)
    simp only [bkd]
    rcases List.mem_cons.1 hy with rfl | hr
    · rw [if_pos (by simp)]
      have := bkd_nonneg h3 y.d
      omega
    · have := ih h3 hr
      split <;> omega
theorem bkd_perm {H L : List Hd} (h : H.Perm L) (d : Nat) : bkd H d = bkd L d := by
  induction h with
  | nil => rfl
  | cons x _ ih => simp only [bkd, ih]
  | swap x y l => simp only [bkd]; omega
  | trans _ _ h1 h2 => rw [h1, h2]
theorem bkd_append (H L : List Hd) (d : Nat) : bkd (H ++ L) d = bkd H d + bkd L d := by
  induction H with
  | nil => simp [bkd]
  | cons x r ih => simp only [List.cons_append, bkd, ih]; omega
theorem nodup_of_sort {H : List Hd} (h : HSort H) : H.Nodup := List.Pairwise.imp (fun {a b} hlt e => hlt (by rw [e])) h.u
theorem HSort.ext {H L : List Hd} (h : HSort H) (h' : HSort L) (e : ∀ y, y ∈ H ↔ y ∈ L) : H = L := by
  have hp := (List.perm_ext_iff_of_nodup (nodup_of_sort h) (nodup_of_sort h')).2 e
  exact List.Perm.eq_of_pairwise (le := ahead) (fun a b _ _ q1 q2 => absurd q2 (ahead_asymm q1)) h.p h'.p hp
theorem ins_perm (h : Hd) : ∀ H : List Hd, (insH h H).Perm (h :: H)
  | [] => List.Perm.refl _
  | x :: r => by
    unfold insH
    split
    · exact List.Perm.refl _
    · exact (List.Perm.cons x (ins_perm h r)).trans (List.Perm.swap h x r)

/-! ### days -/
theorem fr_set (F : List Int) (d i : Nat) (x : Int) : fr (F.set d x) i = if i = d ∧ d < F.length then x else fr F i := by
  unfold fr
  rw [List.getD_eq_getElem?_getD, List.getD_eq_getElem?_getD, List.getElem?_set]
  by_cases h : d = i
  · subst h
    by_cases h2 : d < F.length
    · simp [h2]
    · simp [h2]
  · rw [if_neg h, if_neg (by omega)]
theorem fr_get {F : List Int} {d : Nat} (h : d < F.length) : F[d] = fr F d := by simp [fr, h]
theorem fr_ext {F G : List Int} (h : F.length = G.length) (h2 : ∀ d, d < F.length → fr F d = fr G d) : F = G := by
  apply List.ext_getElem h
  intro i h3 h4
  rw [fr_get h3, fr_get h4, h2 i h3]
theorem fday_some {F : List Int} {f n : Int} {d : Nat} : fday F f n = some d ↔ d < F.length ∧ f ≤ (d : Int) ∧ n ≤ fr F d ∧ ∀ j, j < d → ¬ (f ≤ (j : Int) ∧ n ≤ fr F j) := by
  unfold fday
  rw [List.find?_range_eq_some]
  simp only [List.mem_range, Bool.and_eq_true, decide_eq_true_eq, Bool.not_eq_true', Bool.and_eq_false_iff, decide_eq_false_iff_not]
  constructor
  · rintro ⟨⟨h1, h2⟩, h3, h4⟩
    refine ⟨h3, h1, h2, fun j hj hc => ?_⟩
    rcases h4 j hj with h | h
    · exact h hc.1
    · exact h hc.2
  · rintro ⟨h3, h1, h2, h4⟩
    refine ⟨⟨h1, h2⟩, h3, fun j hj => ?_⟩
    have := h4 j hj
    by_cases h5 : f ≤ (j : Int)
    · exact .inr fun h6 => this ⟨h5, h6⟩
    · exact .inl h5
theorem fday_none {F : List Int} {f n : Int} : fday F f n = none ↔ ∀ j, j < F.length → ¬ (f ≤ (j : Int) ∧ n ≤ fr F j) := by
  unfold fday
  rw [List.find?_eq_none]
  simp only [List.mem_range, Bool.and_eq_true, decide_eq_true_eq]

/-! ### a dock that may be -/
structure Inv (R : List Int) (s : Ss) : Prop where
  hs : HSort s.H
  fl : s.F.length = R.length
  fz : R.length ≤ 60
  rr : ∀ d, d < R.length → 0 ≤ fr R d ∧ fr R d ≤ 1000000
  ff : ∀ d, d < R.length → 0 ≤ fr s.F d ∧ fr s.F d + bkd s.H d = fr R d
  hh : ∀ h ∈ s.H, 1 ≤ h.k ∧ 0 < h.o ∧ h.o < 4294967296 ∧ h.d < R.length ∧ h.k ≤ 1000000

theorem Inv.pos {R : List Int} {s : Ss} (h : Inv R s) : ∀ y ∈ s.H, 1 ≤ y.k := fun y hy => (h.hh y hy).1
theorem Inv.fb {R : List Int} {s : Ss} (h : Inv R s) {d : Nat} (hd : d < R.length) : 0 ≤ fr s.F d ∧ fr s.F d ≤ 1000000 := by
  have h1 := h.ff d hd
  have h2 := h.rr d hd
  have h3 := bkd_nonneg h.pos d
  omega
theorem Inv.canc_bnd {R : List Int} {s : Ss} (h : Inv R s) {y : Hd} (hy : y ∈ s.H) : y.d < s.F.length ∧ 0 ≤ fr s.F y.d ∧ 1 ≤ y.k ∧ fr s.F y.d + y.k ≤ 1000000 := by
  have h0 := h.hh y hy
  have hd : y.d < R.length := h0.2.2.2.1
  have h1 := h.ff _ hd
  have h2 := h.rr _ hd
  have h3 := bkd_ge h.pos hy
  exact ⟨by rw [h.fl]; exact hd, h1.1, h0.1, by omega⟩

theorem bookD_some {s : Ss} {o : Nat} {f n : Int} {d : Nat} : bookD s o f n = some d ↔ (o ≠ 0 ∧ 1 ≤ n ∧ 0 ≤ f ∧ findH s.H o = none) ∧ fday s.F f n = some d := by
  unfold bookD
  split
  · rename_i h; exact ⟨fun e => ⟨h, e⟩, fun e => e.2⟩
  · rename_i h; exact ⟨fun e => (by cases e), fun e => absurd e.1 h⟩
theorem bookS_no {s : Ss} {o : Nat} {f n : Int} (h : bookD s o f n = none) : bookS s o f n = s := by unfold bookS; rw [h]
theorem bookS_yes {s : Ss} {o : Nat} {f n : Int} {d : Nat} (h : bookD s o f n = some d) : bookS s o f n = ⟨s.F.set d (fr s.F d - n), insH ⟨o, d, n⟩ s.H⟩ := by unfold bookS; rw [h]
theorem cancS_no {s : Ss} {o : Nat} (h : findH s.H o = none) : cancS s o = s := by unfold cancS; rw [h]
theorem cancS_yes {s : Ss} {o : Nat} {h : Hd} (e : findH s.H o = some h) : cancS s o = ⟨s.F.set h.d (fr s.F h.d + h.k), delH s.H o⟩ := by unfold cancS; rw [e]

theorem Inv.book {R : List Int} {s : Ss} (h : Inv R s) {o : Nat} (ho : o < 4294967296) (f n : Int) : Inv R (bookS s o f n) := by
  cases hv : bookD s o f n with
  | none => rw [bookS_no hv]; exact h
  | some d =>
    obtain ⟨⟨h0, h1, h2, h3⟩, hd⟩ := bookD_some.1 hv
    obtain ⟨d1, d2, d3, d4⟩ := fday_some.1 hd
    rw [bookS_yes hv]
    have hn := findH_none h3
    have hdl : d < R.length := by rw [← h.fl]; exact d1
    refine ⟨h.hs.ins hn, by simp [h.fl], h.fz, h.rr, fun e he => ?_, fun y hy => ?_⟩
    · have := h.ff e he
      show 0 ≤ fr (s.F.set d (fr s.F d - n)) e ∧ fr (s.F.set d (fr s.F d - n)) e + bkd (insH ⟨o, d, n⟩ s.H) e = fr R e
      rw [fr_set, bkd_ins]
      dsimp only
      by_cases e1 : e = d
      · subst e1
        rw [if_pos ⟨rfl, d1⟩, if_pos (by simp)]
        omega
      · rw [if_neg (by omega), if_neg (by simp; omega)]
        omega
    · rcases mem_insH.1 hy with rfl | hy
      · have := h.fb hdl
        exact ⟨h1, by show 0 < o; omega, ho, hdl, by show n ≤ _; omega⟩
      · exact h.hh y hy
theorem Inv.canc {R : List Int} {s : Ss} (h : Inv R s) (o : Nat) : Inv R (cancS s o) := by
  cases hf : findH s.H o with
  | none => rw [cancS_no hf]; exact h
  | some y =>
    obtain ⟨hy, rfl⟩ := findH_some hf
    rw [cancS_yes hf]
    have hb := h.canc_bnd hy
    refine ⟨h.hs.del _, by simp [h.fl], h.fz, h.rr, fun e he => ?_, fun z hz => h.hh z (mem_delH.1 hz).1⟩
    have := h.ff e he
    show 0 ≤ fr (s.F.set y.d (fr s.F y.d + y.k)) e ∧ fr (s.F.set y.d (fr s.F y.d + y.k)) e + bkd (delH s.H y.o) e = fr R e
    rw [fr_set, bkd_del h.hs hy]
    by_cases e1 : e = y.d
    · subst e1
      rw [if_pos ⟨rfl, hb.1⟩, if_pos (by simp)]
      omega
    · rw [if_neg (by omega), if_neg (by simp; omega)]
      omega
theorem bookS_len (s : Ss) (o : Nat) (f n : Int) : (bookS s o f n).H.length ≤ s.H.length + 1 ∧ (bookS s o f n).F.length = s.F.length := by
  cases hv : bookD s o f n with
  | none => rw [bookS_no hv]; exact ⟨by omega, rfl⟩
  | some d => rw [bookS_yes hv]; exact ⟨by rw [insH_length]; omega, by simp⟩
theorem cancS_len (s : Ss) (o : Nat) : (cancS s o).H.length ≤ s.H.length ∧ (cancS s o).F.length = s.F.length := by
  cases hf : findH s.H o with
  | none => rw [cancS_no hf]; exact ⟨by omega, rfl⟩
  | some y => rw [cancS_yes hf]; exact ⟨by unfold delH; exact List.length_filter_le _ _, by simp⟩

/-- The booking of a new order, and its cancelling: all is as it was. -/
theorem book_canc {R : List Int} {s : Ss} (h : Inv R s) {o : Nat} {f n : Int} {d : Nat} (hv : bookD s o f n = some d) : cancS (bookS s o f n) o = s := by
  obtain ⟨⟨h0, h1, h2, h3⟩, hd⟩ := bookD_some.1 hv
  obtain ⟨d1, d2, d3, d4⟩ := fday_some.1 hd
  rw [bookS_yes hv]
  have hn := findH_none h3
  have hf := findH_ins h.hs (h := ⟨o, d, n⟩) hn o
  rw [if_pos rfl] at hf
  rw [cancS_yes (s := ⟨s.F.set d (fr s.F d - n), insH ⟨o, d, n⟩ s.H⟩) hf]
  have e1 : delH (insH ⟨o, d, n⟩ s.H) o = s.H := delH_ins (h := ⟨o, d, n⟩) hn
  show Ss.mk ((s.F.set d (fr s.F d - n)).set d (fr (s.F.set d (fr s.F d - n)) d + n)) (delH (insH ⟨o, d, n⟩ s.H) o) = s
  rw [e1]
  have e2 : (s.F.set d (fr s.F d - n)).set d (fr (s.F.set d (fr s.F d - n)) d + n) = s.F := by
    refine fr_ext (by simp) fun i hi => ?_
    rw [fr_set, fr_set, fr_set]
    by_cases e : i = d
    · subst e
      rw [if_pos ⟨rfl, by simpa using d1⟩, if_pos ⟨rfl, d1⟩]; omega
    · rw [if_neg (by omega), if_neg (by omega)]
  rw [e2]

end Go.Proofs.Ytnajombhlmbopaa
