/-
  What holds of a fence and of what was done, told and undone, whatever steps come: mathematics alone.
-/
import Derived.Test.YtfcfejmammohpaaFullP
namespace Go.Proofs.Ytfcfejmammohpaa
open Go.RowKit
set_option maxRecDepth 100000
set_option linter.unusedVariables false
set_option linter.unusedSimpArgs false

theorem ins_lt {m : Nat} {x : Kp} {T : Nat → Kp} {i : Nat} (h : i < m) : ins m x T i = T i := by unfold ins; rw [if_pos h]
theorem ins_at {m : Nat} {x : Kp} {T : Nat → Kp} : ins m x T m = x := by unfold ins; rw [if_neg (by omega), if_pos rfl]
theorem ins_gt {m : Nat} {x : Kp} {T : Nat → Kp} {i : Nat} (h : m < i) : ins m x T i = T (i - 1) := by unfold ins; rw [if_neg (by omega), if_neg (by omega)]
theorem ins_old {m n : Nat} {x : Kp} {T : Nat → Kp} (hm : m ≤ n) {p : Nat} (hp : p < n) : ∃ q, q < n + 1 ∧ ins m x T q = T p := by
  by_cases h : p < m
  · exact ⟨p, by omega, ins_lt h⟩
  · exact ⟨p + 1, by omega, by rw [ins_gt (by omega), Nat.add_sub_cancel]⟩
theorem ins_cases {m n : Nat} {x : Kp} {T : Nat → Kp} (hm : m ≤ n) {q : Nat} (hq : q < n + 1) : ins m x T q = x ∨ ∃ p, p < n ∧ ins m x T q = T p := by
  by_cases h : q < m
  · exact .inr ⟨q, by omega, ins_lt h⟩
  · by_cases h2 : q = m
    · subst h2; exact .inl ins_at
    · exact .inr ⟨q - 1, by omega, ins_gt (by omega)⟩
theorem ok_ins {n : Nat} {T : Nat → Kp} {x : Kp} (h : okT n T) (hx : vk x = true) (hn : n < 200) (hno : has n T x.k = false) : okT (n + 1) (ins (pos T x.k n) x T) := by
  obtain ⟨p1, p2⟩ := pos_spec h x.k
  have hp := pos_le T x.k n
  have hne := has_no h hno
  generalize pos T x.k n = m at *
  refine ⟨by omega, fun i hi => ⟨?_, fun h0 => ?_⟩⟩
  · rcases ins_cases (x := x) (T := T) hp hi with e | ⟨p, hp2, e⟩
    · rw [e]; exact hx
    · rw [e]; exact (h.2 p hp2).1
  · by_cases c1 : i < m
    · rw [ins_lt c1, ins_lt (by omega)]; exact (h.2 i (by omega)).2 h0
    · by_cases c2 : i = m
      · subst c2
        rw [ins_at, ins_lt (by omega)]; exact p1 _ (by omega)
      · by_cases c3 : i = m + 1
        · subst c3
          rw [Nat.add_sub_cancel, ins_at, ins_gt (show m < m + 1 by omega), Nat.add_sub_cancel]
          have h1 := p2 m (Nat.le_refl _) (by omega)
          have h2 := hne m (by omega)
          omega
        · rw [ins_gt (by omega), ins_gt (by omega)]
          have := (h.2 (i - 1) (by omega)).2 (by omega)
          exact this
/-- Of one key. -/
def K3 (x y : Kp) : Prop := x.o = y.o ∧ x.s = y.s ∧ x.u = y.u
theorem K3.k {x y : Kp} (h : K3 x y) : x.k = y.k := by show kn x.o x.s x.u = kn y.o y.s y.u; rw [h.1, h.2.1, h.2.2]
/-- What holds. -/
structure Inv (ep n : Nat) (T : Nat → Kp) (nd : Nat) (D : Nat → Kp) (nt : Nat) (U : Nat → Kp) (no : Nat) (O : Nat → Kp) : Prop where
  ok : okT n T
  ep : ep ≤ 6
  o4 : ∀ i, i < n → (T i).o ≤ 4
  d1 : ∀ i, i < nd → ∃ p, p < n ∧ K3 (T p) (D i)
  d2 : ∀ i, i < nd → ∀ k, k < i → (D k).o = (D i).o → (D k).s = (D i).s → (D k).u = false ∧ (D i).u = true
  d4 : ∀ i, i < nd → (D i).u = true → ∃ k, k < i ∧ (D k).o = (D i).o ∧ (D k).s = (D i).s ∧ (D k).u = false
  d5 : ∀ p, p < n → (T p).u = false → (T p).c = 1 → ∃ k, k < nd ∧ (D k).o = (T p).o ∧ (D k).s = (T p).s ∧ (D k).u = false
  t1 : ∀ i, i < nt → ∃ p, p < n ∧ U i = T p
  o1 : ∀ i, i < no → ∃ p, p < n ∧ O i = T p ∧ (T p).u = true
theorem Inv.zero : Inv 0 0 (fun _ => kz) 0 (fun _ => kz) 0 (fun _ => kz) 0 (fun _ => kz) :=
  ⟨⟨by omega, fun i hi => by omega⟩, by omega, fun i hi => by omega, fun i hi => by omega, fun i hi => by omega, fun i hi => by omega, fun i hi => by omega, fun i hi => by omega, fun i hi => by omega⟩
theorem Inv.congr {ep n nd nt no : Nat} {T T' D D' U U' O O' : Nat → Kp} (h : Inv ep n T nd D nt U no O) (hT : ∀ i, i < n → T i = T' i) (hD : ∀ i, i < nd → D i = D' i) (hU : ∀ i, i < nt → U i = U' i) (hO : ∀ i, i < no → O i = O' i) : Inv ep n T' nd D' nt U' no O' := by
  refine ⟨h.ok.congr hT, h.ep, fun i hi => ?_, fun i hi => ?_, fun i hi k hk => ?_, fun i hi => ?_, fun p hp => ?_, fun i hi => ?_, fun i hi => ?_⟩
  · rw [← hT i hi]; exact h.o4 i hi
  · obtain ⟨p, hp, e⟩ := h.d1 i hi
    exact ⟨p, hp, by rw [← hT p hp, ← hD i hi]; exact e⟩
  · rw [← hD i hi, ← hD k (by omega)]; exact h.d2 i hi k hk
  · rw [← hD i hi]
    intro hu
    obtain ⟨k, hk, e⟩ := h.d4 i hi hu
    exact ⟨k, hk, by rw [← hD k (by omega)]; exact e⟩
  · rw [← hT p hp]
    intro h1 h2
    obtain ⟨k, hk, e⟩ := h.d5 p hp h1 h2
    exact ⟨k, hk, by rw [← hD k hk]; exact e⟩
  · obtain ⟨p, hp, e⟩ := h.t1 i hi
    exact ⟨p, hp, by rw [← hU i hi, ← hT p hp]; exact e⟩
  · obtain ⟨p, hp, e⟩ := h.o1 i hi
    exact ⟨p, hp, by rw [← hO i hi, ← hT p hp]; exact e⟩
/-- One more. -/
abbrev snoc {α : Type} (m : Nat) (X : Nat → α) (x : α) : Nat → α := fun i => if i = m then x else X i
theorem snoc_lt {α : Type} {m i : Nat} {X : Nat → α} {x : α} (h : i < m) : snoc m X x i = X i := by unfold snoc; rw [if_neg (by omega)]
theorem snoc_at {α : Type} {m : Nat} {X : Nat → α} {x : α} : snoc m X x m = x := by unfold snoc; rw [if_pos rfl]
theorem snoc_congr {m i : Nat} {X : Nat → Kx} {x : Kx} : (snoc m X x i).k = snoc m (fun i => (X i).k) x.k i := by unfold snoc; split <;> rfl
section
variable {ep n nd nt no : Nat} {T D U O : Nat → Kp} {E od : Nat} {st : Int} {un : Bool} {l : List Nat}
/-- A request as it comes. -/
structure Rq (E od : Nat) (st : Int) (l : List Nat) : Prop where
  e1 : 1 ≤ E
  e2 : E ≤ 6
  o1 : 1 ≤ od
  o2 : od ≤ 4
  s1 : 0 ≤ st
  s2 : st < 3
  l1 : l.length ≤ 255
theorem Rq.req (h : Rq E od st l) : reqB (stN E od st un l) = true := req_step E od st un l (by have := h.e1; omega) (by have := h.o1; omega) h.s1 (by have := h.s2; omega) h.l1
theorem Rq.s64 (h : Rq E od st l) : in64 st := by have := h.s1; have := h.s2; unfold in64; omega
theorem ask_stale (h : Inv ep n T nd D nt U no O) (hq : Rq E od st l) (hs : E < ep) : askS ep n T (stN E od st un l) = ⟨0, kz, 72⟩ := by
  unfold askS
  rw [if_pos ⟨(okB_iff _ _).2 h.ok, hq.req⟩, if_pos hs]
theorem ask_has (h : Inv ep n T nd D nt U no O) (hq : Rq E od st l) (hs : ¬ E < ep) (hh : has n T (kn od st un) = true) : askS ep n T (stN E od st un l) = if (T (pos T (kn od st un) n)).a = l then ⟨2, T (pos T (kn od st un) n), 0⟩ else ⟨0, kz, 80⟩ := by
  unfold askS
  rw [if_pos ⟨(okB_iff _ _).2 h.ok, hq.req⟩, if_neg hs, if_pos hh]
theorem ask_new (h : Inv ep n T nd D nt U no O) (hq : Rq E od st l) (hs : ¬ E < ep) (hh : has n T (kn od st un) = false) : askS ep n T (stN E od st un l) = ⟨actN n T (stN E od st un l), kz, 0⟩ := by
  unfold askS
  rw [if_pos ⟨(okB_iff _ _).2 h.ok, hq.req⟩, if_neg hs, if_neg (show ¬ has n T (kn od st un) = true by rw [hh]; decide)]
theorem act_cases (h : Inv ep n T nd D nt U no O) : (actN n T (stN E od st un l) = 3 ∧ un = false ∧ has n T (kn od st true) = true) ∨ (actN n T (stN E od st un l) = 4 ∧ un = true) ∨ (actN n T (stN E od st un l) = 1 ∧ (un = false → has n T (kn od st true) = false) ∧ (un = true → has n T (kn od st false) = true ∧ (T (pos T (kn od st false) n)).c = 1)) := by
  unfold actN
  cases un
  · by_cases hh : has n T (kn od st true) = true
    · left; rw [if_pos ⟨rfl, hh⟩]; exact ⟨rfl, rfl, hh⟩
    · right; right
      rw [if_neg (fun q => hh q.2), if_neg (fun q => by cases q.1)]
      exact ⟨rfl, (fun _ => by simpa using hh), (fun q => by cases q)⟩
  · right
    rw [if_neg (fun q => by cases q.1)]
    by_cases hh : has n T (kn od st false) = false ∨ (T (pos T (kn od st false) n)).c = 2
    · left; rw [if_pos ⟨rfl, hh⟩]; exact ⟨rfl, rfl⟩
    · right
      rw [if_neg (fun q => hh q.2)]
      have h1 : has n T (kn od st false) = true := by
        cases hq : has n T (kn od st false)
        · exact absurd (Or.inl hq) hh
        · rfl
      refine ⟨rfl, (fun q => by cases q), (fun _ => ⟨h1, ?_⟩)⟩
      have h2 := (has_at h1).1
      have h3 := ((vk_iff _).1 (h.ok.2 _ h2).1).2.2.2.2.2
      rcases h3 with h3 | h3
      · exact h3
      · exact absurd (Or.inr h3) hh
theorem key_of (h : Inv ep n T nd D nt U no O) (hq : Rq E od st l) {p : Nat} (hp : p < n) (e : (T p).k = kn od st un) : (T p).o = od ∧ (T p).s = st ∧ (T p).u = un := by
  have hv := (vk_iff _).1 (h.ok.2 p hp).1
  exact kn_inj (by unfold in64; omega) hq.s64 e
/-- The new one is not undone before. -/
theorem no_over (h : Inv ep n T nd D nt U no O) (hq : Rq E od st l) (hh : has n T (kn od st un) = false) (ha : actN n T (stN E od st un l) = 1) : ∀ i, i < no → ¬ ((O i).o = od ∧ (O i).s = st) := by
  rintro i hi ⟨e1, e2⟩
  obtain ⟨p, hp, e, hu⟩ := h.o1 i hi
  rw [e] at e1 e2
  have hk : (T p).k = kn od st true := by show kn (T p).o (T p).s (T p).u = _; rw [e1, e2, hu]
  have hy := (has_of h.ok hp hk).2
  rcases act_cases (E := E) (od := od) (st := st) (un := un) (l := l) h with ⟨a, _⟩ | ⟨a, _⟩ | ⟨_, b, c⟩
  · omega
  · omega
  · cases un
    · rw [b rfl] at hy; cases hy
    · rw [hh] at hy; cases hy
theorem keep_new (h : Inv ep n T nd D nt U no O) (hq : Rq E od st l) (hs : ¬ E < ep) (hh : has n T (kn od st un) = false) (hn : n < 200) (code : Int) (r : List Nat) (hr : r.length ≤ 255) (hm : mayB (actN n T (stN E od st un l)) code = true) : keepE ep n T (stN E od st un l) code r = 0 := by
  unfold keepE
  rw [ask_new h hq hs hh]
  have h2 : actN n T (stN E od st un l) ≠ 2 := by
    rcases act_cases (E := E) (od := od) (st := st) (un := un) (l := l) h with ⟨a, _⟩ | ⟨a, _⟩ | ⟨a, _⟩ <;> omega
  rw [if_neg (by simp), if_neg (by rw [hm]; simp; omega), if_neg h2, if_neg (by omega)]
theorem keepF_new {code : Int} {r : List Nat} (he : keepE ep n T (stN E od st un l) code r = 0) : keepF ep n T (stN E od st un l) code r = ⟨E, n + 1, ins (pos T (kn od st un) n) ⟨od, st, un, l, code, r⟩ T⟩ := by
  unfold keepF
  rw [if_pos he]
theorem code_12 {act : Nat} {code : Int} (h : mayB act code = true) : code = 1 ∨ code = 2 := by
  unfold mayB at h
  split at h
  · exact .inr (of_decide_eq_true h)
  · split at h
    · exact .inl (of_decide_eq_true h)
    · exact of_decide_eq_true h
/-- What holds behind a step that is kept; d: it took effect. -/
theorem Inv.keep (h : Inv ep n T nd D nt U no O) (hq : Rq E od st l) (hs : ¬ E < ep) (hh : has n T (kn od st un) = false) (hn : n < 200) (code : Int) (r : List Nat) (hr : r.length ≤ 255) (hm : mayB (actN n T (stN E od st un l)) code = true) (d : Bool) (hd : d = true ↔ (actN n T (stN E od st un l) = 1 ∧ code = 1)) (x : Kp) (hx : x.o = od ∧ x.s = st ∧ x.u = un) :
    Inv E (n + 1) (ins (pos T (kn od st un) n) ⟨od, st, un, l, code, r⟩ T) (if d then nd + 1 else nd) (if d then snoc nd D x else D) (nt + 1) (snoc nt U ⟨od, st, un, l, code, r⟩) (if un then no + 1 else no) (if un then snoc no O ⟨od, st, un, l, code, r⟩ else O) := by
  have hp := pos_le T (kn od st un) n
  have hcd := code_12 hm
  have hac := act_cases (E := E) (od := od) (st := st) (un := un) (l := l) h
  have hvk : vk (⟨od, st, un, l, code, r⟩ : Kp) = true := (vk_iff _).2 ⟨hq.o1, hq.s1, by have := hq.s2; show st ≤ 15; omega, hq.l1, hr, hcd⟩
  have hok := ok_ins (x := ⟨od, st, un, l, code, r⟩) h.ok hvk hn hh
  have hno := has_no h.ok hh
  have hok2 : okT (n + 1) (ins (pos T (kn od st un) n) ⟨od, st, un, l, code, r⟩ T) := hok
  -- no elder one of done has the key's undone one, nor the key
  have hD : d = true → ∀ k, k < nd → (D k).o = od → (D k).s = st → (D k).u = false ∧ un = true := by
    intro hdt k hk e1 e2
    obtain ⟨p, hp2, q1, q2, q3⟩ := h.d1 k hk
    have ha := (hd.1 hdt).1
    have hku : (D k).u = un → False := fun hu => hno p hp2 (by show kn (T p).o (T p).s (T p).u = _; rw [q1, q2, q3, e1, e2, hu])
    cases hun : un
    · cases hdu : (D k).u
      · exact absurd (hdu.trans hun.symm) hku
      · exfalso
        rcases hac with ⟨a, _⟩ | ⟨a, _⟩ | ⟨_, b, _⟩
        · omega
        · omega
        · have hk2 : (T p).k = kn od st true := by show kn (T p).o (T p).s (T p).u = _; rw [q1, q2, q3, e1, e2, hdu]
          rw [(has_of h.ok hp2 hk2).2] at b
          exact absurd (b hun) (by decide)
    · cases hdu : (D k).u
      · exact ⟨rfl, rfl⟩
      · exact absurd (hdu.trans hun.symm) hku
  have mk {m : Nat} {P : Kp → Prop} (hP : ∀ p, p < n → P (T p)) (hx0 : P ⟨od, st, un, l, code, r⟩) : ∀ q, q < n + 1 → P (ins (pos T (kn od st un) n) ⟨od, st, un, l, code, r⟩ T q) := by
    intro q hq2
    rcases ins_cases (x := ⟨od, st, un, l, code, r⟩) (T := T) hp hq2 with e | ⟨p, hp2, e⟩
    · rw [e]; exact hx0
    · rw [e]; exact hP p hp2
  refine ⟨hok2, hq.e2, mk (m := 0) (P := fun x => x.o ≤ 4) h.o4 hq.o2, ?_, ?_, ?_, ?_, ?_, ?_⟩
  · -- d1
    have old : ∀ i, i < nd → ∃ p, p < n + 1 ∧ K3 (ins (pos T (kn od st un) n) ⟨od, st, un, l, code, r⟩ T p) (D i) := fun i hi => by
      obtain ⟨p, hp2, e⟩ := h.d1 i hi
      obtain ⟨q, hq2, e2⟩ := ins_old (x := ⟨od, st, un, l, code, r⟩) (T := T) hp hp2
      exact ⟨q, hq2, by rw [e2]; exact e⟩
    cases d
    · exact old
    · intro i hi
      have hi' : i < nd + 1 := hi
      show ∃ p, p < n + 1 ∧ K3 _ (snoc nd D x i)
      by_cases hin : i < nd
      · rw [snoc_lt hin]; exact old i hin
      · obtain rfl : i = nd := by omega
        rw [snoc_at]
        exact ⟨pos T (kn od st un) n, by omega, by rw [ins_at]; exact ⟨hx.1.symm, hx.2.1.symm, hx.2.2.symm⟩⟩
  · -- d2
    cases d
    · exact h.d2
    · intro i hi k hk
      have hi' : i < nd + 1 := hi
      show (snoc nd D x k).o = (snoc nd D x i).o → (snoc nd D x k).s = (snoc nd D x i).s → (snoc nd D x k).u = false ∧ (snoc nd D x i).u = true
      rw [snoc_lt (show k < nd by omega)]
      by_cases hin : i < nd
      · rw [snoc_lt hin]; exact h.d2 i hin k hk
      · obtain rfl : i = nd := by omega
        rw [snoc_at, hx.1, hx.2.1, hx.2.2]
        exact fun e1 e2 => hD rfl k hk e1 e2
  · -- d4
    cases d
    · exact h.d4
    · intro i hi
      have hi' : i < nd + 1 := hi
      show (snoc nd D x i).u = true → ∃ k, k < i ∧ (snoc nd D x k).o = (snoc nd D x i).o ∧ (snoc nd D x k).s = (snoc nd D x i).s ∧ (snoc nd D x k).u = false
      by_cases hin : i < nd
      · rw [snoc_lt hin]
        intro hu
        obtain ⟨k, hk, e⟩ := h.d4 i hin hu
        exact ⟨k, hk, by rw [snoc_lt (show k < nd by omega)]; exact e⟩
      · obtain rfl : i = nd := by omega
        rw [snoc_at, hx.1, hx.2.1, hx.2.2]
        intro hu
        rcases hac with ⟨a, _⟩ | ⟨a, _⟩ | ⟨_, _, b⟩
        · have := (hd.1 rfl).1; omega
        · have := (hd.1 rfl).1; omega
        · obtain ⟨b1, b2⟩ := b hu
          obtain ⟨b3, b4⟩ := has_at b1
          obtain ⟨z1, z2, z3⟩ := key_of (un := false) h hq b3 b4
          obtain ⟨k, hk, e1, e2, e3⟩ := h.d5 _ b3 z3 b2
          exact ⟨k, hk, by rw [snoc_lt hk]; exact ⟨e1.trans z1, e2.trans z2, e3⟩⟩
  · -- d5
    have old : ∀ p, p < n → (T p).u = false → (T p).c = 1 → ∃ k, k < (if d then nd + 1 else nd) ∧ ((if d then snoc nd D x else D) k).o = (T p).o ∧ ((if d then snoc nd D x else D) k).s = (T p).s ∧ ((if d then snoc nd D x else D) k).u = false := by
      intro p hp2 h1 h2
      obtain ⟨k, hk, e⟩ := h.d5 p hp2 h1 h2
      cases d
      · exact ⟨k, hk, e⟩
      · refine ⟨k, by show k < nd + 1; omega, ?_⟩
        show (snoc nd D x k).o = _ ∧ (snoc nd D x k).s = _ ∧ (snoc nd D x k).u = _
        rw [snoc_lt hk]; exact e
    refine mk (m := 0) (P := fun y => y.u = false → y.c = 1 → ∃ k, k < (if d then nd + 1 else nd) ∧ ((if d then snoc nd D x else D) k).o = y.o ∧ ((if d then snoc nd D x else D) k).s = y.s ∧ ((if d then snoc nd D x else D) k).u = false) old ?_
    intro h1 h2
    have h1' : un = false := h1
    have h2' : code = 1 := h2
    have hdt : d = true := hd.2 ⟨by
      rcases hac with ⟨a, _, _⟩ | ⟨a, b⟩ | ⟨a, _⟩
      · exfalso
        rw [a] at hm
        unfold mayB at hm
        rw [if_pos rfl] at hm
        have := of_decide_eq_true hm
        omega
      · rw [h1'] at b; cases b
      · exact a, h2'⟩
    subst hdt
    refine ⟨nd, by show nd < nd + 1; omega, ?_⟩
    show (snoc nd D x nd).o = od ∧ (snoc nd D x nd).s = st ∧ (snoc nd D x nd).u = false
    rw [snoc_at]
    exact ⟨hx.1, hx.2.1, hx.2.2.trans h1'⟩
  · intro i hi
    by_cases hin : i < nt
    · rw [snoc_lt hin]
      obtain ⟨p, hp2, e⟩ := h.t1 i hin
      obtain ⟨q, hq2, e2⟩ := ins_old (x := ⟨od, st, un, l, code, r⟩) (T := T) hp hp2
      exact ⟨q, hq2, by rw [e2]; exact e⟩
    · obtain rfl : i = nt := by omega
      rw [snoc_at]
      exact ⟨pos T (kn od st un) n, by omega, ins_at.symm⟩
  · have old : ∀ i, i < no → ∃ p, p < n + 1 ∧ O i = ins (pos T (kn od st un) n) ⟨od, st, un, l, code, r⟩ T p ∧ (ins (pos T (kn od st un) n) ⟨od, st, un, l, code, r⟩ T p).u = true := fun i hi => by
      obtain ⟨p, hp2, e⟩ := h.o1 i hi
      obtain ⟨q, hq2, e2⟩ := ins_old (x := ⟨od, st, un, l, code, r⟩) (T := T) hp hp2
      exact ⟨q, hq2, by rw [e2]; exact e⟩
    cases un
    · exact old
    · intro i hi
      have hi' : i < no + 1 := hi
      show ∃ p, p < n + 1 ∧ snoc no O _ i = _ ∧ _
      by_cases hin : i < no
      · rw [snoc_lt hin]; exact old i hin
      · obtain rfl : i = no := by omega
        rw [snoc_at]
        exact ⟨pos T (kn od st true) n, by omega, ins_at.symm, by rw [ins_at]⟩
theorem Inv.told (h : Inv ep n T nd D nt U no O) {p : Nat} (hp : p < n) : Inv ep n T nd D (nt + 1) (snoc nt U (T p)) no O :=
  ⟨h.ok, h.ep, h.o4, h.d1, h.d2, h.d4, h.d5, fun i hi => by
    by_cases hin : i < nt
    · rw [snoc_lt hin]; exact h.t1 i hin
    · obtain rfl : i = nt := by omega
      rw [snoc_at]; exact ⟨p, hp, rfl⟩, h.o1⟩
/-- What was kept is found. -/
theorem find_new {code : Int} {r : List Nat} (h : Inv ep n T nd D nt U no O) (hh : has n T (kn od st un) = false) (hok : okT (n + 1) (ins (pos T (kn od st un) n) ⟨od, st, un, l, code, r⟩ T)) : findK (n + 1) (ins (pos T (kn od st un) n) ⟨od, st, un, l, code, r⟩ T) (kn od st un) = ⟨od, st, un, l, code, r⟩ ∧ findB (n + 1) (ins (pos T (kn od st un) n) ⟨od, st, un, l, code, r⟩ T) (kn od st un) = true := by
  have hp := pos_le T (kn od st un) n
  have hh2 := has_of hok (i := pos T (kn od st un) n) (q := kn od st un) (by omega) (by rw [ins_at])
  unfold findK findB
  rw [if_pos ⟨(okB_iff _ _).2 hok, hh2.2⟩, hh2.1, ins_at, (okB_iff _ _).2 hok, hh2.2]
  exact ⟨rfl, rfl⟩
end

end Go.Proofs.Ytfcfejmammohpaa
