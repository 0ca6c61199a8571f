/-
  Fences: keys, order, search, and the chapter's answers: mathematics alone.
-/
import Derived.Test.YtfcfejmammohpaaNMath
namespace Go.Proofs.Ytfcfejmammohpaa

/-- A kept step. -/
structure Kp where
  o : Nat
  s : Int
  u : Bool
  a : List Nat
  c : Int
  r : List Nat
abbrev kz : Kp := ⟨0, 0, false, [], 0, []⟩
def in64 (s : Int) : Prop := -9223372036854775808 ≤ s ∧ s < 9223372036854775808
/-- A key as one number. -/
def kn (o : Nat) (s : Int) (u : Bool) : Int := (o : Int) * 36893488147419103232 + s * 2 + (Ent.b2n u : Nat)
abbrev Kp.k (x : Kp) : Int := kn x.o x.s x.u
theorem b2n_le (u : Bool) : Ent.b2n u ≤ 1 := by cases u <;> decide
theorem b2n_inj {u v : Bool} (h : Ent.b2n u = Ent.b2n v) : u = v := by cases u <;> cases v <;> first | rfl | (exact absurd h (by decide))
theorem kn_inj {o o' : Nat} {s s' : Int} {u u' : Bool} (h1 : in64 s) (h2 : in64 s') (h : kn o s u = kn o' s' u') : o = o' ∧ s = s' ∧ u = u' := by
  have := b2n_le u
  have := b2n_le u'
  unfold in64 at h1 h2
  unfold kn at h
  have e1 : o = o' := by omega
  have e2 : s = s' := by omega
  exact ⟨e1, e2, b2n_inj (by omega)⟩
/-- How two keys compare. -/
def cmpI (x y : Int) : Int := if x < y then -1 else if y < x then 1 else 0
theorem cmpI_lt {x y : Int} (h : x < y) : cmpI x y = -1 := by unfold cmpI; rw [if_pos h]
theorem cmpI_gt {x y : Int} (h : y < x) : cmpI x y = 1 := by unfold cmpI; rw [if_neg (by omega), if_pos h]
theorem cmpI_eq {x y : Int} (h : x = y) : cmpI x y = 0 := by unfold cmpI; rw [if_neg (by omega), if_neg (by omega)]
theorem cmpI_or {o o' : Nat} {s s' : Int} {u u' : Bool} (h1 : in64 s) (h2 : in64 s') :
    cmpI (kn o s u) (kn o' s' u') = if cmpI o o' ≠ 0 then cmpI o o' else if cmpI s s' ≠ 0 then cmpI s s' else cmpI (Ent.b2n u : Nat) (Ent.b2n u' : Nat) := by
  have := b2n_le u
  have := b2n_le u'
  unfold in64 at h1 h2
  by_cases a1 : o < o'
  · rw [cmpI_lt (x := o) (y := o') (by omega), if_pos (by decide)]
    exact cmpI_lt (by unfold kn; omega)
  · by_cases a2 : o' < o
    · rw [cmpI_gt (x := o) (y := o') (by omega), if_pos (by decide)]
      exact cmpI_gt (by unfold kn; omega)
    · rw [cmpI_eq (x := o) (y := o') (by omega), if_neg (by decide)]
      by_cases b1 : s < s'
      · rw [cmpI_lt b1, if_pos (by decide)]
        exact cmpI_lt (by unfold kn; omega)
      · by_cases b2 : s' < s
        · rw [cmpI_gt b2, if_pos (by decide)]
          exact cmpI_gt (by unfold kn; omega)
        · rw [cmpI_eq (x := s) (y := s') (by omega), if_neg (by decide)]
          by_cases c1 : Ent.b2n u < Ent.b2n u'
          · rw [cmpI_lt (x := (Ent.b2n u : Nat)) (y := (Ent.b2n u' : Nat)) (by omega)]
            exact cmpI_lt (by unfold kn; omega)
          · by_cases c2 : Ent.b2n u' < Ent.b2n u
            · rw [cmpI_gt (x := (Ent.b2n u : Nat)) (y := (Ent.b2n u' : Nat)) (by omega)]
              exact cmpI_gt (by unfold kn; omega)
            · rw [cmpI_eq (x := (Ent.b2n u : Nat)) (y := (Ent.b2n u' : Nat)) (by omega)]
              exact cmpI_eq (by unfold kn; omega)

/-- An element may be. -/
def vk (x : Kp) : Bool := decide (1 ≤ x.o ∧ 0 ≤ x.s ∧ x.s ≤ 15 ∧ x.a.length ≤ 255 ∧ x.r.length ≤ 255 ∧ (x.c = 1 ∨ x.c = 2))
theorem vk_iff (x : Kp) : vk x = true ↔ (1 ≤ x.o ∧ 0 ≤ x.s ∧ x.s ≤ 15 ∧ x.a.length ≤ 255 ∧ x.r.length ≤ 255 ∧ (x.c = 1 ∨ x.c = 2)) := by unfold vk; exact decide_eq_true_iff
/-- The first m are as they may be. -/
def upTo (T : Nat → Kp) (m : Nat) : Prop := ∀ i, i < m → vk (T i) = true ∧ (0 < i → (T (i - 1)).k < (T i).k)
def okT (n : Nat) (T : Nat → Kp) : Prop := n ≤ 200 ∧ upTo T n
def goodAt (T : Nat → Kp) (i : Nat) : Bool := vk (T i) && (decide (i = 0) || decide ((T (i - 1)).k < (T i).k))
def okB (n : Nat) (T : Nat → Kp) : Bool := decide (n ≤ 200) && (List.range n).all (goodAt T)
theorem goodAt_iff (T : Nat → Kp) (i : Nat) : goodAt T i = true ↔ (vk (T i) = true ∧ (0 < i → (T (i - 1)).k < (T i).k)) := by
  unfold goodAt
  simp only [Bool.and_eq_true, Bool.or_eq_true, decide_eq_true_eq]
  constructor
  · rintro ⟨h1, h2⟩; exact ⟨h1, fun h => by rcases h2 with h2 | h2; omega; exact h2⟩
  · rintro ⟨h1, h2⟩; exact ⟨h1, by by_cases h : i = 0; exact .inl h; exact .inr (h2 (by omega))⟩
theorem okB_iff (n : Nat) (T : Nat → Kp) : okB n T = true ↔ okT n T := by
  unfold okB okT upTo
  simp only [Bool.and_eq_true, decide_eq_true_eq, List.all_eq_true, List.mem_range, goodAt_iff]
theorem okB_bad {n : Nat} {T : Nat → Kp} (i : Nat) (hi : i < n) (h : goodAt T i = false) : okB n T = false := by
  rw [← Bool.not_eq_true, okB_iff]
  intro hk
  have := (goodAt_iff T i).2 (hk.2 i hi)
  rw [h] at this; cases this
theorem okB_big {n : Nat} {T : Nat → Kp} (h : 200 < n) : okB n T = false := by
  rw [← Bool.not_eq_true, okB_iff]
  exact fun hk => absurd hk.1 (by omega)
theorem okT.mono {n : Nat} {T : Nat → Kp} (h : okT n T) {i j : Nat} (hij : i < j) (hj : j < n) : (T i).k < (T j).k := by
  induction j with
  | zero => omega
  | succ j ih =>
    have h1 := (h.2 (j + 1) hj).2 (by omega)
    rw [Nat.add_sub_cancel] at h1
    by_cases e : i = j
    · subst e; exact h1
    · exact Int.lt_trans (ih (by omega) (by omega)) h1
theorem okT.congr {n : Nat} {T T' : Nat → Kp} (h : okT n T) (e : ∀ i, i < n → T i = T' i) : okT n T' := by
  refine ⟨h.1, fun i hi => ?_⟩
  rw [← e i hi]
  refine ⟨(h.2 i hi).1, fun h0 => ?_⟩
  rw [← e (i - 1) (by omega)]
  exact (h.2 i hi).2 h0
theorem okB_congr {n : Nat} {T T' : Nat → Kp} (e : ∀ i, i < n → T i = T' i) : okB n T = okB n T' := by
  rw [Bool.eq_iff_iff, okB_iff, okB_iff]
  exact ⟨fun h => h.congr e, fun h => h.congr (fun i hi => (e i hi).symm)⟩

/-- The place of a key. -/
def pos (T : Nat → Kp) (q : Int) : Nat → Nat
  | 0 => 0
  | n + 1 => if (T n).k < q then n + 1 else pos T q n
theorem pos_le (T : Nat → Kp) (q : Int) (n : Nat) : pos T q n ≤ n := by
  induction n with
  | zero => exact Nat.le_refl _
  | succ n ih => unfold pos; split <;> omega
theorem pos_eq {n : Nat} {T : Nat → Kp} {q : Int} {m : Nat} (hm : m ≤ n) (h1 : ∀ k, k < m → (T k).k < q) (h2 : ∀ k, m ≤ k → k < n → q ≤ (T k).k) : pos T q n = m := by
  induction n with
  | zero => unfold pos; omega
  | succ n ih =>
    unfold pos
    by_cases e : m = n + 1
    · subst e
      rw [if_pos (h1 n (by omega))]
    · rw [if_neg (by have := h2 n (by omega) (by omega); omega)]
      exact ih (by omega) (fun k a b => h2 k a (by omega))
theorem pos_spec {n : Nat} {T : Nat → Kp} (h : okT n T) (q : Int) : (∀ k, k < pos T q n → (T k).k < q) ∧ (∀ k, pos T q n ≤ k → k < n → q ≤ (T k).k) := by
  have : ∀ m, m ≤ n → (∀ k, k < pos T q m → (T k).k < q) ∧ (∀ k, pos T q m ≤ k → k < m → q ≤ (T k).k) := by
    intro m
    induction m with
    | zero => intro _; exact ⟨fun k hk => by unfold pos at hk; omega, fun k _ hk => by omega⟩
    | succ m ih =>
      intro hm
      unfold pos
      by_cases e : (T m).k < q
      · rw [if_pos e]
        refine ⟨fun k hk => ?_, fun k h1 h2 => by omega⟩
        by_cases ek : k = m
        · subst ek; exact e
        · exact Int.lt_trans (h.mono (i := k) (j := m) (by omega) (by omega)) e
      · rw [if_neg e]
        obtain ⟨a, b⟩ := ih (by omega)
        refine ⟨a, fun k h1 h2 => ?_⟩
        by_cases ek : k = m
        · subst ek; omega
        · exact b k h1 (by omega)
  exact this n (Nat.le_refl _)
/-- Is the key there? -/
def has (n : Nat) (T : Nat → Kp) (q : Int) : Bool := decide (pos T q n < n ∧ (T (pos T q n)).k = q)
theorem has_of {n : Nat} {T : Nat → Kp} (h : okT n T) {q : Int} {i : Nat} (hi : i < n) (e : (T i).k = q) : pos T q n = i ∧ has n T q = true := by
  have hp : pos T q n = i := pos_eq (by omega) (fun k hk => by rw [← e]; exact h.mono hk hi) (fun k h1 h2 => by
    by_cases ek : i = k
    · subst ek; omega
    · have := h.mono (i := i) (j := k) (by omega) h2; omega)
  refine ⟨hp, ?_⟩
  unfold has
  rw [hp, decide_eq_true_iff]
  exact ⟨hi, e⟩
theorem has_not {n : Nat} {T : Nat → Kp} {q : Int} (h : ∀ i, i < n → (T i).k ≠ q) : has n T q = false := by
  unfold has
  rw [decide_eq_false_iff_not]
  rintro ⟨a, b⟩
  exact h _ a b
theorem has_at {n : Nat} {T : Nat → Kp} {q : Int} (h : has n T q = true) : pos T q n < n ∧ (T (pos T q n)).k = q := by
  unfold has at h; exact decide_eq_true_iff.1 h
theorem has_no {n : Nat} {T : Nat → Kp} (hk : okT n T) {q : Int} (h : has n T q = false) : ∀ i, i < n → (T i).k ≠ q := fun i hi e => by
  rw [(has_of hk hi e).2] at h; cases h
theorem pos_congr {n : Nat} {T T' : Nat → Kp} (e : ∀ i, i < n → T i = T' i) (q : Int) : pos T q n = pos T' q n := by
  induction n with
  | zero => rfl
  | succ n ih => unfold pos; rw [e n (by omega), ih (fun i hi => e i (by omega))]
theorem has_congr {n : Nat} {T T' : Nat → Kp} (e : ∀ i, i < n → T i = T' i) (q : Int) : has n T q = has n T' q := by
  unfold has
  rw [pos_congr e q]
  by_cases h : pos T' q n < n
  · rw [e _ h]
  · simp [h]

/-- A request. -/
def reqB (N : Note) : Bool := decide (N.kind = 7) && (Ent.ok N && (decide (N.epoch ≠ 0) && decide (N.order ≠ 0)))
abbrev nk (N : Note) : Int := kn N.order N.step N.undo
abbrev nk' (N : Note) : Int := kn N.order N.step (!N.undo)
/-- What is to be done with a request whose key is not there. -/
def actN (n : Nat) (T : Nat → Kp) (N : Note) : Nat :=
  if N.undo = false ∧ has n T (nk' N) = true then 3 else if N.undo = true ∧ (has n T (nk' N) = false ∨ (T (pos T (nk' N) n)).c = 2) then 4 else 1
/-- What the chapter answers: what is to be done, the element, the error. -/
structure An where
  act : Nat
  k : Kp
  e : Nat
def askS (ep n : Nat) (T : Nat → Kp) (N : Note) : An :=
  if okB n T = true ∧ reqB N = true then
    if N.epoch < ep then ⟨0, kz, 72⟩
    else if has n T (nk N) = true then (if (T (pos T (nk N) n)).a = N.data then ⟨2, T (pos T (nk N) n), 0⟩ else ⟨0, kz, 80⟩)
    else ⟨actN n T N, kz, 0⟩
  else ⟨0, kz, 2⟩
/-- What is found. -/
def findK (n : Nat) (T : Nat → Kp) (q : Int) : Kp := if okB n T = true ∧ has n T q = true then T (pos T q n) else kz
def findB (n : Nat) (T : Nat → Kp) (q : Int) : Bool := okB n T && has n T q
def chkC (n : Nat) (T : Nat → Kp) : Nat := if okB n T = true then 0 else 2
def seeE (ep n : Nat) (T : Nat → Kp) (e : Nat) : Nat := if okB n T = true then (if e < ep then 72 else 0) else 2
/-- May that be the verdict? -/
def mayB (act : Nat) (code : Int) : Bool := if act = 3 then decide (code = 2) else if act = 4 then decide (code = 1) else decide (code = 1 ∨ code = 2)
def keepE (ep n : Nat) (T : Nat → Kp) (N : Note) (code : Int) (reply : List Nat) : Nat :=
  if (askS ep n T N).e ≠ 0 then (askS ep n T N).e else if mayB (askS ep n T N).act code = false ∨ 255 < reply.length then 2
  else if (askS ep n T N).act = 2 then 81 else if n = 200 then 5 else 0
/-- An element more. -/
def ins (m : Nat) (x : Kp) (T : Nat → Kp) : Nat → Kp := fun j => if j < m then T j else if j = m then x else T (j - 1)
abbrev newK (N : Note) (code : Int) (reply : List Nat) : Kp := ⟨N.order, N.step, N.undo, N.data, code, reply⟩
/-- A fence. -/
structure Fc where
  ep : Nat
  n : Nat
  T : Nat → Kp
abbrev fz : Fc := ⟨0, 0, fun _ => kz⟩
def keepF (ep n : Nat) (T : Nat → Kp) (N : Note) (code : Int) (reply : List Nat) : Fc :=
  if keepE ep n T N code reply = 0 then ⟨N.epoch, n + 1, ins (pos T (nk N) n) (newK N code reply) T⟩ else fz
def seeF (ep n : Nat) (T : Nat → Kp) (e : Nat) : Fc := if seeE ep n T e = 0 then ⟨e, n, T⟩ else fz

end Go.Proofs.Ytfcfejmammohpaa
