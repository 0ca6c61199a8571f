/-
  What a purse is, and what becomes of it, as plain lists: accounts by name, payments by order.
-/
import Derived.Test.YtlgdjmmhdfpfeaaBase
namespace Go.Proofs.Ytlgdjmmhdfpfeaa
set_option linter.unusedVariables false

/-- An account: its name, its money, how much of it is reserved. -/
structure Kd where
  n : List UInt8
  m : Int
  h : Int
/-- A payment: its order, the account's name, how much, its state. -/
structure Hd where
  o : Nat
  n : List UInt8
  k : Int
  t : Nat
instance : Inhabited Kd := ⟨⟨[], 0, 0⟩⟩
instance : Inhabited Hd := ⟨⟨0, [], 0, 0⟩⟩
/-- A purse. -/
structure Ss where
  K : List Kd
  H : List Hd

def findK (K : List Kd) (x : List UInt8) : Option Kd := K.find? (fun k => k.n == x)
def findH (H : List Hd) (o : Nat) : Option Hd := H.find? (fun h => h.o == o)
def updK (K : List Kd) (k' : Kd) : List Kd := K.map (fun k => if k.n == k'.n then k' else k)
def insK (k : Kd) : List Kd → List Kd
  | [] => [k]
  | x :: r => if k.n < x.n then k :: x :: r else x :: insK k r
def insH (h : Hd) : List Hd → List Hd
  | [] => [h]
  | x :: r => if h.o < x.o then h :: x :: r else x :: insH h r
def delH (H : List Hd) (o : Nat) : List Hd := H.filter (fun h => h.o != o)
/-- The payments in a state. -/
def stH (H : List Hd) (t : Nat) : List Hd := H.filter (fun h => h.t == t)
/-- The payment of an order goes to a state. -/
def setH (H : List Hd) (o t : Nat) : List Hd := H.map (fun h => if h.o == o then ⟨h.o, h.n, h.k, t⟩ else h)
/-- What an account's payments in a state come to. -/
def held : List Hd → List UInt8 → Nat → Int
  | [], _, _ => 0
  | h :: r, x, t => (if h.n == x && h.t == t then h.k else 0) + held r x t
/-- What all payments in a state come to. -/
def tot : List Hd → Nat → Int
  | [], _ => 0
  | h :: r, t => (if h.t == t then h.k else 0) + tot r t

/-- May so much be authorised? -/
def authV (s : Ss) (o : Nat) (x : List UInt8) (n : Int) : Bool :=
  o != 0 && decide (1 ≤ n) && (findH s.H o).isNone && (match findK s.K x with | none => false | some k => decide (n ≤ k.m - k.h))
def authS (s : Ss) (o : Nat) (x : List UInt8) (n : Int) : Ss :=
  if authV s o x n = true then (match findK s.K x with | none => s | some k => ⟨updK s.K ⟨k.n, k.m, k.h + n⟩, insH ⟨o, k.n, n, 1⟩ s.H⟩) else s
/-- The three ways on: 0 captured, 1 let go, 2 refunded: from which state, to which one. -/
def frS (c : Nat) : Nat := if c = 2 then 2 else 1
def toS (c : Nat) : Nat := if c = 0 then 2 else 3
def movV (s : Ss) (o c : Nat) : Bool := match findH s.H o with | none => false | some h => h.t == frS c
def movK (k : Kd) (m : Int) (c : Nat) : Kd := if c = 0 then ⟨k.n, k.m - m, k.h - m⟩ else if c = 1 then ⟨k.n, k.m, k.h - m⟩ else ⟨k.n, k.m + m, k.h⟩
def movS (s : Ss) (o c : Nat) : Ss :=
  if movV s o c = true then (match findH s.H o with
    | none => s
    | some h => match findK s.K h.n with
      | none => s
      | some k => ⟨updK s.K (movK k h.k c), setH s.H o (toS c)⟩) else s
def verd (b : Bool) : Int := if b then 1 else 2

def KSort (K : List Kd) : Prop := K.Pairwise (fun a b => a.n < b.n)
def HSort (H : List Hd) : Prop := H.Pairwise (fun a b => a.o < b.o)

/-! ### names -/
theorem nm_irrefl (a : List UInt8) : ¬ a < a := List.lt_irrefl a
theorem nm_trans {a b c : List UInt8} (h : a < b) (h' : b < c) : a < c := List.lt_trans h h'
theorem nm_asymm {a b : List UInt8} (h : a < b) : ¬ b < a := fun h' => nm_irrefl a (nm_trans h h')
theorem nm_tri {a b : List UInt8} (h : ¬ a < b) (h' : a ≠ b) : b < a := by
  refine Classical.byContradiction fun hb => h' ?_
  exact List.le_antisymm (List.not_lt.1 hb) (List.not_lt.1 h)

/-! ### kinds -/
theorem findK_some {K : List Kd} {x : List UInt8} {k : Kd} (h : findK K x = some k) : k ∈ K ∧ k.n = x :=
  ⟨List.mem_of_find?_eq_some h, by simpa using List.find?_some h⟩
theorem findK_none {K : List Kd} {x : List UInt8} (h : findK K x = none) : ∀ k ∈ K, k.n ≠ x := fun k hk e => by
  have := List.find?_eq_none.1 h k hk
  simp [e] at this
theorem findK_none' {K : List Kd} {x : List UInt8} (h : ∀ k ∈ K, k.n ≠ x) : findK K x = none :=
  List.find?_eq_none.2 fun k hk => by simpa using h k hk
theorem KSort.uniq {K : List Kd} (h : KSort K) {a b : Kd} (ha : a ∈ K) (hb : b ∈ K) (e : a.n = b.n) : a = b := by
  induction K with
  | nil => cases ha
  | cons x r ih =>
    obtain ⟨h1, h2⟩ := List.pairwise_cons.1 h
    rcases List.mem_cons.1 ha with ea | ha'
    · rcases List.mem_cons.1 hb with eb | hb'
      · rw [ea, eb]
      · subst ea; exact absurd (e ▸ h1 b hb') (nm_irrefl _)
    · rcases List.mem_cons.1 hb with eb | hb'
      · subst eb; exact absurd (e ▸ h1 a ha') (nm_irrefl _)
      · exact ih h2 ha' hb'
theorem KSort.find {K : List Kd} (h : KSort K) {k : Kd} (hk : k ∈ K) : findK K k.n = some k := by
  cases hf : findK K k.n with
  | none => exact absurd rfl (findK_none hf k hk)
  | some k' => obtain ⟨h1, h2⟩ := findK_some hf; rw [h.uniq h1 hk h2]
theorem updK_names (K : List Kd) (k' : Kd) : (updK K k').map (·.n) = K.map (·.n) := by
  unfold updK
  rw [List.map_map]
  refine List.map_congr_left fun k _ => ?_
  simp only [Function.comp]
  split
  · rename_i h; simpa using (beq_iff_eq.1 h).symm
  · rfl
theorem updK_length (K : List Kd) (k' : Kd) : (updK K k').length = K.length := by simp [updK]
theorem KSort_iff (K : List Kd) : KSort K ↔ (K.map (·.n)).Pairwise (· < ·) := by unfold KSort; rw [List.pairwise_map]
theorem KSort.upd {K : List Kd} (h : KSort K) (k' : Kd) : KSort (updK K k') := by
  rw [KSort_iff, updK_names, ← KSort_iff]; exact h
theorem mem_updK {K : List Kd} {k' y : Kd} : y ∈ updK K k' ↔ (y = k' ∧ ∃ k ∈ K, k.n = k'.n) ∨ (y ∈ K ∧ y.n ≠ k'.n) := by
  unfold updK
  rw [List.mem_map]
  constructor
  · rintro ⟨k, hk, rfl⟩
    by_cases e : k.n = k'.n
    · left; rw [if_pos (by simpa using e)]; exact ⟨rfl, k, hk, e⟩
    · right; rw [if_neg (by simpa using e)]; exact ⟨hk, e⟩
  · rintro (⟨rfl, k, hk, e⟩ | ⟨hy, e⟩)
    · exact ⟨k, hk, by simp [e]⟩
    · exact ⟨y, hy, by rw [if_neg (by simpa using e)]⟩
theorem updK_self {K : List Kd} (h : KSort K) {k : Kd} (hk : k ∈ K) : updK K k = K := by
  unfold updK
  conv => rhs; rw [← List.map_id K]
  refine List.map_congr_left fun y hy => ?_
  split
  · rename_i e; exact (h.uniq hy hk (beq_iff_eq.1 e)).symm
  · rfl
theorem updK_updK (K : List Kd) (a b : Kd) (e : a.n = b.n) : updK (updK K a) b = updK K b := by
  unfold updK
  rw [List.map_map]
  refine List.map_congr_left fun y hy => ?_
  simp only [Function.comp]
  by_cases h : y.n = b.n
  · simp [h, e]
  · simp [h, e]
theorem findK_upd {K : List Kd} (h : KSort K) (k' : Kd) (x : List UInt8) : findK (updK K k') x = if x = k'.n then (findK K x).map (fun _ => k') else findK K x := by
  cases hf : findK K x with
  | none =>
    have h1 := findK_none hf
    have : findK (updK K k') x = none := findK_none' fun y hy e => by
      rcases mem_updK.1 hy with ⟨rfl, k, hk, e'⟩ | ⟨hy, _⟩
      · exact h1 k hk (e'.trans e)
      · exact h1 y hy e
    rw [this]; split <;> rfl
  | some k =>
    obtain ⟨hk, rfl⟩ := findK_some hf
    split
    · rename_i e
      have := (h.upd k').find (k := k') (mem_updK.2 (.inl ⟨rfl, k, hk, e⟩))
      rw [e, this]; rfl
    · rename_i e
      exact (h.upd k').find (mem_updK.2 (.inr ⟨hk, e⟩))

/-! ### holds -/
theorem findH_some {H : List Hd} {o : Nat} {h : Hd} (e : findH H o = some h) : h ∈ H ∧ h.o = o :=
  ⟨List.mem_of_find?_eq_some e, by simpa using List.find?_some e⟩
theorem findH_none {H : List Hd} {o : Nat} (h : findH H o = none) : ∀ x ∈ H, x.o ≠ o := fun k hk e => by
  have := List.find?_eq_none.1 h k hk
  simp [e] at this
theorem findH_none' {H : List Hd} {o : Nat} (h : ∀ x ∈ H, x.o ≠ o) : findH H o = none :=
  List.find?_eq_none.2 fun k hk => by simpa using h k hk
theorem HSort.uniq {H : List Hd} (h : HSort H) {a b : Hd} (ha : a ∈ H) (hb : b ∈ H) (e : a.o = b.o) : a = b := by
  induction H with
  | nil => cases ha
  | cons x r ih =>
    obtain ⟨h1, h2⟩ := List.pairwise_cons.1 h
    rcases List.mem_cons.1 ha with ea | ha'
    · rcases List.mem_cons.1 hb with eb | hb'
      · rw [ea, eb]
      · subst ea; have := h1 b hb'; omega
    · rcases List.mem_cons.1 hb with eb | hb'
      · subst eb; have := h1 a ha'; omega
      · exact ih h2 ha' hb'
theorem HSort.find {H : List Hd} (h : HSort H) {x : Hd} (hx : x ∈ H) : findH H x.o = some x := by
  cases hf : findH H x.o with
  | none => exact absurd rfl (findH_none hf x hx)
  | some k' => obtain ⟨h1, h2⟩ := findH_some hf; rw [h.uniq h1 hx h2]
theorem mem_insH {h y : Hd} : ∀ {H : List Hd}, y ∈ insH h H ↔ y = h ∨ y ∈ H
  | [] => by simp [insH]
  | x :: r => by
    unfold insH
    split
    · simp
    · simp only [List.mem_cons, mem_insH (H := r)]
      constructor
      · rintro (h | h | h) <;> simp [h]
      · rintro (h | h | h) <;> simp [h]
theorem insH_length (h : Hd) : ∀ H : List Hd, (insH h H).length = H.length + 1
  | [] => rfl
  | x :: r => by unfold insH; split <;> simp [insH_length h r]
theorem HSort.ins {H : List Hd} {h : Hd} (hs : HSort H) (hn : ∀ x ∈ H, x.o ≠ h.o) : HSort (insH h H) := by
  induction H with
  | nil => exact List.pairwise_singleton _ _
  | cons x r ih =>
    obtain ⟨h1, h2⟩ := List.pairwise_cons.1 hs
    unfold insH
    split
    · rename_i e
      refine List.pairwise_cons.2 ⟨fun y hy => ?_, hs⟩
      rcases List.mem_cons.1 hy with rfl | hy
      · exact e
      · have := h1 y hy; omega
    · rename_i e
      refine List.pairwise_cons.2 ⟨fun y hy => ?_, ih h2 fun y hy => hn y (List.mem_cons_of_mem _ hy)⟩
      rcases mem_insH.1 hy with rfl | hy
      · have := hn x (List.mem_cons_self ..); omega
      · exact h1 y hy
theorem HSort.del {H : List Hd} (hs : HSort H) (o : Nat) : HSort (delH H o) := hs.filter _
theorem mem_delH {H : List Hd} {o : Nat} {y : Hd} : y ∈ delH H o ↔ y ∈ H ∧ y.o ≠ o := by simp [delH, List.mem_filter]
theorem delH_ins {H : List Hd} {h : Hd} (hn : ∀ x ∈ H, x.o ≠ h.o) : delH (insH h H) h.o = H := by
  induction H with
  | nil => simp [insH, delH]
  | cons x r ih =>
    have hx := hn x (List.mem_cons_self ..)
    have ih' := ih fun y hy => hn y (List.mem_cons_of_mem _ hy)
    have hr : delH r h.o = r := by
      unfold delH
      rw [List.filter_eq_self]
      intro y hy
      simpa using hn y (List.mem_cons_of_mem _ hy)
    unfold insH
    split
    · unfold delH at hr ⊢
      simp [hx, hr]
    · unfold delH at ih' ⊢
      simp [hx, ih']
theorem delH_length {H : List Hd} (hs : HSort H) {h : Hd} (hh : h ∈ H) : (delH H h.o).length + 1 = H.length := by
  induction H with
  | nil => cases hh
  | cons x r ih =>
    obtain ⟨h1, h2⟩ := List.pairwise_cons.1 hs
    rcases List.mem_cons.1 hh with rfl | hr
    · have : delH r h.o = r := by
        unfold delH
        rw [List.filter_eq_self]
        intro y hy
        have := h1 y hy
        simp; omega
      unfold delH at this ⊢
      simp [this]
    · have hx := h1 h hr
      have := ih h2 hr
      unfold delH at this ⊢
      rw [List.filter_cons, if_pos (by simp; omega)]
      simp [this]
theorem findH_ins {H : List Hd} {h : Hd} (hs : HSort H) (hn : ∀ x ∈ H, x.o ≠ h.o) (o : Nat) : findH (insH h H) o = if o = h.o then some h else findH H o := by
  split
  · rename_i e; subst e; exact (hs.ins hn).find (mem_insH.2 (.inl rfl))
  · rename_i e
    cases hf : findH H o with
    | none =>
      refine findH_none' fun y hy e' => ?_
      rcases mem_insH.1 hy with rfl | hy
      · exact e e'.symm
      · exact findH_none hf y hy e'
    | some y =>
      obtain ⟨hy, rfl⟩ := findH_some hf
      exact (hs.ins hn).find (mem_insH.2 (.inr hy))
theorem findH_del {H : List Hd} (hs : HSort H) (o q : Nat) : findH (delH H q) o = if o = q then none else findH H o := by
  split
  · rename_i e; subst e; exact findH_none' fun y hy => (mem_delH.1 hy).2
  · rename_i e
    cases hf : findH H o with
    | none => exact findH_none' fun y hy e' => findH_none hf y (mem_delH.1 hy).1 e'
    | some y =>
      obtain ⟨hy, rfl⟩ := findH_some hf
      exact (hs.del q).find (mem_delH.2 ⟨hy, e⟩)
theorem held_ins (h : Hd) (x : List UInt8) (t : Nat) : ∀ H : List Hd, held (insH h H) x t = (if h.n == x && h.t == t then h.k else 0) + held H x t
  | [] => rfl
  | y :: r => by
    unfold insH
    split
    · rfl
    · simp only [held, held_ins h x t r]; omega
theorem tot_ins (h : Hd) (t : Nat) : ∀ H : List Hd, tot (insH h H) t = (if h.t == t then h.k else 0) + tot H t
  | [] => rfl
  | y :: r => by
    unfold insH
    split
    · rfl
    · simp only [tot, tot_ins h t r]; omega
theorem setH_orders (H : List Hd) (o t : Nat) : (setH H o t).map (·.o) = H.map (·.o) := by
  unfold setH
  rw [List.map_map]
  refine List.map_congr_left fun h _ => ?_
  simp only [Function.comp]
  split <;> rfl
theorem setH_length (H : List Hd) (o t : Nat) : (setH H o t).length = H.length := by simp [setH]
theorem HSort_iff (H : List Hd) : HSort H ↔ (H.map (·.o)).Pairwise (· < ·) := by unfold HSort; rw [List.pairwise_map]
theorem HSort.set {H : List Hd} (h : HSort H) (o t : Nat) : HSort (setH H o t) := by rw [HSort_iff, setH_orders, ← HSort_iff]; exact h
theorem HSort.st {H : List Hd} (h : HSort H) (t : Nat) : HSort (stH H t) := h.filter _
theorem mem_stH {H : List Hd} {t : Nat} {y : Hd} : y ∈ stH H t ↔ y ∈ H ∧ y.t = t := by simp [stH, List.mem_filter]
theorem mem_setH {H : List Hd} {o t : Nat} {y : Hd} : y ∈ setH H o t ↔ (∃ h ∈ H, h.o = o ∧ y = ⟨h.o, h.n, h.k, t⟩) ∨ (y ∈ H ∧ y.o ≠ o) := by
  unfold setH
  rw [List.mem_map]
  constructor
  · rintro ⟨h, hh, rfl⟩
    by_cases e : h.o = o
    · left; rw [if_pos (by simpa using e)]; exact ⟨h, hh, e, rfl⟩
    · right; rw [if_neg (by simpa using e)]; exact ⟨hh, e⟩
  · rintro (⟨h, hh, e, rfl⟩ | ⟨hy, e⟩)
    · exact ⟨h, hh, by simp [e]⟩
    · exact ⟨y, hy, by rw [if_neg (by simpa using e)]⟩
theorem setH_none {H : List Hd} {o t : Nat} (h : ∀ x ∈ H, x.o ≠ o) : setH H o t = H := by
  unfold setH
  conv => rhs; rw [← List.map_id H]
  refine List.map_congr_left fun y hy => ?_
  rw [if_neg (by simpa using h y hy)]; rfl
theorem held_set {H : List Hd} (hs : HSort H) {h : Hd} (hh : h ∈ H) (t : Nat) (x : List UInt8) (u : Nat) :
    held (setH H h.o t) x u = held H x u - (if h.n == x && h.t == u then h.k else 0) + (if h.n == x && t == u then h.k else 0) := by
  induction H with
  | nil => cases hh
  | cons y r ih =>
    obtain ⟨h1, h2⟩ := List.pairwise_cons.1 hs
    rcases List.mem_cons.1 hh with rfl | hr
    · have e := setH_none (H := r) (o := h.o) (t := t) fun z hz => by have := h1 z hz; omega
      unfold setH at e ⊢
      rw [List.map_cons, if_pos (by simp), e]
      simp only [held]; omega
    · have hx := h1 h hr
      have := ih h2 hr
      unfold setH at this ⊢
      rw [List.map_cons, if_neg (by simp; omega)]
      simp only [held, this]; omega
theorem tot_set {H : List Hd} (hs : HSort H) {h : Hd} (hh : h ∈ H) (t : Nat) (u : Nat) :
    tot (setH H h.o t) u = tot H u - (if h.t == u then h.k else 0) + (if t == u then h.k else 0) := by
  induction H with
  | nil => cases hh
  | cons y r ih =>
    obtain ⟨h1, h2⟩ := List.pairwise_cons.1 hs
    rcases List.mem_cons.1 hh with rfl | hr
    · have e := setH_none (H := r) (o := h.o) (t := t) fun z hz => by have := h1 z hz; omega
      unfold setH at e ⊢
      rw [List.map_cons, if_pos (by simp), e]
      simp only [tot]; omega
    · have hx := h1 h hr
      have := ih h2 hr
      unfold setH at this ⊢
      rw [List.map_cons, if_neg (by simp; omega)]
      simp only [tot, this]; omega

/-! ### the payments of each state, behind each call -/
theorem nodup_of_sort {H : List Hd} (h : HSort H) : H.Nodup := List.Pairwise.imp (fun {a b} hlt e => by subst e; omega) h
theorem HSort.ext {H L : List Hd} (h : HSort H) (h' : HSort L) (e : ∀ y, y ∈ H ↔ y ∈ L) : H = L := by
  have hp := (List.perm_ext_iff_of_nodup (nodup_of_sort h) (nodup_of_sort h')).2 e
  exact List.Perm.eq_of_pairwise (le := fun a b : Hd => a.o < b.o) (fun a b _ _ q1 q2 => by omega) h h' hp
theorem stH_ins {H : List Hd} {h : Hd} (hs : HSort H) (hn : ∀ x ∈ H, x.o ≠ h.o) (t : Nat) : stH (insH h H) t = if h.t = t then insH h (stH H t) else stH H t := by
  have hn2 : ∀ x ∈ stH H t, x.o ≠ h.o := fun x hx => hn x (mem_stH.1 hx).1
  split
  · rename_i e
    refine ((hs.ins hn).st t).ext ((hs.st t).ins hn2) fun y => ?_
    rw [mem_stH, mem_insH, mem_insH, mem_stH]
    constructor
    · rintro ⟨rfl | h1, h2⟩
      · exact .inl rfl
      · exact .inr ⟨h1, h2⟩
    · rintro (rfl | ⟨h1, h2⟩)
      · exact ⟨.inl rfl, e⟩
      · exact ⟨.inr h1, h2⟩
  · rename_i e
    refine ((hs.ins hn).st t).ext (hs.st t) fun y => ?_
    rw [mem_stH, mem_insH, mem_stH]
    constructor
    · rintro ⟨rfl | h1, h2⟩
      · exact absurd h2 e
      · exact ⟨h1, h2⟩
    · rintro ⟨h1, h2⟩
      exact ⟨.inr h1, h2⟩
theorem stH_set_from {H : List Hd} (hs : HSort H) {h : Hd} (hh : h ∈ H) {t : Nat} (ht : h.t ≠ t) : stH (setH H h.o t) h.t = delH (stH H h.t) h.o := by
  refine ((hs.set _ _).st _).ext ((hs.st _).del _) fun y => ?_
  rw [mem_stH, mem_setH, mem_delH, mem_stH]
  constructor
  · rintro ⟨⟨z, hz, e, rfl⟩ | ⟨h1, h2⟩, h3⟩
    · exact absurd h3.symm ht
    · exact ⟨⟨h1, h3⟩, h2⟩
  · rintro ⟨⟨h1, h3⟩, h2⟩
    exact ⟨.inr ⟨h1, h2⟩, h3⟩
theorem stH_set_to {H : List Hd} (hs : HSort H) {h : Hd} (hh : h ∈ H) {t : Nat} (ht : h.t ≠ t) : stH (setH H h.o t) t = insH ⟨h.o, h.n, h.k, t⟩ (stH H t) := by
  have hn : ∀ x ∈ stH H t, x.o ≠ h.o := fun x hx e => by
    obtain ⟨h1, h2⟩ := mem_stH.1 hx
    have := hs.uniq h1 hh e
    subst this
    exact ht h2
  refine ((hs.set _ _).st _).ext ((hs.st _).ins (h := ⟨h.o, h.n, h.k, t⟩) hn) fun y => ?_
  rw [mem_stH, mem_setH, mem_insH, mem_stH]
  constructor
  · rintro ⟨⟨z, hz, e, rfl⟩ | ⟨h1, h2⟩, h3⟩
    · have := hs.uniq hz hh e
      subst this
      exact .inl rfl
    · exact .inr ⟨h1, h3⟩
  · rintro (rfl | ⟨h1, h2⟩)
    · exact ⟨.inl ⟨h, hh, rfl, rfl⟩, rfl⟩
    · exact ⟨.inr ⟨h1, hn y (mem_stH.2 ⟨h1, h2⟩)⟩, h2⟩
theorem stH_set_other {H : List Hd} (hs : HSort H) {h : Hd} (hh : h ∈ H) {t u : Nat} (hu : u ≠ t) (hu2 : u ≠ h.t) : stH (setH H h.o t) u = stH H u := by
  refine ((hs.set _ _).st _).ext (hs.st _) fun y => ?_
  rw [mem_stH, mem_setH, mem_stH]
  constructor
  · rintro ⟨⟨z, hz, e, rfl⟩ | ⟨h1, h2⟩, h3⟩
    · exact absurd h3.symm hu
    · exact ⟨h1, h3⟩
  · rintro ⟨h1, h2⟩
    refine ⟨.inr ⟨h1, fun e => ?_⟩, h2⟩
    have := hs.uniq h1 hh e
    subst this
    exact hu2 h2.symm
theorem findH_set {H : List Hd} (hs : HSort H) {h : Hd} (hh : h ∈ H) (t o : Nat) : findH (setH H h.o t) o = if o = h.o then some ⟨h.o, h.n, h.k, t⟩ else findH H o := by
  split
  · rename_i e; subst e
    exact (hs.set h.o t).find (x := ⟨h.o, h.n, h.k, t⟩) (mem_setH.2 (.inl ⟨h, hh, rfl, rfl⟩))
  · rename_i e
    cases hf : findH H o with
    | none =>
      refine findH_none' fun y hy e' => ?_
      rcases mem_setH.1 hy with ⟨z, hz, e2, rfl⟩ | ⟨hy, _⟩
      · exact findH_none hf z hz e'
      · exact findH_none hf y hy e'
    | some y =>
      obtain ⟨hy, rfl⟩ := findH_some hf
      exact (hs.set _ _).find (mem_setH.2 (.inr ⟨hy, e⟩))
theorem findH_st {H : List Hd} (hs : HSort H) (o t : Nat) : findH (stH H t) o = match findH H o with | none => none | some h => if h.t = t then some h else none := by
  cases hf : findH H o with
  | none => exact findH_none' fun y hy => findH_none hf y (mem_stH.1 hy).1
  | some h =>
    obtain ⟨hh, rfl⟩ := findH_some hf
    dsimp only
    split
    · rename_i e; exact (hs.st t).find (mem_stH.2 ⟨hh, e⟩)
    · rename_i e
      refine findH_none' fun y hy e' => ?_
      obtain ⟨h1, h2⟩ := mem_stH.1 hy
      have := hs.uniq h1 hh e'
      subst this
      exact e h2

/-! ### a purse that may be -/
structure Inv (s : Ss) : Prop where
  ks : KSort s.K
  hs : HSort s.H
  kl : ∀ k ∈ s.K, 1 ≤ k.n.length ∧ k.n.length ≤ 32
  kf : ∀ k ∈ s.K, 0 ≤ k.h ∧ k.h ≤ k.m ∧ k.h = held s.H k.n 1 ∧ k.m + held s.H k.n 2 ≤ 1000000000
  hh : ∀ h ∈ s.H, 1 ≤ h.k ∧ 0 < h.o ∧ h.o < 4294967296 ∧ 1 ≤ h.t ∧ h.t ≤ 3 ∧ h.k ≤ 1000000000 ∧ ∃ k ∈ s.K, k.n = h.n
  kz : s.K.length ≤ 50

theorem held_nonneg {H : List Hd} (h : ∀ y ∈ H, 1 ≤ y.k) (x : List UInt8) (t : Nat) : 0 ≤ held H x t := by
  induction H with
  | nil => exact Int.le_refl _
  | cons y r ih =>
    have h1 := h y (List.mem_cons_self ..)
    have h2 := ih fun z hz => h z (List.mem_cons_of_mem _ hz)
    simp only [held]
    split <;> omega
theorem tot_nonneg {H : List Hd} (h : ∀ y ∈ H, 1 ≤ y.k) (t : Nat) : 0 ≤ tot H t := by
  induction H with
  | nil => exact Int.le_refl _
  | cons y r ih =>
    have h1 := h y (List.mem_cons_self ..)
    have h2 := ih fun z hz => h z (List.mem_cons_of_mem _ hz)
    simp only [tot]
    split <;> omega
theorem held_ge {H : List Hd} (h : ∀ y ∈ H, 1 ≤ y.k) {y : Hd} (hy : y ∈ H) : y.k ≤ held H y.n y.t := by
  induction H with
  | nil => cases hy
  | cons z r ih =>
    have h1 := h z (List.mem_cons_self ..)
    have h3 := fun z hz => h z (List.mem_cons_of_mem _ hz)
    simp only [held]
    rcases List.mem_cons.1 hy with rfl | hr
    · rw [if_pos (by simp)]
      have := held_nonneg h3 y.n y.t
      omega
    · have := ih h3 hr
      split <;> omega
theorem Inv.pos {s : Ss} (h : Inv s) : ∀ y ∈ s.H, 1 ≤ y.k := fun y hy => (h.hh y hy).1
theorem Inv.kn {s : Ss} (h : Inv s) {y : Hd} (hy : y ∈ s.H) : ∃ k, findK s.K y.n = some k ∧ k ∈ s.K ∧ k.n = y.n := by
  obtain ⟨-, -, -, -, -, -, k, hk, e⟩ := h.hh y hy
  exact ⟨k, e ▸ h.ks.find hk, hk, e⟩
theorem Inv.kb {s : Ss} (h : Inv s) {y : Hd} (hy : y ∈ s.H) : y.k ≤ 1000000000 ∧ y.n.length ≤ 32 := by
  obtain ⟨k, -, hk, e⟩ := h.kn hy
  exact ⟨(h.hh y hy).2.2.2.2.2.1, e ▸ (h.kl k hk).2⟩
/-- What is known of an account, as numbers. -/
theorem Inv.kbs {s : Ss} (h : Inv s) {k : Kd} (hk : k ∈ s.K) : 0 ≤ k.h ∧ k.h ≤ k.m ∧ k.m ≤ 1000000000 := by
  have h1 := h.kf k hk
  have h2 := held_nonneg h.pos k.n 2
  omega

theorem authV_iff {s : Ss} {o : Nat} {x : List UInt8} {n : Int} : authV s o x n = true ↔ o ≠ 0 ∧ 1 ≤ n ∧ findH s.H o = none ∧ ∃ k, findK s.K x = some k ∧ n ≤ k.m - k.h := by
  unfold authV
  cases hk : findK s.K x <;> simp [and_assoc]
theorem authS_no {s : Ss} {o : Nat} {x : List UInt8} {n : Int} (h : authV s o x n = false) : authS s o x n = s := by
  unfold authS; rw [if_neg (by rw [h]; decide)]
theorem authS_yes {s : Ss} {o : Nat} {x : List UInt8} {n : Int} (h : authV s o x n = true) {k : Kd} (hk : findK s.K x = some k) : authS s o x n = ⟨updK s.K ⟨k.n, k.m, k.h + n⟩, insH ⟨o, k.n, n, 1⟩ s.H⟩ := by
  unfold authS; rw [if_pos h, hk]
theorem movV_iff {s : Ss} {o c : Nat} : movV s o c = true ↔ ∃ h, findH s.H o = some h ∧ h.t = frS c := by
  unfold movV
  cases hf : findH s.H o <;> simp
theorem movS_no {s : Ss} {o c : Nat} (h : movV s o c = false) : movS s o c = s := by
  unfold movS; rw [if_neg (by rw [h]; decide)]
theorem movS_yes {s : Ss} {o c : Nat} {h : Hd} {k : Kd} (h1 : findH s.H o = some h) (h0 : h.t = frS c) (h2 : findK s.K h.n = some k) : movS s o c = ⟨updK s.K (movK k h.k c), setH s.H o (toS c)⟩ := by
  unfold movS
  rw [if_pos (movV_iff.2 ⟨h, h1, h0⟩), h1]; dsimp only; rw [h2]
theorem movK_n (k : Kd) (m : Int) (c : Nat) : (movK k m c).n = k.n := by
  unfold movK
  split
  · rfl
  · split <;> rfl

theorem Inv.auth {s : Ss} (h : Inv s) {o : Nat} (ho : o < 4294967296) (x : List UInt8) (n : Int) : Inv (authS s o x n) := by
  cases hv : authV s o x n
  · rw [authS_no hv]; exact h
  · obtain ⟨h0, h1, h2, k, hk, h3⟩ := authV_iff.1 hv
    rw [authS_yes hv hk]
    obtain ⟨hm, rfl⟩ := findK_some hk
    have hn := findH_none h2
    have hkf := h.kf k hm
    have hp := held_nonneg h.pos k.n 2
    refine ⟨h.ks.upd _, h.hs.ins hn, ?_, ?_, ?_, by rw [updK_length]; exact h.kz⟩
    · intro y hy
      rcases mem_updK.1 hy with ⟨rfl, _⟩ | ⟨hy, _⟩
      · exact h.kl k hm
      · exact h.kl y hy
    · intro y hy
      show 0 ≤ y.h ∧ y.h ≤ y.m ∧ y.h = held (insH ⟨o, k.n, n, 1⟩ s.H) y.n 1 ∧ y.m + held (insH ⟨o, k.n, n, 1⟩ s.H) y.n 2 ≤ 1000000000
      rw [held_ins, held_ins]
      rcases mem_updK.1 hy with ⟨rfl, _⟩ | ⟨hy, hne⟩
      · dsimp only
        rw [if_pos (by simp), if_neg (by simp)]
        omega
      · have := h.kf y hy
        have hne' : k.n ≠ y.n := fun e => hne e.symm
        dsimp only
        rw [if_neg (by simpa using hne'), if_neg (by simp)]
        omega
    · intro y hy
      rcases mem_insH.1 hy with rfl | hy
      · exact ⟨h1, by show 0 < o; omega, ho, by show 1 ≤ 1; omega, by show 1 ≤ 3; omega, by show n ≤ _; omega, ⟨k.n, k.m, k.h + n⟩, mem_updK.2 (.inl ⟨rfl, k, hm, rfl⟩), rfl⟩
      · obtain ⟨a, b, c, d, e0, f, k2, hk2, e⟩ := h.hh y hy
        refine ⟨a, b, c, d, e0, f, ?_⟩
        by_cases e2 : k2.n = k.n
        · exact ⟨⟨k.n, k.m, k.h + n⟩, mem_updK.2 (.inl ⟨rfl, k, hm, rfl⟩), e2.symm.trans e⟩
        · exact ⟨k2, mem_updK.2 (.inr ⟨hk2, e2⟩), e⟩

theorem frS_or (c : Nat) (hc : c ≤ 2) : (c = 0 ∧ frS c = 1 ∧ toS c = 2) ∨ (c = 1 ∧ frS c = 1 ∧ toS c = 3) ∨ (c = 2 ∧ frS c = 2 ∧ toS c = 3) := by
  rcases (by omega : c = 0 ∨ c = 1 ∨ c = 2) with rfl | rfl | rfl <;> simp [frS, toS]

theorem Inv.mov {s : Ss} (h : Inv s) (o : Nat) {c : Nat} (hc : c ≤ 2) : Inv (movS s o c) := by
  cases hv : movV s o c with
  | false => rw [movS_no hv]; exact h
  | true =>
    obtain ⟨y, hf, ht⟩ := movV_iff.1 hv
    obtain ⟨hy, rfl⟩ := findH_some hf
    obtain ⟨k, hk, hm, e⟩ := h.kn hy
    rw [movS_yes hf ht hk]
    have hkf := h.kf k hm
    have hyk := (h.hh y hy).1
    have hge := held_ge h.pos hy
    have hp2 := held_nonneg h.pos k.n 2
    have hp1 := held_nonneg h.pos k.n 1
    refine ⟨h.ks.upd _, h.hs.set _ _, ?_, ?_, ?_, by rw [updK_length]; exact h.kz⟩
    · intro z hz
      rcases mem_updK.1 hz with ⟨rfl, _⟩ | ⟨hz, _⟩
      · rw [movK_n]; exact h.kl k hm
      · exact h.kl z hz
    · intro z hz
      show 0 ≤ z.h ∧ z.h ≤ z.m ∧ z.h = held (setH s.H y.o (toS c)) z.n 1 ∧ z.m + held (setH s.H y.o (toS c)) z.n 2 ≤ 1000000000
      rw [held_set h.hs hy, held_set h.hs hy]
      rcases mem_updK.1 hz with ⟨rfl, _⟩ | ⟨hz, hne⟩
      · rw [movK_n, e]
        rw [e] at hkf hp1 hp2
        rw [ht] at hge
        simp only [beq_self_eq_true, Bool.true_and, ht]
        rcases frS_or c hc with ⟨rfl, e1, e2⟩ | ⟨rfl, e1, e2⟩ | ⟨rfl, e1, e2⟩ <;> rw [e1] at hge <;> (rw [e1, e2]; unfold movK; simp; omega)
      · have := h.kf z hz
        rw [movK_n] at hne
        have hb : (y.n == z.n) = false := by rw [beq_eq_false_iff_ne]; intro e'; exact hne (e'.symm.trans e.symm)
        simp only [hb, Bool.false_and, Bool.false_eq_true, if_false]
        omega
    · have hkk : ∀ z : List UInt8, (∃ k2 ∈ s.K, k2.n = z) → ∃ k2 ∈ updK s.K (movK k y.k c), k2.n = z := by
        rintro z ⟨k2, hk2, e3⟩
        by_cases e2 : k2.n = k.n
        · exact ⟨movK k y.k c, mem_updK.2 (.inl ⟨rfl, k, hm, by rw [movK_n]⟩), by rw [movK_n]; exact e2.symm.trans e3⟩
        · exact ⟨k2, mem_updK.2 (.inr ⟨hk2, by rw [movK_n]; exact e2⟩), e3⟩
      intro z hz
      rcases mem_setH.1 hz with ⟨x, hx, e1, rfl⟩ | ⟨hz, -⟩
      · obtain ⟨a, b, d, -, -, f, k2⟩ := h.hh x hx
        refine ⟨a, b, d, ?_, ?_, f, hkk _ k2⟩ <;> (rcases frS_or c hc with ⟨rfl, e1, e2⟩ | ⟨rfl, e1, e2⟩ | ⟨rfl, e1, e2⟩ <;> simp [toS])
      · obtain ⟨a, b, d, d2, d3, f, k2⟩ := h.hh z hz
        exact ⟨a, b, d, d2, d3, f, hkk _ k2⟩

theorem authS_len (s : Ss) (o : Nat) (x : List UInt8) (n : Int) : (authS s o x n).H.length ≤ s.H.length + 1 ∧ (authS s o x n).K.map (·.n) = s.K.map (·.n) := by
  cases hv : authV s o x n
  · rw [authS_no hv]; exact ⟨by omega, rfl⟩
  · obtain ⟨h0, h1, h2, k, hk, h3⟩ := authV_iff.1 hv
    rw [authS_yes hv hk]
    exact ⟨by rw [insH_length]; omega, updK_names _ _⟩
theorem movS_len (s : Ss) (o c : Nat) : (movS s o c).H.length ≤ s.H.length ∧ (movS s o c).K.map (·.n) = s.K.map (·.n) := by
  unfold movS
  split
  · split
    · exact ⟨Nat.le_refl _, rfl⟩
    · split
      · exact ⟨Nat.le_refl _, rfl⟩
      · exact ⟨by rw [setH_length]; exact Nat.le_refl _, by rw [updK_names]⟩
  · exact ⟨Nat.le_refl _, rfl⟩

end Go.Proofs.Ytlgdjmmhdfpfeaa
