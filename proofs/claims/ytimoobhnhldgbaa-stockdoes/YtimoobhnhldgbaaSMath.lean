/-
  What a stock is, and what becomes of it, as plain lists: kinds by name, holds by order.
-/
import Derived.Test.YtimoobhnhldgbaaBase
namespace Go.Proofs.Ytimoobhnhldgbaa
set_option linter.unusedVariables false

/-- A kind: its name, how many are free, how many gone. -/
structure Kd where
  n : List UInt8
  f : Int
  g : Int
/-- A hold: its order, the kind's name, how many. -/
structure Hd where
  o : Nat
  n : List UInt8
  k : Int
instance : Inhabited Kd := ⟨⟨[], 0, 0⟩⟩
instance : Inhabited Hd := ⟨⟨0, [], 0⟩⟩
/-- A stock. -/
structure Ss where
  K : List Kd
  H : List Hd

def findK (K : List Kd) (x : List UInt8) : Option Kd := K.find? (fun k => k.n == x)
def findH (H : List Hd) (o : Nat) : Option Hd := H.find? (fun h => h.o == o)
def updK (K : List Kd) (k' : Kd) : List Kd := K.map (fun k => if k.n == k'.n then k' else k)
def insK (k : Kd) : List Kd → List Kd
  | [] => [k]
  | x :: r => if k.n < x.n then k :: x :: r else x :: insK k r
def insH (h : Hd) : List Hd → List Hd
  | [] => [h]
  | x :: r => if h.o < x.o then h :: x :: r else x :: insH h r
def delH (H : List Hd) (o : Nat) : List Hd := H.filter (fun h => h.o != o)
/-- How many of a kind are held. -/
def held : List Hd → List UInt8 → Int
  | [], _ => 0
  | h :: r, x => (if h.n == x then h.k else 0) + held r x

/-- May so many be held? -/
def holdV (s : Ss) (o : Nat) (x : List UInt8) (n : Int) : Bool :=
  o != 0 && decide (1 ≤ n) && (findH s.H o).isNone && (match findK s.K x with | none => false | some k => decide (n ≤ k.f))
def holdS (s : Ss) (o : Nat) (x : List UInt8) (n : Int) : Ss :=
  if holdV s o x n = true then (match findK s.K x with | none => s | some k => ⟨updK s.K ⟨k.n, k.f - n, k.g⟩, insH ⟨o, k.n, n⟩ s.H⟩) else s
def endV (s : Ss) (o : Nat) : Bool := (findH s.H o).isSome
/-- The kind behind the end of a hold of m. -/
def backK (k : Kd) (m : Int) (b : Bool) : Kd := if b then ⟨k.n, k.f, k.g + m⟩ else ⟨k.n, k.f + m, k.g⟩
def endS (s : Ss) (o : Nat) (b : Bool) : Ss :=
  match findH s.H o with
  | none => s
  | some h => match findK s.K h.n with
    | none => s
    | some k => ⟨updK s.K (backK k h.k b), delH s.H o⟩
def verd (b : Bool) : Int := if b then 1 else 2

def KSort (K : List Kd) : Prop := K.Pairwise (fun a b => a.n < b.n)
def HSort (H : List Hd) : Prop := H.Pairwise (fun a b => a.o < b.o)

/-! ### names -/
theorem nm_irrefl (a : List UInt8) : ¬ a < a := List.lt_irrefl a
theorem nm_trans {a b c : List UInt8} (h : a < b) (h' : b < c) : a < c := List.lt_trans h h'
theorem nm_asymm {a b : List UInt8} (h : a < b) : ¬ b < a := fun h' => nm_irrefl a (nm_trans h h')
theorem nm_tri {a b : List UInt8} (h : ¬ a < b) (h' : a ≠ b) : b < a := by
  refine Classical.byContradiction fun hb => h' ?_
  exact List.le_antisymm (List.not_lt.1 hb) (List.not_lt.1 h)

/-! ### kinds -/
theorem findK_some {K : List Kd} {x : List UInt8} {k : Kd} (h : findK K x = some k) : k ∈ K ∧ k.n = x :=
  ⟨List.mem_of_find?_eq_some h, by simpa using List.find?_some h⟩
theorem findK_none {K : List Kd} {x : List UInt8} (h : findK K x = none) : ∀ k ∈ K, k.n ≠ x := fun k hk e => by
  have := List.find?_eq_none.1 h k hk
  simp [e] at this
theorem findK_none' {K : List Kd} {x : List UInt8} (h : ∀ k ∈ K, k.n ≠ x) : findK K x = none :=
  List.find?_eq_none.2 fun k hk => by simpa using h k hk
theorem KSort.uniq {K : List Kd} (h : KSort K) {a b : Kd} (ha : a ∈ K) (hb : b ∈ K) (e : a.n = b.n) : a = b := by
  induction K with
  | nil => cases ha
  | cons x r ih =>
    obtain ⟨h1, h2⟩ := List.pairwise_cons.1 h
    rcases List.mem_cons.1 ha with ea | ha'
    · rcases List.mem_cons.1 hb with eb | hb'
      · rw [ea, eb]
      · subst ea; exact absurd (e ▸ h1 b hb') (nm_irrefl _)
    · rcases List.mem_cons.1 hb with eb | hb'
      · subst eb; exact absurd (e ▸ h1 a ha') (nm_irrefl _)
      · exact ih h2 ha' hb'
theorem KSort.find {K : List Kd} (h : KSort K) {k : Kd} (hk : k ∈ K) : findK K k.n = some k := by
  cases hf : findK K k.n with
  | none => exact absurd rfl (findK_none hf k hk)
  | some k' => obtain ⟨h1, h2⟩ := findK_some hf; rw [h.uniq h1 hk h2]
theorem updK_names (K : List Kd) (k' : Kd) : (updK K k').map (·.n) = K.map (·.n) := by
  unfold updK
  rw [List.map_map]
  refine List.map_congr_left fun k _ => ?_
  simp only [Function.comp]
  split
  · rename_i h; simpa using (beq_iff_eq.1 h).symm
  · rfl
theorem updK_length (K : List Kd) (k' : Kd) : (updK K k').length = K.length := by simp [updK]
theorem KSort_iff (K : List Kd) : KSort K ↔ (K.map (·.n)).Pairwise (· < ·) := by unfold KSort; rw [List.pairwise_map]
theorem KSort.upd {K : List Kd} (h : KSort K) (k' : Kd) : KSort (updK K k') := by
  rw [KSort_iff, updK_names, ← KSort_iff]; exact h
theorem mem_updK {K : List Kd} {k' y : Kd} : y ∈ updK K k' ↔ (y = k' ∧ ∃ k ∈ K, k.n = k'.n) ∨ (y ∈ K ∧ y.n ≠ k'.n) := by
  unfold updK
  rw [List.mem_map]
  constructor
  · rintro ⟨k, hk, rfl⟩
    by_cases e : k.n = k'.n
    · left; rw [if_pos (by simpa using e)]; exact ⟨rfl, k, hk, e⟩
    · right; rw [if_neg (by simpa using e)]; exact ⟨hk, e⟩
  · rintro (⟨rfl, k, hk, e⟩ | ⟨hy, e⟩)
    · exact ⟨k, hk, by simp [e]⟩
    · exact ⟨y, hy, by rw [if_neg (by simpa using e)]⟩
theorem updK_self {K : List Kd} (h : KSort K) {k : Kd} (hk : k ∈ K) : updK K k = K := by
  unfold updK
  conv => rhs; rw [← List.map_id K]
  refine List.map_congr_left fun y hy => ?_
  split
  · rename_i e; exact (h.uniq hy hk (beq_iff_eq.1 e)).symm
  · rfl
theorem updK_updK (K : List Kd) (a b : Kd) (e : a.n = b.n) : updK (updK K a) b = updK K b := by
  unfold updK
  rw [List.map_map]
  refine List.map_congr_left fun y hy => ?_
  simp only [Function.comp]
  by_cases h : y.n = b.n
  · simp [h, e]
  · simp [h, e]
theorem findK_upd {K : List Kd} (h : KSort K) (k' : Kd) (x : List UInt8) : findK (updK K k') x = if x = k'.n then (findK K x).map (fun _ => k') else findK K x := by
  cases hf : findK K x with
  | none =>
    have h1 := findK_none hf
    have : findK (updK K k') x = none := findK_none' fun y hy e => by
      rcases mem_updK.1 hy with ⟨rfl, k, hk, e'⟩ | ⟨hy, _⟩
      · exact h1 k hk (e'.trans e)
      · exact h1 y hy e
    rw [this]; split <;> rfl
  | some k =>
    obtain ⟨hk, rfl⟩ := findK_some hf
    split
    · rename_i e
      have := (h.upd k').find (k := k') (mem_updK.2 (.inl ⟨rfl, k, hk, e⟩))
      rw [e, this]; rfl
    · rename_i e
      exact (h.upd k').find (mem_updK.2 (.inr ⟨hk, e⟩))

/-! ### holds -/
theorem findH_some {H : List Hd} {o : Nat} {h : Hd} (e : findH H o = some h) : h ∈ H ∧ h.o = o :=
  ⟨List.mem_of_find?_eq_some e, by simpa using List.find?_some e⟩
theorem findH_none {H : List Hd} {o : Nat} (h : findH H o = none) : ∀ x ∈ H, x.o ≠ o := fun k hk e => by
  have := List.find?_eq_none.1 h k hk
  simp [e] at this
theorem findH_none' {H : List Hd} {o : Nat} (h : ∀ x ∈ H, x.o ≠ o) : findH H o = none :=
  List.find?_eq_none.2 fun k hk => by simpa using h k hk
theorem HSort.uniq {H : List Hd} (h : HSort H) {a b : Hd} (ha : a ∈ H) (hb : b ∈ H) (e : a.o = b.o) : a = b := by
  induction H with
  | nil => cases ha
  | cons x r ih =>
    obtain ⟨h1, h2⟩ := List.pairwise_cons.1 h
    rcases List.mem_cons.1 ha with ea | ha'
    · rcases List.mem_cons.1 hb with eb | hb'
      · rw [ea, eb]
      · subst ea; have := h1 b hb'; omega
    · rcases List.mem_cons.1 hb with eb | hb'
      · subst eb; have := h1 a ha'; omega
      · exact ih h2 ha' hb'
theorem HSort.find {H : List Hd} (h : HSort H) {x : Hd} (hx : x ∈ H) : findH H x.o = some x := by
  cases hf : findH H x.o with
  | none => exact absurd rfl (findH_none hf x hx)
  | some k' => obtain ⟨h1, h2⟩ := findH_some hf; rw [h.uniq h1 hx h2]
theorem mem_insH {h y : Hd} : ∀ {H : List Hd}, y ∈ insH h H ↔ y = h ∨ y ∈ H
  | [] => by simp [insH]
  | x :: r => by
    unfold insH
    split
    · simp
    · simp only [List.mem_cons, mem_insH (H := r)]
      constructor
      · rintro (h | h | h) <;> simp [h]
      · rintro (h | h | h) <;> simp [h]
theorem insH_length (h : Hd) : ∀ H : List Hd, (insH h H).length = H.length + 1
  | [] => rfl
  | x :: r => by unfold insH; split <;> simp [insH_length h r]
theorem HSort.ins {H : List Hd} {h : Hd} (hs : HSort H) (hn : ∀ x ∈ H, x.o ≠ h.o) : HSort (insH h H) := by
  induction H with
  | nil => exact List.pairwise_singleton _ _
  | cons x r ih =>
    obtain ⟨h1, h2⟩ := List.pairwise_cons.1 hs
    unfold insH
    split
    · rename_i e
      refine List.pairwise_cons.2 ⟨fun y hy => ?_, hs⟩
      rcases List.mem_cons.1 hy with rfl | hy
      · exact e
      · have := h1 y hy; omega
    · rename_i e
      refine List.pairwise_cons.2 ⟨fun y hy => ?_, ih h2 fun y hy => hn y (List.mem_cons_of_mem _ hy)⟩
      rcases mem_insH.1 hy with rfl | hy
      · have := hn x (List.mem_cons_self ..); omega
      · exact h1 y hy
theorem HSort.del {H : List Hd} (hs : HSort H) (o : Nat) : HSort (delH H o) := hs.filter _
theorem mem_delH {H : List Hd} {o : Nat} {y : Hd} : y ∈ delH H o ↔ y ∈ H ∧ y.o ≠ o := by simp [delH, List.mem_filter]
theorem delH_ins {H : List Hd} {h : Hd} (hn : ∀ x ∈ H, x.o ≠ h.o) : delH (insH h H) h.o = H := by
  induction H with
  | nil => simp [insH, delH]
  | cons x r ih =>
    have hx := hn x (List.mem_cons_self ..)
    have ih' := ih fun y hy => hn y (List.mem_cons_of_mem _ hy)
    have hr : delH r h.o = r := by
      unfold delH
      rw [List.filter_eq_self]
      intro y hy
      simpa using hn y (List.mem_cons_of_mem _ hy)
    unfold insH
    split
    · unfold delH at hr ⊢
      simp [hx, hr]
    · unfold delH at ih' ⊢
      simp [hx, ih']
theorem delH_length {H : List Hd} (hs : HSort H) {h : Hd} (hh : h ∈ H) : (delH H h.o).length + 1 = H.length := by
  induction H with
  | nil => cases hh
  | cons x r ih =>
    obtain ⟨h1, h2⟩ := List.pairwise_cons.1 hs
    rcases List.mem_cons.1 hh with rfl | hr
    · have : delH r h.o = r := by
        unfold delH
        rw [List.filter_eq_self]
        intro y hy
        have := h1 y hy
        simp; omega
      unfold delH at this ⊢
      simp [this]
    · have hx := h1 h hr
      have := ih h2 hr
      unfold delH at this ⊢
      rw [List.filter_cons, if_pos (by simp; omega)]
      simp [this]
theorem findH_ins {H : List Hd} {h : Hd} (hs : HSort H) (hn : ∀ x ∈ H, x.o ≠ h.o) (o : Nat) : findH (insH h H) o = if o = h.o then some h else findH H o := by
  split
  · rename_i e; subst e; exact (hs.ins hn).find (mem_insH.2 (.inl rfl))
  · rename_i e
    cases hf : findH H o with
    | none =>
      refine findH_none' fun y hy e' => ?_
      rcases mem_insH.1 hy with rfl | hy
      · exact e e'.symm
      · exact findH_none hf y hy e'
    | some y =>
      obtain ⟨hy, rfl⟩ := findH_some hf
      exact (hs.ins hn).find (mem_insH.2 (.inr hy))
theorem findH_del {H : List Hd} (hs : HSort H) (o q : Nat) : findH (delH H q) o = if o = q then none else findH H o := by
  split
  · rename_i e; subst e; exact findH_none' fun y hy => (mem_delH.1 hy).2
  · rename_i e
    cases hf : findH H o with
    | none => exact findH_none' fun y hy e' => findH_none hf y (mem_delH.1 hy).1 e'
    | some y =>
      obtain ⟨hy, rfl⟩ := findH_some hf
      exact (hs.del q).find (mem_delH.2 ⟨hy, e⟩)
theorem held_ins (h : Hd) (x : List UInt8) : ∀ H : List Hd, held (insH h H) x = (if h.n == x then h.k else 0) + held H x
  | [] => rfl
  | y :: r => by
    unfold insH
    split
    · rfl
    · simp only [held, held_ins h x r]; omega
theorem held_del {H : List Hd} (hs : HSort H) {h : Hd} (hh : h ∈ H) (x : List UInt8) : held (delH H h.o) x = held H x - (if h.n == x then h.k else 0) := by
  induction H with
  | nil => cases hh
  | cons y r ih =>
    obtain ⟨h1, h2⟩ := List.pairwise_cons.1 hs
    rcases List.mem_cons.1 hh with rfl | hr
    · have : delH r h.o = r := by
        unfold delH
        rw [List.filter_eq_self]
        intro y hy
        have := h1 y hy
        simp; omega
      unfold delH at this ⊢
      rw [List.filter_cons, if_neg (by simp), this]
      simp only [held]; omega
    · have hx := h1 h hr
      have := ih h2 hr
      unfold delH at this ⊢
      rw [List.filter_cons, if_pos (by simp; omega)]
      simp only [held, this]; omega

/-! ### a stock that may be -/
structure Inv (s : Ss) : Prop where
  ks : KSort s.K
  hs : HSort s.H
  kl : ∀ k ∈ s.K, 1 ≤ k.n.length ∧ k.n.length ≤ 32
  kf : ∀ k ∈ s.K, 0 ≤ k.f ∧ 0 ≤ k.g ∧ k.f + k.g + held s.H k.n ≤ 1000000
  hh : ∀ h ∈ s.H, 1 ≤ h.k ∧ 0 < h.o ∧ h.o < 4294967296 ∧ ∃ k ∈ s.K, k.n = h.n
  kz : s.K.length ≤ 50

theorem held_nonneg {H : List Hd} (h : ∀ y ∈ H, 1 ≤ y.k) (x : List UInt8) : 0 ≤ held H x := by
  induction H with
  | nil => exact Int.le_refl _
  | cons y r ih =>
    have h1 := h y (List.mem_cons_self ..)
    have h2 := ih fun z hz => h z (List.mem_cons_of_mem _ hz)
    simp only [held]
    split <;> omega
theorem held_ge {H : List Hd} (h : ∀ y ∈ H, 1 ≤ y.k) {y : Hd} (hy : y ∈ H) : y.k ≤ held H y.n := by
  induction H with
  | nil => cases hy
  | cons z r ih =>
    have h1 := h z (List.mem_cons_self ..)
    have h3 := fun z hz => h z (List.mem_cons_of_mem _ hz)
    simp only [held]
    rcases List.mem_cons.1 hy with rfl | hr
    · rw [if_pos (by simp)]
      have := held_nonneg h3 y.n
      omega
    · have := ih h3 hr
      split <;> omega
theorem Inv.kn {s : Ss} (h : Inv s) {y : Hd} (hy : y ∈ s.H) : ∃ k, findK s.K y.n = some k ∧ k ∈ s.K ∧ k.n = y.n := by
  obtain ⟨-, -, -, k, hk, e⟩ := h.hh y hy
  exact ⟨k, e ▸ h.ks.find hk, hk, e⟩
theorem Inv.kb {s : Ss} (h : Inv s) {y : Hd} (hy : y ∈ s.H) : y.k ≤ 1000000 ∧ y.n.length ≤ 32 := by
  obtain ⟨k, -, hk, e⟩ := h.kn hy
  have h1 := h.kf k hk
  have h2 := held_ge (fun z hz => (h.hh z hz).1) hy
  rw [e] at h1
  exact ⟨by omega, e ▸ (h.kl k hk).2⟩

theorem holdV_iff {s : Ss} {o : Nat} {x : List UInt8} {n : Int} : holdV s o x n = true ↔ o ≠ 0 ∧ 1 ≤ n ∧ findH s.H o = none ∧ ∃ k, findK s.K x = some k ∧ n ≤ k.f := by
  unfold holdV
  cases hk : findK s.K x <;> simp [and_assoc]
theorem holdS_no {s : Ss} {o : Nat} {x : List UInt8} {n : Int} (h : holdV s o x n = false) : holdS s o x n = s := by
  unfold holdS; rw [if_neg (by rw [h]; decide)]
theorem holdS_yes {s : Ss} {o : Nat} {x : List UInt8} {n : Int} (h : holdV s o x n = true) {k : Kd} (hk : findK s.K x = some k) : holdS s o x n = ⟨updK s.K ⟨k.n, k.f - n, k.g⟩, insH ⟨o, k.n, n⟩ s.H⟩ := by
  unfold holdS; rw [if_pos h, hk]
theorem endS_yes {s : Ss} {o : Nat} {b : Bool} {h : Hd} {k : Kd} (h1 : findH s.H o = some h) (h2 : findK s.K h.n = some k) : endS s o b = ⟨updK s.K (backK k h.k b), delH s.H o⟩ := by
  unfold endS; rw [h1]; dsimp only; rw [h2]
theorem endS_no {s : Ss} {o : Nat} {b : Bool} (h1 : findH s.H o = none) : endS s o b = s := by unfold endS; rw [h1]
theorem backK_n (k : Kd) (m : Int) (b : Bool) : (backK k m b).n = k.n := by cases b <;> rfl

theorem Inv.hold {s : Ss} (h : Inv s) {o : Nat} (ho : o < 4294967296) (x : List UInt8) (n : Int) : Inv (holdS s o x n) := by
  cases hv : holdV s o x n
  · rw [holdS_no hv]; exact h
  · obtain ⟨h0, h1, h2, k, hk, h3⟩ := holdV_iff.1 hv
    rw [holdS_yes hv hk]
    obtain ⟨hm, rfl⟩ := findK_some hk
    have hn := findH_none h2
    have hkf := h.kf k hm
    have hp := held_nonneg (fun z hz => (h.hh z hz).1) k.n
    refine ⟨h.ks.upd _, h.hs.ins hn, ?_, ?_, ?_, by rw [updK_length]; exact h.kz⟩
    · intro y hy
      rcases mem_updK.1 hy with ⟨rfl, _⟩ | ⟨hy, _⟩
      · exact h.kl k hm
      · exact h.kl y hy
    · intro y hy
      show 0 ≤ y.f ∧ 0 ≤ y.g ∧ y.f + y.g + held (insH ⟨o, k.n, n⟩ s.H) y.n ≤ 1000000
      rw [held_ins]
      rcases mem_updK.1 hy with ⟨rfl, _⟩ | ⟨hy, hne⟩
      · dsimp only
        rw [if_pos (by simp)]
        omega
      · have := h.kf y hy
        have hne' : k.n ≠ y.n := fun e => hne e.symm
        dsimp only
        rw [if_neg (by simpa using hne')]
        omega
    · intro y hy
      rcases mem_insH.1 hy with rfl | hy
      · exact ⟨h1, by show 0 < o; omega, ho, ⟨k.n, k.f - n, k.g⟩, mem_updK.2 (.inl ⟨rfl, k, hm, rfl⟩), rfl⟩
      · obtain ⟨a, b, c, k2, hk2, e⟩ := h.hh y hy
        refine ⟨a, b, c, ?_⟩
        by_cases e2 : k2.n = k.n
        · exact ⟨⟨k.n, k.f - n, k.g⟩, mem_updK.2 (.inl ⟨rfl, k, hm, rfl⟩), e2.symm.trans e⟩
        · exact ⟨k2, mem_updK.2 (.inr ⟨hk2, e2⟩), e⟩

theorem Inv.fin {s : Ss} (h : Inv s) (o : Nat) (b : Bool) : Inv (endS s o b) := by
  cases hf : findH s.H o with
  | none => rw [endS_no hf]; exact h
  | some y =>
    obtain ⟨hy, rfl⟩ := findH_some hf
    obtain ⟨k, hk, hm, e⟩ := h.kn hy
    rw [endS_yes hf hk]
    have hkf := h.kf k hm
    have hyk := (h.hh y hy).1
    have hge := held_ge (fun z hz => (h.hh z hz).1) hy
    refine ⟨h.ks.upd _, h.hs.del _, ?_, ?_, ?_, by rw [updK_length]; exact h.kz⟩
    · intro z hz
      rcases mem_updK.1 hz with ⟨rfl, _⟩ | ⟨hz, _⟩
      · rw [backK_n]; exact h.kl k hm
      · exact h.kl z hz
    · intro z hz
      show 0 ≤ z.f ∧ 0 ≤ z.g ∧ z.f + z.g + held (delH s.H y.o) z.n ≤ 1000000
      rw [held_del h.hs hy]
      rcases mem_updK.1 hz with ⟨rfl, _⟩ | ⟨hz, hne⟩
      · rw [backK_n, e, if_pos (by simp)]
        rw [e] at hkf
        cases b <;> (unfold backK; simp only [Bool.false_eq_true, if_false, if_true]; omega)
      · have := h.kf z hz
        rw [backK_n] at hne
        rw [if_neg (by rw [beq_iff_eq]; intro e'; exact hne (e'.symm.trans e.symm))]
        omega
    · intro z hz
      obtain ⟨hz, -⟩ := mem_delH.1 hz
      obtain ⟨a, c, d, k2, hk2, e3⟩ := h.hh z hz
      refine ⟨a, c, d, ?_⟩
      by_cases e2 : k2.n = k.n
      · exact ⟨backK k y.k b, mem_updK.2 (.inl ⟨rfl, k, hm, by rw [backK_n]⟩), by rw [backK_n]; exact e2.symm.trans e3⟩
      · exact ⟨k2, mem_updK.2 (.inr ⟨hk2, by rw [backK_n]; exact e2⟩), e3⟩

theorem holdS_len (s : Ss) (o : Nat) (x : List UInt8) (n : Int) : (holdS s o x n).H.length ≤ s.H.length + 1 ∧ (holdS s o x n).K.map (·.n) = s.K.map (·.n) := by
  cases hv : holdV s o x n
  · rw [holdS_no hv]; exact ⟨by omega, rfl⟩
  · obtain ⟨h0, h1, h2, k, hk, h3⟩ := holdV_iff.1 hv
    rw [holdS_yes hv hk]
    exact ⟨by rw [insH_length]; omega, updK_names _ _⟩
theorem endS_len (s : Ss) (o : Nat) (b : Bool) : (endS s o b).H.length ≤ s.H.length ∧ (endS s o b).K.map (·.n) = s.K.map (·.n) := by
  unfold endS
  split
  · exact ⟨Nat.le_refl _, rfl⟩
  · split
    · exact ⟨Nat.le_refl _, rfl⟩
    · exact ⟨List.length_filter_le _ _, updK_names _ _⟩

end Go.Proofs.Ytimoobhnhldgbaa
