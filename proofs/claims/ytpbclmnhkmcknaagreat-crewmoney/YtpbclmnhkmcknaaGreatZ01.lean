/-
  Texts of one proof, in their order: PuBase, PuSMath, DoBase, DoSMath, CMath, FeLend.
-/
import Derived.Test.YtpbclmnhkmcknaaGreatRows
import Derived.WalkKit
import Derived.WalkSpells
import Derived.WalkLawsBesides
import Derived.Laws.BitsAllLaws
import Derived.Lib.Hide
import Derived.Deep.MidRow
import Derived.Outline
import Derived.Deep.QuietTactic
import Derived.BigQuiet
import Derived.Laws.AppendOwnNone
import Derived.Laws.OwnMore
import Derived.Deep.RegionHeld3
import Derived.Deep.AppendLies
import Derived.Laws.MakeOwn
import Derived.Laws.CopyOwn
import Derived.Deep.RegionLaw
import Derived.Deep.DrawnRows
import Derived.IntWalk
import Derived.ProofKit
import Derived.OpenShut
import Derived.Maps.AppendAt
import Derived.Maps.OwnSet
import Derived.Maps.RangeWalk
import Derived.Sort.EncStr
import Derived.Lib.SlBytesConst
import Derived.StillTailTactics
import Derived.Laws.BytesArg
import Derived.Test.YtpbclmnhkmcknaaGreatZ00
namespace Go.Proofs.YtpbclmnhkmcknaaGreat.Pu
open Go.RowKit
set_option maxRecDepth 100000
set_option linter.unusedVariables false

theorem ret_int {k : IntKind} {a b : Int} (h : a = b) : Ending.returned (.int k a) = .returned (.int k b) := by rw [h]
theorem val_int {k : IntKind} {a b : Int} (h : a = b) : Value.int k a = Value.int k b := by rw [h]



/-- Block g is just these cells. -/
def Lies (w : World) (g : Nat) (t : TypeId) (cs : Array Value) : Prop := w.heap[g]? = some (.cells cs t (0, 0))

theorem Lies.lt {w : World} {g : Nat} {t : TypeId} {cs : Array Value} (h : Lies w g t cs) : g < w.heap.size := by
  refine Classical.byContradiction fun hn => ?_
  unfold Lies at h
  rw [Array.getElem?_eq_none (by omega)] at h
  cases h
theorem Lies.cell {w : World} {g : Nat} {t : TypeId} {cs : Array Value} (h : Lies w g t cs) (i : Nat) : w.cell? ⟨g, i, none⟩ = cs[i]? := cell_of_row w g i cs t (0, 0) h
theorem Lies.free {w : World} {g : Nat} {t : TypeId} {cs : Array Value} (h : Lies w g t cs) (i : Nat) : w.frozen? ⟨g, i, none⟩ = false := frozen_of_row w g i cs t h
theorem Lies.made (w : World) (t : TypeId) (cs : Array Value) : Lies (w.alloc (.cells cs t)) w.heap.size t cs := heap_alloc_new w _
theorem Lies.alloc {w : World} {g : Nat} {t : TypeId} {cs : Array Value} (h : Lies w g t cs) (o : Obj) : Lies (w.alloc o) g t cs := (Below.heap_alloc w o g h.lt).trans h
theorem Lies.put {w : World} {g : Nat} {t : TypeId} {cs : Array Value} (h : Lies w g t cs) (i : Nat) (v : Value) : Lies (w.setCell ⟨g, i, none⟩ v) g t (cs.setIfInBounds i v) := heap_setCell_same w g i cs t v h
theorem Lies.other {w : World} {g : Nat} {t : TypeId} {cs : Array Value} (h : Lies w g t cs) {a : Addr} (ha : g ≠ a.block) (v : Value) : Lies (w.setCell a v) g t cs := (heap_setCell_other w a g v ha).trans h
theorem Lies.below {w w' : World} {g B : Nat} {t : TypeId} {cs : Array Value} (h : Lies w g t cs) (hb : Below B w w') (hg : g < B) : Lies w' g t cs := (hb.block g hg).trans h

theorem Lies.there {w : World} {g : Nat} {t : TypeId} {cs : Array Value} (h : Lies w g t cs) (n : Nat) (hn : n ≤ cs.size) : w.there g 0 n := fun j hj => by
  rw [Nat.zero_add]
  exact ⟨by rw [h.cell, Array.getElem?_eq_getElem (by omega)]; rfl, h.free j⟩
theorem Lies.puts' {g : Nat} {t : TypeId} : ∀ (vs : List Value) (o : Nat) (w : World) (cs : Array Value), Lies w g t cs → o + vs.length ≤ cs.size →
    ∃ ds, Lies (w.setCells g o vs) g t ds ∧ ds.size = cs.size ∧ ∀ j, ds[j]? = if o ≤ j ∧ j < o + vs.length then vs[j - o]? else cs[j]?
  | [], o, w, cs, h, _ => ⟨cs, h, rfl, fun j => by rw [if_neg (by simp)]⟩
  | v :: r, o, w, cs, h, hn => by
    obtain ⟨ds, h1, h2, h3⟩ := Lies.puts' r (o + 1) _ _ (h.put o v) (by simp at hn ⊢; omega)
    refine ⟨ds, h1, by simpa using h2, fun j => ?_⟩
    rw [h3 j]
    simp only [List.length_cons] at hn ⊢
    rw [Array.getElem?_setIfInBounds]
    by_cases a : o + 1 ≤ j ∧ j < o + 1 + r.length
    · rw [if_pos a, if_pos (by omega)]
      obtain ⟨i, hi⟩ : ∃ i, j - o = i + 1 := ⟨j - o - 1, by omega⟩
      rw [hi, List.getElem?_cons_succ]
      congr 1; omega
    · rw [if_neg a]
      by_cases b : o = j
      · subst b
        rw [if_pos rfl, if_pos (by omega), if_pos (by omega), Nat.sub_self, List.getElem?_cons_zero]
      · rw [if_neg b, if_neg (by omega)]
theorem Lies.puts {w : World} {g : Nat} {t : TypeId} {cs : Array Value} (h : Lies w g t cs) (T : Array Value) (hT : T.size = cs.size) : Lies (w.setCells g 0 T.toList) g t T := by
  obtain ⟨ds, h1, h2, h3⟩ := Lies.puts' T.toList 0 w cs h (by simp; omega)
  have : ds = T := by
    apply Array.ext_getElem?
    intro j
    rw [h3 j]
    by_cases hj : j < T.size
    · rw [if_pos (by simp; omega)]; simp
    · rw [if_neg (by simp; omega), Array.getElem?_eq_none (by omega), Array.getElem?_eq_none (by omega)]
  rw [this] at h1; exact h1
theorem Lies.puts_other {w : World} {g b : Nat} {t : TypeId} {cs : Array Value} (h : Lies w g t cs) (hne : g ≠ b) (vs : List Value) (o : Nat) : Lies (w.setCells b o vs) g t cs := by
  induction vs generalizing w o with
  | nil => exact h
  | cons v r ih => exact ih (h.other (a := ⟨b, o, none⟩) hne v) (o + 1)
theorem below_puts {B b : Nat} {a w : World} (h : Below B a w) (hb : B ≤ b) (vs : List Value) (o : Nat) : Below B a (w.setCells b o vs) := by
  induction vs generalizing w o with
  | nil => exact h
  | cons v r ih => exact ih (h.setCell (p := ⟨b, o, none⟩) hb v) (o + 1)
theorem size_one (w : World) (o : Obj) : (w.alloc o).heap.size = w.heap.size + 1 := by simp
theorem Lies.made2 (w : World) (o : Obj) (t : TypeId) (cs : Array Value) : Lies ((w.alloc o).alloc (.cells cs t)) (w.heap.size + 1) t cs := by
  have := Lies.made (w.alloc o) t cs
  rwa [size_one] at this
theorem Lies.made3 (w : World) (o o2 : Obj) (t : TypeId) (cs : Array Value) : Lies (((w.alloc o).alloc o2).alloc (.cells cs t)) (w.heap.size + 1 + 1) t cs := by
  have := Lies.made2 (w.alloc o) o2 t cs
  rwa [size_one] at this


theorem ret_bool {a b : Bool} (h : a = b) : Ending.returned (.bool a) = .returned (.bool b) := by rw [h]
theorem below1 (w : World) (o : Obj) : Below w.heap.size w (w.alloc o) := (Below.refl _ _).alloc (Nat.le_refl _) _
theorem below2 (w : World) (o p : Obj) : Below w.heap.size w ((w.alloc o).alloc p) := ((Below.refl _ _).alloc (Nat.le_refl _) _).alloc (by simp) _
theorem range_of_lies {w : World} {g : Nat} {t : TypeId} {cs : Array Value} (h : Lies w g t cs) : w.rangeAt g 0 cs.toList := fun j v hv => by
  rw [Nat.zero_add, h.cell]
  simpa using hv
theorem below_drewN {B : Nat} {a w : World} (h : Below B a w) (n : Nat) : Below B a (w.drewN n) := ⟨h.os, h.tape, h.output, h.size, h.block⟩
section
variable {P : Program} {ops : Array Oper} {Q : Exit → Act → World → Prop} {md : Region.Mode} {S : World → Prop}

/-- An operation that is wanted, and yields the same in every world that meets S, is taken first. -/
theorem any_take (i : Nat) (d : Tmp) {oi : Oper} (v : Value) {fuel : Nat} {listed : Array Bool} {a : Act} {w : World} (hi : ops[i]? = some oi) (hd : oi.dst = some d)
    (hs : Region.noSelect ops = true) (hf : Region.free md ops listed i = true) (hr : (Region.ready md ops listed).contains i = true)
    (hQ : ∀ c a w, Q (.panic c) (a.put (some d) v) w → Q (.panic c) a w) (hw : Region.wanted oi (yielded ops a.tmps) = true) (hy : ∀ w, S w → (execOp a.eval oi).run P w = .ok (.value v) w) (hS : S w)
    (h : wpAnyH P md ops Q S fuel (listed.setIfInBounds i true) (a.put (some d) v) w) : wpAnyH P md ops Q S (fuel + 1) listed a w :=
  wpAnyH_take hi hs hf hr (by rw [hd]; exact hQ) (.inl ⟨hw, hy⟩) hS (by rw [hd]; exact h)

/-- An operation that is not wanted. -/
theorem any_skip (i : Nat) (d : Tmp) {oi : Oper} {fuel : Nat} {listed : Array Bool} {a : Act} {w : World} (hi : ops[i]? = some oi) (hd : oi.dst = some d)
    (hs : Region.noSelect ops = true) (hf : Region.free md ops listed i = true) (hr : (Region.ready md ops listed).contains i = true)
    (hQ : ∀ c a w, Q (.panic c) (a.put (some d) undef) w → Q (.panic c) a w) (hw : Region.wanted oi (yielded ops a.tmps) = false) (hS : S w)
    (h : wpAnyH P md ops Q S fuel (listed.setIfInBounds i true) (a.put (some d) undef) w) : wpAnyH P md ops Q S (fuel + 1) listed a w :=
  wpAnyH_take hi hs hf hr (by rw [hd]; exact hQ) (.inr ⟨hw, rfl⟩) hS (by rw [hd]; exact h)
end


end Go.Proofs.YtpbclmnhkmcknaaGreat.Pu

namespace Go.Proofs.YtpbclmnhkmcknaaGreat.Pu
set_option linter.unusedVariables false

/-- An account: its name, its money, how much of it is reserved. -/
structure Kd where
  n : List UInt8
  m : Int
  h : Int
/-- A payment: its order, the account's name, how much, its state. -/
structure Hd where
  o : Nat
  n : List UInt8
  k : Int
  t : Nat
instance : Inhabited Kd := ⟨⟨[], 0, 0⟩⟩
instance : Inhabited Hd := ⟨⟨0, [], 0, 0⟩⟩
/-- A purse. -/
structure Ss where
  K : List Kd
  H : List Hd

def findK (K : List Kd) (x : List UInt8) : Option Kd := K.find? (fun k => k.n == x)
def findH (H : List Hd) (o : Nat) : Option Hd := H.find? (fun h => h.o == o)
def updK (K : List Kd) (k' : Kd) : List Kd := K.map (fun k => if k.n == k'.n then k' else k)
def insK (k : Kd) : List Kd → List Kd
  | [] => [k]
  | x :: r => if k.n < x.n then k :: x :: r else x :: insK k r
def insH (h : Hd) : List Hd → List Hd
  | [] => [h]
  | x :: r => if h.o < x.o then h :: x :: r else x :: insH h r
def delH (H : List Hd) (o : Nat) : List Hd := H.filter (fun h => h.o != o)
/-- The payments in a state. -/
def stH (H : List Hd) (t : Nat) : List Hd := H.filter (fun h => h.t == t)
/-- The payment of an order goes to a state. -/
def setH (H : List Hd) (o t : Nat) : List Hd := H.map (fun h => if h.o == o then ⟨h.o, h.n, h.k, t⟩ else h)
/-- What an account's payments in a state come to. -/
def held : List Hd → List UInt8 → Nat → Int
  | [], _, _ => 0
  | h :: r, x, t => (if h.n == x && h.t == t then h.k else 0) + held r x t
/-- What all payments in a state come to. -/
def tot : List Hd → Nat → Int
  | [], _ => 0
  | h :: r, t => (if h.t == t then h.k else 0) + tot r t

/-- May so much be authorised? -/
def authV (s : Ss) (o : Nat) (x : List UInt8) (n : Int) : Bool :=
  o != 0 && decide (1 ≤ n) && (findH s.H o).isNone && (match findK s.K x with | none => false | some k => decide (n ≤ k.m - k.h))
def authS (s : Ss) (o : Nat) (x : List UInt8) (n : Int) : Ss :=
  if authV s o x n = true then (match findK s.K x with | none => s | some k => ⟨updK s.K ⟨k.n, k.m, k.h + n⟩, insH ⟨o, k.n, n, 1⟩ s.H⟩) else s
/-- The three ways on: 0 captured, 1 let go, 2 refunded: from which state, to which one. -/
def frS (c : Nat) : Nat := if c = 2 then 2 else 1
def toS (c : Nat) : Nat := if c = 0 then 2 else 3
def movV (s : Ss) (o c : Nat) : Bool := match findH s.H o with | none => false | some h => h.t == frS c
def movK (k : Kd) (m : Int) (c : Nat) : Kd := if c = 0 then ⟨k.n, k.m - m, k.h - m⟩ else if c = 1 then ⟨k.n, k.m, k.h - m⟩ else ⟨k.n, k.m + m, k.h⟩
def movS (s : Ss) (o c : Nat) : Ss :=
  if movV s o c = true then (match findH s.H o with
    | none => s
    | some h => match findK s.K h.n with
      | none => s
      | some k => ⟨updK s.K (movK k h.k c), setH s.H o (toS c)⟩) else s
def verd (b : Bool) : Int := if b then 1 else 2

def KSort (K : List Kd) : Prop := K.Pairwise (fun a b => a.n < b.n)
def HSort (H : List Hd) : Prop := H.Pairwise (fun a b => a.o < b.o)

/-! ### names -/
theorem nm_irrefl (a : List UInt8) : ¬ a < a := List.lt_irrefl a
theorem nm_trans {a b c : List UInt8} (h : a < b) (h' : b < c) : a < c := List.lt_trans h h'
theorem nm_asymm {a b : List UInt8} (h : a < b) : ¬ b < a := fun h' => nm_irrefl a (nm_trans h h')
theorem nm_tri {a b : List UInt8} (h : ¬ a < b) (h' : a ≠ b) : b < a := by
  refine Classical.byContradiction fun hb => h' ?_
  exact List.le_antisymm (List.not_lt.1 hb) (List.not_lt.1 h)

/-! ### kinds -/
theorem findK_some {K : List Kd} {x : List UInt8} {k : Kd} (h : findK K x = some k) : k ∈ K ∧ k.n = x :=
  ⟨List.mem_of_find?_eq_some h, by simpa using List.find?_some h⟩
theorem findK_none {K : List Kd} {x : List UInt8} (h : findK K x = none) : ∀ k ∈ K, k.n ≠ x := fun k hk e => by
  have := List.find?_eq_none.1 h k hk
  simp [e] at this
theorem findK_none' {K : List Kd} {x : List UInt8} (h : ∀ k ∈ K, k.n ≠ x) : findK K x = none :=
  List.find?_eq_none.2 fun k hk => by simpa using h k hk
theorem KSort.uniq {K : List Kd} (h : KSort K) {a b : Kd} (ha : a ∈ K) (hb : b ∈ K) (e : a.n = b.n) : a = b := by
  induction K with
  | nil => cases ha
  | cons x r ih =>
    obtain ⟨h1, h2⟩ := List.pairwise_cons.1 h
    rcases List.mem_cons.1 ha with ea | ha'
    · rcases List.mem_cons.1 hb with eb | hb'
      · rw [ea, eb]
      · subst ea; exact absurd (e ▸ h1 b hb') (nm_irrefl _)
    · rcases List.mem_cons.1 hb with eb | hb'
      · subst eb; exact absurd (e ▸ h1 a ha') (nm_irrefl _)
      · exact ih h2 ha' hb'
theorem KSort.find {K : List Kd} (h : KSort K) {k : Kd} (hk : k ∈ K) : findK K k.n = some k := by
  cases hf : findK K k.n with
  | none => exact absurd rfl (findK_none hf k hk)
  | some k' => obtain ⟨h1, h2⟩ := findK_some hf; rw [h.uniq h1 hk h2]
theorem updK_names (K : List Kd) (k' : Kd) : (updK K k').map (·.n) = K.map (·.n) := by
  unfold updK
  rw [List.map_map]
  refine List.map_congr_left fun k _ => ?_
  simp only [Function.comp]
  split
  · rename_i h; simpa using (beq_iff_eq.1 h).symm
  · rfl
theorem updK_length (K : List Kd) (k' : Kd) : (updK K k').length = K.length := by simp [updK]
theorem KSort_iff (K : List Kd) : KSort K ↔ (K.map (·.n)).Pairwise (· < ·) := by unfold KSort; rw [List.pairwise_map]
theorem KSort.upd {K : List Kd} (h : KSort K) (k' : Kd) : KSort (updK K k') := by
  rw [KSort_iff, updK_names, ← KSort_iff]; exact h
theorem mem_updK {K : List Kd} {k' y : Kd} : y ∈ updK K k' ↔ (y = k' ∧ ∃ k ∈ K, k.n = k'.n) ∨ (y ∈ K ∧ y.n ≠ k'.n) := by
  unfold updK
  rw [List.mem_map]
  constructor
  · rintro ⟨k, hk, rfl⟩
    by_cases e : k.n = k'.n
    · left; rw [if_pos (by simpa using e)]; exact ⟨rfl, k, hk, e⟩
    · right; rw [if_neg (by simpa using e)]; exact ⟨hk, e⟩
  · rintro (⟨rfl, k, hk, e⟩ | ⟨hy, e⟩)
    · exact ⟨k, hk, by simp [e]⟩
    · exact ⟨y, hy, by rw [if_neg (by simpa using e)]⟩
theorem updK_self {K : List Kd} (h : KSort K) {k : Kd} (hk : k ∈ K) : updK K k = K := by
  unfold updK
  conv => rhs; rw [← List.map_id K]
  refine List.map_congr_left fun y hy => ?_
  split
  · rename_i e; exact (h.uniq hy hk (beq_iff_eq.1 e)).symm
  · rfl
theorem updK_updK (K : List Kd) (a b : Kd) (e : a.n = b.n) : updK (updK K a) b = updK K b := by
  unfold updK
  rw [List.map_map]
  refine List.map_congr_left fun y hy => ?_
  simp only [Function.comp]
  by_cases h : y.n = b.n
  · simp [h, e]
  · simp [h, e]
theorem findK_upd {K : List Kd} (h : KSort K) (k' : Kd) (x : List UInt8) : findK (updK K k') x = if x = k'.n then (findK K x).map (fun _ => k') else findK K x := by
  cases hf : findK K x with
  | none =>
    have h1 := findK_none hf
    have : findK (updK K k') x = none := findK_none' fun y hy e => by
      rcases mem_updK.1 hy with ⟨rfl, k, hk, e'⟩ | ⟨hy, _⟩
      · exact h1 k hk (e'.trans e)
      · exact h1 y hy e
    rw [this]; split <;> rfl
  | some k =>
    obtain ⟨hk, rfl⟩ := findK_some hf
    split
    · rename_i e
      have := (h.upd k').find (k := k') (mem_updK.2 (.inl ⟨rfl, k, hk, e⟩))
      rw [e, this]; rfl
    · rename_i e
      exact (h.upd k').find (mem_updK.2 (.inr ⟨hk, e⟩))

/-! ### holds -/
theorem findH_some {H : List Hd} {o : Nat} {h : Hd} (e : findH H o = some h) : h ∈ H ∧ h.o = o :=
  ⟨List.mem_of_find?_eq_some e, by simpa using List.find?_some e⟩
theorem findH_none {H : List Hd} {o : Nat} (h : findH H o = none) : ∀ x ∈ H, x.o ≠ o := fun k hk e => by
  have := List.find?_eq_none.1 h k hk
  simp [e] at this
theorem findH_none' {H : List Hd} {o : Nat} (h : ∀ x ∈ H, x.o ≠ o) : findH H o = none :=
  List.find?_eq_none.2 fun k hk => by simpa using h k hk
theorem HSort.uniq {H : List Hd} (h : HSort H) {a b : Hd} (ha : a ∈ H) (hb : b ∈ H) (e : a.o = b.o) : a = b := by
  induction H with
  | nil => cases ha
  | cons x r ih =>
    obtain ⟨h1, h2⟩ := List.pairwise_cons.1 h
    rcases List.mem_cons.1 ha with ea | ha'
    · rcases List.mem_cons.1 hb with eb | hb'
      · rw [ea, eb]
      · subst ea; have := h1 b hb'; omega
    · rcases List.mem_cons.1 hb with eb | hb'
      · subst eb; have := h1 a ha'; omega
      · exact ih h2 ha' hb'
theorem HSort.find {H : List Hd} (h : HSort H) {x : Hd} (hx : x ∈ H) : findH H x.o = some x := by
  cases hf : findH H x.o with
  | none => exact absurd rfl (findH_none hf x hx)
  | some k' => obtain ⟨h1, h2⟩ := findH_some hf; rw [h.uniq h1 hx h2]
theorem mem_insH {h y : Hd} : ∀ {H : List Hd}, y ∈ insH h H ↔ y = h ∨ y ∈ H
  | [] => by simp [insH]
  | x :: r => by
    unfold insH
    split
    · simp
    · simp only [List.mem_cons, mem_insH (H := r)]
      constructor
      · rintro (h | h | h) <;> simp [h]
      · rintro (h | h | h) <;> simp [h]
theorem insH_length (h : Hd) : ∀ H : List Hd, (insH h H).length = H.length + 1
  | [] => rfl
  | x :: r => by unfold insH; split <;> simp [insH_length h r]
theorem HSort.ins {H : List Hd} {h : Hd} (hs : HSort H) (hn : ∀ x ∈ H, x.o ≠ h.o) : HSort (insH h H) := by
  induction H with
  | nil => exact List.pairwise_singleton _ _
  | cons x r ih =>
    obtain ⟨h1, h2⟩ := List.pairwise_cons.1 hs
    unfold insH
    split
    · rename_i e
      refine List.pairwise_cons.2 ⟨fun y hy => ?_, hs⟩
      rcases List.mem_cons.1 hy with rfl | hy
      · exact e
      · have := h1 y hy; omega
    · rename_i e
      refine List.pairwise_cons.2 ⟨fun y hy => ?_, ih h2 fun y hy => hn y (List.mem_cons_of_mem _ hy)⟩
      rcases mem_insH.1 hy with rfl | hy
      · have := hn x (List.mem_cons_self ..); omega
      · exact h1 y hy
theorem HSort.del {H : List Hd} (hs : HSort H) (o : Nat) : HSort (delH H o) := hs.filter _
theorem mem_delH {H : List Hd} {o : Nat} {y : Hd} : y ∈ delH H o ↔ y ∈ H ∧ y.o ≠ o := by simp [delH, List.mem_filter]
theorem delH_ins {H : List Hd} {h : Hd} (hn : ∀ x ∈ H, x.o ≠ h.o) : delH (insH h H) h.o = H := by
  induction H with
  | nil => simp [insH, delH]
  | cons x r ih =>
    have hx := hn x (List.mem_cons_self ..)
    have ih' := ih fun y hy => hn y (List.mem_cons_of_mem _ hy)
    have hr : delH r h.o = r := by
      unfold delH
      rw [List.filter_eq_self]
      intro y hy
      simpa using hn y (List.mem_cons_of_mem _ hy)
    unfold insH
    split
    · unfold delH at hr ⊢
      simp [hx, hr]
    · unfold delH at ih' ⊢
      simp [hx, ih']
theorem delH_length {H : List Hd} (hs : HSort H) {h : Hd} (hh : h ∈ H) : (delH H h.o).length + 1 = H.length := by
  induction H with
  | nil => cases hh
  | cons x r ih =>
    obtain ⟨h1, h2⟩ := List.pairwise_cons.1 hs
    rcases List.mem_cons.1 hh with rfl | hr
    · have : delH r h.o = r := by
        unfold delH
        rw [List.filter_eq_self]
        intro y hy
        have := h1 y hy
        simp; omega
      unfold delH at this ⊢
      simp [this]
    · have hx := h1 h hr
      have := ih h2 hr
      unfold delH at this ⊢
      rw [List.filter_cons, if_pos (by simp; omega)]
      simp [this]
theorem findH_ins {H : List Hd} {h : Hd} (hs : HSort H) (hn : ∀ x ∈ H, x.o ≠ h.o) (o : Nat) : findH (insH h H) o = if o = h.o then some h else findH H o := by
  split
  · rename_i e; subst e; exact (hs.ins hn).find (mem_insH.2 (.inl rfl))
  · rename_i e
    cases hf : findH H o with
    | none =>
      refine findH_none' fun y hy e' => ?_
      rcases mem_insH.1 hy with rfl | hy
      · exact e e'.symm
      · exact findH_none hf y hy e'
    | some y =>
      obtain ⟨hy, rfl⟩ := findH_some hf
      exact (hs.ins hn).find (mem_insH.2 (.inr hy))
theorem findH_del {H : List Hd} (hs : HSort H) (o q : Nat) : findH (delH H q) o = if o = q then none else findH H o := by
  split
  · rename_i e; subst e; exact findH_none' fun y hy => (mem_delH.1 hy).2
  · rename_i e
    cases hf : findH H o with
    | none => exact findH_none' fun y hy e' => findH_none hf y (mem_delH.1 hy).1 e'
    | some y =>
      obtain ⟨hy, rfl⟩ := findH_some hf
      exact (hs.del q).find (mem_delH.2 ⟨hy, e⟩)
theorem held_ins (h : Hd) (x : List UInt8) (t : Nat) : ∀ H : List Hd, held (insH h H) x t = (if h.n == x && h.t == t then h.k else 0) + held H x t
  | [] => rfl
  | y :: r => by
    unfold insH
    split
    · rfl
    · simp only [held, held_ins h x t r]; omega
theorem tot_ins (h : Hd) (t : Nat) : ∀ H : List Hd, tot (insH h H) t = (if h.t == t then h.k else 0) + tot H t
  | [] => rfl
  | y :: r => by
    unfold insH
    split
    · rfl
    · simp only [tot, tot_ins h t r]; omega
theorem setH_orders (H : List Hd) (o t : Nat) : (setH H o t).map (·.o) = H.map (·.o) := by
  unfold setH
  rw [List.map_map]
  refine List.map_congr_left fun h _ => ?_
  simp only [Function.comp]
  split <;> rfl
theorem setH_length (H : List Hd) (o t : Nat) : (setH H o t).length = H.length := by simp [setH]
theorem HSort_iff (H : List Hd) : HSort H ↔ (H.map (·.o)).Pairwise (· < ·) := by unfold HSort; rw [List.pairwise_map]
theorem HSort.set {H : List Hd} (h : HSort H) (o t : Nat) : HSort (setH H o t) := by rw [HSort_iff, setH_orders, ← HSort_iff]; exact h
theorem HSort.st {H : List Hd} (h : HSort H) (t : Nat) : HSort (stH H t) := h.filter _
theorem mem_stH {H : List Hd} {t : Nat} {y : Hd} : y ∈ stH H t ↔ y ∈ H ∧ y.t = t := by simp [stH, List.mem_filter]
theorem mem_setH {H : List Hd} {o t : Nat} {y : Hd} : y ∈ setH H o t ↔ (∃ h ∈ H, h.o = o ∧ y = ⟨h.o, h.n, h.k, t⟩) ∨ (y ∈ H ∧ y.o ≠ o) := by
  unfold setH
  rw [List.mem_map]
  constructor
  · rintro ⟨h, hh, rfl⟩
    by_cases e : h.o = o
    · left; rw [if_pos (by simpa using e)]; exact ⟨h, hh, e, rfl⟩
    · right; rw [if_neg (by simpa using e)]; exact ⟨hh, e⟩
  · rintro (⟨h, hh, e, rfl⟩ | ⟨hy, e⟩)
    · exact ⟨h, hh, by simp [e]⟩
    · exact ⟨y, hy, by rw [if_neg (by simpa using e)]⟩
theorem setH_none {H : List Hd} {o t : Nat} (h : ∀ x ∈ H, x.o ≠ o) : setH H o t = H := by
  unfold setH
  conv => rhs; rw [← List.map_id H]
  refine List.map_congr_left fun y hy => ?_
  rw [if_neg (by simpa using h y hy)]; rfl
theorem held_set {H : List Hd} (hs : HSort H) {h : Hd} (hh : h ∈ H) (t : Nat) (x : List UInt8) (u : Nat) :
    held (setH H h.o t) x u = held H x u - (if h.n == x && h.t == u then h.k else 0) + (if h.n == x && t == u then h.k else 0) := by
  induction H with
  | nil => cases hh
  | cons y r ih =>
    obtain ⟨h1, h2⟩ := List.pairwise_cons.1 hs
    rcases List.mem_cons.1 hh with rfl | hr
    · have e := setH_none (H := r) (o := h.o) (t := t) fun z hz => by have := h1 z hz; omega
      unfold setH at e ⊢
      rw [List.map_cons, if_pos (by simp), e]
      simp only [held]; omega
    · have hx := h1 h hr
      have := ih h2 hr
      unfold setH at this ⊢
      rw [List.map_cons, if_neg (by simp; omega)]
      simp only [held, this]; omega
theorem tot_set {H : List Hd} (hs : HSort H) {h : Hd} (hh : h ∈ H) (t : Nat) (u : Nat) :
    tot (setH H h.o t) u = tot H u - (if h.t == u then h.k else 0) + (if t == u then h.k else 0) := by
  induction H with
  | nil => cases hh
  | cons y r ih =>
    obtain ⟨h1, h2⟩ := List.pairwise_cons.1 hs
    rcases List.mem_cons.1 hh with rfl | hr
    · have e := setH_none (H := r) (o := h.o) (t := t) fun z hz => by have := h1 z hz; omega
      unfold setH at e ⊢
      rw [List.map_cons, if_pos (by simp), e]
      simp only [tot]; omega
    · have hx := h1 h hr
      have := ih h2 hr
      unfold setH at this ⊢
      rw [List.map_cons, if_neg (by simp; omega)]
      simp only [tot, this]; omega

/-! ### the payments of each state, behind each call -/
theorem nodup_of_sort {H : List Hd} (h : HSort H) : H.Nodup := List.Pairwise.imp (fun {a b} hlt e => by subst e; omega) h
theorem HSort.ext {H L : List Hd} (h : HSort H) (h' : HSort L) (e : ∀ y, y ∈ H ↔ y ∈ L) : H = L := by
  have hp := (List.perm_ext_iff_of_nodup (nodup_of_sort h) (nodup_of_sort h')).2 e
  exact List.Perm.eq_of_pairwise (le := fun a b : Hd => a.o < b.o) (fun a b _ _ q1 q2 => by omega) h h' hp
theorem stH_ins {H : List Hd} {h : Hd} (hs : HSort H) (hn : ∀ x ∈ H, x.o ≠ h.o) (t : Nat) : stH (insH h H) t = if h.t = t then insH h (stH H t) else stH H t := by
  have hn2 : ∀ x ∈ stH H t, x.o ≠ h.o := fun x hx => hn x (mem_stH.1 hx).1
  split
  · rename_i e
    refine ((hs.ins hn).st t).ext ((hs.st t).ins hn2) fun y => ?_
    rw [mem_stH, mem_insH, mem_insH, mem_stH]
    constructor
    · rintro ⟨rfl | h1, h2⟩
      · exact .inl rfl
      · exact .inr ⟨h1, h2⟩
    · rintro (rfl | ⟨h1, h2⟩)
      · exact ⟨.inl rfl, e⟩
      · exact ⟨.inr h1, h2⟩
  · rename_i e
    refine ((hs.ins hn).st t).ext (hs.st t) fun y => ?_
    rw [mem_stH, mem_insH, mem_stH]
    constructor
    · rintro ⟨rfl | h1, h2⟩
      · exact absurd h2 e
      · exact ⟨h1, h2⟩
    · rintro ⟨h1, h2⟩
      exact ⟨.inr h1, h2⟩
theorem stH_set_from {H : List Hd} (hs : HSort H) {h : Hd} (hh : h ∈ H) {t : Nat} (ht : h.t ≠ t) : stH (setH H h.o t) h.t = delH (stH H h.t) h.o := by
  refine ((hs.set _ _).st _).ext ((hs.st _).del _) fun y => ?_
  rw [mem_stH, mem_setH, mem_delH, mem_stH]
  constructor
  · rintro ⟨⟨z, hz, e, rfl⟩ | ⟨h1, h2⟩, h3⟩
    · exact absurd h3.symm ht
    · exact ⟨⟨h1, h3⟩, h2⟩
  · rintro ⟨⟨h1, h3⟩, h2⟩
    exact ⟨.inr ⟨h1, h2⟩, h3⟩
theorem stH_set_to {H : List Hd} (hs : HSort H) {h : Hd} (hh : h ∈ H) {t : Nat} (ht : h.t ≠ t) : stH (setH H h.o t) t = insH ⟨h.o, h.n, h.k, t⟩ (stH H t) := by
  have hn : ∀ x ∈ stH H t, x.o ≠ h.o := fun x hx e => by
    obtain ⟨h1, h2⟩ := mem_stH.1 hx
    have := hs.uniq h1 hh e
    subst this
    exact ht h2
  refine ((hs.set _ _).st _).ext ((hs.st _).ins (h := ⟨h.o, h.n, h.k, t⟩) hn) fun y => ?_
  rw [mem_stH, mem_setH, mem_insH, mem_stH]
  constructor
  · rintro ⟨⟨z, hz, e, rfl⟩ | ⟨h1, h2⟩, h3⟩
    · have := hs.uniq hz hh e
      subst this
      exact .inl rfl
    · exact .inr ⟨h1, h3⟩
  · rintro (rfl | ⟨h1, h2⟩)
    · exact ⟨.inl ⟨h, hh, rfl, rfl⟩, rfl⟩
    · exact ⟨.inr ⟨h1, hn y (mem_stH.2 ⟨h1, h2⟩)⟩, h2⟩
theorem stH_set_other {H : List Hd} (hs : HSort H) {h : Hd} (hh : h ∈ H) {t u : Nat} (hu : u ≠ t) (hu2 : u ≠ h.t) : stH (setH H h.o t) u = stH H u := by
  refine ((hs.set _ _).st _).ext (hs.st _) fun y => ?_
  rw [mem_stH, mem_setH, mem_stH]
  constructor
  · rintro ⟨⟨z, hz, e, rfl⟩ | ⟨h1, h2⟩, h3⟩
    · exact absurd h3.symm hu
    · exact ⟨h1, h3⟩
  · rintro ⟨h1, h2⟩
    refine ⟨.inr ⟨h1, fun e => ?_⟩, h2⟩
    have := hs.uniq h1 hh e
    subst this
    exact hu2 h2.symm
theorem findH_set {H : List Hd} (hs : HSort H) {h : Hd} (hh : h ∈ H) (t o : Nat) : findH (setH H h.o t) o = if o = h.o then some ⟨h.o, h.n, h.k, t⟩ else findH H o := by
  split
  · rename_i e; subst e
    exact (hs.set h.o t).find (x := ⟨h.o, h.n, h.k, t⟩) (mem_setH.2 (.inl ⟨h, hh, rfl, rfl⟩))
  · rename_i e
    cases hf : findH H o with
    | none =>
      refine findH_none' fun y hy e' => ?_
      rcases mem_setH.1 hy with ⟨z, hz, e2, rfl⟩ | ⟨hy, _⟩
      · exact findH_none hf z hz e'
      · exact findH_none hf y hy e'
    | some y =>
      obtain ⟨hy, rfl⟩ := findH_some hf
      exact (hs.set _ _).find (mem_setH.2 (.inr ⟨hy, e⟩))
theorem findH_st {H : List Hd} (hs : HSort H) (o t : Nat) : findH (stH H t) o = match findH H o with | none => none | some h => if h.t = t then some h else none := by
  cases hf : findH H o with
  | none => exact findH_none' fun y hy => findH_none hf y (mem_stH.1 hy).1
  | some h =>
    obtain ⟨hh, rfl⟩ := findH_some hf
    dsimp only
    split
    · rename_i e; exact (hs.st t).find (mem_stH.2 ⟨hh, e⟩)
    · rename_i e
      refine findH_none' fun y hy e' => ?_
      obtain ⟨h1, h2⟩ := mem_stH.1 hy
      have := hs.uniq h1 hh e'
      subst this
      exact e h2

/-! ### a purse that may be -/
structure Inv (s : Ss) : Prop where
  ks : KSort s.K
  hs : HSort s.H
  kl : ∀ k ∈ s.K, 1 ≤ k.n.length ∧ k.n.length ≤ 32
  kf : ∀ k ∈ s.K, 0 ≤ k.h ∧ k.h ≤ k.m ∧ k.h = held s.H k.n 1 ∧ k.m + held s.H k.n 2 ≤ 1000000000
  hh : ∀ h ∈ s.H, 1 ≤ h.k ∧ 0 < h.o ∧ h.o < 4294967296 ∧ 1 ≤ h.t ∧ h.t ≤ 3 ∧ h.k ≤ 1000000000 ∧ ∃ k ∈ s.K, k.n = h.n
  kz : s.K.length ≤ 50

theorem held_nonneg {H : List Hd} (h : ∀ y ∈ H, 1 ≤ y.k) (x : List UInt8) (t : Nat) : 0 ≤ held H x t := by
  induction H with
  | nil => exact Int.le_refl _
  | cons y r ih =>
    have h1 := h y (List.mem_cons_self ..)
    have h2 := ih fun z hz => h z (List.mem_cons_of_mem _ hz)
    simp only [held]
    split <;> omega
theorem tot_nonneg {H : List Hd} (h : ∀ y ∈ H, 1 ≤ y.k) (t : Nat) : 0 ≤ tot H t := by
  induction H with
  | nil => exact Int.le_refl _
  | cons y r ih =>
    have h1 := h y (List.mem_cons_self ..)
    have h2 := ih fun z hz => h z (List.mem_cons_of_mem _ hz)
    simp only [tot]
    split <;> omega
theorem held_ge {H : List Hd} (h : ∀ y ∈ H, 1 ≤ y.k) {y : Hd} (hy : y ∈ H) : y.k ≤ held H y.n y.t := by
  induction H with
  | nil => cases hy
  | cons z r ih =>
    have h1 := h z (List.mem_cons_self ..)
    have h3 := fun z hz => h z (List.mem_cons_of_mem _ hz)
    simp only [held]
    rcases List.mem_cons.1 hy with rfl | hr
    · rw [if_pos (by simp)]
      have := held_nonneg h3 y.n y.t
      omega
    · have := ih h3 hr
      split <;> omega
theorem Inv.pos {s : Ss} (h : Inv s) : ∀ y ∈ s.H, 1 ≤ y.k := fun y hy => (h.hh y hy).1
theorem Inv.kn {s : Ss} (h : Inv s) {y : Hd} (hy : y ∈ s.H) : ∃ k, findK s.K y.n = some k ∧ k ∈ s.K ∧ k.n = y.n := by
  obtain ⟨-, -, -, -, -, -, k, hk, e⟩ := h.hh y hy
  exact ⟨k, e ▸ h.ks.find hk, hk, e⟩
theorem Inv.kb {s : Ss} (h : Inv s) {y : Hd} (hy : y ∈ s.H) : y.k ≤ 1000000000 ∧ y.n.length ≤ 32 := by
  obtain ⟨k, -, hk, e⟩ := h.kn hy
  exact ⟨(h.hh y hy).2.2.2.2.2.1, e ▸ (h.kl k hk).2⟩
/-- What is known of an account, as numbers. -/
theorem Inv.kbs {s : Ss} (h : Inv s) {k : Kd} (hk : k ∈ s.K) : 0 ≤ k.h ∧ k.h ≤ k.m ∧ k.m ≤ 1000000000 := by
  have h1 := h.kf k hk
  have h2 := held_nonneg h.pos k.n 2
  omega

theorem authV_iff {s : Ss} {o : Nat} {x : List UInt8} {n : Int} : authV s o x n = true ↔ o ≠ 0 ∧ 1 ≤ n ∧ findH s.H o = none ∧ ∃ k, findK s.K x = some k ∧ n ≤ k.m - k.h := by
  unfold authV
  cases hk : findK s.K x <;> simp [and_assoc]
theorem authS_no {s : Ss} {o : Nat} {x : List UInt8} {n : Int} (h : authV s o x n = false) : authS s o x n = s := by
  unfold authS; rw [if_neg (by rw [h]; decide)]
theorem authS_yes {s : Ss} {o : Nat} {x : List UInt8} {n : Int} (h : authV s o x n = true) {k : Kd} (hk : findK s.K x = some k) : authS s o x n = ⟨updK s.K ⟨k.n, k.m, k.h + n⟩, insH ⟨o, k.n, n, 1⟩ s.H⟩ := by
  unfold authS; rw [if_pos h, hk]
theorem movV_iff {s : Ss} {o c : Nat} : movV s o c = true ↔ ∃ h, findH s.H o = some h ∧ h.t = frS c := by
  unfold movV
  cases hf : findH s.H o <;> simp
theorem movS_no {s : Ss} {o c : Nat} (h : movV s o c = false) : movS s o c = s := by
  unfold movS; rw [if_neg (by rw [h]; decide)]
theorem movS_yes {s : Ss} {o c : Nat} {h : Hd} {k : Kd} (h1 : findH s.H o = some h) (h0 : h.t = frS c) (h2 : findK s.K h.n = some k) : movS s o c = ⟨updK s.K (movK k h.k c), setH s.H o (toS c)⟩ := by
  unfold movS
  rw [if_pos (movV_iff.2 ⟨h, h1, h0⟩), h1]; dsimp only; rw [h2]
theorem movK_n (k : Kd) (m : Int) (c : Nat) : (movK k m c).n = k.n := by
  unfold movK
  split
  · rfl
  · split <;> rfl

theorem Inv.auth {s : Ss} (h : Inv s) {o : Nat} (ho : o < 4294967296) (x : List UInt8) (n : Int) : Inv (authS s o x n) := by
  cases hv : authV s o x n
  · rw [authS_no hv]; exact h
  · obtain ⟨h0, h1, h2, k, hk, h3⟩ := authV_iff.1 hv
    rw [authS_yes hv hk]
    obtain ⟨hm, rfl⟩ := findK_some hk
    have hn := findH_none h2
    have hkf := h.kf k hm
    have hp := held_nonneg h.pos k.n 2
    refine ⟨h.ks.upd _, h.hs.ins hn, ?_, ?_, ?_, by rw [updK_length]; exact h.kz⟩
    · intro y hy
      rcases mem_updK.1 hy with ⟨rfl, _⟩ | ⟨hy, _⟩
      · exact h.kl k hm
      · exact h.kl y hy
    · intro y hy
      show 0 ≤ y.h ∧ y.h ≤ y.m ∧ y.h = held (insH ⟨o, k.n, n, 1⟩ s.H) y.n 1 ∧ y.m + held (insH ⟨o, k.n, n, 1⟩ s.H) y.n 2 ≤ 1000000000
      rw [held_ins, held_ins]
      rcases mem_updK.1 hy with ⟨rfl, _⟩ | ⟨hy, hne⟩
      · dsimp only
        rw [if_pos (by simp), if_neg (by simp)]
        omega
      · have := h.kf y hy
        have hne' : k.n ≠ y.n := fun e => hne e.symm
        dsimp only
        rw [if_neg (by simpa using hne'), if_neg (by simp)]
        omega
    · intro y hy
      rcases mem_insH.1 hy with rfl | hy
      · exact ⟨h1, by show 0 < o; omega, ho, by show 1 ≤ 1; omega, by show 1 ≤ 3; omega, by show n ≤ _; omega, ⟨k.n, k.m, k.h + n⟩, mem_updK.2 (.inl ⟨rfl, k, hm, rfl⟩), rfl⟩
      · obtain ⟨a, b, c, d, e0, f, k2, hk2, e⟩ := h.hh y hy
        refine ⟨a, b, c, d, e0, f, ?_⟩
        by_cases e2 : k2.n = k.n
        · exact ⟨⟨k.n, k.m, k.h + n⟩, mem_updK.2 (.inl ⟨rfl, k, hm, rfl⟩), e2.symm.trans e⟩
        · exact ⟨k2, mem_updK.2 (.inr ⟨hk2, e2⟩), e⟩

theorem frS_or (c : Nat) (hc : c ≤ 2) : (c = 0 ∧ frS c = 1 ∧ toS c = 2) ∨ (c = 1 ∧ frS c = 1 ∧ toS c = 3) ∨ (c = 2 ∧ frS c = 2 ∧ toS c = 3) := by
  rcases (by omega : c = 0 ∨ c = 1 ∨ c = 2) with rfl | rfl | rfl <;> simp [frS, toS]

theorem Inv.mov {s : Ss} (h : Inv s) (o : Nat) {c : Nat} (hc : c ≤ 2) : Inv (movS s o c) := by
  cases hv : movV s o c with
  | false => rw [movS_no hv]; exact h
  | true =>
    obtain ⟨y, hf, ht⟩ := movV_iff.1 hv
    obtain ⟨hy, rfl⟩ := findH_some hf
    obtain ⟨k, hk, hm, e⟩ := h.kn hy
    rw [movS_yes hf ht hk]
    have hkf := h.kf k hm
    have hyk := (h.hh y hy).1
    have hge := held_ge h.pos hy
    have hp2 := held_nonneg h.pos k.n 2
    have hp1 := held_nonneg h.pos k.n 1
    refine ⟨h.ks.upd _, h.hs.set _ _, ?_, ?_, ?_, by rw [updK_length]; exact h.kz⟩
    · intro z hz
      rcases mem_updK.1 hz with ⟨rfl, _⟩ | ⟨hz, _⟩
      · rw [movK_n]; exact h.kl k hm
      · exact h.kl z hz
    · intro z hz
      show 0 ≤ z.h ∧ z.h ≤ z.m ∧ z.h = held (setH s.H y.o (toS c)) z.n 1 ∧ z.m + held (setH s.H y.o (toS c)) z.n 2 ≤ 1000000000
      rw [held_set h.hs hy, held_set h.hs hy]
      rcases mem_updK.1 hz with ⟨rfl, _⟩ | ⟨hz, hne⟩
      · rw [movK_n, e]
        rw [e] at hkf hp1 hp2
        rw [ht] at hge
        simp only [beq_self_eq_true, Bool.true_and, ht]
        rcases frS_or c hc with ⟨rfl, e1, e2⟩ | ⟨rfl, e1, e2⟩ | ⟨rfl, e1, e2⟩ <;> rw [e1] at hge <;> (rw [e1, e2]; unfold movK; simp; omega)
      · have := h.kf z hz
        rw [movK_n] at hne
        have hb : (y.n == z.n) = false := by rw [beq_eq_false_iff_ne]; intro e'; exact hne (e'.symm.trans e.symm)
        simp only [hb, Bool.false_and, Bool.false_eq_true, if_false]
        omega
    · have hkk : ∀ z : List UInt8, (∃ k2 ∈ s.K, k2.n = z) → ∃ k2 ∈ updK s.K (movK k y.k c), k2.n = z := by
        rintro z ⟨k2, hk2, e3⟩
        by_cases e2 : k2.n = k.n
        · exact ⟨movK k y.k c, mem_updK.2 (.inl ⟨rfl, k, hm, by rw [movK_n]⟩), by rw [movK_n]; exact e2.symm.trans e3⟩
        · exact ⟨k2, mem_updK.2 (.inr ⟨hk2, by rw [movK_n]; exact e2⟩), e3⟩
      intro z hz
      rcases mem_setH.1 hz with ⟨x, hx, e1, rfl⟩ | ⟨hz, -⟩
      · obtain ⟨a, b, d, -, -, f, k2⟩ := h.hh x hx
        refine ⟨a, b, d, ?_, ?_, f, hkk _ k2⟩ <;> (rcases frS_or c hc with ⟨rfl, e1, e2⟩ | ⟨rfl, e1, e2⟩ | ⟨rfl, e1, e2⟩ <;> simp [toS])
      · obtain ⟨a, b, d, d2, d3, f, k2⟩ := h.hh z hz
        exact ⟨a, b, d, d2, d3, f, hkk _ k2⟩

theorem authS_len (s : Ss) (o : Nat) (x : List UInt8) (n : Int) : (authS s o x n).H.length ≤ s.H.length + 1 ∧ (authS s o x n).K.map (·.n) = s.K.map (·.n) := by
  cases hv : authV s o x n
  · rw [authS_no hv]; exact ⟨by omega, rfl⟩
  · obtain ⟨h0, h1, h2, k, hk, h3⟩ := authV_iff.1 hv
    rw [authS_yes hv hk]
    exact ⟨by rw [insH_length]; omega, updK_names _ _⟩
theorem movS_len (s : Ss) (o c : Nat) : (movS s o c).H.length ≤ s.H.length ∧ (movS s o c).K.map (·.n) = s.K.map (·.n) := by
  unfold movS
  split
  · split
    · exact ⟨Nat.le_refl _, rfl⟩
    · split
      · exact ⟨Nat.le_refl _, rfl⟩
      · exact ⟨by rw [setH_length]; exact Nat.le_refl _, by rw [updK_names]⟩
  · exact ⟨Nat.le_refl _, rfl⟩

end Go.Proofs.YtpbclmnhkmcknaaGreat.Pu

namespace Go.Proofs.YtpbclmnhkmcknaaGreat.Do
open Go.RowKit
set_option maxRecDepth 100000
set_option linter.unusedVariables false

theorem ret_int {k : IntKind} {a b : Int} (h : a = b) : Ending.returned (.int k a) = .returned (.int k b) := by rw [h]
theorem val_int {k : IntKind} {a b : Int} (h : a = b) : Value.int k a = Value.int k b := by rw [h]



/-- Block g is just these cells. -/
def Lies (w : World) (g : Nat) (t : TypeId) (cs : Array Value) : Prop := w.heap[g]? = some (.cells cs t (0, 0))

theorem Lies.lt {w : World} {g : Nat} {t : TypeId} {cs : Array Value} (h : Lies w g t cs) : g < w.heap.size := by
  refine Classical.byContradiction fun hn => ?_
  unfold Lies at h
  rw [Array.getElem?_eq_none (by omega)] at h
  cases h
theorem Lies.cell {w : World} {g : Nat} {t : TypeId} {cs : Array Value} (h : Lies w g t cs) (i : Nat) : w.cell? ⟨g, i, none⟩ = cs[i]? := cell_of_row w g i cs t (0, 0) h
theorem Lies.free {w : World} {g : Nat} {t : TypeId} {cs : Array Value} (h : Lies w g t cs) (i : Nat) : w.frozen? ⟨g, i, none⟩ = false := frozen_of_row w g i cs t h
theorem Lies.made (w : World) (t : TypeId) (cs : Array Value) : Lies (w.alloc (.cells cs t)) w.heap.size t cs := heap_alloc_new w _
theorem Lies.alloc {w : World} {g : Nat} {t : TypeId} {cs : Array Value} (h : Lies w g t cs) (o : Obj) : Lies (w.alloc o) g t cs := (Below.heap_alloc w o g h.lt).trans h
theorem Lies.put {w : World} {g : Nat} {t : TypeId} {cs : Array Value} (h : Lies w g t cs) (i : Nat) (v : Value) : Lies (w.setCell ⟨g, i, none⟩ v) g t (cs.setIfInBounds i v) := heap_setCell_same w g i cs t v h
theorem Lies.other {w : World} {g : Nat} {t : TypeId} {cs : Array Value} (h : Lies w g t cs) {a : Addr} (ha : g ≠ a.block) (v : Value) : Lies (w.setCell a v) g t cs := (heap_setCell_other w a g v ha).trans h
theorem Lies.below {w w' : World} {g B : Nat} {t : TypeId} {cs : Array Value} (h : Lies w g t cs) (hb : Below B w w') (hg : g < B) : Lies w' g t cs := (hb.block g hg).trans h

theorem Lies.there {w : World} {g : Nat} {t : TypeId} {cs : Array Value} (h : Lies w g t cs) (n : Nat) (hn : n ≤ cs.size) : w.there g 0 n := fun j hj => by
  rw [Nat.zero_add]
  exact ⟨by rw [h.cell, Array.getElem?_eq_getElem (by omega)]; rfl, h.free j⟩
theorem Lies.puts' {g : Nat} {t : TypeId} : ∀ (vs : List Value) (o : Nat) (w : World) (cs : Array Value), Lies w g t cs → o + vs.length ≤ cs.size →
    ∃ ds, Lies (w.setCells g o vs) g t ds ∧ ds.size = cs.size ∧ ∀ j, ds[j]? = if o ≤ j ∧ j < o + vs.length then vs[j - o]? else cs[j]?
  | [], o, w, cs, h, _ => ⟨cs, h, rfl, fun j => by rw [if_neg (by simp)]⟩
  | v :: r, o, w, cs, h, hn => by
    obtain ⟨ds, h1, h2, h3⟩ := Lies.puts' r (o + 1) _ _ (h.put o v) (by simp at hn ⊢; omega)
    refine ⟨ds, h1, by simpa using h2, fun j => ?_⟩
    rw [h3 j]
    simp only [List.length_cons] at hn ⊢
    rw [Array.getElem?_setIfInBounds]
    by_cases a : o + 1 ≤ j ∧ j < o + 1 + r.length
    · rw [if_pos a, if_pos (by omega)]
      obtain ⟨i, hi⟩ : ∃ i, j - o = i + 1 := ⟨j - o - 1, by omega⟩
      rw [hi, List.getElem?_cons_succ]
      congr 1; omega
    · rw [if_neg a]
      by_cases b : o = j
      · subst b
        rw [if_pos rfl, if_pos (by omega), if_pos (by omega), Nat.sub_self, List.getElem?_cons_zero]
      · rw [if_neg b, if_neg (by omega)]
theorem Lies.puts {w : World} {g : Nat} {t : TypeId} {cs : Array Value} (h : Lies w g t cs) (T : Array Value) (hT : T.size = cs.size) : Lies (w.setCells g 0 T.toList) g t T := by
  obtain ⟨ds, h1, h2, h3⟩ := Lies.puts' T.toList 0 w cs h (by simp; omega)
  have : ds = T := by
    apply Array.ext_getElem?
    intro j
    rw [h3 j]
    by_cases hj : j < T.size
    · rw [if_pos (by simp; omega)]; simp
    · rw [if_neg (by simp; omega), Array.getElem?_eq_none (by omega), Array.getElem?_eq_none (by omega)]
  rw [this] at h1; exact h1
theorem Lies.puts_other {w : World} {g b : Nat} {t : TypeId} {cs : Array Value} (h : Lies w g t cs) (hne : g ≠ b) (vs : List Value) (o : Nat) : Lies (w.setCells b o vs) g t cs := by
  induction vs generalizing w o with
  | nil => exact h
  | cons v r ih => exact ih (h.other (a := ⟨b, o, none⟩) hne v) (o + 1)
theorem below_puts {B b : Nat} {a w : World} (h : Below B a w) (hb : B ≤ b) (vs : List Value) (o : Nat) : Below B a (w.setCells b o vs) := by
  induction vs generalizing w o with
  | nil => exact h
  | cons v r ih => exact ih (h.setCell (p := ⟨b, o, none⟩) hb v) (o + 1)
theorem size_one (w : World) (o : Obj) : (w.alloc o).heap.size = w.heap.size + 1 := by simp
theorem Lies.made2 (w : World) (o : Obj) (t : TypeId) (cs : Array Value) : Lies ((w.alloc o).alloc (.cells cs t)) (w.heap.size + 1) t cs := by
  have := Lies.made (w.alloc o) t cs
  rwa [size_one] at this
theorem Lies.made3 (w : World) (o o2 : Obj) (t : TypeId) (cs : Array Value) : Lies (((w.alloc o).alloc o2).alloc (.cells cs t)) (w.heap.size + 1 + 1) t cs := by
  have := Lies.made2 (w.alloc o) o2 t cs
  rwa [size_one] at this


theorem ret_bool {a b : Bool} (h : a = b) : Ending.returned (.bool a) = .returned (.bool b) := by rw [h]
theorem below1 (w : World) (o : Obj) : Below w.heap.size w (w.alloc o) := (Below.refl _ _).alloc (Nat.le_refl _) _
theorem below2 (w : World) (o p : Obj) : Below w.heap.size w ((w.alloc o).alloc p) := ((Below.refl _ _).alloc (Nat.le_refl _) _).alloc (by simp) _
theorem range_of_lies {w : World} {g : Nat} {t : TypeId} {cs : Array Value} (h : Lies w g t cs) : w.rangeAt g 0 cs.toList := fun j v hv => by
  rw [Nat.zero_add, h.cell]
  simpa using hv
theorem below_drewN {B : Nat} {a w : World} (h : Below B a w) (n : Nat) : Below B a (w.drewN n) := ⟨h.os, h.tape, h.output, h.size, h.block⟩
section
variable {P : Program} {ops : Array Oper} {Q : Exit → Act → World → Prop} {md : Region.Mode} {S : World → Prop}

/-- An operation that is wanted, and yields the same in every world that meets S, is taken first. -/
theorem any_take (i : Nat) (d : Tmp) {oi : Oper} (v : Value) {fuel : Nat} {listed : Array Bool} {a : Act} {w : World} (hi : ops[i]? = some oi) (hd : oi.dst = some d)
    (hs : Region.noSelect ops = true) (hf : Region.free md ops listed i = true) (hr : (Region.ready md ops listed).contains i = true)
    (hQ : ∀ c a w, Q (.panic c) (a.put (some d) v) w → Q (.panic c) a w) (hw : Region.wanted oi (yielded ops a.tmps) = true) (hy : ∀ w, S w → (execOp a.eval oi).run P w = .ok (.value v) w) (hS : S w)
    (h : wpAnyH P md ops Q S fuel (listed.setIfInBounds i true) (a.put (some d) v) w) : wpAnyH P md ops Q S (fuel + 1) listed a w :=
  wpAnyH_take hi hs hf hr (by rw [hd]; exact hQ) (.inl ⟨hw, hy⟩) hS (by rw [hd]; exact h)

/-- An operation that is not wanted. -/
theorem any_skip (i : Nat) (d : Tmp) {oi : Oper} {fuel : Nat} {listed : Array Bool} {a : Act} {w : World} (hi : ops[i]? = some oi) (hd : oi.dst = some d)
    (hs : Region.noSelect ops = true) (hf : Region.free md ops listed i = true) (hr : (Region.ready md ops listed).contains i = true)
    (hQ : ∀ c a w, Q (.panic c) (a.put (some d) undef) w → Q (.panic c) a w) (hw : Region.wanted oi (yielded ops a.tmps) = false) (hS : S w)
    (h : wpAnyH P md ops Q S fuel (listed.setIfInBounds i true) (a.put (some d) undef) w) : wpAnyH P md ops Q S (fuel + 1) listed a w :=
  wpAnyH_take hi hs hf hr (by rw [hd]; exact hQ) (.inr ⟨hw, rfl⟩) hS (by rw [hd]; exact h)
end


end Go.Proofs.YtpbclmnhkmcknaaGreat.Do

namespace Go.Proofs.YtpbclmnhkmcknaaGreat.Do
set_option linter.unusedVariables false

/-- A booking: its order, its day, how many parcels. -/
structure Hd where
  o : Nat
  d : Nat
  k : Int
instance : Inhabited Hd := ⟨⟨0, 0, 0⟩⟩
/-- A dock. -/
structure Ss where
  F : List Int
  H : List Hd

/-- Ahead of one another: by days, then by orders. -/
def ahead (a b : Hd) : Prop := a.d < b.d ∨ (a.d = b.d ∧ a.o < b.o)
instance (a b : Hd) : Decidable (ahead a b) := by unfold ahead; infer_instance
def findH (H : List Hd) (o : Nat) : Option Hd := H.find? (fun h => h.o == o)
def insH (h : Hd) : List Hd → List Hd
  | [] => [h]
  | x :: r => if ahead h x then h :: x :: r else x :: insH h r
def delH (H : List Hd) (o : Nat) : List Hd := H.filter (fun h => h.o != o)
/-- The place of a day. -/
def fr (F : List Int) (d : Nat) : Int := F.getD d 0
/-- What is booked of a day. -/
def bkd : List Hd → Nat → Int
  | [], _ => 0
  | h :: r, d => (if h.d == d then h.k else 0) + bkd r d
/-- The first day from f on with room for n. -/
def fday (F : List Int) (f n : Int) : Option Nat := (List.range F.length).find? (fun d => decide (f ≤ (d : Int)) && decide (n ≤ fr F d))

def bookD (s : Ss) (o : Nat) (f n : Int) : Option Nat :=
  if o ≠ 0 ∧ 1 ≤ n ∧ 0 ≤ f ∧ findH s.H o = none then fday s.F f n else none
def bookS (s : Ss) (o : Nat) (f n : Int) : Ss :=
  match bookD s o f n with
  | none => s
  | some d => ⟨s.F.set d (fr s.F d - n), insH ⟨o, d, n⟩ s.H⟩
def cancS (s : Ss) (o : Nat) : Ss :=
  match findH s.H o with
  | none => s
  | some h => ⟨s.F.set h.d (fr s.F h.d + h.k), delH s.H o⟩
def verd (b : Bool) : Int := if b then 1 else 2
def dayI (d : Option Nat) : Int := match d with | none => 0 | some d => (d : Int)

structure HSort (H : List Hd) : Prop where
  p : H.Pairwise ahead
  u : H.Pairwise (fun a b => a.o ≠ b.o)

theorem ahead_irrefl (a : Hd) : ¬ ahead a a := by unfold ahead; omega
theorem ahead_trans {a b c : Hd} (h : ahead a b) (h' : ahead b c) : ahead a c := by unfold ahead at *; omega
theorem ahead_asymm {a b : Hd} (h : ahead a b) : ¬ ahead b a := by unfold ahead at *; omega
theorem ahead_tri {a b : Hd} (h : ¬ ahead a b) (h' : a.o ≠ b.o) : ahead b a := by unfold ahead at *; omega

/-! ### bookings -/
theorem findH_some {H : List Hd} {o : Nat} {h : Hd} (e : findH H o = some h) : h ∈ H ∧ h.o = o :=
  ⟨List.mem_of_find?_eq_some e, by simpa using List.find?_some e⟩
theorem findH_none {H : List Hd} {o : Nat} (h : findH H o = none) : ∀ x ∈ H, x.o ≠ o := fun k hk e => by
  have := List.find?_eq_none.1 h k hk
  simp [e] at this
theorem findH_none' {H : List Hd} {o : Nat} (h : ∀ x ∈ H, x.o ≠ o) : findH H o = none :=
  List.find?_eq_none.2 fun k hk => by simpa using h k hk
theorem HSort.nil : HSort [] := ⟨List.Pairwise.nil, List.Pairwise.nil⟩
theorem HSort.cons {x : Hd} {r : List Hd} (h : HSort (x :: r)) : (∀ y ∈ r, ahead x y ∧ x.o ≠ y.o) ∧ HSort r := by
  obtain ⟨h1, h2⟩ := List.pairwise_cons.1 h.p
  obtain ⟨h3, h4⟩ := List.pairwise_cons.1 h.u
  exact ⟨fun y hy => ⟨h1 y hy, h3 y hy⟩, h2, h4⟩
theorem HSort.mk_cons {x : Hd} {r : List Hd} (h : ∀ y ∈ r, ahead x y ∧ x.o ≠ y.o) (hr : HSort r) : HSort (x :: r) :=
  ⟨List.pairwise_cons.2 ⟨fun y hy => (h y hy).1, hr.p⟩, List.pairwise_cons.2 ⟨fun y hy => (h y hy).2, hr.u⟩⟩
theorem HSort.uniq {H : List Hd} (h : HSort H) {a b : Hd} (ha : a ∈ H) (hb : b ∈ H) (e : a.o = b.o) : a = b := by
  induction H with
  | nil => cases ha
  | cons x r ih =>
    obtain ⟨h1, h2⟩ := h.cons
    rcases List.mem_cons.1 ha with ea | ha'
    · rcases List.mem_cons.1 hb with eb | hb'
      · rw [ea, eb]
      · subst ea; exact absurd e (h1 b hb').2
    · rcases List.mem_cons.1 hb with eb | hb'
      · subst eb; exact absurd e.symm (h1 a ha').2
      · exact ih h2 ha' hb'
theorem HSort.find {H : List Hd} (h : HSort H) {x : Hd} (hx : x ∈ H) : findH H x.o = some x := by
  cases hf : findH H x.o with
  | none => exact absurd rfl (findH_none hf x hx)
  | some k' => obtain ⟨h1, h2⟩ := findH_some hf; rw [h.uniq h1 hx h2]
theorem mem_insH {h y : Hd} : ∀ {H : List Hd}, y ∈ insH h H ↔ y = h ∨ y ∈ H
  | [] => by simp [insH]
  | x :: r => by
    unfold insH
    split
    · simp
    · simp only [List.mem_cons, mem_insH (H := r)]
      constructor
      · rintro (h | h | h) <;> simp [h]
      · rintro (h | h | h) <;> simp [h]
theorem insH_length (h : Hd) : ∀ H : List Hd, (insH h H).length = H.length + 1
  | [] => rfl
  | x :: r => by unfold insH; split <;> simp [insH_length h r]
theorem HSort.ins {H : List Hd} {h : Hd} (hs : HSort H) (hn : ∀ x ∈ H, x.o ≠ h.o) : HSort (insH h H) := by
  induction H with
  | nil => exact ⟨List.pairwise_singleton _ _, List.pairwise_singleton _ _⟩
  | cons x r ih =>
    obtain ⟨h1, h2⟩ := hs.cons
    unfold insH
    split
    · rename_i e
      refine HSort.mk_cons (fun y hy => ?_) hs
      have hyo := hn y hy
      rcases List.mem_cons.1 hy with rfl | hy
      · exact ⟨e, fun e' => hyo e'.symm⟩
      · exact ⟨ahead_trans e (h1 y hy).1, fun e' => hyo e'.symm⟩
    · rename_i e
      refine HSort.mk_cons (fun y hy => ?_) (ih h2 fun y hy => hn y (List.mem_cons_of_mem _ hy))
      have hxo := hn x (List.mem_cons_self ..)
      rcases mem_insH.1 hy with rfl | hy
      · exact ⟨ahead_tri e (fun e' => hxo e'.symm), hxo⟩
      · exact h1 y hy
theorem HSort.del {H : List Hd} (hs : HSort H) (o : Nat) : HSort (delH H o) := ⟨hs.p.filter _, hs.u.filter _⟩
theorem mem_delH {H : List Hd} {o : Nat} {y : Hd} : y ∈ delH H o ↔ y ∈ H ∧ y.o ≠ o := by simp [delH, List.mem_filter]
theorem delH_none {H : List Hd} {o : Nat} (h : ∀ x ∈ H, x.o ≠ o) : delH H o = H := by
  unfold delH
  rw [List.filter_eq_self]
  intro y hy
  simpa using h y hy
theorem delH_ins {H : List Hd} {h : Hd} (hn : ∀ x ∈ H, x.o ≠ h.o) : delH (insH h H) h.o = H := by
  induction H with
  | nil => simp [insH, delH]
  | cons x r ih =>
    have hx := hn x (List.mem_cons_self ..)
    have ih' := ih fun y hy => hn y (List.mem_cons_of_mem _ hy)
    have hr : delH r h.o = r := delH_none fun y hy => hn y (List.mem_cons_of_mem _ hy)
    unfold insH
    split
    · unfold delH at hr ⊢
      simp [hx, hr]
    · unfold delH at ih' ⊢
      simp [hx, ih']
theorem delH_length {H : List Hd} (hs : HSort H) {h : Hd} (hh : h ∈ H) : (delH H h.o).length + 1 = H.length := by
  induction H with
  | nil => cases hh
  | cons x r ih =>
    obtain ⟨h1, h2⟩ := hs.cons
    rcases List.mem_cons.1 hh with rfl | hr
    · have : delH r h.o = r := delH_none fun y hy e => (h1 y hy).2 e.symm
      unfold delH at this ⊢
      simp [this]
    · have hx := (h1 h hr).2
      have := ih h2 hr
      unfold delH at this ⊢
      rw [List.filter_cons, if_pos (by simpa using hx)]
      simp [this]
theorem findH_ins {H : List Hd} {h : Hd} (hs : HSort H) (hn : ∀ x ∈ H, x.o ≠ h.o) (o : Nat) : findH (insH h H) o = if o = h.o then some h else findH H o := by
  split
  · rename_i e; subst e; exact (hs.ins hn).find (mem_insH.2 (.inl rfl))
  · rename_i e
    cases hf : findH H o with
    | none =>
      refine findH_none' fun y hy e' => ?_
      rcases mem_insH.1 hy with rfl | hy
      · exact e e'.symm
      · exact findH_none hf y hy e'
    | some y =>
      obtain ⟨hy, rfl⟩ := findH_some hf
      exact (hs.ins hn).find (mem_insH.2 (.inr hy))
theorem findH_del {H : List Hd} (hs : HSort H) (o q : Nat) : findH (delH H q) o = if o = q then none else findH H o := by
  split
  · rename_i e; subst e; exact findH_none' fun y hy => (mem_delH.1 hy).2
  · rename_i e
    cases hf : findH H o with
    | none => exact findH_none' fun y hy e' => findH_none hf y (mem_delH.1 hy).1 e'
    | some y =>
      obtain ⟨hy, rfl⟩ := findH_some hf
      exact (hs.del q).find (mem_delH.2 ⟨hy, e⟩)
theorem bkd_ins (h : Hd) (d : Nat) : ∀ H : List Hd, bkd (insH h H) d = (if h.d == d then h.k else 0) + bkd H d
  | [] => rfl
  | y :: r => by
    unfold insH
    split
    · rfl
    · simp only [bkd, bkd_ins h d r]; omega
theorem bkd_del {H : List Hd} (hs : HSort H) {h : Hd} (hh : h ∈ H) (d : Nat) : bkd (delH H h.o) d = bkd H d - (if h.d == d then h.k else 0) := by
  induction H with
  | nil => cases hh
  | cons y r ih =>
    obtain ⟨h1, h2⟩ := hs.cons
    rcases List.mem_cons.1 hh with rfl | hr
    · have e : delH r h.o = r := delH_none fun z hz e => (h1 z hz).2 e.symm
      unfold delH at e ⊢
      rw [List.filter_cons, if_neg (by simp), e]
      simp only [bkd]; omega
    · have hx := (h1 h hr).2
      have := ih h2 hr
      unfold delH at this ⊢
      rw [List.filter_cons, if_pos (by simpa using hx)]
      simp only [bkd, this]; omega
theorem bkd_nonneg {H : List Hd} (h : ∀ y ∈ H, 1 ≤ y.k) (d : Nat) : 0 ≤ bkd H d := by
  induction H with
  | nil => exact Int.le_refl _
  | cons y r ih =>
    have h1 := h y (List.mem_cons_self ..)
    have h2 := ih fun z hz => h z (List.mem_cons_of_mem _ hz)
    simp only [bkd]
    split <;> omega
theorem bkd_ge {H : List Hd} (h : ∀ y ∈ H, 1 ≤ y.k) {y : Hd} (hy : y ∈ H) : y.k ≤ bkd H y.d := by
  induction H with
  | nil => cases hy
  | cons z r ih =>
    have h1 := h z (List.mem_cons_self ..)
    have h3 := fun z hz => h z (List.mem_cons_of_mem _ hz)
    simp only [bkd]
    rcases List.mem_cons.1 hy with rfl | hr
    · rw [if_pos (by simp)]
      have := bkd_nonneg h3 y.d
      omega
    · have := ih h3 hr
      split <;> omega
theorem bkd_perm {H L : List Hd} (h : H.Perm L) (d : Nat) : bkd H d = bkd L d := by
  induction h with
  | nil => rfl
  | cons x _ ih => simp only [bkd, ih]
  | swap x y l => simp only [bkd]; omega
  | trans _ _ h1 h2 => rw [h1, h2]
theorem bkd_append (H L : List Hd) (d : Nat) : bkd (H ++ L) d = bkd H d + bkd L d := by
  induction H with
  | nil => simp [bkd]
  | cons x r ih => simp only [List.cons_append, bkd, ih]; omega
theorem nodup_of_sort {H : List Hd} (h : HSort H) : H.Nodup := List.Pairwise.imp (fun {a b} hlt e => hlt (by rw [e])) h.u
theorem HSort.ext {H L : List Hd} (h : HSort H) (h' : HSort L) (e : ∀ y, y ∈ H ↔ y ∈ L) : H = L := by
  have hp := (List.perm_ext_iff_of_nodup (nodup_of_sort h) (nodup_of_sort h')).2 e
  exact List.Perm.eq_of_pairwise (le := ahead) (fun a b _ _ q1 q2 => absurd q2 (ahead_asymm q1)) h.p h'.p hp
theorem ins_perm (h : Hd) : ∀ H : List Hd, (insH h H).Perm (h :: H)
  | [] => List.Perm.refl _
  | x :: r => by
    unfold insH
    split
    · exact List.Perm.refl _
    · exact (List.Perm.cons x (ins_perm h r)).trans (List.Perm.swap h x r)

/-! ### days -/
theorem fr_set (F : List Int) (d i : Nat) (x : Int) : fr (F.set d x) i = if i = d ∧ d < F.length then x else fr F i := by
  unfold fr
  rw [List.getD_eq_getElem?_getD, List.getD_eq_getElem?_getD, List.getElem?_set]
  by_cases h : d = i
  · subst h
    by_cases h2 : d < F.length
    · simp [h2]
    · simp [h2]
  · rw [if_neg h, if_neg (by omega)]
theorem fr_get {F : List Int} {d : Nat} (h : d < F.length) : F[d] = fr F d := by simp [fr, h]
theorem fr_ext {F G : List Int} (h : F.length = G.length) (h2 : ∀ d, d < F.length → fr F d = fr G d) : F = G := by
  apply List.ext_getElem h
  intro i h3 h4
  rw [fr_get h3, fr_get h4, h2 i h3]
theorem fday_some {F : List Int} {f n : Int} {d : Nat} : fday F f n = some d ↔ d < F.length ∧ f ≤ (d : Int) ∧ n ≤ fr F d ∧ ∀ j, j < d → ¬ (f ≤ (j : Int) ∧ n ≤ fr F j) := by
  unfold fday
  rw [List.find?_range_eq_some]
  simp only [List.mem_range, Bool.and_eq_true, decide_eq_true_eq, Bool.not_eq_true', Bool.and_eq_false_iff, decide_eq_false_iff_not]
  constructor
  · rintro ⟨⟨h1, h2⟩, h3, h4⟩
    refine ⟨h3, h1, h2, fun j hj hc => ?_⟩
    rcases h4 j hj with h | h
    · exact h hc.1
    · exact h hc.2
  · rintro ⟨h3, h1, h2, h4⟩
    refine ⟨⟨h1, h2⟩, h3, fun j hj => ?_⟩
    have := h4 j hj
    by_cases h5 : f ≤ (j : Int)
    · exact .inr fun h6 => this ⟨h5, h6⟩
    · exact .inl h5
theorem fday_none {F : List Int} {f n : Int} : fday F f n = none ↔ ∀ j, j < F.length → ¬ (f ≤ (j : Int) ∧ n ≤ fr F j) := by
  unfold fday
  rw [List.find?_eq_none]
  simp only [List.mem_range, Bool.and_eq_true, decide_eq_true_eq]

/-! ### a dock that may be -/
structure Inv (R : List Int) (s : Ss) : Prop where
  hs : HSort s.H
  fl : s.F.length = R.length
  fz : R.length ≤ 60
  rr : ∀ d, d < R.length → 0 ≤ fr R d ∧ fr R d ≤ 1000000
  ff : ∀ d, d < R.length → 0 ≤ fr s.F d ∧ fr s.F d + bkd s.H d = fr R d
  hh : ∀ h ∈ s.H, 1 ≤ h.k ∧ 0 < h.o ∧ h.o < 4294967296 ∧ h.d < R.length ∧ h.k ≤ 1000000

theorem Inv.pos {R : List Int} {s : Ss} (h : Inv R s) : ∀ y ∈ s.H, 1 ≤ y.k := fun y hy => (h.hh y hy).1
theorem Inv.fb {R : List Int} {s : Ss} (h : Inv R s) {d : Nat} (hd : d < R.length) : 0 ≤ fr s.F d ∧ fr s.F d ≤ 1000000 := by
  have h1 := h.ff d hd
  have h2 := h.rr d hd
  have h3 := bkd_nonneg h.pos d
  omega
theorem Inv.canc_bnd {R : List Int} {s : Ss} (h : Inv R s) {y : Hd} (hy : y ∈ s.H) : y.d < s.F.length ∧ 0 ≤ fr s.F y.d ∧ 1 ≤ y.k ∧ fr s.F y.d + y.k ≤ 1000000 := by
  have h0 := h.hh y hy
  have hd : y.d < R.length := h0.2.2.2.1
  have h1 := h.ff _ hd
  have h2 := h.rr _ hd
  have h3 := bkd_ge h.pos hy
  exact ⟨by rw [h.fl]; exact hd, h1.1, h0.1, by omega⟩

theorem bookD_some {s : Ss} {o : Nat} {f n : Int} {d : Nat} : bookD s o f n = some d ↔ (o ≠ 0 ∧ 1 ≤ n ∧ 0 ≤ f ∧ findH s.H o = none) ∧ fday s.F f n = some d := by
  unfold bookD
  split
  · rename_i h; exact ⟨fun e => ⟨h, e⟩, fun e => e.2⟩
  · rename_i h; exact ⟨fun e => (by cases e), fun e => absurd e.1 h⟩
theorem bookS_no {s : Ss} {o : Nat} {f n : Int} (h : bookD s o f n = none) : bookS s o f n = s := by unfold bookS; rw [h]
theorem bookS_yes {s : Ss} {o : Nat} {f n : Int} {d : Nat} (h : bookD s o f n = some d) : bookS s o f n = ⟨s.F.set d (fr s.F d - n), insH ⟨o, d, n⟩ s.H⟩ := by unfold bookS; rw [h]
theorem cancS_no {s : Ss} {o : Nat} (h : findH s.H o = none) : cancS s o = s := by unfold cancS; rw [h]
theorem cancS_yes {s : Ss} {o : Nat} {h : Hd} (e : findH s.H o = some h) : cancS s o = ⟨s.F.set h.d (fr s.F h.d + h.k), delH s.H o⟩ := by unfold cancS; rw [e]

theorem Inv.book {R : List Int} {s : Ss} (h : Inv R s) {o : Nat} (ho : o < 4294967296) (f n : Int) : Inv R (bookS s o f n) := by
  cases hv : bookD s o f n with
  | none => rw [bookS_no hv]; exact h
  | some d =>
    obtain ⟨⟨h0, h1, h2, h3⟩, hd⟩ := bookD_some.1 hv
    obtain ⟨d1, d2, d3, d4⟩ := fday_some.1 hd
    rw [bookS_yes hv]
    have hn := findH_none h3
    have hdl : d < R.length := by rw [← h.fl]; exact d1
    refine ⟨h.hs.ins hn, by simp [h.fl], h.fz, h.rr, fun e he => ?_, fun y hy => ?_⟩
    · have := h.ff e he
      show 0 ≤ fr (s.F.set d (fr s.F d - n)) e ∧ fr (s.F.set d (fr s.F d - n)) e + bkd (insH ⟨o, d, n⟩ s.H) e = fr R e
      rw [fr_set, bkd_ins]
      dsimp only
      by_cases e1 : e = d
      · subst e1
        rw [if_pos ⟨rfl, d1⟩, if_pos (by simp)]
        omega
      · rw [if_neg (by omega), if_neg (by simp; omega)]
        omega
    · rcases mem_insH.1 hy with rfl | hy
      · have := h.fb hdl
        exact ⟨h1, by show 0 < o; omega, ho, hdl, by show n ≤ _; omega⟩
      · exact h.hh y hy
theorem Inv.canc {R : List Int} {s : Ss} (h : Inv R s) (o : Nat) : Inv R (cancS s o) := by
  cases hf : findH s.H o with
  | none => rw [cancS_no hf]; exact h
  | some y =>
    obtain ⟨hy, rfl⟩ := findH_some hf
    rw [cancS_yes hf]
    have hb := h.canc_bnd hy
    refine ⟨h.hs.del _, by simp [h.fl], h.fz, h.rr, fun e he => ?_, fun z hz => h.hh z (mem_delH.1 hz).1⟩
    have := h.ff e he
    show 0 ≤ fr (s.F.set y.d (fr s.F y.d + y.k)) e ∧ fr (s.F.set y.d (fr s.F y.d + y.k)) e + bkd (delH s.H y.o) e = fr R e
    rw [fr_set, bkd_del h.hs hy]
    by_cases e1 : e = y.d
    · subst e1
      rw [if_pos ⟨rfl, hb.1⟩, if_pos (by simp)]
      omega
    · rw [if_neg (by omega), if_neg (by simp; omega)]
      omega
theorem bookS_len (s : Ss) (o : Nat) (f n : Int) : (bookS s o f n).H.length ≤ s.H.length + 1 ∧ (bookS s o f n).F.length = s.F.length := by
  cases hv : bookD s o f n with
  | none => rw [bookS_no hv]; exact ⟨by omega, rfl⟩
  | some d => rw [bookS_yes hv]; exact ⟨by rw [insH_length]; omega, by simp⟩
theorem cancS_len (s : Ss) (o : Nat) : (cancS s o).H.length ≤ s.H.length ∧ (cancS s o).F.length = s.F.length := by
  cases hf : findH s.H o with
  | none => rw [cancS_no hf]; exact ⟨by omega, rfl⟩
  | some y => rw [cancS_yes hf]; exact ⟨by unfold delH; exact List.length_filter_le _ _, by simp⟩

/-- The booking of a new order, and its cancelling: all is as it was. -/
theorem book_canc {R : List Int} {s : Ss} (h : Inv R s) {o : Nat} {f n : Int} {d : Nat} (hv : bookD s o f n = some d) : cancS (bookS s o f n) o = s := by
  obtain ⟨⟨h0, h1, h2, h3⟩, hd⟩ := bookD_some.1 hv
  obtain ⟨d1, d2, d3, d4⟩ := fday_some.1 hd
  rw [bookS_yes hv]
  have hn := findH_none h3
  have hf := findH_ins h.hs (h := ⟨o, d, n⟩) hn o
  rw [if_pos rfl] at hf
  rw [cancS_yes (s := ⟨s.F.set d (fr s.F d - n), insH ⟨o, d, n⟩ s.H⟩) hf]
  have e1 : delH (insH ⟨o, d, n⟩ s.H) o = s.H := delH_ins (h := ⟨o, d, n⟩) hn
  show Ss.mk ((s.F.set d (fr s.F d - n)).set d (fr (s.F.set d (fr s.F d - n)) d + n)) (delH (insH ⟨o, d, n⟩ s.H) o) = s
  rw [e1]
  have e2 : (s.F.set d (fr s.F d - n)).set d (fr (s.F.set d (fr s.F d - n)) d + n) = s.F := by
    refine fr_ext (by simp) fun i hi => ?_
    rw [fr_set, fr_set, fr_set]
    by_cases e : i = d
    · subst e
      rw [if_pos ⟨rfl, by simpa using d1⟩, if_pos ⟨rfl, d1⟩]; omega
    · rw [if_neg (by omega), if_neg (by omega)]
  rw [e2]

end Go.Proofs.YtpbclmnhkmcknaaGreat.Do

namespace Go.Proofs.YtpbclmnhkmcknaaGreat
open Fe (Kp Note Ent.be Ent.txt Ent.St Ent.rnum Ent.rtxt Ent.At askS keepF seeF okT okB Fc)
set_option maxRecDepth 100000
set_option linter.unusedVariables false

/-- A work. -/
structure Wk where
  t : Int
  n : Int
  x : List Nat
def wkB (k : Wk) : Bool := decide (1 ≤ k.t) && (decide (k.t ≤ 6) && (decide (0 ≤ k.n) && (decide (k.n ≤ 1000000000) && decide (k.x.length ≤ 32))))
theorem wkB_iff (k : Wk) : wkB k = true ↔ 1 ≤ k.t ∧ k.t ≤ 6 ∧ 0 ≤ k.n ∧ k.n ≤ 1000000000 ∧ k.x.length ≤ 32 := by
  unfold wkB; simp only [Bool.and_eq_true, decide_eq_true_eq]
/-- Its bytes. -/
def encW (k : Wk) : List Nat := Fe.Ent.be 1 k.t.toNat ++ (Fe.Ent.be 4 k.n.toNat ++ Fe.Ent.txt k.x)
/-- What a reader reads. -/
def r1 (l : List Nat) : Nat × Fe.Ent.St := Fe.Ent.rnum l 1 (0, false)
def r2 (l : List Nat) : Nat × Fe.Ent.St := Fe.Ent.rnum l 4 (r1 l).2
def r3 (l : List Nat) : List Nat × Fe.Ent.St := Fe.Ent.rtxt l (r2 l).2
def rdW (l : List Nat) : Wk := ⟨(r1 l).1, (r2 l).1, (r3 l).1⟩
def rdB (l : List Nat) : Bool := !(r3 l).2.2 && decide ((r3 l).2.1 = l.length)
/-- The work of bytes. -/
def decS (l : List Nat) : Option Wk := if rdB l = true ∧ wkB (rdW l) = true then some (rdW l) else none
theorem decS_some {l : List Nat} {k : Wk} (h : decS l = some k) : k = rdW l ∧ rdB l = true ∧ wkB k = true := by
  unfold decS at h
  split at h
  · rename_i c
    injection h with h
    exact ⟨h.symm, c.1, h ▸ c.2⟩
  · cases h
theorem txt_len (t : List Nat) : (Fe.Ent.txt t).length = t.length + 1 := by
  unfold Fe.Ent.txt
  rw [List.length_append, Fe.Ent.be_len]; omega
theorem encW_len (k : Wk) : (encW k).length = 6 + k.x.length := by
  unfold encW
  rw [List.length_append, List.length_append, Fe.Ent.be_len, Fe.Ent.be_len, txt_len]; omega
theorem txt_small {t : List Nat} (h : ∀ c ∈ t, c < 256) : ∀ c ∈ Fe.Ent.txt t, c < 256 := by
  intro c hc
  unfold Fe.Ent.txt at hc
  rcases List.mem_append.1 hc with hc | hc
  · exact Fe.Ent.be_small _ _ c hc
  · exact h c hc
theorem encW_small {k : Wk} (h : ∀ c ∈ k.x, c < 256) : ∀ c ∈ encW k, c < 256 := by
  intro c hc
  unfold encW at hc
  rcases List.mem_append.1 hc with hc | hc
  · exact Fe.Ent.be_small _ _ c hc
  · rcases List.mem_append.1 hc with hc | hc
    · exact Fe.Ent.be_small _ _ c hc
    · exact txt_small h c hc
/-- What was written is read again. -/
theorem dec_enc {k : Wk} (h : wkB k = true) : decS (encW k) = some k := by
  obtain ⟨h1, h2, h3, h4, h5⟩ := (wkB_iff k).1 h
  have a0 : Fe.Ent.At (encW k) (0, false) (Fe.Ent.be 1 k.t.toNat ++ (Fe.Ent.be 4 k.n.toNat ++ Fe.Ent.txt k.x)) := ⟨rfl, rfl, Nat.zero_le _⟩
  obtain ⟨s1, e1, a1⟩ := a0.num 1 k.t.toNat (by omega)
  obtain ⟨s2, e2, a2⟩ := a1.num 4 k.n.toNat (by omega)
  rw [← List.append_nil (Fe.Ent.txt k.x)] at a2
  obtain ⟨s3, e3, a3⟩ := a2.txt (by omega)
  have q1 : r1 (encW k) = (k.t.toNat, s1) := e1
  have q2 : r2 (encW k) = (k.n.toNat, s2) := by unfold r2; rw [q1]; exact e2
  have q3 : r3 (encW k) = (k.x, s3) := by unfold r3; rw [q2]; exact e3
  have hw : rdW (encW k) = k := by
    unfold rdW
    rw [q1, q2, q3]
    obtain ⟨t, n, x⟩ := k
    dsimp only at *
    rw [Int.toNat_of_nonneg (by omega), Int.toNat_of_nonneg (by omega)]
  have hb : rdB (encW k) = true := by
    unfold rdB
    rw [q3]
    have h7 := a3.2.1
    have h8 := a3.len
    have h9 := a3.2.2
    simp only [List.length_nil] at h8
    rw [a3.1]
    simp only [Bool.not_false, Bool.true_and, decide_eq_true_eq]
    omega
  unfold decS
  rw [hw, if_pos ⟨hb, h⟩]
theorem snoc_ind {P : List Nat → Prop} (h0 : P []) (h1 : ∀ l c, P l → P (l ++ [c])) : ∀ l, P l := by
  have : ∀ n (l : List Nat), l.length = n → P l := by
    intro n
    induction n with
    | zero => intro l hl; rw [List.eq_nil_of_length_eq_zero hl]; exact h0
    | succ n ih =>
      intro l hl
      have hne : l ≠ [] := fun e => by rw [e] at hl; cases hl
      rw [← List.dropLast_concat_getLast hne]
      exact h1 _ _ (ih _ (by rw [List.length_dropLast]; omega))
  exact fun l => this _ l rfl
theorem be_val : ∀ l : List Nat, (∀ c ∈ l, c < 256) → Fe.Ent.be l.length (Fe.Ent.val l) = l := by
  refine snoc_ind (fun _ => rfl) (fun l c ih h => ?_)
  have hc : c < 256 := h c (by simp)
  rw [List.length_append, show [c].length = 1 from rfl, Fe.Ent.be_succ, Fe.Ent.val_snoc, show (Fe.Ent.val l * 256 + c) / 256 = Fe.Ent.val l from by omega, show (Fe.Ent.val l * 256 + c) % 256 = c from by omega, ih (fun d hd => h d (by simp [hd]))]
theorem rnum_ok (l : List Nat) (k : Nat) (s : Fe.Ent.St) (hl : ∀ c ∈ l, c < 256) (h : (Fe.Ent.rnum l k s).2.2 = false) :
    s.2 = false ∧ (Fe.Ent.rnum l k s).2.1 = s.1 + k ∧ k ≤ l.length - s.1 ∧ l.drop s.1 = Fe.Ent.be k (Fe.Ent.rnum l k s).1 ++ l.drop (s.1 + k) := by
  unfold Fe.Ent.rnum at h ⊢
  split at h
  · cases h
  · rename_i hn
    have h1 : s.2 = false := by
      cases hs : s.2
      · rfl
      · exact absurd (.inl hs) hn
    have h2 : k ≤ l.length - s.1 := by
      refine Classical.byContradiction fun hc => hn (.inr (by omega))
    rw [if_neg hn]
    refine ⟨h1, rfl, h2, ?_⟩
    have hlen : ((l.drop s.1).take k).length = k := by rw [List.length_take, List.length_drop]; omega
    have := be_val ((l.drop s.1).take k) (fun c hc => hl c (List.mem_of_mem_drop (List.mem_of_mem_take hc)))
    rw [hlen] at this
    show l.drop s.1 = Fe.Ent.be k (Fe.Ent.val ((l.drop s.1).take k)) ++ l.drop (s.1 + k)
    rw [this, ← List.drop_drop, List.take_append_drop]
theorem rtxt_ok (l : List Nat) (s : Fe.Ent.St) (hl : ∀ c ∈ l, c < 256) (h : (Fe.Ent.rtxt l s).2.2 = false) :
    s.2 = false ∧ (Fe.Ent.rtxt l s).2.1 = s.1 + (1 + (Fe.Ent.rtxt l s).1.length) ∧ l.drop s.1 = Fe.Ent.txt (Fe.Ent.rtxt l s).1 ++ l.drop (s.1 + (1 + (Fe.Ent.rtxt l s).1.length)) := by
  unfold Fe.Ent.rtxt at h ⊢
  split at h
  · cases h
  · rename_i hn
    have h1 : s.2 = false := by
      cases hs : s.2
      · rfl
      · exact absurd (.inl hs) hn
    have h2 : 1 + l.getD s.1 0 ≤ l.length - s.1 := by
      refine Classical.byContradiction fun hc => hn (.inr (.inr (by omega)))
    rw [if_neg hn]
    have hlen : ((l.drop (s.1 + 1)).take (l.getD s.1 0)).length = l.getD s.1 0 := by rw [List.length_take, List.length_drop]; omega
    have hlt : s.1 < l.length := by omega
    have hg : l.getD s.1 0 = l[s.1] := by simp [List.getD, hlt]
    have hd : l.drop s.1 = l.getD s.1 0 :: l.drop (s.1 + 1) := by rw [hg]; exact List.drop_eq_getElem_cons hlt
    refine ⟨h1, by show s.1 + (1 + l.getD s.1 0) = s.1 + (1 + ((l.drop (s.1 + 1)).take (l.getD s.1 0)).length); rw [hlen], ?_⟩
    show l.drop s.1 = Fe.Ent.txt ((l.drop (s.1 + 1)).take (l.getD s.1 0)) ++ l.drop (s.1 + (1 + ((l.drop (s.1 + 1)).take (l.getD s.1 0)).length))
    unfold Fe.Ent.txt
    rw [hlen, Fe.Ent.be_one _ (by rw [hg]; exact hl _ (List.getElem_mem hlt)), List.append_assoc, ← Nat.add_assoc, ← List.drop_drop (i := l.getD s.1 0), List.take_append_drop]
    exact hd
/-- What is read is written as the bytes were. -/
theorem enc_rd {l : List Nat} (hl : ∀ c ∈ l, c < 256) (h : rdB l = true) : encW (rdW l) = l := by
  unfold rdB at h
  simp only [Bool.and_eq_true, Bool.not_eq_true', decide_eq_true_eq] at h
  obtain ⟨h1, h2⟩ := h
  obtain ⟨a1, a2, a3⟩ := rtxt_ok l (r2 l).2 hl h1
  obtain ⟨b1, b2, b3, b4⟩ := rnum_ok l 4 (r1 l).2 hl a1
  obtain ⟨c1, c2, c3, c4⟩ := rnum_ok l 1 (0, false) hl b1
  change (r3 l).2.1 = (r2 l).2.1 + (1 + (r3 l).1.length) at a2
  change List.drop (r2 l).2.1 l = Fe.Ent.txt (r3 l).1 ++ List.drop ((r2 l).2.1 + (1 + (r3 l).1.length)) l at a3
  rw [← a2, h2, List.drop_length, List.append_nil] at a3
  change (r2 l).2.1 = (r1 l).2.1 + 4 at b2
  change List.drop (r1 l).2.1 l = Fe.Ent.be 4 (r2 l).1 ++ List.drop ((r1 l).2.1 + 4) l at b4
  rw [← b2, a3] at b4
  change (r1 l).2.1 = 0 + 1 at c2
  change List.drop 0 l = Fe.Ent.be 1 (r1 l).1 ++ List.drop (0 + 1) l at c4
  rw [← c2, b4, List.drop_zero] at c4
  unfold encW rdW
  exact c4.symm
theorem enc_dec {l : List Nat} {k : Wk} (hl : ∀ c ∈ l, c < 256) (h : decS l = some k) : encW k = l := by
  obtain ⟨rfl, h1, h2⟩ := decS_some h
  exact enc_rd hl h1
/-- The document's way: read, and written again. -/
theorem dec_ref {l : List Nat} (hl : ∀ c ∈ l, c < 256) : decS l = if wkB (rdW l) = true ∧ encW (rdW l) = l then some (rdW l) else none := by
  by_cases h : wkB (rdW l) = true ∧ encW (rdW l) = l
  · rw [if_pos h]
    have := dec_enc h.1
    rw [h.2] at this
    exact this
  · rw [if_neg h]
    cases hd : decS l with
    | none => rfl
    | some k =>
      have h2 := enc_dec hl hd
      obtain ⟨rfl, -, h1⟩ := decS_some hd
      exact absurd ⟨h1, h2⟩ h
theorem rdW_small {l : List Nat} (hl : ∀ c ∈ l, c < 256) : (rdW l).t = ((r1 l).1 : Nat) ∧ (r1 l).1 < 256 ∧ (r2 l).1 < 4294967296 ∧ (∀ c ∈ (rdW l).x, c < 256) ∧ (rdW l).x.length < 256 :=
  ⟨rfl, Fe.Ent.rnum_lt l hl 1 _, Fe.Ent.rnum_lt l hl 4 _, Fe.Ent.rtxt_small l hl _, Fe.Ent.rtxt_len l hl _⟩

/-! ### what a crew is -/
/-- Bytes as a text. -/
def u8s (x : List Nat) : List UInt8 := x.map UInt8.ofNat
theorem u8s_len (x : List Nat) : (u8s x).length = x.length := by simp [u8s]
/-- What took effect. -/
structure Ef where
  o : Nat
  s : Int
  u : Bool
deriving DecidableEq
structure Cq where
  s : St.Ss
  p : Pu.Ss
  d : Do.Ss
  f : Fe.Fc
  E : List Ef
  M : List (List Nat)
/-- What comes out of a step: verdict, reply, and what the crew is then. -/
structure Rs where
  v : Int
  r : List Nat
  q : Cq
def fwdS (q : Cq) (o : Nat) (k : Wk) : Rs :=
  if k.t = 1 then ⟨St.verd (St.holdV q.s o (u8s k.x) k.n), [], { q with s := St.holdS q.s o (u8s k.x) k.n }⟩
  else if k.t = 2 then ⟨St.verd (St.endV q.s o), [], { q with s := St.endS q.s o true }⟩
  else if k.t = 3 then ⟨Pu.verd (Pu.authV q.p o (u8s k.x) k.n), [], { q with p := Pu.authS q.p o (u8s k.x) k.n }⟩
  else if k.t = 4 then ⟨Pu.verd (Pu.movV q.p o 0), [], { q with p := Pu.movS q.p o 0 }⟩
  else if k.t = 5 then match Do.bookD q.d o 0 k.n with
    | none => ⟨2, [], q⟩
    | some d => ⟨1, [d], { q with d := Do.bookS q.d o 0 k.n }⟩
  else if k.t = 6 then ⟨1, [], { q with M := q.M ++ [k.x] }⟩
  else ⟨2, [], q⟩
def bwdS (q : Cq) (o : Nat) (k : Wk) : Rs :=
  if k.t = 1 then ⟨St.verd (St.endV q.s o), [], { q with s := St.endS q.s o false }⟩
  else if k.t = 3 then ⟨Pu.verd (Pu.movV q.p o 1), [], { q with p := Pu.movS q.p o 1 }⟩
  else if k.t = 4 then ⟨Pu.verd (Pu.movV q.p o 2), [], { q with p := Pu.movS q.p o 2 }⟩
  else if k.t = 5 then ⟨Do.verd (Do.findH q.d.H o).isSome, [], { q with d := Do.cancS q.d o }⟩
  else if k.t = 6 then ⟨1, [], { q with M := q.M ++ [33 :: k.x] }⟩
  else ⟨2, [], q⟩
def execS (q : Cq) (o : Nat) (u : Bool) (l : List Nat) : Rs :=
  match decS l with
  | none => ⟨2, [], q⟩
  | some k => if u = true then bwdS q o k else fwdS q o k
def addE (q : Cq) (e : Ef) : Cq := { q with E := q.E ++ [e] }
def effS (r : Rs) (e : Ef) : Rs := if r.v = 1 then ⟨r.v, r.r, addE r.q e⟩ else r
def decideS (q : Cq) (act : Nat) (N : Note) : Rs :=
  if act = 3 then ⟨2, [], q⟩ else if act = 4 then ⟨1, [], q⟩ else effS (execS q N.order N.undo N.data) ⟨N.order, N.step, N.undo⟩
abbrev zN : Note := ⟨0, 0, 0, 0, 0, 0, 0, false, 0, [], []⟩
abbrev noN (ep : Nat) (c : Int) : Note := ⟨6, ep, 0, 0, 0, 0, 0, false, c, [], []⟩
abbrev doneN (N : Note) (v : Int) (r : List Nat) : Note := ⟨8, N.epoch, 0, 0, 0, N.order, N.step, N.undo, v, [], r⟩
abbrev fenceN (ep : Nat) (N : Note) : Note := ⟨9, ep, 0, 0, 0, N.order, N.step, N.undo, 0, [], []⟩
/-- The answer to a step, and what the crew is then. -/
structure Sv where
  a : Note
  q : Cq
def serveS (q : Cq) (N : Note) : Sv :=
  let A := Fe.askS q.f.ep q.f.n q.f.T N
  if A.e = 72 then ⟨fenceN q.f.ep N, q⟩
  else if A.e = 80 then ⟨noN q.f.ep 2, q⟩
  else if A.e ≠ 0 then ⟨noN q.f.ep 1, q⟩
  else if A.act = 2 then ⟨doneN N A.k.c A.k.r, { q with f := Fe.seeF q.f.ep q.f.n q.f.T N.epoch }⟩
  else if q.f.n = 200 then ⟨noN q.f.ep 3, q⟩
  else
    let R := decideS q A.act N
    ⟨doneN N R.v R.r, { R.q with f := Fe.keepF q.f.ep q.f.n q.f.T N R.v R.r }⟩

end Go.Proofs.YtpbclmnhkmcknaaGreat

namespace Go.Proofs.YtpbclmnhkmcknaaGreat.Fe
open Go.RowKit

theorem ret_int {k : IntKind} {a b : Int} (h : a = b) : Ending.returned (.int k a) = .returned (.int k b) := by rw [h]
theorem val_int {k : IntKind} {a b : Int} (h : a = b) : Value.int k a = Value.int k b := by rw [h]



/-- Block g is just these cells. -/
def Lies (w : World) (g : Nat) (t : TypeId) (cs : Array Value) : Prop := w.heap[g]? = some (.cells cs t (0, 0))

theorem Lies.lt {w : World} {g : Nat} {t : TypeId} {cs : Array Value} (h : Lies w g t cs) : g < w.heap.size := by
  refine Classical.byContradiction fun hn => ?_
  unfold Lies at h
  rw [Array.getElem?_eq_none (by omega)] at h
  cases h
theorem Lies.cell {w : World} {g : Nat} {t : TypeId} {cs : Array Value} (h : Lies w g t cs) (i : Nat) : w.cell? ⟨g, i, none⟩ = cs[i]? := cell_of_row w g i cs t (0, 0) h
theorem Lies.free {w : World} {g : Nat} {t : TypeId} {cs : Array Value} (h : Lies w g t cs) (i : Nat) : w.frozen? ⟨g, i, none⟩ = false := frozen_of_row w g i cs t h
theorem Lies.made (w : World) (t : TypeId) (cs : Array Value) : Lies (w.alloc (.cells cs t)) w.heap.size t cs := heap_alloc_new w _
theorem Lies.alloc {w : World} {g : Nat} {t : TypeId} {cs : Array Value} (h : Lies w g t cs) (o : Obj) : Lies (w.alloc o) g t cs := (Below.heap_alloc w o g h.lt).trans h
theorem Lies.put {w : World} {g : Nat} {t : TypeId} {cs : Array Value} (h : Lies w g t cs) (i : Nat) (v : Value) : Lies (w.setCell ⟨g, i, none⟩ v) g t (cs.setIfInBounds i v) := heap_setCell_same w g i cs t v h
theorem Lies.other {w : World} {g : Nat} {t : TypeId} {cs : Array Value} (h : Lies w g t cs) {a : Addr} (ha : g ≠ a.block) (v : Value) : Lies (w.setCell a v) g t cs := (heap_setCell_other w a g v ha).trans h
theorem Lies.below {w w' : World} {g B : Nat} {t : TypeId} {cs : Array Value} (h : Lies w g t cs) (hb : Below B w w') (hg : g < B) : Lies w' g t cs := (hb.block g hg).trans h

theorem Lies.there {w : World} {g : Nat} {t : TypeId} {cs : Array Value} (h : Lies w g t cs) (n : Nat) (hn : n ≤ cs.size) : w.there g 0 n := fun j hj => by
  rw [Nat.zero_add]
  exact ⟨by rw [h.cell, Array.getElem?_eq_getElem (by omega)]; rfl, h.free j⟩
theorem Lies.puts' {g : Nat} {t : TypeId} : ∀ (vs : List Value) (o : Nat) (w : World) (cs : Array Value), Lies w g t cs → o + vs.length ≤ cs.size →
    ∃ ds, Lies (w.setCells g o vs) g t ds ∧ ds.size = cs.size ∧ ∀ j, ds[j]? = if o ≤ j ∧ j < o + vs.length then vs[j - o]? else cs[j]?
  | [], o, w, cs, h, _ => ⟨cs, h, rfl, fun j => by rw [if_neg (by simp)]⟩
  | v :: r, o, w, cs, h, hn => by
    obtain ⟨ds, h1, h2, h3⟩ := Lies.puts' r (o + 1) _ _ (h.put o v) (by simp at hn ⊢; omega)
    refine ⟨ds, h1, by simpa using h2, fun j => ?_⟩
    rw [h3 j]
    simp only [List.length_cons] at hn ⊢
    rw [Array.getElem?_setIfInBounds]
    by_cases a : o + 1 ≤ j ∧ j < o + 1 + r.length
    · rw [if_pos a, if_pos (by omega)]
      obtain ⟨i, hi⟩ : ∃ i, j - o = i + 1 := ⟨j - o - 1, by omega⟩
      rw [hi, List.getElem?_cons_succ]
      congr 1; omega
    · rw [if_neg a]
      by_cases b : o = j
      · subst b
        rw [if_pos rfl, if_pos (by omega), if_pos (by omega), Nat.sub_self, List.getElem?_cons_zero]
      · rw [if_neg b, if_neg (by omega)]
theorem Lies.puts {w : World} {g : Nat} {t : TypeId} {cs : Array Value} (h : Lies w g t cs) (T : Array Value) (hT : T.size = cs.size) : Lies (w.setCells g 0 T.toList) g t T := by
  obtain ⟨ds, h1, h2, h3⟩ := Lies.puts' T.toList 0 w cs h (by simp; omega)
  have : ds = T := by
    apply Array.ext_getElem?
    intro j
    rw [h3 j]
    by_cases hj : j < T.size
    · rw [if_pos (by simp; omega)]; simp
    · rw [if_neg (by simp; omega), Array.getElem?_eq_none (by omega), Array.getElem?_eq_none (by omega)]
  rw [this] at h1; exact h1
theorem Lies.puts_other {w : World} {g b : Nat} {t : TypeId} {cs : Array Value} (h : Lies w g t cs) (hne : g ≠ b) (vs : List Value) (o : Nat) : Lies (w.setCells b o vs) g t cs := by
  induction vs generalizing w o with
  | nil => exact h
  | cons v r ih => exact ih (h.other (a := ⟨b, o, none⟩) hne v) (o + 1)
theorem below_puts {B b : Nat} {a w : World} (h : Below B a w) (hb : B ≤ b) (vs : List Value) (o : Nat) : Below B a (w.setCells b o vs) := by
  induction vs generalizing w o with
  | nil => exact h
  | cons v r ih => exact ih (h.setCell (p := ⟨b, o, none⟩) hb v) (o + 1)
theorem size_one (w : World) (o : Obj) : (w.alloc o).heap.size = w.heap.size + 1 := by simp
theorem Lies.made2 (w : World) (o : Obj) (t : TypeId) (cs : Array Value) : Lies ((w.alloc o).alloc (.cells cs t)) (w.heap.size + 1) t cs := by
  have := Lies.made (w.alloc o) t cs
  rwa [size_one] at this
theorem Lies.made3 (w : World) (o o2 : Obj) (t : TypeId) (cs : Array Value) : Lies (((w.alloc o).alloc o2).alloc (.cells cs t)) (w.heap.size + 1 + 1) t cs := by
  have := Lies.made2 (w.alloc o) o2 t cs
  rwa [size_one] at this


/-- A slice of n bytes that reads as l. -/
def Bys (w : World) (a : Option Addr) (n : Nat) (l : List Nat) : Prop :=
  l.length = n ∧ (∀ c ∈ l, c < 256) ∧ (0 < n → ∃ b off, a = some ⟨b, off, none⟩ ∧ ∀ i, i < n → w.cell? ⟨b, off + i, none⟩ = some (.int .u8 (l.getD i 0 : Nat)))

theorem take_one (l : List Nat) (k : Nat) (h : k < l.length) : l.take (k + 1) = l.take k ++ [l.getD k 0] := by
  rw [List.take_succ_eq_append_getElem h]
  simp [List.getD, h]

theorem getD_lt (l : List Nat) (hl : ∀ c ∈ l, c < 256) (k : Nat) : l.getD k 0 < 256 := by
  rw [List.getD_eq_getElem?_getD]
  by_cases h : k < l.length
  · rw [List.getElem?_eq_getElem h]; exact hl _ (List.getElem_mem h)
  · rw [List.getElem?_eq_none (by omega)]; decide


theorem ret_bool {a b : Bool} (h : a = b) : Ending.returned (.bool a) = .returned (.bool b) := by rw [h]
theorem below1 (w : World) (o : Obj) : Below w.heap.size w (w.alloc o) := (Below.refl _ _).alloc (Nat.le_refl _) _
theorem below2 (w : World) (o p : Obj) : Below w.heap.size w ((w.alloc o).alloc p) := ((Below.refl _ _).alloc (Nat.le_refl _) _).alloc (by simp) _
theorem range_of_lies {w : World} {g : Nat} {t : TypeId} {cs : Array Value} (h : Lies w g t cs) : w.rangeAt g 0 cs.toList := fun j v hv => by
  rw [Nat.zero_add, h.cell]
  simpa using hv
theorem wrap_u8 (q : Nat) (h : q < 256) : IntKind.u8.wrap (q : Int) = (q : Int) := by rw [IntKind.wrap_u8]; omega

end Go.Proofs.YtpbclmnhkmcknaaGreat.Fe

namespace Go.Proofs.YtpbclmnhkmcknaaGreat.Fe
open Go.RowKit
set_option maxRecDepth 100000


theorem Bys.drewN {w : World} {a : Option Addr} {n : Nat} {l : List Nat} (h : Bys w a n l) (k : Nat) : Bys (w.drewN k) a n l := h
theorem Bys.front {w : World} {a : Option Addr} {n : Nat} {l : List Nat} (h : Bys w a n l) (m : Nat) (hm : m ≤ n) : Bys w a m (l.take m) := by
  obtain ⟨h1, h2, h3⟩ := h
  refine ⟨by rw [List.length_take]; omega, fun c hc => h2 c (List.mem_of_mem_take hc), fun h0 => ?_⟩
  obtain ⟨b, off, e, hc⟩ := h3 (by omega)
  refine ⟨b, off, e, fun i hi => ?_⟩
  rw [hc i (by omega)]
  simp [List.getD, hi]

theorem below_drewN {B : Nat} {a w : World} (h : Below B a w) (n : Nat) : Below B a (w.drewN n) := ⟨h.os, h.tape, h.output, h.size, h.block⟩
/-- A new row of these bytes. -/
theorem Bys.const (w : World) (C : Array Value) (l : List Nat) (fr : Nat × Nat) (n : Nat) (hC : C = (l.map (fun (c : Nat) => Value.int .u8 (c : Int))).toArray) (hn : l.length = n) (hl : ∀ c ∈ l, c < 256) : Bys (w.alloc (.cells C 5 fr)) (some ⟨w.heap.size, 0, none⟩) n l := by
  subst hC
  refine ⟨hn, hl, fun _ => ⟨_, _, rfl, fun i hi => ?_⟩⟩
  rw [Nat.zero_add, cell_of_row _ _ _ _ 5 fr (heap_alloc_new w _)]
  have : i < l.length := by omega
  simp [List.getD, this]

theorem Bys.none_ (w : World) : Bys w none 0 [] := ⟨rfl, (fun c hc => absurd hc (by simp)), (fun h => absurd h (by omega))⟩
theorem small_len (n : Nat) (h : n ≤ 1000000) : n ≤ maxLen := by unfold maxLen; omega
abbrev vals (l : List Nat) : List Value := l.map (fun (c : Nat) => Value.int .u8 (c : Int))

/-- A row of bytes that lies in a block of its own, not below B. -/
def Own (w : World) (B : Nat) (v : Value) (l : List Nat) : Prop := w.ownsRow B 5 1 v l.length (vals l) ∧ ∀ c ∈ l, c < 256

theorem Own.nil (w : World) (B : Nat) : Own w B (.slice none 0 0) [] := ⟨⟨rfl, .inl ⟨rfl, rfl⟩⟩, by simp⟩

theorem Own.form {w : World} {B : Nat} {v : Value} {l : List Nat} (h : Own w B v l) :
    (v = .slice none 0 0 ∧ l = []) ∨ ∃ g cap cur, v = .slice (some ⟨g, 0, none⟩) l.length cap ∧ B ≤ g ∧ Lies w g 5 cur ∧ l.length ≤ cap ∧ cap ≤ maxLen ∧ cur.size = cap ∧ ∀ i, i < l.length → cur[i]? = some (.int .u8 (l.getD i 0 : Nat)) := by
  obtain ⟨⟨_, h1 | ⟨g, cap, cur, hv, hb, hg, hn, hm, hs, ht⟩⟩, _⟩ := h
  · exact .inl ⟨h1.1, List.eq_nil_of_length_eq_zero h1.2⟩
  · refine .inr ⟨g, cap, cur, hv, hb, hg, hn, hm, by simpa using hs, fun i hi => ?_⟩
    have e : (cur.toList.take (l.length * 1))[i]? = (vals l)[i]? := by rw [ht]
    rw [List.getElem?_take, if_pos (by omega)] at e
    rw [Array.getElem?_toList] at e
    rw [e]
    simp [vals, List.getD, hi]

theorem Own.bys {w : World} {B : Nat} {A : Option Addr} {n c : Nat} {l : List Nat} (h : Own w B (.slice A n c) l) : Bys w A n l ∧ n ≤ c ∧ c ≤ maxLen ∧ (A = none → n = 0 ∧ c = 0) := by
  rcases h.form with ⟨hv, hl⟩ | ⟨g, cap, cur, hv, hb, hg, hn, hm, hs, hc⟩
  · injection hv with h1 h2 h3
    subst h1 h2 h3 hl
    exact ⟨Bys.none_ w, Nat.le_refl _, by unfold maxLen; omega, fun _ => ⟨rfl, rfl⟩⟩
  · injection hv with h1 h2 h3
    subst h1 h2 h3
    refine ⟨⟨rfl, h.2, fun _ => ⟨g, 0, rfl, fun i hi => ?_⟩⟩, hn, hm, fun h => by cases h⟩
    rw [Nat.zero_add, hg.cell, hc i hi]

theorem add_off (b off i : Nat) : (⟨b, off, none⟩ : Addr).add i = ⟨b, off + i, none⟩ := Addr.add_mid b off i

theorem Bys.cells {w : World} {A : Option Addr} {m : Nat} {l : List Nat} (h : Bys w A m l) (ad : Addr) (hA : A = some ad) : ∀ j u, (vals l)[j]? = some u → w.cell? (ad.add j) = some u := by
  intro j u hu
  have hj : j < l.length := by
    have := (List.getElem?_eq_some_iff.1 hu).1
    simpa [vals] using this
  obtain ⟨b, off, e, hc⟩ := h.2.2 (by rw [← h.1]; omega)
  rw [hA] at e
  injection e with e
  subst e
  rw [add_off, hc j (by rw [← h.1]; exact hj), ← hu]
  simp [vals, List.getD, hj]

/-- 'append' of bytes onto a row of the call's own. -/
theorem wpl_append {ops : Array Oper} {rest : List Oper} {a : Act} {w : World} {Q : Exit → Act → World → Prop} (dst : Option Tmp) (ty : TypeId) (pos : String) (aft : Array Edge) (s x : Operand)
    (B : Nat) (v : Value) (l : List Nat) (A : Option Addr) (m c : Nat) (news : List Nat)
    (hs : a.eval s = v) (hx : a.eval x = .slice A m c) (hown : Own w B v l) (hsrc : Bys w A m news) (hA : A = none → c = 0) (hsm : l.length + m ≤ 1000000) (hB : B ≤ w.heap.size)
    (h : ∀ v' w', Own w' B v' (l ++ news) → w.grownBy w' v.ownBlock → (v'.ownBlock = v.ownBlock ∨ v'.ownBlock = some w.heap.size) → wpList Tryz.prog ops Q rest (a.put dst v') w') :
    wpList Tryz.prog ops Q (⟨dst, .call { callee := .builtin .append, args := #[s, x], argTypes := #[22, 22] }, ty, pos, aft, none⟩ :: rest) a w := by
  rcases A with _ | ad
  · have hm : m = 0 := by
      refine Classical.byContradiction fun h0 => ?_
      obtain ⟨b, off, e, _⟩ := hsrc.2.2 (by omega)
      cases e
    have hn : news = [] := List.eq_nil_of_length_eq_zero (by rw [hsrc.1]; exact hm)
    have hc0 := hA rfl
    subst hm hn hc0
    refine wpList_append_own_none (o := ⟨dst, .call { callee := .builtin .append, args := #[s, x], argTypes := #[22, 22] }, ty, pos, aft, none⟩) rfl s x 22 rfl B 5 _ 1 Tryz.underlying22 Tryz.type5 v l.length (vals l) hs hown.1 hx ?_
    exact h v w (by rw [List.append_nil]; exact hown) (World.grownBy.refl w _) (.inl rfl)
  · refine wpList_append_own_at (w := w) (o := ⟨dst, .call { callee := .builtin .append, args := #[s, x], argTypes := #[22, 22] }, ty, pos, aft, none⟩) rfl s x 22 rfl B 5 _ (.int .u8 0) 1 1 Tryz.underlying22 Tryz.type5 rfl rfl rfl rfl (by decide) v l.length (vals l) hs hown.1
      ad m c (vals news) hx (by simp [vals, hsrc.1]) (hsrc.cells ad rfl) (fun u hu => by simp only [vals, List.mem_map] at hu; obtain ⟨_, _, rfl⟩ := hu; rfl) (by unfold maxLen; omega) (by omega) hB ?_
    intro v' w' h1 h2 _ h4
    refine h v' w' ⟨?_, ?_⟩ h2 h4
    · rw [List.length_append, hsrc.1]
      show w'.ownsRow B 5 1 v' (l.length + m) (vals (l ++ news))
      rw [show vals (l ++ news) = vals l ++ vals news from by simp [vals]]
      exact h1
    · intro c hc
      rcases List.mem_append.1 hc with h' | h'
      · exact hown.2 c h'
      · exact hsrc.2.1 c h'

set_option maxHeartbeats 400000 in
theorem copy_any (a : Option Addr) (n cap : Nat) (l : List Nat) (w : World) (hB : Bys w a n l) (hA : a = none → cap = 0) (hn : n ≤ 1000000) :
    Calls Tryz.prog 41 #[.slice a n cap] w fun e w' => ∃ v, e = .returned v ∧ Own w' w.heap.size v l ∧ Below w.heap.size w w' := by
  have HB := Lib.hid hB
  have HA := Lib.hid hA
  clear hB hA
  go_enter Tryz.func41, Tryz.ntmps41
  go_wp2_with (first
    | ((with_reducible refine wpl_append (some 6) _ _ _ (.tmp 4) (.tmp 5) w.heap.size _ [] a n cap l ?hs ?hx (Own.nil _ _) HB.out HA.out ?hm (Nat.le_refl _) ?_); (case hs => rfl); (case hx => rfl); (case hm => simpa using hn); (intro v' w' ho hg hv)))
  go_ret
  exact ⟨_, rfl, ho, (Below.refl _ _).grown hg (Nat.le_refl _) (fun k hk => by cases hk)⟩

theorem Bys.below {w w' : World} {a : Option Addr} {n : Nat} {l : List Nat} (h : Bys w a n l) (hb : Below w.heap.size w w') : Bys w' a n l := by
  obtain ⟨h1, h2, h3⟩ := h
  refine ⟨h1, h2, fun h0 => ?_⟩
  obtain ⟨b, off, e, hc⟩ := h3 h0
  refine ⟨b, off, e, fun i hi => ?_⟩
  have := hc i hi
  rw [hb.cell (block_lt_of_cell this)]
  exact this

theorem Own.alloc {w : World} {B : Nat} {v : Value} {l : List Nat} (h : Own w B v l) (o : Obj) : Own (w.alloc o) B v l := by
  obtain ⟨⟨h0, h1⟩, h2⟩ := h
  refine ⟨⟨h0, ?_⟩, h2⟩
  rcases h1 with h1 | ⟨g, cap, cur, hv, hb, hg, hr⟩
  · exact .inl h1
  · exact .inr ⟨g, cap, cur, hv, hb, Lies.alloc hg o, hr⟩

theorem Own.block {w : World} {B : Nat} {v : Value} {l : List Nat} (h : Own w B v l) : ∀ k, v.ownBlock = some k → B ≤ k := by
  intro k hk
  obtain ⟨⟨_, h1⟩, _⟩ := h
  rcases h1 with ⟨rfl, _⟩ | ⟨g, cap, cur, rfl, hb, _⟩
  · cases hk
  · simp [Value.ownBlock] at hk; omega

/-- An append onto a row of its own changes nothing below it. -/
theorem Own.grows {w w' a : World} {B B0 : Nat} {v : Value} {l : List Nat} (h : Own w B v l) (hg : w.grownBy w' v.ownBlock) (hb : Below B0 a w) (h1 : B0 ≤ B) (h2 : B0 ≤ w.heap.size) : Below B0 a w' :=
  hb.grown hg h2 (fun k hk => Nat.le_trans h1 (h.block k hk))

/-- The row that is not empty. -/
theorem Own.some_ {w : World} {B : Nat} {v : Value} {l : List Nat} (h : Own w B v l) (h0 : 0 < l.length) : ∃ g cap, v = .slice (some ⟨g, 0, none⟩) l.length cap ∧ Bys w (some ⟨g, 0, none⟩) l.length l ∧ l.length ≤ cap ∧ cap ≤ maxLen := by
  rcases h.form with ⟨_, hl⟩ | ⟨g, cap, cur, hv, _⟩
  · rw [hl] at h0; simp at h0
  · have h2 := h
    rw [hv] at h2
    have := h2.bys
    exact ⟨g, cap, hv, this.1, this.2.1, this.2.2.1⟩



theorem Own.drew {w : World} {B : Nat} {v : Value} {l : List Nat} (h : Own w B v l) : Own w.drew B v l := h
theorem Bys.drew {w : World} {a : Option Addr} {n : Nat} {l : List Nat} (h : Bys w a n l) : Bys w.drew a n l := h

/-- 'append' of one byte onto a row of the call's own, where the order is open. -/
theorem stp_append {ops : Array Oper} {a : Act} {w : World} {K : Act → World → Prop} {Q : Exit → Act → World → Prop} {E : Prop} (dst : Option Tmp) (ty : TypeId) (pos : String) (aft : Array Edge) (s x : Operand)
    (B : Nat) (v : Value) (l : List Nat) (A : Option Addr) (m c : Nat) (news : List Nat)
    (hs : a.eval s = v) (hx : a.eval x = .slice A m c) (hown : Own w B v l) (hsrc : Bys w A m news) (hm : 0 < m) (hsm : l.length + m ≤ 1000000) (hB : B ≤ w.heap.size)
    (h : ∀ g cap w', Own w' B (.slice (some ⟨g, 0, none⟩) (l.length + m) cap) (l ++ news) → w.grownBy w' v.ownBlock → K (a.put dst (.slice (some ⟨g, 0, none⟩) (l.length + m) cap)) w') :
    if Region.wanted ⟨dst, .call { callee := .builtin .append, args := #[s, x], argTypes := #[22, 22] }, ty, pos, aft, none⟩ (yielded ops a.tmps) = true then Oper.wp Tryz.prog ⟨dst, .call { callee := .builtin .append, args := #[s, x], argTypes := #[22, 22] }, ty, pos, aft, none⟩ a w K Q else E := by
  obtain ⟨b, off, rfl, hc⟩ := hsrc.2.2 hm
  refine step_append_lies w (o := ⟨dst, .call { callee := .builtin .append, args := #[s, x], argTypes := #[22, 22] }, ty, pos, aft, none⟩) rfl s x 22 rfl B 5 _ (.int .u8 0) 1 1 Tryz.underlying22 Tryz.type5 rfl rfl rfl rfl (by decide) v l.length (vals l) hs hown.1
      ⟨b, off, none⟩ m c (vals news) hx (by simp [vals, hsrc.1]) (hsrc.cells _ rfl) (fun u hu => by simp only [vals, List.mem_map] at hu; obtain ⟨_, _, rfl⟩ := hu; rfl) hm (by unfold maxLen; omega) (by omega) hB w.heap.size rfl ?_
  intro g cap w' h1 h2 _ _
  refine h g cap w' ⟨?_, ?_⟩ h2
  · have e : (l ++ news).length = l.length + m := by rw [List.length_append, hsrc.1]
    rw [e]
    show w'.ownsRow B 5 1 _ (l.length + m) (vals (l ++ news))
    rw [show vals (l ++ news) = vals l ++ vals news from by simp [vals]]
    exact h1
  · intro c hc
    rcases List.mem_append.1 hc with h' | h'
    · exact hown.2 c h'
    · exact hsrc.2.1 c h'

/-- The cells of n new bytes. -/
def zrow (n : Nat) : Array Value := madeCells #[.int .u8 0] n
set_option maxRecDepth 100000 in
theorem run_zrow (n : Nat) (hn : n ≤ 1000000) (w : World) : (Instr.makeSlice 22 (.int .i64 (n : Int)) (.int .i64 (n : Int))).run Tryz.prog w = .ok (.slice (some ⟨w.heap.size, 0, none⟩) n n) (w.alloc (.cells (zrow n) 5)) := by
  have := run_make (P := Tryz.prog) w 22 5 _ (.int .u8 0) Tryz.underlying22 Tryz.type5 rfl .i64 .i64 (n : Int) (n : Int) (by omega) (by omega) (by show (1 : Int) * (n : Int) ≤ _; omega) (by omega)
  rw [this]
  show Result.ok (Value.slice _ (n : Int).toNat (n : Int).toNat) (w.alloc (.cells (madeCells #[.int .u8 0] ((n : Int).toNat * 1)) 5)) = _
  rw [Int.toNat_natCast, Nat.mul_one]
  rfl
theorem zrow_eq (n : Nat) : zrow n = ((List.replicate n 0).map (fun (c : Nat) => Value.int .u8 (c : Int))).toArray := by
  unfold zrow madeCells
  apply Array.ext
  · simp
  · intro i h1 h2
    simp [Nat.mod_one]
theorem bys_zrow (w : World) (n : Nat) : Bys (w.alloc (.cells (zrow n) 5)) (some ⟨w.heap.size, 0, none⟩) n (List.replicate n 0) :=
  Bys.const w _ _ (0, 0) n (zrow_eq n) (by simp) (by intro c hc; rw [List.eq_of_mem_replicate hc]; decide)

theorem Own.slice {w : World} {B : Nat} {v : Value} {l : List Nat} (h : Own w B v l) : ∃ A c, v = .slice A l.length c ∧ Bys w A l.length l ∧ l.length ≤ c ∧ c ≤ maxLen ∧ (A = none → c = 0) := by
  rcases h.form with ⟨hv, hl⟩ | ⟨g, cap, cur, hv, _⟩
  · subst hl
    exact ⟨none, 0, hv, Bys.none_ w, Nat.le_refl _, by unfold maxLen; omega, fun _ => rfl⟩
  · rw [hv] at h
    have := h.bys
    exact ⟨_, cap, hv, this.1, this.2.1, this.2.2.1, fun h0 => by cases h0⟩

theorem Bys.alloc {w : World} {a : Option Addr} {n : Nat} {l : List Nat} (h : Bys w a n l) (o : Obj) : Bys (w.alloc o) a n l := h.below ((Below.refl _ _).alloc (Nat.le_refl _) o)

theorem int_lt (k n m : Nat) (h : k < n) (h2 : n ≤ m) : (k : Int) < (m : Int) := by omega
theorem int_le (n m c : Nat) (h : n ≤ m) (h2 : m ≤ c) : (n : Int) ≤ (c : Int) := by omega



/-- What is lent: the bytes, and two of room behind them. -/
def LentPost (w : World) (n : Nat) (l : List Nat) (e : Ending) (w' : World) : Prop :=
  ∃ g c, e = .returned (.slice (some ⟨g, 0, none⟩) n c) ∧ n + 2 ≤ c ∧ c ≤ maxLen ∧ Bys w' (some ⟨g, 0, none⟩) (n + 2) (l ++ [91, 92]) ∧ Below w.heap.size w w'

theorem bys_marks (w : World) (fr : Nat × Nat) : Bys (w.alloc (.cells #[.int .u8 91, .int .u8 92] 5 fr)) (some ⟨w.heap.size, 0, none⟩) 2 [91, 92] := Bys.const w _ [91, 92] fr 2 rfl rfl (by decide)

set_option maxHeartbeats 400000 in
theorem lent_any (a : Option Addr) (n cap : Nat) (l : List Nat) (w : World) (hB : Bys w a n l) (hA : a = none → cap = 0) (hn : n ≤ 100000) :
    Calls Tryz.prog 11 #[.slice a n cap] w (LentPost w n l) := by
  have HB := Lib.hid hB
  have HA := Lib.hid hA
  clear hB hA
  go_enter Tryz.func11, Tryz.ntmps11
  go_wp2_with fail
  with_reducible refine (copy_any _ _ _ _ _ HB.out HA.out (by omega)).mono ?_
  rintro e w2 ⟨v, rfl, hO, hb2⟩
  have HO := Lib.hid hO
  clear hO
  have hlen : (l ++ [91, 92]).length = n + 2 := by rw [List.length_append, HB.out.1]; rfl
  have HLEN := Lib.hid hlen
  clear hlen
  go_wp2_with (first
    | ((with_reducible refine wpl_append (some 8) _ _ _ (.tmp 6) (.tmp 7) w.heap.size v l (some ⟨w2.heap.size, 0, none⟩) 2 2 [91, 92] ?hs ?hx (HO.out.alloc _) (bys_marks _ _) ?ha ?hm ?hz ?_); (case hs => rfl); (case hx => rfl); (case ha => (intro h; cases h)); (case hm => (rw [HB.out.1]; omega)); (case hz => exact Nat.le_trans hb2.size (by simp)); (intro v' w' ho hg hv); (obtain ⟨g, c, hv', hBx, hc1, hc2⟩ := ho.some_ (by rw [HLEN.out]; omega)); (rw [HLEN.out] at hv' hBx hc1); (rw [hv']); (have HBX := Lib.hid hBx); (clear hv' hBx ho hv)))
  go_ret
  exact ⟨g, c, rfl, hc1, hc2, HBX.out, (HO.out.alloc _).grows hg (hb2.alloc hb2.size _) (Nat.le_refl _) (Nat.le_trans hb2.size (by simp))⟩

theorem Bys.part {w : World} {a : Option Addr} {n m : Nat} {l t : List Nat} (h : Bys w a m (l ++ t)) (hl : l.length = n) : Bys w a n l := by
  have hm := h.1
  rw [List.length_append] at hm
  subst hl
  have := h.front l.length (by omega)
  rwa [List.take_left] at this

/-- The text of these bytes. -/
def str (l : List Nat) : ByteArray := strOfNums (l.map (fun (c : Nat) => (c : Int)))
theorem run_str {w : World} {a : Option Addr} {n : Nat} {l : List Nat} (h : Bys w a n l) (c : Nat) : (convert 22 9 (.slice a n c)).run Tryz.prog w = .ok (.string (str l)) w := by
  by_cases h0 : n = 0
  · subst h0
    have hl : l = [] := List.eq_nil_of_length_eq_zero h.1
    subst hl
    rcases a with _ | ad
    · exact run_convert_bytes_nil (P := Tryz.prog) w 22 5 Tryz.underlying22 Tryz.underlying5 0 c 9 Tryz.underlying9
    · rw [run_convert_bytes_string (P := Tryz.prog) w 22 9 5 (some ad) 0 c Tryz.underlying22 Tryz.underlying5 Tryz.underlying9]
      exact run_bytesToString (P := Tryz.prog) w ad 0 c [] (by simp [loadCells, loadCellsFrom])
  · obtain ⟨b, off, rfl, hc⟩ := h.2.2 (by omega)
    refine run_convert_bytes_arg (P := Tryz.prog) w 22 5 Tryz.underlying22 Tryz.underlying5 b off n c _ (by simp [h.1]) (fun i hi => ?_) 9 Tryz.underlying9
    rw [hc i hi]
    have : i < l.length := by rw [h.1]; exact hi
    simp [List.getD, this]

set_option maxHeartbeats 400000 in
theorem whole_any (g n c : Nat) (b : Option Addr) (cb : Nat) (l : List Nat) (w : World) (hX : Bys w (some ⟨g, 0, none⟩) (n + 2) (l ++ [91, 92])) (hB : Bys w b n l) (hc : n + 2 ≤ c) (hn : n ≤ 100000) :
    Calls Tryz.prog 16 #[.slice (some ⟨g, 0, none⟩) n c, .slice b n cb] w fun e w' => e = .returned (.bool true) ∧ Below w.heap.size w w' := by
  obtain ⟨g', off, e, hcell⟩ := hX.2.2 (by omega)
  injection e with e
  injection e with e1 e2 _
  subst e1 e2
  have c1 := hcell n (by omega)
  have c2 := hcell (n + 1) (by omega)
  have hl := hB.1
  have e1 : (l ++ [91, 92]).getD n 0 = 91 := by simp [List.getD, ← hl]
  have e2 : (l ++ [91, 92]).getD (n + 1) 0 = 92 := by simp [List.getD, ← hl]
  rw [e1, Nat.zero_add] at c1
  rw [e2, Nat.zero_add] at c2
  have HX := Lib.hid hX
  have HB := Lib.hid hB
  have r1 := run_str (hX.part hl) c
  have r2 := run_str hB cb
  generalize str l = S at *
  clear hX hB hcell hl e1 e2 HX HB
  go_enter Tryz.func16, Tryz.ntmps16
  go_wp2
  go_ret
  exact ⟨rfl, Below.refl _ _⟩

theorem Own.belowOwn {w w' : World} {B : Nat} {v : Value} {l : List Nat} (h : Own w B v l) (hb : Below w.heap.size w w') : Own w' B v l := by
  obtain ⟨⟨h0, h1⟩, h2⟩ := h
  refine ⟨⟨h0, ?_⟩, h2⟩
  rcases h1 with h1 | ⟨g, cap, cur, hv, hg0, hg, hr⟩
  · exact .inl h1
  · exact .inr ⟨g, cap, cur, hv, hg0, Lies.below hg hb (Lies.lt hg), hr⟩



end Go.Proofs.YtpbclmnhkmcknaaGreat.Fe

namespace Go.Proofs.YtpbclmnhkmcknaaGreat.Fe
open Go.RowKit
set_option maxRecDepth 100000


/-- 'copy' of as many bytes as a new row has. -/
theorem wpl_copy {ops : Array Oper} {rest : List Oper} {a : Act} {w : World} {Q : Exit → Act → World → Prop} (dst : Option Tmp) (ty : TypeId) (pos : String) (aft : Array Edge) (d s : Operand)
    (g n c : Nat) (A : Option Addr) (l : List Nat) (w0 : World) (B : Nat)
    (hd : a.eval d = .slice (some ⟨g, 0, none⟩) n n) (hs : a.eval s = .slice A n c) (hg : Lies w g 5 (zrow n)) (hB : Bys w A n l) (hb : Below B w0 w) (hBg : B ≤ g)
    (h : ∀ w', Lies w' g 5 (vals l).toArray → Below B w0 w' → wpList Tryz.prog ops Q rest (a.put dst (goInt n)) w') :
    wpList Tryz.prog ops Q (⟨dst, .call { callee := .builtin .copy, args := #[d, s], argTypes := #[22, 22] }, ty, pos, aft, none⟩ :: rest) a w := by
  have hl : (vals l).length = n := by simp [vals, hB.1]
  have hz : (zrow n).toList.length = n := by rw [zrow_eq]; simp
  refine wpList_copy_splice (o := ⟨dst, .call { callee := .builtin .copy, args := #[d, s], argTypes := #[22, 22] }, ty, pos, aft, none⟩) rfl d s 22 22 rfl 5 Tryz.underlying22 (by kernel_rfl) _ _ _ _ _ _ hd hs g 0 (zrow n).toList 5 (by rw [Array.toArray_toList]; exact hg) (vals l) (by simp [hl]) ?_ (by simp only [hl, hz]; omega) (fun u hu => by simp only [vals, List.mem_map] at hu; obtain ⟨_, _, rfl⟩ := hu; rfl) B w0 hb hBg ?_
  · intro h0
    obtain ⟨b, off, e, _⟩ := hB.2.2 (by omega)
    exact ⟨rfl, _, e, hB.cells _ e⟩
  · intro w' hh hb'
    rw [hl]
    refine h w' ?_ hb'
    have := hh.out
    unfold splice at this
    rw [List.take_zero, List.nil_append, hl, Nat.zero_add, List.drop_of_length_le (by omega), List.append_nil] at this
    exact this

theorem Own.made {w : World} {g B : Nat} {l : List Nat} (h : Lies w g 5 (vals l).toArray) (hB : B ≤ g) (hl : ∀ c ∈ l, c < 256) (hn : l.length ≤ maxLen) : Own w B (.slice (some ⟨g, 0, none⟩) l.length l.length) l :=
  ⟨⟨by simp [vals], .inr ⟨g, l.length, _, rfl, hB, h, Nat.le_refl _, hn, by simp [vals], by rw [Nat.mul_one, List.take_of_length_le (by simp [vals])]⟩⟩, hl⟩

/-- The new row that 'fresh' returns. -/
def FreshPost (w : World) (n : Nat) (l : List Nat) (e : Ending) (w' : World) : Prop :=
  e = .returned (.slice (some ⟨w.heap.size, 0, none⟩) n n) ∧ Own w' w.heap.size (.slice (some ⟨w.heap.size, 0, none⟩) n n) l ∧ Below w.heap.size w w'

set_option maxHeartbeats 400000 in
theorem fresh_any (a : Option Addr) (n cap : Nat) (l : List Nat) (w : World) (hB : Bys w a n l) (hn : n ≤ 1000000) :
    Calls Tryz.prog 82 #[.slice a n cap] w (FreshPost w n l) := by
  have HB := Lib.hid hB
  clear hB
  have hmk := run_zrow n hn
  go_enter Tryz.func82, Tryz.ntmps82
  go_wp2_with (first
    | ((with_reducible refine wpl_copy (some 9) _ _ _ (.tmp 7) (.tmp 8) w.heap.size n cap a l w w.heap.size ?hd ?hs (Lies.made _ _ _) (HB.out.alloc _) ((Below.refl _ _).alloc (Nat.le_refl _) _) (Nat.le_refl _) ?_); (case hd => rfl); (case hs => rfl); (intro w' hl hb)))
  go_ret
  have hlen := HB.out.1
  subst hlen
  exact ⟨rfl, Own.made hl (Nat.le_refl _) HB.out.2.1 (small_len _ hn), hb⟩

/-- A writer, at block p, that holds l. -/
def Wr (w : World) (p B : Nat) (l : List Nat) : Prop := B ≤ p ∧ ∃ v, Lies w p 162 #[v, .bool false] ∧ Own w B v l
/-- No block of bytes, no writer. -/
def Aside (o : Obj) : Prop := (∀ cs fr, o ≠ .cells cs 5 fr) ∧ ∀ cs fr, o ≠ .cells cs 162 fr
/-- All blocks but those of bytes and of writers are as they were. -/
def Keep (w w' : World) : Prop := ∀ (g : Nat) (o : Obj), Aside o → w.heap[g]? = some o → w'.heap[g]? = some o
theorem Keep.lies {w w' : World} (h : Keep w w') {g : Nat} {t : TypeId} {cs : Array Value} (h1 : t ≠ 5) (h2 : t ≠ 162) (h3 : Lies w g t cs) : Lies w' g t cs :=
  h g _ ⟨fun _ _ e => by injection e with _ e; exact h1 e, fun _ _ e => by injection e with _ e; exact h2 e⟩ h3
theorem Keep.iter {w w' : World} (h : Keep w w') {g : Nat} {s : ByteArray} {p : Nat} (h3 : w.heap[g]? = some (.stringIter s p)) : w'.heap[g]? = some (.stringIter s p) :=
  h g _ ⟨(fun _ _ e => by cases e), (fun _ _ e => by cases e)⟩ h3
theorem Keep.refl (w : World) : Keep w w := fun _ _ _ h => h
theorem Keep.trans {a b c : World} (h : Keep a b) (k : Keep b c) : Keep a c := fun g o h1 h3 => k g o h1 (h g o h1 h3)
theorem heap_lt {w : World} {g : Nat} {o : Obj} (h : w.heap[g]? = some o) : g < w.heap.size := (Array.getElem?_eq_some_iff.1 h).1
theorem Keep.alloc {a w : World} (h : Keep a w) (o : Obj) : Keep a (w.alloc o) := fun g x h1 h3 => (Below.heap_alloc w o g (heap_lt (h g x h1 h3))).trans (h g x h1 h3)
theorem Keep.drew {a w : World} (h : Keep a w) : Keep a w.drew := h
def WrPost (w : World) (p B : Nat) (l : List Nat) (e : Ending) (w' : World) : Prop := e = .returned (.pointer (some ⟨p, 0, none⟩)) ∧ Wr w' p B l ∧ Below B w w' ∧ Keep w w'

theorem Own.ne {w : World} {B p : Nat} {v : Value} {l : List Nat} {t : TypeId} {cs : Array Value} (h : Own w B v l) (hp : Lies w p t cs) (ht : t ≠ 5) : some p ≠ v.ownBlock := by
  rcases h.1.2 with ⟨rfl, _⟩ | ⟨g, cap, cur, rfl, _, hg, _⟩
  · simp [Value.ownBlock]
  · intro e
    have : p = g := by simpa [Value.ownBlock] using e
    subst this
    unfold Lies at hp
    rw [hg] at hp
    injection hp with hp
    injection hp with _ h2
    exact ht h2.symm
theorem Own.setOther {w : World} {B : Nat} {v : Value} {l : List Nat} (h : Own w B v l) {a : Addr} (ha : some a.block ≠ v.ownBlock) (u : Value) : Own (w.setCell a u) B v l := by
  obtain ⟨⟨h0, h1⟩, h2⟩ := h
  refine ⟨⟨h0, ?_⟩, h2⟩
  rcases h1 with h1 | ⟨g, cap, cur, hv, hb, hg, hr⟩
  · exact .inl h1
  · refine .inr ⟨g, cap, cur, hv, hb, Lies.other hg (fun e => ha (by rw [hv, ← e]; rfl)) u, hr⟩
theorem Lies.grown {w w' : World} {g : Nat} {t : TypeId} {cs : Array Value} {r : Option Nat} (h : Lies w g t cs) (hg : w.grownBy w' r) (hr : some g ≠ r) : Lies w' g t cs := (hg.block g h.lt hr).trans h

theorem Keep.grown {a w w' : World} {B : Nat} {v : Value} {l : List Nat} (h : Keep a w) (hO : Own w B v l) (hg : w.grownBy w' v.ownBlock) : Keep a w' := fun g o h1 h3 => by
  have hh := h g o h1 h3
  refine (hg.block g (heap_lt hh) ?_).trans hh
  rcases hO.1.2 with ⟨rfl, _⟩ | ⟨g', cap, cur, rfl, _, hgg, _⟩
  · simp [Value.ownBlock]
  · intro e
    have : g = g' := by simpa [Value.ownBlock] using e
    subst this
    rw [hgg] at hh
    injection hh with hh
    exact h1.1 _ _ hh.symm
theorem Keep.put {a w : World} {p : Nat} {cs : Array Value} (h : Keep a w) (hp : Lies w p 162 cs) (i : Nat) (v : Value) : Keep a (w.setCell ⟨p, i, none⟩ v) := fun g o h1 h3 => by
  have hh := h g o h1 h3
  refine (heap_setCell_other w ⟨p, i, none⟩ g v (fun e => ?_)).trans hh
  have e : g = p := e
  subst e
  unfold Lies at hp
  rw [hp] at hh
  injection hh with hh
  exact h1.2 _ _ hh.symm

theorem newWriter_any (w : World) : Calls Tryz.prog 43 #[] w (WrPost w w.heap.size w.heap.size []) := by
  go_enter Tryz.func43, Tryz.ntmps43
  go_wp2
  go_ret
  exact ⟨rfl, ⟨Nat.le_refl _, _, Lies.made w 162 _, Own.nil _ _⟩, (Below.refl _ _).alloc (Nat.le_refl _) _, (Keep.refl _).alloc _⟩

def NumR (w : World) (p B n k : Nat) (l : List Nat) (i : Value) (wr : World) : Prop := ∃ j : Nat, j ≤ k ∧ i = .int .i64 j ∧ Wr wr p B (l ++ (Ent.be k n).take j) ∧ Below B w wr ∧ Keep w wr

set_option maxHeartbeats 400000 in
theorem wnumber_any (p B n k : Nat) (l : List Nat) (w : World) (hW : Wr w p B l) (hk : k ≤ 8) (hl : l.length ≤ 200000) :
    Calls Tryz.prog 81 #[.pointer (some ⟨p, 0, none⟩), .int .u64 n, .int .i64 k] w (WrPost w p B (l ++ Ent.be k n)) := by
  obtain ⟨hBp, v0, hL0, hO0⟩ := hW
  have hc1 := hL0.cell 1
  have HL := Lib.hid hL0
  have HO := Lib.hid hO0
  clear hL0 hO0
  go_enter Tryz.func81, Tryz.ntmps81
  go_wp2_with fail
  go_loopw [18] (NumR w p B n k l) (fun i _ => k - (intOf i).toNat)
  case atStart => exact ⟨0, by omega, rfl, ⟨hBp, v0, HL.out, by simpa using HO.out⟩, Below.refl _ _, Keep.refl _⟩
  case round =>
    obtain ⟨j, hj, rfl, ⟨_, v, hL, hO⟩, hbel, hkp⟩ := hrel
    have HKP := Lib.hid hkp
    clear hkp
    by_cases hlt : j < k
    · have hc0 := hL.cell 0
      have hf0 := hL.free 0
      have e1 : IntKind.i64.wrap ((k : Int) - 1) = (k : Int) - 1 := IntWalk.i64_in _ (by omega)
      have e2 : IntKind.i64.wrap ((k : Int) - 1 - (j : Int)) = ((k - 1 - j : Nat) : Int) := by rw [IntWalk.i64_in _ (by omega)]; omega
      generalize hm : k - 1 - j = m at *
      have e3 : IntKind.i64.wrap (8 * (m : Int)) = 8 * (m : Int) := IntWalk.i64_in _ (by omega)
      have hy : n / 2 ^ (8 * m) % 256 < 256 := Nat.mod_lt _ (by decide)
      have e4 : IntKind.u8.wrap ((n : Int) / 2 ^ (8 * (m : Int)).toNat) = ((n / 2 ^ (8 * m) % 256 : Nat) : Int) := by
        rw [show (8 * (m : Int)).toNat = 8 * m from by omega, IntKind.wrap_u8, Int.natCast_emod, Int.natCast_ediv, Int.natCast_pow]; rfl
      have hbe : (Ent.be k n).take (j + 1) = (Ent.be k n).take j ++ [n / 2 ^ (8 * m) % 256] := by
        rw [take_one _ _ (by rw [Ent.be_len]; exact hlt)]
        simp [Ent.be, List.getD, hlt, hm]
      have hll : (l ++ (Ent.be k n).take j).length + 1 ≤ 1000000 := by simp [Ent.be_len]; omega
      generalize n / 2 ^ (8 * m) % 256 = y at *
      have hm8 : (m : Int) ≤ 7 := by omega
      have hc0a := (hL.alloc (.cells #[.int .u8 (y : Nat)] 5)).cell 0
      have HBE := Lib.hid hbe
      have HM := Lib.hid hm
      have HL1 := Lib.hid hL
      have HO1 := Lib.hid hO
      clear hbe hm hL hO HL HO
      generalize hlj : l ++ (Ent.be k n).take j = lj at *
      have HLJ := Lib.hid hlj
      clear hlj
      go_wp2_with fail
      go_region_law ((refine stp_append (some 35) _ _ _ (.tmp 25) (.tmp 34) B _ _ (some ⟨wr.heap.size, 0, none⟩) 1 1 [y] (by rfl) (by rfl) (HO1.out.alloc _).drew (Bys.const wr _ [y] (0, 0) 1 (by rfl) (by rfl) (by simp; omega)).drew (by omega) hll (Nat.le_trans hBp (Nat.le_trans (Nat.le_of_lt HL1.out.lt) (by simp))) ?_; intro g cap w1 hown1 hgrow; have hL1 := Lies.grown (w := (wr.alloc _).drew) (HL1.out.alloc _) hgrow (HO1.out.ne HL1.out (by decide)); have hd0 := hL1.cell 0; have hd1 := hL1.free 0))
      all_goals
        go_wp2
        have hb1 := (HO1.out.alloc _).drew.grows hgrow ((hbel.alloc (Nat.le_trans hBp (Nat.le_of_lt HL1.out.lt)) _).drew) (Nat.le_refl _) (Nat.le_trans hBp (Nat.le_trans (Nat.le_of_lt HL1.out.lt) (by simp)))
        have hk1 := ((HKP.out.alloc (.cells #[.int .u8 (y : Nat)] 5)).drew).grown (HO1.out.alloc _).drew hgrow
        go_roundw
        case rel => exact ⟨j + 1, by omega, by go_num, ⟨hBp, _, hL1.put 0 _, by rw [HBE.out, ← List.append_assoc, HLJ.out]; exact hown1.setOther (a := ⟨p, 0, none⟩) (hown1.ne hL1 (by decide)) _⟩, hb1.setCell hBp _, hk1.put hL1 0 _⟩
        case measure => simp [intOf]; omega
    · have hjk : j = k := by omega
      subst hjk
      rw [List.take_of_length_le (by rw [Ent.be_len]; exact Nat.le_refl _)] at hO
      have HL1 := Lib.hid hL
      have HO1 := Lib.hid hO
      clear hL hO
      go_wp2
      go_ret
      exact ⟨rfl, ⟨hBp, v, HL1.out, HO1.out⟩, hbel, HKP.out⟩


end Go.Proofs.YtpbclmnhkmcknaaGreat.Fe

namespace Go.Proofs.YtpbclmnhkmcknaaGreat.Fe
open Go.RowKit
set_option maxRecDepth 100000

theorem Own.mono {w : World} {B B' : Nat} {v : Value} {l : List Nat} (h : Own w B v l) (hb : B' ≤ B) : Own w B' v l := by
  obtain ⟨⟨h0, h1⟩, h2⟩ := h
  refine ⟨⟨h0, ?_⟩, h2⟩
  rcases h1 with h1 | ⟨g, cap, cur, hv, hg, hr⟩
  · exact .inl h1
  · exact .inr ⟨g, cap, cur, hv, Nat.le_trans hb hg, hr⟩
theorem Wr.below {w w' : World} {p B : Nat} {l : List Nat} (h : Wr w p B l) (hb : Below w.heap.size w w') : Wr w' p B l := by
  obtain ⟨h1, v, h2, h3⟩ := h
  exact ⟨h1, v, h2.below hb h2.lt, h3.belowOwn hb⟩

set_option maxHeartbeats 400000 in
theorem wu32_any (p B n : Nat) (l : List Nat) (w : World) (hW : Wr w p B l) (hn : n < 4294967296) (hl : l.length ≤ 200000) :
    Calls Tryz.prog 45 #[.pointer (some ⟨p, 0, none⟩), .int .u32 n] w (WrPost w p B (l ++ Ent.be 4 n)) := by
  have HW := Lib.hid hW
  clear hW
  have c2 := wnumber_any p B n 4 l w HW.out (by omega) hl
  rw [show ((4 : Nat) : Int) = 4 from rfl] at c2
  have C2 := Lib.hid c2
  clear c2
  go_enter Tryz.func45, Tryz.ntmps45
  go_wp2_with fail
  with_reducible refine C2.out.mono ?_
  rintro e w2 ⟨rfl, hW2, hb2⟩
  go_wp2
  go_ret
  exact ⟨rfl, hW2, hb2⟩

def DonePost (w : World) (l : List Nat) (e : Ending) (w' : World) : Prop :=
  ∃ v, e = .returned (.tuple #[v, .int .i64 0]) ∧ Own w' w.heap.size v l ∧ Below w.heap.size w w'

set_option maxHeartbeats 400000 in
theorem wdone_any (p B : Nat) (l : List Nat) (w : World) (hW : Wr w p B l) (hl : l.length ≤ 200000) :
    Calls Tryz.prog 47 #[.pointer (some ⟨p, 0, none⟩)] w (DonePost w l) := by
  obtain ⟨_, v, hL, hO⟩ := hW
  obtain ⟨A, c, rfl, hB, _, _, _⟩ := hO.slice
  have hc0 := hL.cell 0
  have hc1 := hL.cell 1
  have HB := Lib.hid hB
  clear hL hO hB
  go_enter Tryz.func47, Tryz.ntmps47
  go_wp2_with fail
  with_reducible refine (fresh_any _ _ _ _ _ HB.out (by omega)).mono ?_
  rintro e w2 ⟨rfl, hO2, hb2⟩
  have HO2 := Lib.hid hO2
  clear hO2
  go_wp2
  go_ret2
  exact ⟨_, rfl, HO2.out, hb2⟩


end Go.Proofs.YtpbclmnhkmcknaaGreat.Fe

namespace Go.Proofs.YtpbclmnhkmcknaaGreat.Fe
open Go.RowKit
set_option maxRecDepth 100000


/-- A slice value that reads as l. -/
def Reads (w : World) (u : Value) (l : List Nat) : Prop := ∃ A c, u = .slice A l.length c ∧ Bys w A l.length l ∧ l.length ≤ c ∧ c ≤ maxLen ∧ (A = none → c = 0)
theorem Own.reads {w : World} {B : Nat} {u : Value} {l : List Nat} (h : Own w B u l) : Reads w u l := h.slice
theorem Reads.below {w w' : World} {u : Value} {l : List Nat} (h : Reads w u l) (hb : Below w.heap.size w w') : Reads w' u l := by
  obtain ⟨A, c, h1, h2, h3⟩ := h
  exact ⟨A, c, h1, h2.below hb, h3⟩
theorem Reads.one {w : World} {u : Value} {l : List Nat} (h : Reads w u l) : u.oneCell' = true := by
  obtain ⟨A, c, rfl, _⟩ := h; rfl

/-- A slice of n cells that are these values. -/
def Cells (w : World) (a : Option Addr) (n : Nat) (vs : List Value) : Prop :=
  vs.length = n ∧ (0 < n → ∃ b off, a = some ⟨b, off, none⟩ ∧ ∀ i, i < n → w.cell? ⟨b, off + i, none⟩ = vs[i]?)
theorem Cells.below {w w' : World} {a : Option Addr} {n : Nat} {vs : List Value} (h : Cells w a n vs) (hb : Below w.heap.size w w') : Cells w' a n vs := by
  obtain ⟨h1, h2⟩ := h
  refine ⟨h1, fun h0 => ?_⟩
  obtain ⟨b, off, e, hc⟩ := h2 h0
  refine ⟨b, off, e, fun i hi => ?_⟩
  have := hc i hi
  rw [List.getElem?_eq_getElem (by omega)] at this ⊢
  rw [hb.cell (block_lt_of_cell this)]
  exact this

/-- The values read as these lists. -/
def AllRead (w : World) (vs : List Value) (ls : List (List Nat)) : Prop := vs.length = ls.length ∧ ∀ i (h1 : i < vs.length) (h2 : i < ls.length), Reads w vs[i] ls[i]
theorem AllRead.below {w w' : World} {vs : List Value} {ls : List (List Nat)} (h : AllRead w vs ls) (hb : Below w.heap.size w w') : AllRead w' vs ls := ⟨h.1, fun i h1 h2 => (h.2 i h1 h2).below hb⟩
theorem AllRead.nil (w : World) : AllRead w [] [] := ⟨rfl, fun i h1 => by simp at h1⟩
theorem AllRead.append {w : World} {vs us : List Value} {ls ms : List (List Nat)} (h : AllRead w vs ls) (k : AllRead w us ms) : AllRead w (vs ++ us) (ls ++ ms) := by
  refine ⟨by rw [List.length_append, List.length_append, h.1, k.1], fun i h1 h2 => ?_⟩
  by_cases hi : i < vs.length
  · rw [List.getElem_append_left hi, List.getElem_append_left (by rw [← h.1]; exact hi)]
    exact h.2 i hi _
  · rw [List.getElem_append_right (by omega), List.getElem_append_right (by rw [← h.1]; omega)]
    have hl := h.1
    have e : i - vs.length = i - ls.length := by omega
    simp only [e]
    exact k.2 _ _ _
theorem AllRead.one {w : World} {u : Value} {l : List Nat} (h : Reads w u l) : AllRead w [u] [l] := ⟨rfl, fun i h1 _ => by
  have : i = 0 := by simpa using h1
  subst this
  exact h⟩
theorem AllRead.cell {w : World} {vs : List Value} {ls : List (List Nat)} (h : AllRead w vs ls) : ∀ u ∈ vs, u.oneCell' = true := by
  intro u hu
  obtain ⟨i, hi, rfl⟩ := List.mem_iff_getElem.1 hu
  exact (h.2 i hi (by rw [← h.1]; exact hi)).one
theorem AllRead.take {w : World} {vs : List Value} {ls : List (List Nat)} (h : AllRead w vs ls) (k : Nat) : AllRead w (vs.take k) (ls.take k) :=
  ⟨by rw [List.length_take, List.length_take, h.1], fun i h1 h2 => by
    rw [List.getElem_take, List.getElem_take]
    exact h.2 i _ _⟩

/-- Each value is a row of bytes of its own. -/
def OwnAll (w : World) (B : Nat) (vs : List Value) (ls : List (List Nat)) : Prop :=
  vs.length = ls.length ∧ (∀ i (h1 : i < vs.length) (h2 : i < ls.length), Own w B vs[i] ls[i]) ∧
  ∀ i j (h1 : i < vs.length) (h2 : j < vs.length), i < j → ∀ g, vs[i].ownBlock = some g → vs[j].ownBlock ≠ some g
theorem OwnAll.nil (w : World) (B : Nat) : OwnAll w B [] [] := ⟨rfl, fun i h1 => by simp at h1, fun i j h1 => by simp at h1⟩
theorem OwnAll.reads {w : World} {B : Nat} {vs : List Value} {ls : List (List Nat)} (h : OwnAll w B vs ls) : AllRead w vs ls := ⟨h.1, fun i h1 h2 => (h.2.1 i h1 h2).reads⟩
theorem OwnAll.map {w w' : World} {B : Nat} {vs : List Value} {ls : List (List Nat)} (h : OwnAll w B vs ls) (f : ∀ u l, Own w B u l → Own w' B u l) : OwnAll w' B vs ls := ⟨h.1, fun i h1 h2 => f _ _ (h.2.1 i h1 h2), h.2.2⟩
theorem OwnAll.snoc {w : World} {B : Nat} {vs : List Value} {ls : List (List Nat)} {u : Value} {l : List Nat} (h : OwnAll w B vs ls) (hu : Own w B u l) (hne : ∀ v ∈ vs, ∀ g, v.ownBlock = some g → u.ownBlock ≠ some g) : OwnAll w B (vs ++ [u]) (ls ++ [l]) := by
  have hl := h.1
  refine ⟨by simp [hl], fun i h1 h2 => ?_, fun i j h1 h2 hij g hg => ?_⟩
  · by_cases hi : i < vs.length
    · rw [List.getElem_append_left hi, List.getElem_append_left (by omega)]
      exact h.2.1 i hi _
    · have : i = vs.length := by simp at h1; omega
      subst this
      simp [hl]
      exact hu
  · have hi : i < vs.length := by simp at h2; omega
    rw [List.getElem_append_left hi] at hg
    by_cases hj : j < vs.length
    · rw [List.getElem_append_left hj]
      exact h.2.2 i j hi hj hij g hg
    · have : j = vs.length := by simp at h2; omega
      subst this
      simp
      exact hne _ (List.getElem_mem hi) g hg
theorem Own.lt {w : World} {B : Nat} {u : Value} {l : List Nat} (h : Own w B u l) : ∀ g, u.ownBlock = some g → g < w.heap.size := by
  intro g hg
  rcases h.1.2 with ⟨rfl, _⟩ | ⟨g', cap, cur, rfl, _, hh, _⟩
  · cases hg
  · have : g' = g := by simpa [Value.ownBlock] using hg
    subst this
    exact Lies.lt hh
/-- A row that was made later than all of these. -/
theorem OwnAll.fresh {w0 w : World} {B : Nat} {vs : List Value} {ls : List (List Nat)} {u : Value} {l : List Nat} (h : OwnAll w0 B vs ls) (hu : Own w w0.heap.size u l) : ∀ v ∈ vs, ∀ g, v.ownBlock = some g → u.ownBlock ≠ some g := by
  intro v hv g hg hug
  obtain ⟨i, hi, rfl⟩ := List.mem_iff_getElem.1 hv
  have h1 := (h.2.1 i hi (by rw [← h.1]; exact hi)).lt g hg
  have h2 := hu.block g hug
  omega

end Go.Proofs.YtpbclmnhkmcknaaGreat.Fe

namespace Go.Proofs.YtpbclmnhkmcknaaGreat.Fe
open Go.RowKit


theorem str_toList (a : List Nat) : (str a).toList = a.map UInt8.ofNat := by
  rw [ByteArray.toList_eq]
  simp [str, strOfNums]

theorem str_inj (a b : List Nat) (ha : ∀ c ∈ a, c < 256) (hb : ∀ c ∈ b, c < 256) (h : (str a).toList = (str b).toList) : a = b := by
  rw [str_toList, str_toList] at h
  have e : ∀ (l : List Nat), (∀ c ∈ l, c < 256) → (l.map UInt8.ofNat).map UInt8.toNat = l := by
    intro l hl
    rw [List.map_map]
    conv => rhs; rw [← List.map_id l]
    apply List.map_congr_left
    intro c hc
    simp
    exact hl c hc
  rw [← e a ha, ← e b hb, h]

/-- The same bytes? -/
def sameB (a b : List Nat) : Bool := decide (a = b)
theorem sameB_self (a : List Nat) : sameB a a = true := by simp [sameB]
theorem sameB_ne {a b : List Nat} (h : a ≠ b) : sameB a b = false := by simp [sameB, h]
theorem str_eq (a b : List Nat) (ha : ∀ c ∈ a, c < 256) (hb : ∀ c ∈ b, c < 256) : ((str a).toList == (str b).toList) = sameB a b := by
  by_cases h : a = b
  · subst h; rw [sameB_self]; simp
  · rw [sameB_ne h, beq_eq_false_iff_ne]
    exact fun hh => h (str_inj a b ha hb hh)

set_option maxHeartbeats 400000 in
theorem same_any (a b : Option Addr) (n m c d : Nat) (la lb : List Nat) (w : World) (hA : Bys w a n la) (hB : Bys w b m lb) :
    Calls Tryz.prog 18 #[.slice a n c, .slice b m d] w fun e w' => e = .returned (.bool (sameB la lb)) ∧ w = w' := by
  have r1 := run_str hA c
  have r2 := run_str hB d
  have r3 := str_eq la lb hA.2.1 hB.2.1
  clear hA hB
  go_enter Tryz.func18, Tryz.ntmps18
  go_wp2
  go_ret
  exact ⟨rfl, rfl⟩


end Go.Proofs.YtpbclmnhkmcknaaGreat.Fe

namespace Go.Proofs.YtpbclmnhkmcknaaGreat.Fe
open Go.RowKit


/-- A slice of integers that came in: nil, or a row of 'cap' cells. -/
def IsRow (k : IntKind) (w : World) (a : Option Addr) (len cap : Nat) (zs : List Int) : Prop :=
  (a = none ∧ len = 0 ∧ cap = 0 ∧ zs = []) ∨
  ∃ x, a = some x ∧ len ≤ cap ∧ cap ≤ maxLen ∧ zs.length = cap ∧ (∀ i, i < zs.length → w.cell? (x.add i) = some (.int k (zs.getD i 0))) ∧ ∀ n ∈ zs, (Lit.int k n).wf = true

theorem IsRow.bys {w : World} {a : Option Addr} {len cap : Nat} {zs : List Int} (h : IsRow .u8 w a len cap zs) :
    ∃ l, Bys w a len l ∧ len ≤ cap ∧ cap ≤ maxLen ∧ (a = none → cap = 0) := by
  rcases h with ⟨rfl, rfl, rfl, rfl⟩ | ⟨x, rfl, hl, hm, hz, hcell, hwz⟩
  · exact ⟨[], Bys.none_ w, Nat.le_refl _, by unfold maxLen; omega, fun _ => rfl⟩
  · refine ⟨(zs.take len).map Int.toNat, ⟨by simp; omega, ?_, fun h0 => ?_⟩, hl, hm, fun h => by cases h⟩
    · intro c hc
      obtain ⟨z, hz1, rfl⟩ := List.mem_map.1 hc
      have := bounds_u8 (hwz z (List.mem_of_mem_take hz1))
      omega
    · obtain ⟨b, off, spot⟩ := x
      have hc0 := hcell 0 (by omega)
      have hspot : spot = none := by simpa [Addr.add] using World.cell?_spot hc0
      subst hspot
      refine ⟨b, off, rfl, fun i hi => ?_⟩
      have h1 := hcell i (by omega)
      rw [add_off] at h1
      rw [h1]
      have hlt : i < zs.length := by omega
      have hb := bounds_u8 (hwz zs[i] (List.getElem_mem hlt))
      have e : (((zs.take len).map Int.toNat).getD i 0 : Nat) = zs[i].toNat := by simp [List.getD, hi, hlt]
      have e2 : zs.getD i 0 = zs[i] := by simp [List.getD, hlt]
      rw [e, e2, Int.toNat_of_nonneg hb.1]


end Go.Proofs.YtpbclmnhkmcknaaGreat.Fe

namespace Go.Proofs.YtpbclmnhkmcknaaGreat.Fe
open Go.RowKit
set_option maxRecDepth 100000


theorem grown_set {a w : World} {g : Nat} (h : a.grownBy w (some g)) (o : Nat) (u : Value) : a.grownBy (w.setCell ⟨g, o, none⟩ u) (some g) :=
  ⟨h.os, h.tape, h.output, by simpa [World.setCell] using h.size, fun i hi hne => (Below.heap_setCell w ⟨g, o, none⟩ u i (by rintro rfl; exact hne rfl)).trans (h.block i hi hne)⟩

/-- What is lent: the bytes, and two of room behind them, in a block of its own. -/
def LentOwn (w : World) (n : Nat) (l : List Nat) (e : Ending) (w' : World) : Prop :=
  ∃ g c, e = .returned (.slice (some ⟨g, 0, none⟩) n c) ∧ n + 2 ≤ c ∧ c ≤ maxLen ∧ w.heap.size ≤ g ∧ Own w' w.heap.size (.slice (some ⟨g, 0, none⟩) (n + 2) c) (l ++ [91, 92]) ∧ Below w.heap.size w w'

set_option maxHeartbeats 400000 in
theorem lent_own (a : Option Addr) (n cap : Nat) (l : List Nat) (w : World) (hB : Bys w a n l) (hA : a = none → cap = 0) (hn : n ≤ 100000) :
    Calls Tryz.prog 11 #[.slice a n cap] w (LentOwn w n l) := by
  have HB := Lib.hid hB
  have HA := Lib.hid hA
  clear hB hA
  go_enter Tryz.func11, Tryz.ntmps11
  go_wp2_with fail
  with_reducible refine (copy_any _ _ _ _ _ HB.out HA.out (by omega)).mono ?_
  rintro e w2 ⟨v, rfl, hO, hb2⟩
  have HO := Lib.hid hO
  clear hO
  have hlen : (l ++ [91, 92]).length = n + 2 := by rw [List.length_append, HB.out.1]; rfl
  have HLEN := Lib.hid hlen
  clear hlen
  go_wp2_with (first
    | ((with_reducible refine wpl_append (some 8) _ _ _ (.tmp 6) (.tmp 7) w.heap.size v l (some ⟨w2.heap.size, 0, none⟩) 2 2 [91, 92] ?hs ?hx (HO.out.alloc _) (bys_marks _ _) ?ha ?hm ?hz ?_); (case hs => rfl); (case hx => rfl); (case ha => (intro h; cases h)); (case hm => (rw [HB.out.1]; omega)); (case hz => exact Nat.le_trans hb2.size (by simp)); (intro v' w' ho hg hv); (obtain ⟨g, c, hv', hBx, hc1, hc2⟩ := ho.some_ (by rw [HLEN.out]; omega)); (rw [HLEN.out] at hv' hc1); (subst hv'); (have HOX := Lib.hid ho); (clear hBx ho hv)))
  go_ret
  exact ⟨g, c, rfl, hc1, hc2, HOX.out.block g rfl, HOX.out, (HO.out.alloc _).grows hg (hb2.alloc hb2.size _) (Nat.le_refl _) (Nat.le_trans hb2.size (by simp))⟩

def SpR (w : World) (g n : Nat) (i : Value) (wr : World) : Prop :=
  ∃ (k : Nat) (cur : Array Value), k ≤ n ∧ i = .int .i64 k ∧ Lies wr g 5 cur ∧ (∀ j, j < n → ∃ z : Int, cur[j]? = some (.int .u8 z)) ∧ w.grownBy wr (some g)

set_option maxHeartbeats 400000 in
theorem spoil_any (g n c : Nat) (l : List Nat) (B : Nat) (m : Nat) (w : World) (hO : Own w B (.slice (some ⟨g, 0, none⟩) m c) l) (hn : n ≤ m) (hm : m ≤ 100000) :
    Calls Tryz.prog 17 #[.slice (some ⟨g, 0, none⟩) n c] w fun e w' => e = .returned (.tuple #[]) ∧ w.grownBy w' (some g) := by
  rcases hO.form with ⟨h, _⟩ | ⟨g', cap, cur, hv, hgB, hL, h1, h2, h3, hcur⟩
  · cases h
  injection hv with e1 e2 e3
  injection e1 with e1
  injection e1 with e1 _ _
  subst e1 e3
  have hst : ∀ j, j < n → ∃ z : Int, cur[j]? = some (.int .u8 z) := fun j hj => ⟨_, hcur j (by omega)⟩
  have HL := Lib.hid hL
  have HST := Lib.hid hst
  clear hL hcur hst h3 hO
  go_enter Tryz.func17, Tryz.ntmps17
  go_wp2_with fail
  go_loopw [2] (SpR w g n) (fun i _ => n - (intOf i).toNat)
  case atStart => exact ⟨0, cur, by omega, rfl, HL.out, HST.out, World.grownBy.refl w _⟩
  case round =>
    clear HST HL
    obtain ⟨k, cu, hk, rfl, hL, hst, hgr⟩ := hrel
    by_cases hlt : k < n
    · obtain ⟨z, hz⟩ := hst k hlt
      have hck := (hL.cell k).trans hz
      have hfk := hL.free k
      have HST := Lib.hid hst
      have HL := Lib.hid hL
      clear hst hL hz
      go_wp2
      refine ⟨⟨k + 1, _, by omega, by go_num, HL.out.put k _, fun j hj => ?_, grown_set hgr k _⟩, by simp [intOf]; omega⟩
      rw [Array.getElem?_setIfInBounds]
      obtain ⟨z', hz'⟩ := HST.out j hj
      by_cases hjk : k = j
      · subst hjk
        have hlt2 : k < cu.size := (Array.getElem?_eq_some_iff.1 hz').1
        rw [if_pos rfl, if_pos hlt2]
        exact ⟨_, rfl⟩
      · rw [if_neg hjk]; exact ⟨z', hz'⟩
    · have hkn : k = n := by omega
      subst hkn
      go_wp2
      go_end0
      exact ⟨rfl, hgr⟩


end Go.Proofs.YtpbclmnhkmcknaaGreat.Fe
