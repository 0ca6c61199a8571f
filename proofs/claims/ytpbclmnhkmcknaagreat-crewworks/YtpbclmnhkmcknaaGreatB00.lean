/-
  Texts of one proof, in their order: FeNMath, FeKMath, StBase, StSMath, PuBase, PuSMath, DoBase, DoSMath, CMath.
-/
import Derived.Test.YtpbclmnhkmcknaaGreatRows
import Derived.WalkKit
import Derived.WalkSpells
import Derived.WalkLawsBesides
import Derived.Laws.BitsAllLaws
import Derived.Lib.Hide
import Derived.Deep.MidRow
import Derived.Outline
import Derived.Deep.QuietTactic
import Derived.BigQuiet
import Derived.Laws.AppendOwnNone
import Derived.Laws.OwnMore
import Derived.Deep.RegionHeld3
import Derived.Deep.AppendLies
import Derived.Laws.MakeOwn
import Derived.Laws.CopyOwn
import Derived.Deep.RegionLaw
import Derived.Deep.DrawnRows
import Derived.IntWalk
import Derived.ProofKit
import Derived.OpenShut
import Derived.Maps.AppendAt
import Derived.Maps.OwnSet
import Derived.Maps.RangeWalk
import Derived.Sort.EncStr
namespace Go.Proofs.YtpbclmnhkmcknaaGreat.Fe
namespace Ent

/-- k bytes of a number, the highest first. -/
def be (k n : Nat) : List Nat := (List.range k).map fun i => n / 2 ^ (8 * (k - 1 - i)) % 256
theorem be_len (k n : Nat) : (be k n).length = k := by simp [be]
theorem be_small (k n : Nat) : ∀ c ∈ be k n, c < 256 := by
  intro c hc
  simp only [be, List.mem_map] at hc
  obtain ⟨i, _, rfl⟩ := hc
  exact Nat.mod_lt _ (by decide)
theorem be_one (n : Nat) (h : n < 256) : be 1 n = [n] := by simp [be, Nat.mod_eq_of_lt h]
theorem be_succ (k n : Nat) : be (k + 1) n = be k (n / 256) ++ [n % 256] := by
  unfold be
  rw [List.range_succ, List.map_append]
  congr 1
  · apply List.map_congr_left
    intro i hi
    have hi : i < k := by simpa using hi
    rw [Nat.div_div_eq_div_mul]
    congr 2
    rw [show (256 : Nat) = 2 ^ 8 from rfl, ← Nat.pow_add]
    congr 1; omega
  · simp

/-- The number that bytes are, the highest first. -/
def val (l : List Nat) : Nat := l.foldl (fun a c => a * 256 + c) 0
theorem val_snoc (l : List Nat) (c : Nat) : val (l ++ [c]) = val l * 256 + c := by simp [val]
theorem val_be (k n : Nat) (h : n < 256 ^ k) : val (be k n) = n := by
  induction k generalizing n with
  | zero => simp at h; subst h; rfl
  | succ k ih =>
    rw [be_succ, val_snoc, ih (n / 256) (by rw [Nat.pow_succ] at h; omega)]
    omega
theorem val_lt (l : List Nat) (h : ∀ c ∈ l, c < 256) : val l < 256 ^ l.length := by
  have : ∀ (l : List Nat), (∀ c ∈ l, c < 256) → ∀ a m, a < 256 ^ m → l.foldl (fun a c => a * 256 + c) a < 256 ^ (m + l.length) := by
    intro l
    induction l with
    | nil => intro _ a m ha; simpa using ha
    | cons c r ih =>
      intro hl a m ha
      rw [List.foldl_cons]
      have := ih (fun x hx => hl x (by simp [hx])) (a * 256 + c) (m + 1) (by
        have := hl c (by simp)
        rw [Nat.pow_succ]; omega)
      rw [List.length_cons]
      rwa [show m + (r.length + 1) = m + 1 + r.length by omega]
  have := this l h 0 0 (by simp)
  rwa [Nat.zero_add] at this

def b2n (b : Bool) : Nat := if b then 1 else 0
def txt (t : List Nat) : List Nat := be 1 t.length ++ t


end Ent

/-- A note: what its eleven fields hold. -/
structure Note where
  kind : Int
  epoch : Nat
  old : Nat
  lsn : Nat
  tick : Nat
  order : Nat
  step : Int
  undo : Bool
  code : Int
  key : List Nat
  data : List Nat

namespace Ent
/-- The fields' types hold no more. -/
structure Bnd (n : Note) : Prop where
  epoch : n.epoch < 4294967296
  old : n.old < 4294967296
  lsn : n.lsn < 18446744073709551616
  tick : n.tick < 18446744073709551616
  order : n.order < 4294967296
  key : ∀ c ∈ n.key, c < 256
  data : ∀ c ∈ n.data, c < 256

/-- All letters. -/
def alpha : List Nat := [69, 80, 76, 84, 79, 83, 85, 67, 75, 68]
/-- The letters of a kind. -/
def lets (k : Int) : List Nat :=
  if k = 1 then [69, 80, 76, 68] else if k = 2 ∨ k = 3 then [69, 76] else if k = 4 ∨ k = 6 then [69, 67] else if k = 5 then [69, 84, 67]
  else if k = 7 then [69, 79, 83, 85, 68] else if k = 8 then [69, 79, 83, 85, 67, 68] else if k = 9 then [69, 79, 83, 85]
  else if k = 10 then [75, 68] else if k = 11 ∨ k = 12 then [75] else if k = 13 then [79, 67, 75, 68] else []
theorem kinds (k : Int) (h1 : 1 ≤ k) (h2 : k ≤ 13) : k = 1 ∨ k = 2 ∨ k = 3 ∨ k = 4 ∨ k = 5 ∨ k = 6 ∨ k = 7 ∨ k = 8 ∨ k = 9 ∨ k = 10 ∨ k = 11 ∨ k = 12 ∨ k = 13 := by omega
theorem lets_none (k : Int) (h : k < 1 ∨ 13 < k) : lets k = [] := by
  unfold lets
  rw [if_neg (by omega), if_neg (by omega), if_neg (by omega), if_neg (by omega), if_neg (by omega), if_neg (by omega), if_neg (by omega), if_neg (by omega), if_neg (by omega), if_neg (by omega)]
theorem lets_all (P : List Nat → Prop) (h0 : P []) (h1 : P [69, 80, 76, 68]) (h2 : P [69, 76]) (h4 : P [69, 67]) (h5 : P [69, 84, 67]) (h7 : P [69, 79, 83, 85, 68]) (h8 : P [69, 79, 83, 85, 67, 68]) (h9 : P [69, 79, 83, 85]) (h10 : P [75, 68]) (h11 : P [75]) (h13 : P [79, 67, 75, 68]) (k : Int) : P (lets k) := by
  unfold lets
  repeat' split
  all_goals assumption
theorem lets_sub (k : Int) : ∀ c ∈ lets k, c ∈ alpha := lets_all (fun l => ∀ c ∈ l, c ∈ alpha) (by decide) (by decide) (by decide) (by decide) (by decide) (by decide) (by decide) (by decide) (by decide) (by decide) (by decide) k
theorem alpha_small : ∀ c ∈ alpha, c < 128 := by decide
theorem alpha_cases {c : Nat} (h : c ∈ alpha) : c = 69 ∨ c = 80 ∨ c = 76 ∨ c = 84 ∨ c = 79 ∨ c = 83 ∨ c = 85 ∨ c = 67 ∨ c = 75 ∨ c = 68 := by simpa [alpha] using h

/-- The part of a letter is zero. -/
def isZ (c : Nat) (n : Note) : Bool :=
  if c = 69 then decide (n.epoch = 0) else if c = 80 then decide (n.old = 0) else if c = 76 then decide (n.lsn = 0) else if c = 84 then decide (n.tick = 0) else if c = 79 then decide (n.order = 0)
  else if c = 83 then decide (n.step = 0) else if c = 85 then !n.undo else if c = 67 then decide (n.code = 0) else if c = 75 then decide (n.key.length = 0) else if c = 68 then decide (n.data.length = 0) else false
/-- A letter that is not named is zero. -/
def fine (s : List Nat) (n : Note) (c : Nat) : Bool := s.contains c || isZ c n
def only (s : List Nat) (n : Note) : Bool := alpha.all (fine s n)
def inB (n : Note) : Bool := decide (0 ≤ n.step ∧ n.step < 16 ∧ 0 ≤ n.code ∧ n.code ≤ 255 ∧ n.key.length ≤ 32 ∧ n.data.length ≤ 255)
def lackK (n : Note) : Bool := decide ((n.kind = 10 ∨ n.kind = 11 ∨ n.kind = 12) ∧ n.key.length = 0)
/-- It may be. -/
def ok (n : Note) : Bool := !decide (lets n.kind = []) && (only (lets n.kind) n && (inB n && !lackK n))

/-- The bytes of a letter's part. -/
def encL (n : Note) (c : Nat) : List Nat :=
  if c = 69 then be 4 n.epoch else if c = 80 then be 4 n.old else if c = 76 then be 8 n.lsn else if c = 84 then be 8 n.tick else if c = 79 then be 4 n.order
  else if c = 83 then be 1 n.step.toNat else if c = 85 then be 1 (b2n n.undo) else if c = 67 then be 1 n.code.toNat else if c = 75 then txt n.key else if c = 68 then txt n.data else []
/-- Its bytes. -/
def enc (n : Note) : List Nat := be 1 n.kind.toNat ++ (lets n.kind).flatMap (encL n)

/-- A reader's place, and whether it is short. -/
abbrev St := Nat × Bool
def rnum (l : List Nat) (k : Nat) (s : St) : Nat × St := if s.2 = true ∨ l.length - s.1 < k then (0, (s.1, true)) else (val ((l.drop s.1).take k), (s.1 + k, false))
def rtxt (l : List Nat) (s : St) : List Nat × St :=
  if s.2 = true ∨ l.length - s.1 < 1 ∨ l.length - s.1 < 1 + l.getD s.1 0 then ([], (s.1, true)) else ((l.drop (s.1 + 1)).take (l.getD s.1 0), (s.1 + (1 + l.getD s.1 0), false))


/-- What is read at a letter. -/
def rdL (f : Nat → Bool) (l : List Nat) (x : Note × St) (c : Nat) : Note × St :=
  if c = 69 then ({ x.1 with epoch := (rnum l 4 x.2).1 }, (rnum l 4 x.2).2)
  else if c = 80 then ({ x.1 with old := (rnum l 4 x.2).1 }, (rnum l 4 x.2).2)
  else if c = 76 then ({ x.1 with lsn := (rnum l 8 x.2).1 }, (rnum l 8 x.2).2)
  else if c = 84 then ({ x.1 with tick := (rnum l 8 x.2).1 }, (rnum l 8 x.2).2)
  else if c = 79 then ({ x.1 with order := (rnum l 4 x.2).1 }, (rnum l 4 x.2).2)
  else if c = 83 then ({ x.1 with step := ((rnum l 1 x.2).1 : Nat) }, (rnum l 1 x.2).2)
  else if c = 85 then ({ x.1 with undo := f (rnum l 1 x.2).1 }, (rnum l 1 x.2).2)
  else if c = 67 then ({ x.1 with code := ((rnum l 1 x.2).1 : Nat) }, (rnum l 1 x.2).2)
  else if c = 75 then ({ x.1 with key := (rtxt l x.2).1 }, (rtxt l x.2).2)
  else if c = 68 then ({ x.1 with data := (rtxt l x.2).1 }, (rtxt l x.2).2)
  else x
/-- A note of a kind, all else zero. -/
abbrev bare (k : Int) : Note := ⟨k, 0, 0, 0, 0, 0, 0, false, 0, [], []⟩
def zero : Note := bare 0
/-- The reader is ahead of what is left. -/
def At (l : List Nat) (s : St) (r : List Nat) : Prop := s.2 = false ∧ l.drop s.1 = r ∧ s.1 ≤ l.length
theorem At.len {l r : List Nat} {s : St} (h : At l s r) : l.length - s.1 = r.length := by rw [← h.2.1, List.length_drop]
theorem At.num {l r : List Nat} {s : St} (k n : Nat) (h : At l s (be k n ++ r)) (hn : n < 256 ^ k) : ∃ s', rnum l k s = (n, s') ∧ At l s' r := by
  have hl := h.len
  rw [List.length_append, be_len] at hl
  refine ⟨(s.1 + k, false), ?_, rfl, ?_, by have := h.2.2; show s.1 + k ≤ _; omega⟩
  · unfold rnum
    rw [if_neg (by rw [h.1]; simp; omega), h.2.1, List.take_left' (be_len k n), val_be k n hn]
  · show l.drop (s.1 + k) = r
    rw [← List.drop_drop, h.2.1, List.drop_left' (be_len k n)]
theorem At.txt {l r t : List Nat} {s : St} (h : At l s (txt t ++ r)) (ht : t.length < 256) : ∃ s', rtxt l s = (t, s') ∧ At l s' r := by
  have hl := h.len
  unfold Ent.txt at h hl
  rw [be_one _ ht] at h hl
  simp at hl
  have hd : l.getD s.1 0 = t.length := by
    have : (l.drop s.1).getD 0 0 = t.length := by rw [h.2.1]; simp
    simpa [List.getD] using this
  have hd1 : l.drop (s.1 + 1) = t ++ r := by rw [← List.drop_drop, h.2.1]; simp
  refine ⟨(s.1 + (1 + t.length), false), ?_, rfl, ?_, by have := h.2.2; show s.1 + (1 + t.length) ≤ _; omega⟩
  · unfold rtxt
    rw [if_neg (by rw [h.1, hd]; simp; omega), hd, hd1, List.take_left]
  · show l.drop (s.1 + (1 + t.length)) = r
    rw [← Nat.add_assoc, ← List.drop_drop, hd1, List.drop_left]


/-- The part of a letter carried over. -/
def cpL (n : Note) (m : Note) (c : Nat) : Note :=
  if c = 69 then { m with epoch := n.epoch } else if c = 80 then { m with old := n.old } else if c = 76 then { m with lsn := n.lsn } else if c = 84 then { m with tick := n.tick } else if c = 79 then { m with order := n.order }
  else if c = 83 then { m with step := n.step } else if c = 85 then { m with undo := n.undo } else if c = 67 then { m with code := n.code } else if c = 75 then { m with key := n.key } else if c = 68 then { m with data := n.data } else m

theorem inB_iff (n : Note) : inB n = true ↔ (0 ≤ n.step ∧ n.step < 16 ∧ 0 ≤ n.code ∧ n.code ≤ 255 ∧ n.key.length ≤ 32 ∧ n.data.length ≤ 255) := by unfold inB; exact decide_eq_true_iff
theorem At.L {l r : List Nat} {s : St} (f : Nat → Bool) (h0 : f 0 = false) (h1 : f 1 = true) (n m : Note) (hb : Bnd n) (hi : inB n = true) (c : Nat) (hc : c ∈ alpha) (h : At l s (encL n c ++ r)) : ∃ s', rdL f l (m, s) c = (cpL n m c, s') ∧ At l s' r := by
  have hi := (inB_iff n).1 hi
  unfold encL at h
  rcases alpha_cases hc with rfl | rfl | rfl | rfl | rfl | rfl | rfl | rfl | rfl | rfl
  · obtain ⟨s', e, k⟩ := At.num 4 n.epoch h hb.epoch
    exact ⟨s', by simp [rdL, cpL, e], k⟩
  · obtain ⟨s', e, k⟩ := At.num 4 n.old h hb.old
    exact ⟨s', by simp [rdL, cpL, e], k⟩
  · obtain ⟨s', e, k⟩ := At.num 8 n.lsn h hb.lsn
    exact ⟨s', by simp [rdL, cpL, e], k⟩
  · obtain ⟨s', e, k⟩ := At.num 8 n.tick h hb.tick
    exact ⟨s', by simp [rdL, cpL, e], k⟩
  · obtain ⟨s', e, k⟩ := At.num 4 n.order h hb.order
    exact ⟨s', by simp [rdL, cpL, e], k⟩
  · obtain ⟨s', e, k⟩ := At.num 1 n.step.toNat h (by omega)
    exact ⟨s', by simp [rdL, cpL, e]; omega, k⟩
  · obtain ⟨s', e, k⟩ := At.num 1 (b2n n.undo) h (by unfold b2n; split <;> decide)
    have hu : f (b2n n.undo) = n.undo := by unfold b2n; cases n.undo; exact h0; exact h1
    exact ⟨s', by simp [rdL, cpL, e, hu], k⟩
  · obtain ⟨s', e, k⟩ := At.num 1 n.code.toNat h (by omega)
    exact ⟨s', by simp [rdL, cpL, e]; omega, k⟩
  · obtain ⟨s', e, k⟩ := At.txt (t := n.key) h (by omega)
    exact ⟨s', by simp [rdL, cpL, e], k⟩
  · obtain ⟨s', e, k⟩ := At.txt (t := n.data) h (by omega)
    exact ⟨s', by simp [rdL, cpL, e], k⟩
structure Ok (n : Note) : Prop where
  k1 : 1 ≤ n.kind
  k13 : n.kind ≤ 13
  o : only (lets n.kind) n = true
  i : inB n = true
  l : lackK n = false
theorem rnum_lt (l : List Nat) (hl : ∀ c ∈ l, c < 256) (k : Nat) (s : St) : (rnum l k s).1 < 256 ^ k := by
  unfold rnum
  split
  · exact Nat.pow_pos (by decide)
  · have h := val_lt ((l.drop s.1).take k) (fun c hc => hl c (List.mem_of_mem_drop (List.mem_of_mem_take hc)))
    refine Nat.lt_of_lt_of_le h (Nat.pow_le_pow_right (by decide) ?_)
    rw [List.length_take]; omega
theorem rtxt_small (l : List Nat) (hl : ∀ c ∈ l, c < 256) (s : St) : ∀ c ∈ (rtxt l s).1, c < 256 := by
  unfold rtxt
  split
  · intro c hc; cases hc
  · exact fun c hc => hl c (List.mem_of_mem_drop (List.mem_of_mem_take hc))
theorem rtxt_len (l : List Nat) (hl : ∀ c ∈ l, c < 256) (s : St) : (rtxt l s).1.length < 256 := by
  unfold rtxt
  split
  · simp
  · have : l.getD s.1 0 < 256 := by
      rw [List.getD_eq_getElem?_getD]
      by_cases h : s.1 < l.length
      · rw [List.getElem?_eq_getElem h]; exact hl _ (List.getElem_mem h)
      · rw [List.getElem?_eq_none (by omega)]; decide
    rw [List.length_take]; omega

end Ent
end Go.Proofs.YtpbclmnhkmcknaaGreat.Fe

namespace Go.Proofs.YtpbclmnhkmcknaaGreat.Fe

/-- A kept step. -/
structure Kp where
  o : Nat
  s : Int
  u : Bool
  a : List Nat
  c : Int
  r : List Nat
abbrev kz : Kp := ⟨0, 0, false, [], 0, []⟩
def in64 (s : Int) : Prop := -9223372036854775808 ≤ s ∧ s < 9223372036854775808
/-- A key as one number. -/
def kn (o : Nat) (s : Int) (u : Bool) : Int := (o : Int) * 36893488147419103232 + s * 2 + (Ent.b2n u : Nat)
abbrev Kp.k (x : Kp) : Int := kn x.o x.s x.u
theorem b2n_le (u : Bool) : Ent.b2n u ≤ 1 := by cases u <;> decide
theorem b2n_inj {u v : Bool} (h : Ent.b2n u = Ent.b2n v) : u = v := by cases u <;> cases v <;> first | rfl | (exact absurd h (by decide))
theorem kn_inj {o o' : Nat} {s s' : Int} {u u' : Bool} (h1 : in64 s) (h2 : in64 s') (h : kn o s u = kn o' s' u') : o = o' ∧ s = s' ∧ u = u' := by
  have := b2n_le u
  have := b2n_le u'
  unfold in64 at h1 h2
  unfold kn at h
  have e1 : o = o' := by omega
  have e2 : s = s' := by omega
  exact ⟨e1, e2, b2n_inj (by omega)⟩
/-- How two keys compare. -/
def cmpI (x y : Int) : Int := if x < y then -1 else if y < x then 1 else 0
theorem cmpI_lt {x y : Int} (h : x < y) : cmpI x y = -1 := by unfold cmpI; rw [if_pos h]
theorem cmpI_gt {x y : Int} (h : y < x) : cmpI x y = 1 := by unfold cmpI; rw [if_neg (by omega), if_pos h]
theorem cmpI_eq {x y : Int} (h : x = y) : cmpI x y = 0 := by unfold cmpI; rw [if_neg (by omega), if_neg (by omega)]
theorem cmpI_or {o o' : Nat} {s s' : Int} {u u' : Bool} (h1 : in64 s) (h2 : in64 s') :
    cmpI (kn o s u) (kn o' s' u') = if cmpI o o' ≠ 0 then cmpI o o' else if cmpI s s' ≠ 0 then cmpI s s' else cmpI (Ent.b2n u : Nat) (Ent.b2n u' : Nat) := by
  have := b2n_le u
  have := b2n_le u'
  unfold in64 at h1 h2
  by_cases a1 : o < o'
  · rw [cmpI_lt (x := o) (y := o') (by omega), if_pos (by decide)]
    exact cmpI_lt (by unfold kn; omega)
  · by_cases a2 : o' < o
    · rw [cmpI_gt (x := o) (y := o') (by omega), if_pos (by decide)]
      exact cmpI_gt (by unfold kn; omega)
    · rw [cmpI_eq (x := o) (y := o') (by omega), if_neg (by decide)]
      by_cases b1 : s < s'
      · rw [cmpI_lt b1, if_pos (by decide)]
        exact cmpI_lt (by unfold kn; omega)
      · by_cases b2 : s' < s
        · rw [cmpI_gt b2, if_pos (by decide)]
          exact cmpI_gt (by unfold kn; omega)
        · rw [cmpI_eq (x := s) (y := s') (by omega), if_neg (by decide)]
          by_cases c1 : Ent.b2n u < Ent.b2n u'
          · rw [cmpI_lt (x := (Ent.b2n u : Nat)) (y := (Ent.b2n u' : Nat)) (by omega)]
            exact cmpI_lt (by unfold kn; omega)
          · by_cases c2 : Ent.b2n u' < Ent.b2n u
            · rw [cmpI_gt (x := (Ent.b2n u : Nat)) (y := (Ent.b2n u' : Nat)) (by omega)]
              exact cmpI_gt (by unfold kn; omega)
            · rw [cmpI_eq (x := (Ent.b2n u : Nat)) (y := (Ent.b2n u' : Nat)) (by omega)]
              exact cmpI_eq (by unfold kn; omega)

/-- An element may be. -/
def vk (x : Kp) : Bool := decide (1 ≤ x.o ∧ 0 ≤ x.s ∧ x.s ≤ 15 ∧ x.a.length ≤ 255 ∧ x.r.length ≤ 255 ∧ (x.c = 1 ∨ x.c = 2))
theorem vk_iff (x : Kp) : vk x = true ↔ (1 ≤ x.o ∧ 0 ≤ x.s ∧ x.s ≤ 15 ∧ x.a.length ≤ 255 ∧ x.r.length ≤ 255 ∧ (x.c = 1 ∨ x.c = 2)) := by unfold vk; exact decide_eq_true_iff
/-- The first m are as they may be. -/
def upTo (T : Nat → Kp) (m : Nat) : Prop := ∀ i, i < m → vk (T i) = true ∧ (0 < i → (T (i - 1)).k < (T i).k)
def okT (n : Nat) (T : Nat → Kp) : Prop := n ≤ 200 ∧ upTo T n
def goodAt (T : Nat → Kp) (i : Nat) : Bool := vk (T i) && (decide (i = 0) || decide ((T (i - 1)).k < (T i).k))
def okB (n : Nat) (T : Nat → Kp) : Bool := decide (n ≤ 200) && (List.range n).all (goodAt T)
theorem goodAt_iff (T : Nat → Kp) (i : Nat) : goodAt T i = true ↔ (vk (T i) = true ∧ (0 < i → (T (i - 1)).k < (T i).k)) := by
  unfold goodAt
  simp only [Bool.and_eq_true, Bool.or_eq_true, decide_eq_true_eq]
  constructor
  · rintro ⟨h1, h2⟩; exact ⟨h1, fun h => by rcases h2 with h2 | h2; omega; exact h2⟩
  · rintro ⟨h1, h2⟩; exact ⟨h1, by by_cases h : i = 0; exact .inl h; exact .inr (h2 (by omega))⟩
theorem okB_iff (n : Nat) (T : Nat → Kp) : okB n T = true ↔ okT n T := by
  unfold okB okT upTo
  simp only [Bool.and_eq_true, decide_eq_true_eq, List.all_eq_true, List.mem_range, goodAt_iff]
theorem okB_bad {n : Nat} {T : Nat → Kp} (i : Nat) (hi : i < n) (h : goodAt T i = false) : okB n T = false := by
  rw [← Bool.not_eq_true, okB_iff]
  intro hk
  have := (goodAt_iff T i).2 (hk.2 i hi)
  rw [h] at this; cases this
theorem okB_big {n : Nat} {T : Nat → Kp} (h : 200 < n) : okB n T = false := by
  rw [← Bool.not_eq_true, okB_iff]
  exact fun hk => absurd hk.1 (by omega)
theorem okT.mono {n : Nat} {T : Nat → Kp} (h : okT n T) {i j : Nat} (hij : i < j) (hj : j < n) : (T i).k < (T j).k := by
  induction j with
  | zero => omega
  | succ j ih =>
    have h1 := (h.2 (j + 1) hj).2 (by omega)
    rw [Nat.add_sub_cancel] at h1
    by_cases e : i = j
    · subst e; exact h1
    · exact Int.lt_trans (ih (by omega) (by omega)) h1
/-- The place of a key. -/
def pos (T : Nat → Kp) (q : Int) : Nat → Nat
  | 0 => 0
  | n + 1 => if (T n).k < q then n + 1 else pos T q n
theorem pos_le (T : Nat → Kp) (q : Int) (n : Nat) : pos T q n ≤ n := by
  induction n with
  | zero => exact Nat.le_refl _
  | succ n ih => unfold pos; split <;> omega
theorem pos_eq {n : Nat} {T : Nat → Kp} {q : Int} {m : Nat} (hm : m ≤ n) (h1 : ∀ k, k < m → (T k).k < q) (h2 : ∀ k, m ≤ k → k < n → q ≤ (T k).k) : pos T q n = m := by
  induction n with
  | zero => unfold pos; omega
  | succ n ih =>
    unfold pos
    by_cases e : m = n + 1
    · subst e
      rw [if_pos (h1 n (by omega))]
    · rw [if_neg (by have := h2 n (by omega) (by omega); omega)]
      exact ih (by omega) (fun k a b => h2 k a (by omega))
theorem pos_spec {n : Nat} {T : Nat → Kp} (h : okT n T) (q : Int) : (∀ k, k < pos T q n → (T k).k < q) ∧ (∀ k, pos T q n ≤ k → k < n → q ≤ (T k).k) := by
  have : ∀ m, m ≤ n → (∀ k, k < pos T q m → (T k).k < q) ∧ (∀ k, pos T q m ≤ k → k < m → q ≤ (T k).k) := by
    intro m
    induction m with
    | zero => intro _; exact ⟨fun k hk => by unfold pos at hk; omega, fun k _ hk => by omega⟩
    | succ m ih =>
      intro hm
      unfold pos
      by_cases e : (T m).k < q
      · rw [if_pos e]
        refine ⟨fun k hk => ?_, fun k h1 h2 => by omega⟩
        by_cases ek : k = m
        · subst ek; exact e
        · exact Int.lt_trans (h.mono (i := k) (j := m) (by omega) (by omega)) e
      · rw [if_neg e]
        obtain ⟨a, b⟩ := ih (by omega)
        refine ⟨a, fun k h1 h2 => ?_⟩
        by_cases ek : k = m
        · subst ek; omega
        · exact b k h1 (by omega)
  exact this n (Nat.le_refl _)
/-- Is the key there? -/
def has (n : Nat) (T : Nat → Kp) (q : Int) : Bool := decide (pos T q n < n ∧ (T (pos T q n)).k = q)
theorem has_of {n : Nat} {T : Nat → Kp} (h : okT n T) {q : Int} {i : Nat} (hi : i < n) (e : (T i).k = q) : pos T q n = i ∧ has n T q = true := by
  have hp : pos T q n = i := pos_eq (by omega) (fun k hk => by rw [← e]; exact h.mono hk hi) (fun k h1 h2 => by
    by_cases ek : i = k
    · subst ek; omega
    · have := h.mono (i := i) (j := k) (by omega) h2; omega)
  refine ⟨hp, ?_⟩
  unfold has
  rw [hp, decide_eq_true_iff]
  exact ⟨hi, e⟩
theorem has_not {n : Nat} {T : Nat → Kp} {q : Int} (h : ∀ i, i < n → (T i).k ≠ q) : has n T q = false := by
  unfold has
  rw [decide_eq_false_iff_not]
  rintro ⟨a, b⟩
  exact h _ a b
theorem has_at {n : Nat} {T : Nat → Kp} {q : Int} (h : has n T q = true) : pos T q n < n ∧ (T (pos T q n)).k = q := by
  unfold has at h; exact decide_eq_true_iff.1 h
theorem has_no {n : Nat} {T : Nat → Kp} (hk : okT n T) {q : Int} (h : has n T q = false) : ∀ i, i < n → (T i).k ≠ q := fun i hi e => by
  rw [(has_of hk hi e).2] at h; cases h
/-- A request. -/
def reqB (N : Note) : Bool := decide (N.kind = 7) && (Ent.ok N && (decide (N.epoch ≠ 0) && decide (N.order ≠ 0)))
abbrev nk (N : Note) : Int := kn N.order N.step N.undo
abbrev nk' (N : Note) : Int := kn N.order N.step (!N.undo)
/-- What is to be done with a request whose key is not there. -/
def actN (n : Nat) (T : Nat → Kp) (N : Note) : Nat :=
  if N.undo = false ∧ has n T (nk' N) = true then 3 else if N.undo = true ∧ (has n T (nk' N) = false ∨ (T (pos T (nk' N) n)).c = 2) then 4 else 1
/-- What the chapter answers: what is to be done, the element, the error. -/
structure An where
  act : Nat
  k : Kp
  e : Nat
def askS (ep n : Nat) (T : Nat → Kp) (N : Note) : An :=
  if okB n T = true ∧ reqB N = true then
    if N.epoch < ep then ⟨0, kz, 72⟩
    else if has n T (nk N) = true then (if (T (pos T (nk N) n)).a = N.data then ⟨2, T (pos T (nk N) n), 0⟩ else ⟨0, kz, 80⟩)
    else ⟨actN n T N, kz, 0⟩
  else ⟨0, kz, 2⟩
/-- What is found. -/
def findK (n : Nat) (T : Nat → Kp) (q : Int) : Kp := if okB n T = true ∧ has n T q = true then T (pos T q n) else kz
def findB (n : Nat) (T : Nat → Kp) (q : Int) : Bool := okB n T && has n T q
def chkC (n : Nat) (T : Nat → Kp) : Nat := if okB n T = true then 0 else 2
def seeE (ep n : Nat) (T : Nat → Kp) (e : Nat) : Nat := if okB n T = true then (if e < ep then 72 else 0) else 2
/-- May that be the verdict? -/
def mayB (act : Nat) (code : Int) : Bool := if act = 3 then decide (code = 2) else if act = 4 then decide (code = 1) else decide (code = 1 ∨ code = 2)
def keepE (ep n : Nat) (T : Nat → Kp) (N : Note) (code : Int) (reply : List Nat) : Nat :=
  if (askS ep n T N).e ≠ 0 then (askS ep n T N).e else if mayB (askS ep n T N).act code = false ∨ 255 < reply.length then 2
  else if (askS ep n T N).act = 2 then 81 else if n = 200 then 5 else 0
/-- An element more. -/
def ins (m : Nat) (x : Kp) (T : Nat → Kp) : Nat → Kp := fun j => if j < m then T j else if j = m then x else T (j - 1)
abbrev newK (N : Note) (code : Int) (reply : List Nat) : Kp := ⟨N.order, N.step, N.undo, N.data, code, reply⟩
/-- A fence. -/
structure Fc where
  ep : Nat
  n : Nat
  T : Nat → Kp
abbrev fz : Fc := ⟨0, 0, fun _ => kz⟩
def keepF (ep n : Nat) (T : Nat → Kp) (N : Note) (code : Int) (reply : List Nat) : Fc :=
  if keepE ep n T N code reply = 0 then ⟨N.epoch, n + 1, ins (pos T (nk N) n) (newK N code reply) T⟩ else fz
def seeF (ep n : Nat) (T : Nat → Kp) (e : Nat) : Fc := if seeE ep n T e = 0 then ⟨e, n, T⟩ else fz

end Go.Proofs.YtpbclmnhkmcknaaGreat.Fe

namespace Go.Proofs.YtpbclmnhkmcknaaGreat.St
open Go.RowKit
set_option maxRecDepth 100000
set_option linter.unusedVariables false

/-- Block g is just these cells. -/
def Lies (w : World) (g : Nat) (t : TypeId) (cs : Array Value) : Prop := w.heap[g]? = some (.cells cs t (0, 0))

theorem Lies.lt {w : World} {g : Nat} {t : TypeId} {cs : Array Value} (h : Lies w g t cs) : g < w.heap.size := by
  refine Classical.byContradiction fun hn => ?_
  unfold Lies at h
  rw [Array.getElem?_eq_none (by omega)] at h
  cases h
theorem Lies.cell {w : World} {g : Nat} {t : TypeId} {cs : Array Value} (h : Lies w g t cs) (i : Nat) : w.cell? ⟨g, i, none⟩ = cs[i]? := cell_of_row w g i cs t (0, 0) h
theorem Lies.free {w : World} {g : Nat} {t : TypeId} {cs : Array Value} (h : Lies w g t cs) (i : Nat) : w.frozen? ⟨g, i, none⟩ = false := frozen_of_row w g i cs t h
theorem Lies.made (w : World) (t : TypeId) (cs : Array Value) : Lies (w.alloc (.cells cs t)) w.heap.size t cs := heap_alloc_new w _
theorem Lies.alloc {w : World} {g : Nat} {t : TypeId} {cs : Array Value} (h : Lies w g t cs) (o : Obj) : Lies (w.alloc o) g t cs := (Below.heap_alloc w o g h.lt).trans h
theorem Lies.put {w : World} {g : Nat} {t : TypeId} {cs : Array Value} (h : Lies w g t cs) (i : Nat) (v : Value) : Lies (w.setCell ⟨g, i, none⟩ v) g t (cs.setIfInBounds i v) := heap_setCell_same w g i cs t v h
theorem Lies.other {w : World} {g : Nat} {t : TypeId} {cs : Array Value} (h : Lies w g t cs) {a : Addr} (ha : g ≠ a.block) (v : Value) : Lies (w.setCell a v) g t cs := (heap_setCell_other w a g v ha).trans h
theorem Lies.below {w w' : World} {g B : Nat} {t : TypeId} {cs : Array Value} (h : Lies w g t cs) (hb : Below B w w') (hg : g < B) : Lies w' g t cs := (hb.block g hg).trans h

theorem Lies.there {w : World} {g : Nat} {t : TypeId} {cs : Array Value} (h : Lies w g t cs) (n : Nat) (hn : n ≤ cs.size) : w.there g 0 n := fun j hj => by
  rw [Nat.zero_add]
  exact ⟨by rw [h.cell, Array.getElem?_eq_getElem (by omega)]; rfl, h.free j⟩
theorem size_one (w : World) (o : Obj) : (w.alloc o).heap.size = w.heap.size + 1 := by simp
theorem Lies.made2 (w : World) (o : Obj) (t : TypeId) (cs : Array Value) : Lies ((w.alloc o).alloc (.cells cs t)) (w.heap.size + 1) t cs := by
  have := Lies.made (w.alloc o) t cs
  rwa [size_one] at this
theorem Lies.made3 (w : World) (o o2 : Obj) (t : TypeId) (cs : Array Value) : Lies (((w.alloc o).alloc o2).alloc (.cells cs t)) (w.heap.size + 1 + 1) t cs := by
  have := Lies.made2 (w.alloc o) o2 t cs
  rwa [size_one] at this


theorem below1 (w : World) (o : Obj) : Below w.heap.size w (w.alloc o) := (Below.refl _ _).alloc (Nat.le_refl _) _
theorem below2 (w : World) (o p : Obj) : Below w.heap.size w ((w.alloc o).alloc p) := ((Below.refl _ _).alloc (Nat.le_refl _) _).alloc (by simp) _
section
variable {P : Program} {ops : Array Oper} {Q : Exit → Act → World → Prop} {md : Region.Mode} {S : World → Prop}

/-- An operation that is wanted, and yields the same in every world that meets S, is taken first. -/
theorem any_take (i : Nat) (d : Tmp) {oi : Oper} (v : Value) {fuel : Nat} {listed : Array Bool} {a : Act} {w : World} (hi : ops[i]? = some oi) (hd : oi.dst = some d)
    (hs : Region.noSelect ops = true) (hf : Region.free md ops listed i = true) (hr : (Region.ready md ops listed).contains i = true)
    (hQ : ∀ c a w, Q (.panic c) (a.put (some d) v) w → Q (.panic c) a w) (hw : Region.wanted oi (yielded ops a.tmps) = true) (hy : ∀ w, S w → (execOp a.eval oi).run P w = .ok (.value v) w) (hS : S w)
    (h : wpAnyH P md ops Q S fuel (listed.setIfInBounds i true) (a.put (some d) v) w) : wpAnyH P md ops Q S (fuel + 1) listed a w :=
  wpAnyH_take hi hs hf hr (by rw [hd]; exact hQ) (.inl ⟨hw, hy⟩) hS (by rw [hd]; exact h)

end


end Go.Proofs.YtpbclmnhkmcknaaGreat.St

namespace Go.Proofs.YtpbclmnhkmcknaaGreat.St
set_option linter.unusedVariables false

/-- A kind: its name, how many are free, how many gone. -/
structure Kd where
  n : List UInt8
  f : Int
  g : Int
/-- A hold: its order, the kind's name, how many. -/
structure Hd where
  o : Nat
  n : List UInt8
  k : Int
instance : Inhabited Kd := ⟨⟨[], 0, 0⟩⟩
instance : Inhabited Hd := ⟨⟨0, [], 0⟩⟩
/-- A stock. -/
structure Ss where
  K : List Kd
  H : List Hd

def findK (K : List Kd) (x : List UInt8) : Option Kd := K.find? (fun k => k.n == x)
def findH (H : List Hd) (o : Nat) : Option Hd := H.find? (fun h => h.o == o)
def updK (K : List Kd) (k' : Kd) : List Kd := K.map (fun k => if k.n == k'.n then k' else k)
def insK (k : Kd) : List Kd → List Kd
  | [] => [k]
  | x :: r => if k.n < x.n then k :: x :: r else x :: insK k r
def insH (h : Hd) : List Hd → List Hd
  | [] => [h]
  | x :: r => if h.o < x.o then h :: x :: r else x :: insH h r
def delH (H : List Hd) (o : Nat) : List Hd := H.filter (fun h => h.o != o)
/-- How many of a kind are held. -/
def held : List Hd → List UInt8 → Int
  | [], _ => 0
  | h :: r, x => (if h.n == x then h.k else 0) + held r x

/-- May so many be held? -/
def holdV (s : Ss) (o : Nat) (x : List UInt8) (n : Int) : Bool :=
  o != 0 && decide (1 ≤ n) && (findH s.H o).isNone && (match findK s.K x with | none => false | some k => decide (n ≤ k.f))
def holdS (s : Ss) (o : Nat) (x : List UInt8) (n : Int) : Ss :=
  if holdV s o x n = true then (match findK s.K x with | none => s | some k => ⟨updK s.K ⟨k.n, k.f - n, k.g⟩, insH ⟨o, k.n, n⟩ s.H⟩) else s
def endV (s : Ss) (o : Nat) : Bool := (findH s.H o).isSome
/-- The kind behind the end of a hold of m. -/
def backK (k : Kd) (m : Int) (b : Bool) : Kd := if b then ⟨k.n, k.f, k.g + m⟩ else ⟨k.n, k.f + m, k.g⟩
def endS (s : Ss) (o : Nat) (b : Bool) : Ss :=
  match findH s.H o with
  | none => s
  | some h => match findK s.K h.n with
    | none => s
    | some k => ⟨updK s.K (backK k h.k b), delH s.H o⟩
def verd (b : Bool) : Int := if b then 1 else 2

def KSort (K : List Kd) : Prop := K.Pairwise (fun a b => a.n < b.n)
def HSort (H : List Hd) : Prop := H.Pairwise (fun a b => a.o < b.o)

/-! ### names -/
theorem nm_irrefl (a : List UInt8) : ¬ a < a := List.lt_irrefl a
theorem nm_trans {a b c : List UInt8} (h : a < b) (h' : b < c) : a < c := List.lt_trans h h'
theorem nm_asymm {a b : List UInt8} (h : a < b) : ¬ b < a := fun h' => nm_irrefl a (nm_trans h h')
theorem nm_tri {a b : List UInt8} (h : ¬ a < b) (h' : a ≠ b) : b < a := by
  refine Classical.byContradiction fun hb => h' ?_
  exact List.le_antisymm (List.not_lt.1 hb) (List.not_lt.1 h)

/-! ### kinds -/
theorem findK_some {K : List Kd} {x : List UInt8} {k : Kd} (h : findK K x = some k) : k ∈ K ∧ k.n = x :=
  ⟨List.mem_of_find?_eq_some h, by simpa using List.find?_some h⟩
theorem findK_none {K : List Kd} {x : List UInt8} (h : findK K x = none) : ∀ k ∈ K, k.n ≠ x := fun k hk e => by
  have := List.find?_eq_none.1 h k hk
  simp [e] at this
theorem KSort.uniq {K : List Kd} (h : KSort K) {a b : Kd} (ha : a ∈ K) (hb : b ∈ K) (e : a.n = b.n) : a = b := by
  induction K with
  | nil => cases ha
  | cons x r ih =>
    obtain ⟨h1, h2⟩ := List.pairwise_cons.1 h
    rcases List.mem_cons.1 ha with ea | ha'
    · rcases List.mem_cons.1 hb with eb | hb'
      · rw [ea, eb]
      · subst ea; exact absurd (e ▸ h1 b hb') (nm_irrefl _)
    · rcases List.mem_cons.1 hb with eb | hb'
      · subst eb; exact absurd (e ▸ h1 a ha') (nm_irrefl _)
      · exact ih h2 ha' hb'
theorem KSort.find {K : List Kd} (h : KSort K) {k : Kd} (hk : k ∈ K) : findK K k.n = some k := by
  cases hf : findK K k.n with
  | none => exact absurd rfl (findK_none hf k hk)
  | some k' => obtain ⟨h1, h2⟩ := findK_some hf; rw [h.uniq h1 hk h2]
theorem updK_names (K : List Kd) (k' : Kd) : (updK K k').map (·.n) = K.map (·.n) := by
  unfold updK
  rw [List.map_map]
  refine List.map_congr_left fun k _ => ?_
  simp only [Function.comp]
  split
  · rename_i h; simpa using (beq_iff_eq.1 h).symm
  · rfl
theorem updK_length (K : List Kd) (k' : Kd) : (updK K k').length = K.length := by simp [updK]
theorem KSort_iff (K : List Kd) : KSort K ↔ (K.map (·.n)).Pairwise (· < ·) := by unfold KSort; rw [List.pairwise_map]
theorem KSort.upd {K : List Kd} (h : KSort K) (k' : Kd) : KSort (updK K k') := by
  rw [KSort_iff, updK_names, ← KSort_iff]; exact h
theorem mem_updK {K : List Kd} {k' y : Kd} : y ∈ updK K k' ↔ (y = k' ∧ ∃ k ∈ K, k.n = k'.n) ∨ (y ∈ K ∧ y.n ≠ k'.n) := by
  unfold updK
  rw [List.mem_map]
  constructor
  · rintro ⟨k, hk, rfl⟩
    by_cases e : k.n = k'.n
    · left; rw [if_pos (by simpa using e)]; exact ⟨rfl, k, hk, e⟩
    · right; rw [if_neg (by simpa using e)]; exact ⟨hk, e⟩
  · rintro (⟨rfl, k, hk, e⟩ | ⟨hy, e⟩)
    · exact ⟨k, hk, by simp [e]⟩
    · exact ⟨y, hy, by rw [if_neg (by simpa using e)]⟩
/-! ### holds -/
theorem findH_some {H : List Hd} {o : Nat} {h : Hd} (e : findH H o = some h) : h ∈ H ∧ h.o = o :=
  ⟨List.mem_of_find?_eq_some e, by simpa using List.find?_some e⟩
theorem findH_none {H : List Hd} {o : Nat} (h : findH H o = none) : ∀ x ∈ H, x.o ≠ o := fun k hk e => by
  have := List.find?_eq_none.1 h k hk
  simp [e] at this
theorem HSort.uniq {H : List Hd} (h : HSort H) {a b : Hd} (ha : a ∈ H) (hb : b ∈ H) (e : a.o = b.o) : a = b := by
  induction H with
  | nil => cases ha
  | cons x r ih =>
    obtain ⟨h1, h2⟩ := List.pairwise_cons.1 h
    rcases List.mem_cons.1 ha with ea | ha'
    · rcases List.mem_cons.1 hb with eb | hb'
      · rw [ea, eb]
      · subst ea; have := h1 b hb'; omega
    · rcases List.mem_cons.1 hb with eb | hb'
      · subst eb; have := h1 a ha'; omega
      · exact ih h2 ha' hb'
theorem HSort.find {H : List Hd} (h : HSort H) {x : Hd} (hx : x ∈ H) : findH H x.o = some x := by
  cases hf : findH H x.o with
  | none => exact absurd rfl (findH_none hf x hx)
  | some k' => obtain ⟨h1, h2⟩ := findH_some hf; rw [h.uniq h1 hx h2]
theorem mem_insH {h y : Hd} : ∀ {H : List Hd}, y ∈ insH h H ↔ y = h ∨ y ∈ H
  | [] => by simp [insH]
  | x :: r => by
    unfold insH
    split
    · simp
    · simp only [List.mem_cons, mem_insH (H := r)]
      constructor
      · rintro (h | h | h) <;> simp [h]
      · rintro (h | h | h) <;> simp [h]
theorem insH_length (h : Hd) : ∀ H : List Hd, (insH h H).length = H.length + 1
  | [] => rfl
  | x :: r => by unfold insH; split <;> simp [insH_length h r]
theorem HSort.ins {H : List Hd} {h : Hd} (hs : HSort H) (hn : ∀ x ∈ H, x.o ≠ h.o) : HSort (insH h H) := by
  induction H with
  | nil => exact List.pairwise_singleton _ _
  | cons x r ih =>
    obtain ⟨h1, h2⟩ := List.pairwise_cons.1 hs
    unfold insH
    split
    · rename_i e
      refine List.pairwise_cons.2 ⟨fun y hy => ?_, hs⟩
      rcases List.mem_cons.1 hy with rfl | hy
      · exact e
      · have := h1 y hy; omega
    · rename_i e
      refine List.pairwise_cons.2 ⟨fun y hy => ?_, ih h2 fun y hy => hn y (List.mem_cons_of_mem _ hy)⟩
      rcases mem_insH.1 hy with rfl | hy
      · have := hn x (List.mem_cons_self ..); omega
      · exact h1 y hy
theorem HSort.del {H : List Hd} (hs : HSort H) (o : Nat) : HSort (delH H o) := hs.filter _
theorem mem_delH {H : List Hd} {o : Nat} {y : Hd} : y ∈ delH H o ↔ y ∈ H ∧ y.o ≠ o := by simp [delH, List.mem_filter]
theorem delH_length {H : List Hd} (hs : HSort H) {h : Hd} (hh : h ∈ H) : (delH H h.o).length + 1 = H.length := by
  induction H with
  | nil => cases hh
  | cons x r ih =>
    obtain ⟨h1, h2⟩ := List.pairwise_cons.1 hs
    rcases List.mem_cons.1 hh with rfl | hr
    · have : delH r h.o = r := by
        unfold delH
        rw [List.filter_eq_self]
        intro y hy
        have := h1 y hy
        simp; omega
      unfold delH at this ⊢
      simp [this]
    · have hx := h1 h hr
      have := ih h2 hr
      unfold delH at this ⊢
      rw [List.filter_cons, if_pos (by simp; omega)]
      simp [this]
theorem held_ins (h : Hd) (x : List UInt8) : ∀ H : List Hd, held (insH h H) x = (if h.n == x then h.k else 0) + held H x
  | [] => rfl
  | y :: r => by
    unfold insH
    split
    · rfl
    · simp only [held, held_ins h x r]; omega
theorem held_del {H : List Hd} (hs : HSort H) {h : Hd} (hh : h ∈ H) (x : List UInt8) : held (delH H h.o) x = held H x - (if h.n == x then h.k else 0) := by
  induction H with
  | nil => cases hh
  | cons y r ih =>
    obtain ⟨h1, h2⟩ := List.pairwise_cons.1 hs
    rcases List.mem_cons.1 hh with rfl | hr
    · have : delH r h.o = r := by
        unfold delH
        rw [List.filter_eq_self]
        intro y hy
        have := h1 y hy
        simp; omega
      unfold delH at this ⊢
      rw [List.filter_cons, if_neg (by simp), this]
      simp only [held]; omega
    · have hx := h1 h hr
      have := ih h2 hr
      unfold delH at this ⊢
      rw [List.filter_cons, if_pos (by simp; omega)]
      simp only [held, this]; omega

/-! ### a stock that may be -/
structure Inv (s : Ss) : Prop where
  ks : KSort s.K
  hs : HSort s.H
  kl : ∀ k ∈ s.K, 1 ≤ k.n.length ∧ k.n.length ≤ 32
  kf : ∀ k ∈ s.K, 0 ≤ k.f ∧ 0 ≤ k.g ∧ k.f + k.g + held s.H k.n ≤ 1000000
  hh : ∀ h ∈ s.H, 1 ≤ h.k ∧ 0 < h.o ∧ h.o < 4294967296 ∧ ∃ k ∈ s.K, k.n = h.n
  kz : s.K.length ≤ 50

theorem held_nonneg {H : List Hd} (h : ∀ y ∈ H, 1 ≤ y.k) (x : List UInt8) : 0 ≤ held H x := by
  induction H with
  | nil => exact Int.le_refl _
  | cons y r ih =>
    have h1 := h y (List.mem_cons_self ..)
    have h2 := ih fun z hz => h z (List.mem_cons_of_mem _ hz)
    simp only [held]
    split <;> omega
theorem held_ge {H : List Hd} (h : ∀ y ∈ H, 1 ≤ y.k) {y : Hd} (hy : y ∈ H) : y.k ≤ held H y.n := by
  induction H with
  | nil => cases hy
  | cons z r ih =>
    have h1 := h z (List.mem_cons_self ..)
    have h3 := fun z hz => h z (List.mem_cons_of_mem _ hz)
    simp only [held]
    rcases List.mem_cons.1 hy with rfl | hr
    · rw [if_pos (by simp)]
      have := held_nonneg h3 y.n
      omega
    · have := ih h3 hr
      split <;> omega
theorem Inv.kn {s : Ss} (h : Inv s) {y : Hd} (hy : y ∈ s.H) : ∃ k, findK s.K y.n = some k ∧ k ∈ s.K ∧ k.n = y.n := by
  obtain ⟨-, -, -, k, hk, e⟩ := h.hh y hy
  exact ⟨k, e ▸ h.ks.find hk, hk, e⟩
theorem Inv.kb {s : Ss} (h : Inv s) {y : Hd} (hy : y ∈ s.H) : y.k ≤ 1000000 ∧ y.n.length ≤ 32 := by
  obtain ⟨k, -, hk, e⟩ := h.kn hy
  have h1 := h.kf k hk
  have h2 := held_ge (fun z hz => (h.hh z hz).1) hy
  rw [e] at h1
  exact ⟨by omega, e ▸ (h.kl k hk).2⟩

theorem holdV_iff {s : Ss} {o : Nat} {x : List UInt8} {n : Int} : holdV s o x n = true ↔ o ≠ 0 ∧ 1 ≤ n ∧ findH s.H o = none ∧ ∃ k, findK s.K x = some k ∧ n ≤ k.f := by
  unfold holdV
  cases hk : findK s.K x <;> simp [and_assoc]
theorem holdS_no {s : Ss} {o : Nat} {x : List UInt8} {n : Int} (h : holdV s o x n = false) : holdS s o x n = s := by
  unfold holdS; rw [if_neg (by rw [h]; decide)]
theorem holdS_yes {s : Ss} {o : Nat} {x : List UInt8} {n : Int} (h : holdV s o x n = true) {k : Kd} (hk : findK s.K x = some k) : holdS s o x n = ⟨updK s.K ⟨k.n, k.f - n, k.g⟩, insH ⟨o, k.n, n⟩ s.H⟩ := by
  unfold holdS; rw [if_pos h, hk]
theorem endS_yes {s : Ss} {o : Nat} {b : Bool} {h : Hd} {k : Kd} (h1 : findH s.H o = some h) (h2 : findK s.K h.n = some k) : endS s o b = ⟨updK s.K (backK k h.k b), delH s.H o⟩ := by
  unfold endS; rw [h1]; dsimp only; rw [h2]
theorem endS_no {s : Ss} {o : Nat} {b : Bool} (h1 : findH s.H o = none) : endS s o b = s := by unfold endS; rw [h1]
theorem backK_n (k : Kd) (m : Int) (b : Bool) : (backK k m b).n = k.n := by cases b <;> rfl

theorem Inv.hold {s : Ss} (h : Inv s) {o : Nat} (ho : o < 4294967296) (x : List UInt8) (n : Int) : Inv (holdS s o x n) := by
  cases hv : holdV s o x n
  · rw [holdS_no hv]; exact h
  · obtain ⟨h0, h1, h2, k, hk, h3⟩ := holdV_iff.1 hv
    rw [holdS_yes hv hk]
    obtain ⟨hm, rfl⟩ := findK_some hk
    have hn := findH_none h2
    have hkf := h.kf k hm
    have hp := held_nonneg (fun z hz => (h.hh z hz).1) k.n
    refine ⟨h.ks.upd _, h.hs.ins hn, ?_, ?_, ?_, by rw [updK_length]; exact h.kz⟩
    · intro y hy
      rcases mem_updK.1 hy with ⟨rfl, _⟩ | ⟨hy, _⟩
      · exact h.kl k hm
      · exact h.kl y hy
    · intro y hy
      show 0 ≤ y.f ∧ 0 ≤ y.g ∧ y.f + y.g + held (insH ⟨o, k.n, n⟩ s.H) y.n ≤ 1000000
      rw [held_ins]
      rcases mem_updK.1 hy with ⟨rfl, _⟩ | ⟨hy, hne⟩
      · dsimp only
        rw [if_pos (by simp)]
        omega
      · have := h.kf y hy
        have hne' : k.n ≠ y.n := fun e => hne e.symm
        dsimp only
        rw [if_neg (by simpa using hne')]
        omega
    · intro y hy
      rcases mem_insH.1 hy with rfl | hy
      · exact ⟨h1, by show 0 < o; omega, ho, ⟨k.n, k.f - n, k.g⟩, mem_updK.2 (.inl ⟨rfl, k, hm, rfl⟩), rfl⟩
      · obtain ⟨a, b, c, k2, hk2, e⟩ := h.hh y hy
        refine ⟨a, b, c, ?_⟩
        by_cases e2 : k2.n = k.n
        · exact ⟨⟨k.n, k.f - n, k.g⟩, mem_updK.2 (.inl ⟨rfl, k, hm, rfl⟩), e2.symm.trans e⟩
        · exact ⟨k2, mem_updK.2 (.inr ⟨hk2, e2⟩), e⟩

theorem Inv.fin {s : Ss} (h : Inv s) (o : Nat) (b : Bool) : Inv (endS s o b) := by
  cases hf : findH s.H o with
  | none => rw [endS_no hf]; exact h
  | some y =>
    obtain ⟨hy, rfl⟩ := findH_some hf
    obtain ⟨k, hk, hm, e⟩ := h.kn hy
    rw [endS_yes hf hk]
    have hkf := h.kf k hm
    have hyk := (h.hh y hy).1
    have hge := held_ge (fun z hz => (h.hh z hz).1) hy
    refine ⟨h.ks.upd _, h.hs.del _, ?_, ?_, ?_, by rw [updK_length]; exact h.kz⟩
    · intro z hz
      rcases mem_updK.1 hz with ⟨rfl, _⟩ | ⟨hz, _⟩
      · rw [backK_n]; exact h.kl k hm
      · exact h.kl z hz
    · intro z hz
      show 0 ≤ z.f ∧ 0 ≤ z.g ∧ z.f + z.g + held (delH s.H y.o) z.n ≤ 1000000
      rw [held_del h.hs hy]
      rcases mem_updK.1 hz with ⟨rfl, _⟩ | ⟨hz, hne⟩
      · rw [backK_n, e, if_pos (by simp)]
        rw [e] at hkf
        cases b <;> (unfold backK; simp only [Bool.false_eq_true, if_false, if_true]; omega)
      · have := h.kf z hz
        rw [backK_n] at hne
        rw [if_neg (by rw [beq_iff_eq]; intro e'; exact hne (e'.symm.trans e.symm))]
        omega
    · intro z hz
      obtain ⟨hz, -⟩ := mem_delH.1 hz
      obtain ⟨a, c, d, k2, hk2, e3⟩ := h.hh z hz
      refine ⟨a, c, d, ?_⟩
      by_cases e2 : k2.n = k.n
      · exact ⟨backK k y.k b, mem_updK.2 (.inl ⟨rfl, k, hm, by rw [backK_n]⟩), by rw [backK_n]; exact e2.symm.trans e3⟩
      · exact ⟨k2, mem_updK.2 (.inr ⟨hk2, by rw [backK_n]; exact e2⟩), e3⟩

theorem holdS_len (s : Ss) (o : Nat) (x : List UInt8) (n : Int) : (holdS s o x n).H.length ≤ s.H.length + 1 ∧ (holdS s o x n).K.map (·.n) = s.K.map (·.n) := by
  cases hv : holdV s o x n
  · rw [holdS_no hv]; exact ⟨by omega, rfl⟩
  · obtain ⟨h0, h1, h2, k, hk, h3⟩ := holdV_iff.1 hv
    rw [holdS_yes hv hk]
    exact ⟨by rw [insH_length]; omega, updK_names _ _⟩
theorem endS_len (s : Ss) (o : Nat) (b : Bool) : (endS s o b).H.length ≤ s.H.length ∧ (endS s o b).K.map (·.n) = s.K.map (·.n) := by
  unfold endS
  split
  · exact ⟨Nat.le_refl _, rfl⟩
  · split
    · exact ⟨Nat.le_refl _, rfl⟩
    · exact ⟨List.length_filter_le _ _, updK_names _ _⟩

end Go.Proofs.YtpbclmnhkmcknaaGreat.St

namespace Go.Proofs.YtpbclmnhkmcknaaGreat.Pu
open Go.RowKit
set_option maxRecDepth 100000
set_option linter.unusedVariables false

/-- Block g is just these cells. -/
def Lies (w : World) (g : Nat) (t : TypeId) (cs : Array Value) : Prop := w.heap[g]? = some (.cells cs t (0, 0))

theorem Lies.lt {w : World} {g : Nat} {t : TypeId} {cs : Array Value} (h : Lies w g t cs) : g < w.heap.size := by
  refine Classical.byContradiction fun hn => ?_
  unfold Lies at h
  rw [Array.getElem?_eq_none (by omega)] at h
  cases h
theorem Lies.cell {w : World} {g : Nat} {t : TypeId} {cs : Array Value} (h : Lies w g t cs) (i : Nat) : w.cell? ⟨g, i, none⟩ = cs[i]? := cell_of_row w g i cs t (0, 0) h
theorem Lies.free {w : World} {g : Nat} {t : TypeId} {cs : Array Value} (h : Lies w g t cs) (i : Nat) : w.frozen? ⟨g, i, none⟩ = false := frozen_of_row w g i cs t h
theorem Lies.made (w : World) (t : TypeId) (cs : Array Value) : Lies (w.alloc (.cells cs t)) w.heap.size t cs := heap_alloc_new w _
theorem Lies.alloc {w : World} {g : Nat} {t : TypeId} {cs : Array Value} (h : Lies w g t cs) (o : Obj) : Lies (w.alloc o) g t cs := (Below.heap_alloc w o g h.lt).trans h
theorem Lies.put {w : World} {g : Nat} {t : TypeId} {cs : Array Value} (h : Lies w g t cs) (i : Nat) (v : Value) : Lies (w.setCell ⟨g, i, none⟩ v) g t (cs.setIfInBounds i v) := heap_setCell_same w g i cs t v h
theorem Lies.other {w : World} {g : Nat} {t : TypeId} {cs : Array Value} (h : Lies w g t cs) {a : Addr} (ha : g ≠ a.block) (v : Value) : Lies (w.setCell a v) g t cs := (heap_setCell_other w a g v ha).trans h
theorem Lies.below {w w' : World} {g B : Nat} {t : TypeId} {cs : Array Value} (h : Lies w g t cs) (hb : Below B w w') (hg : g < B) : Lies w' g t cs := (hb.block g hg).trans h

theorem Lies.there {w : World} {g : Nat} {t : TypeId} {cs : Array Value} (h : Lies w g t cs) (n : Nat) (hn : n ≤ cs.size) : w.there g 0 n := fun j hj => by
  rw [Nat.zero_add]
  exact ⟨by rw [h.cell, Array.getElem?_eq_getElem (by omega)]; rfl, h.free j⟩
theorem size_one (w : World) (o : Obj) : (w.alloc o).heap.size = w.heap.size + 1 := by simp
theorem Lies.made2 (w : World) (o : Obj) (t : TypeId) (cs : Array Value) : Lies ((w.alloc o).alloc (.cells cs t)) (w.heap.size + 1) t cs := by
  have := Lies.made (w.alloc o) t cs
  rwa [size_one] at this
theorem below1 (w : World) (o : Obj) : Below w.heap.size w (w.alloc o) := (Below.refl _ _).alloc (Nat.le_refl _) _
theorem below2 (w : World) (o p : Obj) : Below w.heap.size w ((w.alloc o).alloc p) := ((Below.refl _ _).alloc (Nat.le_refl _) _).alloc (by simp) _
section
variable {P : Program} {ops : Array Oper} {Q : Exit → Act → World → Prop} {md : Region.Mode} {S : World → Prop}

/-- An operation that is wanted, and yields the same in every world that meets S, is taken first. -/
theorem any_take (i : Nat) (d : Tmp) {oi : Oper} (v : Value) {fuel : Nat} {listed : Array Bool} {a : Act} {w : World} (hi : ops[i]? = some oi) (hd : oi.dst = some d)
    (hs : Region.noSelect ops = true) (hf : Region.free md ops listed i = true) (hr : (Region.ready md ops listed).contains i = true)
    (hQ : ∀ c a w, Q (.panic c) (a.put (some d) v) w → Q (.panic c) a w) (hw : Region.wanted oi (yielded ops a.tmps) = true) (hy : ∀ w, S w → (execOp a.eval oi).run P w = .ok (.value v) w) (hS : S w)
    (h : wpAnyH P md ops Q S fuel (listed.setIfInBounds i true) (a.put (some d) v) w) : wpAnyH P md ops Q S (fuel + 1) listed a w :=
  wpAnyH_take hi hs hf hr (by rw [hd]; exact hQ) (.inl ⟨hw, hy⟩) hS (by rw [hd]; exact h)

end


end Go.Proofs.YtpbclmnhkmcknaaGreat.Pu

namespace Go.Proofs.YtpbclmnhkmcknaaGreat.Pu
set_option linter.unusedVariables false

/-- An account: its name, its money, how much of it is reserved. -/
structure Kd where
  n : List UInt8
  m : Int
  h : Int
/-- A payment: its order, the account's name, how much, its state. -/
structure Hd where
  o : Nat
  n : List UInt8
  k : Int
  t : Nat
instance : Inhabited Kd := ⟨⟨[], 0, 0⟩⟩
instance : Inhabited Hd := ⟨⟨0, [], 0, 0⟩⟩
/-- A purse. -/
structure Ss where
  K : List Kd
  H : List Hd

def findK (K : List Kd) (x : List UInt8) : Option Kd := K.find? (fun k => k.n == x)
def findH (H : List Hd) (o : Nat) : Option Hd := H.find? (fun h => h.o == o)
def updK (K : List Kd) (k' : Kd) : List Kd := K.map (fun k => if k.n == k'.n then k' else k)
def insK (k : Kd) : List Kd → List Kd
  | [] => [k]
  | x :: r => if k.n < x.n then k :: x :: r else x :: insK k r
def insH (h : Hd) : List Hd → List Hd
  | [] => [h]
  | x :: r => if h.o < x.o then h :: x :: r else x :: insH h r
def delH (H : List Hd) (o : Nat) : List Hd := H.filter (fun h => h.o != o)
/-- The payments in a state. -/
def stH (H : List Hd) (t : Nat) : List Hd := H.filter (fun h => h.t == t)
/-- The payment of an order goes to a state. -/
def setH (H : List Hd) (o t : Nat) : List Hd := H.map (fun h => if h.o == o then ⟨h.o, h.n, h.k, t⟩ else h)
/-- What an account's payments in a state come to. -/
def held : List Hd → List UInt8 → Nat → Int
  | [], _, _ => 0
  | h :: r, x, t => (if h.n == x && h.t == t then h.k else 0) + held r x t
/-- May so much be authorised? -/
def authV (s : Ss) (o : Nat) (x : List UInt8) (n : Int) : Bool :=
  o != 0 && decide (1 ≤ n) && (findH s.H o).isNone && (match findK s.K x with | none => false | some k => decide (n ≤ k.m - k.h))
def authS (s : Ss) (o : Nat) (x : List UInt8) (n : Int) : Ss :=
  if authV s o x n = true then (match findK s.K x with | none => s | some k => ⟨updK s.K ⟨k.n, k.m, k.h + n⟩, insH ⟨o, k.n, n, 1⟩ s.H⟩) else s
/-- The three ways on: 0 captured, 1 let go, 2 refunded: from which state, to which one. -/
def frS (c : Nat) : Nat := if c = 2 then 2 else 1
def toS (c : Nat) : Nat := if c = 0 then 2 else 3
def movV (s : Ss) (o c : Nat) : Bool := match findH s.H o with | none => false | some h => h.t == frS c
def movK (k : Kd) (m : Int) (c : Nat) : Kd := if c = 0 then ⟨k.n, k.m - m, k.h - m⟩ else if c = 1 then ⟨k.n, k.m, k.h - m⟩ else ⟨k.n, k.m + m, k.h⟩
def movS (s : Ss) (o c : Nat) : Ss :=
  if movV s o c = true then (match findH s.H o with
    | none => s
    | some h => match findK s.K h.n with
      | none => s
      | some k => ⟨updK s.K (movK k h.k c), setH s.H o (toS c)⟩) else s
def verd (b : Bool) : Int := if b then 1 else 2

def KSort (K : List Kd) : Prop := K.Pairwise (fun a b => a.n < b.n)
def HSort (H : List Hd) : Prop := H.Pairwise (fun a b => a.o < b.o)

/-! ### names -/
theorem nm_irrefl (a : List UInt8) : ¬ a < a := List.lt_irrefl a
theorem nm_trans {a b c : List UInt8} (h : a < b) (h' : b < c) : a < c := List.lt_trans h h'
theorem nm_asymm {a b : List UInt8} (h : a < b) : ¬ b < a := fun h' => nm_irrefl a (nm_trans h h')
theorem nm_tri {a b : List UInt8} (h : ¬ a < b) (h' : a ≠ b) : b < a := by
  refine Classical.byContradiction fun hb => h' ?_
  exact List.le_antisymm (List.not_lt.1 hb) (List.not_lt.1 h)

/-! ### kinds -/
theorem findK_some {K : List Kd} {x : List UInt8} {k : Kd} (h : findK K x = some k) : k ∈ K ∧ k.n = x :=
  ⟨List.mem_of_find?_eq_some h, by simpa using List.find?_some h⟩
theorem findK_none {K : List Kd} {x : List UInt8} (h : findK K x = none) : ∀ k ∈ K, k.n ≠ x := fun k hk e => by
  have := List.find?_eq_none.1 h k hk
  simp [e] at this
theorem KSort.uniq {K : List Kd} (h : KSort K) {a b : Kd} (ha : a ∈ K) (hb : b ∈ K) (e : a.n = b.n) : a = b := by
  induction K with
  | nil => cases ha
  | cons x r ih =>
    obtain ⟨h1, h2⟩ := List.pairwise_cons.1 h
    rcases List.mem_cons.1 ha with ea | ha'
    · rcases List.mem_cons.1 hb with eb | hb'
      · rw [ea, eb]
      · subst ea; exact absurd (e ▸ h1 b hb') (nm_irrefl _)
    · rcases List.mem_cons.1 hb with eb | hb'
      · subst eb; exact absurd (e ▸ h1 a ha') (nm_irrefl _)
      · exact ih h2 ha' hb'
theorem KSort.find {K : List Kd} (h : KSort K) {k : Kd} (hk : k ∈ K) : findK K k.n = some k := by
  cases hf : findK K k.n with
  | none => exact absurd rfl (findK_none hf k hk)
  | some k' => obtain ⟨h1, h2⟩ := findK_some hf; rw [h.uniq h1 hk h2]
theorem updK_names (K : List Kd) (k' : Kd) : (updK K k').map (·.n) = K.map (·.n) := by
  unfold updK
  rw [List.map_map]
  refine List.map_congr_left fun k _ => ?_
  simp only [Function.comp]
  split
  · rename_i h; simpa using (beq_iff_eq.1 h).symm
  · rfl
theorem updK_length (K : List Kd) (k' : Kd) : (updK K k').length = K.length := by simp [updK]
theorem KSort_iff (K : List Kd) : KSort K ↔ (K.map (·.n)).Pairwise (· < ·) := by unfold KSort; rw [List.pairwise_map]
theorem KSort.upd {K : List Kd} (h : KSort K) (k' : Kd) : KSort (updK K k') := by
  rw [KSort_iff, updK_names, ← KSort_iff]; exact h
theorem mem_updK {K : List Kd} {k' y : Kd} : y ∈ updK K k' ↔ (y = k' ∧ ∃ k ∈ K, k.n = k'.n) ∨ (y ∈ K ∧ y.n ≠ k'.n) := by
  unfold updK
  rw [List.mem_map]
  constructor
  · rintro ⟨k, hk, rfl⟩
    by_cases e : k.n = k'.n
    · left; rw [if_pos (by simpa using e)]; exact ⟨rfl, k, hk, e⟩
    · right; rw [if_neg (by simpa using e)]; exact ⟨hk, e⟩
  · rintro (⟨rfl, k, hk, e⟩ | ⟨hy, e⟩)
    · exact ⟨k, hk, by simp [e]⟩
    · exact ⟨y, hy, by rw [if_neg (by simpa using e)]⟩
/-! ### holds -/
theorem findH_some {H : List Hd} {o : Nat} {h : Hd} (e : findH H o = some h) : h ∈ H ∧ h.o = o :=
  ⟨List.mem_of_find?_eq_some e, by simpa using List.find?_some e⟩
theorem findH_none {H : List Hd} {o : Nat} (h : findH H o = none) : ∀ x ∈ H, x.o ≠ o := fun k hk e => by
  have := List.find?_eq_none.1 h k hk
  simp [e] at this
theorem findH_none' {H : List Hd} {o : Nat} (h : ∀ x ∈ H, x.o ≠ o) : findH H o = none :=
  List.find?_eq_none.2 fun k hk => by simpa using h k hk
theorem HSort.uniq {H : List Hd} (h : HSort H) {a b : Hd} (ha : a ∈ H) (hb : b ∈ H) (e : a.o = b.o) : a = b := by
  induction H with
  | nil => cases ha
  | cons x r ih =>
    obtain ⟨h1, h2⟩ := List.pairwise_cons.1 h
    rcases List.mem_cons.1 ha with ea | ha'
    · rcases List.mem_cons.1 hb with eb | hb'
      · rw [ea, eb]
      · subst ea; have := h1 b hb'; omega
    · rcases List.mem_cons.1 hb with eb | hb'
      · subst eb; have := h1 a ha'; omega
      · exact ih h2 ha' hb'
theorem HSort.find {H : List Hd} (h : HSort H) {x : Hd} (hx : x ∈ H) : findH H x.o = some x := by
  cases hf : findH H x.o with
  | none => exact absurd rfl (findH_none hf x hx)
  | some k' => obtain ⟨h1, h2⟩ := findH_some hf; rw [h.uniq h1 hx h2]
theorem mem_insH {h y : Hd} : ∀ {H : List Hd}, y ∈ insH h H ↔ y = h ∨ y ∈ H
  | [] => by simp [insH]
  | x :: r => by
    unfold insH
    split
    · simp
    · simp only [List.mem_cons, mem_insH (H := r)]
      constructor
      · rintro (h | h | h) <;> simp [h]
      · rintro (h | h | h) <;> simp [h]
theorem insH_length (h : Hd) : ∀ H : List Hd, (insH h H).length = H.length + 1
  | [] => rfl
  | x :: r => by unfold insH; split <;> simp [insH_length h r]
theorem HSort.ins {H : List Hd} {h : Hd} (hs : HSort H) (hn : ∀ x ∈ H, x.o ≠ h.o) : HSort (insH h H) := by
  induction H with
  | nil => exact List.pairwise_singleton _ _
  | cons x r ih =>
    obtain ⟨h1, h2⟩ := List.pairwise_cons.1 hs
    unfold insH
    split
    · rename_i e
      refine List.pairwise_cons.2 ⟨fun y hy => ?_, hs⟩
      rcases List.mem_cons.1 hy with rfl | hy
      · exact e
      · have := h1 y hy; omega
    · rename_i e
      refine List.pairwise_cons.2 ⟨fun y hy => ?_, ih h2 fun y hy => hn y (List.mem_cons_of_mem _ hy)⟩
      rcases mem_insH.1 hy with rfl | hy
      · have := hn x (List.mem_cons_self ..); omega
      · exact h1 y hy
theorem HSort.del {H : List Hd} (hs : HSort H) (o : Nat) : HSort (delH H o) := hs.filter _
theorem mem_delH {H : List Hd} {o : Nat} {y : Hd} : y ∈ delH H o ↔ y ∈ H ∧ y.o ≠ o := by simp [delH, List.mem_filter]
theorem delH_length {H : List Hd} (hs : HSort H) {h : Hd} (hh : h ∈ H) : (delH H h.o).length + 1 = H.length := by
  induction H with
  | nil => cases hh
  | cons x r ih =>
    obtain ⟨h1, h2⟩ := List.pairwise_cons.1 hs
    rcases List.mem_cons.1 hh with rfl | hr
    · have : delH r h.o = r := by
        unfold delH
        rw [List.filter_eq_self]
        intro y hy
        have := h1 y hy
        simp; omega
      unfold delH at this ⊢
      simp [this]
    · have hx := h1 h hr
      have := ih h2 hr
      unfold delH at this ⊢
      rw [List.filter_cons, if_pos (by simp; omega)]
      simp [this]
theorem held_ins (h : Hd) (x : List UInt8) (t : Nat) : ∀ H : List Hd, held (insH h H) x t = (if h.n == x && h.t == t then h.k else 0) + held H x t
  | [] => rfl
  | y :: r => by
    unfold insH
    split
    · rfl
    · simp only [held, held_ins h x t r]; omega
theorem setH_orders (H : List Hd) (o t : Nat) : (setH H o t).map (·.o) = H.map (·.o) := by
  unfold setH
  rw [List.map_map]
  refine List.map_congr_left fun h _ => ?_
  simp only [Function.comp]
  split <;> rfl
theorem setH_length (H : List Hd) (o t : Nat) : (setH H o t).length = H.length := by simp [setH]
theorem HSort_iff (H : List Hd) : HSort H ↔ (H.map (·.o)).Pairwise (· < ·) := by unfold HSort; rw [List.pairwise_map]
theorem HSort.set {H : List Hd} (h : HSort H) (o t : Nat) : HSort (setH H o t) := by rw [HSort_iff, setH_orders, ← HSort_iff]; exact h
theorem HSort.st {H : List Hd} (h : HSort H) (t : Nat) : HSort (stH H t) := h.filter _
theorem mem_stH {H : List Hd} {t : Nat} {y : Hd} : y ∈ stH H t ↔ y ∈ H ∧ y.t = t := by simp [stH, List.mem_filter]
theorem mem_setH {H : List Hd} {o t : Nat} {y : Hd} : y ∈ setH H o t ↔ (∃ h ∈ H, h.o = o ∧ y = ⟨h.o, h.n, h.k, t⟩) ∨ (y ∈ H ∧ y.o ≠ o) := by
  unfold setH
  rw [List.mem_map]
  constructor
  · rintro ⟨h, hh, rfl⟩
    by_cases e : h.o = o
    · left; rw [if_pos (by simpa using e)]; exact ⟨h, hh, e, rfl⟩
    · right; rw [if_neg (by simpa using e)]; exact ⟨hh, e⟩
  · rintro (⟨h, hh, e, rfl⟩ | ⟨hy, e⟩)
    · exact ⟨h, hh, by simp [e]⟩
    · exact ⟨y, hy, by rw [if_neg (by simpa using e)]⟩
theorem setH_none {H : List Hd} {o t : Nat} (h : ∀ x ∈ H, x.o ≠ o) : setH H o t = H := by
  unfold setH
  conv => rhs; rw [← List.map_id H]
  refine List.map_congr_left fun y hy => ?_
  rw [if_neg (by simpa using h y hy)]; rfl
theorem held_set {H : List Hd} (hs : HSort H) {h : Hd} (hh : h ∈ H) (t : Nat) (x : List UInt8) (u : Nat) :
    held (setH H h.o t) x u = held H x u - (if h.n == x && h.t == u then h.k else 0) + (if h.n == x && t == u then h.k else 0) := by
  induction H with
  | nil => cases hh
  | cons y r ih =>
    obtain ⟨h1, h2⟩ := List.pairwise_cons.1 hs
    rcases List.mem_cons.1 hh with rfl | hr
    · have e := setH_none (H := r) (o := h.o) (t := t) fun z hz => by have := h1 z hz; omega
      unfold setH at e ⊢
      rw [List.map_cons, if_pos (by simp), e]
      simp only [held]; omega
    · have hx := h1 h hr
      have := ih h2 hr
      unfold setH at this ⊢
      rw [List.map_cons, if_neg (by simp; omega)]
      simp only [held, this]; omega
/-! ### the payments of each state, behind each call -/
theorem nodup_of_sort {H : List Hd} (h : HSort H) : H.Nodup := List.Pairwise.imp (fun {a b} hlt e => by subst e; omega) h
theorem HSort.ext {H L : List Hd} (h : HSort H) (h' : HSort L) (e : ∀ y, y ∈ H ↔ y ∈ L) : H = L := by
  have hp := (List.perm_ext_iff_of_nodup (nodup_of_sort h) (nodup_of_sort h')).2 e
  exact List.Perm.eq_of_pairwise (le := fun a b : Hd => a.o < b.o) (fun a b _ _ q1 q2 => by omega) h h' hp
theorem stH_ins {H : List Hd} {h : Hd} (hs : HSort H) (hn : ∀ x ∈ H, x.o ≠ h.o) (t : Nat) : stH (insH h H) t = if h.t = t then insH h (stH H t) else stH H t := by
  have hn2 : ∀ x ∈ stH H t, x.o ≠ h.o := fun x hx => hn x (mem_stH.1 hx).1
  split
  · rename_i e
    refine ((hs.ins hn).st t).ext ((hs.st t).ins hn2) fun y => ?_
    rw [mem_stH, mem_insH, mem_insH, mem_stH]
    constructor
    · rintro ⟨rfl | h1, h2⟩
      · exact .inl rfl
      · exact .inr ⟨h1, h2⟩
    · rintro (rfl | ⟨h1, h2⟩)
      · exact ⟨.inl rfl, e⟩
      · exact ⟨.inr h1, h2⟩
  · rename_i e
    refine ((hs.ins hn).st t).ext (hs.st t) fun y => ?_
    rw [mem_stH, mem_insH, mem_stH]
    constructor
    · rintro ⟨rfl | h1, h2⟩
      · exact absurd h2 e
      · exact ⟨h1, h2⟩
    · rintro ⟨h1, h2⟩
      exact ⟨.inr h1, h2⟩
theorem stH_set_from {H : List Hd} (hs : HSort H) {h : Hd} (hh : h ∈ H) {t : Nat} (ht : h.t ≠ t) : stH (setH H h.o t) h.t = delH (stH H h.t) h.o := by
  refine ((hs.set _ _).st _).ext ((hs.st _).del _) fun y => ?_
  rw [mem_stH, mem_setH, mem_delH, mem_stH]
  constructor
  · rintro ⟨⟨z, hz, e, rfl⟩ | ⟨h1, h2⟩, h3⟩
    · exact absurd h3.symm ht
    · exact ⟨⟨h1, h3⟩, h2⟩
  · rintro ⟨⟨h1, h3⟩, h2⟩
    exact ⟨.inr ⟨h1, h2⟩, h3⟩
theorem stH_set_to {H : List Hd} (hs : HSort H) {h : Hd} (hh : h ∈ H) {t : Nat} (ht : h.t ≠ t) : stH (setH H h.o t) t = insH ⟨h.o, h.n, h.k, t⟩ (stH H t) := by
  have hn : ∀ x ∈ stH H t, x.o ≠ h.o := fun x hx e => by
    obtain ⟨h1, h2⟩ := mem_stH.1 hx
    have := hs.uniq h1 hh e
    subst this
    exact ht h2
  refine ((hs.set _ _).st _).ext ((hs.st _).ins (h := ⟨h.o, h.n, h.k, t⟩) hn) fun y => ?_
  rw [mem_stH, mem_setH, mem_insH, mem_stH]
  constructor
  · rintro ⟨⟨z, hz, e, rfl⟩ | ⟨h1, h2⟩, h3⟩
    · have := hs.uniq hz hh e
      subst this
      exact .inl rfl
    · exact .inr ⟨h1, h3⟩
  · rintro (rfl | ⟨h1, h2⟩)
    · exact ⟨.inl ⟨h, hh, rfl, rfl⟩, rfl⟩
    · exact ⟨.inr ⟨h1, hn y (mem_stH.2 ⟨h1, h2⟩)⟩, h2⟩
theorem stH_set_other {H : List Hd} (hs : HSort H) {h : Hd} (hh : h ∈ H) {t u : Nat} (hu : u ≠ t) (hu2 : u ≠ h.t) : stH (setH H h.o t) u = stH H u := by
  refine ((hs.set _ _).st _).ext (hs.st _) fun y => ?_
  rw [mem_stH, mem_setH, mem_stH]
  constructor
  · rintro ⟨⟨z, hz, e, rfl⟩ | ⟨h1, h2⟩, h3⟩
    · exact absurd h3.symm hu
    · exact ⟨h1, h3⟩
  · rintro ⟨h1, h2⟩
    refine ⟨.inr ⟨h1, fun e => ?_⟩, h2⟩
    have := hs.uniq h1 hh e
    subst this
    exact hu2 h2.symm
theorem findH_st {H : List Hd} (hs : HSort H) (o t : Nat) : findH (stH H t) o = match findH H o with | none => none | some h => if h.t = t then some h else none := by
  cases hf : findH H o with
  | none => exact findH_none' fun y hy => findH_none hf y (mem_stH.1 hy).1
  | some h =>
    obtain ⟨hh, rfl⟩ := findH_some hf
    dsimp only
    split
    · rename_i e; exact (hs.st t).find (mem_stH.2 ⟨hh, e⟩)
    · rename_i e
      refine findH_none' fun y hy e' => ?_
      obtain ⟨h1, h2⟩ := mem_stH.1 hy
      have := hs.uniq h1 hh e'
      subst this
      exact e h2

/-! ### a purse that may be -/
structure Inv (s : Ss) : Prop where
  ks : KSort s.K
  hs : HSort s.H
  kl : ∀ k ∈ s.K, 1 ≤ k.n.length ∧ k.n.length ≤ 32
  kf : ∀ k ∈ s.K, 0 ≤ k.h ∧ k.h ≤ k.m ∧ k.h = held s.H k.n 1 ∧ k.m + held s.H k.n 2 ≤ 1000000000
  hh : ∀ h ∈ s.H, 1 ≤ h.k ∧ 0 < h.o ∧ h.o < 4294967296 ∧ 1 ≤ h.t ∧ h.t ≤ 3 ∧ h.k ≤ 1000000000 ∧ ∃ k ∈ s.K, k.n = h.n
  kz : s.K.length ≤ 50

theorem held_nonneg {H : List Hd} (h : ∀ y ∈ H, 1 ≤ y.k) (x : List UInt8) (t : Nat) : 0 ≤ held H x t := by
  induction H with
  | nil => exact Int.le_refl _
  | cons y r ih =>
    have h1 := h y (List.mem_cons_self ..)
    have h2 := ih fun z hz => h z (List.mem_cons_of_mem _ hz)
    simp only [held]
    split <;> omega
theorem held_ge {H : List Hd} (h : ∀ y ∈ H, 1 ≤ y.k) {y : Hd} (hy : y ∈ H) : y.k ≤ held H y.n y.t := by
  induction H with
  | nil => cases hy
  | cons z r ih =>
    have h1 := h z (List.mem_cons_self ..)
    have h3 := fun z hz => h z (List.mem_cons_of_mem _ hz)
    simp only [held]
    rcases List.mem_cons.1 hy with rfl | hr
    · rw [if_pos (by simp)]
      have := held_nonneg h3 y.n y.t
      omega
    · have := ih h3 hr
      split <;> omega
theorem Inv.pos {s : Ss} (h : Inv s) : ∀ y ∈ s.H, 1 ≤ y.k := fun y hy => (h.hh y hy).1
theorem Inv.kn {s : Ss} (h : Inv s) {y : Hd} (hy : y ∈ s.H) : ∃ k, findK s.K y.n = some k ∧ k ∈ s.K ∧ k.n = y.n := by
  obtain ⟨-, -, -, -, -, -, k, hk, e⟩ := h.hh y hy
  exact ⟨k, e ▸ h.ks.find hk, hk, e⟩
theorem Inv.kb {s : Ss} (h : Inv s) {y : Hd} (hy : y ∈ s.H) : y.k ≤ 1000000000 ∧ y.n.length ≤ 32 := by
  obtain ⟨k, -, hk, e⟩ := h.kn hy
  exact ⟨(h.hh y hy).2.2.2.2.2.1, e ▸ (h.kl k hk).2⟩
/-- What is known of an account, as numbers. -/
theorem Inv.kbs {s : Ss} (h : Inv s) {k : Kd} (hk : k ∈ s.K) : 0 ≤ k.h ∧ k.h ≤ k.m ∧ k.m ≤ 1000000000 := by
  have h1 := h.kf k hk
  have h2 := held_nonneg h.pos k.n 2
  omega

theorem authV_iff {s : Ss} {o : Nat} {x : List UInt8} {n : Int} : authV s o x n = true ↔ o ≠ 0 ∧ 1 ≤ n ∧ findH s.H o = none ∧ ∃ k, findK s.K x = some k ∧ n ≤ k.m - k.h := by
  unfold authV
  cases hk : findK s.K x <;> simp [and_assoc]
theorem authS_no {s : Ss} {o : Nat} {x : List UInt8} {n : Int} (h : authV s o x n = false) : authS s o x n = s := by
  unfold authS; rw [if_neg (by rw [h]; decide)]
theorem authS_yes {s : Ss} {o : Nat} {x : List UInt8} {n : Int} (h : authV s o x n = true) {k : Kd} (hk : findK s.K x = some k) : authS s o x n = ⟨updK s.K ⟨k.n, k.m, k.h + n⟩, insH ⟨o, k.n, n, 1⟩ s.H⟩ := by
  unfold authS; rw [if_pos h, hk]
theorem movV_iff {s : Ss} {o c : Nat} : movV s o c = true ↔ ∃ h, findH s.H o = some h ∧ h.t = frS c := by
  unfold movV
  cases hf : findH s.H o <;> simp
theorem movS_no {s : Ss} {o c : Nat} (h : movV s o c = false) : movS s o c = s := by
  unfold movS; rw [if_neg (by rw [h]; decide)]
theorem movS_yes {s : Ss} {o c : Nat} {h : Hd} {k : Kd} (h1 : findH s.H o = some h) (h0 : h.t = frS c) (h2 : findK s.K h.n = some k) : movS s o c = ⟨updK s.K (movK k h.k c), setH s.H o (toS c)⟩ := by
  unfold movS
  rw [if_pos (movV_iff.2 ⟨h, h1, h0⟩), h1]; dsimp only; rw [h2]
theorem movK_n (k : Kd) (m : Int) (c : Nat) : (movK k m c).n = k.n := by
  unfold movK
  split
  · rfl
  · split <;> rfl

theorem Inv.auth {s : Ss} (h : Inv s) {o : Nat} (ho : o < 4294967296) (x : List UInt8) (n : Int) : Inv (authS s o x n) := by
  cases hv : authV s o x n
  · rw [authS_no hv]; exact h
  · obtain ⟨h0, h1, h2, k, hk, h3⟩ := authV_iff.1 hv
    rw [authS_yes hv hk]
    obtain ⟨hm, rfl⟩ := findK_some hk
    have hn := findH_none h2
    have hkf := h.kf k hm
    have hp := held_nonneg h.pos k.n 2
    refine ⟨h.ks.upd _, h.hs.ins hn, ?_, ?_, ?_, by rw [updK_length]; exact h.kz⟩
    · intro y hy
      rcases mem_updK.1 hy with ⟨rfl, _⟩ | ⟨hy, _⟩
      · exact h.kl k hm
      · exact h.kl y hy
    · intro y hy
      show 0 ≤ y.h ∧ y.h ≤ y.m ∧ y.h = held (insH ⟨o, k.n, n, 1⟩ s.H) y.n 1 ∧ y.m + held (insH ⟨o, k.n, n, 1⟩ s.H) y.n 2 ≤ 1000000000
      rw [held_ins, held_ins]
      rcases mem_updK.1 hy with ⟨rfl, _⟩ | ⟨hy, hne⟩
      · dsimp only
        rw [if_pos (by simp), if_neg (by simp)]
        omega
      · have := h.kf y hy
        have hne' : k.n ≠ y.n := fun e => hne e.symm
        dsimp only
        rw [if_neg (by simpa using hne'), if_neg (by simp)]
        omega
    · intro y hy
      rcases mem_insH.1 hy with rfl | hy
      · exact ⟨h1, by show 0 < o; omega, ho, by show 1 ≤ 1; omega, by show 1 ≤ 3; omega, by show n ≤ _; omega, ⟨k.n, k.m, k.h + n⟩, mem_updK.2 (.inl ⟨rfl, k, hm, rfl⟩), rfl⟩
      · obtain ⟨a, b, c, d, e0, f, k2, hk2, e⟩ := h.hh y hy
        refine ⟨a, b, c, d, e0, f, ?_⟩
        by_cases e2 : k2.n = k.n
        · exact ⟨⟨k.n, k.m, k.h + n⟩, mem_updK.2 (.inl ⟨rfl, k, hm, rfl⟩), e2.symm.trans e⟩
        · exact ⟨k2, mem_updK.2 (.inr ⟨hk2, e2⟩), e⟩

theorem frS_or (c : Nat) (hc : c ≤ 2) : (c = 0 ∧ frS c = 1 ∧ toS c = 2) ∨ (c = 1 ∧ frS c = 1 ∧ toS c = 3) ∨ (c = 2 ∧ frS c = 2 ∧ toS c = 3) := by
  rcases (by omega : c = 0 ∨ c = 1 ∨ c = 2) with rfl | rfl | rfl <;> simp [frS, toS]

theorem Inv.mov {s : Ss} (h : Inv s) (o : Nat) {c : Nat} (hc : c ≤ 2) : Inv (movS s o c) := by
  cases hv : movV s o c with
  | false => rw [movS_no hv]; exact h
  | true =>
    obtain ⟨y, hf, ht⟩ := movV_iff.1 hv
    obtain ⟨hy, rfl⟩ := findH_some hf
    obtain ⟨k, hk, hm, e⟩ := h.kn hy
    rw [movS_yes hf ht hk]
    have hkf := h.kf k hm
    have hyk := (h.hh y hy).1
    have hge := held_ge h.pos hy
    have hp2 := held_nonneg h.pos k.n 2
    have hp1 := held_nonneg h.pos k.n 1
    refine ⟨h.ks.upd _, h.hs.set _ _, ?_, ?_, ?_, by rw [updK_length]; exact h.kz⟩
    · intro z hz
      rcases mem_updK.1 hz with ⟨rfl, _⟩ | ⟨hz, _⟩
      · rw [movK_n]; exact h.kl k hm
      · exact h.kl z hz
    · intro z hz
      show 0 ≤ z.h ∧ z.h ≤ z.m ∧ z.h = held (setH s.H y.o (toS c)) z.n 1 ∧ z.m + held (setH s.H y.o (toS c)) z.n 2 ≤ 1000000000
      rw [held_set h.hs hy, held_set h.hs hy]
      rcases mem_updK.1 hz with ⟨rfl, _⟩ | ⟨hz, hne⟩
      · rw [movK_n, e]
        rw [e] at hkf hp1 hp2
        rw [ht] at hge
        simp only [beq_self_eq_true, Bool.true_and, ht]
        rcases frS_or c hc with ⟨rfl, e1, e2⟩ | ⟨rfl, e1, e2⟩ | ⟨rfl, e1, e2⟩ <;> rw [e1] at hge <;> (rw [e1, e2]; unfold movK; simp; omega)
      · have := h.kf z hz
        rw [movK_n] at hne
        have hb : (y.n == z.n) = false := by rw [beq_eq_false_iff_ne]; intro e'; exact hne (e'.symm.trans e.symm)
        simp only [hb, Bool.false_and, Bool.false_eq_true, if_false]
        omega
    · have hkk : ∀ z : List UInt8, (∃ k2 ∈ s.K, k2.n = z) → ∃ k2 ∈ updK s.K (movK k y.k c), k2.n = z := by
        rintro z ⟨k2, hk2, e3⟩
        by_cases e2 : k2.n = k.n
        · exact ⟨movK k y.k c, mem_updK.2 (.inl ⟨rfl, k, hm, by rw [movK_n]⟩), by rw [movK_n]; exact e2.symm.trans e3⟩
        · exact ⟨k2, mem_updK.2 (.inr ⟨hk2, by rw [movK_n]; exact e2⟩), e3⟩
      intro z hz
      rcases mem_setH.1 hz with ⟨x, hx, e1, rfl⟩ | ⟨hz, -⟩
      · obtain ⟨a, b, d, -, -, f, k2⟩ := h.hh x hx
        refine ⟨a, b, d, ?_, ?_, f, hkk _ k2⟩ <;> (rcases frS_or c hc with ⟨rfl, e1, e2⟩ | ⟨rfl, e1, e2⟩ | ⟨rfl, e1, e2⟩ <;> simp [toS])
      · obtain ⟨a, b, d, d2, d3, f, k2⟩ := h.hh z hz
        exact ⟨a, b, d, d2, d3, f, hkk _ k2⟩

theorem authS_len (s : Ss) (o : Nat) (x : List UInt8) (n : Int) : (authS s o x n).H.length ≤ s.H.length + 1 ∧ (authS s o x n).K.map (·.n) = s.K.map (·.n) := by
  cases hv : authV s o x n
  · rw [authS_no hv]; exact ⟨by omega, rfl⟩
  · obtain ⟨h0, h1, h2, k, hk, h3⟩ := authV_iff.1 hv
    rw [authS_yes hv hk]
    exact ⟨by rw [insH_length]; omega, updK_names _ _⟩
theorem movS_len (s : Ss) (o c : Nat) : (movS s o c).H.length ≤ s.H.length ∧ (movS s o c).K.map (·.n) = s.K.map (·.n) := by
  unfold movS
  split
  · split
    · exact ⟨Nat.le_refl _, rfl⟩
    · split
      · exact ⟨Nat.le_refl _, rfl⟩
      · exact ⟨by rw [setH_length]; exact Nat.le_refl _, by rw [updK_names]⟩
  · exact ⟨Nat.le_refl _, rfl⟩

end Go.Proofs.YtpbclmnhkmcknaaGreat.Pu

namespace Go.Proofs.YtpbclmnhkmcknaaGreat.Do
open Go.RowKit
set_option maxRecDepth 100000
set_option linter.unusedVariables false

/-- Block g is just these cells. -/
def Lies (w : World) (g : Nat) (t : TypeId) (cs : Array Value) : Prop := w.heap[g]? = some (.cells cs t (0, 0))

theorem Lies.lt {w : World} {g : Nat} {t : TypeId} {cs : Array Value} (h : Lies w g t cs) : g < w.heap.size := by
  refine Classical.byContradiction fun hn => ?_
  unfold Lies at h
  rw [Array.getElem?_eq_none (by omega)] at h
  cases h
theorem Lies.cell {w : World} {g : Nat} {t : TypeId} {cs : Array Value} (h : Lies w g t cs) (i : Nat) : w.cell? ⟨g, i, none⟩ = cs[i]? := cell_of_row w g i cs t (0, 0) h
theorem Lies.free {w : World} {g : Nat} {t : TypeId} {cs : Array Value} (h : Lies w g t cs) (i : Nat) : w.frozen? ⟨g, i, none⟩ = false := frozen_of_row w g i cs t h
theorem Lies.made (w : World) (t : TypeId) (cs : Array Value) : Lies (w.alloc (.cells cs t)) w.heap.size t cs := heap_alloc_new w _
theorem Lies.put {w : World} {g : Nat} {t : TypeId} {cs : Array Value} (h : Lies w g t cs) (i : Nat) (v : Value) : Lies (w.setCell ⟨g, i, none⟩ v) g t (cs.setIfInBounds i v) := heap_setCell_same w g i cs t v h
theorem Lies.other {w : World} {g : Nat} {t : TypeId} {cs : Array Value} (h : Lies w g t cs) {a : Addr} (ha : g ≠ a.block) (v : Value) : Lies (w.setCell a v) g t cs := (heap_setCell_other w a g v ha).trans h
theorem Lies.there {w : World} {g : Nat} {t : TypeId} {cs : Array Value} (h : Lies w g t cs) (n : Nat) (hn : n ≤ cs.size) : w.there g 0 n := fun j hj => by
  rw [Nat.zero_add]
  exact ⟨by rw [h.cell, Array.getElem?_eq_getElem (by omega)]; rfl, h.free j⟩
theorem size_one (w : World) (o : Obj) : (w.alloc o).heap.size = w.heap.size + 1 := by simp
theorem Lies.made2 (w : World) (o : Obj) (t : TypeId) (cs : Array Value) : Lies ((w.alloc o).alloc (.cells cs t)) (w.heap.size + 1) t cs := by
  have := Lies.made (w.alloc o) t cs
  rwa [size_one] at this
theorem below1 (w : World) (o : Obj) : Below w.heap.size w (w.alloc o) := (Below.refl _ _).alloc (Nat.le_refl _) _
section
variable {P : Program} {ops : Array Oper} {Q : Exit → Act → World → Prop} {md : Region.Mode} {S : World → Prop}

end


end Go.Proofs.YtpbclmnhkmcknaaGreat.Do

namespace Go.Proofs.YtpbclmnhkmcknaaGreat.Do
set_option linter.unusedVariables false

/-- A booking: its order, its day, how many parcels. -/
structure Hd where
  o : Nat
  d : Nat
  k : Int
instance : Inhabited Hd := ⟨⟨0, 0, 0⟩⟩
/-- A dock. -/
structure Ss where
  F : List Int
  H : List Hd

/-- Ahead of one another: by days, then by orders. -/
def ahead (a b : Hd) : Prop := a.d < b.d ∨ (a.d = b.d ∧ a.o < b.o)
instance (a b : Hd) : Decidable (ahead a b) := by unfold ahead; infer_instance
def findH (H : List Hd) (o : Nat) : Option Hd := H.find? (fun h => h.o == o)
def insH (h : Hd) : List Hd → List Hd
  | [] => [h]
  | x :: r => if ahead h x then h :: x :: r else x :: insH h r
def delH (H : List Hd) (o : Nat) : List Hd := H.filter (fun h => h.o != o)
/-- The place of a day. -/
def fr (F : List Int) (d : Nat) : Int := F.getD d 0
/-- What is booked of a day. -/
def bkd : List Hd → Nat → Int
  | [], _ => 0
  | h :: r, d => (if h.d == d then h.k else 0) + bkd r d
/-- The first day from f on with room for n. -/
def fday (F : List Int) (f n : Int) : Option Nat := (List.range F.length).find? (fun d => decide (f ≤ (d : Int)) && decide (n ≤ fr F d))

def bookD (s : Ss) (o : Nat) (f n : Int) : Option Nat :=
  if o ≠ 0 ∧ 1 ≤ n ∧ 0 ≤ f ∧ findH s.H o = none then fday s.F f n else none
def bookS (s : Ss) (o : Nat) (f n : Int) : Ss :=
  match bookD s o f n with
  | none => s
  | some d => ⟨s.F.set d (fr s.F d - n), insH ⟨o, d, n⟩ s.H⟩
def cancS (s : Ss) (o : Nat) : Ss :=
  match findH s.H o with
  | none => s
  | some h => ⟨s.F.set h.d (fr s.F h.d + h.k), delH s.H o⟩
def verd (b : Bool) : Int := if b then 1 else 2
def dayI (d : Option Nat) : Int := match d with | none => 0 | some d => (d : Int)

structure HSort (H : List Hd) : Prop where
  p : H.Pairwise ahead
  u : H.Pairwise (fun a b => a.o ≠ b.o)

theorem ahead_trans {a b c : Hd} (h : ahead a b) (h' : ahead b c) : ahead a c := by unfold ahead at *; omega
theorem ahead_tri {a b : Hd} (h : ¬ ahead a b) (h' : a.o ≠ b.o) : ahead b a := by unfold ahead at *; omega

/-! ### bookings -/
theorem findH_some {H : List Hd} {o : Nat} {h : Hd} (e : findH H o = some h) : h ∈ H ∧ h.o = o :=
  ⟨List.mem_of_find?_eq_some e, by simpa using List.find?_some e⟩
theorem findH_none {H : List Hd} {o : Nat} (h : findH H o = none) : ∀ x ∈ H, x.o ≠ o := fun k hk e => by
  have := List.find?_eq_none.1 h k hk
  simp [e] at this
theorem HSort.nil : HSort [] := ⟨List.Pairwise.nil, List.Pairwise.nil⟩
theorem HSort.cons {x : Hd} {r : List Hd} (h : HSort (x :: r)) : (∀ y ∈ r, ahead x y ∧ x.o ≠ y.o) ∧ HSort r := by
  obtain ⟨h1, h2⟩ := List.pairwise_cons.1 h.p
  obtain ⟨h3, h4⟩ := List.pairwise_cons.1 h.u
  exact ⟨fun y hy => ⟨h1 y hy, h3 y hy⟩, h2, h4⟩
theorem HSort.mk_cons {x : Hd} {r : List Hd} (h : ∀ y ∈ r, ahead x y ∧ x.o ≠ y.o) (hr : HSort r) : HSort (x :: r) :=
  ⟨List.pairwise_cons.2 ⟨fun y hy => (h y hy).1, hr.p⟩, List.pairwise_cons.2 ⟨fun y hy => (h y hy).2, hr.u⟩⟩
theorem HSort.uniq {H : List Hd} (h : HSort H) {a b : Hd} (ha : a ∈ H) (hb : b ∈ H) (e : a.o = b.o) : a = b := by
  induction H with
  | nil => cases ha
  | cons x r ih =>
    obtain ⟨h1, h2⟩ := h.cons
    rcases List.mem_cons.1 ha with ea | ha'
    · rcases List.mem_cons.1 hb with eb | hb'
      · rw [ea, eb]
      · subst ea; exact absurd e (h1 b hb').2
    · rcases List.mem_cons.1 hb with eb | hb'
      · subst eb; exact absurd e.symm (h1 a ha').2
      · exact ih h2 ha' hb'
theorem HSort.find {H : List Hd} (h : HSort H) {x : Hd} (hx : x ∈ H) : findH H x.o = some x := by
  cases hf : findH H x.o with
  | none => exact absurd rfl (findH_none hf x hx)
  | some k' => obtain ⟨h1, h2⟩ := findH_some hf; rw [h.uniq h1 hx h2]
theorem mem_insH {h y : Hd} : ∀ {H : List Hd}, y ∈ insH h H ↔ y = h ∨ y ∈ H
  | [] => by simp [insH]
  | x :: r => by
    unfold insH
    split
    · simp
    · simp only [List.mem_cons, mem_insH (H := r)]
      constructor
      · rintro (h | h | h) <;> simp [h]
      · rintro (h | h | h) <;> simp [h]
theorem insH_length (h : Hd) : ∀ H : List Hd, (insH h H).length = H.length + 1
  | [] => rfl
  | x :: r => by unfold insH; split <;> simp [insH_length h r]
theorem HSort.ins {H : List Hd} {h : Hd} (hs : HSort H) (hn : ∀ x ∈ H, x.o ≠ h.o) : HSort (insH h H) := by
  induction H with
  | nil => exact ⟨List.pairwise_singleton _ _, List.pairwise_singleton _ _⟩
  | cons x r ih =>
    obtain ⟨h1, h2⟩ := hs.cons
    unfold insH
    split
    · rename_i e
      refine HSort.mk_cons (fun y hy => ?_) hs
      have hyo := hn y hy
      rcases List.mem_cons.1 hy with rfl | hy
      · exact ⟨e, fun e' => hyo e'.symm⟩
      · exact ⟨ahead_trans e (h1 y hy).1, fun e' => hyo e'.symm⟩
    · rename_i e
      refine HSort.mk_cons (fun y hy => ?_) (ih h2 fun y hy => hn y (List.mem_cons_of_mem _ hy))
      have hxo := hn x (List.mem_cons_self ..)
      rcases mem_insH.1 hy with rfl | hy
      · exact ⟨ahead_tri e (fun e' => hxo e'.symm), hxo⟩
      · exact h1 y hy
theorem HSort.del {H : List Hd} (hs : HSort H) (o : Nat) : HSort (delH H o) := ⟨hs.p.filter _, hs.u.filter _⟩
theorem mem_delH {H : List Hd} {o : Nat} {y : Hd} : y ∈ delH H o ↔ y ∈ H ∧ y.o ≠ o := by simp [delH, List.mem_filter]
theorem delH_none {H : List Hd} {o : Nat} (h : ∀ x ∈ H, x.o ≠ o) : delH H o = H := by
  unfold delH
  rw [List.filter_eq_self]
  intro y hy
  simpa using h y hy
theorem delH_length {H : List Hd} (hs : HSort H) {h : Hd} (hh : h ∈ H) : (delH H h.o).length + 1 = H.length := by
  induction H with
  | nil => cases hh
  | cons x r ih =>
    obtain ⟨h1, h2⟩ := hs.cons
    rcases List.mem_cons.1 hh with rfl | hr
    · have : delH r h.o = r := delH_none fun y hy e => (h1 y hy).2 e.symm
      unfold delH at this ⊢
      simp [this]
    · have hx := (h1 h hr).2
      have := ih h2 hr
      unfold delH at this ⊢
      rw [List.filter_cons, if_pos (by simpa using hx)]
      simp [this]
theorem bkd_ins (h : Hd) (d : Nat) : ∀ H : List Hd, bkd (insH h H) d = (if h.d == d then h.k else 0) + bkd H d
  | [] => rfl
  | y :: r => by
    unfold insH
    split
    · rfl
    · simp only [bkd, bkd_ins h d r]; omega
theorem bkd_del {H : List Hd} (hs : HSort H) {h : Hd} (hh : h ∈ H) (d : Nat) : bkd (delH H h.o) d = bkd H d - (if h.d == d then h.k else 0) := by
  induction H with
  | nil => cases hh
  | cons y r ih =>
    obtain ⟨h1, h2⟩ := hs.cons
    rcases List.mem_cons.1 hh with rfl | hr
    · have e : delH r h.o = r := delH_none fun z hz e => (h1 z hz).2 e.symm
      unfold delH at e ⊢
      rw [List.filter_cons, if_neg (by simp), e]
      simp only [bkd]; omega
    · have hx := (h1 h hr).2
      have := ih h2 hr
      unfold delH at this ⊢
      rw [List.filter_cons, if_pos (by simpa using hx)]
      simp only [bkd, this]; omega
theorem bkd_nonneg {H : List Hd} (h : ∀ y ∈ H, 1 ≤ y.k) (d : Nat) : 0 ≤ bkd H d := by
  induction H with
  | nil => exact Int.le_refl _
  | cons y r ih =>
    have h1 := h y (List.mem_cons_self ..)
    have h2 := ih fun z hz => h z (List.mem_cons_of_mem _ hz)
    simp only [bkd]
    split <;> omega
theorem bkd_ge {H : List Hd} (h : ∀ y ∈ H, 1 ≤ y.k) {y : Hd} (hy : y ∈ H) : y.k ≤ bkd H y.d := by
  induction H with
  | nil => cases hy
  | cons z r ih =>
    have h1 := h z (List.mem_cons_self ..)
    have h3 := fun z hz => h z (List.mem_cons_of_mem _ hz)
    simp only [bkd]
    rcases List.mem_cons.1 hy with rfl | hr
    · rw [if_pos (by simp)]
      have := bkd_nonneg h3 y.d
      omega
    · have := ih h3 hr
      split <;> omega
/-! ### days -/
theorem fr_set (F : List Int) (d i : Nat) (x : Int) : fr (F.set d x) i = if i = d ∧ d < F.length then x else fr F i := by
  unfold fr
  rw [List.getD_eq_getElem?_getD, List.getD_eq_getElem?_getD, List.getElem?_set]
  by_cases h : d = i
  · subst h
    by_cases h2 : d < F.length
    · simp [h2]
    · simp [h2]
  · rw [if_neg h, if_neg (by omega)]
theorem fr_get {F : List Int} {d : Nat} (h : d < F.length) : F[d] = fr F d := by simp [fr, h]
theorem fday_some {F : List Int} {f n : Int} {d : Nat} : fday F f n = some d ↔ d < F.length ∧ f ≤ (d : Int) ∧ n ≤ fr F d ∧ ∀ j, j < d → ¬ (f ≤ (j : Int) ∧ n ≤ fr F j) := by
  unfold fday
  rw [List.find?_range_eq_some]
  simp only [List.mem_range, Bool.and_eq_true, decide_eq_true_eq, Bool.not_eq_true', Bool.and_eq_false_iff, decide_eq_false_iff_not]
  constructor
  · rintro ⟨⟨h1, h2⟩, h3, h4⟩
    refine ⟨h3, h1, h2, fun j hj hc => ?_⟩
    rcases h4 j hj with h | h
    · exact h hc.1
    · exact h hc.2
  · rintro ⟨h3, h1, h2, h4⟩
    refine ⟨⟨h1, h2⟩, h3, fun j hj => ?_⟩
    have := h4 j hj
    by_cases h5 : f ≤ (j : Int)
    · exact .inr fun h6 => this ⟨h5, h6⟩
    · exact .inl h5
theorem fday_none {F : List Int} {f n : Int} : fday F f n = none ↔ ∀ j, j < F.length → ¬ (f ≤ (j : Int) ∧ n ≤ fr F j) := by
  unfold fday
  rw [List.find?_eq_none]
  simp only [List.mem_range, Bool.and_eq_true, decide_eq_true_eq]

/-! ### a dock that may be -/
structure Inv (R : List Int) (s : Ss) : Prop where
  hs : HSort s.H
  fl : s.F.length = R.length
  fz : R.length ≤ 60
  rr : ∀ d, d < R.length → 0 ≤ fr R d ∧ fr R d ≤ 1000000
  ff : ∀ d, d < R.length → 0 ≤ fr s.F d ∧ fr s.F d + bkd s.H d = fr R d
  hh : ∀ h ∈ s.H, 1 ≤ h.k ∧ 0 < h.o ∧ h.o < 4294967296 ∧ h.d < R.length ∧ h.k ≤ 1000000

theorem Inv.pos {R : List Int} {s : Ss} (h : Inv R s) : ∀ y ∈ s.H, 1 ≤ y.k := fun y hy => (h.hh y hy).1
theorem Inv.fb {R : List Int} {s : Ss} (h : Inv R s) {d : Nat} (hd : d < R.length) : 0 ≤ fr s.F d ∧ fr s.F d ≤ 1000000 := by
  have h1 := h.ff d hd
  have h2 := h.rr d hd
  have h3 := bkd_nonneg h.pos d
  omega
theorem Inv.canc_bnd {R : List Int} {s : Ss} (h : Inv R s) {y : Hd} (hy : y ∈ s.H) : y.d < s.F.length ∧ 0 ≤ fr s.F y.d ∧ 1 ≤ y.k ∧ fr s.F y.d + y.k ≤ 1000000 := by
  have h0 := h.hh y hy
  have hd : y.d < R.length := h0.2.2.2.1
  have h1 := h.ff _ hd
  have h2 := h.rr _ hd
  have h3 := bkd_ge h.pos hy
  exact ⟨by rw [h.fl]; exact hd, h1.1, h0.1, by omega⟩

theorem bookD_some {s : Ss} {o : Nat} {f n : Int} {d : Nat} : bookD s o f n = some d ↔ (o ≠ 0 ∧ 1 ≤ n ∧ 0 ≤ f ∧ findH s.H o = none) ∧ fday s.F f n = some d := by
  unfold bookD
  split
  · rename_i h; exact ⟨fun e => ⟨h, e⟩, fun e => e.2⟩
  · rename_i h; exact ⟨fun e => (by cases e), fun e => absurd e.1 h⟩
theorem bookS_no {s : Ss} {o : Nat} {f n : Int} (h : bookD s o f n = none) : bookS s o f n = s := by unfold bookS; rw [h]
theorem bookS_yes {s : Ss} {o : Nat} {f n : Int} {d : Nat} (h : bookD s o f n = some d) : bookS s o f n = ⟨s.F.set d (fr s.F d - n), insH ⟨o, d, n⟩ s.H⟩ := by unfold bookS; rw [h]
theorem cancS_no {s : Ss} {o : Nat} (h : findH s.H o = none) : cancS s o = s := by unfold cancS; rw [h]
theorem cancS_yes {s : Ss} {o : Nat} {h : Hd} (e : findH s.H o = some h) : cancS s o = ⟨s.F.set h.d (fr s.F h.d + h.k), delH s.H o⟩ := by unfold cancS; rw [e]

theorem Inv.book {R : List Int} {s : Ss} (h : Inv R s) {o : Nat} (ho : o < 4294967296) (f n : Int) : Inv R (bookS s o f n) := by
  cases hv : bookD s o f n with
  | none => rw [bookS_no hv]; exact h
  | some d =>
    obtain ⟨⟨h0, h1, h2, h3⟩, hd⟩ := bookD_some.1 hv
    obtain ⟨d1, d2, d3, d4⟩ := fday_some.1 hd
    rw [bookS_yes hv]
    have hn := findH_none h3
    have hdl : d < R.length := by rw [← h.fl]; exact d1
    refine ⟨h.hs.ins hn, by simp [h.fl], h.fz, h.rr, fun e he => ?_, fun y hy => ?_⟩
    · have := h.ff e he
      show 0 ≤ fr (s.F.set d (fr s.F d - n)) e ∧ fr (s.F.set d (fr s.F d - n)) e + bkd (insH ⟨o, d, n⟩ s.H) e = fr R e
      rw [fr_set, bkd_ins]
      dsimp only
      by_cases e1 : e = d
      · subst e1
        rw [if_pos ⟨rfl, d1⟩, if_pos (by simp)]
        omega
      · rw [if_neg (by omega), if_neg (by simp; omega)]
        omega
    · rcases mem_insH.1 hy with rfl | hy
      · have := h.fb hdl
        exact ⟨h1, by show 0 < o; omega, ho, hdl, by show n ≤ _; omega⟩
      · exact h.hh y hy
theorem Inv.canc {R : List Int} {s : Ss} (h : Inv R s) (o : Nat) : Inv R (cancS s o) := by
  cases hf : findH s.H o with
  | none => rw [cancS_no hf]; exact h
  | some y =>
    obtain ⟨hy, rfl⟩ := findH_some hf
    rw [cancS_yes hf]
    have hb := h.canc_bnd hy
    refine ⟨h.hs.del _, by simp [h.fl], h.fz, h.rr, fun e he => ?_, fun z hz => h.hh z (mem_delH.1 hz).1⟩
    have := h.ff e he
    show 0 ≤ fr (s.F.set y.d (fr s.F y.d + y.k)) e ∧ fr (s.F.set y.d (fr s.F y.d + y.k)) e + bkd (delH s.H y.o) e = fr R e
    rw [fr_set, bkd_del h.hs hy]
    by_cases e1 : e = y.d
    · subst e1
      rw [if_pos ⟨rfl, hb.1⟩, if_pos (by simp)]
      omega
    · rw [if_neg (by omega), if_neg (by simp; omega)]
      omega
theorem bookS_len (s : Ss) (o : Nat) (f n : Int) : (bookS s o f n).H.length ≤ s.H.length + 1 ∧ (bookS s o f n).F.length = s.F.length := by
  cases hv : bookD s o f n with
  | none => rw [bookS_no hv]; exact ⟨by omega, rfl⟩
  | some d => rw [bookS_yes hv]; exact ⟨by rw [insH_length]; omega, by simp⟩
theorem cancS_len (s : Ss) (o : Nat) : (cancS s o).H.length ≤ s.H.length ∧ (cancS s o).F.length = s.F.length := by
  cases hf : findH s.H o with
  | none => rw [cancS_no hf]; exact ⟨by omega, rfl⟩
  | some y => rw [cancS_yes hf]; exact ⟨by unfold delH; exact List.length_filter_le _ _, by simp⟩

end Go.Proofs.YtpbclmnhkmcknaaGreat.Do

namespace Go.Proofs.YtpbclmnhkmcknaaGreat
open Fe (Kp Note Ent.be Ent.txt Ent.St Ent.rnum Ent.rtxt Ent.At askS keepF seeF okT okB Fc)
set_option maxRecDepth 100000
set_option linter.unusedVariables false

/-- A work. -/
structure Wk where
  t : Int
  n : Int
  x : List Nat
def wkB (k : Wk) : Bool := decide (1 ≤ k.t) && (decide (k.t ≤ 6) && (decide (0 ≤ k.n) && (decide (k.n ≤ 1000000000) && decide (k.x.length ≤ 32))))
theorem wkB_iff (k : Wk) : wkB k = true ↔ 1 ≤ k.t ∧ k.t ≤ 6 ∧ 0 ≤ k.n ∧ k.n ≤ 1000000000 ∧ k.x.length ≤ 32 := by
  unfold wkB; simp only [Bool.and_eq_true, decide_eq_true_eq]
/-- Its bytes. -/
def encW (k : Wk) : List Nat := Fe.Ent.be 1 k.t.toNat ++ (Fe.Ent.be 4 k.n.toNat ++ Fe.Ent.txt k.x)
/-- What a reader reads. -/
def r1 (l : List Nat) : Nat × Fe.Ent.St := Fe.Ent.rnum l 1 (0, false)
def r2 (l : List Nat) : Nat × Fe.Ent.St := Fe.Ent.rnum l 4 (r1 l).2
def r3 (l : List Nat) : List Nat × Fe.Ent.St := Fe.Ent.rtxt l (r2 l).2
def rdW (l : List Nat) : Wk := ⟨(r1 l).1, (r2 l).1, (r3 l).1⟩
def rdB (l : List Nat) : Bool := !(r3 l).2.2 && decide ((r3 l).2.1 = l.length)
/-- The work of bytes. -/
def decS (l : List Nat) : Option Wk := if rdB l = true ∧ wkB (rdW l) = true then some (rdW l) else none
theorem decS_some {l : List Nat} {k : Wk} (h : decS l = some k) : k = rdW l ∧ rdB l = true ∧ wkB k = true := by
  unfold decS at h
  split at h
  · rename_i c
    injection h with h
    exact ⟨h.symm, c.1, h ▸ c.2⟩
  · cases h
theorem txt_len (t : List Nat) : (Fe.Ent.txt t).length = t.length + 1 := by
  unfold Fe.Ent.txt
  rw [List.length_append, Fe.Ent.be_len]; omega
theorem encW_len (k : Wk) : (encW k).length = 6 + k.x.length := by
  unfold encW
  rw [List.length_append, List.length_append, Fe.Ent.be_len, Fe.Ent.be_len, txt_len]; omega
theorem txt_small {t : List Nat} (h : ∀ c ∈ t, c < 256) : ∀ c ∈ Fe.Ent.txt t, c < 256 := by
  intro c hc
  unfold Fe.Ent.txt at hc
  rcases List.mem_append.1 hc with hc | hc
  · exact Fe.Ent.be_small _ _ c hc
  · exact h c hc
theorem encW_small {k : Wk} (h : ∀ c ∈ k.x, c < 256) : ∀ c ∈ encW k, c < 256 := by
  intro c hc
  unfold encW at hc
  rcases List.mem_append.1 hc with hc | hc
  · exact Fe.Ent.be_small _ _ c hc
  · rcases List.mem_append.1 hc with hc | hc
    · exact Fe.Ent.be_small _ _ c hc
    · exact txt_small h c hc
/-- What was written is read again. -/
theorem dec_enc {k : Wk} (h : wkB k = true) : decS (encW k) = some k := by
  obtain ⟨h1, h2, h3, h4, h5⟩ := (wkB_iff k).1 h
  have a0 : Fe.Ent.At (encW k) (0, false) (Fe.Ent.be 1 k.t.toNat ++ (Fe.Ent.be 4 k.n.toNat ++ Fe.Ent.txt k.x)) := ⟨rfl, rfl, Nat.zero_le _⟩
  obtain ⟨s1, e1, a1⟩ := a0.num 1 k.t.toNat (by omega)
  obtain ⟨s2, e2, a2⟩ := a1.num 4 k.n.toNat (by omega)
  rw [← List.append_nil (Fe.Ent.txt k.x)] at a2
  obtain ⟨s3, e3, a3⟩ := a2.txt (by omega)
  have q1 : r1 (encW k) = (k.t.toNat, s1) := e1
  have q2 : r2 (encW k) = (k.n.toNat, s2) := by unfold r2; rw [q1]; exact e2
  have q3 : r3 (encW k) = (k.x, s3) := by unfold r3; rw [q2]; exact e3
  have hw : rdW (encW k) = k := by
    unfold rdW
    rw [q1, q2, q3]
    obtain ⟨t, n, x⟩ := k
    dsimp only at *
    rw [Int.toNat_of_nonneg (by omega), Int.toNat_of_nonneg (by omega)]
  have hb : rdB (encW k) = true := by
    unfold rdB
    rw [q3]
    have h7 := a3.2.1
    have h8 := a3.len
    have h9 := a3.2.2
    simp only [List.length_nil] at h8
    rw [a3.1]
    simp only [Bool.not_false, Bool.true_and, decide_eq_true_eq]
    omega
  unfold decS
  rw [hw, if_pos ⟨hb, h⟩]
theorem snoc_ind {P : List Nat → Prop} (h0 : P []) (h1 : ∀ l c, P l → P (l ++ [c])) : ∀ l, P l := by
  have : ∀ n (l : List Nat), l.length = n → P l := by
    intro n
    induction n with
    | zero => intro l hl; rw [List.eq_nil_of_length_eq_zero hl]; exact h0
    | succ n ih =>
      intro l hl
      have hne : l ≠ [] := fun e => by rw [e] at hl; cases hl
      rw [← List.dropLast_concat_getLast hne]
      exact h1 _ _ (ih _ (by rw [List.length_dropLast]; omega))
  exact fun l => this _ l rfl
theorem be_val : ∀ l : List Nat, (∀ c ∈ l, c < 256) → Fe.Ent.be l.length (Fe.Ent.val l) = l := by
  refine snoc_ind (fun _ => rfl) (fun l c ih h => ?_)
  have hc : c < 256 := h c (by simp)
  rw [List.length_append, show [c].length = 1 from rfl, Fe.Ent.be_succ, Fe.Ent.val_snoc, show (Fe.Ent.val l * 256 + c) / 256 = Fe.Ent.val l from by omega, show (Fe.Ent.val l * 256 + c) % 256 = c from by omega, ih (fun d hd => h d (by simp [hd]))]
theorem rnum_ok (l : List Nat) (k : Nat) (s : Fe.Ent.St) (hl : ∀ c ∈ l, c < 256) (h : (Fe.Ent.rnum l k s).2.2 = false) :
    s.2 = false ∧ (Fe.Ent.rnum l k s).2.1 = s.1 + k ∧ k ≤ l.length - s.1 ∧ l.drop s.1 = Fe.Ent.be k (Fe.Ent.rnum l k s).1 ++ l.drop (s.1 + k) := by
  unfold Fe.Ent.rnum at h ⊢
  split at h
  · cases h
  · rename_i hn
    have h1 : s.2 = false := by
      cases hs : s.2
      · rfl
      · exact absurd (.inl hs) hn
    have h2 : k ≤ l.length - s.1 := by
      refine Classical.byContradiction fun hc => hn (.inr (by omega))
    rw [if_neg hn]
    refine ⟨h1, rfl, h2, ?_⟩
    have hlen : ((l.drop s.1).take k).length = k := by rw [List.length_take, List.length_drop]; omega
    have := be_val ((l.drop s.1).take k) (fun c hc => hl c (List.mem_of_mem_drop (List.mem_of_mem_take hc)))
    rw [hlen] at this
    show l.drop s.1 = Fe.Ent.be k (Fe.Ent.val ((l.drop s.1).take k)) ++ l.drop (s.1 + k)
    rw [this, ← List.drop_drop, List.take_append_drop]
theorem rtxt_ok (l : List Nat) (s : Fe.Ent.St) (hl : ∀ c ∈ l, c < 256) (h : (Fe.Ent.rtxt l s).2.2 = false) :
    s.2 = false ∧ (Fe.Ent.rtxt l s).2.1 = s.1 + (1 + (Fe.Ent.rtxt l s).1.length) ∧ l.drop s.1 = Fe.Ent.txt (Fe.Ent.rtxt l s).1 ++ l.drop (s.1 + (1 + (Fe.Ent.rtxt l s).1.length)) := by
  unfold Fe.Ent.rtxt at h ⊢
  split at h
  · cases h
  · rename_i hn
    have h1 : s.2 = false := by
      cases hs : s.2
      · rfl
      · exact absurd (.inl hs) hn
    have h2 : 1 + l.getD s.1 0 ≤ l.length - s.1 := by
      refine Classical.byContradiction fun hc => hn (.inr (.inr (by omega)))
    rw [if_neg hn]
    have hlen : ((l.drop (s.1 + 1)).take (l.getD s.1 0)).length = l.getD s.1 0 := by rw [List.length_take, List.length_drop]; omega
    have hlt : s.1 < l.length := by omega
    have hg : l.getD s.1 0 = l[s.1] := by simp [List.getD, hlt]
    have hd : l.drop s.1 = l.getD s.1 0 :: l.drop (s.1 + 1) := by rw [hg]; exact List.drop_eq_getElem_cons hlt
    refine ⟨h1, by show s.1 + (1 + l.getD s.1 0) = s.1 + (1 + ((l.drop (s.1 + 1)).take (l.getD s.1 0)).length); rw [hlen], ?_⟩
    show l.drop s.1 = Fe.Ent.txt ((l.drop (s.1 + 1)).take (l.getD s.1 0)) ++ l.drop (s.1 + (1 + ((l.drop (s.1 + 1)).take (l.getD s.1 0)).length))
    unfold Fe.Ent.txt
    rw [hlen, Fe.Ent.be_one _ (by rw [hg]; exact hl _ (List.getElem_mem hlt)), List.append_assoc, ← Nat.add_assoc, ← List.drop_drop (i := l.getD s.1 0), List.take_append_drop]
    exact hd
/-- What is read is written as the bytes were. -/
theorem enc_rd {l : List Nat} (hl : ∀ c ∈ l, c < 256) (h : rdB l = true) : encW (rdW l) = l := by
  unfold rdB at h
  simp only [Bool.and_eq_true, Bool.not_eq_true', decide_eq_true_eq] at h
  obtain ⟨h1, h2⟩ := h
  obtain ⟨a1, a2, a3⟩ := rtxt_ok l (r2 l).2 hl h1
  obtain ⟨b1, b2, b3, b4⟩ := rnum_ok l 4 (r1 l).2 hl a1
  obtain ⟨c1, c2, c3, c4⟩ := rnum_ok l 1 (0, false) hl b1
  change (r3 l).2.1 = (r2 l).2.1 + (1 + (r3 l).1.length) at a2
  change List.drop (r2 l).2.1 l = Fe.Ent.txt (r3 l).1 ++ List.drop ((r2 l).2.1 + (1 + (r3 l).1.length)) l at a3
  rw [← a2, h2, List.drop_length, List.append_nil] at a3
  change (r2 l).2.1 = (r1 l).2.1 + 4 at b2
  change List.drop (r1 l).2.1 l = Fe.Ent.be 4 (r2 l).1 ++ List.drop ((r1 l).2.1 + 4) l at b4
  rw [← b2, a3] at b4
  change (r1 l).2.1 = 0 + 1 at c2
  change List.drop 0 l = Fe.Ent.be 1 (r1 l).1 ++ List.drop (0 + 1) l at c4
  rw [← c2, b4, List.drop_zero] at c4
  unfold encW rdW
  exact c4.symm
theorem enc_dec {l : List Nat} {k : Wk} (hl : ∀ c ∈ l, c < 256) (h : decS l = some k) : encW k = l := by
  obtain ⟨rfl, h1, h2⟩ := decS_some h
  exact enc_rd hl h1
/-- The document's way: read, and written again. -/
theorem dec_ref {l : List Nat} (hl : ∀ c ∈ l, c < 256) : decS l = if wkB (rdW l) = true ∧ encW (rdW l) = l then some (rdW l) else none := by
  by_cases h : wkB (rdW l) = true ∧ encW (rdW l) = l
  · rw [if_pos h]
    have := dec_enc h.1
    rw [h.2] at this
    exact this
  · rw [if_neg h]
    cases hd : decS l with
    | none => rfl
    | some k =>
      have h2 := enc_dec hl hd
      obtain ⟨rfl, -, h1⟩ := decS_some hd
      exact absurd ⟨h1, h2⟩ h
theorem rdW_small {l : List Nat} (hl : ∀ c ∈ l, c < 256) : (rdW l).t = ((r1 l).1 : Nat) ∧ (r1 l).1 < 256 ∧ (r2 l).1 < 4294967296 ∧ (∀ c ∈ (rdW l).x, c < 256) ∧ (rdW l).x.length < 256 :=
  ⟨rfl, Fe.Ent.rnum_lt l hl 1 _, Fe.Ent.rnum_lt l hl 4 _, Fe.Ent.rtxt_small l hl _, Fe.Ent.rtxt_len l hl _⟩

/-! ### what a crew is -/
/-- Bytes as a text. -/
def u8s (x : List Nat) : List UInt8 := x.map UInt8.ofNat
theorem u8s_len (x : List Nat) : (u8s x).length = x.length := by simp [u8s]
/-- What took effect. -/
structure Ef where
  o : Nat
  s : Int
  u : Bool
deriving DecidableEq
structure Cq where
  s : St.Ss
  p : Pu.Ss
  d : Do.Ss
  f : Fe.Fc
  E : List Ef
  M : List (List Nat)
/-- What comes out of a step: verdict, reply, and what the crew is then. -/
structure Rs where
  v : Int
  r : List Nat
  q : Cq
def fwdS (q : Cq) (o : Nat) (k : Wk) : Rs :=
  if k.t = 1 then ⟨St.verd (St.holdV q.s o (u8s k.x) k.n), [], { q with s := St.holdS q.s o (u8s k.x) k.n }⟩
  else if k.t = 2 then ⟨St.verd (St.endV q.s o), [], { q with s := St.endS q.s o true }⟩
  else if k.t = 3 then ⟨Pu.verd (Pu.authV q.p o (u8s k.x) k.n), [], { q with p := Pu.authS q.p o (u8s k.x) k.n }⟩
  else if k.t = 4 then ⟨Pu.verd (Pu.movV q.p o 0), [], { q with p := Pu.movS q.p o 0 }⟩
  else if k.t = 5 then match Do.bookD q.d o 0 k.n with
    | none => ⟨2, [], q⟩
    | some d => ⟨1, [d], { q with d := Do.bookS q.d o 0 k.n }⟩
  else if k.t = 6 then ⟨1, [], { q with M := q.M ++ [k.x] }⟩
  else ⟨2, [], q⟩
def bwdS (q : Cq) (o : Nat) (k : Wk) : Rs :=
  if k.t = 1 then ⟨St.verd (St.endV q.s o), [], { q with s := St.endS q.s o false }⟩
  else if k.t = 3 then ⟨Pu.verd (Pu.movV q.p o 1), [], { q with p := Pu.movS q.p o 1 }⟩
  else if k.t = 4 then ⟨Pu.verd (Pu.movV q.p o 2), [], { q with p := Pu.movS q.p o 2 }⟩
  else if k.t = 5 then ⟨Do.verd (Do.findH q.d.H o).isSome, [], { q with d := Do.cancS q.d o }⟩
  else if k.t = 6 then ⟨1, [], { q with M := q.M ++ [33 :: k.x] }⟩
  else ⟨2, [], q⟩
def execS (q : Cq) (o : Nat) (u : Bool) (l : List Nat) : Rs :=
  match decS l with
  | none => ⟨2, [], q⟩
  | some k => if u = true then bwdS q o k else fwdS q o k
def addE (q : Cq) (e : Ef) : Cq := { q with E := q.E ++ [e] }
def effS (r : Rs) (e : Ef) : Rs := if r.v = 1 then ⟨r.v, r.r, addE r.q e⟩ else r
def decideS (q : Cq) (act : Nat) (N : Note) : Rs :=
  if act = 3 then ⟨2, [], q⟩ else if act = 4 then ⟨1, [], q⟩ else effS (execS q N.order N.undo N.data) ⟨N.order, N.step, N.undo⟩
abbrev noN (ep : Nat) (c : Int) : Note := ⟨6, ep, 0, 0, 0, 0, 0, false, c, [], []⟩
abbrev doneN (N : Note) (v : Int) (r : List Nat) : Note := ⟨8, N.epoch, 0, 0, 0, N.order, N.step, N.undo, v, [], r⟩
abbrev fenceN (ep : Nat) (N : Note) : Note := ⟨9, ep, 0, 0, 0, N.order, N.step, N.undo, 0, [], []⟩
/-- The answer to a step, and what the crew is then. -/
structure Sv where
  a : Note
  q : Cq
def serveS (q : Cq) (N : Note) : Sv :=
  let A := Fe.askS q.f.ep q.f.n q.f.T N
  if A.e = 72 then ⟨fenceN q.f.ep N, q⟩
  else if A.e = 80 then ⟨noN q.f.ep 2, q⟩
  else if A.e ≠ 0 then ⟨noN q.f.ep 1, q⟩
  else if A.act = 2 then ⟨doneN N A.k.c A.k.r, { q with f := Fe.seeF q.f.ep q.f.n q.f.T N.epoch }⟩
  else if q.f.n = 200 then ⟨noN q.f.ep 3, q⟩
  else
    let R := decideS q A.act N
    ⟨doneN N R.v R.r, { R.q with f := Fe.keepF q.f.ep q.f.n q.f.T N R.v R.r }⟩

end Go.Proofs.YtpbclmnhkmcknaaGreat
