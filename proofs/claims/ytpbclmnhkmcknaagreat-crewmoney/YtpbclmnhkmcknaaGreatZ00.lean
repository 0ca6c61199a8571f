/-
  Texts of one proof, in their order: FeNMath, FeKMath, StBase, StSMath.
-/
import Derived.Test.YtpbclmnhkmcknaaGreatRows
import Derived.WalkKit
import Derived.WalkSpells
import Derived.WalkLawsBesides
import Derived.Laws.BitsAllLaws
import Derived.Lib.Hide
import Derived.Deep.MidRow
import Derived.Outline
import Derived.Deep.QuietTactic
import Derived.BigQuiet
import Derived.Laws.AppendOwnNone
import Derived.Laws.OwnMore
import Derived.Deep.RegionHeld3
import Derived.Deep.AppendLies
import Derived.Laws.MakeOwn
import Derived.Laws.CopyOwn
import Derived.Deep.RegionLaw
import Derived.Deep.DrawnRows
import Derived.IntWalk
import Derived.ProofKit
import Derived.OpenShut
import Derived.Maps.AppendAt
import Derived.Maps.OwnSet
import Derived.Maps.RangeWalk
import Derived.Sort.EncStr
namespace Go.Proofs.YtpbclmnhkmcknaaGreat.Fe
namespace Ent

/-- k bytes of a number, the highest first. -/
def be (k n : Nat) : List Nat := (List.range k).map fun i => n / 2 ^ (8 * (k - 1 - i)) % 256
theorem be_len (k n : Nat) : (be k n).length = k := by simp [be]
theorem be_small (k n : Nat) : ∀ c ∈ be k n, c < 256 := by
  intro c hc
  simp only [be, List.mem_map] at hc
  obtain ⟨i, _, rfl⟩ := hc
  exact Nat.mod_lt _ (by decide)
theorem be_one (n : Nat) (h : n < 256) : be 1 n = [n] := by simp [be, Nat.mod_eq_of_lt h]
theorem be_succ (k n : Nat) : be (k + 1) n = be k (n / 256) ++ [n % 256] := by
  unfold be
  rw [List.range_succ, List.map_append]
  congr 1
  · apply List.map_congr_left
    intro i hi
    have hi : i < k := by simpa using hi
    rw [Nat.div_div_eq_div_mul]
    congr 2
    rw [show (256 : Nat) = 2 ^ 8 from rfl, ← Nat.pow_add]
    congr 1; omega
  · simp

/-- The number that bytes are, the highest first. -/
def val (l : List Nat) : Nat := l.foldl (fun a c => a * 256 + c) 0
theorem val_snoc (l : List Nat) (c : Nat) : val (l ++ [c]) = val l * 256 + c := by simp [val]
theorem val_be (k n : Nat) (h : n < 256 ^ k) : val (be k n) = n := by
  induction k generalizing n with
  | zero => simp at h; subst h; rfl
  | succ k ih =>
    rw [be_succ, val_snoc, ih (n / 256) (by rw [Nat.pow_succ] at h; omega)]
    omega
theorem val_lt (l : List Nat) (h : ∀ c ∈ l, c < 256) : val l < 256 ^ l.length := by
  have : ∀ (l : List Nat), (∀ c ∈ l, c < 256) → ∀ a m, a < 256 ^ m → l.foldl (fun a c => a * 256 + c) a < 256 ^ (m + l.length) := by
    intro l
    induction l with
    | nil => intro _ a m ha; simpa using ha
    | cons c r ih =>
      intro hl a m ha
      rw [List.foldl_cons]
      have := ih (fun x hx => hl x (by simp [hx])) (a * 256 + c) (m + 1) (by
        have := hl c (by simp)
        rw [Nat.pow_succ]; omega)
      rw [List.length_cons]
      rwa [show m + (r.length + 1) = m + 1 + r.length by omega]
  have := this l h 0 0 (by simp)
  rwa [Nat.zero_add] at this

def b2n (b : Bool) : Nat := if b then 1 else 0
def txt (t : List Nat) : List Nat := be 1 t.length ++ t


end Ent

/-- A note: what its eleven fields hold. -/
structure Note where
  kind : Int
  epoch : Nat
  old : Nat
  lsn : Nat
  tick : Nat
  order : Nat
  step : Int
  undo : Bool
  code : Int
  key : List Nat
  data : List Nat

namespace Ent
/-- The fields' types hold no more. -/
structure Bnd (n : Note) : Prop where
  epoch : n.epoch < 4294967296
  old : n.old < 4294967296
  lsn : n.lsn < 18446744073709551616
  tick : n.tick < 18446744073709551616
  order : n.order < 4294967296
  key : ∀ c ∈ n.key, c < 256
  data : ∀ c ∈ n.data, c < 256

/-- All letters. -/
def alpha : List Nat := [69, 80, 76, 84, 79, 83, 85, 67, 75, 68]
/-- The letters of a kind. -/
def lets (k : Int) : List Nat :=
  if k = 1 then [69, 80, 76, 68] else if k = 2 ∨ k = 3 then [69, 76] else if k = 4 ∨ k = 6 then [69, 67] else if k = 5 then [69, 84, 67]
  else if k = 7 then [69, 79, 83, 85, 68] else if k = 8 then [69, 79, 83, 85, 67, 68] else if k = 9 then [69, 79, 83, 85]
  else if k = 10 then [75, 68] else if k = 11 ∨ k = 12 then [75] else if k = 13 then [79, 67, 75, 68] else []
theorem kinds (k : Int) (h1 : 1 ≤ k) (h2 : k ≤ 13) : k = 1 ∨ k = 2 ∨ k = 3 ∨ k = 4 ∨ k = 5 ∨ k = 6 ∨ k = 7 ∨ k = 8 ∨ k = 9 ∨ k = 10 ∨ k = 11 ∨ k = 12 ∨ k = 13 := by omega
theorem lets_none (k : Int) (h : k < 1 ∨ 13 < k) : lets k = [] := by
  unfold lets
  rw [if_neg (by omega), if_neg (by omega), if_neg (by omega), if_neg (by omega), if_neg (by omega), if_neg (by omega), if_neg (by omega), if_neg (by omega), if_neg (by omega), if_neg (by omega)]
theorem lets_all (P : List Nat → Prop) (h0 : P []) (h1 : P [69, 80, 76, 68]) (h2 : P [69, 76]) (h4 : P [69, 67]) (h5 : P [69, 84, 67]) (h7 : P [69, 79, 83, 85, 68]) (h8 : P [69, 79, 83, 85, 67, 68]) (h9 : P [69, 79, 83, 85]) (h10 : P [75, 68]) (h11 : P [75]) (h13 : P [79, 67, 75, 68]) (k : Int) : P (lets k) := by
  unfold lets
  repeat' split
  all_goals assumption
theorem lets_sub (k : Int) : ∀ c ∈ lets k, c ∈ alpha := lets_all (fun l => ∀ c ∈ l, c ∈ alpha) (by decide) (by decide) (by decide) (by decide) (by decide) (by decide) (by decide) (by decide) (by decide) (by decide) (by decide) k
theorem lets_len (k : Int) : (lets k).length ≤ 6 := lets_all (fun l => l.length ≤ 6) (by decide) (by decide) (by decide) (by decide) (by decide) (by decide) (by decide) (by decide) (by decide) (by decide) (by decide) k
theorem alpha_small : ∀ c ∈ alpha, c < 128 := by decide
theorem alpha_cases {c : Nat} (h : c ∈ alpha) : c = 69 ∨ c = 80 ∨ c = 76 ∨ c = 84 ∨ c = 79 ∨ c = 83 ∨ c = 85 ∨ c = 67 ∨ c = 75 ∨ c = 68 := by simpa [alpha] using h

/-- The part of a letter is zero. -/
def isZ (c : Nat) (n : Note) : Bool :=
  if c = 69 then decide (n.epoch = 0) else if c = 80 then decide (n.old = 0) else if c = 76 then decide (n.lsn = 0) else if c = 84 then decide (n.tick = 0) else if c = 79 then decide (n.order = 0)
  else if c = 83 then decide (n.step = 0) else if c = 85 then !n.undo else if c = 67 then decide (n.code = 0) else if c = 75 then decide (n.key.length = 0) else if c = 68 then decide (n.data.length = 0) else false
/-- A letter that is not named is zero. -/
def fine (s : List Nat) (n : Note) (c : Nat) : Bool := s.contains c || isZ c n
def only (s : List Nat) (n : Note) : Bool := alpha.all (fine s n)
def inB (n : Note) : Bool := decide (0 ≤ n.step ∧ n.step < 16 ∧ 0 ≤ n.code ∧ n.code ≤ 255 ∧ n.key.length ≤ 32 ∧ n.data.length ≤ 255)
def lackK (n : Note) : Bool := decide ((n.kind = 10 ∨ n.kind = 11 ∨ n.kind = 12) ∧ n.key.length = 0)
/-- It may be. -/
def ok (n : Note) : Bool := !decide (lets n.kind = []) && (only (lets n.kind) n && (inB n && !lackK n))

/-- The bytes of a letter's part. -/
def encL (n : Note) (c : Nat) : List Nat :=
  if c = 69 then be 4 n.epoch else if c = 80 then be 4 n.old else if c = 76 then be 8 n.lsn else if c = 84 then be 8 n.tick else if c = 79 then be 4 n.order
  else if c = 83 then be 1 n.step.toNat else if c = 85 then be 1 (b2n n.undo) else if c = 67 then be 1 n.code.toNat else if c = 75 then txt n.key else if c = 68 then txt n.data else []
/-- Its bytes. -/
def enc (n : Note) : List Nat := be 1 n.kind.toNat ++ (lets n.kind).flatMap (encL n)

/-- A reader's place, and whether it is short. -/
abbrev St := Nat × Bool
def rnum (l : List Nat) (k : Nat) (s : St) : Nat × St := if s.2 = true ∨ l.length - s.1 < k then (0, (s.1, true)) else (val ((l.drop s.1).take k), (s.1 + k, false))
def rtxt (l : List Nat) (s : St) : List Nat × St :=
  if s.2 = true ∨ l.length - s.1 < 1 ∨ l.length - s.1 < 1 + l.getD s.1 0 then ([], (s.1, true)) else ((l.drop (s.1 + 1)).take (l.getD s.1 0), (s.1 + (1 + l.getD s.1 0), false))


/-- What is read at a letter. -/
def rdL (f : Nat → Bool) (l : List Nat) (x : Note × St) (c : Nat) : Note × St :=
  if c = 69 then ({ x.1 with epoch := (rnum l 4 x.2).1 }, (rnum l 4 x.2).2)
  else if c = 80 then ({ x.1 with old := (rnum l 4 x.2).1 }, (rnum l 4 x.2).2)
  else if c = 76 then ({ x.1 with lsn := (rnum l 8 x.2).1 }, (rnum l 8 x.2).2)
  else if c = 84 then ({ x.1 with tick := (rnum l 8 x.2).1 }, (rnum l 8 x.2).2)
  else if c = 79 then ({ x.1 with order := (rnum l 4 x.2).1 }, (rnum l 4 x.2).2)
  else if c = 83 then ({ x.1 with step := ((rnum l 1 x.2).1 : Nat) }, (rnum l 1 x.2).2)
  else if c = 85 then ({ x.1 with undo := f (rnum l 1 x.2).1 }, (rnum l 1 x.2).2)
  else if c = 67 then ({ x.1 with code := ((rnum l 1 x.2).1 : Nat) }, (rnum l 1 x.2).2)
  else if c = 75 then ({ x.1 with key := (rtxt l x.2).1 }, (rtxt l x.2).2)
  else if c = 68 then ({ x.1 with data := (rtxt l x.2).1 }, (rtxt l x.2).2)
  else x
/-- A note of a kind, all else zero. -/
abbrev bare (k : Int) : Note := ⟨k, 0, 0, 0, 0, 0, 0, false, 0, [], []⟩
def zero : Note := bare 0
/-- All that is read behind the kind. -/
def rds (f : Nat → Bool) (l : List Nat) (s : List Nat) (x : Note × St) : Note × St := s.foldl (rdL f l) x
/-- The note that is read. -/
def rd (f : Nat → Bool) (l : List Nat) : Note := (rds f l (lets (rnum l 1 (0, false)).1) (bare (rnum l 1 (0, false)).1, (rnum l 1 (0, false)).2)).1

/-- The reader is ahead of what is left. -/
def At (l : List Nat) (s : St) (r : List Nat) : Prop := s.2 = false ∧ l.drop s.1 = r ∧ s.1 ≤ l.length
theorem At.len {l r : List Nat} {s : St} (h : At l s r) : l.length - s.1 = r.length := by rw [← h.2.1, List.length_drop]
theorem At.num {l r : List Nat} {s : St} (k n : Nat) (h : At l s (be k n ++ r)) (hn : n < 256 ^ k) : ∃ s', rnum l k s = (n, s') ∧ At l s' r := by
  have hl := h.len
  rw [List.length_append, be_len] at hl
  refine ⟨(s.1 + k, false), ?_, rfl, ?_, by have := h.2.2; show s.1 + k ≤ _; omega⟩
  · unfold rnum
    rw [if_neg (by rw [h.1]; simp; omega), h.2.1, List.take_left' (be_len k n), val_be k n hn]
  · show l.drop (s.1 + k) = r
    rw [← List.drop_drop, h.2.1, List.drop_left' (be_len k n)]
theorem At.txt {l r t : List Nat} {s : St} (h : At l s (txt t ++ r)) (ht : t.length < 256) : ∃ s', rtxt l s = (t, s') ∧ At l s' r := by
  have hl := h.len
  unfold Ent.txt at h hl
  rw [be_one _ ht] at h hl
  simp at hl
  have hd : l.getD s.1 0 = t.length := by
    have : (l.drop s.1).getD 0 0 = t.length := by rw [h.2.1]; simp
    simpa [List.getD] using this
  have hd1 : l.drop (s.1 + 1) = t ++ r := by rw [← List.drop_drop, h.2.1]; simp
  refine ⟨(s.1 + (1 + t.length), false), ?_, rfl, ?_, by have := h.2.2; show s.1 + (1 + t.length) ≤ _; omega⟩
  · unfold rtxt
    rw [if_neg (by rw [h.1, hd]; simp; omega), hd, hd1, List.take_left]
  · show l.drop (s.1 + (1 + t.length)) = r
    rw [← Nat.add_assoc, ← List.drop_drop, hd1, List.drop_left]


/-- The part of a letter carried over. -/
def cpL (n : Note) (m : Note) (c : Nat) : Note :=
  if c = 69 then { m with epoch := n.epoch } else if c = 80 then { m with old := n.old } else if c = 76 then { m with lsn := n.lsn } else if c = 84 then { m with tick := n.tick } else if c = 79 then { m with order := n.order }
  else if c = 83 then { m with step := n.step } else if c = 85 then { m with undo := n.undo } else if c = 67 then { m with code := n.code } else if c = 75 then { m with key := n.key } else if c = 68 then { m with data := n.data } else m

theorem inB_iff (n : Note) : inB n = true ↔ (0 ≤ n.step ∧ n.step < 16 ∧ 0 ≤ n.code ∧ n.code ≤ 255 ∧ n.key.length ≤ 32 ∧ n.data.length ≤ 255) := by unfold inB; exact decide_eq_true_iff
theorem At.L {l r : List Nat} {s : St} (f : Nat → Bool) (h0 : f 0 = false) (h1 : f 1 = true) (n m : Note) (hb : Bnd n) (hi : inB n = true) (c : Nat) (hc : c ∈ alpha) (h : At l s (encL n c ++ r)) : ∃ s', rdL f l (m, s) c = (cpL n m c, s') ∧ At l s' r := by
  have hi := (inB_iff n).1 hi
  unfold encL at h
  rcases alpha_cases hc with rfl | rfl | rfl | rfl | rfl | rfl | rfl | rfl | rfl | rfl
  · obtain ⟨s', e, k⟩ := At.num 4 n.epoch h hb.epoch
    exact ⟨s', by simp [rdL, cpL, e], k⟩
  · obtain ⟨s', e, k⟩ := At.num 4 n.old h hb.old
    exact ⟨s', by simp [rdL, cpL, e], k⟩
  · obtain ⟨s', e, k⟩ := At.num 8 n.lsn h hb.lsn
    exact ⟨s', by simp [rdL, cpL, e], k⟩
  · obtain ⟨s', e, k⟩ := At.num 8 n.tick h hb.tick
    exact ⟨s', by simp [rdL, cpL, e], k⟩
  · obtain ⟨s', e, k⟩ := At.num 4 n.order h hb.order
    exact ⟨s', by simp [rdL, cpL, e], k⟩
  · obtain ⟨s', e, k⟩ := At.num 1 n.step.toNat h (by omega)
    exact ⟨s', by simp [rdL, cpL, e]; omega, k⟩
  · obtain ⟨s', e, k⟩ := At.num 1 (b2n n.undo) h (by unfold b2n; split <;> decide)
    have hu : f (b2n n.undo) = n.undo := by unfold b2n; cases n.undo; exact h0; exact h1
    exact ⟨s', by simp [rdL, cpL, e, hu], k⟩
  · obtain ⟨s', e, k⟩ := At.num 1 n.code.toNat h (by omega)
    exact ⟨s', by simp [rdL, cpL, e]; omega, k⟩
  · obtain ⟨s', e, k⟩ := At.txt (t := n.key) h (by omega)
    exact ⟨s', by simp [rdL, cpL, e], k⟩
  · obtain ⟨s', e, k⟩ := At.txt (t := n.data) h (by omega)
    exact ⟨s', by simp [rdL, cpL, e], k⟩
theorem At.Ls {l r : List Nat} (f : Nat → Bool) (h0 : f 0 = false) (h1 : f 1 = true) (n : Note) (hb : Bnd n) (hi : inB n = true) : ∀ (cs : List Nat), (∀ c ∈ cs, c ∈ alpha) → ∀ (m : Note) (s : St), At l s (cs.flatMap (encL n) ++ r) → ∃ s', rds f l cs (m, s) = (cs.foldl (cpL n) m, s') ∧ At l s' r
  | [], _, m, s, h => ⟨s, rfl, by simpa using h⟩
  | c :: cs, hc, m, s, h => by
    rw [List.flatMap_cons, List.append_assoc] at h
    obtain ⟨s1, e1, k1⟩ := At.L f h0 h1 n m hb hi c (hc c (by simp)) h
    obtain ⟨s2, e2, k2⟩ := At.Ls f h0 h1 n hb hi cs (fun x hx => hc x (by simp [hx])) (cpL n m c) s1 k1
    refine ⟨s2, ?_, k2⟩
    show rds f l cs (rdL f l (m, s) c) = _
    rw [e1, e2]
    rfl

structure Ok (n : Note) : Prop where
  k1 : 1 ≤ n.kind
  k13 : n.kind ≤ 13
  o : only (lets n.kind) n = true
  i : inB n = true
  l : lackK n = false
theorem ok_iff (n : Note) : ok n = true ↔ Ok n := by
  unfold ok
  simp only [Bool.and_eq_true, Bool.not_eq_true', decide_eq_false_iff_not]
  constructor
  · rintro ⟨a, b, c, d⟩
    have hk : 1 ≤ n.kind ∧ n.kind ≤ 13 := Classical.byContradiction fun h => a (lets_none _ (by omega))
    exact ⟨hk.1, hk.2, b, c, d⟩
  · rintro ⟨a, b, c, d, e⟩
    refine ⟨?_, c, d, e⟩
    rcases kinds _ a b with h | h | h | h | h | h | h | h | h | h | h | h | h <;> rw [h] <;> decide
theorem only_iff (s : List Nat) (n : Note) : only s n = true ↔ ∀ c ∈ alpha, c ∈ s ∨ isZ c n = true := by
  unfold only fine
  rw [List.all_eq_true]
  simp only [Bool.or_eq_true, List.contains_iff_mem]
/-- All that is named, carried over to a bare note, is the note. -/
theorem cp_all (n : Note) (h : Ok n) : (lets n.kind).foldl (cpL n) (bare n.kind) = n := by
  have ho := (only_iff _ _).1 h.o
  have hE := ho 69 (by decide)
  have hP := ho 80 (by decide)
  have hL := ho 76 (by decide)
  have hT := ho 84 (by decide)
  have hO := ho 79 (by decide)
  have hS := ho 83 (by decide)
  have hU := ho 85 (by decide)
  have hC := ho 67 (by decide)
  have hK := ho 75 (by decide)
  have hD := ho 68 (by decide)
  have h1 := h.k1
  have h2 := h.k13
  clear h ho
  cases n
  simp only [isZ] at *
  rcases kinds _ h1 h2 with h | h | h | h | h | h | h | h | h | h | h | h | h
  all_goals
    subst h
    simp [lets, cpL, bare] at *
    simp [*]
/-- What was put is got, whatever stands behind it. -/
theorem rd_enc (f : Nat → Bool) (h0 : f 0 = false) (h1 : f 1 = true) (n : Note) (hb : Bnd n) (ho : ok n = true) (r : List Nat) : rd f (enc n ++ r) = n := by
  have hk := (ok_iff n).1 ho
  have k1 := hk.k1
  have k13 := hk.k13
  generalize hl : enc n ++ r = l
  have h : At l (0, false) (enc n ++ r) := ⟨rfl, by rw [hl]; rfl, Nat.zero_le _⟩
  unfold enc at h
  rw [List.append_assoc] at h
  obtain ⟨s1, e1, h⟩ := h.num 1 _ (by omega)
  have hkk : ((n.kind.toNat : Nat) : Int) = n.kind := by omega
  obtain ⟨s2, e2, h⟩ := At.Ls f h0 h1 n hb hk.i (lets n.kind) (lets_sub _) (bare n.kind) s1 h
  unfold rd
  rw [e1]
  simp only
  rw [hkk, e2]
  exact cp_all n hk

theorem enc_len_pos (n : Note) : 0 < (enc n).length := by unfold enc; rw [List.length_append, be_len]; omega
theorem enc_inj (e e' : Note) (hb : Bnd e) (ho : ok e = true) (hb' : Bnd e') (ho' : ok e' = true) (r r' : List Nat) (h : enc e ++ r = enc e' ++ r') : e = e' ∧ r = r' := by
  have h1 := rd_enc (fun n => n == 1) rfl rfl e hb ho r
  have h2 := rd_enc (fun n => n == 1) rfl rfl e' hb' ho' r'
  rw [h, h2] at h1
  subst h1
  exact ⟨rfl, List.append_cancel_left h⟩

/-- The note of bytes. -/
def get (f : Nat → Bool) (l : List Nat) : Option Note := if ok (rd f l) = true ∧ enc (rd f l) = l then some (rd f l) else none

theorem rnum_lt (l : List Nat) (hl : ∀ c ∈ l, c < 256) (k : Nat) (s : St) : (rnum l k s).1 < 256 ^ k := by
  unfold rnum
  split
  · exact Nat.pow_pos (by decide)
  · have h := val_lt ((l.drop s.1).take k) (fun c hc => hl c (List.mem_of_mem_drop (List.mem_of_mem_take hc)))
    refine Nat.lt_of_lt_of_le h (Nat.pow_le_pow_right (by decide) ?_)
    rw [List.length_take]; omega
theorem rtxt_small (l : List Nat) (hl : ∀ c ∈ l, c < 256) (s : St) : ∀ c ∈ (rtxt l s).1, c < 256 := by
  unfold rtxt
  split
  · intro c hc; cases hc
  · exact fun c hc => hl c (List.mem_of_mem_drop (List.mem_of_mem_take hc))
theorem rtxt_len (l : List Nat) (hl : ∀ c ∈ l, c < 256) (s : St) : (rtxt l s).1.length < 256 := by
  unfold rtxt
  split
  · simp
  · have : l.getD s.1 0 < 256 := by
      rw [List.getD_eq_getElem?_getD]
      by_cases h : s.1 < l.length
      · rw [List.getElem?_eq_getElem h]; exact hl _ (List.getElem_mem h)
      · rw [List.getElem?_eq_none (by omega)]; decide
    rw [List.length_take]; omega

theorem rdL_bnd (f : Nat → Bool) (l : List Nat) (hl : ∀ c ∈ l, c < 256) (x : Note × St) (c : Nat) (h : Bnd x.1) : Bnd (rdL f l x c).1 := by
  obtain ⟨a1, a2, a3, a4, a5, a6, a7⟩ := h
  unfold rdL
  repeat' split
  · exact ⟨rnum_lt l hl 4 _, a2, a3, a4, a5, a6, a7⟩
  · exact ⟨a1, rnum_lt l hl 4 _, a3, a4, a5, a6, a7⟩
  · exact ⟨a1, a2, rnum_lt l hl 8 _, a4, a5, a6, a7⟩
  · exact ⟨a1, a2, a3, rnum_lt l hl 8 _, a5, a6, a7⟩
  · exact ⟨a1, a2, a3, a4, rnum_lt l hl 4 _, a6, a7⟩
  · exact ⟨a1, a2, a3, a4, a5, a6, a7⟩
  · exact ⟨a1, a2, a3, a4, a5, a6, a7⟩
  · exact ⟨a1, a2, a3, a4, a5, a6, a7⟩
  · exact ⟨a1, a2, a3, a4, a5, rtxt_small l hl _, a7⟩
  · exact ⟨a1, a2, a3, a4, a5, a6, rtxt_small l hl _⟩
  · exact ⟨a1, a2, a3, a4, a5, a6, a7⟩
theorem rds_bnd (f : Nat → Bool) (l : List Nat) (hl : ∀ c ∈ l, c < 256) : ∀ (cs : List Nat) (x : Note × St), Bnd x.1 → Bnd (rds f l cs x).1
  | [], _, h => h
  | c :: cs, x, h => rds_bnd f l hl cs (rdL f l x c) (rdL_bnd f l hl x c h)
theorem bare_bnd (k : Int) : Bnd (bare k) := ⟨by show (0 : Nat) < _; decide, by show (0 : Nat) < _; decide, by show (0 : Nat) < _; decide, by show (0 : Nat) < _; decide, by show (0 : Nat) < _; decide, (fun c hc => by cases hc), (fun c hc => by cases hc)⟩
theorem rd_bnd (f : Nat → Bool) (l : List Nat) (hl : ∀ c ∈ l, c < 256) : Bnd (rd f l) := rds_bnd f l hl _ _ (bare_bnd _)

theorem get_some {f : Nat → Bool} {l : List Nat} {e : Note} (hl : ∀ c ∈ l, c < 256) (h : get f l = some e) : ok e = true ∧ enc e = l ∧ Bnd e := by
  unfold get at h
  split at h
  · rename_i hh
    injection h with h
    subst h
    exact ⟨hh.1, hh.2, rd_bnd f l hl⟩
  · cases h
theorem get_enc (f : Nat → Bool) (h0 : f 0 = false) (h1 : f 1 = true) (e : Note) (hb : Bnd e) (ho : ok e = true) : get f (enc e) = some e := by
  have := rd_enc f h0 h1 e hb ho []
  rw [List.append_nil] at this
  unfold get
  rw [this, if_pos ⟨ho, rfl⟩]
theorem get_eq (f g : Nat → Bool) (f0 : f 0 = false) (f1 : f 1 = true) (g0 : g 0 = false) (g1 : g 1 = true) (l : List Nat) (hl : ∀ c ∈ l, c < 256) : get f l = get g l := by
  cases h : get f l with
  | some e =>
    obtain ⟨h1, h2, h3⟩ := get_some hl h
    rw [← h2, get_enc g g0 g1 e h3 h1]
  | none =>
    cases h' : get g l with
    | none => rfl
    | some e =>
      obtain ⟨h1, h2, h3⟩ := get_some hl h'
      rw [← h2, get_enc f f0 f1 e h3 h1] at h
      cases h
/-- Not with more behind it. -/
theorem get_more (f : Nat → Bool) (e : Note) (hb : Bnd e) (ho : ok e = true) (r : List Nat) (hr : r ≠ []) (hl : ∀ c ∈ enc e ++ r, c < 256) : get f (enc e ++ r) = none := by
  cases h : get f (enc e ++ r) with
  | none => rfl
  | some e' =>
    obtain ⟨h1, h2, h3⟩ := get_some hl h
    have := enc_inj e' e h3 h1 hb ho [] r (by rw [List.append_nil]; exact h2)
    exact absurd this.2.symm hr
/-- Nor with less. -/
theorem get_less (f : Nat → Bool) (e : Note) (hb : Bnd e) (ho : ok e = true) (l r : List Nat) (hr : r ≠ []) (h : enc e = l ++ r) (hl : ∀ c ∈ l, c < 256) : get f l = none := by
  cases hg : get f l with
  | none => rfl
  | some e' =>
    obtain ⟨h1, h2, h3⟩ := get_some hl hg
    have := enc_inj e' e h3 h1 hb ho r [] (by rw [List.append_nil, h2]; exact h.symm)
    exact absurd this.2 hr
theorem txt_len (t : List Nat) : (txt t).length = 1 + t.length := by unfold txt; rw [List.length_append, be_len]
theorem encL_small (n : Note) (hb : Bnd n) (c : Nat) : ∀ x ∈ encL n c, x < 256 := by
  have ht : ∀ t : List Nat, (∀ c ∈ t, c < 256) → ∀ c ∈ txt t, c < 256 := fun t h c hc => by
    rcases List.mem_append.1 hc with h' | h'
    · exact be_small _ _ c h'
    · exact h c h'
  unfold encL
  repeat' split
  all_goals first | exact be_small _ _ | exact ht _ hb.key | exact ht _ hb.data | (intro x hx; cases hx)
theorem enc_small (n : Note) (hb : Bnd n) : ∀ c ∈ enc n, c < 256 := by
  intro c hc
  unfold enc at hc
  rcases List.mem_append.1 hc with h | h
  · exact be_small _ _ c h
  · obtain ⟨x, _, h2⟩ := List.mem_flatMap.1 h
    exact encL_small n hb x c h2
theorem encL_len (n : Note) (h : inB n = true) (c : Nat) : (encL n c).length ≤ 256 := by
  have hi := (inB_iff n).1 h
  unfold encL
  repeat' split
  all_goals first | (rw [be_len]; decide) | (rw [txt_len]; omega) | decide
theorem flat_len (n : Note) (h : inB n = true) : ∀ cs : List Nat, (cs.flatMap (encL n)).length ≤ cs.length * 256
  | [] => by simp
  | c :: cs => by
    have h1 := encL_len n h c
    have h2 := flat_len n h cs
    rw [List.flatMap_cons, List.length_append, List.length_cons]
    omega
theorem enc_len (n : Note) (h : Ok n) : (enc n).length ≤ 1537 := by
  have h1 := flat_len n h.i (lets n.kind)
  have h2 := lets_len n.kind
  unfold enc
  rw [List.length_append, be_len]
  omega

end Ent
end Go.Proofs.YtpbclmnhkmcknaaGreat.Fe

namespace Go.Proofs.YtpbclmnhkmcknaaGreat.Fe

/-- A kept step. -/
structure Kp where
  o : Nat
  s : Int
  u : Bool
  a : List Nat
  c : Int
  r : List Nat
abbrev kz : Kp := ⟨0, 0, false, [], 0, []⟩
def in64 (s : Int) : Prop := -9223372036854775808 ≤ s ∧ s < 9223372036854775808
/-- A key as one number. -/
def kn (o : Nat) (s : Int) (u : Bool) : Int := (o : Int) * 36893488147419103232 + s * 2 + (Ent.b2n u : Nat)
abbrev Kp.k (x : Kp) : Int := kn x.o x.s x.u
theorem b2n_le (u : Bool) : Ent.b2n u ≤ 1 := by cases u <;> decide
theorem b2n_inj {u v : Bool} (h : Ent.b2n u = Ent.b2n v) : u = v := by cases u <;> cases v <;> first | rfl | (exact absurd h (by decide))
theorem kn_inj {o o' : Nat} {s s' : Int} {u u' : Bool} (h1 : in64 s) (h2 : in64 s') (h : kn o s u = kn o' s' u') : o = o' ∧ s = s' ∧ u = u' := by
  have := b2n_le u
  have := b2n_le u'
  unfold in64 at h1 h2
  unfold kn at h
  have e1 : o = o' := by omega
  have e2 : s = s' := by omega
  exact ⟨e1, e2, b2n_inj (by omega)⟩
/-- How two keys compare. -/
def cmpI (x y : Int) : Int := if x < y then -1 else if y < x then 1 else 0
theorem cmpI_lt {x y : Int} (h : x < y) : cmpI x y = -1 := by unfold cmpI; rw [if_pos h]
theorem cmpI_gt {x y : Int} (h : y < x) : cmpI x y = 1 := by unfold cmpI; rw [if_neg (by omega), if_pos h]
theorem cmpI_eq {x y : Int} (h : x = y) : cmpI x y = 0 := by unfold cmpI; rw [if_neg (by omega), if_neg (by omega)]
theorem cmpI_or {o o' : Nat} {s s' : Int} {u u' : Bool} (h1 : in64 s) (h2 : in64 s') :
    cmpI (kn o s u) (kn o' s' u') = if cmpI o o' ≠ 0 then cmpI o o' else if cmpI s s' ≠ 0 then cmpI s s' else cmpI (Ent.b2n u : Nat) (Ent.b2n u' : Nat) := by
  have := b2n_le u
  have := b2n_le u'
  unfold in64 at h1 h2
  by_cases a1 : o < o'
  · rw [cmpI_lt (x := o) (y := o') (by omega), if_pos (by decide)]
    exact cmpI_lt (by unfold kn; omega)
  · by_cases a2 : o' < o
    · rw [cmpI_gt (x := o) (y := o') (by omega), if_pos (by decide)]
      exact cmpI_gt (by unfold kn; omega)
    · rw [cmpI_eq (x := o) (y := o') (by omega), if_neg (by decide)]
      by_cases b1 : s < s'
      · rw [cmpI_lt b1, if_pos (by decide)]
        exact cmpI_lt (by unfold kn; omega)
      · by_cases b2 : s' < s
        · rw [cmpI_gt b2, if_pos (by decide)]
          exact cmpI_gt (by unfold kn; omega)
        · rw [cmpI_eq (x := s) (y := s') (by omega), if_neg (by decide)]
          by_cases c1 : Ent.b2n u < Ent.b2n u'
          · rw [cmpI_lt (x := (Ent.b2n u : Nat)) (y := (Ent.b2n u' : Nat)) (by omega)]
            exact cmpI_lt (by unfold kn; omega)
          · by_cases c2 : Ent.b2n u' < Ent.b2n u
            · rw [cmpI_gt (x := (Ent.b2n u : Nat)) (y := (Ent.b2n u' : Nat)) (by omega)]
              exact cmpI_gt (by unfold kn; omega)
            · rw [cmpI_eq (x := (Ent.b2n u : Nat)) (y := (Ent.b2n u' : Nat)) (by omega)]
              exact cmpI_eq (by unfold kn; omega)

/-- An element may be. -/
def vk (x : Kp) : Bool := decide (1 ≤ x.o ∧ 0 ≤ x.s ∧ x.s ≤ 15 ∧ x.a.length ≤ 255 ∧ x.r.length ≤ 255 ∧ (x.c = 1 ∨ x.c = 2))
theorem vk_iff (x : Kp) : vk x = true ↔ (1 ≤ x.o ∧ 0 ≤ x.s ∧ x.s ≤ 15 ∧ x.a.length ≤ 255 ∧ x.r.length ≤ 255 ∧ (x.c = 1 ∨ x.c = 2)) := by unfold vk; exact decide_eq_true_iff
/-- The first m are as they may be. -/
def upTo (T : Nat → Kp) (m : Nat) : Prop := ∀ i, i < m → vk (T i) = true ∧ (0 < i → (T (i - 1)).k < (T i).k)
def okT (n : Nat) (T : Nat → Kp) : Prop := n ≤ 200 ∧ upTo T n
def goodAt (T : Nat → Kp) (i : Nat) : Bool := vk (T i) && (decide (i = 0) || decide ((T (i - 1)).k < (T i).k))
def okB (n : Nat) (T : Nat → Kp) : Bool := decide (n ≤ 200) && (List.range n).all (goodAt T)
theorem goodAt_iff (T : Nat → Kp) (i : Nat) : goodAt T i = true ↔ (vk (T i) = true ∧ (0 < i → (T (i - 1)).k < (T i).k)) := by
  unfold goodAt
  simp only [Bool.and_eq_true, Bool.or_eq_true, decide_eq_true_eq]
  constructor
  · rintro ⟨h1, h2⟩; exact ⟨h1, fun h => by rcases h2 with h2 | h2; omega; exact h2⟩
  · rintro ⟨h1, h2⟩; exact ⟨h1, by by_cases h : i = 0; exact .inl h; exact .inr (h2 (by omega))⟩
theorem okB_iff (n : Nat) (T : Nat → Kp) : okB n T = true ↔ okT n T := by
  unfold okB okT upTo
  simp only [Bool.and_eq_true, decide_eq_true_eq, List.all_eq_true, List.mem_range, goodAt_iff]
theorem okB_bad {n : Nat} {T : Nat → Kp} (i : Nat) (hi : i < n) (h : goodAt T i = false) : okB n T = false := by
  rw [← Bool.not_eq_true, okB_iff]
  intro hk
  have := (goodAt_iff T i).2 (hk.2 i hi)
  rw [h] at this; cases this
theorem okB_big {n : Nat} {T : Nat → Kp} (h : 200 < n) : okB n T = false := by
  rw [← Bool.not_eq_true, okB_iff]
  exact fun hk => absurd hk.1 (by omega)
theorem okT.mono {n : Nat} {T : Nat → Kp} (h : okT n T) {i j : Nat} (hij : i < j) (hj : j < n) : (T i).k < (T j).k := by
  induction j with
  | zero => omega
  | succ j ih =>
    have h1 := (h.2 (j + 1) hj).2 (by omega)
    rw [Nat.add_sub_cancel] at h1
    by_cases e : i = j
    · subst e; exact h1
    · exact Int.lt_trans (ih (by omega) (by omega)) h1
theorem okT.congr {n : Nat} {T T' : Nat → Kp} (h : okT n T) (e : ∀ i, i < n → T i = T' i) : okT n T' := by
  refine ⟨h.1, fun i hi => ?_⟩
  rw [← e i hi]
  refine ⟨(h.2 i hi).1, fun h0 => ?_⟩
  rw [← e (i - 1) (by omega)]
  exact (h.2 i hi).2 h0
theorem okB_congr {n : Nat} {T T' : Nat → Kp} (e : ∀ i, i < n → T i = T' i) : okB n T = okB n T' := by
  rw [Bool.eq_iff_iff, okB_iff, okB_iff]
  exact ⟨fun h => h.congr e, fun h => h.congr (fun i hi => (e i hi).symm)⟩

/-- The place of a key. -/
def pos (T : Nat → Kp) (q : Int) : Nat → Nat
  | 0 => 0
  | n + 1 => if (T n).k < q then n + 1 else pos T q n
theorem pos_le (T : Nat → Kp) (q : Int) (n : Nat) : pos T q n ≤ n := by
  induction n with
  | zero => exact Nat.le_refl _
  | succ n ih => unfold pos; split <;> omega
theorem pos_eq {n : Nat} {T : Nat → Kp} {q : Int} {m : Nat} (hm : m ≤ n) (h1 : ∀ k, k < m → (T k).k < q) (h2 : ∀ k, m ≤ k → k < n → q ≤ (T k).k) : pos T q n = m := by
  induction n with
  | zero => unfold pos; omega
  | succ n ih =>
    unfold pos
    by_cases e : m = n + 1
    · subst e
      rw [if_pos (h1 n (by omega))]
    · rw [if_neg (by have := h2 n (by omega) (by omega); omega)]
      exact ih (by omega) (fun k a b => h2 k a (by omega))
theorem pos_spec {n : Nat} {T : Nat → Kp} (h : okT n T) (q : Int) : (∀ k, k < pos T q n → (T k).k < q) ∧ (∀ k, pos T q n ≤ k → k < n → q ≤ (T k).k) := by
  have : ∀ m, m ≤ n → (∀ k, k < pos T q m → (T k).k < q) ∧ (∀ k, pos T q m ≤ k → k < m → q ≤ (T k).k) := by
    intro m
    induction m with
    | zero => intro _; exact ⟨fun k hk => by unfold pos at hk; omega, fun k _ hk => by omega⟩
    | succ m ih =>
      intro hm
      unfold pos
      by_cases e : (T m).k < q
      · rw [if_pos e]
        refine ⟨fun k hk => ?_, fun k h1 h2 => by omega⟩
        by_cases ek : k = m
        · subst ek; exact e
        · exact Int.lt_trans (h.mono (i := k) (j := m) (by omega) (by omega)) e
      · rw [if_neg e]
        obtain ⟨a, b⟩ := ih (by omega)
        refine ⟨a, fun k h1 h2 => ?_⟩
        by_cases ek : k = m
        · subst ek; omega
        · exact b k h1 (by omega)
  exact this n (Nat.le_refl _)
/-- Is the key there? -/
def has (n : Nat) (T : Nat → Kp) (q : Int) : Bool := decide (pos T q n < n ∧ (T (pos T q n)).k = q)
theorem has_of {n : Nat} {T : Nat → Kp} (h : okT n T) {q : Int} {i : Nat} (hi : i < n) (e : (T i).k = q) : pos T q n = i ∧ has n T q = true := by
  have hp : pos T q n = i := pos_eq (by omega) (fun k hk => by rw [← e]; exact h.mono hk hi) (fun k h1 h2 => by
    by_cases ek : i = k
    · subst ek; omega
    · have := h.mono (i := i) (j := k) (by omega) h2; omega)
  refine ⟨hp, ?_⟩
  unfold has
  rw [hp, decide_eq_true_iff]
  exact ⟨hi, e⟩
theorem has_not {n : Nat} {T : Nat → Kp} {q : Int} (h : ∀ i, i < n → (T i).k ≠ q) : has n T q = false := by
  unfold has
  rw [decide_eq_false_iff_not]
  rintro ⟨a, b⟩
  exact h _ a b
theorem has_at {n : Nat} {T : Nat → Kp} {q : Int} (h : has n T q = true) : pos T q n < n ∧ (T (pos T q n)).k = q := by
  unfold has at h; exact decide_eq_true_iff.1 h
theorem has_no {n : Nat} {T : Nat → Kp} (hk : okT n T) {q : Int} (h : has n T q = false) : ∀ i, i < n → (T i).k ≠ q := fun i hi e => by
  rw [(has_of hk hi e).2] at h; cases h
theorem pos_congr {n : Nat} {T T' : Nat → Kp} (e : ∀ i, i < n → T i = T' i) (q : Int) : pos T q n = pos T' q n := by
  induction n with
  | zero => rfl
  | succ n ih => unfold pos; rw [e n (by omega), ih (fun i hi => e i (by omega))]
theorem has_congr {n : Nat} {T T' : Nat → Kp} (e : ∀ i, i < n → T i = T' i) (q : Int) : has n T q = has n T' q := by
  unfold has
  rw [pos_congr e q]
  by_cases h : pos T' q n < n
  · rw [e _ h]
  · simp [h]

/-- A request. -/
def reqB (N : Note) : Bool := decide (N.kind = 7) && (Ent.ok N && (decide (N.epoch ≠ 0) && decide (N.order ≠ 0)))
abbrev nk (N : Note) : Int := kn N.order N.step N.undo
abbrev nk' (N : Note) : Int := kn N.order N.step (!N.undo)
/-- What is to be done with a request whose key is not there. -/
def actN (n : Nat) (T : Nat → Kp) (N : Note) : Nat :=
  if N.undo = false ∧ has n T (nk' N) = true then 3 else if N.undo = true ∧ (has n T (nk' N) = false ∨ (T (pos T (nk' N) n)).c = 2) then 4 else 1
/-- What the chapter answers: what is to be done, the element, the error. -/
structure An where
  act : Nat
  k : Kp
  e : Nat
def askS (ep n : Nat) (T : Nat → Kp) (N : Note) : An :=
  if okB n T = true ∧ reqB N = true then
    if N.epoch < ep then ⟨0, kz, 72⟩
    else if has n T (nk N) = true then (if (T (pos T (nk N) n)).a = N.data then ⟨2, T (pos T (nk N) n), 0⟩ else ⟨0, kz, 80⟩)
    else ⟨actN n T N, kz, 0⟩
  else ⟨0, kz, 2⟩
/-- What is found. -/
def findK (n : Nat) (T : Nat → Kp) (q : Int) : Kp := if okB n T = true ∧ has n T q = true then T (pos T q n) else kz
def findB (n : Nat) (T : Nat → Kp) (q : Int) : Bool := okB n T && has n T q
def chkC (n : Nat) (T : Nat → Kp) : Nat := if okB n T = true then 0 else 2
def seeE (ep n : Nat) (T : Nat → Kp) (e : Nat) : Nat := if okB n T = true then (if e < ep then 72 else 0) else 2
/-- May that be the verdict? -/
def mayB (act : Nat) (code : Int) : Bool := if act = 3 then decide (code = 2) else if act = 4 then decide (code = 1) else decide (code = 1 ∨ code = 2)
def keepE (ep n : Nat) (T : Nat → Kp) (N : Note) (code : Int) (reply : List Nat) : Nat :=
  if (askS ep n T N).e ≠ 0 then (askS ep n T N).e else if mayB (askS ep n T N).act code = false ∨ 255 < reply.length then 2
  else if (askS ep n T N).act = 2 then 81 else if n = 200 then 5 else 0
/-- An element more. -/
def ins (m : Nat) (x : Kp) (T : Nat → Kp) : Nat → Kp := fun j => if j < m then T j else if j = m then x else T (j - 1)
abbrev newK (N : Note) (code : Int) (reply : List Nat) : Kp := ⟨N.order, N.step, N.undo, N.data, code, reply⟩
/-- A fence. -/
structure Fc where
  ep : Nat
  n : Nat
  T : Nat → Kp
abbrev fz : Fc := ⟨0, 0, fun _ => kz⟩
def keepF (ep n : Nat) (T : Nat → Kp) (N : Note) (code : Int) (reply : List Nat) : Fc :=
  if keepE ep n T N code reply = 0 then ⟨N.epoch, n + 1, ins (pos T (nk N) n) (newK N code reply) T⟩ else fz
def seeF (ep n : Nat) (T : Nat → Kp) (e : Nat) : Fc := if seeE ep n T e = 0 then ⟨e, n, T⟩ else fz

end Go.Proofs.YtpbclmnhkmcknaaGreat.Fe

namespace Go.Proofs.YtpbclmnhkmcknaaGreat.St
open Go.RowKit
set_option maxRecDepth 100000
set_option linter.unusedVariables false

theorem ret_int {k : IntKind} {a b : Int} (h : a = b) : Ending.returned (.int k a) = .returned (.int k b) := by rw [h]
theorem val_int {k : IntKind} {a b : Int} (h : a = b) : Value.int k a = Value.int k b := by rw [h]



/-- Block g is just these cells. -/
def Lies (w : World) (g : Nat) (t : TypeId) (cs : Array Value) : Prop := w.heap[g]? = some (.cells cs t (0, 0))

theorem Lies.lt {w : World} {g : Nat} {t : TypeId} {cs : Array Value} (h : Lies w g t cs) : g < w.heap.size := by
  refine Classical.byContradiction fun hn => ?_
  unfold Lies at h
  rw [Array.getElem?_eq_none (by omega)] at h
  cases h
theorem Lies.cell {w : World} {g : Nat} {t : TypeId} {cs : Array Value} (h : Lies w g t cs) (i : Nat) : w.cell? ⟨g, i, none⟩ = cs[i]? := cell_of_row w g i cs t (0, 0) h
theorem Lies.free {w : World} {g : Nat} {t : TypeId} {cs : Array Value} (h : Lies w g t cs) (i : Nat) : w.frozen? ⟨g, i, none⟩ = false := frozen_of_row w g i cs t h
theorem Lies.made (w : World) (t : TypeId) (cs : Array Value) : Lies (w.alloc (.cells cs t)) w.heap.size t cs := heap_alloc_new w _
theorem Lies.alloc {w : World} {g : Nat} {t : TypeId} {cs : Array Value} (h : Lies w g t cs) (o : Obj) : Lies (w.alloc o) g t cs := (Below.heap_alloc w o g h.lt).trans h
theorem Lies.put {w : World} {g : Nat} {t : TypeId} {cs : Array Value} (h : Lies w g t cs) (i : Nat) (v : Value) : Lies (w.setCell ⟨g, i, none⟩ v) g t (cs.setIfInBounds i v) := heap_setCell_same w g i cs t v h
theorem Lies.other {w : World} {g : Nat} {t : TypeId} {cs : Array Value} (h : Lies w g t cs) {a : Addr} (ha : g ≠ a.block) (v : Value) : Lies (w.setCell a v) g t cs := (heap_setCell_other w a g v ha).trans h
theorem Lies.below {w w' : World} {g B : Nat} {t : TypeId} {cs : Array Value} (h : Lies w g t cs) (hb : Below B w w') (hg : g < B) : Lies w' g t cs := (hb.block g hg).trans h

theorem Lies.there {w : World} {g : Nat} {t : TypeId} {cs : Array Value} (h : Lies w g t cs) (n : Nat) (hn : n ≤ cs.size) : w.there g 0 n := fun j hj => by
  rw [Nat.zero_add]
  exact ⟨by rw [h.cell, Array.getElem?_eq_getElem (by omega)]; rfl, h.free j⟩
theorem Lies.puts' {g : Nat} {t : TypeId} : ∀ (vs : List Value) (o : Nat) (w : World) (cs : Array Value), Lies w g t cs → o + vs.length ≤ cs.size →
    ∃ ds, Lies (w.setCells g o vs) g t ds ∧ ds.size = cs.size ∧ ∀ j, ds[j]? = if o ≤ j ∧ j < o + vs.length then vs[j - o]? else cs[j]?
  | [], o, w, cs, h, _ => ⟨cs, h, rfl, fun j => by rw [if_neg (by simp)]⟩
  | v :: r, o, w, cs, h, hn => by
    obtain ⟨ds, h1, h2, h3⟩ := Lies.puts' r (o + 1) _ _ (h.put o v) (by simp at hn ⊢; omega)
    refine ⟨ds, h1, by simpa using h2, fun j => ?_⟩
    rw [h3 j]
    simp only [List.length_cons] at hn ⊢
    rw [Array.getElem?_setIfInBounds]
    by_cases a : o + 1 ≤ j ∧ j < o + 1 + r.length
    · rw [if_pos a, if_pos (by omega)]
      obtain ⟨i, hi⟩ : ∃ i, j - o = i + 1 := ⟨j - o - 1, by omega⟩
      rw [hi, List.getElem?_cons_succ]
      congr 1; omega
    · rw [if_neg a]
      by_cases b : o = j
      · subst b
        rw [if_pos rfl, if_pos (by omega), if_pos (by omega), Nat.sub_self, List.getElem?_cons_zero]
      · rw [if_neg b, if_neg (by omega)]
theorem Lies.puts {w : World} {g : Nat} {t : TypeId} {cs : Array Value} (h : Lies w g t cs) (T : Array Value) (hT : T.size = cs.size) : Lies (w.setCells g 0 T.toList) g t T := by
  obtain ⟨ds, h1, h2, h3⟩ := Lies.puts' T.toList 0 w cs h (by simp; omega)
  have : ds = T := by
    apply Array.ext_getElem?
    intro j
    rw [h3 j]
    by_cases hj : j < T.size
    · rw [if_pos (by simp; omega)]; simp
    · rw [if_neg (by simp; omega), Array.getElem?_eq_none (by omega), Array.getElem?_eq_none (by omega)]
  rw [this] at h1; exact h1
theorem Lies.puts_other {w : World} {g b : Nat} {t : TypeId} {cs : Array Value} (h : Lies w g t cs) (hne : g ≠ b) (vs : List Value) (o : Nat) : Lies (w.setCells b o vs) g t cs := by
  induction vs generalizing w o with
  | nil => exact h
  | cons v r ih => exact ih (h.other (a := ⟨b, o, none⟩) hne v) (o + 1)
theorem below_puts {B b : Nat} {a w : World} (h : Below B a w) (hb : B ≤ b) (vs : List Value) (o : Nat) : Below B a (w.setCells b o vs) := by
  induction vs generalizing w o with
  | nil => exact h
  | cons v r ih => exact ih (h.setCell (p := ⟨b, o, none⟩) hb v) (o + 1)
theorem size_one (w : World) (o : Obj) : (w.alloc o).heap.size = w.heap.size + 1 := by simp
theorem Lies.made2 (w : World) (o : Obj) (t : TypeId) (cs : Array Value) : Lies ((w.alloc o).alloc (.cells cs t)) (w.heap.size + 1) t cs := by
  have := Lies.made (w.alloc o) t cs
  rwa [size_one] at this
theorem Lies.made3 (w : World) (o o2 : Obj) (t : TypeId) (cs : Array Value) : Lies (((w.alloc o).alloc o2).alloc (.cells cs t)) (w.heap.size + 1 + 1) t cs := by
  have := Lies.made2 (w.alloc o) o2 t cs
  rwa [size_one] at this


theorem ret_bool {a b : Bool} (h : a = b) : Ending.returned (.bool a) = .returned (.bool b) := by rw [h]
theorem below1 (w : World) (o : Obj) : Below w.heap.size w (w.alloc o) := (Below.refl _ _).alloc (Nat.le_refl _) _
theorem below2 (w : World) (o p : Obj) : Below w.heap.size w ((w.alloc o).alloc p) := ((Below.refl _ _).alloc (Nat.le_refl _) _).alloc (by simp) _
theorem range_of_lies {w : World} {g : Nat} {t : TypeId} {cs : Array Value} (h : Lies w g t cs) : w.rangeAt g 0 cs.toList := fun j v hv => by
  rw [Nat.zero_add, h.cell]
  simpa using hv
theorem below_drewN {B : Nat} {a w : World} (h : Below B a w) (n : Nat) : Below B a (w.drewN n) := ⟨h.os, h.tape, h.output, h.size, h.block⟩
section
variable {P : Program} {ops : Array Oper} {Q : Exit → Act → World → Prop} {md : Region.Mode} {S : World → Prop}

/-- An operation that is wanted, and yields the same in every world that meets S, is taken first. -/
theorem any_take (i : Nat) (d : Tmp) {oi : Oper} (v : Value) {fuel : Nat} {listed : Array Bool} {a : Act} {w : World} (hi : ops[i]? = some oi) (hd : oi.dst = some d)
    (hs : Region.noSelect ops = true) (hf : Region.free md ops listed i = true) (hr : (Region.ready md ops listed).contains i = true)
    (hQ : ∀ c a w, Q (.panic c) (a.put (some d) v) w → Q (.panic c) a w) (hw : Region.wanted oi (yielded ops a.tmps) = true) (hy : ∀ w, S w → (execOp a.eval oi).run P w = .ok (.value v) w) (hS : S w)
    (h : wpAnyH P md ops Q S fuel (listed.setIfInBounds i true) (a.put (some d) v) w) : wpAnyH P md ops Q S (fuel + 1) listed a w :=
  wpAnyH_take hi hs hf hr (by rw [hd]; exact hQ) (.inl ⟨hw, hy⟩) hS (by rw [hd]; exact h)

/-- An operation that is not wanted. -/
theorem any_skip (i : Nat) (d : Tmp) {oi : Oper} {fuel : Nat} {listed : Array Bool} {a : Act} {w : World} (hi : ops[i]? = some oi) (hd : oi.dst = some d)
    (hs : Region.noSelect ops = true) (hf : Region.free md ops listed i = true) (hr : (Region.ready md ops listed).contains i = true)
    (hQ : ∀ c a w, Q (.panic c) (a.put (some d) undef) w → Q (.panic c) a w) (hw : Region.wanted oi (yielded ops a.tmps) = false) (hS : S w)
    (h : wpAnyH P md ops Q S fuel (listed.setIfInBounds i true) (a.put (some d) undef) w) : wpAnyH P md ops Q S (fuel + 1) listed a w :=
  wpAnyH_take hi hs hf hr (by rw [hd]; exact hQ) (.inr ⟨hw, rfl⟩) hS (by rw [hd]; exact h)
end


end Go.Proofs.YtpbclmnhkmcknaaGreat.St

namespace Go.Proofs.YtpbclmnhkmcknaaGreat.St
set_option linter.unusedVariables false

/-- A kind: its name, how many are free, how many gone. -/
structure Kd where
  n : List UInt8
  f : Int
  g : Int
/-- A hold: its order, the kind's name, how many. -/
structure Hd where
  o : Nat
  n : List UInt8
  k : Int
instance : Inhabited Kd := ⟨⟨[], 0, 0⟩⟩
instance : Inhabited Hd := ⟨⟨0, [], 0⟩⟩
/-- A stock. -/
structure Ss where
  K : List Kd
  H : List Hd

def findK (K : List Kd) (x : List UInt8) : Option Kd := K.find? (fun k => k.n == x)
def findH (H : List Hd) (o : Nat) : Option Hd := H.find? (fun h => h.o == o)
def updK (K : List Kd) (k' : Kd) : List Kd := K.map (fun k => if k.n == k'.n then k' else k)
def insK (k : Kd) : List Kd → List Kd
  | [] => [k]
  | x :: r => if k.n < x.n then k :: x :: r else x :: insK k r
def insH (h : Hd) : List Hd → List Hd
  | [] => [h]
  | x :: r => if h.o < x.o then h :: x :: r else x :: insH h r
def delH (H : List Hd) (o : Nat) : List Hd := H.filter (fun h => h.o != o)
/-- How many of a kind are held. -/
def held : List Hd → List UInt8 → Int
  | [], _ => 0
  | h :: r, x => (if h.n == x then h.k else 0) + held r x

/-- May so many be held? -/
def holdV (s : Ss) (o : Nat) (x : List UInt8) (n : Int) : Bool :=
  o != 0 && decide (1 ≤ n) && (findH s.H o).isNone && (match findK s.K x with | none => false | some k => decide (n ≤ k.f))
def holdS (s : Ss) (o : Nat) (x : List UInt8) (n : Int) : Ss :=
  if holdV s o x n = true then (match findK s.K x with | none => s | some k => ⟨updK s.K ⟨k.n, k.f - n, k.g⟩, insH ⟨o, k.n, n⟩ s.H⟩) else s
def endV (s : Ss) (o : Nat) : Bool := (findH s.H o).isSome
/-- The kind behind the end of a hold of m. -/
def backK (k : Kd) (m : Int) (b : Bool) : Kd := if b then ⟨k.n, k.f, k.g + m⟩ else ⟨k.n, k.f + m, k.g⟩
def endS (s : Ss) (o : Nat) (b : Bool) : Ss :=
  match findH s.H o with
  | none => s
  | some h => match findK s.K h.n with
    | none => s
    | some k => ⟨updK s.K (backK k h.k b), delH s.H o⟩
def verd (b : Bool) : Int := if b then 1 else 2

def KSort (K : List Kd) : Prop := K.Pairwise (fun a b => a.n < b.n)
def HSort (H : List Hd) : Prop := H.Pairwise (fun a b => a.o < b.o)

/-! ### names -/
theorem nm_irrefl (a : List UInt8) : ¬ a < a := List.lt_irrefl a
theorem nm_trans {a b c : List UInt8} (h : a < b) (h' : b < c) : a < c := List.lt_trans h h'
theorem nm_asymm {a b : List UInt8} (h : a < b) : ¬ b < a := fun h' => nm_irrefl a (nm_trans h h')
theorem nm_tri {a b : List UInt8} (h : ¬ a < b) (h' : a ≠ b) : b < a := by
  refine Classical.byContradiction fun hb => h' ?_
  exact List.le_antisymm (List.not_lt.1 hb) (List.not_lt.1 h)

/-! ### kinds -/
theorem findK_some {K : List Kd} {x : List UInt8} {k : Kd} (h : findK K x = some k) : k ∈ K ∧ k.n = x :=
  ⟨List.mem_of_find?_eq_some h, by simpa using List.find?_some h⟩
theorem findK_none {K : List Kd} {x : List UInt8} (h : findK K x = none) : ∀ k ∈ K, k.n ≠ x := fun k hk e => by
  have := List.find?_eq_none.1 h k hk
  simp [e] at this
theorem findK_none' {K : List Kd} {x : List UInt8} (h : ∀ k ∈ K, k.n ≠ x) : findK K x = none :=
  List.find?_eq_none.2 fun k hk => by simpa using h k hk
theorem KSort.uniq {K : List Kd} (h : KSort K) {a b : Kd} (ha : a ∈ K) (hb : b ∈ K) (e : a.n = b.n) : a = b := by
  induction K with
  | nil => cases ha
  | cons x r ih =>
    obtain ⟨h1, h2⟩ := List.pairwise_cons.1 h
    rcases List.mem_cons.1 ha with ea | ha'
    · rcases List.mem_cons.1 hb with eb | hb'
      · rw [ea, eb]
      · subst ea; exact absurd (e ▸ h1 b hb') (nm_irrefl _)
    · rcases List.mem_cons.1 hb with eb | hb'
      · subst eb; exact absurd (e ▸ h1 a ha') (nm_irrefl _)
      · exact ih h2 ha' hb'
theorem KSort.find {K : List Kd} (h : KSort K) {k : Kd} (hk : k ∈ K) : findK K k.n = some k := by
  cases hf : findK K k.n with
  | none => exact absurd rfl (findK_none hf k hk)
  | some k' => obtain ⟨h1, h2⟩ := findK_some hf; rw [h.uniq h1 hk h2]
theorem updK_names (K : List Kd) (k' : Kd) : (updK K k').map (·.n) = K.map (·.n) := by
  unfold updK
  rw [List.map_map]
  refine List.map_congr_left fun k _ => ?_
  simp only [Function.comp]
  split
  · rename_i h; simpa using (beq_iff_eq.1 h).symm
  · rfl
theorem updK_length (K : List Kd) (k' : Kd) : (updK K k').length = K.length := by simp [updK]
theorem KSort_iff (K : List Kd) : KSort K ↔ (K.map (·.n)).Pairwise (· < ·) := by unfold KSort; rw [List.pairwise_map]
theorem KSort.upd {K : List Kd} (h : KSort K) (k' : Kd) : KSort (updK K k') := by
  rw [KSort_iff, updK_names, ← KSort_iff]; exact h
theorem mem_updK {K : List Kd} {k' y : Kd} : y ∈ updK K k' ↔ (y = k' ∧ ∃ k ∈ K, k.n = k'.n) ∨ (y ∈ K ∧ y.n ≠ k'.n) := by
  unfold updK
  rw [List.mem_map]
  constructor
  · rintro ⟨k, hk, rfl⟩
    by_cases e : k.n = k'.n
    · left; rw [if_pos (by simpa using e)]; exact ⟨rfl, k, hk, e⟩
    · right; rw [if_neg (by simpa using e)]; exact ⟨hk, e⟩
  · rintro (⟨rfl, k, hk, e⟩ | ⟨hy, e⟩)
    · exact ⟨k, hk, by simp [e]⟩
    · exact ⟨y, hy, by rw [if_neg (by simpa using e)]⟩
theorem updK_self {K : List Kd} (h : KSort K) {k : Kd} (hk : k ∈ K) : updK K k = K := by
  unfold updK
  conv => rhs; rw [← List.map_id K]
  refine List.map_congr_left fun y hy => ?_
  split
  · rename_i e; exact (h.uniq hy hk (beq_iff_eq.1 e)).symm
  · rfl
theorem updK_updK (K : List Kd) (a b : Kd) (e : a.n = b.n) : updK (updK K a) b = updK K b := by
  unfold updK
  rw [List.map_map]
  refine List.map_congr_left fun y hy => ?_
  simp only [Function.comp]
  by_cases h : y.n = b.n
  · simp [h, e]
  · simp [h, e]
theorem findK_upd {K : List Kd} (h : KSort K) (k' : Kd) (x : List UInt8) : findK (updK K k') x = if x = k'.n then (findK K x).map (fun _ => k') else findK K x := by
  cases hf : findK K x with
  | none =>
    have h1 := findK_none hf
    have : findK (updK K k') x = none := findK_none' fun y hy e => by
      rcases mem_updK.1 hy with ⟨rfl, k, hk, e'⟩ | ⟨hy, _⟩
      · exact h1 k hk (e'.trans e)
      · exact h1 y hy e
    rw [this]; split <;> rfl
  | some k =>
    obtain ⟨hk, rfl⟩ := findK_some hf
    split
    · rename_i e
      have := (h.upd k').find (k := k') (mem_updK.2 (.inl ⟨rfl, k, hk, e⟩))
      rw [e, this]; rfl
    · rename_i e
      exact (h.upd k').find (mem_updK.2 (.inr ⟨hk, e⟩))

/-! ### holds -/
theorem findH_some {H : List Hd} {o : Nat} {h : Hd} (e : findH H o = some h) : h ∈ H ∧ h.o = o :=
  ⟨List.mem_of_find?_eq_some e, by simpa using List.find?_some e⟩
theorem findH_none {H : List Hd} {o : Nat} (h : findH H o = none) : ∀ x ∈ H, x.o ≠ o := fun k hk e => by
  have := List.find?_eq_none.1 h k hk
  simp [e] at this
theorem findH_none' {H : List Hd} {o : Nat} (h : ∀ x ∈ H, x.o ≠ o) : findH H o = none :=
  List.find?_eq_none.2 fun k hk => by simpa using h k hk
theorem HSort.uniq {H : List Hd} (h : HSort H) {a b : Hd} (ha : a ∈ H) (hb : b ∈ H) (e : a.o = b.o) : a = b := by
  induction H with
  | nil => cases ha
  | cons x r ih =>
    obtain ⟨h1, h2⟩ := List.pairwise_cons.1 h
    rcases List.mem_cons.1 ha with ea | ha'
    · rcases List.mem_cons.1 hb with eb | hb'
      · rw [ea, eb]
      · subst ea; have := h1 b hb'; omega
    · rcases List.mem_cons.1 hb with eb | hb'
      · subst eb; have := h1 a ha'; omega
      · exact ih h2 ha' hb'
theorem HSort.find {H : List Hd} (h : HSort H) {x : Hd} (hx : x ∈ H) : findH H x.o = some x := by
  cases hf : findH H x.o with
  | none => exact absurd rfl (findH_none hf x hx)
  | some k' => obtain ⟨h1, h2⟩ := findH_some hf; rw [h.uniq h1 hx h2]
theorem mem_insH {h y : Hd} : ∀ {H : List Hd}, y ∈ insH h H ↔ y = h ∨ y ∈ H
  | [] => by simp [insH]
  | x :: r => by
    unfold insH
    split
    · simp
    · simp only [List.mem_cons, mem_insH (H := r)]
      constructor
      · rintro (h | h | h) <;> simp [h]
      · rintro (h | h | h) <;> simp [h]
theorem insH_length (h : Hd) : ∀ H : List Hd, (insH h H).length = H.length + 1
  | [] => rfl
  | x :: r => by unfold insH; split <;> simp [insH_length h r]
theorem HSort.ins {H : List Hd} {h : Hd} (hs : HSort H) (hn : ∀ x ∈ H, x.o ≠ h.o) : HSort (insH h H) := by
  induction H with
  | nil => exact List.pairwise_singleton _ _
  | cons x r ih =>
    obtain ⟨h1, h2⟩ := List.pairwise_cons.1 hs
    unfold insH
    split
    · rename_i e
      refine List.pairwise_cons.2 ⟨fun y hy => ?_, hs⟩
      rcases List.mem_cons.1 hy with rfl | hy
      · exact e
      · have := h1 y hy; omega
    · rename_i e
      refine List.pairwise_cons.2 ⟨fun y hy => ?_, ih h2 fun y hy => hn y (List.mem_cons_of_mem _ hy)⟩
      rcases mem_insH.1 hy with rfl | hy
      · have := hn x (List.mem_cons_self ..); omega
      · exact h1 y hy
theorem HSort.del {H : List Hd} (hs : HSort H) (o : Nat) : HSort (delH H o) := hs.filter _
theorem mem_delH {H : List Hd} {o : Nat} {y : Hd} : y ∈ delH H o ↔ y ∈ H ∧ y.o ≠ o := by simp [delH, List.mem_filter]
theorem delH_ins {H : List Hd} {h : Hd} (hn : ∀ x ∈ H, x.o ≠ h.o) : delH (insH h H) h.o = H := by
  induction H with
  | nil => simp [insH, delH]
  | cons x r ih =>
    have hx := hn x (List.mem_cons_self ..)
    have ih' := ih fun y hy => hn y (List.mem_cons_of_mem _ hy)
    have hr : delH r h.o = r := by
      unfold delH
      rw [List.filter_eq_self]
      intro y hy
      simpa using hn y (List.mem_cons_of_mem _ hy)
    unfold insH
    split
    · unfold delH at hr ⊢
      simp [hx, hr]
    · unfold delH at ih' ⊢
      simp [hx, ih']
theorem delH_length {H : List Hd} (hs : HSort H) {h : Hd} (hh : h ∈ H) : (delH H h.o).length + 1 = H.length := by
  induction H with
  | nil => cases hh
  | cons x r ih =>
    obtain ⟨h1, h2⟩ := List.pairwise_cons.1 hs
    rcases List.mem_cons.1 hh with rfl | hr
    · have : delH r h.o = r := by
        unfold delH
        rw [List.filter_eq_self]
        intro y hy
        have := h1 y hy
        simp; omega
      unfold delH at this ⊢
      simp [this]
    · have hx := h1 h hr
      have := ih h2 hr
      unfold delH at this ⊢
      rw [List.filter_cons, if_pos (by simp; omega)]
      simp [this]
theorem findH_ins {H : List Hd} {h : Hd} (hs : HSort H) (hn : ∀ x ∈ H, x.o ≠ h.o) (o : Nat) : findH (insH h H) o = if o = h.o then some h else findH H o := by
  split
  · rename_i e; subst e; exact (hs.ins hn).find (mem_insH.2 (.inl rfl))
  · rename_i e
    cases hf : findH H o with
    | none =>
      refine findH_none' fun y hy e' => ?_
      rcases mem_insH.1 hy with rfl | hy
      · exact e e'.symm
      · exact findH_none hf y hy e'
    | some y =>
      obtain ⟨hy, rfl⟩ := findH_some hf
      exact (hs.ins hn).find (mem_insH.2 (.inr hy))
theorem findH_del {H : List Hd} (hs : HSort H) (o q : Nat) : findH (delH H q) o = if o = q then none else findH H o := by
  split
  · rename_i e; subst e; exact findH_none' fun y hy => (mem_delH.1 hy).2
  · rename_i e
    cases hf : findH H o with
    | none => exact findH_none' fun y hy e' => findH_none hf y (mem_delH.1 hy).1 e'
    | some y =>
      obtain ⟨hy, rfl⟩ := findH_some hf
      exact (hs.del q).find (mem_delH.2 ⟨hy, e⟩)
theorem held_ins (h : Hd) (x : List UInt8) : ∀ H : List Hd, held (insH h H) x = (if h.n == x then h.k else 0) + held H x
  | [] => rfl
  | y :: r => by
    unfold insH
    split
    · rfl
    · simp only [held, held_ins h x r]; omega
theorem held_del {H : List Hd} (hs : HSort H) {h : Hd} (hh : h ∈ H) (x : List UInt8) : held (delH H h.o) x = held H x - (if h.n == x then h.k else 0) := by
  induction H with
  | nil => cases hh
  | cons y r ih =>
    obtain ⟨h1, h2⟩ := List.pairwise_cons.1 hs
    rcases List.mem_cons.1 hh with rfl | hr
    · have : delH r h.o = r := by
        unfold delH
        rw [List.filter_eq_self]
        intro y hy
        have := h1 y hy
        simp; omega
      unfold delH at this ⊢
      rw [List.filter_cons, if_neg (by simp), this]
      simp only [held]; omega
    · have hx := h1 h hr
      have := ih h2 hr
      unfold delH at this ⊢
      rw [List.filter_cons, if_pos (by simp; omega)]
      simp only [held, this]; omega

/-! ### a stock that may be -/
structure Inv (s : Ss) : Prop where
  ks : KSort s.K
  hs : HSort s.H
  kl : ∀ k ∈ s.K, 1 ≤ k.n.length ∧ k.n.length ≤ 32
  kf : ∀ k ∈ s.K, 0 ≤ k.f ∧ 0 ≤ k.g ∧ k.f + k.g + held s.H k.n ≤ 1000000
  hh : ∀ h ∈ s.H, 1 ≤ h.k ∧ 0 < h.o ∧ h.o < 4294967296 ∧ ∃ k ∈ s.K, k.n = h.n
  kz : s.K.length ≤ 50

theorem held_nonneg {H : List Hd} (h : ∀ y ∈ H, 1 ≤ y.k) (x : List UInt8) : 0 ≤ held H x := by
  induction H with
  | nil => exact Int.le_refl _
  | cons y r ih =>
    have h1 := h y (List.mem_cons_self ..)
    have h2 := ih fun z hz => h z (List.mem_cons_of_mem _ hz)
    simp only [held]
    split <;> omega
theorem held_ge {H : List Hd} (h : ∀ y ∈ H, 1 ≤ y.k) {y : Hd} (hy : y ∈ H) : y.k ≤ held H y.n := by
  induction H with
  | nil => cases hy
  | cons z r ih =>
    have h1 := h z (List.mem_cons_self ..)
    have h3 := fun z hz => h z (List.mem_cons_of_mem _ hz)
    simp only [held]
    rcases List.mem_cons.1 hy with rfl | hr
    · rw [if_pos (by simp)]
      have := held_nonneg h3 y.n
      omega
    · have := ih h3 hr
      split <;> omega
theorem Inv.kn {s : Ss} (h : Inv s) {y : Hd} (hy : y ∈ s.H) : ∃ k, findK s.K y.n = some k ∧ k ∈ s.K ∧ k.n = y.n := by
  obtain ⟨-, -, -, k, hk, e⟩ := h.hh y hy
  exact ⟨k, e ▸ h.ks.find hk, hk, e⟩
theorem Inv.kb {s : Ss} (h : Inv s) {y : Hd} (hy : y ∈ s.H) : y.k ≤ 1000000 ∧ y.n.length ≤ 32 := by
  obtain ⟨k, -, hk, e⟩ := h.kn hy
  have h1 := h.kf k hk
  have h2 := held_ge (fun z hz => (h.hh z hz).1) hy
  rw [e] at h1
  exact ⟨by omega, e ▸ (h.kl k hk).2⟩

theorem holdV_iff {s : Ss} {o : Nat} {x : List UInt8} {n : Int} : holdV s o x n = true ↔ o ≠ 0 ∧ 1 ≤ n ∧ findH s.H o = none ∧ ∃ k, findK s.K x = some k ∧ n ≤ k.f := by
  unfold holdV
  cases hk : findK s.K x <;> simp [and_assoc]
theorem holdS_no {s : Ss} {o : Nat} {x : List UInt8} {n : Int} (h : holdV s o x n = false) : holdS s o x n = s := by
  unfold holdS; rw [if_neg (by rw [h]; decide)]
theorem holdS_yes {s : Ss} {o : Nat} {x : List UInt8} {n : Int} (h : holdV s o x n = true) {k : Kd} (hk : findK s.K x = some k) : holdS s o x n = ⟨updK s.K ⟨k.n, k.f - n, k.g⟩, insH ⟨o, k.n, n⟩ s.H⟩ := by
  unfold holdS; rw [if_pos h, hk]
theorem endS_yes {s : Ss} {o : Nat} {b : Bool} {h : Hd} {k : Kd} (h1 : findH s.H o = some h) (h2 : findK s.K h.n = some k) : endS s o b = ⟨updK s.K (backK k h.k b), delH s.H o⟩ := by
  unfold endS; rw [h1]; dsimp only; rw [h2]
theorem endS_no {s : Ss} {o : Nat} {b : Bool} (h1 : findH s.H o = none) : endS s o b = s := by unfold endS; rw [h1]
theorem backK_n (k : Kd) (m : Int) (b : Bool) : (backK k m b).n = k.n := by cases b <;> rfl

theorem Inv.hold {s : Ss} (h : Inv s) {o : Nat} (ho : o < 4294967296) (x : List UInt8) (n : Int) : Inv (holdS s o x n) := by
  cases hv : holdV s o x n
  · rw [holdS_no hv]; exact h
  · obtain ⟨h0, h1, h2, k, hk, h3⟩ := holdV_iff.1 hv
    rw [holdS_yes hv hk]
    obtain ⟨hm, rfl⟩ := findK_some hk
    have hn := findH_none h2
    have hkf := h.kf k hm
    have hp := held_nonneg (fun z hz => (h.hh z hz).1) k.n
    refine ⟨h.ks.upd _, h.hs.ins hn, ?_, ?_, ?_, by rw [updK_length]; exact h.kz⟩
    · intro y hy
      rcases mem_updK.1 hy with ⟨rfl, _⟩ | ⟨hy, _⟩
      · exact h.kl k hm
      · exact h.kl y hy
    · intro y hy
      show 0 ≤ y.f ∧ 0 ≤ y.g ∧ y.f + y.g + held (insH ⟨o, k.n, n⟩ s.H) y.n ≤ 1000000
      rw [held_ins]
      rcases mem_updK.1 hy with ⟨rfl, _⟩ | ⟨hy, hne⟩
      · dsimp only
        rw [if_pos (by simp)]
        omega
      · have := h.kf y hy
        have hne' : k.n ≠ y.n := fun e => hne e.symm
        dsimp only
        rw [if_neg (by simpa using hne')]
        omega
    · intro y hy
      rcases mem_insH.1 hy with rfl | hy
      · exact ⟨h1, by show 0 < o; omega, ho, ⟨k.n, k.f - n, k.g⟩, mem_updK.2 (.inl ⟨rfl, k, hm, rfl⟩), rfl⟩
      · obtain ⟨a, b, c, k2, hk2, e⟩ := h.hh y hy
        refine ⟨a, b, c, ?_⟩
        by_cases e2 : k2.n = k.n
        · exact ⟨⟨k.n, k.f - n, k.g⟩, mem_updK.2 (.inl ⟨rfl, k, hm, rfl⟩), e2.symm.trans e⟩
        · exact ⟨k2, mem_updK.2 (.inr ⟨hk2, e2⟩), e⟩

theorem Inv.fin {s : Ss} (h : Inv s) (o : Nat) (b : Bool) : Inv (endS s o b) := by
  cases hf : findH s.H o with
  | none => rw [endS_no hf]; exact h
  | some y =>
    obtain ⟨hy, rfl⟩ := findH_some hf
    obtain ⟨k, hk, hm, e⟩ := h.kn hy
    rw [endS_yes hf hk]
    have hkf := h.kf k hm
    have hyk := (h.hh y hy).1
    have hge := held_ge (fun z hz => (h.hh z hz).1) hy
    refine ⟨h.ks.upd _, h.hs.del _, ?_, ?_, ?_, by rw [updK_length]; exact h.kz⟩
    · intro z hz
      rcases mem_updK.1 hz with ⟨rfl, _⟩ | ⟨hz, _⟩
      · rw [backK_n]; exact h.kl k hm
      · exact h.kl z hz
    · intro z hz
      show 0 ≤ z.f ∧ 0 ≤ z.g ∧ z.f + z.g + held (delH s.H y.o) z.n ≤ 1000000
      rw [held_del h.hs hy]
      rcases mem_updK.1 hz with ⟨rfl, _⟩ | ⟨hz, hne⟩
      · rw [backK_n, e, if_pos (by simp)]
        rw [e] at hkf
        cases b <;> (unfold backK; simp only [Bool.false_eq_true, if_false, if_true]; omega)
      · have := h.kf z hz
        rw [backK_n] at hne
        rw [if_neg (by rw [beq_iff_eq]; intro e'; exact hne (e'.symm.trans e.symm))]
        omega
    · intro z hz
      obtain ⟨hz, -⟩ := mem_delH.1 hz
      obtain ⟨a, c, d, k2, hk2, e3⟩ := h.hh z hz
      refine ⟨a, c, d, ?_⟩
      by_cases e2 : k2.n = k.n
      · exact ⟨backK k y.k b, mem_updK.2 (.inl ⟨rfl, k, hm, by rw [backK_n]⟩), by rw [backK_n]; exact e2.symm.trans e3⟩
      · exact ⟨k2, mem_updK.2 (.inr ⟨hk2, by rw [backK_n]; exact e2⟩), e3⟩

theorem holdS_len (s : Ss) (o : Nat) (x : List UInt8) (n : Int) : (holdS s o x n).H.length ≤ s.H.length + 1 ∧ (holdS s o x n).K.map (·.n) = s.K.map (·.n) := by
  cases hv : holdV s o x n
  · rw [holdS_no hv]; exact ⟨by omega, rfl⟩
  · obtain ⟨h0, h1, h2, k, hk, h3⟩ := holdV_iff.1 hv
    rw [holdS_yes hv hk]
    exact ⟨by rw [insH_length]; omega, updK_names _ _⟩
theorem endS_len (s : Ss) (o : Nat) (b : Bool) : (endS s o b).H.length ≤ s.H.length ∧ (endS s o b).K.map (·.n) = s.K.map (·.n) := by
  unfold endS
  split
  · exact ⟨Nat.le_refl _, rfl⟩
  · split
    · exact ⟨Nat.le_refl _, rfl⟩
    · exact ⟨List.length_filter_le _ _, updK_names _ _⟩

end Go.Proofs.YtpbclmnhkmcknaaGreat.St
