/-
  The plain mathematics of frames: what a frame is, that it is read back, and that hurt ones are told.
-/
import Derived.Test.YtaehagejmeimiaaMath
namespace Go.Proofs.Ytaehagejmeimiaa.Frm
open Go.Proofs.Ytaehagejmeimiaa

/-- The k lowest bytes of n, the highest first. -/
def be (k n : Nat) : List Nat := (List.range k).map fun i => n / 2 ^ (8 * (k - 1 - i)) % 256
theorem be_len (k n : Nat) : (be k n).length = k := by simp [be]
theorem be_small (k n : Nat) : ∀ c ∈ be k n, c < 256 := by
  intro c hc
  simp only [be, List.mem_map] at hc
  obtain ⟨i, _, rfl⟩ := hc
  omega
theorem be_two (n : Nat) : be 2 n = [n / 256 % 256, n % 256] := by simp [be, List.range_succ]
theorem be_four (n : Nat) : be 4 n = [n / 16777216 % 256, n / 65536 % 256, n / 256 % 256, n % 256] := by simp [be, List.range_succ]

/-- The checksum of a body. -/
def chk (l : List Nat) : Nat := Crc.crc (be 2 l.length ++ l)
theorem chk_lt (l : List Nat) (hl : ∀ c ∈ l, c < 256) : chk l < 4294967296 := Crc.crc_lt _ (by
  intro c hc
  rcases List.mem_append.1 hc with h | h
  · exact be_small _ _ c h
  · exact hl c h)
/-- A frame's head: the mark, a length, a sum. -/
def head (n s : Nat) : List Nat := 215 :: 166 :: (be 2 n ++ be 4 s)
theorem head_eq (n s : Nat) : head n s = [215, 166, n / 256 % 256, n % 256, s / 16777216 % 256, s / 65536 % 256, s / 256 % 256, s % 256] := by
  rw [head, be_two, be_four]; rfl
theorem head_len (n s : Nat) : (head n s).length = 8 := by rw [head_eq]; rfl
theorem head_small (n s : Nat) : ∀ c ∈ head n s, c < 256 := by
  intro c hc
  rw [head_eq] at hc
  simp at hc
  omega
/-- The frame of a body. -/
def frm (l : List Nat) : List Nat := head l.length (chk l) ++ l
theorem frm_len (l : List Nat) : (frm l).length = l.length + 8 := by rw [frm, List.length_append, head_len]; omega
theorem frm_small (l : List Nat) (hl : ∀ c ∈ l, c < 256) : ∀ c ∈ frm l, c < 256 := by
  intro c hc
  rcases List.mem_append.1 hc with h | h
  · exact head_small _ _ c h
  · exact hl c h

theorem head_inj {n s m t : Nat} (h : head n s = head m t) (hn : n < 65536) (hm : m < 65536) (hs : s < 4294967296) (ht : t < 4294967296) : n = m ∧ s = t := by
  rw [head_eq, head_eq] at h
  simp only [List.cons.injEq] at h
  omega

/-- What its length says. -/
def lenOf (b : List Nat) : Nat := b.getD 2 0 * 256 + b.getD 3 0
/-- The body of the frame at the beginning of b, if there is one. -/
def opn (b : List Nat) : Option (List Nat) :=
  if lenOf b ≤ 2000 ∧ 8 + lenOf b ≤ b.length ∧ b.take (8 + lenOf b) = frm ((b.drop 8).take (lenOf b)) then some ((b.drop 8).take (lenOf b)) else none

theorem opn_some {b x : List Nat} (h : opn b = some x) : x.length ≤ 2000 ∧ ∃ t, b = frm x ++ t := by
  unfold opn at h
  split at h
  · rename_i hc
    injection h with h
    obtain ⟨h1, h2, h3⟩ := hc
    rw [h] at h3
    have hl : x.length = lenOf b := by rw [← h, List.length_take, List.length_drop]; omega
    exact ⟨by omega, b.drop (8 + lenOf b), by rw [← h3, List.take_append_drop]⟩
  · cases h

theorem lenOf_head (n s : Nat) (t : List Nat) (h : n < 65536) : lenOf (head n s ++ t) = n := by
  rw [head_eq, lenOf]
  simp [List.getD]
  omega
theorem opn_frm (x t : List Nat) (hx : x.length ≤ 2000) : opn (frm x ++ t) = some x := by
  have hl : lenOf (frm x ++ t) = x.length := by rw [frm, List.append_assoc]; exact lenOf_head _ _ _ (by omega)
  have hb : ((frm x ++ t).drop 8).take x.length = x := by
    rw [frm, List.append_assoc, List.drop_left' (head_len _ _), List.take_left' rfl]
  unfold opn
  rw [hl, hb, if_pos]
  refine ⟨hx, by rw [List.length_append, frm_len]; omega, ?_⟩
  rw [List.take_left' (by rw [frm_len]; omega)]

theorem frm_inj {x y t u : List Nat} (hx : x.length ≤ 2000) (hy : y.length ≤ 2000) (h : frm x ++ t = frm y ++ u) : x = y ∧ t = u := by
  have h1 := opn_frm x t hx
  rw [h, opn_frm y u hy] at h1
  injection h1 with h1
  subst h1
  exact ⟨rfl, List.append_cancel_left h⟩

theorem opn_nil : opn [] = none := by
  unfold opn; rw [if_neg]; simp
theorem opn_zero (t : List Nat) : opn (0 :: t) = none := by
  cases h : opn (0 :: t) with
  | none => rfl
  | some x =>
    obtain ⟨_, u, hu⟩ := opn_some h
    rw [frm, head] at hu
    simp at hu

/-- Frames one behind the other. -/
def row (ls : List (List Nat)) : List Nat := (ls.map frm).flatten
theorem row_nil : row [] = [] := rfl
theorem row_cons (x : List Nat) (ls : List (List Nat)) : row (x :: ls) = frm x ++ row ls := by simp [row]
theorem row_append (a b : List (List Nat)) : row (a ++ b) = row a ++ row b := by simp [row]
theorem row_snoc (a : List (List Nat)) (x : List Nat) : row (a ++ [x]) = row a ++ frm x := by rw [row_append, row_cons, row_nil, List.append_nil]
def Short (ls : List (List Nat)) : Prop := ∀ x ∈ ls, x.length ≤ 2000
theorem Short.cons {x : List Nat} {ls : List (List Nat)} (h : Short (x :: ls)) : x.length ≤ 2000 ∧ Short ls := ⟨h x (by simp), fun y hy => h y (by simp [hy])⟩

theorem row_uniq : ∀ (a b : List (List Nat)) (r s : List Nat), Short a → Short b → opn r = none → opn s = none → row a ++ r = row b ++ s → a = b ∧ r = s := by
  intro a
  induction a with
  | nil =>
    intro b r s _ hb hr hs h
    cases b with
    | nil => exact ⟨rfl, h⟩
    | cons y b =>
      rw [row_nil, List.nil_append, row_cons, List.append_assoc] at h
      rw [h, opn_frm y _ hb.cons.1] at hr
      cases hr
  | cons x a ih =>
    intro b r s ha hb hr hs h
    cases b with
    | nil =>
      rw [row_nil, List.nil_append, row_cons, List.append_assoc] at h
      rw [← h, opn_frm x _ ha.cons.1] at hs
      cases hs
    | cons y b =>
      rw [row_cons, row_cons, List.append_assoc, List.append_assoc] at h
      obtain ⟨rfl, h2⟩ := frm_inj ha.cons.1 hb.cons.1 h
      obtain ⟨rfl, rfl⟩ := ih b r s ha.cons.2 hb.cons.2 hr hs h2
      exact ⟨rfl, rfl⟩

/-- What is left of a frame that was cut is none. -/
theorem opn_cut {y r t : List Nat} (hy : y.length ≤ 2000) (h : frm y = r ++ t) (ht : t ≠ []) : opn r = none := by
  cases h1 : opn r with
  | none => rfl
  | some x =>
    obtain ⟨hx, u, rfl⟩ := opn_some h1
    have h2 : frm y ++ [] = frm x ++ (u ++ t) := by rw [List.append_nil, h, List.append_assoc]
    obtain ⟨_, h3⟩ := frm_inj hy hx h2
    simp at h3
    exact absurd h3.2 ht

/-- A frame with another sum is none. -/
theorem opn_hurt (y t : List Nat) (s : Nat) (hy : y.length ≤ 2000) (hb : ∀ c ∈ y, c < 256) (hs : s < 4294967296) (hne : s ≠ chk y) : opn (head y.length s ++ (y ++ t)) = none := by
  cases h1 : opn (head y.length s ++ (y ++ t)) with
  | none => rfl
  | some x =>
    exfalso
    have hl : lenOf (head y.length s ++ (y ++ t)) = y.length := lenOf_head _ _ _ (by omega)
    unfold opn at h1
    rw [hl, List.drop_left' (head_len _ _), List.take_left' rfl] at h1
    split at h1
    · rename_i hc
      have h3 := hc.2.2
      rw [← List.append_assoc, List.take_left' (by rw [List.length_append, head_len]), frm] at h3
      have h4 := List.append_cancel_right h3
      exact hne (head_inj h4 (by omega) (by omega) hs (chk_lt y hb)).2
    · cases h1

/-- How All ends: nothing is left, or a nought, or what is bad. -/
def endOf (r : List Nat) : Nat := if r.getD 0 0 = 0 then 0 else 31
theorem endOf_nil : endOf [] = 0 := rfl
theorem endOf_zero (t : List Nat) : endOf (0 :: t) = 0 := rfl
theorem endOf_bad (c : Nat) (t : List Nat) (h : c ≠ 0) : endOf (c :: t) = 31 := by
  unfold endOf; rw [if_neg]; simpa using h

end Go.Proofs.Ytaehagejmeimiaa.Frm
