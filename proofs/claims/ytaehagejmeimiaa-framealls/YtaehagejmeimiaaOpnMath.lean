/-
  The plain mathematics of reading a frame's head.
-/
import Derived.Test.YtaehagejmeimiaaFrmMath
import Derived.Test.YtaehagejmeimiaaReader
namespace Go.Proofs.Ytaehagejmeimiaa.Frm
open Go.Proofs.Ytaehagejmeimiaa

/-- The three numbers of a head. -/
def first (l : List Nat) : Nat := val (((l.take 8).drop 0).take 2)
def long (l : List Nat) : Nat := val (((l.take 8).drop 2).take 2)
def told (l : List Nat) : Nat := val (((l.take 8).drop 4).take 4)

theorem eight (l : List Nat) (h : 8 ≤ l.length) : ∃ a b c d e f g k r, l = a :: b :: c :: d :: e :: f :: g :: k :: r := by
  rcases l with _ | ⟨a, _ | ⟨b, _ | ⟨c, _ | ⟨d, _ | ⟨e, _ | ⟨f, _ | ⟨g, _ | ⟨k, r⟩⟩⟩⟩⟩⟩⟩⟩ <;> first | exact ⟨_, _, _, _, _, _, _, _, _, rfl⟩ | (simp at h; done) | (simp at h; omega)

theorem long_eq (l : List Nat) (h : 8 ≤ l.length) : long l = lenOf l := by
  obtain ⟨a, b, c, d, e, f, g, k, r, rfl⟩ := eight l h
  simp [long, lenOf, val, List.getD]

theorem opn_eq (l : List Nat) (h : 8 ≤ l.length) (hb : ∀ c ∈ l, c < 256) :
    opn l = if first l = 55206 ∧ long l ≤ 2000 ∧ 8 + long l ≤ l.length ∧ told l = chk ((l.drop 8).take (long l)) then some ((l.drop 8).take (long l)) else none := by
  rw [long_eq l h]
  unfold opn
  obtain ⟨a, b, c, d, e, f, g, k, r, rfl⟩ := eight l h
  have hs := fun x hx => hb x hx
  simp only [List.mem_cons] at hs
  have ha := hs a (by simp); have hb1 := hs b (by simp); have hc := hs c (by simp); have hd := hs d (by simp)
  have he := hs e (by simp); have hf := hs f (by simp); have hg := hs g (by simp); have hk := hs k (by simp)
  have hr : ∀ x ∈ r, x < 256 := fun x hx => hs x (by simp [hx])
  clear hs hb
  obtain ⟨n, hn⟩ : ∃ n, c * 256 + d = n := ⟨_, rfl⟩
  have e1 : first (a :: b :: c :: d :: e :: f :: g :: k :: r) = a * 256 + b := by simp [first, val]
  have e2 : told (a :: b :: c :: d :: e :: f :: g :: k :: r) = ((e * 256 + f) * 256 + g) * 256 + k := by simp [told, val]
  have e3 : lenOf (a :: b :: c :: d :: e :: f :: g :: k :: r) = n := by rw [← hn]; simp [lenOf, List.getD]
  have e4 : (a :: b :: c :: d :: e :: f :: g :: k :: r).drop 8 = r := rfl
  have e5 : (a :: b :: c :: d :: e :: f :: g :: k :: r).length = 8 + r.length := by simp; omega
  rw [e1, e2, e3, e4, e5]
  clear e1 e2 e3 e4 e5 h
  by_cases h1 : n ≤ 2000 ∧ 8 + n ≤ 8 + r.length
  · have hbl : (r.take n).length = n := by rw [List.length_take]; omega
    have hbb : ∀ x ∈ r.take n, x < 256 := fun x hx => hr x (List.mem_of_mem_take hx)
    have hck := chk_lt (r.take n) hbb
    have e6 : (a :: b :: c :: d :: e :: f :: g :: k :: r).take (8 + n) = [a, b, c, d, e, f, g, k] ++ r.take n := by
      rw [show 8 + n = n + 1 + 1 + 1 + 1 + 1 + 1 + 1 + 1 by omega]; rfl
    have key : ([a, b, c, d, e, f, g, k] ++ r.take n = frm (r.take n)) ↔ (a * 256 + b = 55206 ∧ ((e * 256 + f) * 256 + g) * 256 + k = chk (r.take n)) := by
      rw [frm, hbl, List.append_cancel_right_eq, head_eq]
      simp only [List.cons.injEq, and_true]
      generalize chk (r.take n) = s at *
      omega
    rw [e6]
    by_cases h2 : a * 256 + b = 55206 ∧ ((e * 256 + f) * 256 + g) * 256 + k = chk (r.take n)
    · rw [if_pos ⟨h1.1, h1.2, key.2 h2⟩, if_pos ⟨h2.1, h1.1, h1.2, h2.2⟩]
    · rw [if_neg (fun hh => h2 (key.1 hh.2.2)), if_neg (fun hh => h2 ⟨hh.1, hh.2.2.2⟩)]
  · rw [if_neg (fun hh => h1 ⟨hh.1, hh.2.1⟩), if_neg (fun hh => h1 ⟨hh.2.1, hh.2.2.1⟩)]

theorem opn_short (l : List Nat) (h : l.length < 8) : opn l = none := by
  unfold opn; rw [if_neg]; intro hh; omega

/-- What Get answers: the body, the place behind it, the error. -/
def getS (l : List Nat) (i : Int) : List Nat × Nat × Nat :=
  if i < 0 ∨ (l.length : Int) < i then ([], 0, 2)
  else if i.toNat = l.length ∨ l.getD i.toNat 0 = 0 then ([], 0, 30)
  else match opn (l.drop i.toNat) with
    | none => ([], 0, 31)
    | some x => (x, i.toNat + 8 + x.length, 0)

end Go.Proofs.Ytaehagejmeimiaa.Frm
