/-
  What a note is, its bytes, and the reading of them: mathematics alone.
-/
namespace Go.Proofs.Ytfcfejmammohpaa
namespace Ent

/-- k bytes of a number, the highest first. -/
def be (k n : Nat) : List Nat := (List.range k).map fun i => n / 2 ^ (8 * (k - 1 - i)) % 256
theorem be_len (k n : Nat) : (be k n).length = k := by simp [be]
theorem be_small (k n : Nat) : ∀ c ∈ be k n, c < 256 := by
  intro c hc
  simp only [be, List.mem_map] at hc
  obtain ⟨i, _, rfl⟩ := hc
  exact Nat.mod_lt _ (by decide)
theorem be_one (n : Nat) (h : n < 256) : be 1 n = [n] := by simp [be, Nat.mod_eq_of_lt h]
theorem be_succ (k n : Nat) : be (k + 1) n = be k (n / 256) ++ [n % 256] := by
  unfold be
  rw [List.range_succ, List.map_append]
  congr 1
  · apply List.map_congr_left
    intro i hi
    have hi : i < k := by simpa using hi
    rw [Nat.div_div_eq_div_mul]
    congr 2
    rw [show (256 : Nat) = 2 ^ 8 from rfl, ← Nat.pow_add]
    congr 1; omega
  · simp

/-- The number that bytes are, the highest first. -/
def val (l : List Nat) : Nat := l.foldl (fun a c => a * 256 + c) 0
theorem val_snoc (l : List Nat) (c : Nat) : val (l ++ [c]) = val l * 256 + c := by simp [val]
theorem val_be (k n : Nat) (h : n < 256 ^ k) : val (be k n) = n := by
  induction k generalizing n with
  | zero => simp at h; subst h; rfl
  | succ k ih =>
    rw [be_succ, val_snoc, ih (n / 256) (by rw [Nat.pow_succ] at h; omega)]
    omega
theorem val_lt (l : List Nat) (h : ∀ c ∈ l, c < 256) : val l < 256 ^ l.length := by
  have : ∀ (l : List Nat), (∀ c ∈ l, c < 256) → ∀ a m, a < 256 ^ m → l.foldl (fun a c => a * 256 + c) a < 256 ^ (m + l.length) := by
    intro l
    induction l with
    | nil => intro _ a m ha; simpa using ha
    | cons c r ih =>
      intro hl a m ha
      rw [List.foldl_cons]
      have := ih (fun x hx => hl x (by simp [hx])) (a * 256 + c) (m + 1) (by
        have := hl c (by simp)
        rw [Nat.pow_succ]; omega)
      rw [List.length_cons]
      rwa [show m + (r.length + 1) = m + 1 + r.length by omega]
  have := this l h 0 0 (by simp)
  rwa [Nat.zero_add] at this

def b2n (b : Bool) : Nat := if b then 1 else 0
def txt (t : List Nat) : List Nat := be 1 t.length ++ t


end Ent

/-- A note: what its eleven fields hold. -/
structure Note where
  kind : Int
  epoch : Nat
  old : Nat
  lsn : Nat
  tick : Nat
  order : Nat
  step : Int
  undo : Bool
  code : Int
  key : List Nat
  data : List Nat

namespace Ent
/-- The fields' types hold no more. -/
structure Bnd (n : Note) : Prop where
  epoch : n.epoch < 4294967296
  old : n.old < 4294967296
  lsn : n.lsn < 18446744073709551616
  tick : n.tick < 18446744073709551616
  order : n.order < 4294967296
  key : ∀ c ∈ n.key, c < 256
  data : ∀ c ∈ n.data, c < 256

/-- All letters. -/
def alpha : List Nat := [69, 80, 76, 84, 79, 83, 85, 67, 75, 68]
/-- The letters of a kind. -/
def lets (k : Int) : List Nat :=
  if k = 1 then [69, 80, 76, 68] else if k = 2 ∨ k = 3 then [69, 76] else if k = 4 ∨ k = 6 then [69, 67] else if k = 5 then [69, 84, 67]
  else if k = 7 then [69, 79, 83, 85, 68] else if k = 8 then [69, 79, 83, 85, 67, 68] else if k = 9 then [69, 79, 83, 85]
  else if k = 10 then [75, 68] else if k = 11 ∨ k = 12 then [75] else if k = 13 then [79, 67, 75, 68] else []
theorem kinds (k : Int) (h1 : 1 ≤ k) (h2 : k ≤ 13) : k = 1 ∨ k = 2 ∨ k = 3 ∨ k = 4 ∨ k = 5 ∨ k = 6 ∨ k = 7 ∨ k = 8 ∨ k = 9 ∨ k = 10 ∨ k = 11 ∨ k = 12 ∨ k = 13 := by omega
theorem lets_none (k : Int) (h : k < 1 ∨ 13 < k) : lets k = [] := by
  unfold lets
  rw [if_neg (by omega), if_neg (by omega), if_neg (by omega), if_neg (by omega), if_neg (by omega), if_neg (by omega), if_neg (by omega), if_neg (by omega), if_neg (by omega), if_neg (by omega)]
theorem lets_all (P : List Nat → Prop) (h0 : P []) (h1 : P [69, 80, 76, 68]) (h2 : P [69, 76]) (h4 : P [69, 67]) (h5 : P [69, 84, 67]) (h7 : P [69, 79, 83, 85, 68]) (h8 : P [69, 79, 83, 85, 67, 68]) (h9 : P [69, 79, 83, 85]) (h10 : P [75, 68]) (h11 : P [75]) (h13 : P [79, 67, 75, 68]) (k : Int) : P (lets k) := by
  unfold lets
  repeat' split
  all_goals assumption
theorem lets_sub (k : Int) : ∀ c ∈ lets k, c ∈ alpha := lets_all (fun l => ∀ c ∈ l, c ∈ alpha) (by decide) (by decide) (by decide) (by decide) (by decide) (by decide) (by decide) (by decide) (by decide) (by decide) (by decide) k
theorem lets_len (k : Int) : (lets k).length ≤ 6 := lets_all (fun l => l.length ≤ 6) (by decide) (by decide) (by decide) (by decide) (by decide) (by decide) (by decide) (by decide) (by decide) (by decide) (by decide) k
theorem alpha_small : ∀ c ∈ alpha, c < 128 := by decide
theorem alpha_cases {c : Nat} (h : c ∈ alpha) : c = 69 ∨ c = 80 ∨ c = 76 ∨ c = 84 ∨ c = 79 ∨ c = 83 ∨ c = 85 ∨ c = 67 ∨ c = 75 ∨ c = 68 := by simpa [alpha] using h

/-- The part of a letter is zero. -/
def isZ (c : Nat) (n : Note) : Bool :=
  if c = 69 then decide (n.epoch = 0) else if c = 80 then decide (n.old = 0) else if c = 76 then decide (n.lsn = 0) else if c = 84 then decide (n.tick = 0) else if c = 79 then decide (n.order = 0)
  else if c = 83 then decide (n.step = 0) else if c = 85 then !n.undo else if c = 67 then decide (n.code = 0) else if c = 75 then decide (n.key.length = 0) else if c = 68 then decide (n.data.length = 0) else false
/-- A letter that is not named is zero. -/
def fine (s : List Nat) (n : Note) (c : Nat) : Bool := s.contains c || isZ c n
def only (s : List Nat) (n : Note) : Bool := alpha.all (fine s n)
def inB (n : Note) : Bool := decide (0 ≤ n.step ∧ n.step < 16 ∧ 0 ≤ n.code ∧ n.code ≤ 255 ∧ n.key.length ≤ 32 ∧ n.data.length ≤ 255)
def lackK (n : Note) : Bool := decide ((n.kind = 10 ∨ n.kind = 11 ∨ n.kind = 12) ∧ n.key.length = 0)
/-- It may be. -/
def ok (n : Note) : Bool := !decide (lets n.kind = []) && (only (lets n.kind) n && (inB n && !lackK n))

/-- The bytes of a letter's part. -/
def encL (n : Note) (c : Nat) : List Nat :=
  if c = 69 then be 4 n.epoch else if c = 80 then be 4 n.old else if c = 76 then be 8 n.lsn else if c = 84 then be 8 n.tick else if c = 79 then be 4 n.order
  else if c = 83 then be 1 n.step.toNat else if c = 85 then be 1 (b2n n.undo) else if c = 67 then be 1 n.code.toNat else if c = 75 then txt n.key else if c = 68 then txt n.data else []
/-- Its bytes. -/
def enc (n : Note) : List Nat := be 1 n.kind.toNat ++ (lets n.kind).flatMap (encL n)

/-- A reader's place, and whether it is short. -/
abbrev St := Nat × Bool
def rnum (l : List Nat) (k : Nat) (s : St) : Nat × St := if s.2 = true ∨ l.length - s.1 < k then (0, (s.1, true)) else (val ((l.drop s.1).take k), (s.1 + k, false))
def rtxt (l : List Nat) (s : St) : List Nat × St :=
  if s.2 = true ∨ l.length - s.1 < 1 ∨ l.length - s.1 < 1 + l.getD s.1 0 then ([], (s.1, true)) else ((l.drop (s.1 + 1)).take (l.getD s.1 0), (s.1 + (1 + l.getD s.1 0), false))


/-- What is read at a letter. -/
def rdL (f : Nat → Bool) (l : List Nat) (x : Note × St) (c : Nat) : Note × St :=
  if c = 69 then ({ x.1 with epoch := (rnum l 4 x.2).1 }, (rnum l 4 x.2).2)
  else if c = 80 then ({ x.1 with old := (rnum l 4 x.2).1 }, (rnum l 4 x.2).2)
  else if c = 76 then ({ x.1 with lsn := (rnum l 8 x.2).1 }, (rnum l 8 x.2).2)
  else if c = 84 then ({ x.1 with tick := (rnum l 8 x.2).1 }, (rnum l 8 x.2).2)
  else if c = 79 then ({ x.1 with order := (rnum l 4 x.2).1 }, (rnum l 4 x.2).2)
  else if c = 83 then ({ x.1 with step := ((rnum l 1 x.2).1 : Nat) }, (rnum l 1 x.2).2)
  else if c = 85 then ({ x.1 with undo := f (rnum l 1 x.2).1 }, (rnum l 1 x.2).2)
  else if c = 67 then ({ x.1 with code := ((rnum l 1 x.2).1 : Nat) }, (rnum l 1 x.2).2)
  else if c = 75 then ({ x.1 with key := (rtxt l x.2).1 }, (rtxt l x.2).2)
  else if c = 68 then ({ x.1 with data := (rtxt l x.2).1 }, (rtxt l x.2).2)
  else x
/-- A note of a kind, all else zero. -/
abbrev bare (k : Int) : Note := ⟨k, 0, 0, 0, 0, 0, 0, false, 0, [], []⟩
def zero : Note := bare 0
/-- All that is read behind the kind. -/
def rds (f : Nat → Bool) (l : List Nat) (s : List Nat) (x : Note × St) : Note × St := s.foldl (rdL f l) x
/-- The note that is read. -/
def rd (f : Nat → Bool) (l : List Nat) : Note := (rds f l (lets (rnum l 1 (0, false)).1) (bare (rnum l 1 (0, false)).1, (rnum l 1 (0, false)).2)).1

/-- The reader is ahead of what is left. -/
def At (l : List Nat) (s : St) (r : List Nat) : Prop := s.2 = false ∧ l.drop s.1 = r ∧ s.1 ≤ l.length
theorem At.len {l r : List Nat} {s : St} (h : At l s r) : l.length - s.1 = r.length := by rw [← h.2.1, List.length_drop]
theorem At.num {l r : List Nat} {s : St} (k n : Nat) (h : At l s (be k n ++ r)) (hn : n < 256 ^ k) : ∃ s', rnum l k s = (n, s') ∧ At l s' r := by
  have hl := h.len
  rw [List.length_append, be_len] at hl
  refine ⟨(s.1 + k, false), ?_, rfl, ?_, by have := h.2.2; show s.1 + k ≤ _; omega⟩
  · unfold rnum
    rw [if_neg (by rw [h.1]; simp; omega), h.2.1, List.take_left' (be_len k n), val_be k n hn]
  · show l.drop (s.1 + k) = r
    rw [← List.drop_drop, h.2.1, List.drop_left' (be_len k n)]
theorem At.txt {l r t : List Nat} {s : St} (h : At l s (txt t ++ r)) (ht : t.length < 256) : ∃ s', rtxt l s = (t, s') ∧ At l s' r := by
  have hl := h.len
  unfold Ent.txt at h hl
  rw [be_one _ ht] at h hl
  simp at hl
  have hd : l.getD s.1 0 = t.length := by
    have : (l.drop s.1).getD 0 0 = t.length := by rw [h.2.1]; simp
    simpa [List.getD] using this
  have hd1 : l.drop (s.1 + 1) = t ++ r := by rw [← List.drop_drop, h.2.1]; simp
  refine ⟨(s.1 + (1 + t.length), false), ?_, rfl, ?_, by have := h.2.2; show s.1 + (1 + t.length) ≤ _; omega⟩
  · unfold rtxt
    rw [if_neg (by rw [h.1, hd]; simp; omega), hd, hd1, List.take_left]
  · show l.drop (s.1 + (1 + t.length)) = r
    rw [← Nat.add_assoc, ← List.drop_drop, hd1, List.drop_left]


/-- The part of a letter carried over. -/
def cpL (n : Note) (m : Note) (c : Nat) : Note :=
  if c = 69 then { m with epoch := n.epoch } else if c = 80 then { m with old := n.old } else if c = 76 then { m with lsn := n.lsn } else if c = 84 then { m with tick := n.tick } else if c = 79 then { m with order := n.order }
  else if c = 83 then { m with step := n.step } else if c = 85 then { m with undo := n.undo } else if c = 67 then { m with code := n.code } else if c = 75 then { m with key := n.key } else if c = 68 then { m with data := n.data } else m

theorem inB_iff (n : Note) : inB n = true ↔ (0 ≤ n.step ∧ n.step < 16 ∧ 0 ≤ n.code ∧ n.code ≤ 255 ∧ n.key.length ≤ 32 ∧ n.data.length ≤ 255) := by unfold inB; exact decide_eq_true_iff
theorem At.L {l r : List Nat} {s : St} (f : Nat → Bool) (h0 : f 0 = false) (h1 : f 1 = true) (n m : Note) (hb : Bnd n) (hi : inB n = true) (c : Nat) (hc : c ∈ alpha) (h : At l s (encL n c ++ r)) : ∃ s', rdL f l (m, s) c = (cpL n m c, s') ∧ At l s' r := by
  have hi := (inB_iff n).1 hi
  unfold encL at h
  rcases alpha_cases hc with rfl | rfl | rfl | rfl | rfl | rfl | rfl | rfl | rfl | rfl
  · obtain ⟨s', e, k⟩ := At.num 4 n.epoch h hb.epoch
    exact ⟨s', by simp [rdL, cpL, e], k⟩
  · obtain ⟨s', e, k⟩ := At.num 4 n.old h hb.old
    exact ⟨s', by simp [rdL, cpL, e], k⟩
  · obtain ⟨s', e, k⟩ := At.num 8 n.lsn h hb.lsn
    exact ⟨s', by simp [rdL, cpL, e], k⟩
  · obtain ⟨s', e, k⟩ := At.num 8 n.tick h hb.tick
    exact ⟨s', by simp [rdL, cpL, e], k⟩
  · obtain ⟨s', e, k⟩ := At.num 4 n.order h hb.order
    exact ⟨s', by simp [rdL, cpL, e], k⟩
  · obtain ⟨s', e, k⟩ := At.num 1 n.step.toNat h (by omega)
    exact ⟨s', by simp [rdL, cpL, e]; omega, k⟩
  · obtain ⟨s', e, k⟩ := At.num 1 (b2n n.undo) h (by unfold b2n; split <;> decide)
    have hu : f (b2n n.undo) = n.undo := by unfold b2n; cases n.undo; exact h0; exact h1
    exact ⟨s', by simp [rdL, cpL, e, hu], k⟩
  · obtain ⟨s', e, k⟩ := At.num 1 n.code.toNat h (by omega)
    exact ⟨s', by simp [rdL, cpL, e]; omega, k⟩
  · obtain ⟨s', e, k⟩ := At.txt (t := n.key) h (by omega)
    exact ⟨s', by simp [rdL, cpL, e], k⟩
  · obtain ⟨s', e, k⟩ := At.txt (t := n.data) h (by omega)
    exact ⟨s', by simp [rdL, cpL, e], k⟩
theorem At.Ls {l r : List Nat} (f : Nat → Bool) (h0 : f 0 = false) (h1 : f 1 = true) (n : Note) (hb : Bnd n) (hi : inB n = true) : ∀ (cs : List Nat), (∀ c ∈ cs, c ∈ alpha) → ∀ (m : Note) (s : St), At l s (cs.flatMap (encL n) ++ r) → ∃ s', rds f l cs (m, s) = (cs.foldl (cpL n) m, s') ∧ At l s' r
  | [], _, m, s, h => ⟨s, rfl, by simpa using h⟩
  | c :: cs, hc, m, s, h => by
    rw [List.flatMap_cons, List.append_assoc] at h
    obtain ⟨s1, e1, k1⟩ := At.L f h0 h1 n m hb hi c (hc c (by simp)) h
    obtain ⟨s2, e2, k2⟩ := At.Ls f h0 h1 n hb hi cs (fun x hx => hc x (by simp [hx])) (cpL n m c) s1 k1
    refine ⟨s2, ?_, k2⟩
    show rds f l cs (rdL f l (m, s) c) = _
    rw [e1, e2]
    rfl

structure Ok (n : Note) : Prop where
  k1 : 1 ≤ n.kind
  k13 : n.kind ≤ 13
  o : only (lets n.kind) n = true
  i : inB n = true
  l : lackK n = false
theorem ok_iff (n : Note) : ok n = true ↔ Ok n := by
  unfold ok
  simp only [Bool.and_eq_true, Bool.not_eq_true', decide_eq_false_iff_not]
  constructor
  · rintro ⟨a, b, c, d⟩
    have hk : 1 ≤ n.kind ∧ n.kind ≤ 13 := Classical.byContradiction fun h => a (lets_none _ (by omega))
    exact ⟨hk.1, hk.2, b, c, d⟩
  · rintro ⟨a, b, c, d, e⟩
    refine ⟨?_, c, d, e⟩
    rcases kinds _ a b with h | h | h | h | h | h | h | h | h | h | h | h | h <;> rw [h] <;> decide
theorem only_iff (s : List Nat) (n : Note) : only s n = true ↔ ∀ c ∈ alpha, c ∈ s ∨ isZ c n = true := by
  unfold only fine
  rw [List.all_eq_true]
  simp only [Bool.or_eq_true, List.contains_iff_mem]
/-- All that is named, carried over to a bare note, is the note. -/
theorem cp_all (n : Note) (h : Ok n) : (lets n.kind).foldl (cpL n) (bare n.kind) = n := by
  have ho := (only_iff _ _).1 h.o
  have hE := ho 69 (by decide)
  have hP := ho 80 (by decide)
  have hL := ho 76 (by decide)
  have hT := ho 84 (by decide)
  have hO := ho 79 (by decide)
  have hS := ho 83 (by decide)
  have hU := ho 85 (by decide)
  have hC := ho 67 (by decide)
  have hK := ho 75 (by decide)
  have hD := ho 68 (by decide)
  have h1 := h.k1
  have h2 := h.k13
  clear h ho
  cases n
  simp only [isZ] at *
  rcases kinds _ h1 h2 with h | h | h | h | h | h | h | h | h | h | h | h | h
  all_goals
    subst h
    simp [lets, cpL, bare] at *
    simp [*]
/-- What was put is got, whatever stands behind it. -/
theorem rd_enc (f : Nat → Bool) (h0 : f 0 = false) (h1 : f 1 = true) (n : Note) (hb : Bnd n) (ho : ok n = true) (r : List Nat) : rd f (enc n ++ r) = n := by
  have hk := (ok_iff n).1 ho
  have k1 := hk.k1
  have k13 := hk.k13
  generalize hl : enc n ++ r = l
  have h : At l (0, false) (enc n ++ r) := ⟨rfl, by rw [hl]; rfl, Nat.zero_le _⟩
  unfold enc at h
  rw [List.append_assoc] at h
  obtain ⟨s1, e1, h⟩ := h.num 1 _ (by omega)
  have hkk : ((n.kind.toNat : Nat) : Int) = n.kind := by omega
  obtain ⟨s2, e2, h⟩ := At.Ls f h0 h1 n hb hk.i (lets n.kind) (lets_sub _) (bare n.kind) s1 h
  unfold rd
  rw [e1]
  simp only
  rw [hkk, e2]
  exact cp_all n hk

theorem enc_len_pos (n : Note) : 0 < (enc n).length := by unfold enc; rw [List.length_append, be_len]; omega
theorem enc_inj (e e' : Note) (hb : Bnd e) (ho : ok e = true) (hb' : Bnd e') (ho' : ok e' = true) (r r' : List Nat) (h : enc e ++ r = enc e' ++ r') : e = e' ∧ r = r' := by
  have h1 := rd_enc (fun n => n == 1) rfl rfl e hb ho r
  have h2 := rd_enc (fun n => n == 1) rfl rfl e' hb' ho' r'
  rw [h, h2] at h1
  subst h1
  exact ⟨rfl, List.append_cancel_left h⟩

/-- The note of bytes. -/
def get (f : Nat → Bool) (l : List Nat) : Option Note := if ok (rd f l) = true ∧ enc (rd f l) = l then some (rd f l) else none

theorem rnum_lt (l : List Nat) (hl : ∀ c ∈ l, c < 256) (k : Nat) (s : St) : (rnum l k s).1 < 256 ^ k := by
  unfold rnum
  split
  · exact Nat.pow_pos (by decide)
  · have h := val_lt ((l.drop s.1).take k) (fun c hc => hl c (List.mem_of_mem_drop (List.mem_of_mem_take hc)))
    refine Nat.lt_of_lt_of_le h (Nat.pow_le_pow_right (by decide) ?_)
    rw [List.length_take]; omega
theorem rtxt_small (l : List Nat) (hl : ∀ c ∈ l, c < 256) (s : St) : ∀ c ∈ (rtxt l s).1, c < 256 := by
  unfold rtxt
  split
  · intro c hc; cases hc
  · exact fun c hc => hl c (List.mem_of_mem_drop (List.mem_of_mem_take hc))
theorem rtxt_len (l : List Nat) (hl : ∀ c ∈ l, c < 256) (s : St) : (rtxt l s).1.length < 256 := by
  unfold rtxt
  split
  · simp
  · have : l.getD s.1 0 < 256 := by
      rw [List.getD_eq_getElem?_getD]
      by_cases h : s.1 < l.length
      · rw [List.getElem?_eq_getElem h]; exact hl _ (List.getElem_mem h)
      · rw [List.getElem?_eq_none (by omega)]; decide
    rw [List.length_take]; omega

theorem rdL_bnd (f : Nat → Bool) (l : List Nat) (hl : ∀ c ∈ l, c < 256) (x : Note × St) (c : Nat) (h : Bnd x.1) : Bnd (rdL f l x c).1 := by
  obtain ⟨a1, a2, a3, a4, a5, a6, a7⟩ := h
  unfold rdL
  repeat' split
  · exact ⟨rnum_lt l hl 4 _, a2, a3, a4, a5, a6, a7⟩
  · exact ⟨a1, rnum_lt l hl 4 _, a3, a4, a5, a6, a7⟩
  · exact ⟨a1, a2, rnum_lt l hl 8 _, a4, a5, a6, a7⟩
  · exact ⟨a1, a2, a3, rnum_lt l hl 8 _, a5, a6, a7⟩
  · exact ⟨a1, a2, a3, a4, rnum_lt l hl 4 _, a6, a7⟩
  · exact ⟨a1, a2, a3, a4, a5, a6, a7⟩
  · exact ⟨a1, a2, a3, a4, a5, a6, a7⟩
  · exact ⟨a1, a2, a3, a4, a5, a6, a7⟩
  · exact ⟨a1, a2, a3, a4, a5, rtxt_small l hl _, a7⟩
  · exact ⟨a1, a2, a3, a4, a5, a6, rtxt_small l hl _⟩
  · exact ⟨a1, a2, a3, a4, a5, a6, a7⟩
theorem rds_bnd (f : Nat → Bool) (l : List Nat) (hl : ∀ c ∈ l, c < 256) : ∀ (cs : List Nat) (x : Note × St), Bnd x.1 → Bnd (rds f l cs x).1
  | [], _, h => h
  | c :: cs, x, h => rds_bnd f l hl cs (rdL f l x c) (rdL_bnd f l hl x c h)
theorem bare_bnd (k : Int) : Bnd (bare k) := ⟨by show (0 : Nat) < _; decide, by show (0 : Nat) < _; decide, by show (0 : Nat) < _; decide, by show (0 : Nat) < _; decide, by show (0 : Nat) < _; decide, (fun c hc => by cases hc), (fun c hc => by cases hc)⟩
theorem rd_bnd (f : Nat → Bool) (l : List Nat) (hl : ∀ c ∈ l, c < 256) : Bnd (rd f l) := rds_bnd f l hl _ _ (bare_bnd _)

theorem get_some {f : Nat → Bool} {l : List Nat} {e : Note} (hl : ∀ c ∈ l, c < 256) (h : get f l = some e) : ok e = true ∧ enc e = l ∧ Bnd e := by
  unfold get at h
  split at h
  · rename_i hh
    injection h with h
    subst h
    exact ⟨hh.1, hh.2, rd_bnd f l hl⟩
  · cases h
theorem get_enc (f : Nat → Bool) (h0 : f 0 = false) (h1 : f 1 = true) (e : Note) (hb : Bnd e) (ho : ok e = true) : get f (enc e) = some e := by
  have := rd_enc f h0 h1 e hb ho []
  rw [List.append_nil] at this
  unfold get
  rw [this, if_pos ⟨ho, rfl⟩]
theorem get_eq (f g : Nat → Bool) (f0 : f 0 = false) (f1 : f 1 = true) (g0 : g 0 = false) (g1 : g 1 = true) (l : List Nat) (hl : ∀ c ∈ l, c < 256) : get f l = get g l := by
  cases h : get f l with
  | some e =>
    obtain ⟨h1, h2, h3⟩ := get_some hl h
    rw [← h2, get_enc g g0 g1 e h3 h1]
  | none =>
    cases h' : get g l with
    | none => rfl
    | some e =>
      obtain ⟨h1, h2, h3⟩ := get_some hl h'
      rw [← h2, get_enc f f0 f1 e h3 h1] at h
      cases h
/-- Not with more behind it. -/
theorem get_more (f : Nat → Bool) (e : Note) (hb : Bnd e) (ho : ok e = true) (r : List Nat) (hr : r ≠ []) (hl : ∀ c ∈ enc e ++ r, c < 256) : get f (enc e ++ r) = none := by
  cases h : get f (enc e ++ r) with
  | none => rfl
  | some e' =>
    obtain ⟨h1, h2, h3⟩ := get_some hl h
    have := enc_inj e' e h3 h1 hb ho [] r (by rw [List.append_nil]; exact h2)
    exact absurd this.2.symm hr
/-- Nor with less. -/
theorem get_less (f : Nat → Bool) (e : Note) (hb : Bnd e) (ho : ok e = true) (l r : List Nat) (hr : r ≠ []) (h : enc e = l ++ r) (hl : ∀ c ∈ l, c < 256) : get f l = none := by
  cases hg : get f l with
  | none => rfl
  | some e' =>
    obtain ⟨h1, h2, h3⟩ := get_some hl hg
    have := enc_inj e' e h3 h1 hb ho r [] (by rw [List.append_nil, h2]; exact h.symm)
    exact absurd this.2 hr
theorem txt_len (t : List Nat) : (txt t).length = 1 + t.length := by unfold txt; rw [List.length_append, be_len]
theorem encL_small (n : Note) (hb : Bnd n) (c : Nat) : ∀ x ∈ encL n c, x < 256 := by
  have ht : ∀ t : List Nat, (∀ c ∈ t, c < 256) → ∀ c ∈ txt t, c < 256 := fun t h c hc => by
    rcases List.mem_append.1 hc with h' | h'
    · exact be_small _ _ c h'
    · exact h c h'
  unfold encL
  repeat' split
  all_goals first | exact be_small _ _ | exact ht _ hb.key | exact ht _ hb.data | (intro x hx; cases hx)
theorem enc_small (n : Note) (hb : Bnd n) : ∀ c ∈ enc n, c < 256 := by
  intro c hc
  unfold enc at hc
  rcases List.mem_append.1 hc with h | h
  · exact be_small _ _ c h
  · obtain ⟨x, _, h2⟩ := List.mem_flatMap.1 h
    exact encL_small n hb x c h2
theorem encL_len (n : Note) (h : inB n = true) (c : Nat) : (encL n c).length ≤ 256 := by
  have hi := (inB_iff n).1 h
  unfold encL
  repeat' split
  all_goals first | (rw [be_len]; decide) | (rw [txt_len]; omega) | decide
theorem flat_len (n : Note) (h : inB n = true) : ∀ cs : List Nat, (cs.flatMap (encL n)).length ≤ cs.length * 256
  | [] => by simp
  | c :: cs => by
    have h1 := encL_len n h c
    have h2 := flat_len n h cs
    rw [List.flatMap_cons, List.length_append, List.length_cons]
    omega
theorem enc_len (n : Note) (h : Ok n) : (enc n).length ≤ 1537 := by
  have h1 := flat_len n h.i (lets n.kind)
  have h2 := lets_len n.kind
  unfold enc
  rw [List.length_append, be_len]
  omega

end Ent
end Go.Proofs.Ytfcfejmammohpaa
