/-
  What an entry is, its bytes, and the reading of them: mathematics alone.
-/
namespace Go.Proofs.Ytccpmalefdnhdaa
namespace Ent

/-- k bytes of a number, the highest first. -/
def be (k n : Nat) : List Nat := (List.range k).map fun i => n / 2 ^ (8 * (k - 1 - i)) % 256
theorem be_len (k n : Nat) : (be k n).length = k := by simp [be]
theorem be_small (k n : Nat) : ∀ c ∈ be k n, c < 256 := by
  intro c hc
  simp only [be, List.mem_map] at hc
  obtain ⟨i, _, rfl⟩ := hc
  exact Nat.mod_lt _ (by decide)
theorem be_one (n : Nat) (h : n < 256) : be 1 n = [n] := by simp [be, Nat.mod_eq_of_lt h]
theorem be_succ (k n : Nat) : be (k + 1) n = be k (n / 256) ++ [n % 256] := by
  unfold be
  rw [List.range_succ, List.map_append]
  congr 1
  · apply List.map_congr_left
    intro i hi
    have hi : i < k := by simpa using hi
    rw [Nat.div_div_eq_div_mul]
    congr 2
    rw [show (256 : Nat) = 2 ^ 8 from rfl, ← Nat.pow_add]
    congr 1; omega
  · simp

/-- The number that bytes are, the highest first. -/
def val (l : List Nat) : Nat := l.foldl (fun a c => a * 256 + c) 0
theorem val_snoc (l : List Nat) (c : Nat) : val (l ++ [c]) = val l * 256 + c := by simp [val]
theorem val_be (k n : Nat) (h : n < 256 ^ k) : val (be k n) = n := by
  induction k generalizing n with
  | zero => simp at h; subst h; rfl
  | succ k ih =>
    rw [be_succ, val_snoc, ih (n / 256) (by rw [Nat.pow_succ] at h; omega)]
    omega
theorem val_lt (l : List Nat) (h : ∀ c ∈ l, c < 256) : val l < 256 ^ l.length := by
  have : ∀ (l : List Nat), (∀ c ∈ l, c < 256) → ∀ a m, a < 256 ^ m → l.foldl (fun a c => a * 256 + c) a < 256 ^ (m + l.length) := by
    intro l
    induction l with
    | nil => intro _ a m ha; simpa using ha
    | cons c r ih =>
      intro hl a m ha
      rw [List.foldl_cons]
      have := ih (fun x hx => hl x (by simp [hx])) (a * 256 + c) (m + 1) (by
        have := hl c (by simp)
        rw [Nat.pow_succ]; omega)
      rw [List.length_cons]
      rwa [show m + (r.length + 1) = m + 1 + r.length by omega]
  have := this l h 0 0 (by simp)
  rwa [Nat.zero_add] at this

def b2n (b : Bool) : Nat := if b then 1 else 0
def txt (t : List Nat) : List Nat := be 1 t.length ++ t

end Ent

/-- An entry: what its eleven fields hold. -/
structure Entry where
  kind : Int
  lsn : Nat
  epoch : Nat
  order : Nat
  step : Int
  undo : Bool
  tri : Int
  code : Int
  mark : Nat
  key : List Nat
  data : List Nat

namespace Ent
/-- The fields' types hold no more. -/
structure Bnd (e : Entry) : Prop where
  lsn : e.lsn < 18446744073709551616
  epoch : e.epoch < 4294967296
  order : e.order < 4294967296
  mark : e.mark < 18446744073709551616
  key : ∀ c ∈ e.key, c < 256
  data : ∀ c ∈ e.data, c < 256

def hasO (k : Int) : Bool := decide (2 ≤ k ∧ k ≤ 5)
def hasT (k : Int) : Bool := decide (k = 2)
def hasS (k : Int) : Bool := decide (k = 3 ∨ k = 4)
def codes (k : Int) : Nat := if k = 4 ∨ k = 5 then 3 else if k = 6 then 2 else 0
def hasM (k : Int) : Bool := decide (k = 7)
def isK (k : Int) : Bool := decide (1 ≤ k ∧ k ≤ 7)

def fitO (o : Bool) (e : Entry) : Bool := o == decide (e.order ≠ 0)
def fitT (t : Bool) (e : Entry) : Bool := if t then decide (1 ≤ e.key.length ∧ e.key.length ≤ 32 ∧ e.data.length ≤ 200) else decide (e.key.length = 0 ∧ e.data.length = 0)
def fitS (s : Bool) (e : Entry) : Bool := if s then decide (0 ≤ e.step ∧ e.step < 16 ∧ 1 ≤ e.tri ∧ e.tri ≤ 255) else decide (e.step = 0 ∧ e.undo = false ∧ e.tri = 0)
def fitC (c : Nat) (e : Entry) : Bool := if c = 0 then decide (e.code = 0) else decide (1 ≤ e.code ∧ e.code ≤ c)
def fitM (m : Bool) (e : Entry) : Bool := if m then decide (e.mark < e.lsn) else decide (e.mark = 0)
def fits (e : Entry) : Bool := fitO (hasO e.kind) e && (fitT (hasT e.kind) e && (fitS (hasS e.kind) e && (fitC (codes e.kind) e && fitM (hasM e.kind) e)))
/-- It may be. -/
def ok (e : Entry) : Bool := isK e.kind && (decide (e.lsn ≠ 0) && (decide (e.epoch ≠ 0) && fits e))

def encO (e : Entry) : List Nat := if hasO e.kind then be 4 e.order else []
def encT (e : Entry) : List Nat := if hasT e.kind then txt e.key ++ txt e.data else []
def encS (e : Entry) : List Nat := if hasS e.kind then be 1 e.step.toNat ++ (be 1 (b2n e.undo) ++ be 1 e.tri.toNat) else []
def encC (e : Entry) : List Nat := if codes e.kind = 0 then [] else be 1 e.code.toNat
def encM (e : Entry) : List Nat := if hasM e.kind then be 8 e.mark else []
/-- Its bytes. -/
def enc (e : Entry) : List Nat := be 1 e.kind.toNat ++ (be 8 e.lsn ++ (be 4 e.epoch ++ (encO e ++ (encT e ++ (encS e ++ (encC e ++ encM e))))))

/-- A reader's place, and whether it is short. -/
abbrev St := Nat × Bool
def rnum (l : List Nat) (k : Nat) (s : St) : Nat × St := if s.2 = true ∨ l.length - s.1 < k then (0, (s.1, true)) else (val ((l.drop s.1).take k), (s.1 + k, false))
def rtxt (l : List Nat) (s : St) : List Nat × St :=
  if s.2 = true ∨ l.length - s.1 < 1 ∨ l.length - s.1 < 1 + l.getD s.1 0 then ([], (s.1, true)) else ((l.drop (s.1 + 1)).take (l.getD s.1 0), (s.1 + (1 + l.getD s.1 0), false))

def rO (l : List Nat) (k : Int) (s : St) : Nat × St := if hasO k then rnum l 4 s else (0, s)
def rK (l : List Nat) (k : Int) (s : St) : List Nat × St := if hasT k then rtxt l s else ([], s)
def rS (l : List Nat) (k : Int) (s : St) : Nat × St := if hasS k then rnum l 1 s else (0, s)
def rC (l : List Nat) (k : Int) (s : St) : Nat × St := if codes k = 0 then (0, s) else rnum l 1 s
def rM (l : List Nat) (k : Int) (s : St) : Nat × St := if hasM k then rnum l 8 s else (0, s)

/-- All that is read, and where the reader is then. -/
structure Got where
  kind : Nat × St
  lsn : Nat × St
  epoch : Nat × St
  order : Nat × St
  key : List Nat × St
  data : List Nat × St
  step : Nat × St
  undo : Nat × St
  tri : Nat × St
  code : Nat × St
  mark : Nat × St
def got (l : List Nat) : Got :=
  let a := rnum l 1 (0, false)
  let b := rnum l 8 a.2
  let c := rnum l 4 b.2
  let o := rO l a.1 c.2
  let k := rK l a.1 o.2
  let d := rK l a.1 k.2
  let s := rS l a.1 d.2
  let u := rS l a.1 s.2
  let t := rS l a.1 u.2
  let g := rC l a.1 t.2
  let m := rM l a.1 g.2
  ⟨a, b, c, o, k, d, s, u, t, g, m⟩
/-- The entry that is read. -/
def rd (f : Nat → Bool) (l : List Nat) : Entry :=
  let g := got l
  ⟨g.kind.1, g.lsn.1, g.epoch.1, g.order.1, g.step.1, f g.undo.1, g.tri.1, g.code.1, g.mark.1, g.key.1, g.data.1⟩

/-- The reader is ahead of what is left. -/
def At (l : List Nat) (s : St) (r : List Nat) : Prop := s.2 = false ∧ l.drop s.1 = r ∧ s.1 ≤ l.length
theorem At.len {l r : List Nat} {s : St} (h : At l s r) : l.length - s.1 = r.length := by rw [← h.2.1, List.length_drop]
theorem At.num {l r : List Nat} {s : St} (k n : Nat) (h : At l s (be k n ++ r)) (hn : n < 256 ^ k) : ∃ s', rnum l k s = (n, s') ∧ At l s' r := by
  have hl := h.len
  rw [List.length_append, be_len] at hl
  refine ⟨(s.1 + k, false), ?_, rfl, ?_, by have := h.2.2; show s.1 + k ≤ _; omega⟩
  · unfold rnum
    rw [if_neg (by rw [h.1]; simp; omega), h.2.1, List.take_left' (be_len k n), val_be k n hn]
  · show l.drop (s.1 + k) = r
    rw [← List.drop_drop, h.2.1, List.drop_left' (be_len k n)]
theorem At.txt {l r t : List Nat} {s : St} (h : At l s (txt t ++ r)) (ht : t.length < 256) : ∃ s', rtxt l s = (t, s') ∧ At l s' r := by
  have hl := h.len
  unfold Ent.txt at h hl
  rw [be_one _ ht] at h hl
  simp at hl
  have hd : l.getD s.1 0 = t.length := by
    have : (l.drop s.1).getD 0 0 = t.length := by rw [h.2.1]; simp
    simpa [List.getD] using this
  have hd1 : l.drop (s.1 + 1) = t ++ r := by rw [← List.drop_drop, h.2.1]; simp
  refine ⟨(s.1 + (1 + t.length), false), ?_, rfl, ?_, by have := h.2.2; show s.1 + (1 + t.length) ≤ _; omega⟩
  · unfold rtxt
    rw [if_neg (by rw [h.1, hd]; simp; omega), hd, hd1, List.take_left]
  · show l.drop (s.1 + (1 + t.length)) = r
    rw [← Nat.add_assoc, ← List.drop_drop, hd1, List.drop_left]

theorem At.O {l r : List Nat} {s : St} (e : Entry) (k : Int) (hk : k = e.kind) (h : At l s (encO e ++ r)) (hn : e.order < 4294967296) (h0 : fitO (hasO e.kind) e = true) : ∃ s', rO l k s = (e.order, s') ∧ At l s' r := by
  subst hk
  unfold rO
  unfold encO at h
  unfold fitO at h0
  cases hh : hasO e.kind
  · rw [hh] at h h0
    have : e.order = 0 := by simpa using h0
    exact ⟨s, by rw [if_neg (by decide), this], h⟩
  · rw [hh, if_pos rfl] at h
    obtain ⟨s', h1, h2⟩ := h.num 4 e.order hn
    exact ⟨s', by rw [if_pos rfl, h1], h2⟩
theorem At.T {l r : List Nat} {s : St} (e : Entry) (k : Int) (hk : k = e.kind) (h : At l s (encT e ++ r)) (h0 : fitT (hasT e.kind) e = true) : ∃ s' s'', rK l k s = (e.key, s') ∧ rK l k s' = (e.data, s'') ∧ At l s'' r := by
  subst hk
  unfold rK
  unfold encT at h
  unfold fitT at h0
  cases hh : hasT e.kind
  · rw [hh] at h h0
    have : e.key = [] ∧ e.data = [] := by simpa using h0
    exact ⟨s, s, by rw [if_neg (by decide), this.1], by rw [if_neg (by decide), this.2], h⟩
  · rw [hh, if_pos rfl, List.append_assoc] at h
    rw [hh, if_pos rfl] at h0
    have h0 := of_decide_eq_true h0
    obtain ⟨s', h1, h2⟩ := h.txt (by omega)
    obtain ⟨s'', h3, h4⟩ := h2.txt (by omega)
    exact ⟨s', s'', by rw [if_pos rfl, h1], by rw [if_pos rfl, h3], h4⟩
theorem At.S {l r : List Nat} {s : St} (e : Entry) (k : Int) (hk : k = e.kind) (h : At l s (encS e ++ r)) (h0 : fitS (hasS e.kind) e = true) :
    ∃ s1 s2 s3, rS l k s = (e.step.toNat, s1) ∧ rS l k s1 = (b2n e.undo, s2) ∧ rS l k s2 = (e.tri.toNat, s3) ∧ 0 ≤ e.step ∧ 0 ≤ e.tri ∧ At l s3 r := by
  subst hk
  unfold rS
  unfold encS at h
  unfold fitS at h0
  cases hh : hasS e.kind
  · rw [hh] at h h0
    have : e.step = 0 ∧ e.undo = false ∧ e.tri = 0 := by simpa using h0
    exact ⟨s, s, s, by rw [if_neg (by decide), this.1]; rfl, by rw [if_neg (by decide), this.2.1]; rfl, by rw [if_neg (by decide), this.2.2]; rfl, by omega, by omega, h⟩
  · rw [hh, if_pos rfl, List.append_assoc, List.append_assoc] at h
    rw [hh, if_pos rfl] at h0
    have h0 := of_decide_eq_true h0
    obtain ⟨s1, h1, h2⟩ := h.num 1 _ (by omega)
    obtain ⟨s2, h3, h4⟩ := h2.num 1 _ (by unfold b2n; split <;> decide)
    obtain ⟨s3, h5, h6⟩ := h4.num 1 _ (by omega)
    exact ⟨s1, s2, s3, by rw [if_pos rfl, h1], by rw [if_pos rfl, h3], by rw [if_pos rfl, h5], by omega, by omega, h6⟩
theorem codes_le (k : Int) : codes k ≤ 3 := by
  unfold codes
  split
  · decide
  · split <;> decide
theorem At.C {l r : List Nat} {s : St} (e : Entry) (k : Int) (hk : k = e.kind) (h : At l s (encC e ++ r)) (h0 : fitC (codes e.kind) e = true) : ∃ s', rC l k s = (e.code.toNat, s') ∧ 0 ≤ e.code ∧ At l s' r := by
  subst hk
  unfold rC
  unfold encC at h
  unfold fitC at h0
  by_cases hh : codes e.kind = 0
  · rw [if_pos hh] at h h0
    have : e.code = 0 := by simpa using h0
    exact ⟨s, by rw [if_pos hh, this]; rfl, by omega, h⟩
  · rw [if_neg hh] at h h0
    have h0 := of_decide_eq_true h0
    have := codes_le e.kind
    obtain ⟨s', h1, h2⟩ := h.num 1 _ (by omega)
    exact ⟨s', by rw [if_neg hh, h1], by omega, h2⟩
theorem At.M {l r : List Nat} {s : St} (e : Entry) (k : Int) (hk : k = e.kind) (h : At l s (encM e ++ r)) (hn : e.mark < 18446744073709551616) (h0 : fitM (hasM e.kind) e = true) : ∃ s', rM l k s = (e.mark, s') ∧ At l s' r := by
  subst hk
  unfold rM
  unfold encM at h
  unfold fitM at h0
  cases hh : hasM e.kind
  · rw [hh] at h h0
    have : e.mark = 0 := by simpa using h0
    exact ⟨s, by rw [if_neg (by decide), this], h⟩
  · rw [hh, if_pos rfl] at h
    obtain ⟨s', h1, h2⟩ := h.num 8 e.mark hn
    exact ⟨s', by rw [if_pos rfl, h1], h2⟩

structure Ok (e : Entry) : Prop where
  k1 : 1 ≤ e.kind
  k7 : e.kind ≤ 7
  lsn : e.lsn ≠ 0
  epoch : e.epoch ≠ 0
  o : fitO (hasO e.kind) e = true
  t : fitT (hasT e.kind) e = true
  s : fitS (hasS e.kind) e = true
  c : fitC (codes e.kind) e = true
  m : fitM (hasM e.kind) e = true
theorem ok_iff (e : Entry) : ok e = true ↔ Ok e := by
  unfold ok fits isK
  constructor
  · intro h
    simp only [Bool.and_eq_true, decide_eq_true_eq] at h
    obtain ⟨⟨a, b⟩, c, d, f, g, i, j, k⟩ := h
    exact ⟨a, b, c, d, f, g, i, j, k⟩
  · rintro ⟨a, b, c, d, f, g, i, j, k⟩
    simp only [Bool.and_eq_true, decide_eq_true_eq]
    exact ⟨⟨a, b⟩, c, d, f, g, i, j, k⟩

/-- What was put is got, whatever stands behind it. -/
theorem rd_enc (f : Nat → Bool) (h0 : f 0 = false) (h1 : f 1 = true) (e : Entry) (hb : Bnd e) (ho : ok e = true) (r : List Nat) : rd f (enc e ++ r) = e := by
  have hk := (ok_iff e).1 ho
  have k1 := hk.k1
  have k7 := hk.k7
  generalize hl : enc e ++ r = l
  have h : At l (0, false) (enc e ++ r) := ⟨rfl, by rw [hl]; rfl, Nat.zero_le _⟩
  unfold enc at h
  simp only [List.append_assoc] at h
  obtain ⟨s1, e1, h⟩ := h.num 1 _ (by omega)
  obtain ⟨s2, e2, h⟩ := h.num 8 _ (by exact hb.lsn)
  obtain ⟨s3, e3, h⟩ := h.num 4 _ (by exact hb.epoch)
  have hkk : ((e.kind.toNat : Nat) : Int) = e.kind := by omega
  obtain ⟨s4, e4, h⟩ := h.O e _ hkk hb.order hk.o
  obtain ⟨s5, s6, e5, e6, h⟩ := h.T e _ hkk hk.t
  obtain ⟨s7, s8, s9, e7, e8, e9, p7, p9, h⟩ := h.S e _ hkk hk.s
  obtain ⟨s10, e10, p10, h⟩ := h.C e _ hkk hk.c
  obtain ⟨s11, e11, h⟩ := h.M e _ hkk hb.mark hk.m
  have hu : f (b2n e.undo) = e.undo := by unfold b2n; cases e.undo; exact h0; exact h1
  cases e
  simp only [rd, got, e1, e2, e3, e4, e5, e6, e7, e8, e9, e10, e11, hu]
  simp only at p7 p9 p10 k1
  congr 1 <;> omega

theorem enc_len_pos (e : Entry) : 0 < (enc e).length := by unfold enc; rw [List.length_append, be_len]; omega
theorem enc_inj (e e' : Entry) (hb : Bnd e) (ho : ok e = true) (hb' : Bnd e') (ho' : ok e' = true) (r r' : List Nat) (h : enc e ++ r = enc e' ++ r') : e = e' ∧ r = r' := by
  have h1 := rd_enc (fun n => n == 1) rfl rfl e hb ho r
  have h2 := rd_enc (fun n => n == 1) rfl rfl e' hb' ho' r'
  rw [h, h2] at h1
  subst h1
  exact ⟨rfl, List.append_cancel_left h⟩

/-- The entry of bytes. -/
def get (f : Nat → Bool) (l : List Nat) : Option Entry := if ok (rd f l) = true ∧ enc (rd f l) = l then some (rd f l) else none

theorem rnum_lt (l : List Nat) (hl : ∀ c ∈ l, c < 256) (k : Nat) (s : St) : (rnum l k s).1 < 256 ^ k := by
  unfold rnum
  split
  · exact Nat.pow_pos (by decide)
  · have h := val_lt ((l.drop s.1).take k) (fun c hc => hl c (List.mem_of_mem_drop (List.mem_of_mem_take hc)))
    refine Nat.lt_of_lt_of_le h (Nat.pow_le_pow_right (by decide) ?_)
    rw [List.length_take]; omega
theorem rtxt_small (l : List Nat) (hl : ∀ c ∈ l, c < 256) (s : St) : ∀ c ∈ (rtxt l s).1, c < 256 := by
  unfold rtxt
  split
  · intro c hc; cases hc
  · exact fun c hc => hl c (List.mem_of_mem_drop (List.mem_of_mem_take hc))
theorem rtxt_len (l : List Nat) (hl : ∀ c ∈ l, c < 256) (s : St) : (rtxt l s).1.length < 256 := by
  unfold rtxt
  split
  · simp
  · have : l.getD s.1 0 < 256 := by
      rw [List.getD_eq_getElem?_getD]
      by_cases h : s.1 < l.length
      · rw [List.getElem?_eq_getElem h]; exact hl _ (List.getElem_mem h)
      · rw [List.getElem?_eq_none (by omega)]; decide
    rw [List.length_take]; omega
theorem rd_bnd (f : Nat → Bool) (l : List Nat) (hl : ∀ c ∈ l, c < 256) : Bnd (rd f l) := by
  refine ⟨rnum_lt l hl 8 _, rnum_lt l hl 4 _, ?_, ?_, ?_, ?_⟩
  · show (rO l _ _).1 < _
    unfold rO
    split
    · exact rnum_lt l hl 4 _
    · show (0 : Nat) < _
      decide
  · show (rM l _ _).1 < _
    unfold rM
    split
    · exact rnum_lt l hl 8 _
    · show (0 : Nat) < _
      decide
  · show ∀ c ∈ (rK l _ _).1, c < 256
    unfold rK
    split
    · exact rtxt_small l hl _
    · intro c hc; cases hc
  · show ∀ c ∈ (rK l _ _).1, c < 256
    unfold rK
    split
    · exact rtxt_small l hl _
    · intro c hc; cases hc

theorem get_some {f : Nat → Bool} {l : List Nat} {e : Entry} (hl : ∀ c ∈ l, c < 256) (h : get f l = some e) : ok e = true ∧ enc e = l ∧ Bnd e := by
  unfold get at h
  split at h
  · rename_i hh
    injection h with h
    subst h
    exact ⟨hh.1, hh.2, rd_bnd f l hl⟩
  · cases h
theorem get_enc (f : Nat → Bool) (h0 : f 0 = false) (h1 : f 1 = true) (e : Entry) (hb : Bnd e) (ho : ok e = true) : get f (enc e) = some e := by
  have := rd_enc f h0 h1 e hb ho []
  rw [List.append_nil] at this
  unfold get
  rw [this, if_pos ⟨ho, rfl⟩]
theorem get_eq (f g : Nat → Bool) (f0 : f 0 = false) (f1 : f 1 = true) (g0 : g 0 = false) (g1 : g 1 = true) (l : List Nat) (hl : ∀ c ∈ l, c < 256) : get f l = get g l := by
  cases h : get f l with
  | some e =>
    obtain ⟨h1, h2, h3⟩ := get_some hl h
    rw [← h2, get_enc g g0 g1 e h3 h1]
  | none =>
    cases h' : get g l with
    | none => rfl
    | some e =>
      obtain ⟨h1, h2, h3⟩ := get_some hl h'
      rw [← h2, get_enc f f0 f1 e h3 h1] at h
      cases h
/-- Not with more behind it. -/
theorem get_more (f : Nat → Bool) (e : Entry) (hb : Bnd e) (ho : ok e = true) (r : List Nat) (hr : r ≠ []) (hl : ∀ c ∈ enc e ++ r, c < 256) : get f (enc e ++ r) = none := by
  cases h : get f (enc e ++ r) with
  | none => rfl
  | some e' =>
    obtain ⟨h1, h2, h3⟩ := get_some hl h
    have := enc_inj e' e h3 h1 hb ho [] r (by rw [List.append_nil]; exact h2)
    exact absurd this.2.symm hr
/-- Nor with less. -/
theorem get_less (f : Nat → Bool) (e : Entry) (hb : Bnd e) (ho : ok e = true) (l r : List Nat) (hr : r ≠ []) (h : enc e = l ++ r) (hl : ∀ c ∈ l, c < 256) : get f l = none := by
  cases hg : get f l with
  | none => rfl
  | some e' =>
    obtain ⟨h1, h2, h3⟩ := get_some hl hg
    have := enc_inj e' e h3 h1 hb ho r [] (by rw [List.append_nil, h2]; exact h.symm)
    exact absurd this.2 hr

theorem enc_small (e : Entry) (hb : Bnd e) : ∀ c ∈ enc e, c < 256 := by
  have ht : ∀ t : List Nat, (∀ c ∈ t, c < 256) → ∀ c ∈ txt t, c < 256 := fun t h c hc => by
    rcases List.mem_append.1 hc with h' | h'
    · exact be_small _ _ c h'
    · exact h c h'
  intro c hc
  unfold enc encO encT encS encC encM at hc
  simp only [List.mem_append] at hc
  rcases hc with h | h | h | h | h | h | h | h
  · exact be_small _ _ c h
  · exact be_small _ _ c h
  · exact be_small _ _ c h
  · split at h
    · exact be_small _ _ c h
    · cases h
  · split at h
    · rcases List.mem_append.1 h with h | h
      · exact ht _ hb.key c h
      · exact ht _ hb.data c h
    · cases h
  · split at h
    · simp only [List.mem_append] at h
      rcases h with h | h | h
      · exact be_small _ _ c h
      · exact be_small _ _ c h
      · exact be_small _ _ c h
    · cases h
  · split at h
    · cases h
    · exact be_small _ _ c h
  · split at h
    · exact be_small _ _ c h
    · cases h

/-- One may stand behind another one. -/
def nxt (a b : Entry) : Prop := b.lsn = a.lsn + 1 ∧ (a.epoch = b.epoch ∨ (b.kind = 1 ∧ a.epoch < b.epoch))
instance (a b : Entry) : Decidable (nxt a b) := by unfold nxt; infer_instance
/-- The entry at place j may stand there. -/
def good (l : List Entry) (j : Nat) : Prop := ∃ e, l[j]? = some e ∧ ok e = true ∧ (0 < j → ∃ b, l[j - 1]? = some b ∧ nxt b e)
/-- So many of the first ones may stand in a row. -/
def RowIs (l : List Entry) (n : Nat) : Prop := n ≤ l.length ∧ (∀ j, j < n → good l j) ∧ (n < l.length → ¬ good l n)
theorem RowIs.uniq {l : List Entry} {n m : Nat} (h : RowIs l n) (k : RowIs l m) : n = m := by
  have := h.2.1 m
  have := k.2.1 n
  have := h.2.2
  have := k.2.2
  have := h.1
  have := k.1
  rcases Nat.lt_trichotomy n m with a | a | a
  · exact absurd (k.2.1 n a) (h.2.2 (by omega))
  · exact a
  · exact absurd (h.2.1 m a) (k.2.2 (by omega))
def rowE (l : List Entry) (n : Nat) : Nat := if n = l.length then 0 else 41

end Ent
end Go.Proofs.Ytccpmalefdnhdaa
