/-
  Plain mathematics of the checksum: the register as a natural number of whatever size, one step of it, and what follows: it is linear, and a burst of at most 32 bits does not vanish. No condition.
-/
namespace Crc

def poly : Nat := 3988292384
def ones : Nat := 4294967295
/-- One bit of the register. -/
def st (r : Nat) : Nat := if r % 2 = 1 then r / 2 ^^^ poly else r / 2
/-- So many bits. -/
def stn : Nat → Nat → Nat
  | 0, r => r
  | n + 1, r => stn n (st r)

theorem xor_div_two (a b : Nat) : (a ^^^ b) / 2 = a / 2 ^^^ b / 2 := by
  apply Nat.eq_of_testBit_eq; intro i
  rw [Nat.testBit_div_two, Nat.testBit_xor, Nat.testBit_xor, Nat.testBit_div_two, Nat.testBit_div_two]

theorem xor_mod_two (a b : Nat) : (a ^^^ b) % 2 = (a + b) % 2 := by
  have h : (a ^^^ b).testBit 0 = ((a.testBit 0) ^^ (b.testBit 0)) := Nat.testBit_xor _ _ _
  rw [Nat.testBit_zero, Nat.testBit_zero, Nat.testBit_zero] at h
  rcases Nat.mod_two_eq_zero_or_one a with ha | ha <;> rcases Nat.mod_two_eq_zero_or_one b with hb | hb <;> rcases Nat.mod_two_eq_zero_or_one (a ^^^ b) with hc | hc <;> simp [ha, hb, hc] at h <;> omega

theorem cancel (a b : Nat) : a ^^^ (a ^^^ b) = b := by rw [← Nat.xor_assoc, Nat.xor_self, Nat.zero_xor]
theorem eq_of_xor {a b : Nat} (h : a ^^^ b = 0) : a = b := by
  have h2 : a ^^^ (a ^^^ b) = a ^^^ 0 := congrArg (a ^^^ ·) h
  rw [cancel, Nat.xor_zero] at h2; exact h2.symm

theorem st_xor (a b : Nat) : st (a ^^^ b) = st a ^^^ st b := by
  unfold st
  rw [xor_div_two, xor_mod_two]
  rcases Nat.mod_two_eq_zero_or_one a with ha | ha <;> rcases Nat.mod_two_eq_zero_or_one b with hb | hb
  · rw [if_neg (by omega), if_neg (by omega), if_neg (by omega)]
  · rw [if_pos (by omega), if_neg (by omega), if_pos (by omega), Nat.xor_assoc]
  · rw [if_pos (by omega), if_pos (by omega), if_neg (by omega), Nat.xor_assoc, Nat.xor_assoc, Nat.xor_comm poly]
  · rw [if_neg (by omega), if_pos (by omega), if_pos (by omega)]
    rw [Nat.xor_assoc, ← Nat.xor_assoc poly, Nat.xor_comm poly, Nat.xor_assoc (b / 2), Nat.xor_self, Nat.xor_zero]

theorem stn_xor (n a b : Nat) : stn n (a ^^^ b) = stn n a ^^^ stn n b := by
  induction n generalizing a b with
  | zero => rfl
  | succ n ih => simp only [stn]; rw [st_xor, ih]

theorem stn_zero (n : Nat) : stn n 0 = 0 := by
  induction n with
  | zero => rfl
  | succ n ih => simp only [stn]; exact ih

theorem stn_add (m n r : Nat) : stn (m + n) r = stn n (stn m r) := by
  induction m generalizing r with
  | zero => simp [stn]
  | succ m ih => rw [Nat.succ_add]; simp only [stn]; exact ih _

theorem stn_succ' (n r : Nat) : stn (n + 1) r = st (stn n r) := by rw [stn_add]; rfl

theorem stn_shift (n x : Nat) : stn n (x <<< n) = x := by
  induction n generalizing x with
  | zero => simp [stn]
  | succ n ih =>
    have h : st (x <<< (n + 1)) = x <<< n := by
      rw [Nat.shiftLeft_succ]; unfold st; rw [if_neg (by omega)]; omega
    simp only [stn]; rw [h, ih]

theorem st_lt (r : Nat) (h : r < 4294967296) : st r < 4294967296 := by
  unfold st
  split
  · exact Nat.xor_lt_two_pow (n := 32) (by omega) (by decide)
  · omega

theorem stn_lt (n r : Nat) (h : r < 4294967296) : stn n r < 4294967296 := by
  induction n generalizing r with
  | zero => exact h
  | succ n ih => exact ih _ (st_lt r h)

theorem st_ne (r : Nat) (h : r < 4294967296) (h0 : r ≠ 0) : st r ≠ 0 := by
  unfold st
  split
  · intro e
    have e2 : r / 2 = poly := eq_of_xor e
    have hp : poly = 3988292384 := rfl
    rw [hp] at e2; omega
  · omega

theorem stn_ne (n r : Nat) (h : r < 4294967296) (h0 : r ≠ 0) : stn n r ≠ 0 := by
  induction n generalizing r with
  | zero => exact h0
  | succ n ih => exact ih _ (st_lt r h) (st_ne r h h0)

/-- Bytes as one number, the first byte lowest. -/
def num : List Nat → Nat
  | [] => 0
  | c :: r => c ^^^ (num r <<< 8)

/-- The register behind these bytes. -/
def feed (R : Nat) (l : List Nat) : Nat := l.foldl (fun R c => stn 8 (R ^^^ c)) R
theorem feed_nil (R : Nat) : feed R [] = R := rfl
theorem feed_cons (R c : Nat) (r : List Nat) : feed R (c :: r) = feed (stn 8 (R ^^^ c)) r := by unfold feed; rw [List.foldl_cons]

theorem feed_append (R : Nat) (a b : List Nat) : feed R (a ++ b) = feed (feed R a) b := by
  unfold feed; rw [List.foldl_append]

theorem feed_num (R : Nat) (l : List Nat) : feed R l = stn (8 * l.length) (R ^^^ num l) := by
  induction l generalizing R with
  | nil => rw [feed_nil]; simp only [num, List.length_nil, Nat.mul_zero, stn, Nat.xor_zero]
  | cons c r ih =>
    rw [feed_cons]
    simp only [num, List.length_cons]
    rw [ih, Nat.mul_add, Nat.mul_one, Nat.add_comm, stn_add, ← Nat.xor_assoc, stn_xor 8 (R ^^^ c), stn_shift]

theorem feed_lt (R : Nat) (l : List Nat) (h : R < 4294967296) (hl : ∀ c ∈ l, c < 256) : feed R l < 4294967296 := by
  induction l generalizing R with
  | nil => exact h
  | cons c r ih =>
    rw [feed_cons]
    have hc : c < 256 := hl c (by simp)
    exact ih _ (stn_lt 8 _ (Nat.xor_lt_two_pow (n := 32) (by omega) (by omega))) (fun x hx => hl x (by simp [hx]))

/-- The checksum that goes on from s. -/
def more (s : Nat) (l : List Nat) : Nat := ones ^^^ feed (ones ^^^ s) l
def crc (l : List Nat) : Nat := more 0 l
def join (a b n : Nat) : Nat := stn (8 * n) a ^^^ b

theorem ones_lt : ones < 4294967296 := by decide
theorem xor_lt {a b : Nat} (ha : a < 4294967296) (hb : b < 4294967296) : a ^^^ b < 4294967296 := Nat.xor_lt_two_pow (n := 32) ha hb
theorem more_lt (s : Nat) (l : List Nat) (h : s < 4294967296) (hl : ∀ c ∈ l, c < 256) : more s l < 4294967296 :=
  xor_lt ones_lt (feed_lt _ _ (xor_lt ones_lt h) hl)
theorem crc_lt (l : List Nat) (hl : ∀ c ∈ l, c < 256) : crc l < 4294967296 := more_lt 0 l (by decide) hl
theorem join_lt (a b n : Nat) (ha : a < 4294967296) (hb : b < 4294967296) : join a b n < 4294967296 := xor_lt (stn_lt _ _ ha) hb

theorem more_nil (s : Nat) : more s [] = s := by unfold more; rw [feed_nil]; exact cancel _ _
theorem crc_nil : crc [] = 0 := more_nil 0

theorem more_append (s : Nat) (a b : List Nat) : more s (a ++ b) = more (more s a) b := by
  unfold more; rw [feed_append, cancel]

theorem more_crc (a b : List Nat) : more (crc a) b = crc (a ++ b) := by unfold crc; rw [more_append]

theorem join_crc (a b : List Nat) : join (crc a) (crc b) b.length = crc (a ++ b) := by
  unfold join crc more
  rw [feed_append]
  generalize feed (ones ^^^ 0) a = A
  rw [feed_num A b, feed_num (ones ^^^ 0) b, Nat.xor_zero]
  simp only [stn_xor]
  generalize stn (8 * b.length) ones = o
  generalize stn (8 * b.length) A = x
  generalize stn (8 * b.length) (num b) = y
  rw [Nat.xor_comm o x, Nat.xor_assoc x o, ← Nat.xor_assoc o ones, Nat.xor_comm o ones, Nat.xor_assoc ones o, cancel o y, ← Nat.xor_assoc x ones, Nat.xor_comm x ones, Nat.xor_assoc]

theorem join_join (a b c n m : Nat) : join (join a b n) c m = join a (join b c m) (n + m) := by
  unfold join
  rw [stn_xor, Nat.mul_add, stn_add, Nat.xor_assoc]
theorem join_zero (a : Nat) : join a 0 0 = a := by simp [join, stn]
theorem zero_join (b n : Nat) : join 0 b n = b := by simp [join, stn_zero]

theorem num_xor (a b : List Nat) (h : a.length = b.length) : num (List.zipWith (· ^^^ ·) a b) = num a ^^^ num b := by
  induction a generalizing b with
  | nil => cases b with
    | nil => simp [num]
    | cons _ _ => simp at h
  | cons x r ih => cases b with
    | nil => simp at h
    | cons y s =>
      simp only [List.zipWith_cons_cons, num]
      rw [ih s (by simpa using h), Nat.shiftLeft_xor_distrib]
      generalize num r <<< 8 = p
      generalize num s <<< 8 = q
      rw [Nat.xor_assoc, Nat.xor_assoc x p, ← Nat.xor_assoc p y, Nat.xor_comm p y, Nat.xor_assoc y]

theorem num_zeros (n : Nat) : num (List.replicate n 0) = 0 := by
  induction n with
  | zero => rfl
  | succ n ih => simp [List.replicate_succ, num, ih]

theorem linear (a b : List Nat) (h : a.length = b.length) :
    crc a ^^^ crc b ^^^ crc (List.zipWith (· ^^^ ·) a b) ^^^ crc (List.replicate a.length 0) = 0 := by
  unfold crc more
  rw [feed_num, feed_num _ b, feed_num _ (List.zipWith _ a b), feed_num _ (List.replicate a.length 0), num_xor a b h, num_zeros]
  simp only [List.length_zipWith, List.length_replicate, ← h, Nat.min_self, Nat.xor_zero, stn_xor]
  generalize stn (8 * a.length) ones = o
  generalize stn (8 * a.length) (num a) = x
  generalize stn (8 * a.length) (num b) = y
  apply Nat.eq_of_testBit_eq; intro i
  simp only [Nat.testBit_xor, Nat.zero_testBit]
  cases ones.testBit i <;> cases o.testBit i <;> cases x.testBit i <;> cases y.testBit i <;> rfl

/-- A burst: bits of w, the lowest at place k, cut off at n bits. -/
theorem burst_ne (n k w : Nat) (hk : k ≤ n) (hw : w < 4294967296) (h0 : (w <<< k) % 2 ^ n ≠ 0) : stn n ((w <<< k) % 2 ^ n) ≠ 0 := by
  have e : (w <<< k) % 2 ^ n = (w % 2 ^ (n - k)) <<< k := by
    rw [Nat.shiftLeft_eq, Nat.shiftLeft_eq]
    have : 2 ^ n = 2 ^ (n - k) * 2 ^ k := by rw [← Nat.pow_add]; congr 1; omega
    rw [this, Nat.mul_mod_mul_right]
  rw [e] at h0 ⊢
  have hn : n = k + (n - k) := by omega
  generalize hv : w % 2 ^ (n - k) = v at *
  have hv2 : v < 4294967296 := by rw [← hv]; exact Nat.lt_of_le_of_lt (Nat.mod_le _ _) hw
  have h1 : stn n (v <<< k) = stn (n - k) v := by
    have : stn n (v <<< k) = stn (k + (n - k)) (v <<< k) := by rw [← hn]
    rw [this, stn_add, stn_shift]
  rw [h1]
  apply stn_ne _ _ hv2
  intro h; rw [h] at h0; simp at h0

theorem feed_diff (R : Nat) (a b : List Nat) (d : Nat) (h : a.length = b.length) (hd : num a = num b ^^^ d) : feed R a = feed R b ^^^ stn (8 * b.length) d := by
  rw [feed_num, feed_num R b, h, hd, ← stn_xor, Nat.xor_assoc]

/-- Two texts that differ by a burst have one sum just if the burst is nought. -/
theorem crc_burst (a b : List Nat) (k w : Nat) (h : a.length = b.length) (hk : k ≤ 8 * b.length) (hw : w < 4294967296) (hd : num a = num b ^^^ (w <<< k) % 2 ^ (8 * b.length)) :
    (crc a = crc b) ↔ (w <<< k) % 2 ^ (8 * b.length) = 0 := by
  constructor
  · intro e
    refine Classical.byContradiction fun h0 => ?_
    have hne := burst_ne (8 * b.length) k w hk hw h0
    unfold crc more at e
    rw [feed_diff _ a b _ h hd] at e
    generalize feed (ones ^^^ 0) b = F at e
    generalize stn (8 * b.length) ((w <<< k) % 2 ^ (8 * b.length)) = D at e hne
    have e1 : ones ^^^ (ones ^^^ (F ^^^ D)) = ones ^^^ (ones ^^^ F) := congrArg (ones ^^^ ·) e
    rw [cancel, cancel] at e1
    have e2 : F ^^^ (F ^^^ D) = F ^^^ F := congrArg (F ^^^ ·) e1
    rw [cancel, Nat.xor_self] at e2
    exact hne e2
  · intro h0
    unfold crc more
    rw [feed_diff _ a b _ h hd, h0, stn_zero, Nat.xor_zero]

theorem num_set (l : List Nat) (k : Nat) (h : k / 8 < l.length) : num (l.set (k / 8) (l.getD (k / 8) 0 ^^^ 2 ^ (k % 8))) = num l ^^^ 2 ^ k := by
  induction l generalizing k with
  | nil => simp at h
  | cons c r ih =>
    by_cases hk : k < 8
    · have h0 : k / 8 = 0 := by omega
      have h1 : k % 8 = k := by omega
      rw [h0, h1]
      simp only [List.set_cons_zero, List.getD_cons_zero, num]
      rw [Nat.xor_assoc, Nat.xor_comm (2 ^ k), Nat.xor_assoc]
    · obtain ⟨j, rfl⟩ : ∃ j, k = j + 8 := ⟨k - 8, by omega⟩
      have h0 : (j + 8) / 8 = j / 8 + 1 := by omega
      have h1 : (j + 8) % 8 = j % 8 := by omega
      rw [h0, h1]
      simp only [List.set_cons_succ, List.getD_cons_succ, num]
      rw [ih j (by simp at h; omega), Nat.shiftLeft_xor_distrib, Nat.xor_assoc]
      congr 2
      rw [Nat.shiftLeft_eq, ← Nat.pow_add]

/-- The four bytes of a number, the lowest first. -/
def le (s : Nat) : List Nat := [s % 256, s / 256 % 256, s / 65536 % 256, s / 16777216 % 256]

theorem split8 (s : Nat) : s = s % 256 ^^^ ((s / 256) <<< 8) := by
  apply Nat.eq_of_testBit_eq; intro i
  have e1 : s % 256 = s % 2 ^ 8 := rfl
  have e2 : s / 256 = s >>> 8 := by rw [Nat.shiftRight_eq_div_pow]
  rw [e1, e2, Nat.testBit_xor, Nat.testBit_mod_two_pow, Nat.testBit_shiftLeft, Nat.testBit_shiftRight]
  by_cases h : i < 8
  · have : ¬ i ≥ 8 := by omega
    simp [h, this]
  · have h2 : i ≥ 8 := by omega
    simp [h, h2]

theorem num_le (s : Nat) (h : s < 4294967296) : num (le s) = s := by
  unfold le
  simp only [num]
  have e3 : s / 16777216 % 256 = s / 16777216 := by omega
  rw [e3, Nat.zero_shiftLeft, Nat.xor_zero]
  have a2 := split8 (s / 65536)
  have a1 := split8 (s / 256)
  have a0 := split8 s
  have d2 : s / 65536 / 256 = s / 16777216 := by omega
  have d1 : s / 256 / 256 = s / 65536 := by omega
  rw [d2] at a2; rw [d1] at a1
  rw [← a2, ← a1, ← a0]

/-- What the register comes to over bytes that have their sum behind them. -/
theorem holds_iff (b : List Nat) (s : Nat) (hb : ∀ c ∈ b, c < 256) (hs : s < 4294967296) : (crc b = s) ↔ feed ones (b ++ le s) = stn 32 ones := by
  rw [feed_append, feed_num (feed ones b), num_le s hs]
  have hl : (le s).length = 4 := rfl
  rw [hl]
  unfold crc more
  rw [Nat.xor_zero]
  have hF := feed_lt ones b ones_lt hb
  generalize feed ones b = F at *
  constructor
  · intro e; rw [← e, Nat.xor_comm ones, cancel]
  · intro e
    have e1 : stn 32 (F ^^^ s ^^^ ones) = 0 := by rw [stn_xor, e, Nat.xor_self]
    have e2 : F ^^^ s ^^^ ones = 0 := Classical.byContradiction fun h => stn_ne 32 _ (xor_lt (xor_lt hF hs) ones_lt) h e1
    have e3 : F ^^^ s = ones := eq_of_xor e2
    rw [← e3, Nat.xor_assoc, Nat.xor_comm s F, cancel]

/-- Two texts of one length that differ by v at place k have one sum just if v is nought. -/
theorem crc_differ (a b : List Nat) (v k : Nat) (h : a.length = b.length) (hk : k ≤ 8 * b.length) (hv : v < 4294967296) (hlt : v <<< k < 2 ^ (8 * b.length)) (hd : num a = num b ^^^ v <<< k) : (crc a = crc b) ↔ v = 0 := by
  have hm : (v <<< k) % 2 ^ (8 * b.length) = v <<< k := Nat.mod_eq_of_lt hlt
  have := crc_burst a b k v h hk hv (by rw [hm]; exact hd)
  rw [this, hm, Nat.shiftLeft_eq]
  constructor
  · intro e
    rcases Nat.mul_eq_zero.1 e with e | e
    · exact e
    · exact absurd e (Nat.ne_of_gt (Nat.two_pow_pos k))
  · intro e; rw [e, Nat.zero_mul]

/-- Of the register itself. -/
theorem feed_differ (R : Nat) (a b : List Nat) (v k : Nat) (h : a.length = b.length) (hk : k ≤ 8 * b.length) (hv : v < 4294967296) (hlt : v <<< k < 2 ^ (8 * b.length)) (hd : num a = num b ^^^ v <<< k) : (feed R a = feed R b) ↔ v = 0 := by
  have hm : (v <<< k) % 2 ^ (8 * b.length) = v <<< k := Nat.mod_eq_of_lt hlt
  rw [feed_diff R a b _ h hd]
  constructor
  · intro e
    refine Classical.byContradiction fun h0 => ?_
    have hne : v <<< k ≠ 0 := by
      rw [Nat.shiftLeft_eq]
      intro e2
      rcases Nat.mul_eq_zero.1 e2 with e2 | e2
      · exact h0 e2
      · exact absurd e2 (Nat.ne_of_gt (Nat.two_pow_pos k))
    have := burst_ne (8 * b.length) k v hk hv (by rw [hm]; exact hne)
    rw [hm] at this
    have e3 : feed R b ^^^ (feed R b ^^^ stn (8 * b.length) (v <<< k)) = feed R b ^^^ feed R b := congrArg (feed R b ^^^ ·) e
    rw [cancel, Nat.xor_self] at e3
    exact this e3
  · intro e; rw [e, Nat.zero_shiftLeft, stn_zero, Nat.xor_zero]

/-- What a table f makes of the lowest k bits of r. -/
def acc (f : Nat → Nat) (r : Nat) : Nat → Nat
  | 0 => 0
  | k + 1 => if r / 2 ^ k % 2 = 1 then acc f r k ^^^ f k else acc f r k

theorem acc_lt (f : Nat → Nat) (r k : Nat) (hf : ∀ i, i < k → f i < 4294967296) : acc f r k < 4294967296 := by
  induction k with
  | zero => simp only [acc]; decide
  | succ k ih =>
    simp only [acc]
    have h := ih (fun i hi => hf i (by omega))
    split
    · exact xor_lt h (hf k (by omega))
    · exact h

theorem mod_succ (r k : Nat) : r % 2 ^ (k + 1) = r % 2 ^ k ^^^ (if r / 2 ^ k % 2 = 1 then 2 ^ k else 0) := by
  apply Nat.eq_of_testBit_eq; intro i
  have hb : (r / 2 ^ k % 2 = 1) ↔ r.testBit k = true := by
    rw [Nat.testBit_eq_decide_div_mod_eq]; simp
  rw [Nat.testBit_mod_two_pow, Nat.testBit_xor, Nat.testBit_mod_two_pow]
  by_cases h : r / 2 ^ k % 2 = 1
  · rw [if_pos h, Nat.testBit_two_pow]
    have h2 := hb.1 h
    rcases Nat.lt_trichotomy i k with hi | hi | hi
    · have h3 : i < k + 1 := by omega
      have h4 : ¬ k = i := by omega
      simp [hi, h3, h4]
    · subst hi; simp [h2]
    · have h3 : ¬ i < k + 1 := by omega
      have h4 : ¬ i < k := by omega
      have h5 : ¬ k = i := by omega
      simp [h3, h4, h5]
  · rw [if_neg h, Nat.zero_testBit]
    have h2 : r.testBit k = false := by
      cases hq : r.testBit k with
      | false => rfl
      | true => exact absurd (hb.2 hq) h
    rcases Nat.lt_trichotomy i k with hi | hi | hi
    · have h3 : i < k + 1 := by omega
      simp [hi, h3]
    · subst hi; simp [h2]
    · have h3 : ¬ i < k + 1 := by omega
      have h4 : ¬ i < k := by omega
      simp [h3, h4]

/-- A table of what becomes of each bit tells it of each number. -/
theorem acc_stn (n r k : Nat) : acc (fun i => stn n (2 ^ i)) r k = stn n (r % 2 ^ k) := by
  induction k with
  | zero => simp only [acc, Nat.pow_zero, Nat.mod_one]; rw [stn_zero]
  | succ k ih =>
    simp only [acc]
    rw [mod_succ, stn_xor, ih]
    split
    · rfl
    · rw [stn_zero, Nat.xor_zero]

theorem acc_congr (f g : Nat → Nat) (r k : Nat) (h : ∀ i, i < k → f i = g i) : acc f r k = acc g r k := by
  induction k with
  | zero => rfl
  | succ k ih => simp only [acc]; rw [ih (fun i hi => h i (by omega)), h k (by omega)]

end Crc
