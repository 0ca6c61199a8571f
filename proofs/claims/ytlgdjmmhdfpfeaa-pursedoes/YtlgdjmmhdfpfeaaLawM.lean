/-
  What the laws say, as plain lists: what is kept, which payment changes, ways there and back, what changes of whom.
-/
import Derived.Test.YtlgdjmmhdfpfeaaHelp
import Derived.Test.YtlgdjmmhdfpfeaaTaken
namespace Go.Proofs.Ytlgdjmmhdfpfeaa
open Go.Proofs Go.RowKit
set_option maxRecDepth 100000
set_option linter.unusedVariables false

/-! ### all money -/
def sumM : List Kd → Int
  | [] => 0
  | k :: r => k.m + sumM r
theorem sumM_perm {L L' : List Kd} (h : L.Perm L') : sumM L = sumM L' := by
  induction h with
  | nil => rfl
  | cons a _ ih => simp only [sumM, ih]
  | swap a b l => simp only [sumM]; omega
  | trans _ _ i1 i2 => exact i1.trans i2
theorem sumM_snoc (k : Kd) : ∀ L : List Kd, sumM (L ++ [k]) = sumM L + k.m
  | [] => by simp [sumM]
  | y :: r => by rw [List.cons_append]; simp only [sumM, sumM_snoc k r]; omega
theorem sumM_take {L : List Kd} {i : Nat} (hi : i < L.length) : sumM (L.take (i + 1)) = sumM (L.take i) + L[i].m := by
  rw [List.take_succ_eq_append_getElem hi, sumM_snoc]
theorem sumM_bd {L : List Kd} (h : ∀ k ∈ L, 0 ≤ k.m ∧ k.m ≤ 1000000000) : 0 ≤ sumM L ∧ sumM L ≤ 1000000000 * (L.length : Int) := by
  induction L with
  | nil => simp [sumM]
  | cons k r ih =>
    have h1 := h k (List.mem_cons_self ..)
    have h2 := ih fun z hz => h z (List.mem_cons_of_mem _ hz)
    simp only [sumM, List.length_cons]
    omega
theorem sumM_tbd {L : List Kd} (h : ∀ k ∈ L, 0 ≤ k.m ∧ k.m ≤ 1000000000) (i : Nat) : 0 ≤ sumM (L.take i) ∧ sumM (L.take i) ≤ 1000000000 * (L.length : Int) := by
  have h1 := sumM_bd (L := L.take i) fun k hk => h k (List.mem_of_mem_take hk)
  have h2 : (L.take i).length ≤ L.length := by simp; omega
  omega
theorem perm_insK (k : Kd) : ∀ K : List Kd, (insK k K).Perm (k :: K)
  | [] => List.Perm.refl _
  | x :: r => by
    unfold insK
    split
    · exact List.Perm.refl _
    · exact ((perm_insK k r).cons x).trans (List.Perm.swap _ _ _)
theorem newGo_perm : ∀ (l K K' : List Kd), newGo K l = some K' → K'.Perm (K ++ l)
  | [], K, K', h => by simp [newGo] at h; subst h; simp
  | g :: r, K, K', h => by
    unfold newGo at h
    cases ha : addG K g with
    | none => rw [ha] at h; cases h
    | some K2 =>
      rw [ha] at h
      obtain ⟨-, -, rfl⟩ := addG_some ha
      have h1 := newGo_perm r _ _ h
      refine h1.trans (((perm_insK g K).append_right r).trans ?_)
      rw [List.cons_append]
      exact List.perm_middle.symm
theorem newOf_perm {l K : List Kd} (h : newOf l = some K) : K.Perm l := by
  have := newGo_perm l [] K (newOf_some h).2.1
  simpa using this
theorem sumM_new {l K : List Kd} (h : newOf l = some K) : sumM K = sumM l := sumM_perm (newOf_perm h)
theorem new_bd {l K : List Kd} (h : newOf l = some K) : ∀ k ∈ l, 0 ≤ k.m ∧ k.m ≤ 1000000000 := fun k hk => by
  have h1 := (newOf_some h).2.2.good k ((newOf_perm h).mem_iff.2 hk)
  have := goodB_iff.1 h1
  omega
theorem updK_none {K : List Kd} {k' : Kd} (h : ∀ x ∈ K, x.n ≠ k'.n) : updK K k' = K := by
  unfold updK
  conv => rhs; rw [← List.map_id K]
  refine List.map_congr_left fun y hy => ?_
  rw [if_neg (by simpa using h y hy)]; rfl
theorem sumM_upd {K : List Kd} (hs : KSort K) {k k' : Kd} (hk : k ∈ K) (hn : k'.n = k.n) : sumM (updK K k') = sumM K - k.m + k'.m := by
  induction K with
  | nil => cases hk
  | cons y r ih =>
    obtain ⟨h1, h2⟩ := List.pairwise_cons.1 hs
    rcases List.mem_cons.1 hk with rfl | hr
    · have e := updK_none (K := r) (k' := k') fun z hz he => by have := h1 z hz; rw [he, hn] at this; exact nm_irrefl _ this
      unfold updK at e ⊢
      rw [List.map_cons, if_pos (by simpa using hn.symm), e]
      simp only [sumM]; omega
    · have hx := h1 k hr
      have := ih h2 hr
      unfold updK at this ⊢
      rw [List.map_cons, if_neg (by rw [beq_iff_eq, hn]; intro e; rw [e] at hx; exact nm_irrefl _ hx)]
      simp only [sumM, this]; omega
theorem Inv.mb {q : Ss} (h : Inv q) : ∀ k ∈ q.K, 0 ≤ k.m ∧ k.m ≤ 1000000000 := fun k hk => by have := h.kbs hk; omega
theorem tot_bd {q : Ss} (h : Inv q) (t : Nat) : 0 ≤ tot q.H t ∧ tot q.H t ≤ 1000000000 * (q.H.length : Int) := by
  rw [← ksum_st]
  have h1 := ksum_bd (L := stH q.H t) fun y hy => ⟨(h.hh y (mem_stH.1 hy).1).1, (h.kb (mem_stH.1 hy).1).1⟩
  have h2 := stH_len q.H t
  omega

/-! ### nothing is made or lost -/
theorem keep_auth {q : Ss} (hI : Inv q) (o : Nat) (x : List UInt8) (n : Int) : sumM (authS q o x n).K + tot (authS q o x n).H 2 = sumM q.K + tot q.H 2 := by
  cases hv : authV q o x n
  · rw [authS_no hv]
  · obtain ⟨-, -, -, k, hk, -⟩ := authV_iff.1 hv
    obtain ⟨hm, rfl⟩ := findK_some hk
    rw [authS_yes hv hk]
    try dsimp only
    rw [sumM_upd (k' := ⟨k.n, k.m, k.h + n⟩) hI.ks hm rfl, tot_ins]
    simp
theorem keep_mov {q : Ss} (hI : Inv q) (o : Nat) {c : Nat} (hc : c ≤ 2) : sumM (movS q o c).K + tot (movS q o c).H 2 = sumM q.K + tot q.H 2 := by
  cases hv : movV q o c with
  | false => rw [movS_no hv]
  | true =>
    obtain ⟨y, hf, ht⟩ := movV_iff.1 hv
    obtain ⟨hy, rfl⟩ := findH_some hf
    obtain ⟨k, hk, hm, e⟩ := hI.kn hy
    rw [movS_yes hf ht hk]
    try dsimp only
    rw [sumM_upd hI.ks hm (movK_n k y.k c), tot_set hI.hs hy, ht]
    rcases frS_or c hc with ⟨rfl, e1, e2⟩ | ⟨rfl, e1, e2⟩ | ⟨rfl, e1, e2⟩ <;> (rw [e1, e2]; unfold movK; simp; try omega)
theorem keep_act {q : Ss} (hI : Inv q) (a : Ac) : sumM (actS q a).K + tot (actS q a).H 2 = sumM q.K + tot q.H 2 := by
  unfold actS
  split
  · exact keep_auth hI _ _ _
  · exact keep_mov hI _ (wayOf_le _)
theorem act_len {q : Ss} (a : Ac) : (actS q a).K.length = q.K.length := by
  have := congrArg List.length (actS_len q a).2
  simpa using this
theorem held_snoc (x : List UInt8) (t : Nat) (h : Hd) : ∀ L : List Hd, held (L ++ [h]) x t = held L x t + if h.n == x && h.t == t then h.k else 0
  | [] => by simp [held]
  | y :: r => by rw [List.cons_append]; simp only [held, held_snoc x t h r]; omega
theorem held_take_le {H : List Hd} (hk : ∀ y ∈ H, 1 ≤ y.k) (x : List UInt8) (t i : Nat) : 0 ≤ held (H.take i) x t ∧ held (H.take i) x t ≤ held H x t := by
  refine ⟨held_nonneg (fun y hy => hk y (List.mem_of_mem_take hy)) x t, ?_⟩
  induction H generalizing i with
  | nil => simp [held]
  | cons y r ih =>
    cases i with
    | zero => rw [List.take_zero]; exact held_nonneg hk x t
    | succ i =>
      rw [List.take_succ_cons]
      simp only [held]
      have := ih (fun z hz => hk z (List.mem_cons_of_mem _ hz)) i
      omega

/-! ### which payment changes -/
/-- Two lists of payments, gone through side by side: the second one has the first one's, in their states or on, and perhaps one more. -/
structure Stp (H H' : List Hd) (a : Ac) (v : Bool) (κ : Nat → Nat) (χ : Nat → Int) : Prop where
  k0 : κ 0 = 0
  c0 : χ 0 = (H'.length : Int) - (H.length : Int)
  cb : ∀ j, 0 ≤ χ j ∧ χ j ≤ 1
  kl : ∀ j, j ≤ H'.length → κ j ≤ H.length
  step : ∀ (j : Nat) (hj : j < H'.length),
    (∃ hk : κ j < H.length, H[κ j].o = H'[j].o ∧ H[κ j].n = H'[j].n ∧ H[κ j].k = H'[j].k ∧ H[κ j].t ≤ H'[j].t ∧ H'[j].t ≤ 3 ∧ κ (j + 1) = κ j + 1 ∧ χ (j + 1) = χ j + (if H'[j].t = H[κ j].t then 0 else 1)) ∨
    ((∀ hk : κ j < H.length, H[κ j].o ≠ H'[j].o) ∧ H'[j] = ⟨a.o, a.x, a.n, 1⟩ ∧ κ (j + 1) = κ j ∧ χ (j + 1) = χ j)
  kn : κ H'.length = H.length
  cn : χ H'.length = if v then 1 else 0

theorem stp_same {H : List Hd} (hb : ∀ h ∈ H, h.t ≤ 3) (a : Ac) : Stp H H a false (fun j => j) (fun _ => 0) :=
  ⟨rfl, by omega, fun j => by omega, fun j hj => hj, fun j hj => .inl ⟨hj, rfl, rfl, rfl, Nat.le_refl _, hb _ (List.getElem_mem hj), rfl, by simp⟩, rfl, rfl⟩
theorem insH_split (h : Hd) : ∀ H : List Hd, ∃ p, p ≤ H.length ∧ insH h H = H.take p ++ h :: H.drop p
  | [] => ⟨0, by simp, rfl⟩
  | x :: r => by
    unfold insH
    split
    · exact ⟨0, by simp, rfl⟩
    · obtain ⟨p, hp, e⟩ := insH_split h r
      exact ⟨p + 1, by simpa using hp, by rw [e]; rfl⟩
theorem stp_ins {H : List Hd} (hb : ∀ h ∈ H, h.t ≤ 3) {a : Ac} (hn : ∀ x ∈ H, x.o ≠ a.o) : ∃ κ χ, Stp H (insH ⟨a.o, a.x, a.n, 1⟩ H) a true κ χ := by
  obtain ⟨p, hp, e⟩ := insH_split ⟨a.o, a.x, a.n, 1⟩ H
  have hl := insH_length ⟨a.o, a.x, a.n, 1⟩ H
  refine ⟨fun j => if j ≤ p then j else j - 1, fun _ => 1, by simp, by rw [hl]; simp; omega, fun j => by omega, fun j hj => ?_, fun j hj => ?_, ?_, rfl⟩
  · rw [hl] at hj; (try dsimp only); split <;> omega
  · rw [hl] at hj
    rcases Nat.lt_trichotomy j p with h1 | h1 | h1
    · have hjl : j < H.length := by omega
      have hg : (insH ⟨a.o, a.x, a.n, 1⟩ H)[j]'(by omega) = H[j] := by
        have : (insH ⟨a.o, a.x, a.n, 1⟩ H)[j]? = H[j]? := by
          rw [e, List.getElem?_append_left (by simp; omega), List.getElem?_take_of_lt h1]
        rw [List.getElem?_eq_getElem (by omega), List.getElem?_eq_getElem hjl] at this
        exact Option.some.inj this
      left
      try dsimp only
      simp only [show j ≤ p from by omega, show j + 1 ≤ p from h1, if_true]
      refine ⟨hjl, ?_⟩
      rw [hg]
      exact ⟨rfl, rfl, rfl, Nat.le_refl _, hb _ (List.getElem_mem hjl), by first | rfl | trivial, by simp⟩
    · subst h1
      have hg : (insH ⟨a.o, a.x, a.n, 1⟩ H)[j]'(by omega) = ⟨a.o, a.x, a.n, 1⟩ := by
        have : (insH ⟨a.o, a.x, a.n, 1⟩ H)[j]? = some ⟨a.o, a.x, a.n, 1⟩ := by
          have hm : min j H.length = j := by omega
          rw [e, List.getElem?_append_right (by simp; omega), List.length_take, hm, Nat.sub_self]
          rfl
        rw [List.getElem?_eq_getElem (by omega)] at this
        exact Option.some.inj this
      right
      try dsimp only
      simp only [Nat.le_refl, if_true, show ¬ j + 1 ≤ j from by omega, if_false]
      refine ⟨fun hk => ?_, hg, by omega, by first | rfl | trivial⟩
      rw [hg]
      exact hn _ (List.getElem_mem hk)
    · have hjl : j - 1 < H.length := by omega
      have hg : (insH ⟨a.o, a.x, a.n, 1⟩ H)[j]'(by omega) = H[j - 1] := by
        have : (insH ⟨a.o, a.x, a.n, 1⟩ H)[j]? = H[j - 1]? := by
          have hm : min p H.length = p := by omega
          rw [e, List.getElem?_append_right (by simp; omega), List.length_take, hm]
          obtain ⟨i, hi⟩ : ∃ i, j - p = i + 1 := ⟨j - p - 1, by omega⟩
          rw [hi, List.getElem?_cons_succ, List.getElem?_drop]
          congr 1; omega
        rw [List.getElem?_eq_getElem (by omega), List.getElem?_eq_getElem hjl] at this
        exact Option.some.inj this
      left
      try dsimp only
      simp only [show ¬ j ≤ p from by omega, show ¬ j + 1 ≤ p from by omega, if_false]
      refine ⟨hjl, ?_⟩
      rw [hg]
      exact ⟨rfl, rfl, rfl, Nat.le_refl _, hb _ (List.getElem_mem hjl), by omega, by simp⟩
  · try dsimp only
    rw [hl, if_neg (by omega)]; omega
theorem setH_at (H : List Hd) (o t j : Nat) (hj : j < (setH H o t).length) (hj2 : j < H.length) : (setH H o t)[j] = if H[j].o = o then ⟨H[j].o, H[j].n, H[j].k, t⟩ else H[j] := by
  simp [setH]
theorem stp_set {H : List Hd} (hs : HSort H) (hb : ∀ h ∈ H, h.t ≤ 3) {y : Hd} (hy : y ∈ H) {t : Nat} (h1 : y.t < t) (h2 : t ≤ 3) (a : Ac) : ∃ κ χ, Stp H (setH H y.o t) a true κ χ := by
  obtain ⟨i, hi, rfl⟩ := List.getElem_of_mem hy
  have hl := setH_length H (H[i].o) t
  refine ⟨fun j => j, fun j => if j ≤ i then 0 else 1, rfl, by rw [hl]; simp, fun j => by (try dsimp only); split <;> omega, fun j hj => by rw [hl] at hj; exact hj, fun j hj => ?_, hl, by (try dsimp only); rw [hl, if_neg (by omega)]; rfl⟩
  have hj2 : j < H.length := by rw [hl] at hj; exact hj
  rw [setH_at H _ t j hj hj2]
  left
  refine ⟨hj2, ?_⟩
  by_cases e : j = i
  · subst e
    rw [if_pos rfl]
    refine ⟨rfl, rfl, rfl, Nat.le_of_lt h1, h2, rfl, ?_⟩
    try dsimp only
    rw [if_neg (by omega), if_pos (Nat.le_refl _), if_neg (by omega)]; rfl
  · have hne : H[j].o ≠ H[i].o := fun he => by
      rcases Nat.lt_or_gt_of_ne e with h | h
      · have := List.pairwise_iff_getElem.1 hs j i hj2 hi h; omega
      · have := List.pairwise_iff_getElem.1 hs i j hi hj2 h; omega
    rw [if_neg hne]
    refine ⟨rfl, rfl, rfl, Nat.le_refl _, hb _ (List.getElem_mem hj2), rfl, ?_⟩
    try dsimp only
    simp only [if_true]
    by_cases hji : j ≤ i
    · rw [if_pos (by omega), if_pos hji]; rfl
    · rw [if_neg (by omega), if_neg hji]; rfl
theorem Inv.tb {q : Ss} (h : Inv q) : ∀ y ∈ q.H, y.t ≤ 3 := fun y hy => (h.hh y hy).2.2.2.2.1
theorem stp_act {q : Ss} (hI : Inv q) (a : Ac) : ∃ κ χ, Stp q.H (actS q a).H a (actV q a) κ χ := by
  cases hv : actV q a with
  | false => rw [actS_no hv]; exact ⟨_, _, stp_same hI.tb a⟩
  | true =>
    unfold actV at hv
    unfold actS
    by_cases h1 : a.t = 0 ∨ a.t = 1
    · rw [if_pos h1] at hv ⊢
      obtain ⟨-, -, hn, k, hk, -⟩ := authV_iff.1 hv
      rw [authS_yes hv hk, (findK_some hk).2]
      exact stp_ins hI.tb (findH_none hn)
    · rw [if_neg h1] at hv ⊢
      obtain ⟨y, hf, ht⟩ := movV_iff.1 hv
      obtain ⟨hy, ho⟩ := findH_some hf
      obtain ⟨k, hk, hm, e⟩ := hI.kn hy
      rw [movS_yes hf ht hk, ← ho]
      have hb : y.t < toS (wayOf a.t) ∧ toS (wayOf a.t) ≤ 3 := by
        rw [ht]
        rcases frS_or _ (wayOf_le a.t) with ⟨-, e1, e2⟩ | ⟨-, e1, e2⟩ | ⟨-, e1, e2⟩ <;> rw [e1, e2] <;> decide
      exact stp_set hI.hs hI.tb hy hb.1 hb.2 a

/-! ### there and back -/
theorem find_auth {q : Ss} (hI : Inv q) {o : Nat} {x : List UInt8} {n : Int} (hv : authV q o x n = true) : findH (authS q o x n).H o = some ⟨o, x, n, 1⟩ := by
  obtain ⟨-, -, h0, k, hk, -⟩ := authV_iff.1 hv
  rw [authS_yes hv hk, (findK_some hk).2]
  show findH (insH ⟨o, x, n, 1⟩ q.H) o = _
  rw [findH_ins (h := ⟨o, x, n, 1⟩) hI.hs (findH_none h0), if_pos rfl]
theorem authV_no {q : Ss} {o : Nat} {y : Hd} (h : findH q.H o = some y) (x : List UInt8) (n : Int) : authV q o x n = false := by
  rw [← Bool.not_eq_true, authV_iff]
  rintro ⟨-, -, h2, -⟩
  rw [h] at h2
  cases h2
theorem movV_at {q : Ss} {o : Nat} {y : Hd} (h : findH q.H o = some y) (c : Nat) : movV q o c = (y.t == frS c) := by unfold movV; rw [h]
theorem find_mov {q : Ss} (hI : Inv q) {o c : Nat} {y : Hd} (hf : findH q.H o = some y) (ht : y.t = frS c) : findH (movS q o c).H o = some ⟨y.o, y.n, y.k, toS c⟩ := by
  obtain ⟨hy, rfl⟩ := findH_some hf
  obtain ⟨k, hk, -, -⟩ := hI.kn hy
  rw [movS_yes hf ht hk]
  show findH (setH q.H y.o (toS c)) y.o = _
  rw [findH_set hI.hs hy, if_pos rfl]
/-- The accounts behind two or three calls on one order. -/
theorem mov_K {q : Ss} (hI : Inv q) {o c : Nat} {y : Hd} {k : Kd} (hf : findH q.H o = some y) (ht : y.t = frS c) (hk : findK q.K y.n = some k) : (movS q o c).K = updK q.K (movK k y.k c) ∧ (movS q o c).H = setH q.H o (toS c) := by
  rw [movS_yes hf ht hk]; exact ⟨rfl, rfl⟩
theorem way_auth {q : Ss} (hI : Inv q) {o : Nat} (ho : o < 4294967296) {x : List UInt8} {n : Int} (hv : authV q o x n = true) :
    authV (authS q o x n) o x n = false ∧ movV (authS q o x n) o 2 = false ∧ movV (authS q o x n) o 0 = true ∧ movV (authS q o x n) o 1 = true ∧ tot (authS q o x n).H 2 = tot q.H 2 := by
  have hf := find_auth hI hv
  refine ⟨authV_no hf _ _, by rw [movV_at hf]; rfl, by rw [movV_at hf]; rfl, by rw [movV_at hf]; rfl, ?_⟩
  obtain ⟨-, -, h0, k, hk, -⟩ := authV_iff.1 hv
  rw [authS_yes hv hk]
  show tot (insH ⟨o, k.n, n, 1⟩ q.H) 2 = _
  rw [tot_ins]; simp
theorem over_of {q : Ss} {o : Nat} {y : Hd} (h : findH q.H o = some y) (ht : y.t = 3) (x : List UInt8) (n : Int) : movV q o 0 = false ∧ movV q o 1 = false ∧ movV q o 2 = false ∧ authV q o x n = false :=
  ⟨by rw [movV_at h, ht]; rfl, by rw [movV_at h, ht]; rfl, by rw [movV_at h, ht]; rfl, authV_no h _ _⟩
theorem auth_K {q : Ss} {o : Nat} {x : List UInt8} {n : Int} (hv : authV q o x n = true) : ∃ k, findK q.K x = some k ∧ (authS q o x n).K = updK q.K ⟨k.n, k.m, k.h + n⟩ := by
  obtain ⟨-, -, -, k, hk, -⟩ := authV_iff.1 hv
  exact ⟨k, hk, by rw [authS_yes hv hk]⟩
theorem find_updK {K : List Kd} (hs : KSort K) {k : Kd} {x : List UInt8} (hk : findK K x = some k) (k' : Kd) (hn : k'.n = k.n) : findK (updK K k') x = some k' := by
  obtain ⟨hm, rfl⟩ := findK_some hk
  rw [findK_upd hs, if_pos hn.symm, hk]; rfl
/-- Authorised and let go. -/
theorem way_void {q : Ss} (hI : Inv q) {o : Nat} (ho : o < 4294967296) {x : List UInt8} {n : Int} (hv : authV q o x n = true) :
    (movS (authS q o x n) o 1).K = q.K ∧ tot (movS (authS q o x n) o 1).H 2 = tot q.H 2 ∧ ∃ y, findH (movS (authS q o x n) o 1).H o = some y ∧ y.t = 3 := by
  have hf := find_auth hI hv
  have hI1 := hI.auth ho x n
  obtain ⟨k, hk, e⟩ := auth_K hv
  obtain ⟨hm, rfl⟩ := findK_some hk
  have hk1 : findK (authS q o k.n n).K k.n = some ⟨k.n, k.m, k.h + n⟩ := by rw [e]; exact find_updK hI.ks hk _ rfl
  obtain ⟨e1, e2⟩ := mov_K (c := 1) hI1 hf rfl hk1
  refine ⟨?_, ?_, _, find_mov hI1 hf rfl, rfl⟩
  · rw [e1, e, updK_updK _ _ _ (by rw [movK_n])]
    have : movK ⟨k.n, k.m, k.h + n⟩ n 1 = k := by unfold movK; rw [if_neg (by decide), if_pos rfl]; show (⟨k.n, k.m, k.h + n - n⟩ : Kd) = k; rw [show k.h + n - n = k.h from by omega]
    rw [this, updK_self hI.ks hm]
  · have h2 := tot_set hI1.hs (findH_some hf).1 (toS 1) 2
    rw [e2]
    rw [(way_auth hI ho hv).2.2.2.2] at h2
    simpa [toS] using h2
/-- Authorised and captured. -/
theorem way_capt {q : Ss} (hI : Inv q) {o : Nat} (ho : o < 4294967296) {x : List UInt8} {n : Int} (hv : authV q o x n = true) :
    tot (movS (authS q o x n) o 0).H 2 = tot q.H 2 + n ∧ movV (movS (authS q o x n) o 0) o 0 = false ∧ movV (movS (authS q o x n) o 0) o 1 = false ∧ movV (movS (authS q o x n) o 0) o 2 = true := by
  have hf := find_auth hI hv
  have hI1 := hI.auth ho x n
  obtain ⟨k, hk, e⟩ := auth_K hv
  obtain ⟨hm, rfl⟩ := findK_some hk
  have hk1 : findK (authS q o k.n n).K k.n = some ⟨k.n, k.m, k.h + n⟩ := by rw [e]; exact find_updK hI.ks hk _ rfl
  obtain ⟨e1, e2⟩ := mov_K (c := 0) hI1 hf rfl hk1
  have hf2 := find_mov (c := 0) hI1 hf rfl
  refine ⟨?_, by rw [movV_at hf2]; rfl, by rw [movV_at hf2]; rfl, by rw [movV_at hf2]; rfl⟩
  have h2 := tot_set hI1.hs (findH_some hf).1 (toS 0) 2
  rw [e2]
  rw [(way_auth hI ho hv).2.2.2.2] at h2
  simpa [toS] using h2
/-- .. and refunded. -/
theorem way_back {q : Ss} (hI : Inv q) {o : Nat} (ho : o < 4294967296) {x : List UInt8} {n : Int} (hv : authV q o x n = true) :
    (movS (movS (authS q o x n) o 0) o 2).K = q.K ∧ tot (movS (movS (authS q o x n) o 0) o 2).H 2 = tot q.H 2 ∧ ∃ y, findH (movS (movS (authS q o x n) o 0) o 2).H o = some y ∧ y.t = 3 := by
  have hf := find_auth hI hv
  have hI1 := hI.auth ho x n
  obtain ⟨k, hk, e⟩ := auth_K hv
  obtain ⟨hm, rfl⟩ := findK_some hk
  have hk1 : findK (authS q o k.n n).K k.n = some ⟨k.n, k.m, k.h + n⟩ := by rw [e]; exact find_updK hI.ks hk _ rfl
  obtain ⟨e1, e2⟩ := mov_K (c := 0) hI1 hf rfl hk1
  have hf2 := find_mov (c := 0) hI1 hf rfl
  have hI2 := hI1.mov o (c := 0) (by decide)
  have hk2 : findK (movS (authS q o k.n n) o 0).K k.n = some (movK ⟨k.n, k.m, k.h + n⟩ n 0) := by rw [e1]; exact find_updK hI1.ks hk1 _ (movK_n _ _ _)
  obtain ⟨e3, e4⟩ := mov_K (c := 2) hI2 hf2 rfl hk2
  refine ⟨?_, ?_, _, find_mov hI2 hf2 rfl, rfl⟩
  · rw [e3, e1, updK_updK _ _ _ (by rw [movK_n, movK_n, movK_n]), e, updK_updK _ _ _ (by rw [movK_n, movK_n])]
    have : movK (movK ⟨k.n, k.m, k.h + n⟩ n 0) n 2 = k := by
      unfold movK
      rw [if_neg (by decide), if_neg (by decide), if_pos rfl]
      show (⟨k.n, k.m - n + n, k.h + n - n⟩ : Kd) = k
      rw [show k.h + n - n = k.h from by omega, show k.m - n + n = k.m from by omega]
    rw [this, updK_self hI.ks hm]
  · have h2 := tot_set hI2.hs (findH_some hf2).1 (toS 2) 2
    rw [e4]
    rw [(way_capt hI ho hv).1] at h2
    rw [h2]
    simp [toS]

/-! ### just as much as is there -/
theorem most_more {q : Ss} (hI : Inv q) {x : Kd} (hx : x ∈ q.K) (o : Nat) : authV q o x.n (x.m - x.h + 1) = false := by
  rw [← Bool.not_eq_true, authV_iff]
  rintro ⟨-, -, -, k, hk, h⟩
  rw [hI.ks.find hx] at hk
  injection hk with hk
  subst hk
  omega
theorem most_all {q : Ss} (hI : Inv q) {x : Kd} (hx : x ∈ q.K) {o : Nat} (h0 : o ≠ 0) (hf : findH q.H o = none) : authV q o x.n (x.m - x.h) = decide (x.h < x.m) := by
  by_cases h : x.h < x.m
  · rw [decide_eq_true h, authV_iff]
    exact ⟨h0, by omega, hf, x, hI.ks.find hx, Int.le_refl _⟩
  · rw [decide_eq_false h, ← Bool.not_eq_true, authV_iff]
    rintro ⟨-, h1, -⟩
    omega
/-- Orders in a row from 4000000000 on that have payments are no more than there are payments. -/
theorem filter_le {α : Type} {p q : α → Bool} : ∀ {H : List α}, (∀ h ∈ H, p h = true → q h = true) → (H.filter p).length ≤ (H.filter q).length
  | [], _ => Nat.le_refl _
  | x :: r, h => by
    have ih := filter_le (H := r) fun y hy => h y (List.mem_cons_of_mem _ hy)
    have h0 := h x (List.mem_cons_self ..)
    rw [List.filter_cons, List.filter_cons]
    cases hp : p x
    · simp only [Bool.false_eq_true, if_false]
      split
      · simp; omega
      · exact ih
    · rw [h0 hp]; simpa using ih
theorem filter_more {α : Type} {p q : α → Bool} {y : α} : ∀ {H : List α}, (∀ h ∈ H, p h = true → q h = true) → y ∈ H → q y = true → p y = false → (H.filter p).length + 1 ≤ (H.filter q).length
  | [], _, hy, _, _ => by cases hy
  | x :: r, h, hy, h1, h2 => by
    have hr := fun z hz => h z (List.mem_cons_of_mem x hz)
    have h0 := h x (List.mem_cons_self ..)
    rw [List.filter_cons, List.filter_cons]
    rcases List.mem_cons.1 hy with rfl | hy
    · rw [h1, h2]
      have := filter_le (H := r) hr
      simpa using this
    · have ih := filter_more (H := r) hr hy h1 h2
      cases hp : p x
      · simp only [Bool.false_eq_true, if_false]
        split
        · simp; omega
        · exact ih
      · rw [h0 hp]; simpa using ih
theorem row_filter {H : List Hd} (m : Nat) : ∀ d : Nat, (∀ i, i < d → ∃ y ∈ H, y.o = m + i) → d ≤ (H.filter (fun h => decide (m ≤ h.o ∧ h.o < m + d))).length
  | 0, _ => Nat.zero_le _
  | d + 1, h => by
    have ih := row_filter m d fun i hi => h i (by omega)
    obtain ⟨y, hy, e⟩ := h d (by omega)
    have := filter_more (p := fun h : Hd => decide (m ≤ h.o ∧ h.o < m + d)) (q := fun h : Hd => decide (m ≤ h.o ∧ h.o < m + (d + 1))) (H := H) (fun z _ hz => by simp at hz ⊢; omega) hy (by simp; omega) (by simp; omega)
    omega
theorem row_le {H : List Hd} (m d : Nat) (h : ∀ i, i < d → ∃ y ∈ H, y.o = m + i) : d ≤ H.length := Nat.le_trans (row_filter m d h) (List.length_filter_le _ _)

/-! ### what changes of whom -/
/-- The account that an act is about. -/
def nameOf (q : Ss) (a : Ac) : List UInt8 := if a.t = 0 ∨ a.t = 1 then a.x else match findH q.H a.o with
  | none => a.x
  | some y => y.n
theorem apart_act {q : Ss} (hI : Inv q) (a : Ac) : ∀ (i : Nat) (hi : i < q.K.length) (hi2 : i < (actS q a).K.length), (actS q a).K[i].n = q.K[i].n ∧ ((actS q a).K[i] = q.K[i] ∨ (actV q a = true ∧ q.K[i].n = nameOf q a)) := by
  have hu : ∀ (k' : Kd) (i : Nat) (hi : i < q.K.length) (hi2 : i < (updK q.K k').length), (updK q.K k')[i].n = q.K[i].n ∧ ((updK q.K k')[i] = q.K[i] ∨ q.K[i].n = k'.n) := fun k' i hi hi2 => by
    have e : (updK q.K k')[i] = if q.K[i].n == k'.n then k' else q.K[i] := by simp [updK]
    rw [e]
    by_cases h : q.K[i].n = k'.n
    · rw [if_pos (by simpa using h)]; exact ⟨h.symm, .inr h⟩
    · rw [if_neg (by simpa using h)]; exact ⟨rfl, .inl rfl⟩
  cases hv : actV q a with
  | false => simp only [actS_no hv]; intros; simp
  | true =>
    unfold actV at hv
    unfold actS nameOf
    by_cases h1 : a.t = 0 ∨ a.t = 1
    · simp only [if_pos h1] at hv ⊢
      obtain ⟨-, -, -, k, hk, -⟩ := authV_iff.1 hv
      simp only [authS_yes hv hk]
      intro i hi hi2
      obtain ⟨p1, p2⟩ := hu ⟨k.n, k.m, k.h + a.n⟩ i hi hi2
      exact ⟨p1, p2.imp id fun h => ⟨trivial, h.trans (findK_some hk).2⟩⟩
    · simp only [if_neg h1] at hv ⊢
      obtain ⟨y, hf, ht⟩ := movV_iff.1 hv
      obtain ⟨hy, ho⟩ := findH_some hf
      obtain ⟨k, hk, hm, e⟩ := hI.kn hy
      simp only [movS_yes hf ht hk, hf]
      intro i hi hi2
      obtain ⟨p1, p2⟩ := hu (movK k y.k (wayOf a.t)) i hi hi2
      exact ⟨p1, p2.imp id fun h => ⟨trivial, h.trans ((movK_n _ _ _).trans e)⟩⟩
def lastF (c : Bool) (o : Nat) (a : List UInt8) (h : Hd) : List UInt8 := if c = true ∧ h.o = o then h.n else a
def lastN (c : Bool) (o : Nat) (x : List UInt8) (L : List Hd) : List UInt8 := L.foldl (lastF c o) x
theorem lastN_snoc (c : Bool) (o : Nat) (x : List UInt8) (L : List Hd) (h : Hd) : lastN c o x (L ++ [h]) = lastF c o (lastN c o x L) h := by
  unfold lastN; rw [List.foldl_append]; rfl
theorem last_none {c : Bool} {o : Nat} : ∀ (L : List Hd) (a : List UInt8), (∀ h ∈ L, h.o ≠ o) → L.foldl (lastF c o) a = a
  | [], a, _ => rfl
  | h :: r, a, hn => by
    rw [List.foldl_cons, show lastF c o a h = a from if_neg (fun h' => hn h (List.mem_cons_self ..) h'.2)]
    exact last_none r a fun y hy => hn y (List.mem_cons_of_mem _ hy)
theorem last_no {o : Nat} : ∀ (L : List Hd) (a : List UInt8), L.foldl (lastF false o) a = a
  | [], a => rfl
  | h :: r, a => by rw [List.foldl_cons, show lastF false o a h = a from if_neg (fun h' => by cases h'.1)]; exact last_no r a
theorem last_all {o : Nat} : ∀ (H : List Hd) (a : List UInt8), HSort H → H.foldl (lastF true o) a = match findH H o with | none => a | some y => y.n
  | [], a, _ => rfl
  | h :: r, a, hs => by
    obtain ⟨h1, h2⟩ := List.pairwise_cons.1 hs
    rw [List.foldl_cons]
    by_cases e : h.o = o
    · have hf : findH (h :: r) o = some h := by unfold findH; rw [List.find?_cons, show (h.o == o) = true from by simpa using e]
      rw [hf, last_none r _ (fun y hy => by have := h1 y hy; omega)]
      exact if_pos ⟨rfl, e⟩
    · have hf : findH (h :: r) o = findH r o := by unfold findH; rw [List.find?_cons, show (h.o == o) = false from by simpa using e]
      rw [hf, show lastF true o a h = a from if_neg (fun h' => e h'.2)]
      exact last_all r a h2
theorem last_name {q : Ss} (hI : Inv q) (a : Ac) : lastN (!decide (a.t = 0 ∨ a.t = 1)) a.o a.x q.H = nameOf q a := by
  unfold lastN nameOf
  by_cases h : a.t = 0 ∨ a.t = 1
  · rw [if_pos h, decide_eq_true h]; exact last_no _ _
  · rw [if_neg h, decide_eq_false h]; exact last_all _ _ hI.hs
theorem last_len {c : Bool} {o : Nat} : ∀ (L : List Hd) (a : List UInt8) (N : Nat), a.length ≤ N → (∀ h ∈ L, h.n.length ≤ N) → (L.foldl (lastF c o) a).length ≤ N
  | [], a, N, ha, _ => ha
  | h :: r, a, N, ha, hL => by
    rw [List.foldl_cons]
    refine last_len r _ N ?_ fun y hy => hL y (List.mem_cons_of_mem _ hy)
    unfold lastF
    split
    · exact hL h (List.mem_cons_self ..)
    · exact ha

end Go.Proofs.Ytlgdjmmhdfpfeaa
