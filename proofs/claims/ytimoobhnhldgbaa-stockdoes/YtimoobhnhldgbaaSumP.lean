/-
  Of each kind those that are free, held and gone are together as many as there were.
-/
import Derived.Test.YtimoobhnhldgbaaGoneP
namespace Go.Proofs.Ytimoobhnhldgbaa
open Go.Proofs Go.RowKit
set_option maxRecDepth 100000
set_option linter.unusedVariables false

/-- Free, gone and held together, by name. -/
def sumL (q : Ss) : List Gd := q.K.map (fun k => ⟨k.n, k.f + k.g + held q.H k.n⟩)
theorem sum_upd {q : Ss} (hI : Inv q) {k k' : Kd} (hm : k ∈ q.K) (hn : k'.n = k.n) (H' : List Hd) (h1 : k'.f + k'.g + held H' k.n = k.f + k.g + held q.H k.n) (h2 : ∀ x, x ≠ k.n → held H' x = held q.H x) : sumL ⟨updK q.K k', H'⟩ = sumL q := by
  unfold sumL updK
  rw [List.map_map]
  refine List.map_congr_left fun y hy => ?_
  simp only [Function.comp]
  by_cases e : y.n = k'.n
  · have ey : y = k := hI.ks.uniq hy hm (e.trans hn)
    subst ey
    rw [if_pos (by simpa using e), hn, h1]
  · rw [if_neg (by simpa using e), h2 y.n (fun h => e (h.trans hn.symm))]
theorem sum_hold {q : Ss} (hI : Inv q) (o : Nat) (x : List UInt8) (n : Int) : sumL (holdS q o x n) = sumL q := by
  cases hv : holdV q o x n
  · rw [holdS_no hv]
  · obtain ⟨-, -, -, k, hk, -⟩ := holdV_iff.1 hv
    obtain ⟨hm, rfl⟩ := findK_some hk
    rw [holdS_yes hv hk]
    refine sum_upd hI (k := k) (k' := ⟨k.n, k.f - n, k.g⟩) hm rfl _ ?_ fun x hx => ?_
    · rw [held_ins]
      dsimp only
      rw [if_pos (by simp)]
      omega
    · rw [held_ins]
      dsimp only
      rw [if_neg (by simpa using fun h => hx h.symm)]
      omega
theorem sum_end {q : Ss} (hI : Inv q) (o : Nat) (b : Bool) : sumL (endS q o b) = sumL q := by
  cases hf : findH q.H o with
  | none => rw [endS_no hf]
  | some h =>
    obtain ⟨hh, rfl⟩ := findH_some hf
    obtain ⟨k, hk, hm, e⟩ := hI.kn hh
    rw [endS_yes hf hk]
    refine sum_upd hI (k := k) (k' := backK k h.k b) hm (backK_n k h.k b) _ ?_ fun x hx => ?_
    · rw [held_del hI.hs hh, e, if_pos (by simp)]
      cases b
      · show k.f + h.k + k.g + _ = _; omega
      · show k.f + (k.g + h.k) + _ = _; omega
    · rw [held_del hI.hs hh, if_neg (by rw [beq_iff_eq]; intro h'; exact hx (h'.symm.trans e.symm))]
      omega
theorem sum_act {q : Ss} (hI : Inv q) (a : Ac) : sumL (actS q a) = sumL q := by
  unfold actS
  split
  · exact sum_hold hI _ _ _
  · split
    · exact sum_end hI _ _
    · exact sum_end hI _ _
theorem actS_no {q : Ss} {a : Ac} (h : actV q a = false) : actS q a = q := by
  unfold actV at h
  unfold actS
  split
  · rename_i h1; rw [if_pos h1] at h; exact holdS_no h
  · rename_i h1
    rw [if_neg h1] at h
    have hf : findH q.H a.o = none := by unfold endV at h; simpa using h
    split
    · exact endS_no hf
    · exact endS_no hf
theorem sum_new {K : List Kd} {l : List Gd} (h : NewK K l) : sumL ⟨K, []⟩ = goodsL K := by
  unfold sumL goodsL
  refine List.map_congr_left fun y hy => ?_
  have := (h.good y hy).2
  show (⟨y.n, y.f + y.g + 0⟩ : Gd) = ⟨y.n, y.f⟩
  rw [this]
  simp
theorem held_snoc (x : List UInt8) (h : Hd) : ∀ L : List Hd, held (L ++ [h]) x = held L x + if h.n == x then h.k else 0
  | [] => by simp [held]
  | y :: r => by rw [List.cons_append]; simp only [held, held_snoc x h r]; omega
theorem held_take_le {H : List Hd} (hk : ∀ y ∈ H, 1 ≤ y.k) (x : List UInt8) (i : Nat) : 0 ≤ held (H.take i) x ∧ held (H.take i) x ≤ held H x := by
  refine ⟨held_nonneg (fun y hy => hk y (List.mem_of_mem_take hy)) x, ?_⟩
  induction H generalizing i with
  | nil => simp [held]
  | cons y r ih =>
    cases i with
    | zero => rw [List.take_zero]; exact held_nonneg hk x
    | succ i =>
      rw [List.take_succ_cons]
      simp only [held]
      have := ih (fun z hz => hk z (List.mem_cons_of_mem _ hz)) i
      omega
theorem goneN_at {q : Ss} (hI : Inv q) {k : Kd} (hk : k ∈ q.K) : goneN q.K k.n = k.g := by
  unfold goneN; rw [hI.ks.find hk]; rfl
/-- What stands at one place of the kinds. -/
theorem sum_at {q : Ss} (hI : Inv q) {L : List Gd} (h : sumL q = L) (i : Nat) (hi : i < q.K.length) (hL : i < L.length) : L[i] = ⟨q.K[i].n, q.K[i].f + q.K[i].g + held q.H q.K[i].n⟩ := by
  subst h
  simp [sumL]
theorem sum_len {q : Ss} {L : List Gd} (h : sumL q = L) : q.K.length = L.length := by rw [← h]; simp [sumL]
theorem goods_len (K : List Kd) : (goodsL K).length = K.length := by simp [goodsL]
theorem goods_at (K : List Kd) (i : Nat) (hi : i < K.length) (h : i < (goodsL K).length) : (goodsL K)[i] = ⟨K[i].n, K[i].f⟩ := by simp [goodsL]

end Go.Proofs.Ytimoobhnhldgbaa
