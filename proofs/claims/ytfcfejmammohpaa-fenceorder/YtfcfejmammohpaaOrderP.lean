/-
  The lists of FenceOrder: steps of orders in a row, kept in two orders.
-/
import Derived.Test.YtfcfejmammohpaaNRow
import Derived.Test.YtfcfejmammohpaaPutF
namespace Go.Proofs.Ytfcfejmammohpaa
open Go.RowKit
set_option maxRecDepth 100000
set_option linter.unusedVariables false
set_option linter.unusedSimpArgs false

abbrev kO (s : Nat → Int) (i : Nat) : Kp := ⟨1 + i, s i, false, [120], 2, []⟩
theorem kO_lt {s : Nat → Int} (hs : ∀ i, 0 ≤ s i ∧ s i < 16) {a b : Nat} (h : a < b) : (kO s a).k < (kO s b).k := by
  show kn (1 + a) (s a) false < kn (1 + b) (s b) false
  have h1 := hs a
  have h2 := hs b
  unfold kn
  omega
theorem ordT_ok {s : Nat → Int} (hs : ∀ i, 0 ≤ s i ∧ s i < 16) {j : Nat} {φ : Nat → Nat} (hφ : ∀ a b, a < b → b < j → φ a < φ b) (hj : j ≤ 200) : okT j (fun i => kO s (φ i)) := by
  refine ⟨hj, fun i hi => ⟨(vk_iff _).2 ⟨by show 1 ≤ 1 + φ i; omega, (hs _).1, by have := (hs (φ i)).2; show s (φ i) ≤ 15; omega, (by decide : 1 ≤ 255), (by decide : 0 ≤ 255), .inr rfl⟩, fun h0 => kO_lt hs (hφ _ _ (by omega) hi)⟩⟩
theorem ord_pos {s : Nat → Int} (hs : ∀ i, 0 ≤ s i ∧ s i < 16) {j : Nat} {φ : Nat → Nat} {q p : Nat} (hp : p ≤ j) (h1 : ∀ i, i < p → φ i < q) (h2 : ∀ i, p ≤ i → i < j → q < φ i) : pos (fun i => kO s (φ i)) (kO s q).k j = p :=
  pos_eq hp (fun i hi => kO_lt hs (h1 i hi)) (fun i hi hj => Int.le_of_lt (kO_lt hs (h2 i hi hj)))
theorem ord_no {s : Nat → Int} (hs : ∀ i, 0 ≤ s i ∧ s i < 16) {j : Nat} {φ : Nat → Nat} {q p : Nat} (h1 : ∀ i, i < p → φ i < q) (h2 : ∀ i, p ≤ i → i < j → q < φ i) : has j (fun i => kO s (φ i)) (kO s q).k = false := has_not (fun i hi e => by
  by_cases hip : i < p
  · have := kO_lt hs (h1 i hip); have e' : (kO s (φ i)).k = (kO s q).k := e; omega
  · have := kO_lt hs (h2 i (by omega) hi); have e' : (kO s (φ i)).k = (kO s q).k := e; omega)
theorem ord_noU {s : Nat → Int} (hs : ∀ i, 0 ≤ s i ∧ s i < 16) {j : Nat} {φ : Nat → Nat} {q : Nat} : has j (fun i => kO s (φ i)) (kn (1 + q) (s q) true) = false := has_not (fun i hi e => by
  have e' : kn (1 + φ i) (s (φ i)) false = kn (1 + q) (s q) true := e
  have a1 := hs (φ i)
  have a2 := hs q
  have := (kn_inj (by unfold in64; omega) (by unfold in64; omega) e').2.2
  cases this)
theorem ord_keep {s : Nat → Int} (hs : ∀ i, 0 ≤ s i ∧ s i < 16) {j : Nat} {φ : Nat → Nat} (hφ : ∀ a b, a < b → b < j → φ a < φ b) {q p : Nat} (hp : p ≤ j) (h1 : ∀ i, i < p → φ i < q) (h2 : ∀ i, p ≤ i → i < j → q < φ i) {ep : Nat} (hep : ep ≤ 1) (hj : j < 200) : keepE ep j (fun i => kO s (φ i)) (stN 1 (1 + q) (s q) false [120]) 2 [] = 0 := by
  have hask : askS ep j (fun i => kO s (φ i)) (stN 1 (1 + q) (s q) false [120]) = ⟨1, kz, 0⟩ := by
    unfold askS
    rw [if_pos ⟨(okB_iff _ _).2 (ordT_ok hs hφ (by omega)), req_step 1 (1 + q) (s q) false [120] (by decide) (by omega) (hs q).1 (hs q).2 (by decide)⟩]
    rw [if_neg (show ¬ 1 < ep by omega), if_neg (show ¬ has j (fun i => kO s (φ i)) (kO s q).k = true by rw [ord_no hs h1 h2]; decide)]
    have : actN j (fun i => kO s (φ i)) (stN 1 (1 + q) (s q) false [120]) = 1 := by
      unfold actN
      rw [if_neg (fun h => by have h3 : has j (fun i => kO s (φ i)) (kn (1 + q) (s q) true) = true := h.2; rw [ord_noU hs] at h3; cases h3), if_neg (fun h => by cases h.1)]
    rw [this]
  unfold keepE
  rw [hask, if_neg (by simp), if_neg (by intro h; rcases h with h | h; exact absurd h (by decide); exact absurd h (by decide)), if_neg (show ¬ 1 = 2 by decide), if_neg (by omega)]
/-- Keep of one more. -/
theorem keepo_any {s : Nat → Int} (hs : ∀ i, 0 ≤ s i ∧ s i < 16) {j : Nat} {φ : Nat → Nat} (hφ : ∀ a b, a < b → b < j → φ a < φ b) {q p : Nat} (hp : p ≤ j) (h1 : ∀ i, i < p → φ i < q) (h2 : ∀ i, p ≤ i → i < j → q < φ i) (ep : Nat) (hep : ep ≤ 1) (hj : j < 200) (ψ : Nat → Nat) (hψ : ∀ i, i < j + 1 → ins p (kO s q) (fun i => kO s (φ i)) i = kO s (ψ i)) (A : Option Addr) (c : Nat) (Q : Option Addr) (qc : Nat) (w : World) (hF : FV w A j c (fun i => kO s (φ i))) (hN : EntV w (stN 1 (1 + q) (s q) false [120]) none Q 0 qc) :
    Calls Try.prog 26 #[.agg #[.int .u32 (ep : Int), .slice A j c], .agg (nB 1 (1 + q) (s q) false Q 1 qc), .int .i64 2, .slice none 0 0] w fun x w' => ∃ A' c' X', x = .returned (.tuple #[.agg #[.int .u32 1, .slice A' (j + 1) c'], .int .i64 0]) ∧ NF w' w.heap.size (.slice A' (j + 1) c') (j + 1) X' ∧ (∀ i, i < j + 1 → (X' i).k = kO s (ψ i)) ∧ Below w.heap.size w w' := by
  have hE := ord_keep hs hφ hp h1 h2 hep hj
  refine (keep_any ep A j c (fun i => kO s (φ i)) (stN 1 (1 + q) (s q) false [120]) none Q 0 qc 2 none 0 0 [] w hF hN (show in64 (s q) by have := hs q; unfold in64; omega) (by omega) (by unfold in64; decide) (Bys.none_ w) (Nat.le_refl _) (by unfold maxLen; omega) (fun _ => rfl)).mono ?_
  rintro x w' ⟨v, X, rfl, hnf, hx, hb⟩
  have e1 := keepF_new hE
  rw [e1] at hnf hx
  rw [e1, hE]
  dsimp only at *
  obtain ⟨A', c', rfl, -⟩ := hnf.row.slice
  refine ⟨A', c', X, rfl, hnf, fun i hi => (hx i hi).trans ?_, hb⟩
  have hpos : pos (fun i => kO s (φ i)) (kn (1 + q) (s q) false) j = p := ord_pos hs hp h1 h2
  rw [hpos]
  exact hψ i hi
/-- Which step stands at a place when j are kept, beginning with the one at place k of n. -/
def gi (n k j i : Nat) : Nat := if j ≤ n - k then k + i else if i < j - (n - k) then i else k + (i - (j - (n - k)))
theorem gi_mono {n k j : Nat} (hk : k < n) (hj : j ≤ n) : ∀ a b, a < b → b < j → gi n k j a < gi n k j b := fun a b h1 h2 => by
  unfold gi
  by_cases c : j ≤ n - k
  · rw [if_pos c, if_pos c]; omega
  · rw [if_neg c, if_neg c]
    by_cases d : a < j - (n - k)
    · rw [if_pos d]
      by_cases e : b < j - (n - k)
      · rw [if_pos e]; omega
      · rw [if_neg e]; omega
    · rw [if_neg d, if_neg (by omega)]; omega
abbrev gp (n k j : Nat) : Nat := if j < n - k then j else j - (n - k)
theorem gq {n k j : Nat} (hk : k < n) (hj : j < n) : (j + k) % n = if j < n - k then k + j else j - (n - k) := by
  by_cases c : j < n - k
  · rw [if_pos c, Nat.mod_eq_of_lt (by omega)]; omega
  · rw [if_neg c, Nat.mod_eq_sub_mod (by omega), Nat.mod_eq_of_lt (by omega)]; omega
theorem gi_lo {n k j : Nat} (hk : k < n) (hj : j < n) : ∀ i, i < gp n k j → gi n k j i < (j + k) % n := fun i hi => by
  rw [gq hk hj]
  unfold gi
  unfold gp at hi
  by_cases c : j < n - k
  · rw [if_pos c] at hi ⊢; rw [if_pos (by omega)]; omega
  · rw [if_neg c] at hi ⊢
    by_cases d : j ≤ n - k
    · omega
    · rw [if_neg d, if_pos hi]; exact hi
theorem gi_hi {n k j : Nat} (hk : k < n) (hj : j < n) : ∀ i, gp n k j ≤ i → i < j → (j + k) % n < gi n k j i := fun i hi h2 => by
  rw [gq hk hj]
  unfold gi
  unfold gp at hi
  by_cases c : j < n - k
  · rw [if_pos c] at hi; omega
  · rw [if_neg c] at hi ⊢
    by_cases d : j ≤ n - k
    · rw [if_pos d]; omega
    · rw [if_neg d, if_neg (by omega)]; omega
theorem gi_ins {s : Nat → Int} {n k j : Nat} (hk : k < n) (hj : j < n) : ∀ i, i < j + 1 → ins (gp n k j) (kO s ((j + k) % n)) (fun i => kO s (gi n k j i)) i = kO s (gi n k (j + 1) i) := fun i hi => by
  rw [gq hk hj]
  unfold gp
  by_cases c : j < n - k
  · rw [if_pos c, if_pos c]
    have e1 : gi n k (j + 1) i = k + i := by unfold gi; rw [if_pos (by omega)]
    rw [e1]
    by_cases d : i < j
    · rw [ins_lt d]; unfold gi; rw [if_pos (by omega)]
    · obtain rfl : i = j := by omega
      rw [ins_at]
  · rw [if_neg c, if_neg c]
    have e1 : gi n k (j + 1) i = if i < j + 1 - (n - k) then i else k + (i - (j + 1 - (n - k))) := by unfold gi; rw [if_neg (by omega)]
    rw [e1]
    by_cases d : i < j - (n - k)
    · rw [ins_lt d, if_pos (by omega)]; unfold gi; rw [if_neg (by omega), if_pos d]
    · by_cases f : i = j - (n - k)
      · subst f; rw [ins_at, if_pos (by omega)]
      · rw [ins_gt (by omega), if_neg (by omega)]
        unfold gi
        by_cases g : j ≤ n - k
        · rw [if_pos g]; congr 1; omega
        · rw [if_neg g, if_neg (by omega)]; congr 1; omega
theorem gi_end {n k : Nat} (hk : k < n) : ∀ i, i < n → gi n k n i = i := fun i hi => by
  unfold gi
  by_cases c : n ≤ n - k
  · rw [if_pos c]; omega
  · rw [if_neg c]
    by_cases d : i < n - (n - k)
    · rw [if_pos d]
    · rw [if_neg d]; omega
theorem id_ins {s : Nat → Int} {j : Nat} : ∀ i, i < j + 1 → ins j (kO s j) (fun i => kO s i) i = kO s i := fun i hi => by
  by_cases d : i < j
  · rw [ins_lt d]
  · obtain rfl : i = j := by omega
    rw [ins_at]

end Go.Proofs.Ytfcfejmammohpaa
