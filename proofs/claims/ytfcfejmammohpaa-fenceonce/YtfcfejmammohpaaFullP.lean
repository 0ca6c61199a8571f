/-
  Requests that may be; the lists of FenceFull: steps of orders in a row.
-/
import Derived.Test.YtfcfejmammohpaaKnownP
namespace Go.Proofs.Ytfcfejmammohpaa
open Go.RowKit
set_option maxRecDepth 100000
set_option linter.unusedVariables false
set_option linter.unusedSimpArgs false

theorem req_step (ep od : Nat) (st : Int) (un : Bool) (l : List Nat) (h1 : ep ≠ 0) (h2 : od ≠ 0) (h3 : 0 ≤ st) (h4 : st < 16) (h5 : l.length ≤ 255) : reqB (stN ep od st un l) = true := by
  unfold reqB Ent.ok Ent.only Ent.lets Ent.lackK
  rw [(Ent.inB_iff (stN ep od st un l)).2 ⟨h3, h4, (by decide : (0 : Int) ≤ 0), (by decide : (0 : Int) ≤ 255), Nat.zero_le 32, h5⟩]
  simp [Ent.alpha, Ent.fine, Ent.isZ, h1, h2]
/-- Steps of orders in a row. -/
abbrev fT (fi dt : Nat) : Nat → Kp := fun j => ⟨fi + j, 0, false, [120], 1, [dt]⟩
theorem fT_ok {fi dt n : Nat} (h : 1 ≤ fi) (hn : n ≤ 200) : okT n (fT fi dt) := by
  refine ⟨hn, fun i hi => ⟨(vk_iff _).2 ⟨by show 1 ≤ fi + i; omega, (by decide : (0 : Int) ≤ 0), (by decide : (0 : Int) ≤ 15), (by decide : 1 ≤ 255), (by decide : 1 ≤ 255), .inl rfl⟩, fun h0 => ?_⟩⟩
  show kn (fi + (i - 1)) 0 false < kn (fi + i) 0 false
  unfold kn; omega
theorem fT_not {fi dt n q : Nat} (hq : n ≤ q) : has n (fT fi dt) (kn (fi + q) 0 false) = false :=
  has_not (fun i hi => by show kn (fi + i) 0 false ≠ kn (fi + q) 0 false; unfold kn; omega)
theorem fT_notU {fi dt n od : Nat} : has n (fT fi dt) (kn od 0 true) = false :=
  has_not (fun i hi => by
    show kn (fi + i) 0 false ≠ kn od 0 true
    unfold kn
    have h1 : Ent.b2n true = 1 := rfl
    have h2 : Ent.b2n false = 0 := rfl
    omega)
theorem ask_fT {ep fi dt n q : Nat} (hep : ep ≤ 1) (hfi : 1 ≤ fi) (hn : n ≤ 200) (hq : n ≤ q) : askS ep n (fT fi dt) (stN 1 (fi + q) 0 false [120]) = ⟨1, kz, 0⟩ := by
  unfold askS
  rw [if_pos ⟨(okB_iff _ _).2 (fT_ok hfi hn), req_step 1 (fi + q) 0 false [120] (by decide) (by omega) (by decide) (by decide) (by decide)⟩]
  rw [if_neg (show ¬ 1 < ep by omega)]
  rw [if_neg (show ¬ has n (fT fi dt) (kn (fi + q) 0 false) = true by rw [fT_not hq]; decide)]
  have : actN n (fT fi dt) (stN 1 (fi + q) 0 false [120]) = 1 := by
    unfold actN
    rw [if_neg (show ¬ ((stN 1 (fi + q) 0 false [120]).undo = false ∧ has n (fT fi dt) (nk' (stN 1 (fi + q) 0 false [120])) = true) from fun h => by have h2 : has n (fT fi dt) (kn (fi + q) 0 true) = true := h.2; rw [fT_notU] at h2; cases h2), if_neg (fun h => by cases h.1)]
  rw [this]
theorem ask_fT2 {fi dt n q : Nat} (hfi : 1 ≤ fi) (hn : n ≤ 200) (hq : q < n) : askS 1 n (fT fi dt) (stN 1 (fi + q) 0 false [120]) = ⟨2, fT fi dt q, 0⟩ := by
  have hh := has_of (fT_ok (dt := dt) hfi hn) (i := q) (q := kn (fi + q) 0 false) hq rfl
  unfold askS
  rw [if_pos ⟨(okB_iff _ _).2 (fT_ok hfi hn), req_step 1 (fi + q) 0 false [120] (by decide) (by omega) (by decide) (by decide) (by decide)⟩]
  rw [if_neg (show ¬ 1 < 1 by omega)]
  rw [if_pos (show has n (fT fi dt) (kn (fi + q) 0 false) = true from hh.2)]
  rw [show pos (fT fi dt) (nk (stN 1 (fi + q) 0 false [120])) n = q from hh.1]
  rw [if_pos rfl]
theorem keep_fT {ep fi dt n : Nat} (hep : ep ≤ 1) (hfi : 1 ≤ fi) (hn : n ≤ 200) (l : List Nat) (hl : l.length ≤ 255) : keepE ep n (fT fi dt) (stN 1 (fi + n) 0 false [120]) 1 l = if n = 200 then 5 else 0 := by
  unfold keepE
  rw [ask_fT hep hfi hn (Nat.le_refl n)]
  rw [if_neg (by simp), if_neg (by intro h; rcases h with h | h; exact absurd h (by decide); omega), if_neg (show ¬ 1 = 2 by decide)]
theorem keepF_fT {ep fi dt n : Nat} (hep : ep ≤ 1) (hfi : 1 ≤ fi) (hn : n < 200) : (keepF ep n (fT fi dt) (stN 1 (fi + n) 0 false [120]) 1 [dt]).ep = 1 ∧ (keepF ep n (fT fi dt) (stN 1 (fi + n) 0 false [120]) 1 [dt]).n = n + 1 ∧ ∀ i, i < n + 1 → (keepF ep n (fT fi dt) (stN 1 (fi + n) 0 false [120]) 1 [dt]).T i = fT fi dt i := by
  unfold keepF
  rw [keep_fT hep hfi (by omega) [dt] (by simp), if_neg (show ¬ n = 200 by omega), if_pos rfl]
  refine ⟨rfl, rfl, fun i hi => ?_⟩
  have hp : pos (fT fi dt) (nk (stN 1 (fi + n) 0 false [120])) n = n := pos_eq (Nat.le_refl n) (fun k hk => by show kn (fi + k) 0 false < kn (fi + n) 0 false; unfold kn; omega) (fun k h1 h2 => by omega)
  show ins (pos (fT fi dt) (nk (stN 1 (fi + n) 0 false [120])) n) _ (fT fi dt) i = fT fi dt i
  rw [hp]
  unfold ins
  by_cases h : i < n
  · rw [if_pos h]
  · obtain rfl : i = n := by omega
    rw [if_neg h, if_pos rfl]
theorem keepf_any (ep fi dt j : Nat) (A : Option Addr) (c : Nat) (A2 : Option Addr) (c2 : Nat) (A3 : Option Addr) (c3 : Nat) (w : World) (hep : ep ≤ 1) (hj : j < 200) (hfi : 1 ≤ fi) (hF : FV w A j c (fT fi dt)) (hN : EntV w (stN 1 (fi + j) 0 false [120]) none A2 0 c2) (hR : Bys w A3 1 [dt]) (h3 : 1 ≤ c3) (h4 : c3 ≤ maxLen) (h5 : A3 = none → c3 = 0) :
    Calls Try.prog 26 #[.agg #[.int .u32 (ep : Int), .slice A j c], .agg (evs (stN 1 (fi + j) 0 false [120]) (.slice none 0 0) (.slice A2 1 c2)), .int .i64 1, .slice A3 1 c3] w fun x w' => ∃ A c X, x = .returned (.tuple #[.agg #[.int .u32 1, .slice A (j + 1) c], .int .i64 0]) ∧ NF w' w.heap.size (.slice A (j + 1) c) (j + 1) X ∧ (∀ i, i < j + 1 → (X i).k = fT fi dt i) ∧ Below w.heap.size w w' := by
  have h := keep_any ep A j c (fT fi dt) (stN 1 (fi + j) 0 false [120]) none A2 0 c2 1 A3 1 c3 [dt] w hF hN (show in64 0 by unfold in64; decide) (by omega) (by unfold in64; decide) hR h3 h4 h5
  refine h.mono ?_
  rintro x w' ⟨v, X, rfl, hnf, hx, hb⟩
  obtain ⟨e1, e2, e3⟩ := keepF_fT (dt := dt) hep hfi hj
  have e0 := keep_fT (dt := dt) hep hfi (Nat.le_of_lt hj) [dt] (by simp)
  rw [if_neg (by omega)] at e0
  rw [e2] at hnf hx
  obtain ⟨A', c', rfl, -⟩ := hnf.row.slice
  rw [e0, e1]
  exact ⟨A', c', X, rfl, hnf, fun i hi => (hx i hi).trans (e3 i hi), hb⟩
theorem keepx_any (fi dt : Nat) (A : Option Addr) (c : Nat) (A2 : Option Addr) (c2 : Nat) (w : World) (hfi : 1 ≤ fi) (hF : FV w A 200 c (fT fi dt)) (hN : EntV w (stN 1 (fi + 200) 0 false [120]) none A2 0 c2) :
    Calls Try.prog 26 #[.agg #[.int .u32 1, .slice A 200 c], .agg (evs (stN 1 (fi + 200) 0 false [120]) (.slice none 0 0) (.slice A2 1 c2)), .int .i64 1, .slice none 0 0] w fun x w' => ∃ e A n c, x = .returned (.tuple #[.agg #[.int .u32 (e : Nat), .slice A n c], .int .i64 5]) ∧ Below w.heap.size w w' := by
  have h := keep_any 1 A 200 c (fT fi dt) (stN 1 (fi + 200) 0 false [120]) none A2 0 c2 1 none 0 0 [] w hF hN (show in64 0 by unfold in64; decide) (by omega) (by unfold in64; decide) (Bys.none_ w) (Nat.le_refl _) (by unfold maxLen; omega) (fun _ => rfl)
  refine h.mono ?_
  rintro x w' ⟨v, X, rfl, hnf, hx, hb⟩
  have e0 := keep_fT (ep := 1) (dt := dt) (n := 200) (by decide) hfi (by decide) [] (by simp)
  rw [if_pos rfl] at e0
  obtain ⟨A', c', rfl, -⟩ := hnf.row.slice
  rw [e0]
  exact ⟨_, A', _, c', rfl, hb⟩

end Go.Proofs.Ytfcfejmammohpaa
