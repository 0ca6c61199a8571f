/-
  Fences as bytes, and back: mathematics alone.
-/
import Derived.Test.YtfcfejmammohpaaPutK
namespace Go.Proofs.Ytfcfejmammohpaa
open Go.RowKit
set_option maxRecDepth 100000
set_option linter.unusedVariables false
set_option linter.unusedSimpArgs false

/-- What is read of a kept step; f: how the byte of its undo is taken. -/
def rdK (f : Nat → Bool) (l : List Nat) (s : Ent.St) : Kp × Ent.St :=
  (⟨(Ent.rnum l 4 s).1, ((Ent.rnum l 1 (Ent.rnum l 4 s).2).1 : Nat), f (Ent.rnum l 1 (Ent.rnum l 1 (Ent.rnum l 4 s).2).2).1,
    (Ent.rtxt l (Ent.rnum l 1 (Ent.rnum l 1 (Ent.rnum l 1 (Ent.rnum l 4 s).2).2).2).2).1, ((Ent.rnum l 1 (Ent.rnum l 1 (Ent.rnum l 1 (Ent.rnum l 4 s).2).2).2).1 : Nat),
    (Ent.rtxt l (Ent.rtxt l (Ent.rnum l 1 (Ent.rnum l 1 (Ent.rnum l 1 (Ent.rnum l 4 s).2).2).2).2).2).1⟩,
   (Ent.rtxt l (Ent.rtxt l (Ent.rnum l 1 (Ent.rnum l 1 (Ent.rnum l 1 (Ent.rnum l 4 s).2).2).2).2).2).2)
/-- The reader's place behind j of them. -/
def rdSt (f : Nat → Bool) (l : List Nat) (s : Ent.St) : Nat → Ent.St
  | 0 => s
  | j + 1 => (rdK f l (rdSt f l s j)).2
def rdE (f : Nat → Bool) (l : List Nat) (s : Ent.St) (j : Nat) : Kp := (rdK f l (rdSt f l s j)).1
theorem rdSt_next (f : Nat → Bool) (l : List Nat) (s : Ent.St) : ∀ j, rdSt f l s (j + 1) = rdSt f l (rdK f l s).2 j
  | 0 => rfl
  | j + 1 => by
    show (rdK f l (rdSt f l s (j + 1))).2 = (rdK f l (rdSt f l (rdK f l s).2 j)).2
    rw [rdSt_next f l s j]
theorem rdE_next (f : Nat → Bool) (l : List Nat) (s : Ent.St) (j : Nat) : rdE f l s (j + 1) = rdE f l (rdK f l s).2 j := by
  unfold rdE
  rw [rdSt_next]
theorem encL_front (n : Nat) (T : Nat → Kp) : encL (n + 1) T = encK (T 0) ++ encL n (fun i => T (i + 1)) := by
  unfold encL
  rw [List.range_succ_eq_map, List.flatMap_cons, List.flatMap_map]
theorem at_K {l r : List Nat} {s : Ent.St} (f : Nat → Bool) (h0 : f 0 = false) (h1 : f 1 = true) (k : Kp) (hv : vk k = true) (ho : k.o < 4294967296) (h : Ent.At l s (encK k ++ r)) : ∃ s', rdK f l s = (k, s') ∧ Ent.At l s' r := by
  have hv := (vk_iff k).1 hv
  unfold encK at h
  simp only [List.append_assoc] at h
  obtain ⟨s1, e1, k1⟩ := Ent.At.num 4 k.o h (by omega)
  obtain ⟨s2, e2, k2⟩ := Ent.At.num 1 k.s.toNat k1 (by omega)
  obtain ⟨s3, e3, k3⟩ := Ent.At.num 1 (Ent.b2n k.u) k2 (by have := b2n_le k.u; omega)
  obtain ⟨s4, e4, k4⟩ := Ent.At.num 1 k.c.toNat k3 (by omega)
  obtain ⟨s5, e5, k5⟩ := Ent.At.txt (t := k.a) k4 (by omega)
  obtain ⟨s6, e6, k6⟩ := Ent.At.txt (t := k.r) k5 (by omega)
  have hu : f (Ent.b2n k.u) = k.u := by unfold Ent.b2n; cases k.u; exact h0; exact h1
  refine ⟨s6, ?_, k6⟩
  unfold rdK
  rw [e1]; dsimp only
  rw [e2]; dsimp only
  rw [e3]; dsimp only
  rw [e4]; dsimp only
  rw [e5]; dsimp only
  rw [e6]; dsimp only
  rw [hu]
  obtain ⟨o, st, u, a, c, r'⟩ := k
  dsimp only at *
  rw [Int.toNat_of_nonneg (by omega), Int.toNat_of_nonneg (by omega)]
theorem at_L {l r : List Nat} (f : Nat → Bool) (h0 : f 0 = false) (h1 : f 1 = true) : ∀ (n : Nat) (T : Nat → Kp) (s : Ent.St), (∀ i, i < n → vk (T i) = true ∧ (T i).o < 4294967296) → Ent.At l s (encL n T ++ r) → ∀ i, i < n → rdE f l s i = T i
  | 0, T, s, hT, h, i, hi => by omega
  | n + 1, T, s, hT, h, i, hi => by
    rw [encL_front, List.append_assoc] at h
    obtain ⟨s', e, k⟩ := at_K f h0 h1 (T 0) (hT 0 (by omega)).1 (hT 0 (by omega)).2 h
    cases i with
    | zero => show (rdK f l s).1 = T 0; rw [e]
    | succ i =>
      rw [rdE_next, e]
      exact at_L f h0 h1 n (fun i => T (i + 1)) s' (fun i hi => hT (i + 1) (by omega)) k i (by omega)
/-- The epoch, the number, the place behind them. -/
abbrev rEp (l : List Nat) : Nat := (Ent.rnum l 4 (0, false)).1
abbrev rN (l : List Nat) : Nat := (Ent.rnum l 1 (Ent.rnum l 4 (0, false)).2).1
abbrev rS (l : List Nat) : Ent.St := (Ent.rnum l 1 (Ent.rnum l 4 (0, false)).2).2
/-- What was put is read. -/
theorem rd_put (f : Nat → Bool) (h0 : f 0 = false) (h1 : f 1 = true) (ep n : Nat) (T : Nat → Kp) (hep : ep < 4294967296) (hn : n ≤ 200) (hT : ∀ i, i < n → vk (T i) = true ∧ (T i).o < 4294967296) :
    rEp (putS ep n T) = ep ∧ rN (putS ep n T) = n ∧ ∀ i, i < n → rdE f (putS ep n T) (rS (putS ep n T)) i = T i := by
  have hA : Ent.At (putS ep n T) (0, false) (Ent.be 4 ep ++ (Ent.be 1 n ++ (encL n T ++ []))) := ⟨rfl, by show List.drop 0 _ = _; rw [List.drop_zero]; unfold putS; simp only [List.append_assoc, List.append_nil], Nat.zero_le _⟩
  generalize putS ep n T = l at *
  obtain ⟨s1, e1, k1⟩ := Ent.At.num 4 ep hA (by omega)
  obtain ⟨s2, e2, k2⟩ := Ent.At.num 1 n k1 (by omega)
  have q1 : rEp l = ep := by unfold rEp; rw [e1]
  have q2 : rN l = n := by unfold rN; rw [e1]; dsimp only; rw [e2]
  have q3 : rS l = s2 := by unfold rS; rw [e1]; dsimp only; rw [e2]
  refine ⟨q1, q2, ?_⟩
  rw [q3]
  exact at_L f h0 h1 n T s2 hT k2
/-- Bytes are those of a fence. -/
def isF (f : Nat → Bool) (l : List Nat) : Prop := okB (rN l) (rdE f l (rS l)) = true ∧ putS (rEp l) (rN l) (rdE f l (rS l)) = l
theorem rdK_o (f : Nat → Bool) (l : List Nat) (hl : ∀ c ∈ l, c < 256) (s : Ent.St) : (rdK f l s).1.o < 4294967296 := by
  have := Ent.rnum_lt l hl 4 s
  show (Ent.rnum l 4 s).1 < 4294967296
  omega
theorem isF_two {f g : Nat → Bool} (f0 : f 0 = false) (f1 : f 1 = true) (g0 : g 0 = false) (g1 : g 1 = true) {l : List Nat} (hl : ∀ c ∈ l, c < 256) (h : isF f l) : (∀ i, i < rN l → rdE g l (rS l) i = rdE f l (rS l) i) ∧ isF g l := by
  obtain ⟨h1, h2⟩ := h
  have hk := (okB_iff _ _).1 h1
  have hep : rEp l < 4294967296 := by have := Ent.rnum_lt l hl 4 (0, false); show (Ent.rnum l 4 (0, false)).1 < _; omega
  have hr := (rd_put g g0 g1 (rEp l) (rN l) (rdE f l (rS l)) hep hk.1 (fun i hi => ⟨(hk.2 i hi).1, rdK_o f l hl _⟩)).2.2
  rw [h2] at hr
  refine ⟨hr, ?_⟩
  have he : encL (rN l) (rdE g l (rS l)) = encL (rN l) (rdE f l (rS l)) := encL_congr hr
  refine ⟨(okB_iff _ _).2 (hk.congr (fun i hi => (hr i hi).symm)), ?_⟩
  unfold putS at h2 ⊢
  rw [he]
  exact h2
/-- What was put is a fence's. -/
theorem isF_put {f : Nat → Bool} (f0 : f 0 = false) (f1 : f 1 = true) {ep n : Nat} {T : Nat → Kp} (hep : ep < 4294967296) (hk : okB n T = true) (ho : ∀ i, i < n → (T i).o < 4294967296) : isF f (putS ep n T) := by
  have hk' := (okB_iff _ _).1 hk
  obtain ⟨q1, q2, q3⟩ := rd_put f f0 f1 ep n T hep hk'.1 (fun i hi => ⟨(hk'.2 i hi).1, ho i hi⟩)
  unfold isF
  rw [q1, q2]
  refine ⟨(okB_iff _ _).2 (hk'.congr (fun i hi => (q3 i hi).symm)), ?_⟩
  unfold putS
  rw [encL_congr (T' := T) (fun i hi => by have := q3 i hi; unfold putS at this; exact this)]

end Go.Proofs.Ytfcfejmammohpaa
