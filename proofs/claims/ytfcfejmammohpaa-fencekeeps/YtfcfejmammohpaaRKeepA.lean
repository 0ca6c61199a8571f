/-
  The document's Keep, all acts; what a list keeps when a block of bytes below it is written over.
-/
import Derived.Test.YtfcfejmammohpaaRKeep
import Derived.Test.YtfcfejmammohpaaRKeep3
import Derived.Test.YtfcfejmammohpaaRKeep4
import Derived.Test.YtfcfejmammohpaaSpoilK
namespace Go.Proofs.Ytfcfejmammohpaa
open Go.RowKit
set_option maxRecDepth 100000
set_option linter.unusedVariables false
set_option linter.unusedSimpArgs false

theorem act_three {ep n : Nat} {T : Nat → Kp} {N : Note} {code : Int} {reply : List Nat} (h : keepE ep n T N code reply = 0) : (askS ep n T N).act = 1 ∨ (askS ep n T N).act = 3 ∨ (askS ep n T N).act = 4 := by
  obtain ⟨he, _, _, h2, _, hno⟩ := keep_ok h
  obtain ⟨q1, q2⟩ := ask_ok he
  unfold askS at he ⊢
  rw [if_pos ⟨q1, q2⟩] at he ⊢
  by_cases q3 : N.epoch < ep
  · rw [if_pos q3] at he; cases he
  · rw [if_neg q3, if_neg (by rw [hno]; decide)]
    show actN n T N = 1 ∨ actN n T N = 3 ∨ actN n T N = 4
    unfold actN
    by_cases c1 : N.undo = false ∧ has n T (nk' N) = true
    · rw [if_pos c1]; exact .inr (.inl rfl)
    · rw [if_neg c1]
      by_cases c2 : N.undo = true ∧ (has n T (nk' N) = false ∨ (T (pos T (nk' N) n)).c = 2)
      · rw [if_pos c2]; exact .inr (.inr rfl)
      · rw [if_neg c2]; exact .inl rfl
theorem rkeep_any (ep : Nat) (A : Option Addr) (n c : Nat) (T : Nat → Kp) (N : Note) (A1 A2 : Option Addr) (c1 c2 : Nat) (code : Int) (A3 : Option Addr) (n3 c3 : Nat) (reply : List Nat) (w : World)
    (hF : FV w A n c T) (hN : EntV w N A1 A2 c1 c2) (hs : in64 N.step) (hep : ep < 4294967296) (hcode : in64 code) (hR : Bys w A3 n3 reply) (hR4 : A3 = none → c3 = 0) :
    Calls Try.prog 27 #[.agg #[.int .u32 (ep : Int), .slice A n c], .agg (evs N (.slice A1 N.key.length c1) (.slice A2 N.data.length c2)), .int .i64 code, .slice A3 n3 c3] w (FencePost w (keepE ep n T N code reply) (keepF ep n T N code reply)) := by
  by_cases hE : keepE ep n T N code reply = 0
  · rcases act_three hE with h | h | h
    · exact rkeep_1 ep A n c T N A1 A2 c1 c2 code A3 n3 c3 reply w hF hN hs hep hcode hR hR4 hE h
    · exact rkeep_3 ep A n c T N A1 A2 c1 c2 code A3 n3 c3 reply w hF hN hs hep hcode hR hR4 hE h
    · exact rkeep_4 ep A n c T N A1 A2 c1 c2 code A3 n3 c3 reply w hF hN hs hep hcode hR hR4 hE h
  · exact rkeep_err ep A n c T N A1 A2 c1 c2 code A3 n3 c3 reply w hF hN hs hep hcode hR hR4 hE
theorem keep_small {ep n : Nat} {T : Nat → Kp} {N : Note} {code : Int} {reply : List Nat} (h : ∀ i, i < n → (T i).a.length ≤ 40000) (hd : N.data.length ≤ 40000) :
    (keepF ep n T N code reply).n ≤ n + 1 ∧ ∀ i, i < (keepF ep n T N code reply).n → ((keepF ep n T N code reply).T i).a.length ≤ 40000 := by
  unfold keepF
  split
  · refine ⟨Nat.le_refl _, fun i hi => ?_⟩
    show (ins _ _ T i).a.length ≤ 40000
    unfold ins
    have hp : pos T (nk N) n ≤ n := pos_le _ _ _
    have hi' : i < n + 1 := hi
    split
    · exact h i (by omega)
    · split
      · exact hd
      · exact h (i - 1) (by omega)
  · exact ⟨Nat.zero_le _, fun i hi => absurd hi (Nat.not_lt_zero i)⟩
theorem OwnK.grownLow {w w' : World} {B g : Nat} {v : Value} {n : Nat} {X : Nat → Kx} (h : OwnK w B v n X) (hg : w.grownBy w' (some g)) (hl : g < B) : OwnK w' B v n X :=
  h.same (fun k hk => hg.block k (h.blockLt k hk) (fun e => by have := h.block k hk; injection e with e; omega))
theorem Own.grownLow {w w' : World} {B g : Nat} {v : Value} {l : List Nat} (h : Own w B v l) (hg : w.grownBy w' (some g)) (hl : g < B) : Own w' B v l :=
  h.grownOther hg (fun k hk e => by have := h.block k hk; injection e with e; omega)
theorem NF.grownLow {w w' : World} {B g : Nat} {v : Value} {n : Nat} {X : Nat → Kx} (h : NF w B v n X) (hg : w.grownBy w' (some g)) (hl : g < B) : NF w' B v n X :=
  ⟨h.row.grownLow hg hl, fun i hi => (h.a i hi).grownLow hg hl, fun i hi => (h.r i hi).grownLow hg hl, h.b, h.da, h.dr⟩
theorem Lies.grownOne {w w' : World} {g p : Nat} {t : TypeId} {cs : Array Value} (h : Lies w p t cs) (hg : w.grownBy w' (some g)) (hne : p ≠ g) : Lies w' p t cs := h.grown hg (fun e => hne (by injection e))
theorem below_grownOne {a w w' : World} {B g : Nat} (h : Below B a w) (hg : w.grownBy w' (some g)) (h2 : B ≤ w.heap.size) (hl : B ≤ g) : Below B a w' := h.grown hg h2 (fun k hk => by injection hk with hk; omega)

end Go.Proofs.Ytfcfejmammohpaa
