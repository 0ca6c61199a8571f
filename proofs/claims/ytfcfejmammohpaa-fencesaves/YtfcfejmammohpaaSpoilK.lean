/-
  What is written over: bytes of the call's own, a cell of a kept step of the call's own.
-/
import Derived.Test.YtfcfejmammohpaaSee
namespace Go.Proofs.Ytfcfejmammohpaa
open Go.RowKit
set_option maxRecDepth 100000
set_option linter.unusedVariables false
set_option linter.unusedSimpArgs false

theorem spoil_nil (w : World) : Calls Try.prog 24 #[.slice none 0 0] w fun e w' => e = .returned (.tuple #[]) ∧ w = w' := by
  go_enter Try.func24, Try.ntmps24
  go_wp2_with fail
  go_loopw [2] (fun i wr => i = .int .i64 0 ∧ wr = w) (fun _ _ => 0)
  case atStart => exact ⟨rfl, rfl⟩
  case round =>
    obtain ⟨rfl, rfl⟩ := hrel
    go_wp2
    go_end0
    exact ⟨rfl, rfl⟩
theorem spoil_own (v : Value) (l : List Nat) (B : Nat) (w : World) (hO : Own w B v l) (hl : l.length ≤ 100000) :
    Calls Try.prog 24 #[v] w fun e w' => e = .returned (.tuple #[]) ∧ w.grownBy w' v.ownBlock := by
  rcases hO.form with ⟨rfl, _⟩ | ⟨g, cap, cur, rfl, _⟩
  · exact (spoil_nil w).mono (by rintro e w' ⟨rfl, rfl⟩; exact ⟨rfl, World.grownBy.refl w _⟩)
  · exact spoil_any g l.length cap l B l.length w hO (Nat.le_refl _) hl
/-- One cell of one element is written. -/
theorem OwnK.set1 {w : World} {B b off c : Nat} {n : Nat} {X : Nat → Kx} (h : OwnK w B (.slice (some ⟨b, off, none⟩) n c) n X) (i j0 : Nat) (hi : i < n) (hj0 : j0 < 6) (u : Value) (x : Kx) (hx : ∀ j, (kc x).toList[j]? = if j = j0 then some u else (kc (X i)).toList[j]?) :
    OwnK (w.setCell ⟨b, off + i * 6 + j0, none⟩ u) B (.slice (some ⟨b, off, none⟩) n c) n (fun j => if j = i then x else X j) := by
  refine ⟨kv_length _ _, ?_⟩
  rcases h.2 with ⟨h1, h2⟩ | ⟨g, cap, cur, hv, hb, hg, hn, hm, hs, ht⟩
  · cases h1
  · have hv' := hv
    injection hv with q1 q2 q3
    injection q1 with q1
    injection q1 with q1 q4 _
    subst q1 q4 q3
    rw [Nat.zero_add]
    refine .inr ⟨b, c, _, rfl, hb, Lies.put (t := 34) hg (i * 6 + j0) _, hn, hm, by simpa using hs, ?_⟩
    refine kv_ext (by simp [hs]; omega) (fun k j hk hj => ?_)
    rw [List.getElem?_take, if_pos (by omega), Array.getElem?_toList, Array.getElem?_setIfInBounds]
    by_cases hki : k = i
    · subst hki
      rw [if_pos rfl, hx j]
      by_cases hjj : j = j0
      · rw [if_pos (by omega), if_pos (by omega), if_pos hjj]
      · rw [if_neg (by omega), if_neg hjj, ← kv_at n X k j hk hj, ← ht, List.getElem?_take, if_pos (by omega), Array.getElem?_toList]
    · rw [if_neg (by omega), if_neg hki, ← kv_at n X k j hk hj, ← ht, List.getElem?_take, if_pos (by omega), Array.getElem?_toList]
theorem OwnK.grown5 {w w' : World} {B B' : Nat} {v u : Value} {n : Nat} {X : Nat → Kx} {l : List Nat} (h : OwnK w B v n X) (hO : Own w B' u l) (hg : w.grownBy w' u.ownBlock) : OwnK w' B v n X :=
  h.same (fun k hk => hg.block k (h.blockLt k hk) (fun e => by
    rcases hO.form with ⟨rfl, _⟩ | ⟨g, cap, cur, rfl, _, hL, _⟩
    · cases e
    · exact h.ne hL (by decide) (by rw [hk]; simpa [Value.ownBlock] using e.symm)))
theorem Lies.grown5 {w w' : World} {B' g : Nat} {t : TypeId} {cs : Array Value} {u : Value} {l : List Nat} (h : Lies w g t cs) (ht : t ≠ 5) (hO : Own w B' u l) (hg : w.grownBy w' u.ownBlock) : Lies w' g t cs :=
  h.grown hg (hO.ne h ht)
theorem Own.grownNe {w w' : World} {B B' : Nat} {v u : Value} {l l' : List Nat} (h : Own w B v l) (hg : w.grownBy w' u.ownBlock) (hne : ∀ g, v.ownBlock = some g → u.ownBlock ≠ some g) : Own w' B v l := h.grownOther hg hne
theorem below_grown5 {a w w' : World} {B B' : Nat} {u : Value} {l : List Nat} (h : Below B a w) (hO : Own w B' u l) (hg : w.grownBy w' u.ownBlock) (hB : B ≤ B') (hB2 : B ≤ w.heap.size) : Below B a w' := hO.grows hg h hB hB2

end Go.Proofs.Ytfcfejmammohpaa
