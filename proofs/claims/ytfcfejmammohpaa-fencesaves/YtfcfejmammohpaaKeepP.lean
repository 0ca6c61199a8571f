/-
  The contract of mayAnswer; a list with one element more.
-/
import Derived.Test.YtfcfejmammohpaaInsertK
import Derived.Test.YtfcfejmammohpaaAsk
namespace Go.Proofs.Ytfcfejmammohpaa
open Go.RowKit
set_option maxRecDepth 100000
set_option linter.unusedVariables false
set_option linter.unusedSimpArgs false

theorem mayAnswer_any (act : Nat) (code : Int) (w : World) : Calls Try.prog 49 #[.int .i64 (act : Int), .int .i64 code] w fun e w' => e = .returned (.bool (mayB act code)) ∧ w = w' := by
  have C := Lib.hid (fun W => isVerdict_any code W)
  by_cases h3 : act = 3
  · subst h3
    have hm : mayB 3 code = (code == 2) := by unfold mayB; rw [if_pos rfl]; rw [Bool.eq_iff_iff]; simp
    rw [hm, show ((3 : Nat) : Int) = 3 from rfl]
    clear hm
    go_enter Try.func49, Try.ntmps49
    go_wp2
    go_ret
    exact ⟨rfl, rfl⟩
  · by_cases h4 : act = 4
    · subst h4
      have hm : mayB 4 code = (code == 1) := by unfold mayB; rw [if_neg (by decide), if_pos rfl]; rw [Bool.eq_iff_iff]; simp
      rw [hm, show ((4 : Nat) : Int) = 4 from rfl]
      clear hm
      go_enter Try.func49, Try.ntmps49
      go_wp2
      go_ret
      exact ⟨rfl, rfl⟩
    · have d3 : ((act : Int) == 3) = false := by simp; omega
      have d4 : ((act : Int) == 4) = false := by simp; omega
      have hm : mayB act code = decide (code = 1 ∨ code = 2) := by unfold mayB; rw [if_neg h3, if_neg h4]
      rw [hm]
      generalize decide (code = 1 ∨ code = 2) = q at *
      clear hm h3 h4
      go_enter Try.func49, Try.ntmps49
      go_wp2_with fail
      with_reducible refine (C.out _).mono ?_
      rintro e w1 ⟨rfl, rfl⟩
      go_wp2
      go_ret
      exact ⟨rfl, rfl⟩

theorem insX_lt {m j : Nat} {x : Kx} {X : Nat → Kx} (h : j < m) : insX m x X j = X j := by unfold insX; rw [if_pos h]
theorem insX_eq {m : Nat} {x : Kx} {X : Nat → Kx} : insX m x X m = x := by unfold insX; rw [if_neg (by omega), if_pos rfl]
theorem insX_gt {m j : Nat} {x : Kx} {X : Nat → Kx} (h : m < j) : insX m x X j = X (j - 1) := by unfold insX; rw [if_neg (by omega), if_neg (by omega)]
/-- What holds of all, holds of the list with one more. -/
theorem insX_all {P : Kx → Prop} {m n : Nat} {x : Kx} {X : Nat → Kx} (hm : m ≤ n) (hX : ∀ i, i < n → P (X i)) (hx : P x) : ∀ i, i < n + 1 → P (insX m x X i) := by
  intro i hi
  by_cases h : i < m
  · rw [insX_lt h]; exact hX i (by omega)
  · by_cases h2 : i = m
    · rw [h2, insX_eq]; exact hx
    · rw [insX_gt (by omega)]; exact hX (i - 1) (by omega)
theorem insX_two {P : Kx → Kx → Prop} {m n : Nat} {x : Kx} {X : Nat → Kx} (hm : m ≤ n) (hX : ∀ i j, i < n → j < i → P (X j) (X i)) (h1 : ∀ i, i < n → P (X i) x) (h2 : ∀ i, i < n → P x (X i)) : ∀ i j, i < n + 1 → j < i → P (insX m x X j) (insX m x X i) := by
  intro i j hi hj
  by_cases h : i < m
  · rw [insX_lt h, insX_lt (show j < m by omega)]; exact hX i j (by omega) hj
  · by_cases e : i = m
    · rw [e, insX_eq, insX_lt (show j < m by omega)]; exact h1 j (by omega)
    · rw [insX_gt (show m < i by omega)]
      by_cases k : j < m
      · rw [insX_lt k]; exact hX (i - 1) j (by omega) (by omega)
      · by_cases k2 : j = m
        · rw [k2, insX_eq]; exact h2 (i - 1) (by omega)
        · rw [insX_gt (show m < j by omega)]; exact hX (i - 1) (j - 1) (by omega) (by omega)
theorem NF.insert {w : World} {B : Nat} {v' : Value} {n m : Nat} {Y : Nat → Kx} {y : Kx} (hm : m ≤ n) (row : OwnK w B v' (n + 1) (insX m y Y))
    (ha : ∀ i, i < n → Own w B (Y i).K (Y i).k.a) (hr : ∀ i, i < n → Own w B (Y i).D (Y i).k.r) (hb : ∀ i, i < n → (Y i).k.o < 4294967296 ∧ in64 (Y i).k.s ∧ in64 (Y i).k.c)
    (da : ∀ i j, i < n → j < i → ∀ g, (Y j).K.ownBlock = some g → (Y i).K.ownBlock ≠ some g) (dr : ∀ i j, i < n → j < i → ∀ g, (Y j).D.ownBlock = some g → (Y i).D.ownBlock ≠ some g)
    (ya : Own w B y.K y.k.a) (yr : Own w B y.D y.k.r) (yb : y.k.o < 4294967296 ∧ in64 y.k.s ∧ in64 y.k.c)
    (fa : ∀ i, i < n → ∀ g, (Y i).K.ownBlock = some g → y.K.ownBlock ≠ some g) (fr : ∀ i, i < n → ∀ g, (Y i).D.ownBlock = some g → y.D.ownBlock ≠ some g) : NF w B v' (n + 1) (insX m y Y) :=
  ⟨row, insX_all (P := fun x => Own w B x.K x.k.a) hm ha ya, insX_all (P := fun x => Own w B x.D x.k.r) hm hr yr, insX_all (P := fun x => x.k.o < 4294967296 ∧ in64 x.k.s ∧ in64 x.k.c) hm hb yb,
    insX_two (P := fun a b => ∀ g, a.K.ownBlock = some g → b.K.ownBlock ≠ some g) hm da fa (fun i hi g h1 h2 => fa i hi g h2 h1),
    insX_two (P := fun a b => ∀ g, a.D.ownBlock = some g → b.D.ownBlock ≠ some g) hm dr fr (fun i hi g h1 h2 => fr i hi g h2 h1)⟩
/-- What Keep answers. -/
def FencePost (w : World) (E : Nat) (F : Fc) (x : Ending) (w' : World) : Prop :=
  ∃ v X, x = .returned (.tuple #[.agg #[.int .u32 (F.ep : Int), v], .int .i64 (E : Int)]) ∧ NF w' w.heap.size v F.n X ∧ (∀ i, i < F.n → (X i).k = F.T i) ∧ Below w.heap.size w w'
theorem Lies.grownK {w w' : World} {B g n : Nat} {t : TypeId} {cs : Array Value} {v : Value} {X : Nat → Kx} (h : Lies w g t cs) (hr : OwnK w B v n X) (hg : w.grownBy w' v.ownBlock) (hgB : g < B) : Lies w' g t cs :=
  h.grown hg (fun e => by have := hr.block g e.symm; omega)
theorem req_small {N : Note} (h : reqB N = true) : N.data.length ≤ 255 ∧ N.kind = 7 ∧ 0 ≤ N.step ∧ N.step < 16 := by
  unfold reqB at h
  simp only [Bool.and_eq_true, decide_eq_true_eq] at h
  have h2 := h.2.1
  unfold Ent.ok at h2
  simp only [Bool.and_eq_true] at h2
  have := (Ent.inB_iff N).1 h2.2.2.1
  exact ⟨this.2.2.2.2.2, h.1, this.1, this.2.1⟩
theorem ask_ok {ep n : Nat} {T : Nat → Kp} {N : Note} (h : (askS ep n T N).e = 0) : okB n T = true ∧ reqB N = true := by
  unfold askS at h
  by_cases c : okB n T = true ∧ reqB N = true
  · exact c
  · rw [if_neg c] at h; cases h

end Go.Proofs.Ytfcfejmammohpaa
