/-
  The contracts of sameGoods and sameHolds where both are the same.
-/
import Derived.Test.YtlgdjmmhdfpfeaaInA
import Derived.Test.YtlgdjmmhdfpfeaaSortE
import Derived.Laws.StructEq
namespace Go.Proofs.Ytlgdjmmhdfpfeaa
open Go.Proofs Go.RowKit
set_option maxRecDepth 100000
set_option linter.unusedVariables false
set_option linter.unusedSimpArgs false

/-- A slice of n holds that reads as l. -/
def Hin (w : World) (A : Option Addr) (n : Nat) (l : List Hd) : Prop :=
  l.length = n ∧ (0 < n → ∃ b off, A = some ⟨b, off, none⟩ ∧ b < w.heap.size ∧ ∀ (i : Nat) (hi : i < l.length), w.cell? ⟨b, off + i * 4, none⟩ = some (.int .u32 (l[i].o : Int)) ∧ w.cell? ⟨b, off + i * 4 + 1, none⟩ = some (encStr l[i].n) ∧ w.cell? ⟨b, off + i * 4 + 2, none⟩ = some (.int .i64 l[i].k) ∧ w.cell? ⟨b, off + i * 4 + 3, none⟩ = some (.int .i64 (l[i].t : Int)))
theorem Hin.below {w w' : World} {A : Option Addr} {n : Nat} {l : List Hd} (h : Hin w A n l) (hb : Below w.heap.size w w') : Hin w' A n l := by
  obtain ⟨h1, h2⟩ := h
  refine ⟨h1, fun h0 => ?_⟩
  obtain ⟨b, off, e, hlt, hc⟩ := h2 h0
  refine ⟨b, off, e, Nat.lt_of_lt_of_le hlt hb.size, fun i hi => ?_⟩
  obtain ⟨c1, c2, c3, c4⟩ := hc i hi
  exact ⟨by rw [hb.cell (p := ⟨b, off + i * 4, none⟩) hlt]; exact c1, by rw [hb.cell (p := ⟨b, off + i * 4 + 1, none⟩) hlt]; exact c2, by rw [hb.cell (p := ⟨b, off + i * 4 + 2, none⟩) hlt]; exact c3, by rw [hb.cell (p := ⟨b, off + i * 4 + 3, none⟩) hlt]; exact c4⟩
theorem OwnE.gin {w : World} {B : Nat} {v : Value} {l : List Kd} (h : OwnG w B v l) : ∃ A c, v = .slice A l.length c ∧ Gin w A l.length l ∧ l.length ≤ c ∧ c ≤ maxLen := by
  rcases h.form with ⟨rfl, rfl⟩ | ⟨g, cap, cur, rfl, h1, h2, h3, h4, h5, h6⟩
  · exact ⟨none, 0, rfl, ⟨rfl, fun h => absurd h (by simp)⟩, Nat.le_refl _, by unfold maxLen; omega⟩
  · have hc := OwnE.cell (A := some ⟨g, 0, none⟩) (n := l.length) (c := cap) h encG_len
    refine ⟨_, cap, rfl, ⟨rfl, fun h0 => ⟨g, 0, rfl, h2.lt, fun i hi => ?_⟩⟩, h3, h4⟩
    obtain ⟨g', e1, -, -, e2⟩ := hc.2.2.2.2 i hi
    injection e1 with e1
    injection e1 with e1
    subst e1
    have q0 := (e2 0 (by decide)).1
    have q1 := (e2 1 (by decide)).1
    have q2 := (e2 2 (by decide)).1
    rw [Nat.zero_add]
    exact ⟨q0, q1, q2⟩
theorem OwnE.hin {w : World} {B : Nat} {v : Value} {l : List Hd} (h : OwnR w B v l) : ∃ A c, v = .slice A l.length c ∧ Hin w A l.length l ∧ l.length ≤ c ∧ c ≤ maxLen := by
  rcases h.form with ⟨rfl, rfl⟩ | ⟨g, cap, cur, rfl, h1, h2, h3, h4, h5, h6⟩
  · exact ⟨none, 0, rfl, ⟨rfl, fun h => absurd h (by simp)⟩, Nat.le_refl _, by unfold maxLen; omega⟩
  · have hc := OwnE.cell (A := some ⟨g, 0, none⟩) (n := l.length) (c := cap) h encH_len
    refine ⟨_, cap, rfl, ⟨rfl, fun h0 => ⟨g, 0, rfl, h2.lt, fun i hi => ?_⟩⟩, h3, h4⟩
    obtain ⟨g', e1, -, -, e2⟩ := hc.2.2.2.2 i hi
    injection e1 with e1
    injection e1 with e1
    subst e1
    have q0 := (e2 0 (by decide)).1
    have q1 := (e2 1 (by decide)).1
    have q2 := (e2 2 (by decide)).1
    have q3 := (e2 3 (by decide)).1
    rw [Nat.zero_add]
    exact ⟨q0, q1, q2, q3⟩

instance : DecidableEq Kd := fun a b => decidable_of_iff (a.n = b.n ∧ a.m = b.m ∧ a.h = b.h) (by cases a; cases b; simp)
instance : DecidableEq Hd := fun a b => decidable_of_iff (a.o = b.o ∧ a.n = b.n ∧ a.k = b.k ∧ a.t = b.t) (by cases a; cases b; simp)
theorem run_neq46 (x y : Kd) (w : World) : (binOp .neq 46 (.agg #[encStr x.n, .int .i64 x.m, .int .i64 x.h]) (.agg #[encStr y.n, .int .i64 y.m, .int .i64 y.h])).run Try.prog w = .ok (.bool (!decide (x = y))) w := by
  have u9 := Try.underlying9
  have a9 := Try.isAgg9
  have z9 := Try.sizeOf9
  have u3 := Try.underlying3
  have a3 := Try.isAgg3
  have z3 := Try.sizeOf3
  have hS : Try.prog.underlying 46 = some (.struct (Try.prog.fieldsOf 46)) := by kernel_rfl
  have hp : Try.prog.stoodInHeld 46 = false := by kernel_rfl
  have he : (x = y) ↔ (x.n = y.n ∧ x.m = y.m ∧ x.h = y.h) := by cases x; cases y; simp
  rw [run_neq_struct, show (10000 : Nat) = 9999 + 1 from rfl, run_equalIn_agg w 9999 46 _ _ hS hp]
  simp only [Program.fieldsOf, Try.underlying46, decide_eq_decide.2 he]
  clear he
  by_cases h1 : x.n = y.n <;> by_cases h2 : x.m = y.m <;> by_cases h3 : x.h = y.h <;> go_simp
theorem run_neq48 (x y : Hd) (w : World) : (binOp .neq 48 (.agg #[.int .u32 (x.o : Int), encStr x.n, .int .i64 x.k, .int .i64 (x.t : Int)]) (.agg #[.int .u32 (y.o : Int), encStr y.n, .int .i64 y.k, .int .i64 (y.t : Int)])).run Try.prog w = .ok (.bool (!decide (x = y))) w := by
  have u9 := Try.underlying9
  have a9 := Try.isAgg9
  have z9 := Try.sizeOf9
  have u3 := Try.underlying3
  have a3 := Try.isAgg3
  have z3 := Try.sizeOf3
  have u33 := Try.underlying33
  have a33 := Try.isAgg33
  have z33 := Try.sizeOf33
  have hS : Try.prog.underlying 48 = some (.struct (Try.prog.fieldsOf 48)) := by kernel_rfl
  have hp : Try.prog.stoodInHeld 48 = false := by kernel_rfl
  have he : (x = y) ↔ ((x.o : Int) = y.o ∧ x.n = y.n ∧ x.k = y.k ∧ (x.t : Int) = y.t) := by rw [Int.natCast_inj, Int.natCast_inj]; cases x; cases y; simp
  rw [run_neq_struct, show (10000 : Nat) = 9999 + 1 from rfl, run_equalIn_agg w 9999 48 _ _ hS hp]
  simp only [Program.fieldsOf, Try.underlying48, decide_eq_decide.2 he]
  clear he
  by_cases h0 : (x.o : Int) = y.o <;> by_cases h1 : x.n = y.n <;> by_cases h2 : x.k = y.k <;> by_cases h3 : (x.t : Int) = y.t <;> go_simp
theorem guard46 (op : BinOp) (p q : Operand) (xs ys : Array Value) (w : World) : (eqGuard op 46 p q (.agg xs) (.agg ys)).run Try.prog w = .ok () w := run_eqGuard_agg w op 46 p q xs ys (by kernel_rfl)
theorem guard48 (op : BinOp) (p q : Operand) (xs ys : Array Value) (w : World) : (eqGuard op 48 p q (.agg xs) (.agg ys)).run Try.prog w = .ok () w := run_eqGuard_agg w op 48 p q xs ys (by kernel_rfl)

def SmR (w : World) (n : Nat) (i : Value) (wr : World) : Prop := ∃ k : Nat, k ≤ n ∧ i = .int .i64 (k : Int) ∧ Below w.heap.size w wr
set_option maxHeartbeats 2000000 in
theorem sameG_any (A B : Option Addr) (n cA cB : Nat) (l : List Kd) (w : World) (hA : Gin w A n l) (hB : Gin w B n l) (hn : n ≤ 1000000) :
    Calls Try.prog 18 #[.slice A n cA, .slice B n cB] w fun x w' => x = .returned (.bool true) ∧ Below w.heap.size w w' := by
  have HA := Lib.hid hA
  have HB := Lib.hid hB
  have HL := Lib.hid hA.1
  clear hA hB
  go_enter Try.func18, Try.ntmps18
  go_wp2_with fail
  go_loopw [5] (SmR w n) (fun i _ => n - (intOf i).toNat)
  case atStart => exact ⟨0, by omega, rfl, Below.refl _ _⟩
  case round =>
    obtain ⟨k, hk, rfl, hbel⟩ := hrel
    have HBE := Lib.hid hbel
    clear hbel
    by_cases hlt : k < n
    · obtain ⟨b1, o1, rfl, -, hat1⟩ := (HA.out.below HBE.out).2 (by omega)
      obtain ⟨b2, o2, rfl, -, hat2⟩ := (HB.out.below HBE.out).2 (by omega)
      have hkl : k < l.length := by have := HL.out; omega
      obtain ⟨d0, d1, d2⟩ := hat1 k hkl
      obtain ⟨f0, f1, f2⟩ := hat2 k hkl
      have hi : (k : Int) < (n : Int) := by omega
      obtain ⟨x, hx⟩ : ∃ x, l[k] = x := ⟨_, rfl⟩
      rw [hx] at d0 d1 d2 f0 f1 f2
      have hne : ∀ W, _ := fun W => run_neq46 x x W
      simp only [decide_true, Bool.not_true] at hne
      have hgd := guard46
      clear hat1 hat2 hx
      go_wp2_with fail
      go_quiet (fail)
      clear hne hgd d0 d1 d2 f0 f1 f2
      go_wp2
      go_roundw
      case rel => exact ⟨k + 1, by omega, by go_num, below_drewN HBE.out _⟩
      case measure => simp [intOf]; omega
    · have hkm : k = n := by omega
      subst hkm
      go_wp2
      go_ret
      exact ⟨rfl, HBE.out⟩
set_option maxHeartbeats 2000000 in
theorem sameH_any (A B : Option Addr) (n cA cB : Nat) (l : List Hd) (w : World) (hA : Hin w A n l) (hB : Hin w B n l) (hn : n ≤ 1000000) :
    Calls Try.prog 20 #[.slice A n cA, .slice B n cB] w fun x w' => x = .returned (.bool true) ∧ Below w.heap.size w w' := by
  have HA := Lib.hid hA
  have HB := Lib.hid hB
  have HL := Lib.hid hA.1
  clear hA hB
  go_enter Try.func20, Try.ntmps20
  go_wp2_with fail
  go_loopw [5] (SmR w n) (fun i _ => n - (intOf i).toNat)
  case atStart => exact ⟨0, by omega, rfl, Below.refl _ _⟩
  case round =>
    obtain ⟨k, hk, rfl, hbel⟩ := hrel
    have HBE := Lib.hid hbel
    clear hbel
    by_cases hlt : k < n
    · obtain ⟨b1, o1, rfl, -, hat1⟩ := (HA.out.below HBE.out).2 (by omega)
      obtain ⟨b2, o2, rfl, -, hat2⟩ := (HB.out.below HBE.out).2 (by omega)
      have hkl : k < l.length := by have := HL.out; omega
      obtain ⟨d0, d1, d2, d3⟩ := hat1 k hkl
      obtain ⟨f0, f1, f2, f3⟩ := hat2 k hkl
      have hi : (k : Int) < (n : Int) := by omega
      obtain ⟨x, hx⟩ : ∃ x, l[k] = x := ⟨_, rfl⟩
      rw [hx] at d0 d1 d2 d3 f0 f1 f2 f3
      have hne : ∀ W, _ := fun W => run_neq48 x x W
      simp only [decide_true, Bool.not_true] at hne
      have hgd := guard48
      clear hat1 hat2 hx
      go_wp2_with fail
      go_quiet (fail)
      clear hne hgd d0 d1 d2 d3 f0 f1 f2 f3
      go_wp2
      go_roundw
      case rel => exact ⟨k + 1, by omega, by go_num, below_drewN HBE.out _⟩
      case measure => simp [intOf]; omega
    · have hkm : k = n := by omega
      subst hkm
      go_wp2
      go_ret
      exact ⟨rfl, HBE.out⟩
/-- In the words of what comes out. -/
theorem sameG_own (B1 B2 : Nat) (v1 v2 : Value) (l : List Kd) (w : World) (h1 : OwnG w B1 v1 l) (h2 : OwnG w B2 v2 l) (hn : l.length ≤ 1000000) :
    Calls Try.prog 18 #[v1, v2] w fun x w' => x = .returned (.bool true) ∧ Below w.heap.size w w' := by
  obtain ⟨A, c, rfl, g1, -⟩ := h1.gin
  obtain ⟨B, d, rfl, g2, -⟩ := h2.gin
  exact sameG_any A B _ c d l w g1 g2 hn
theorem sameH_own (B1 B2 : Nat) (v1 v2 : Value) (l : List Hd) (w : World) (h1 : OwnR w B1 v1 l) (h2 : OwnR w B2 v2 l) (hn : l.length ≤ 1000000) :
    Calls Try.prog 20 #[v1, v2] w fun x w' => x = .returned (.bool true) ∧ Below w.heap.size w w' := by
  obtain ⟨A, c, rfl, g1, -⟩ := h1.hin
  obtain ⟨B, d, rfl, g2, -⟩ := h2.hin
  exact sameH_any A B _ c d l w g1 g2 hn

end Go.Proofs.Ytlgdjmmhdfpfeaa
