/-
  The contract of entry.Check: for every entry.
-/
import Derived.Test.YtccpmalefdnhdaaCheck
namespace Go.Proofs.Ytccpmalefdnhdaa
open Go.RowKit

/-- The error's number. -/
def chkN (e : Entry) : Nat := if Ent.ok e = true then 0 else 40
def ChkPost (e : Entry) (w : World) (x : Ending) (w' : World) : Prop := x = .returned (.int .i64 (chkN e : Nat)) ∧ Below w.heap.size w w'
theorem chkN_of {e : Entry} {b : Bool} (h : Ent.ok e = b) : chkN e = if b = true then 0 else 40 := by unfold chkN; rw [h]

set_option maxRecDepth 100000 in
set_option maxHeartbeats 1000000 in
theorem check_any (e : Entry) (A1 A2 : Option Addr) (c1 c2 : Nat) (w : World) :
    Calls Try.prog 15 #[.agg (evs e (.slice A1 e.key.length c1) (.slice A2 e.data.length c2))] w (ChkPost e w) := by
  have hf : Ent.ok e = (Ent.isK e.kind && (decide (e.lsn ≠ 0) && (decide (e.epoch ≠ 0) && Ent.fits e))) := rfl
  have C1 := fun W => Lib.hid (partsOf_any e.kind W)
  have C2 := fun W => Lib.hid (fit_any e.kind e rfl A1 A2 c1 c2 W)
  generalize hK : Value.slice A1 e.key.length c1 = K at *
  generalize hD : Value.slice A2 e.data.length c2 = D at *
  clear hK hD
  unfold ChkPost
  unfold PartsPost at C1
  generalize Ent.isK e.kind = r1 at *
  generalize Ent.fits e = r4 at *
  obtain ⟨lsn, hl⟩ : ∃ n, e.lsn = n := ⟨_, rfl⟩
  obtain ⟨epoch, hp⟩ : ∃ n, e.epoch = n := ⟨_, rfl⟩
  rw [hl, hp] at hf
  have HF := Lib.hid hf
  have HL := Lib.hid hl
  have HP := Lib.hid hp
  clear hf hl hp
  go_enter Try.func15, Try.ntmps15
  go_wp2_with fail
  with_reducible refine (C1 _).out.mono ?_
  rintro x w1 ⟨rfl, hb1⟩
  have b1 : Below w.heap.size w w1 := ((Below.refl _ _).alloc (Nat.le_refl _) _).trans (hb1.mono (by simp))
  have hL1 := (Lies.made w 26 (evs e K D)).below hb1 (by simp)
  have hlt := hL1.lt
  have hne : w.heap.size ≠ w1.heap.size := by omega
  obtain ⟨e0, e1, e2, e3, e4, e5, e6, e7, e8, e9, e10⟩ := hL1.cellsE
  cases r1
  · go_wp2
    go_ret
    rw [chkN_of (HF.out.trans (Bool.false_and _))]
    exact ⟨rfl, b1.alloc b1.size _⟩
  by_cases h0 : lsn = 0
  · have h0b : (((e.lsn : Nat) : Int) == 0) = true := by rw [beq_iff_eq, HL.out]; omega
    go_wp2
    go_ret
    rw [chkN_of (b := false) (by rw [HF.out]; simp [h0])]
    exact ⟨rfl, b1.alloc b1.size _⟩
  have h0b : (((e.lsn : Nat) : Int) == 0) = false := by rw [beq_eq_false_iff_ne, HL.out]; omega
  by_cases h1 : epoch = 0
  · have h1b : (((e.epoch : Nat) : Int) == 0) = true := by rw [beq_iff_eq, HP.out]; omega
    go_wp2
    go_ret
    rw [chkN_of (b := false) (by rw [HF.out]; simp [h1])]
    exact ⟨rfl, b1.alloc b1.size _⟩
  have h1b : (((e.epoch : Nat) : Int) == 0) = false := by rw [beq_eq_false_iff_ne, HP.out]; omega
  have hall : Ent.ok e = r4 := by rw [HF.out]; simp [h0, h1]
  have HALL := Lib.hid hall
  clear hall
  go_wp2_with fail
  with_reducible refine (C2 _).out.mono ?_
  rintro x w2 ⟨rfl, hb2⟩
  have b2 : Below w.heap.size w w2 := (b1.alloc b1.size _).trans (hb2.mono (Nat.le_trans b1.size (by simp)))
  cases r4
  · go_wp2
    go_ret
    rw [chkN_of HALL.out]
    exact ⟨rfl, b2⟩
  · go_wp2
    go_ret
    rw [chkN_of HALL.out]
    exact ⟨rfl, b2⟩

end Go.Proofs.Ytccpmalefdnhdaa
