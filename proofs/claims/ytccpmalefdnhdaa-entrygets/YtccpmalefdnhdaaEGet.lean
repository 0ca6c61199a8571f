/-
  The contract of entry.Get: for every slice of bytes.
-/
import Derived.Test.YtccpmalefdnhdaaRB
import Derived.Test.YtccpmalefdnhdaaEPut
import Derived.Test.YtccpmalefdnhdaaSame
namespace Go.Proofs.Ytccpmalefdnhdaa
open Go.RowKit

namespace Ent
def zero : Entry := ⟨0, 0, 0, 0, 0, false, 0, 0, 0, [], []⟩
def bare (k : Int) (lsn epoch : Nat) : Entry := ⟨k, lsn, epoch, 0, 0, false, 0, 0, 0, [], []⟩
/-- What is read behind the header. -/
def rest (f : Nat → Bool) (l : List Nat) (k : Int) (s : St) (lsn epoch : Nat) : Entry :=
  let o := rO l k s
  let kk := rK l k o.2
  let d := rK l k kk.2
  let st := rS l k d.2
  let u := rS l k st.2
  let t := rS l k u.2
  let c := rC l k t.2
  let m := rM l k c.2
  ⟨k, lsn, epoch, o.1, st.1, f u.1, t.1, c.1, m.1, kk.1, d.1⟩
theorem rd_rest (f : Nat → Bool) (l : List Nat) (a b c : Nat) (s1 s2 s3 : St) (h1 : rnum l 1 (0, false) = (a, s1)) (h2 : rnum l 8 s1 = (b, s2)) (h3 : rnum l 4 s2 = (c, s3)) : rd f l = rest f l a s3 b c := by
  simp only [rd, got, rest, h1, h2, h3]
theorem rO_yes (l : List Nat) (k : Int) (s : St) (h : hasO k = true) : rO l k s = rnum l 4 s := by unfold rO; rw [if_pos h]
theorem rO_no (l : List Nat) (k : Int) (s : St) (h : hasO k = false) : rO l k s = (0, s) := by unfold rO; rw [h]; rfl
theorem rK_yes (l : List Nat) (k : Int) (s : St) (h : hasT k = true) : rK l k s = rtxt l s := by unfold rK; rw [if_pos h]
theorem rK_no (l : List Nat) (k : Int) (s : St) (h : hasT k = false) : rK l k s = ([], s) := by unfold rK; rw [h]; rfl
theorem rS_yes (l : List Nat) (k : Int) (s : St) (h : hasS k = true) : rS l k s = rnum l 1 s := by unfold rS; rw [if_pos h]
theorem rS_no (l : List Nat) (k : Int) (s : St) (h : hasS k = false) : rS l k s = (0, s) := by unfold rS; rw [h]; rfl
theorem rC_yes (l : List Nat) (k : Int) (s : St) (h : ¬ codes k = 0) : rC l k s = rnum l 1 s := by unfold rC; rw [if_neg h]
theorem rC_no (l : List Nat) (k : Int) (s : St) (h : codes k = 0) : rC l k s = (0, s) := by unfold rC; rw [if_pos h]
theorem rM_yes (l : List Nat) (k : Int) (s : St) (h : hasM k = true) : rM l k s = rnum l 8 s := by unfold rM; rw [if_pos h]
theorem rM_no (l : List Nat) (k : Int) (s : St) (h : hasM k = false) : rM l k s = (0, s) := by unfold rM; rw [h]; rfl
end Ent

theorem read_any (p q B : Nat) (l : List Nat) (s : Ent.St) (k : Int) (lsn epoch : Nat) (w : World) (hR : Rd 95 w p s l) (hE : Lies w q 26 (evs (Ent.bare k lsn epoch) nilV nilV)) (hpq : p < q) (hB : B ≤ p) (hl : l.length ≤ 100000) :
    Calls Try.prog 43 #[.agg (pvk k), .pointer (some ⟨p, 0, none⟩), .pointer (some ⟨q, 0, none⟩)] w (ReadPost w p q B (Ent.rest (fun n => n == 1) l k s lsn epoch)) := by
  by_cases h2 : k = 2
  · subst h2
    have e : Ent.rest (fun n => n == 1) l 2 s lsn epoch = { Ent.bare 2 lsn epoch with order := (Ent.rnum l 4 s).1, key := (Ent.rtxt l (Ent.rnum l 4 s).2).1, data := (Ent.rtxt l (Ent.rtxt l (Ent.rnum l 4 s).2).2).1 } := by
      unfold Ent.rest
      simp only [Ent.rO_yes l 2 _ rfl, Ent.rK_yes l 2 _ rfl, Ent.rS_no l 2 _ rfl, Ent.rC_no l 2 _ rfl, Ent.rM_no l 2 _ rfl]
      rfl
    rw [e]
    exact read2 p q B l s (Ent.bare 2 lsn epoch) w _ _ rfl _ _ rfl _ _ rfl hR hE hpq hB hl
  by_cases h3 : k = 3
  · subst h3
    have e : Ent.rest (fun n => n == 1) l 3 s lsn epoch = { Ent.bare 3 lsn epoch with order := (Ent.rnum l 4 s).1, step := (Ent.rnum l 1 (Ent.rnum l 4 s).2).1, undo := ((Ent.rnum l 1 (Ent.rnum l 1 (Ent.rnum l 4 s).2).2).1 == 1), tri := (Ent.rnum l 1 (Ent.rnum l 1 (Ent.rnum l 1 (Ent.rnum l 4 s).2).2).2).1 } := by
      unfold Ent.rest
      simp only [Ent.rO_yes l 3 _ rfl, Ent.rK_no l 3 _ rfl, Ent.rS_yes l 3 _ rfl, Ent.rC_no l 3 _ rfl, Ent.rM_no l 3 _ rfl]
      rfl
    rw [e]
    exact read3 p q B l s (Ent.bare 3 lsn epoch) w _ _ rfl _ _ rfl _ _ rfl _ _ rfl hR hE hpq hB hl rfl rfl
  by_cases h4 : k = 4
  · subst h4
    have e : Ent.rest (fun n => n == 1) l 4 s lsn epoch = { Ent.bare 4 lsn epoch with order := (Ent.rnum l 4 s).1, step := (Ent.rnum l 1 (Ent.rnum l 4 s).2).1, undo := ((Ent.rnum l 1 (Ent.rnum l 1 (Ent.rnum l 4 s).2).2).1 == 1), tri := (Ent.rnum l 1 (Ent.rnum l 1 (Ent.rnum l 1 (Ent.rnum l 4 s).2).2).2).1, code := (Ent.rnum l 1 (Ent.rnum l 1 (Ent.rnum l 1 (Ent.rnum l 1 (Ent.rnum l 4 s).2).2).2).2).1 } := by
      unfold Ent.rest
      simp only [Ent.rO_yes l 4 _ rfl, Ent.rK_no l 4 _ rfl, Ent.rS_yes l 4 _ rfl, Ent.rC_yes l 4 _ (by decide), Ent.rM_no l 4 _ rfl]
      rfl
    rw [e]
    exact read4 p q B l s (Ent.bare 4 lsn epoch) w _ _ rfl _ _ rfl _ _ rfl _ _ rfl _ _ rfl hR hE hpq hB hl rfl rfl
  by_cases h5 : k = 5
  · subst h5
    have e : Ent.rest (fun n => n == 1) l 5 s lsn epoch = { Ent.bare 5 lsn epoch with order := (Ent.rnum l 4 s).1, code := (Ent.rnum l 1 (Ent.rnum l 4 s).2).1 } := by
      unfold Ent.rest
      simp only [Ent.rO_yes l 5 _ rfl, Ent.rK_no l 5 _ rfl, Ent.rS_no l 5 _ rfl, Ent.rC_yes l 5 _ (by decide), Ent.rM_no l 5 _ rfl]
      rfl
    rw [e]
    exact read5 p q B l s (Ent.bare 5 lsn epoch) w _ _ rfl _ _ rfl hR hE hpq hB hl rfl rfl
  by_cases h6 : k = 6
  · subst h6
    have e : Ent.rest (fun n => n == 1) l 6 s lsn epoch = { Ent.bare 6 lsn epoch with code := (Ent.rnum l 1 s).1 } := by
      unfold Ent.rest
      simp only [Ent.rO_no l 6 _ rfl, Ent.rK_no l 6 _ rfl, Ent.rS_no l 6 _ rfl, Ent.rC_yes l 6 _ (by decide), Ent.rM_no l 6 _ rfl]
      rfl
    rw [e]
    exact read6 p q B l s (Ent.bare 6 lsn epoch) w _ _ rfl hR hE hpq hB hl rfl rfl
  by_cases h7 : k = 7
  · subst h7
    have e : Ent.rest (fun n => n == 1) l 7 s lsn epoch = { Ent.bare 7 lsn epoch with mark := (Ent.rnum l 8 s).1 } := by
      unfold Ent.rest
      simp only [Ent.rO_no l 7 _ rfl, Ent.rK_no l 7 _ rfl, Ent.rS_no l 7 _ rfl, Ent.rC_no l 7 _ rfl, Ent.rM_yes l 7 _ rfl]
      rfl
    rw [e]
    exact read7 p q B l s (Ent.bare 7 lsn epoch) w _ _ rfl hR hE hpq hB hl rfl rfl
  · have e1 : Ent.hasO k = false := by unfold Ent.hasO; rw [decide_eq_false_iff_not]; omega
    have e2 : Ent.hasT k = false := by unfold Ent.hasT; rw [decide_eq_false_iff_not]; omega
    have e3 : Ent.hasS k = false := by unfold Ent.hasS; rw [decide_eq_false_iff_not]; omega
    have e4 : Ent.codes k = 0 := by unfold Ent.codes; rw [if_neg (by omega), if_neg (by omega)]
    have e5 : Ent.hasM k = false := by unfold Ent.hasM; rw [decide_eq_false_iff_not]; omega
    have e : Ent.rest (fun n => n == 1) l k s lsn epoch = Ent.bare k lsn epoch := by
      unfold Ent.rest
      simp only [Ent.rO_no l k _ e1, Ent.rK_no l k _ e2, Ent.rS_no l k _ e3, Ent.rC_no l k _ e4, Ent.rM_no l k _ e5]
      rfl
    rw [e]
    unfold pvk
    rw [e1, e2, e3, e4, e5]
    exact read1 p q B l s (Ent.bare k lsn epoch) w hR hE hpq hB hl rfl rfl

set_option maxHeartbeats 400000 in
theorem equal_any (a b : Option Addr) (n m c d : Nat) (la lb : List Nat) (w : World) (hA : Bys w a n la) (hB : Bys w b m lb) :
    Calls Try.prog 44 #[.slice a n c, .slice b m d] w fun e w' => e = .returned (.bool (sameB la lb)) ∧ w = w' := by
  have r1 := run_str hA c
  have r2 := run_str hB d
  have r3 := str_eq la lb hA.2.1 hB.2.1
  clear hA hB
  go_enter Try.func44, Try.ntmps44
  go_wp2
  go_ret
  exact ⟨rfl, rfl⟩

end Go.Proofs.Ytccpmalefdnhdaa
