/-
  The contract of frame.All: for every slice of bytes of at most a hundred thousand.
-/
import Derived.Test.YtaehagejmeimiaaLists
import Derived.WalkMore
namespace Go.Proofs.Ytaehagejmeimiaa
open Go.RowKit

theorem getS_row (ls : List (List Nat)) (r : List Nat) : Frm.getS (Frm.row ls ++ r) (Frm.row ls).length =
    if r.getD 0 0 = 0 then ([], 0, 30) else match Frm.opn r with | none => ([], 0, 31) | some x => (x, (Frm.row ls).length + 8 + x.length, 0) := by
  have hd : (Frm.row ls ++ r).getD (Frm.row ls).length 0 = r.getD 0 0 := by
    rw [List.getD_eq_getElem?_getD, List.getElem?_append_right (Nat.le_refl _), Nat.sub_self, List.getD_eq_getElem?_getD]
  have hdr : (Frm.row ls ++ r).drop (Frm.row ls).length = r := List.drop_left' rfl
  have hl : (Frm.row ls ++ r).length = (Frm.row ls).length + r.length := List.length_append
  by_cases h0 : r.getD 0 0 = 0
  · rw [if_pos h0, getS_empty _ _ (by omega) (.inr (by rw [hd]; exact h0))]
  · have hr : 0 < r.length := by
      rcases r with _ | ⟨c, t⟩
      · simp [List.getD] at h0
      · simp
    rw [if_neg h0]
    cases ho : Frm.opn r with
    | none => rw [getS_bad _ _ (by omega) (by rw [hd]; exact h0) (by rw [hdr]; exact ho)]
    | some x => rw [getS_some _ x _ (by omega) (by rw [hd]; exact h0) (by rw [hdr]; exact ho)]

theorem opn_of_zero (r : List Nat) (h : r.getD 0 0 = 0) : Frm.opn r = none := by
  rcases r with _ | ⟨c, t⟩
  · exact Frm.opn_nil
  · have : c = 0 := by simpa [List.getD] using h
    subst this
    exact Frm.opn_zero t

/-- What All has, and what is left. -/
structure Split (l : List Nat) (ls : List (List Nat)) (r : List Nat) : Prop where
  eq : l = Frm.row ls ++ r
  short : Frm.Short ls

def AllPost (w : World) (l : List Nat) (e : Ending) (w' : World) : Prop :=
  ∃ v vs ls r, Split l ls r ∧ Frm.opn r = none ∧ e = .returned (.tuple #[v, .int .i64 ((Frm.row ls).length : Nat), .int .i64 (Frm.endOf r : Nat)]) ∧ LRow w' w.heap.size v vs ∧ OwnAll w' w.heap.size vs ls ∧ Below w.heap.size w w'

def AllR (w : World) (l : List Nat) (v i z : Value) (wr : World) : Prop :=
  ∃ vs ls r, Split l ls r ∧ i = .int .i64 ((Frm.row ls).length : Nat) ∧ z = .int .i64 0 ∧ LRow wr w.heap.size v vs ∧ OwnAll wr w.heap.size vs ls ∧ Below w.heap.size w wr

theorem row_count (ls : List (List Nat)) : 8 * ls.length ≤ (Frm.row ls).length := by
  induction ls with
  | nil => simp
  | cons x t ih => rw [Frm.row_cons, List.length_append, Frm.frm_len, List.length_cons]; omega

theorem cells_one (w : World) (u : Value) (fr : Nat × Nat) : Cells (w.alloc (.cells #[u] 22 fr)) (some ⟨w.heap.size, 0, none⟩) 1 [u] := by
  refine ⟨rfl, fun _ => ⟨_, _, rfl, fun i hi => ?_⟩⟩
  have : i = 0 := by omega
  subst this
  rw [cell_of_row _ _ _ _ 22 fr (heap_alloc_new w _)]
  rfl

set_option maxHeartbeats 1000000 in
theorem all_any (a : Option Addr) (n cap : Nat) (l : List Nat) (w : World) (hB : Bys w a n l) (hcap : n ≤ cap) (hm : cap ≤ maxLen) (hn : n ≤ 100000) :
    Calls Try.prog 22 #[.slice a n cap] w (AllPost w l) := by
  have HB := Lib.hid hB
  clear hB
  go_enter Try.func22, Try.ntmps22
  go_wp2_with fail
  go_step3
  go_wp2_with fail
  go_step3
  go_wp2_with fail
  go_loopw [5, 6, 7] (AllR w l) (fun _ i _ _ => n - (intOf i).toNat)
  case atStart => exact ⟨[], [], l, ⟨rfl, fun x hx => by simp at hx⟩, rfl, rfl, LRow.nil _ _, OwnAll.nil _ _, Below.refl _ _⟩
  case round =>
    obtain ⟨vs, ls, r, hS, rfl, rfl, hR, hO, hbel⟩ := hrel
    have hg := getS_row ls r
    rw [← hS.eq] at hg
    have hlen : (Frm.row ls).length + r.length = n := by
      rw [← HB.out.1]
      have := congrArg List.length hS.eq
      rw [List.length_append] at this
      exact this.symm
    have hcnt := row_count ls
    have hvl := hO.1
    have HB1 := Lib.hid (HB.out.below hbel)
    have HS := Lib.hid hS
    have HG := Lib.hid hg
    have HR := Lib.hid hR
    have HO := Lib.hid hO
    clear hg hS hR hO
    go_wp2_with fail
    with_reducible refine (get_any _ _ _ _ _ _ HB1.out hcap hm).mono ?_
    rintro e w2 ⟨u, rfl, hOu, hb2⟩
    have hgg := HG.out
    by_cases h0 : r.getD 0 0 = 0
    · rw [if_pos h0] at hgg
      rw [hgg] at hOu ⊢
      have H0 := Lib.hid h0
      clear hgg h0 hOu HG
      go_wp2
      go_ret3
      exact ⟨_, vs, ls, r, HS.out, opn_of_zero r H0.out, by unfold Frm.endOf; rw [if_pos H0.out]; rfl, HR.out.belowRow hb2, HO.out.map fun _ _ h => h.belowOwn hb2, hbel.trans (hb2.mono hbel.size)⟩
    · rw [if_neg h0] at hgg
      cases ho : Frm.opn r with
      | none =>
        rw [ho] at hgg
        simp only [] at hgg
        rw [hgg] at hOu ⊢
        have H0 := Lib.hid h0
        have HO1 := Lib.hid ho
        clear hgg h0 hOu HG ho
        go_wp2
        go_ret3
        exact ⟨_, vs, ls, r, HS.out, HO1.out, by unfold Frm.endOf; rw [if_neg H0.out]; rfl, HR.out.belowRow hb2, HO.out.map fun _ _ h => h.belowOwn hb2, hbel.trans (hb2.mono hbel.size)⟩
      | some x =>
        rw [ho] at hgg
        simp only [] at hgg
        rw [hgg] at hOu ⊢
        obtain ⟨hx, t, ht⟩ := Frm.opn_some ho
        have hrl : r.length = x.length + 8 + t.length := by rw [ht, List.length_append, Frm.frm_len]
        have HT := Lib.hid ht
        obtain ⟨Au, cu, rfl, _, _, _, _⟩ := hOu.slice
        have HOU := Lib.hid hOu
        have HR2 := Lib.hid (HR.out.belowRow hb2)
        clear hgg h0 hOu HG ho ht
        go_wp2_with (first
          | ((with_reducible refine wpl_appendL (some 24) _ _ _ (.tmp 21) (.tmp 23) w.heap.size _ vs (some ⟨w2.heap.size, 0, none⟩) 1 1 [.slice Au x.length cu] ?hs ?hx (HR2.out.alloc _) (cells_one _ _ _) ?h1 ?ha ?hm ?hz ?_); (case hs => rfl); (case hx => rfl); (case h1 => (intro q hq; simp at hq; subst hq; exact HOU.out.reads.one)); (case ha => (intro h; cases h)); (case hm => omega); (case hz => exact Nat.le_trans (Nat.le_trans hbel.size hb2.size) (by simp)); (intro v' w' ho hg hv)))
        have hb3 : Below w.heap.size w w' := (HR2.out.alloc _).grows hg ((hbel.trans (hb2.mono hbel.size)).alloc (Nat.le_trans hbel.size hb2.size) _) (Nat.le_refl _) (Nat.le_trans (Nat.le_trans hbel.size hb2.size) (by simp))
        have hOA : OwnAll w' w.heap.size (vs ++ [.slice Au x.length cu]) (ls ++ [x]) := by
          refine OwnAll.snoc (HO.out.map fun _ _ h => ((h.belowOwn hb2).alloc _).grownL (HR2.out.alloc _) hg) (((HOU.out.mono hbel.size).alloc _).grownL (HR2.out.alloc _) hg) ?_
          exact HO.out.fresh HOU.out
        have hSS : Split l (ls ++ [x]) t := by
          refine ⟨by rw [Frm.row_snoc, List.append_assoc, ← HT.out]; exact HS.out.eq, fun y hy => ?_⟩
          rcases List.mem_append.1 hy with h | h
          · exact HS.out.short y h
          · simp at h; subst h; exact hx
        have hll : (Frm.row (ls ++ [x])).length = (Frm.row ls).length + 8 + x.length := by rw [Frm.row_snoc, List.length_append, Frm.frm_len]; omega
        go_roundw
        case rel => exact ⟨_, _, t, hSS, val_int (by rw [hll]; omega), rfl, ho, hOA, hb3⟩
        case measure => simp [intOf]; omega

end Go.Proofs.Ytaehagejmeimiaa
