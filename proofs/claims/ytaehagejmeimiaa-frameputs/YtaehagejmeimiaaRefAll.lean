/-
  The contract of the document's own All: for every slice of bytes of at most a hundred thousand.
-/
import Derived.Test.YtaehagejmeimiaaLend
namespace Go.Proofs.Ytaehagejmeimiaa
open Go.RowKit

def RaR (w : World) (l : List Nat) (v i : Value) (wr : World) : Prop :=
  ∃ vs ls r, Split l ls r ∧ i = .int .i64 ((Frm.row ls).length : Nat) ∧ LRow wr w.heap.size v vs ∧ OwnAll wr w.heap.size vs ls ∧ Below w.heap.size w wr

set_option maxHeartbeats 1000000 in
theorem refAll_any (a : Option Addr) (n cap : Nat) (l : List Nat) (w : World) (hB : Bys w a n l) (hcap : n ≤ cap) (hm : cap ≤ maxLen) (hn : n ≤ 100000) :
    Calls Try.prog 23 #[.slice a n cap] w (AllPost w l) := by
  have HB := Lib.hid hB
  clear hB
  go_enter Try.func23, Try.ntmps23
  go_wp2_with fail
  go_loopw [5, 6] (RaR w l) (fun _ i _ => n - (intOf i).toNat)
  case atStart => exact ⟨[], [], l, ⟨rfl, fun x hx => by simp at hx⟩, rfl, LRow.nil _ _, OwnAll.nil _ _, Below.refl _ _⟩
  case round =>
    obtain ⟨vs, ls, r, hS, rfl, hR, hO, hbel⟩ := hrel
    have hg := getS_row ls r
    rw [← hS.eq] at hg
    have hlen : (Frm.row ls).length + r.length = n := by
      rw [← HB.out.1]
      have := congrArg List.length hS.eq
      rw [List.length_append] at this
      exact this.symm
    have hcnt := row_count ls
    have hvl := hO.1
    have HB1 := Lib.hid (HB.out.below hbel)
    have HS := Lib.hid hS
    have HG := Lib.hid hg
    have HR := Lib.hid hR
    have HO := Lib.hid hO
    clear hg hS hR hO
    go_wp2_with fail
    with_reducible refine (refGet_any _ _ _ _ _ _ HB1.out hcap hm hn).mono ?_
    rintro e w2 ⟨u, rfl, hOu, hb2⟩
    have hgg := HG.out
    by_cases h0 : r.getD 0 0 = 0
    · rw [if_pos h0] at hgg
      rw [hgg] at hOu ⊢
      have H0 := Lib.hid h0
      clear hgg h0 hOu HG
      go_wp2
      go_ret3
      exact ⟨_, vs, ls, r, HS.out, opn_of_zero r H0.out, by unfold Frm.endOf; rw [if_pos H0.out]; rfl, HR.out.belowRow hb2, HO.out.map fun _ _ h => h.belowOwn hb2, hbel.trans (hb2.mono hbel.size)⟩
    · rw [if_neg h0] at hgg
      cases ho : Frm.opn r with
      | none =>
        rw [ho] at hgg
        simp only [] at hgg
        rw [hgg] at hOu ⊢
        have H0 := Lib.hid h0
        have HO1 := Lib.hid ho
        clear hgg h0 hOu HG ho
        go_wp2
        go_ret3
        exact ⟨_, vs, ls, r, HS.out, HO1.out, by unfold Frm.endOf; rw [if_neg H0.out]; rfl, HR.out.belowRow hb2, HO.out.map fun _ _ h => h.belowOwn hb2, hbel.trans (hb2.mono hbel.size)⟩
      | some x =>
        rw [ho] at hgg
        simp only [] at hgg
        rw [hgg] at hOu ⊢
        obtain ⟨hx, t, ht⟩ := Frm.opn_some ho
        have hrl : r.length = x.length + 8 + t.length := by rw [ht, List.length_append, Frm.frm_len]
        have HT := Lib.hid ht
        obtain ⟨Au, cu, rfl, _, _, _, _⟩ := hOu.slice
        have HOU := Lib.hid hOu
        have HR2 := Lib.hid (HR.out.belowRow hb2)
        clear hgg h0 hOu HG ho ht
        go_wp2_with (first
          | ((with_reducible refine wpl_appendL (some 28) _ _ _ (.tmp 25) (.tmp 27) w.heap.size _ vs (some ⟨w2.heap.size, 0, none⟩) 1 1 [.slice Au x.length cu] ?hs ?hx (HR2.out.alloc _) (cells_one _ _ _) ?h1 ?ha ?hm ?hz ?_); (case hs => rfl); (case hx => rfl); (case h1 => (intro q hq; simp at hq; subst hq; exact HOU.out.reads.one)); (case ha => (intro h; cases h)); (case hm => omega); (case hz => exact Nat.le_trans (Nat.le_trans hbel.size hb2.size) (by simp)); (intro v' w' ho hg hv)))
        have hb3 : Below w.heap.size w w' := (HR2.out.alloc _).grows hg ((hbel.trans (hb2.mono hbel.size)).alloc (Nat.le_trans hbel.size hb2.size) _) (Nat.le_refl _) (Nat.le_trans (Nat.le_trans hbel.size hb2.size) (by simp))
        have hOA : OwnAll w' w.heap.size (vs ++ [.slice Au x.length cu]) (ls ++ [x]) := by
          refine OwnAll.snoc (HO.out.map fun _ _ h => ((h.belowOwn hb2).alloc _).grownL (HR2.out.alloc _) hg) (((HOU.out.mono hbel.size).alloc _).grownL (HR2.out.alloc _) hg) ?_
          exact HO.out.fresh HOU.out
        have hSS : Split l (ls ++ [x]) t := by
          refine ⟨by rw [Frm.row_snoc, List.append_assoc, ← HT.out]; exact HS.out.eq, fun y hy => ?_⟩
          rcases List.mem_append.1 hy with h | h
          · exact HS.out.short y h
          · simp at h; subst h; exact hx
        have hll : (Frm.row (ls ++ [x])).length = (Frm.row ls).length + 8 + x.length := by rw [Frm.row_snoc, List.length_append, Frm.frm_len]; omega
        go_roundw
        case rel => exact ⟨_, _, t, hSS, val_int (by rw [hll]; omega), ho, hOA, hb3⟩
        case measure => simp [intOf]; omega

end Go.Proofs.Ytaehagejmeimiaa
