/-
  Texts of one proof, in their order: FeRd2, FeOwnMem, FeNIter, FeNZero, FeNChk, FeNWr, FeNVal, FeKRow, FeNRd, FeNGet.
-/
import Derived.Deep.RegionHeld3
import Derived.ArgAppend
import Derived.Maps.AppendAt
import Derived.Laws.AppendOwnNone
import Derived.Laws.OwnMore
import Derived.Deep.AppendLies
import Derived.Laws.MakeOwn
import Derived.IntWalk
import Derived.Laws.ResultCell
import Derived.Test.YtpbclmnhkmcknaaGreatB01
namespace Go.Proofs.YtpbclmnhkmcknaaGreat.Fe
open Go.RowKit
set_option maxRecDepth 100000
attribute [local go_sem ↓] Go.wp_at_zero Go.wp_at_succ

theorem Rd.small {T : TypeId} {w : World} {p : Nat} {s : Ent.St} {l : List Nat} (h : Rd T w p s l) : ∀ c ∈ l, c < 256 := by
  obtain ⟨A, c, _, hB, _⟩ := h
  exact hB.2.1

def Ru8Post (w : World) (p : Nat) (l : List Nat) (s : Ent.St) (e : Ending) (w' : World) : Prop :=
  e = .returned (.int .u8 ((Ent.rnum l 1 s).1 : Nat)) ∧ Rd 166 w' p (Ent.rnum l 1 s).2 l ∧ w.grownBy w' (some p)
def Ru32Post (w : World) (p : Nat) (l : List Nat) (s : Ent.St) (e : Ending) (w' : World) : Prop :=
  e = .returned (.int .u32 ((Ent.rnum l 4 s).1 : Nat)) ∧ Rd 166 w' p (Ent.rnum l 4 s).2 l ∧ w.grownBy w' (some p)
set_option maxHeartbeats 400000 in
theorem ru8_any (p : Nat) (s : Ent.St) (l : List Nat) (w : World) (hR : Rd 166 w p s l) (hl : l.length ≤ 200000) :
    Calls Tryz.prog 50 #[.pointer (some ⟨p, 0, none⟩)] w (Ru8Post w p l s) := by
  have hv : (Ent.rnum l 1 s).1 < 256 := Ent.rnum_lt l hR.small 1 s
  have c2 := rnumber_any p 1 s l w hR (by omega) hl
  unfold RnPost at c2
  unfold Ru8Post
  rw [show ((1 : Nat) : Int) = 1 from rfl] at c2
  generalize Ent.rnum l 1 s = r at *
  obtain ⟨x, s'⟩ := r
  simp only at hv c2 ⊢
  have C2 := Lib.hid c2
  clear c2 hR
  go_enter Tryz.func50, Tryz.ntmps50
  go_wp2_with fail
  with_reducible refine C2.out.mono ?_
  rintro e w2 ⟨rfl, hR2, hb2⟩
  have HR2 := Lib.hid hR2
  clear hR2 C2
  go_wp2
  go_ret
  exact ⟨rfl, HR2.out, hb2⟩

set_option maxHeartbeats 400000 in
theorem ru32_any (p : Nat) (s : Ent.St) (l : List Nat) (w : World) (hR : Rd 166 w p s l) (hl : l.length ≤ 200000) :
    Calls Tryz.prog 51 #[.pointer (some ⟨p, 0, none⟩)] w (Ru32Post w p l s) := by
  have hv : (Ent.rnum l 4 s).1 < 4294967296 := Ent.rnum_lt l hR.small 4 s
  have c2 := rnumber_any p 4 s l w hR (by omega) hl
  unfold RnPost at c2
  unfold Ru32Post
  rw [show ((4 : Nat) : Int) = 4 from rfl] at c2
  generalize Ent.rnum l 4 s = r at *
  obtain ⟨x, s'⟩ := r
  simp only at hv c2 ⊢
  have C2 := Lib.hid c2
  clear c2 hR
  go_enter Tryz.func51, Tryz.ntmps51
  go_wp2_with fail
  with_reducible refine C2.out.mono ?_
  rintro e w2 ⟨rfl, hR2, hb2⟩
  have HR2 := Lib.hid hR2
  clear hR2 C2
  go_wp2
  go_ret
  exact ⟨rfl, HR2.out, hb2⟩

def NrPost (w : World) (l : List Nat) (e : Ending) (w' : World) : Prop :=
  ∃ p, e = .returned (.pointer (some ⟨p, 0, none⟩)) ∧ Rd 166 w' p (0, false) l ∧ Below w.heap.size w w' ∧ w.heap.size ≤ p

set_option maxHeartbeats 400000 in
theorem newReader_any (a : Option Addr) (n cap : Nat) (l : List Nat) (w : World) (hB : Bys w a n l) (hn : n ≤ 200000) :
    Calls Tryz.prog 49 #[.slice a n cap] w (NrPost w l) := by
  have HB := Lib.hid hB
  clear hB
  go_enter Tryz.func49, Tryz.ntmps49
  go_wp2_with fail
  with_reducible refine (fresh_any _ _ _ _ _ HB.out (by omega)).mono ?_
  rintro e w2 ⟨rfl, hO2, hb2⟩
  have HO2 := Lib.hid hO2
  clear hO2
  go_wp2
  go_ret
  refine ⟨w2.heap.size, rfl, ⟨some ⟨w.heap.size, 0, none⟩, n, ?_, ?_, ?_, Nat.zero_le _, ?_, ?_⟩, hb2.alloc hb2.size _, hb2.size⟩
  · rw [HB.out.1]; exact Lies.made w2 166 _
  · rw [HB.out.1]; exact (HO2.out.alloc _).bys.1
  · intro ad e
    injection e with e
    subst e
    exact HO2.out.lt _ rfl
  · rw [HB.out.1]; exact Nat.le_refl _
  · exact small_len _ (by omega)

theorem Bys.cut {w : World} {b off n : Nat} {l : List Nat} (h : Bys w (some ⟨b, off, none⟩) n l) (k : Nat) (hk : k ≤ n) : Bys w (some ⟨b, off + k, none⟩) (n - k) (l.drop k) := by
  obtain ⟨h1, h2, h3⟩ := h
  refine ⟨by rw [List.length_drop]; omega, fun c hc => h2 c (List.mem_of_mem_drop hc), fun h0 => ?_⟩
  obtain ⟨b', off', e, hc⟩ := h3 (by omega)
  injection e with e
  injection e with e1 e2 _
  subst e1 e2
  refine ⟨b, off + k, rfl, fun i hi => ?_⟩
  rw [Nat.add_assoc, hc (k + i) (by omega)]
  simp [List.getD]

theorem bys_mid {w : World} {b off n c m1 m2 y : Nat} {l : List Nat} (h : Bys w (some ⟨b, off, none⟩) n l) (h1 : m1 + y = m2) (h2 : m2 ≤ n) (h3 : n ≤ c) :
    Bys w (if c = m1 then some ⟨b, off, none⟩ else some ⟨b, off + m1, none⟩) (m2 - m1) ((l.drop m1).take y) := by
  have e : m2 - m1 = y := by omega
  rw [e]
  split
  · have : y = 0 := by omega
    subst this
    exact ⟨by simp, by simp, fun h => by omega⟩
  · exact (h.cut m1 (by omega)).front y (by omega)

def RtPost (w : World) (p : Nat) (l : List Nat) (s : Ent.St) (e : Ending) (w' : World) : Prop :=
  ∃ v, e = .returned v ∧ Own w' w.heap.size v (Ent.rtxt l s).1 ∧ Rd 166 w' p (Ent.rtxt l s).2 l ∧ w.grownBy w' (some p)

theorem hasB_true {l : List Nat} {k : Nat} {s : Ent.St} (h : ¬ (s.2 = true ∨ l.length - s.1 < k)) : hasB l k s = true ∧ hasS l k s = s := by
  obtain ⟨i, sh⟩ := s
  have h1 : sh = false := by cases sh; rfl; exact absurd (.inl rfl) h
  subst h1
  have h2 : ¬ l.length - i < k := fun hh => h (.inr hh)
  unfold hasB hasS
  simp; omega
theorem hasB_false {l : List Nat} {k : Nat} {s : Ent.St} (h : s.2 = true ∨ l.length - s.1 < k) : hasB l k s = false ∧ hasS l k s = (s.1, true) := by
  obtain ⟨i, sh⟩ := s
  unfold hasB hasS
  rcases h with h | h
  · simp only at h; subst h; simp
  · simp only at h; simp; exact ⟨fun _ => h, .inr h⟩

set_option maxHeartbeats 400000 in
theorem rtext_bad1 (p : Nat) (s : Ent.St) (l : List Nat) (w : World) (hR : Rd 166 w p s l) (hl : l.length ≤ 200000) (h : s.2 = true ∨ l.length - s.1 < 1) :
    Calls Tryz.prog 52 #[.pointer (some ⟨p, 0, none⟩)] w (RtPost w p l s) := by
  have hn : Ent.rtxt l s = ([], (s.1, true)) := by unfold Ent.rtxt; rw [if_pos (by rcases h with h | h; exact .inl h; exact .inr (.inl h))]
  have c1 := has_any p 1 s l w hR hl (by omega)
  unfold HasPost at c1
  rw [(hasB_false h).1, (hasB_false h).2, show ((1 : Nat) : Int) = 1 from rfl] at c1
  have C1 := Lib.hid c1
  unfold RtPost
  rw [hn]
  clear hn hR c1
  go_enter Tryz.func52, Tryz.ntmps52
  go_wp2_with fail
  with_reducible refine C1.out.mono ?_
  rintro e w2 ⟨rfl, hR2, hg2⟩
  have HR2 := Lib.hid hR2
  clear hR2
  go_wp2
  go_ret
  exact ⟨_, rfl, Own.nil _ _, HR2.out, hg2⟩

set_option maxHeartbeats 400000 in
theorem rtext_bad2 (p i : Nat) (l : List Nat) (w : World) (hR : Rd 166 w p (i, false) l) (hl : l.length ≤ 200000) (h1 : 1 ≤ l.length - i) (h : l.length - i < 1 + l.getD i 0) :
    Calls Tryz.prog 52 #[.pointer (some ⟨p, 0, none⟩)] w (RtPost w p l (i, false)) := by
  have hn : Ent.rtxt l (i, false) = ([], (i, true)) := by unfold Ent.rtxt; rw [if_pos (.inr (.inr h))]
  have c1 := has_any p 1 (i, false) l w hR hl (by omega)
  have hT := hasB_true (l := l) (k := 1) (s := (i, false)) (by simp; omega)
  unfold HasPost at c1
  rw [hT.1, hT.2, show ((1 : Nat) : Int) = 1 from rfl] at c1
  have C1 := Lib.hid c1
  have hF := hasB_false (l := l) (k := 1 + l.getD i 0) (s := (i, false)) (.inr h)
  have hy : l.getD i 0 < 256 := getD_lt l hR.small i
  have c2 := fun W (hW : Rd 166 W p (i, false) l) => has_any p (1 + l.getD i 0) (i, false) l W hW hl (by omega)
  unfold HasPost at c2
  rw [hF.1, hF.2] at c2
  have C2 := Lib.hid c2
  unfold RtPost
  rw [hn]
  clear hn hR c1 c2 hT hF
  go_enter Tryz.func52, Tryz.ntmps52
  go_wp2_with fail
  with_reducible refine C1.out.mono ?_
  rintro e w2 ⟨rfl, hR2, hg2⟩
  have HR2 := Lib.hid hR2
  have HG2 := Lib.hid hg2
  obtain ⟨A, c, hL, hB, _, hi, _, _⟩ := hR2
  obtain ⟨b, off, rfl, hc⟩ := hB.2.2 (by simp at hi; omega)
  have hc0 := hL.cell 0
  have hc1 := hL.cell 1
  have hck := hc i (by omega)
  have hq1 : (i : Int) < (l.length : Int) := by omega
  simp only at hc0 hc1
  clear hL hB hc hg2 C1
  generalize l.getD i 0 = y at *
  go_wp2_with fail
  go_quiet (fail)
  have hyy : IntKind.i64.wrap (1 + (y : Int)) = ((1 + y : Nat) : Int) := by rw [IntWalk.i64_in _ (by omega)]; omega
  have c2 := C2.out _ (HR2.out.drewN nq)
  rw [show ((1 + y : Nat) : Int) = 1 + (y : Int) from by omega] at c2
  have C3 := Lib.hid c2
  clear c2 hyy
  go_wp2_with fail
  with_reducible refine C3.out.mono ?_
  rintro e w3 ⟨rfl, hR3, hg3⟩
  have HR3 := Lib.hid hR3
  clear hR3
  go_wp2
  go_ret
  exact ⟨_, rfl, Own.nil _ _, HR3.out, (grown_drewN HG2.out _).trans hg3⟩

set_option maxRecDepth 100000 in
set_option maxHeartbeats 1000000 in
theorem rtext_good (p i : Nat) (l : List Nat) (w : World) (hR : Rd 166 w p (i, false) l) (hl : l.length ≤ 200000) (h1 : 1 ≤ l.length - i) (h : 1 + l.getD i 0 ≤ l.length - i) :
    Calls Tryz.prog 52 #[.pointer (some ⟨p, 0, none⟩)] w (RtPost w p l (i, false)) := by
  have hn : Ent.rtxt l (i, false) = ((l.drop (i + 1)).take (l.getD i 0), (i + (1 + l.getD i 0), false)) := by unfold Ent.rtxt; rw [if_neg (by rintro (q | q | q); exact absurd q (by simp); exact absurd q (by simp only; omega); exact absurd q (by simp only; omega))]
  have c1 := has_any p 1 (i, false) l w hR hl (by omega)
  have hT := hasB_true (l := l) (k := 1) (s := (i, false)) (by simp; omega)
  unfold HasPost at c1
  rw [hT.1, hT.2, show ((1 : Nat) : Int) = 1 from rfl] at c1
  have C1 := Lib.hid c1
  have hF := hasB_true (l := l) (k := 1 + l.getD i 0) (s := (i, false)) (by rintro (q | q); exact absurd q (by simp); exact absurd q (by simp only; omega))
  have hy : l.getD i 0 < 256 := getD_lt l hR.small i
  have c2 := fun W (hW : Rd 166 W p (i, false) l) => has_any p (1 + l.getD i 0) (i, false) l W hW hl (by omega)
  unfold HasPost at c2
  rw [hF.1, hF.2] at c2
  have C2 := Lib.hid c2
  unfold RtPost
  rw [hn]
  generalize hr : (l.drop (i + 1)).take (l.getD i 0) = r
  generalize hz : i + (1 + l.getD i 0) = z
  have HRR := Lib.hid hr
  have HZZ := Lib.hid hz
  clear hn hR c1 c2 hT hF hr hz
  go_enter Tryz.func52, Tryz.ntmps52
  go_wp2_with fail
  with_reducible refine C1.out.mono ?_
  rintro e w2 ⟨rfl, hR2, hg2⟩
  have HR2 := Lib.hid hR2
  have HG2 := Lib.hid hg2
  obtain ⟨A, c, hL, hB, _, hi, _, _⟩ := hR2
  obtain ⟨b, off, rfl, hc⟩ := hB.2.2 (by simp at hi; omega)
  have hc0 := hL.cell 0
  have hc1 := hL.cell 1
  have hck := hc i (by omega)
  have hq1 : (i : Int) < (l.length : Int) := by omega
  simp only at hc0 hc1
  clear hL hB hc hg2 C1
  generalize hyl : l.getD i 0 = y at *
  have HYL := Lib.hid hyl
  clear hyl
  go_wp2_with fail
  go_quiet (fail)
  have c2 := C2.out _ (HR2.out.drewN nq)
  rw [show ((1 + y : Nat) : Int) = 1 + (y : Int) from by omega] at c2
  have C3 := Lib.hid c2
  clear c2 hc0 hc1 hck hq1
  go_wp2_with fail
  with_reducible refine C3.out.mono ?_
  rintro e w3 ⟨rfl, hR3, hg3⟩
  have HR3 := Lib.hid hR3
  have HG3 := Lib.hid ((grown_drewN HG2.out nq).trans hg3)
  obtain ⟨A, c', hL, hB, hlo, hi', hcl, hcm⟩ := hR3
  obtain ⟨b', off', rfl, hc⟩ := hB.2.2 (by omega)
  have HB3 := Lib.hid hB
  have hc0 := hL.cell 0
  have hc1 := hL.cell 1
  simp only at hc0 hc1
  obtain ⟨m1, hm1⟩ : ∃ m, i + 1 = m := ⟨_, rfl⟩
  obtain ⟨m2, hm2⟩ : ∃ m, i + (1 + y) = m := ⟨_, rfl⟩
  have hq1 : IntKind.i64.wrap ((i : Int) + 1) = ((m1 : Nat) : Int) := by rw [IntWalk.i64_in _ (by omega)]; omega
  have hq2 : IntKind.i64.wrap ((i : Int) + (1 + (y : Int))) = ((m2 : Nat) : Int) := by rw [IntWalk.i64_in _ (by omega)]; omega
  have b1 : (0 : Int) ≤ (m1 : Int) := by omega
  have b2 : (m1 : Int) ≤ (m2 : Int) := by omega
  have b3 : (m2 : Int) ≤ (c' : Int) := by omega
  have hf1 := hL.free 1
  obtain ⟨AD, hAD⟩ : ∃ AD, (if c' = m1 then some (⟨b', off', none⟩ : Addr) else some ⟨b', off' + m1, none⟩) = AD := ⟨_, rfl⟩
  have c4 := fresh_any AD (m2 - m1) (c' - m1) _ w3.drew (hAD ▸ bys_mid (m1 := m1) (m2 := m2) (y := y) (c := c') HB3.out.drew (by omega) (by omega) hcl) (by omega)
  have C4 := Lib.hid c4
  have HFF := Lib.hid (fun w' (hb : Below w3.drew.heap.size w3.drew w') => (Lies.below (w := w3.drew) hL hb hL.lt).free 1)
  have hcc : ∀ w', Below w3.drew.heap.size w3.drew w' → w'.cell? ⟨p, 0, none⟩ = some (.slice (some ⟨b', off', none⟩) l.length c') ∧ w'.cell? ⟨p, 1, none⟩ = some (.int .i64 (i : Nat)) := fun w' hb => ⟨(Lies.below (w := w3.drew) hL hb hL.lt).cell 0, (Lies.below (w := w3.drew) hL hb hL.lt).cell 1⟩
  have HCC := Lib.hid hcc
  clear hcc
  clear c4
  clear hL hB hc HG2 HR2 C2 C3 hg3
  go_wp2_with fail
  go_region_held3 (fun W => W.cell? ⟨p, 0, none⟩ = some (.slice (some ⟨b', off', none⟩) l.length c') ∧ W.cell? ⟨p, 1, none⟩ = some (.int .i64 (i : Nat))) (first | go_keep | exact HCC.out _ HB4.out)
    ((go_at_call 82; (with_reducible refine C4.out.mono ?_); rintro x w4 ⟨rfl, hO4, hb4⟩; have HO4 := Lib.hid hO4; have HB4 := Lib.hid hb4; have hf4 := HFF.out _ hb4; clear hO4 hb4))
  have hR4 := HR3.out.drew.below HB4.out
  have HR4 := Lib.hid hR4
  obtain ⟨A5, c5, hL5, _, _, _, _, _⟩ := hR4
  have HL5 := Lib.hid hL5
  clear hL5 hAD
  go_wp2
  go_ret
  refine ⟨_, rfl, ?_, ?_, grown_put (grown_below (grown_drew HG3.out) HB4.out) 1 _⟩
  · rw [← HRR.out, hm1]
    exact ((HO4.out.mono (show w.heap.size ≤ w3.heap.size from HG3.out.size)).setOther (a := ⟨p, 1, none⟩) (HO4.out.ne HL5.out (by decide)) _)
  · rw [← HZZ.out, hm2]
    exact HR4.out.put m2 (by omega)

theorem rtext_any (p : Nat) (s : Ent.St) (l : List Nat) (w : World) (hR : Rd 166 w p s l) (hl : l.length ≤ 200000) :
    Calls Tryz.prog 52 #[.pointer (some ⟨p, 0, none⟩)] w (RtPost w p l s) := by
  by_cases h : s.2 = true ∨ l.length - s.1 < 1
  · exact rtext_bad1 p s l w hR hl h
  · obtain ⟨i, sh⟩ := s
    have h1 : sh = false := by cases sh; rfl; exact absurd (.inl rfl) h
    subst h1
    have h2 : 1 ≤ l.length - i := by
      refine Classical.byContradiction fun hh => h (.inr ?_)
      simp only
      omega
    by_cases h3 : l.length - i < 1 + l.getD i 0
    · exact rtext_bad2 p i l w hR hl h2 h3
    · exact rtext_good p i l w hR hl h2 (by omega)

end Go.Proofs.YtpbclmnhkmcknaaGreat.Fe

namespace Go.Proofs.YtpbclmnhkmcknaaGreat.Fe
open Go.RowKit
set_option maxRecDepth 100000

theorem Own.grownOther {w w' : World} {B : Nat} {u : Value} {l : List Nat} {r : Option Nat} (h : Own w B u l) (hg : w.grownBy w' r) (hne : ∀ g, u.ownBlock = some g → r ≠ some g) : Own w' B u l := by
  obtain ⟨⟨h0, h1⟩, h2⟩ := h
  refine ⟨⟨h0, ?_⟩, h2⟩
  rcases h1 with h1 | ⟨g, cap, cur, hv, hg0, hh, hrr⟩
  · exact .inl h1
  · exact .inr ⟨g, cap, cur, hv, hg0, Lies.grown (t := 5) hh hg (fun e => hne g (by rw [hv]; rfl) e.symm), hrr⟩



/-- A byte of a row of the call's own is written over. -/
theorem Own.write {w : World} {B : Nat} {u : Value} {l : List Nat} (h : Own w B u l) (k : Nat) (hk : k < l.length) :
    ∃ g c, u = .slice (some ⟨g, 0, none⟩) l.length c ∧ (∃ z, w.cell? ⟨g, k, none⟩ = some z) ∧ w.frozen? ⟨g, k, none⟩ = false ∧ ∀ y : Nat, y < 256 → Own (w.setCell ⟨g, k, none⟩ (.int .u8 (y : Nat))) B u (l.set k y) := by
  rcases h.form with ⟨_, h0⟩ | ⟨g, cap, cur, rfl, hb, hL, hn, hm, hs, hc⟩
  · subst h0; simp at hk
  · refine ⟨g, cap, rfl, ⟨_, (hL.cell k).trans (hc k hk)⟩, hL.free k, fun y hy => ⟨⟨by simp [vals], .inr ⟨g, cap, cur.setIfInBounds k (.int .u8 (y : Nat)), by rw [List.length_set], hb, hL.put k _, by rw [List.length_set]; exact hn, hm, by rw [Array.size_setIfInBounds]; simpa using hs, ?_⟩⟩, ?_⟩⟩
    · apply List.ext_getElem?
      intro i
      rw [List.getElem?_take, List.length_set, Nat.mul_one, Array.getElem?_toList]
      by_cases hi : i < l.length
      · rw [if_pos hi, Array.getElem?_setIfInBounds]
        by_cases hki : k = i
        · subst hki
          rw [if_pos rfl, if_pos (by rw [hs]; omega)]
          simp [vals, hi]
        · rw [if_neg hki, hc i hi]
          simp [vals, hi, List.getD, List.getElem_set_ne hki]
      · rw [if_neg hi, List.getElem?_eq_none (by simp [vals]; omega)]
    · intro c hcm
      rcases List.mem_or_eq_of_mem_set hcm with h1 | h1
      · exact h.2 c h1
      · rw [h1]; exact hy

/-- Behind an append of one byte: the new row, and what was there. -/
structure App (w : World) (B : Nat) (v : Value) (l : List Nat) (y : Nat) (v' : Value) (w' : World) : Prop where
  own : Own w' B v' (l ++ [y])
  grown : w.grownBy w' v.ownBlock
  block : ∀ g, v'.ownBlock = some g → v.ownBlock = some g ∨ w.heap.size ≤ g
  keep : ∀ g j, v.ownBlock = some g → j < l.length → w'.cell? ⟨g, j, none⟩ = w.cell? ⟨g, j, none⟩

end Go.Proofs.YtpbclmnhkmcknaaGreat.Fe

namespace Go.Proofs.YtpbclmnhkmcknaaGreat.Fe
open Go.RowKit
set_option maxRecDepth 100000

theorem str_size (l : List Nat) : (str l).size = l.length := by
  have := congrArg List.length (str_data l)
  simpa using this
theorem str_at (l : List Nat) (hl : ∀ c ∈ l, c < 128) (i : Nat) (h : i < (str l).size) : ((str l)[i]'h).toNat = l.getD i 0 := by
  have hi : i < l.length := by rw [← str_size]; exact h
  have e : (str l)[i]'h = UInt8.ofNat l[i] := by
    show (str l).data[i] = _
    have h2 : (str l).data.toList[i]'(by rw [str_data]; simpa using hi) = UInt8.ofNat l[i] := by
      simp only [str_data, List.getElem_map]
    rw [← h2, Array.getElem_toList]
  rw [e]
  have : l[i] < 128 := hl _ (List.getElem_mem hi)
  simp [List.getD, hi]
  omega
/-- The iterator at block k, over the text of these letters, ahead of letter j. -/
def It (w : World) (k : Nat) (s : List Nat) (j : Nat) : Prop := w.heap[k]? = some (.stringIter (str s) j)
abbrev mv (w : World) (k : Nat) (s : List Nat) (j : Nat) : World := w.iterAt k (str s) j
theorem next_str {w : World} {k : Nat} {s : List Nat} {j : Nat} (h : It w k s j) (hj : j < s.length) (hs : ∀ c ∈ s, c < 128) (ty : TypeId) :
    (Instr.next (.pointer (some ⟨k, 0, none⟩)) true ty).run Tryz.prog w = .ok (.tuple #[.bool true, .int .i64 (j : Nat), .int .i32 ((s.getD j 0 : Nat) : Int)]) (mv w k s (j + 1)) := by
  have hsz : j < (str s).size := by rw [str_size]; exact hj
  have hb := str_at s hs j hsz
  have hl : s.getD j 0 < 128 := by
    rw [List.getD_eq_getElem?_getD, List.getElem?_eq_getElem hj]; exact hs _ (List.getElem_mem hj)
  rw [Lib.run_next_ascii_at w k (str s) j ty h hsz (by rw [hb]; exact hl), hb]
theorem next_fin {w : World} {k : Nat} {s : List Nat} {j : Nat} (h : It w k s j) (hj : ¬ j < s.length) (ty : TypeId) :
    (Instr.next (.pointer (some ⟨k, 0, none⟩)) true ty).run Tryz.prog w = .ok (.tuple #[.bool false]) w :=
  Lib.run_next_end_at w k (str s) j ty h (by rw [str_size]; exact hj)
theorem It.made (w : World) (s : List Nat) : It (w.iter (str s) 0) w.heap.size s 0 := World.iter_heap w (str s) 0
theorem It.mv {w : World} {k : Nat} {s : List Nat} {j : Nat} (h : It w k s j) (j' : Nat) : It (mv w k s j') k s j' := Lib.iterAt_heap w k (str s) j j' h
theorem It.lt {w : World} {k : Nat} {s : List Nat} {j : Nat} (h : It w k s j) : k < w.heap.size := heap_lt h
theorem It.below {w w' : World} {k B : Nat} {s : List Nat} {j : Nat} (h : It w k s j) (hb : Below B w w') (hk : k < B) : It w' k s j := (hb.block k hk).trans h
theorem It.keep {w w' : World} {k : Nat} {s : List Nat} {j : Nat} (h : It w k s j) (hk : Keep w w') : It w' k s j := hk.iter h
theorem It.pos {w : World} {k : Nat} {s : List Nat} {j : Nat} (h : It w k s j) : w.iterPos k = j := by
  unfold World.iterPos
  unfold It at h
  rw [h]
/-- Nothing else changes. -/
theorem mv_grown (w : World) (k : Nat) (s : List Nat) (j : Nat) : w.grownBy (mv w k s j) (some k) :=
  ⟨rfl, rfl, rfl, by rw [Lib.iterAt_size]; exact Nat.le_refl _, fun i _ hne => Lib.iterAt_other w k i (str s) j (fun e => hne (by rw [e]))⟩
theorem It.ne {w : World} {k : Nat} {s : List Nat} {j g : Nat} {t : TypeId} {cs : Array Value} (h : It w k s j) (hL : Lies w g t cs) : g ≠ k := by
  intro e
  subst e
  unfold Lies at hL
  unfold It at h
  rw [h] at hL
  cases hL
theorem Lies.mv {w : World} {g : Nat} {t : TypeId} {cs : Array Value} (h : Lies w g t cs) {k : Nat} {s : List Nat} {j : Nat} (hk : It w k s j) (j' : Nat) : Lies (mv w k s j') g t cs :=
  h.grown (mv_grown w k s j') (fun e => hk.ne h (by injection e))
theorem below_mv {B : Nat} {a w : World} (h : Below B a w) {k : Nat} (hk : B ≤ k) (s : List Nat) (j : Nat) : Below B a (mv w k s j) := Lib.below_iterAt h hk (str s) j
end Go.Proofs.YtpbclmnhkmcknaaGreat.Fe

namespace Go.Proofs.YtpbclmnhkmcknaaGreat.Fe
open Go.RowKit
set_option maxRecDepth 100000
set_option linter.unusedSimpArgs false

def BoolPost (b : Bool) (w : World) (x : Ending) (w' : World) : Prop := x = .returned (.bool b) ∧ Below w.heap.size w w'

set_option maxHeartbeats 400000 in
theorem isZero_69 (e : Note) (A1 A2 : Option Addr) (c1 c2 : Nat) (w : World) :
    Calls Tryz.prog 189 #[.agg (evs e (.slice A1 e.key.length c1) (.slice A2 e.data.length c2)), .int .i32 69] w (BoolPost (Ent.isZ 69 e) w) := by
  have b1 := fun o => below1 w o
  unfold BoolPost
  rw [show Ent.isZ 69 e = decide (e.epoch = 0) from rfl]
  generalize e.key.length = n1
  generalize e.data.length = n2
  go_enter Tryz.func189, Tryz.ntmps189
  go_wp2
  go_ret
  refine ⟨ret_bool ?_, b1 _⟩
  first | rfl | (rw [Bool.eq_iff_iff]; simp; done) | (rw [Bool.eq_iff_iff]; simp; omega)

set_option maxHeartbeats 400000 in
theorem isZero_80 (e : Note) (A1 A2 : Option Addr) (c1 c2 : Nat) (w : World) :
    Calls Tryz.prog 189 #[.agg (evs e (.slice A1 e.key.length c1) (.slice A2 e.data.length c2)), .int .i32 80] w (BoolPost (Ent.isZ 80 e) w) := by
  have b1 := fun o => below1 w o
  unfold BoolPost
  rw [show Ent.isZ 80 e = decide (e.old = 0) from rfl]
  generalize e.key.length = n1
  generalize e.data.length = n2
  go_enter Tryz.func189, Tryz.ntmps189
  go_wp2
  go_ret
  refine ⟨ret_bool ?_, b1 _⟩
  first | rfl | (rw [Bool.eq_iff_iff]; simp; done) | (rw [Bool.eq_iff_iff]; simp; omega)

set_option maxHeartbeats 400000 in
theorem isZero_76 (e : Note) (A1 A2 : Option Addr) (c1 c2 : Nat) (w : World) :
    Calls Tryz.prog 189 #[.agg (evs e (.slice A1 e.key.length c1) (.slice A2 e.data.length c2)), .int .i32 76] w (BoolPost (Ent.isZ 76 e) w) := by
  have b1 := fun o => below1 w o
  unfold BoolPost
  rw [show Ent.isZ 76 e = decide (e.lsn = 0) from rfl]
  generalize e.key.length = n1
  generalize e.data.length = n2
  go_enter Tryz.func189, Tryz.ntmps189
  go_wp2
  go_ret
  refine ⟨ret_bool ?_, b1 _⟩
  first | rfl | (rw [Bool.eq_iff_iff]; simp; done) | (rw [Bool.eq_iff_iff]; simp; omega)

set_option maxHeartbeats 400000 in
theorem isZero_84 (e : Note) (A1 A2 : Option Addr) (c1 c2 : Nat) (w : World) :
    Calls Tryz.prog 189 #[.agg (evs e (.slice A1 e.key.length c1) (.slice A2 e.data.length c2)), .int .i32 84] w (BoolPost (Ent.isZ 84 e) w) := by
  have b1 := fun o => below1 w o
  unfold BoolPost
  rw [show Ent.isZ 84 e = decide (e.tick = 0) from rfl]
  generalize e.key.length = n1
  generalize e.data.length = n2
  go_enter Tryz.func189, Tryz.ntmps189
  go_wp2
  go_ret
  refine ⟨ret_bool ?_, b1 _⟩
  first | rfl | (rw [Bool.eq_iff_iff]; simp; done) | (rw [Bool.eq_iff_iff]; simp; omega)

set_option maxHeartbeats 400000 in
theorem isZero_79 (e : Note) (A1 A2 : Option Addr) (c1 c2 : Nat) (w : World) :
    Calls Tryz.prog 189 #[.agg (evs e (.slice A1 e.key.length c1) (.slice A2 e.data.length c2)), .int .i32 79] w (BoolPost (Ent.isZ 79 e) w) := by
  have b1 := fun o => below1 w o
  unfold BoolPost
  rw [show Ent.isZ 79 e = decide (e.order = 0) from rfl]
  generalize e.key.length = n1
  generalize e.data.length = n2
  go_enter Tryz.func189, Tryz.ntmps189
  go_wp2
  go_ret
  refine ⟨ret_bool ?_, b1 _⟩
  first | rfl | (rw [Bool.eq_iff_iff]; simp; done) | (rw [Bool.eq_iff_iff]; simp; omega)

set_option maxHeartbeats 400000 in
theorem isZero_83 (e : Note) (A1 A2 : Option Addr) (c1 c2 : Nat) (w : World) :
    Calls Tryz.prog 189 #[.agg (evs e (.slice A1 e.key.length c1) (.slice A2 e.data.length c2)), .int .i32 83] w (BoolPost (Ent.isZ 83 e) w) := by
  have b1 := fun o => below1 w o
  unfold BoolPost
  rw [show Ent.isZ 83 e = decide (e.step = 0) from rfl]
  generalize e.key.length = n1
  generalize e.data.length = n2
  go_enter Tryz.func189, Tryz.ntmps189
  go_wp2
  go_ret
  refine ⟨ret_bool ?_, b1 _⟩
  first | rfl | (rw [Bool.eq_iff_iff]; simp; done) | (rw [Bool.eq_iff_iff]; simp; omega)

set_option maxHeartbeats 400000 in
theorem isZero_85 (e : Note) (A1 A2 : Option Addr) (c1 c2 : Nat) (w : World) :
    Calls Tryz.prog 189 #[.agg (evs e (.slice A1 e.key.length c1) (.slice A2 e.data.length c2)), .int .i32 85] w (BoolPost (Ent.isZ 85 e) w) := by
  have b1 := fun o => below1 w o
  unfold BoolPost
  rw [show Ent.isZ 85 e = !e.undo from rfl]
  generalize e.key.length = n1
  generalize e.data.length = n2
  go_enter Tryz.func189, Tryz.ntmps189
  go_wp2
  go_ret
  refine ⟨ret_bool ?_, b1 _⟩
  rfl

set_option maxHeartbeats 400000 in
theorem isZero_67 (e : Note) (A1 A2 : Option Addr) (c1 c2 : Nat) (w : World) :
    Calls Tryz.prog 189 #[.agg (evs e (.slice A1 e.key.length c1) (.slice A2 e.data.length c2)), .int .i32 67] w (BoolPost (Ent.isZ 67 e) w) := by
  have b1 := fun o => below1 w o
  unfold BoolPost
  rw [show Ent.isZ 67 e = decide (e.code = 0) from rfl]
  generalize e.key.length = n1
  generalize e.data.length = n2
  go_enter Tryz.func189, Tryz.ntmps189
  go_wp2
  go_ret
  refine ⟨ret_bool ?_, b1 _⟩
  first | rfl | (rw [Bool.eq_iff_iff]; simp; done) | (rw [Bool.eq_iff_iff]; simp; omega)

set_option maxHeartbeats 400000 in
theorem isZero_75 (e : Note) (A1 A2 : Option Addr) (c1 c2 : Nat) (w : World) :
    Calls Tryz.prog 189 #[.agg (evs e (.slice A1 e.key.length c1) (.slice A2 e.data.length c2)), .int .i32 75] w (BoolPost (Ent.isZ 75 e) w) := by
  have b1 := fun o => below1 w o
  unfold BoolPost
  rw [show Ent.isZ 75 e = decide (e.key.length = 0) from rfl]
  generalize e.key.length = n1
  generalize e.data.length = n2
  go_enter Tryz.func189, Tryz.ntmps189
  go_wp2
  go_ret
  refine ⟨ret_bool ?_, b1 _⟩
  first | rfl | (rw [Bool.eq_iff_iff]; simp; done) | (rw [Bool.eq_iff_iff]; simp; omega)

set_option maxHeartbeats 400000 in
theorem isZero_68 (e : Note) (A1 A2 : Option Addr) (c1 c2 : Nat) (w : World) :
    Calls Tryz.prog 189 #[.agg (evs e (.slice A1 e.key.length c1) (.slice A2 e.data.length c2)), .int .i32 68] w (BoolPost (Ent.isZ 68 e) w) := by
  have b1 := fun o => below1 w o
  unfold BoolPost
  rw [show Ent.isZ 68 e = decide (e.data.length = 0) from rfl]
  generalize e.key.length = n1
  generalize e.data.length = n2
  go_enter Tryz.func189, Tryz.ntmps189
  go_wp2
  go_ret
  refine ⟨ret_bool ?_, b1 _⟩
  first | rfl | (rw [Bool.eq_iff_iff]; simp; done) | (rw [Bool.eq_iff_iff]; simp; omega)

theorem isZero_any (e : Note) (A1 A2 : Option Addr) (c1 c2 : Nat) (c : Nat) (hc : c ∈ Ent.alpha) (w : World) :
    Calls Tryz.prog 189 #[.agg (evs e (.slice A1 e.key.length c1) (.slice A2 e.data.length c2)), .int .i32 (c : Nat)] w (BoolPost (Ent.isZ c e) w) := by
  rcases Ent.alpha_cases hc with rfl | rfl | rfl | rfl | rfl | rfl | rfl | rfl | rfl | rfl
  · exact isZero_69 e A1 A2 c1 c2 w
  · exact isZero_80 e A1 A2 c1 c2 w
  · exact isZero_76 e A1 A2 c1 c2 w
  · exact isZero_84 e A1 A2 c1 c2 w
  · exact isZero_79 e A1 A2 c1 c2 w
  · exact isZero_83 e A1 A2 c1 c2 w
  · exact isZero_85 e A1 A2 c1 c2 w
  · exact isZero_67 e A1 A2 c1 c2 w
  · exact isZero_75 e A1 A2 c1 c2 w
  · exact isZero_68 e A1 A2 c1 c2 w

set_option maxHeartbeats 400000 in
theorem inBounds_any (e : Note) (A1 A2 : Option Addr) (c1 c2 : Nat) (w : World) :
    Calls Tryz.prog 154 #[.agg (evs e (.slice A1 e.key.length c1) (.slice A2 e.data.length c2))] w (BoolPost (Ent.inB e) w) := by
  have b1 := fun o => below1 w o
  unfold BoolPost Ent.inB evs
  generalize e.key.length = n1
  generalize e.data.length = n2
  generalize e.step = st
  generalize e.code = cd
  by_cases h1 : 0 ≤ st
  · by_cases h2 : st < 16
    · by_cases h3 : 0 ≤ cd
      · by_cases h4 : cd ≤ 255
        · by_cases h5 : n1 ≤ 32
          · go_enter Tryz.func154, Tryz.ntmps154
            go_wp2
            go_ret
            exact ⟨ret_bool (by first | rfl | (rw [Bool.eq_iff_iff]; done) | (rw [Bool.eq_iff_iff]; simp; done) | (rw [Bool.eq_iff_iff]; simp; omega)), b1 _⟩
          · go_enter Tryz.func154, Tryz.ntmps154
            go_wp2
            go_ret
            exact ⟨ret_bool (by first | rfl | (rw [Bool.eq_iff_iff]; done) | (rw [Bool.eq_iff_iff]; simp; done) | (rw [Bool.eq_iff_iff]; simp; omega)), b1 _⟩
        · go_enter Tryz.func154, Tryz.ntmps154
          go_wp2
          go_ret
          exact ⟨ret_bool (by first | rfl | (rw [Bool.eq_iff_iff]; done) | (rw [Bool.eq_iff_iff]; simp; done) | (rw [Bool.eq_iff_iff]; simp; omega)), b1 _⟩
      · go_enter Tryz.func154, Tryz.ntmps154
        go_wp2
        go_ret
        exact ⟨ret_bool (by first | rfl | (rw [Bool.eq_iff_iff]; done) | (rw [Bool.eq_iff_iff]; simp; done) | (rw [Bool.eq_iff_iff]; simp; omega)), b1 _⟩
    · go_enter Tryz.func154, Tryz.ntmps154
      go_wp2
      go_ret
      exact ⟨ret_bool (by first | rfl | (rw [Bool.eq_iff_iff]; done) | (rw [Bool.eq_iff_iff]; simp; done) | (rw [Bool.eq_iff_iff]; simp; omega)), b1 _⟩
  · go_enter Tryz.func154, Tryz.ntmps154
    go_wp2
    go_ret
    exact ⟨ret_bool (by first | rfl | (rw [Bool.eq_iff_iff]; done) | (rw [Bool.eq_iff_iff]; simp; done) | (rw [Bool.eq_iff_iff]; simp; omega)), b1 _⟩

set_option maxHeartbeats 400000 in
theorem lacksKey_any (e : Note) (A1 A2 : Option Addr) (c1 c2 : Nat) (w : World) :
    Calls Tryz.prog 155 #[.agg (evs e (.slice A1 e.key.length c1) (.slice A2 e.data.length c2))] w (BoolPost (Ent.lackK e) w) := by
  have b1 := fun o => below1 w o
  unfold BoolPost Ent.lackK evs
  generalize e.key.length = n1
  generalize e.data.length = n2
  generalize e.kind = k
  by_cases h1 : k = 10
  · subst h1
    go_enter Tryz.func155, Tryz.ntmps155
    go_wp2
    go_ret
    exact ⟨ret_bool (by first | rfl | (rw [Bool.eq_iff_iff]; done) | (rw [Bool.eq_iff_iff]; simp; done) | (rw [Bool.eq_iff_iff]; simp; omega)), b1 _⟩
  · by_cases h2 : k = 11
    · subst h2
      go_enter Tryz.func155, Tryz.ntmps155
      go_wp2
      go_ret
      exact ⟨ret_bool (by first | rfl | (rw [Bool.eq_iff_iff]; done) | (rw [Bool.eq_iff_iff]; simp; done) | (rw [Bool.eq_iff_iff]; simp; omega)), b1 _⟩
    · by_cases h3 : k = 12
      · subst h3
        go_enter Tryz.func155, Tryz.ntmps155
        go_wp2
        go_ret
        exact ⟨ret_bool (by first | rfl | (rw [Bool.eq_iff_iff]; done) | (rw [Bool.eq_iff_iff]; simp; done) | (rw [Bool.eq_iff_iff]; simp; omega)), b1 _⟩
      · have g1 : (k == 10) = false := by rw [beq_eq_false_iff_ne]; omega
        have g2 : (k == 11) = false := by rw [beq_eq_false_iff_ne]; omega
        have g3 : (k == 12) = false := by rw [beq_eq_false_iff_ne]; omega
        go_enter Tryz.func155, Tryz.ntmps155
        go_wp2
        go_ret
        exact ⟨ret_bool (by first | rfl | (rw [Bool.eq_iff_iff]; done) | (rw [Bool.eq_iff_iff]; simp; done) | (rw [Bool.eq_iff_iff]; simp; omega)), b1 _⟩

end Go.Proofs.YtpbclmnhkmcknaaGreat.Fe

namespace Go.Proofs.YtpbclmnhkmcknaaGreat.Fe
open Go.RowKit
set_option maxRecDepth 100000

def OhR (w : World) (s : List Nat) (e : Note) (K D : Value) (_ : Value) (wr : World) : Prop :=
  ∃ j : Nat, j ≤ 10 ∧ It wr (w.heap.size + 1) Ent.alpha j ∧ Lies wr w.heap.size 55 (evs e K D) ∧ Below w.heap.size w wr ∧ ∀ i, i < j → Ent.fine s e (Ent.alpha.getD i 0) = true
theorem only_of (s : List Nat) (e : Note) (h : ∀ i, i < 10 → Ent.fine s e (Ent.alpha.getD i 0) = true) : Ent.only s e = true := by
  unfold Ent.only
  rw [List.all_eq_true]
  intro c hc
  obtain ⟨i, hi, rfl⟩ := List.mem_iff_getElem.1 hc
  have := h i hi
  simpa [List.getD, hi] using this
theorem only_not (s : List Nat) (e : Note) (j : Nat) (hj : j < 10) (h : Ent.fine s e (Ent.alpha.getD j 0) = false) : Ent.only s e = false := by
  unfold Ent.only
  rw [List.all_eq_false]
  have hj' : j < Ent.alpha.length := hj
  refine ⟨Ent.alpha[j], List.getElem_mem hj', ?_⟩
  rw [show Ent.alpha.getD j 0 = Ent.alpha[j] from by simp [List.getD, hj']] at h
  rw [h]; decide
theorem alpha_at (j : Nat) (hj : j < 10) : Ent.alpha.getD j 0 ∈ Ent.alpha := by
  have hj' : j < Ent.alpha.length := hj
  rw [show Ent.alpha.getD j 0 = Ent.alpha[j] from by simp [List.getD, hj']]
  exact List.getElem_mem hj'

set_option maxRecDepth 100000 in
set_option maxHeartbeats 1000000 in
theorem onlyHas_any (s : List Nat) (hs : ∀ x ∈ s, x < 128) (e : Note) (A1 A2 : Option Addr) (c1 c2 : Nat) (w : World) :
    Calls Tryz.prog 153 #[.agg (evs e (.slice A1 e.key.length c1) (.slice A2 e.data.length c2)), .string (str s)] w (BoolPost (Ent.only s e) w) := by
  have C1 := Lib.hid (fun c (hc : c < 128) W => contains_any s c (fun x hx => by have := hs x hx; omega) hc W)
  have C2 := Lib.hid (fun c (hc : c ∈ Ent.alpha) W => isZero_any e A1 A2 c1 c2 c hc W)
  unfold BoolPost at *
  generalize Value.slice A1 e.key.length c1 = K at *
  generalize Value.slice A2 e.data.length c2 = D at *
  go_enter Tryz.func153, Tryz.ntmps153
  go_wp2_with fail
  go_loopw [6] (OhR w s e K D) (fun _ wr => 10 - wr.iterPos (w.heap.size + 1))
  case atStart => exact ⟨0, by omega, by have := It.made (w.alloc (.cells (evs e K D) 55)) Ent.alpha; rw [size_one] at this; exact this, (Lies.made w 55 _).alloc _, (below1 w _).alloc (by simp) _, fun i hi => by omega⟩
  case round =>
    obtain ⟨j, hj, hit, hL, hbel, hf⟩ := hrel
    have hpos := hit.pos
    have HF := Lib.hid hf
    have HBE := Lib.hid hbel
    have HL := Lib.hid hL
    have HIT := Lib.hid hit
    clear hf hbel hL hit
    by_cases hp : j < 10
    · have hnx := next_str HIT.out hp Ent.alpha_small
      have hca := alpha_at j hp
      have hc := Ent.alpha_small _ hca
      have hL2 := HL.out.mv HIT.out (j + 1)
      have HL2 := Lib.hid hL2
      have HIT2 := Lib.hid (HIT.out.mv (j + 1))
      have HBE2 := Lib.hid (below_mv HBE.out (k := w.heap.size + 1) (by omega) Ent.alpha (j + 1))
      obtain ⟨W, hW⟩ : ∃ W, mv wr (w.heap.size + 1) Ent.alpha (j + 1) = W := ⟨_, rfl⟩
      rw [hW] at hL2 HL2 HIT2 HBE2
      simp only [hW] at hnx
      obtain ⟨e0, e1, e2, e3, e4, e5, e6, e7, e8, e9, e10⟩ := hL2.cellsE
      obtain ⟨c, hcc⟩ : ∃ c, Ent.alpha.getD j 0 = c := ⟨_, rfl⟩
      rw [hcc] at hca hc
      simp only [hcc] at hnx
      have HCC := Lib.hid hcc
      clear hcc hL2 hW HL HIT HBE
      have hfc : Ent.fine s e c = (s.contains c || Ent.isZ c e) := rfl
      have HFC := Lib.hid hfc
      have D1 := Lib.hid (C1.out c hc)
      have D2 := Lib.hid (C2.out c hca)
      clear hfc C1 C2
      generalize s.contains c = r1 at *
      generalize Ent.isZ c e = r2 at *
      go_wp2_with fail
      with_reducible refine (D1.out _).mono ?_
      rintro x w1 ⟨rfl, rfl⟩
      cases r1
      · go_wp2_with fail
        with_reducible refine (D2.out _).mono ?_
        rintro x w2 ⟨rfl, hb2⟩
        cases r2
        · go_wp2
          go_ret
          rw [only_not s e j hp (by rw [HCC.out, HFC.out]; rfl)]
          exact ⟨rfl, HBE2.out.trans (hb2.mono HBE2.out.size)⟩
        · go_wp2
          go_roundw
          case rel =>
            refine ⟨j + 1, by omega, HIT2.out.below hb2 HIT2.out.lt, HL2.out.below hb2 HL2.out.lt, HBE2.out.trans (hb2.mono HBE2.out.size), fun i hi => ?_⟩
            by_cases h : i < j
            · exact HF.out i h
            · have : i = j := by omega
              subst this
              rw [HCC.out, HFC.out]; rfl
          case measure =>
            rw [(HIT2.out.below hb2 HIT2.out.lt).pos, hpos]; omega
      · go_wp2
        go_roundw
        case rel =>
          refine ⟨j + 1, by omega, HIT2.out, HL2.out, HBE2.out, fun i hi => ?_⟩
          by_cases h : i < j
          · exact HF.out i h
          · have : i = j := by omega
            subst this
            rw [HCC.out, HFC.out]; rfl
        case measure =>
          rw [HIT2.out.pos, hpos]; omega
    · have hnx := next_fin HIT.out hp
      have hj10 : j = 10 := by omega
      have HJ := Lib.hid hj10
      clear hj10
      go_wp2
      go_ret
      rw [only_of s e (fun i hi => HF.out i (by rw [HJ.out]; exact hi))]
      exact ⟨rfl, HBE.out⟩

/-- The error's number. -/
def chkN (e : Note) : Nat := if Ent.ok e = true then 0 else 50
def ChkPost (e : Note) (w : World) (x : Ending) (w' : World) : Prop := x = .returned (.int .i64 (chkN e : Nat)) ∧ Below w.heap.size w w'
theorem chkN_of {e : Note} {b : Bool} (h : Ent.ok e = b) : chkN e = if b = true then 0 else 50 := by unfold chkN; rw [h]
theorem str_nil (s : List Nat) : ((str s).toList == ([] : List UInt8)) = decide (s = []) := by
  rw [str_toList]
  cases s <;> rfl

set_option maxRecDepth 100000 in
set_option maxHeartbeats 1000000 in
theorem check_any (e : Note) (A1 A2 : Option Addr) (c1 c2 : Nat) (w : World) :
    Calls Tryz.prog 128 #[.agg (evs e (.slice A1 e.key.length c1) (.slice A2 e.data.length c2))] w (ChkPost e w) := by
  have hf : Ent.ok e = (!decide (Ent.lets e.kind = []) && (Ent.only (Ent.lets e.kind) e && (Ent.inB e && !Ent.lackK e))) := rfl
  have C0 := fun W => Lib.hid (names_any e.kind W)
  have C1 := fun W => Lib.hid (onlyHas_any (Ent.lets e.kind) (fun x hx => Ent.alpha_small x (Ent.lets_sub _ x hx)) e A1 A2 c1 c2 W)
  have C2 := fun W => Lib.hid (inBounds_any e A1 A2 c1 c2 W)
  have C3 := fun W => Lib.hid (lacksKey_any e A1 A2 c1 c2 W)
  have hnil := str_nil (Ent.lets e.kind)
  generalize hK : Value.slice A1 e.key.length c1 = K at *
  generalize hD : Value.slice A2 e.data.length c2 = D at *
  clear hK hD
  unfold BoolPost at C1 C2 C3
  unfold NamesPost at C0
  unfold ChkPost
  generalize decide (Ent.lets e.kind = []) = r0 at *
  generalize Ent.only (Ent.lets e.kind) e = r1 at *
  generalize Ent.inB e = r2 at *
  generalize Ent.lackK e = r3 at *
  generalize str (Ent.lets e.kind) = S at *
  have HF := Lib.hid hf
  clear hf
  go_enter Tryz.func128, Tryz.ntmps128
  go_wp2_with fail
  with_reducible refine (C0 _).out.mono ?_
  rintro x w0 ⟨rfl, rfl⟩
  have b0 := below1 w (.cells (evs e K D) 55)
  have L0 := Lib.hid (Lies.made w 55 (evs e K D))
  cases r0
  · go_wp2_with fail
    with_reducible refine (C1 _).out.mono ?_
    rintro x w1 ⟨rfl, hb1⟩
    have b1 : Below w.heap.size w w1 := b0.trans (hb1.mono b0.size)
    have L1 := Lib.hid (L0.out.below hb1 L0.out.lt)
    obtain ⟨e0, e1, e2, e3, e4, e5, e6, e7, e8, e9, e10⟩ := L1.out.cellsE
    cases r1
    · go_wp2
      go_ret
      rw [chkN_of (b := false) (by rw [HF.out]; rfl)]
      exact ⟨rfl, b1⟩
    · go_wp2_with fail
      with_reducible refine (C2 _).out.mono ?_
      rintro x w2 ⟨rfl, hb2⟩
      have b2 : Below w.heap.size w w2 := b1.trans (hb2.mono b1.size)
      have L2 := Lib.hid (L1.out.below hb2 L1.out.lt)
      clear e0 e1 e2 e3 e4 e5 e6 e7 e8 e9 e10
      obtain ⟨e0, e1, e2, e3, e4, e5, e6, e7, e8, e9, e10⟩ := L2.out.cellsE
      cases r2
      · go_wp2
        go_ret
        rw [chkN_of (b := false) (by rw [HF.out]; rfl)]
        exact ⟨rfl, b2⟩
      · go_wp2_with fail
        with_reducible refine (C3 _).out.mono ?_
        rintro x w3 ⟨rfl, hb3⟩
        have b3 : Below w.heap.size w w3 := b2.trans (hb3.mono b2.size)
        clear e0 e1 e2 e3 e4 e5 e6 e7 e8 e9 e10
        cases r3
        · go_wp2
          go_ret
          rw [chkN_of (b := true) (by rw [HF.out]; rfl)]
          exact ⟨rfl, b3⟩
        · go_wp2
          go_ret
          rw [chkN_of (b := false) (by rw [HF.out]; rfl)]
          exact ⟨rfl, b3⟩
  · go_wp2
    go_ret
    rw [chkN_of (b := false) (by rw [HF.out]; rfl)]
    exact ⟨rfl, b0⟩

end Go.Proofs.YtpbclmnhkmcknaaGreat.Fe

namespace Go.Proofs.YtpbclmnhkmcknaaGreat.Fe
open Go.RowKit
attribute [local go_sem ↓] Go.wp_at_zero Go.wp_at_succ
set_option linter.unusedVariables false

theorem Wr.size {w : World} {p B : Nat} {l : List Nat} (h : Wr w p B l) : B ≤ w.heap.size := by
  obtain ⟨h1, v, hL, _⟩ := h
  exact Nat.le_trans h1 (Nat.le_of_lt hL.lt)
theorem flag_any (u : Bool) (w : World) : Calls Tryz.prog 151 #[.bool u] w fun x w' => x = .returned (.int .u8 (Ent.b2n u : Nat)) ∧ w = w' := by
  cases u
  · go_enter Tryz.func151, Tryz.ntmps151
    go_wp2
    go_ret
    exact ⟨rfl, rfl⟩
  · go_enter Tryz.func151, Tryz.ntmps151
    go_wp2
    go_ret
    exact ⟨rfl, rfl⟩

/-- A note's texts lie there, below B. -/
structure Txt (w : World) (B : Nat) (e : Note) (A1 A2 : Option Addr) (c1 c2 : Nat) : Prop where
  k : Bys w A1 e.key.length e.key
  kl : Low B A1 e.key.length
  ka : A1 = none → c1 = 0
  d : Bys w A2 e.data.length e.data
  dl : Low B A2 e.data.length
  da : A2 = none → c2 = 0
end Go.Proofs.YtpbclmnhkmcknaaGreat.Fe

namespace Go.Proofs.YtpbclmnhkmcknaaGreat.Fe
open Go.RowKit

/-- A note's slices read as its texts. -/
structure EntV (w : World) (e : Note) (A1 A2 : Option Addr) (c1 c2 : Nat) : Prop where
  k : Bys w A1 e.key.length e.key
  kc : e.key.length ≤ c1
  km : c1 ≤ maxLen
  ka : A1 = none → c1 = 0
  d : Bys w A2 e.data.length e.data
  dc : e.data.length ≤ c2
  dm : c2 ≤ maxLen
  da : A2 = none → c2 = 0
  b : Ent.Bnd e
theorem EntV.below {w w' : World} {e : Note} {A1 A2 : Option Addr} {c1 c2 : Nat} (h : EntV w e A1 A2 c1 c2) (hb : Below w.heap.size w w') : EntV w' e A1 A2 c1 c2 :=
  ⟨h.k.below hb, h.kc, h.km, h.ka, h.d.below hb, h.dc, h.dm, h.da, h.b⟩
end Go.Proofs.YtpbclmnhkmcknaaGreat.Fe

namespace Go.Proofs.YtpbclmnhkmcknaaGreat.Fe
open Go.RowKit
set_option maxRecDepth 100000
set_option linter.unusedVariables false

/-- A kept step in memory: with the values of its two slices. -/
structure Kx where
  k : Kp
  K : Value
  D : Value
/-- Its cells. -/
abbrev kc (x : Kx) : Array Value := #[.int .u32 (x.k.o : Int), .int .i64 x.k.s, .bool x.k.u, x.K, .int .i64 x.k.c, x.D]
/-- Its slices are values of one cell. -/
def One (x : Kx) : Prop := x.K.oneCell' = true ∧ x.D.oneCell' = true
/-- The cells of n of them, six each. -/
def kv (n : Nat) (X : Nat → Kx) : List Value := (List.range n).flatMap fun i => (kc (X i)).toList
theorem kv_succ (n : Nat) (X : Nat → Kx) : kv (n + 1) X = kv n X ++ (kc (X n)).toList := by simp [kv, List.range_succ]
theorem kv_length (n : Nat) (X : Nat → Kx) : (kv n X).length = n * 6 := by
  induction n with
  | zero => rfl
  | succ n ih => rw [kv_succ, List.length_append, ih]; simp; omega
theorem kv_at (n : Nat) (X : Nat → Kx) (i j : Nat) (hi : i < n) (hj : j < 6) : (kv n X)[i * 6 + j]? = (kc (X i)).toList[j]? := by
  induction n with
  | zero => omega
  | succ n ih =>
    rw [kv_succ]
    by_cases h : i < n
    · rw [List.getElem?_append_left (by rw [kv_length]; omega)]
      exact ih h
    · have : i = n := by omega
      subst this
      rw [List.getElem?_append_right (by rw [kv_length]; omega), kv_length]
      congr 1; omega
theorem kv_congr {n : Nat} {X X' : Nat → Kx} (h : ∀ i, i < n → X i = X' i) : kv n X = kv n X' := by
  induction n with
  | zero => rfl
  | succ n ih => rw [kv_succ, kv_succ, ih (fun i hi => h i (by omega)), h n (by omega)]
theorem kv_ext {n : Nat} {X : Nat → Kx} {xs : List Value} (hl : xs.length = n * 6) (h : ∀ i j, i < n → j < 6 → xs[i * 6 + j]? = (kc (X i)).toList[j]?) : xs = kv n X := by
  apply List.ext_getElem?
  intro k
  by_cases hk : k < n * 6
  · have e : k = (k / 6) * 6 + k % 6 := by omega
    rw [e, h (k / 6) (k % 6) (by omega) (by omega), kv_at n X (k / 6) (k % 6) (by omega) (by omega)]
  · rw [List.getElem?_eq_none (by omega), List.getElem?_eq_none (by rw [kv_length]; omega)]
theorem kv_add (n m : Nat) (X Y : Nat → Kx) : kv n X ++ kv m Y = kv (n + m) (fun i => if i < n then X i else Y (i - n)) := by
  refine kv_ext (by rw [List.length_append, kv_length, kv_length]; omega) (fun i j hi hj => ?_)
  by_cases h : i < n
  · rw [List.getElem?_append_left (by rw [kv_length]; omega), kv_at n X i j h hj, if_pos h]
  · rw [List.getElem?_append_right (by rw [kv_length]; omega), kv_length, if_neg h, show i * 6 + j - n * 6 = (i - n) * 6 + j by omega]
    exact kv_at m Y (i - n) j (by omega) hj
theorem kc_one (x : Kx) (h : One x) : ∀ u ∈ (kc x).toList, u.oneCell' = true := by
  intro u hu
  simp at hu
  rcases hu with rfl | rfl | rfl | rfl | rfl | rfl
  · rfl
  · rfl
  · rfl
  · exact h.1
  · rfl
  · exact h.2
theorem kv_one (n : Nat) (X : Nat → Kx) (h : ∀ i, i < n → One (X i)) : ∀ u ∈ kv n X, u.oneCell' = true := by
  induction n with
  | zero => intro u hu; simp [kv] at hu
  | succ n ih =>
    intro u hu
    rw [kv_succ] at hu
    rcases List.mem_append.1 hu with h' | h'
    · exact ih (fun i hi => h i (by omega)) u h'
    · exact kc_one _ (h n (by omega)) u h'

/-- What an element's slices read. -/
structure KT (w : World) (x : Kx) : Prop where
  a : Reads w x.K x.k.a
  r : Reads w x.D x.k.r
  o : x.k.o < 4294967296
  s : in64 x.k.s
  c : in64 x.k.c
theorem KT.below {w w' : World} {x : Kx} (h : KT w x) (hb : Below w.heap.size w w') : KT w' x := ⟨h.a.below hb, h.r.below hb, h.o, h.s, h.c⟩
theorem KT.drew {w : World} {x : Kx} (h : KT w x) : KT w.drew x := ⟨h.a, h.r, h.o, h.s, h.c⟩
theorem KT.one {w : World} {x : Kx} (h : KT w x) : One x := ⟨h.a.one, h.r.one⟩
/-- A slice of n kept steps. -/
def Ks (w : World) (A : Option Addr) (n : Nat) (X : Nat → Kx) : Prop :=
  (0 < n → ∃ b off, A = some ⟨b, off, none⟩ ∧ ∀ i, i < n → ∀ j, j < 6 → w.cell? ⟨b, off + i * 6 + j, none⟩ = (kc (X i)).toList[j]?) ∧ ∀ i, i < n → KT w (X i)
theorem Ks.below {w w' : World} {A : Option Addr} {n : Nat} {X : Nat → Kx} (h : Ks w A n X) (hb : Below w.heap.size w w') : Ks w' A n X := by
  refine ⟨fun h0 => ?_, fun i hi => (h.2 i hi).below hb⟩
  obtain ⟨b, off, e, hc⟩ := h.1 h0
  refine ⟨b, off, e, fun i hi j hj => ?_⟩
  have := hc i hi j hj
  have hs : (kc (X i)).toList[j]? = some ((kc (X i)).toList[j]'(by simpa using hj)) := List.getElem?_eq_getElem _
  rw [hs] at this ⊢
  rw [hb.cell (block_lt_of_cell this)]
  exact this
theorem Ks.drew {w : World} {A : Option Addr} {n : Nat} {X : Nat → Kx} (h : Ks w A n X) : Ks w.drew A n X := ⟨h.1, fun i hi => (h.2 i hi).drew⟩
theorem Ks.none_ (w : World) (A : Option Addr) (X : Nat → Kx) : Ks w A 0 X := ⟨fun h => by omega, fun i hi => by omega⟩

theorem Ks.at {w : World} {b off n : Nat} {X : Nat → Kx} (h : Ks w (some ⟨b, off, none⟩) n X) (i : Nat) (hi : i < n) :
    w.cell? ⟨b, off + i * 6, none⟩ = some (.int .u32 ((X i).k.o : Int)) ∧ w.cell? ⟨b, off + i * 6 + 1, none⟩ = some (.int .i64 (X i).k.s) ∧ w.cell? ⟨b, off + i * 6 + 2, none⟩ = some (.bool (X i).k.u) ∧ w.cell? ⟨b, off + i * 6 + 3, none⟩ = some ((X i).K) ∧ w.cell? ⟨b, off + i * 6 + 4, none⟩ = some (.int .i64 (X i).k.c) ∧ w.cell? ⟨b, off + i * 6 + 5, none⟩ = some ((X i).D) := by
  obtain ⟨b', off', e, hc⟩ := h.1 (by omega)
  injection e with e
  injection e with e1 e2 _
  subst e1 e2
  exact ⟨hc i hi 0 (by omega), hc i hi 1 (by omega), hc i hi 2 (by omega), hc i hi 3 (by omega), hc i hi 4 (by omega), hc i hi 5 (by omega)⟩
theorem Ks.cellsA {w : World} {A : Option Addr} {n : Nat} {X : Nat → Kx} (h : Ks w A n X) (ad : Addr) (hA : A = some ad) : ∀ j u, (kv n X)[j]? = some u → w.cell? (ad.add j) = some u := by
  intro j u hu
  have hj : j < n * 6 := by have := (List.getElem?_eq_some_iff.1 hu).1; rwa [kv_length] at this
  obtain ⟨b, off, e, hc⟩ := h.1 (by omega)
  rw [hA] at e
  injection e with e
  subst e
  have e6 : j = (j / 6) * 6 + j % 6 := by omega
  have := hc (j / 6) (by omega) (j % 6) (by omega)
  rw [e6, kv_at n X _ _ (by omega) (by omega)] at hu
  rw [add_off, e6, ← Nat.add_assoc, this, hu]
/-- A fence's list that came in: its value, its length, its elements. -/
def FV (w : World) (A : Option Addr) (n c : Nat) (T : Nat → Kp) : Prop := n ≤ c ∧ c ≤ maxLen ∧ (A = none → c = 0) ∧ ∃ X, Ks w A n X ∧ ∀ i, i < n → (X i).k = T i
theorem FV.below {w w' : World} {A : Option Addr} {n c : Nat} {T : Nat → Kp} (h : FV w A n c T) (hb : Below w.heap.size w w') : FV w' A n c T := by
  obtain ⟨h1, h2, h3, X, h4, h5⟩ := h
  exact ⟨h1, h2, h3, X, h4.below hb, h5⟩
theorem FV.drew {w : World} {A : Option Addr} {n c : Nat} {T : Nat → Kp} (h : FV w A n c T) : FV w.drew A n c T := by
  obtain ⟨h1, h2, h3, X, h4, h5⟩ := h
  exact ⟨h1, h2, h3, X, h4.drew, h5⟩
theorem FV.alloc {w : World} {A : Option Addr} {n c : Nat} {T : Nat → Kp} (h : FV w A n c T) (o : Obj) : FV (w.alloc o) A n c T := h.below (below1 w o)
theorem FV.nil (w : World) (T : Nat → Kp) : FV w none 0 0 T := ⟨Nat.le_refl _, by unfold maxLen; omega, fun _ => rfl, fun _ => ⟨kz, .slice none 0 0, .slice none 0 0⟩, Ks.none_ w _ _, fun i hi => by omega⟩
/-- A row of n kept steps that lies in a block of its own, not below B. -/
def OwnK (w : World) (B : Nat) (v : Value) (n : Nat) (X : Nat → Kx) : Prop := w.ownsRow B 130 6 v n (kv n X)
theorem OwnK.nil (w : World) (B : Nat) (X : Nat → Kx) : OwnK w B (.slice none 0 0) 0 X := ⟨rfl, .inl ⟨rfl, rfl⟩⟩
theorem OwnK.block {w : World} {B : Nat} {v : Value} {n : Nat} {X : Nat → Kx} (h : OwnK w B v n X) : ∀ k, v.ownBlock = some k → B ≤ k := by
  intro k hk
  rcases h.2 with ⟨rfl, _⟩ | ⟨g, cap, cur, rfl, hb, _⟩
  · cases hk
  · simp [Value.ownBlock] at hk; omega
theorem OwnK.blockLt {w : World} {B : Nat} {v : Value} {n : Nat} {X : Nat → Kx} (h : OwnK w B v n X) : ∀ k, v.ownBlock = some k → k < w.heap.size := by
  intro k hk
  rcases h.2 with ⟨rfl, _⟩ | ⟨g, cap, cur, rfl, hb, hg, _⟩
  · cases hk
  · simp [Value.ownBlock] at hk
    subst hk
    exact Lies.lt (t := 130) hg
theorem OwnK.same {w w' : World} {B : Nat} {v : Value} {n : Nat} {X : Nat → Kx} (h : OwnK w B v n X) (hs : ∀ k, v.ownBlock = some k → w'.heap[k]? = w.heap[k]?) : OwnK w' B v n X := by
  obtain ⟨h0, h1⟩ := h
  refine ⟨h0, ?_⟩
  rcases h1 with h1 | ⟨g, cap, cur, hv, hg0, hg, hr⟩
  · exact .inl h1
  · exact .inr ⟨g, cap, cur, hv, hg0, (hs g (by rw [hv]; rfl)).trans hg, hr⟩
theorem OwnK.belowT {w w' : World} {B : Nat} {v : Value} {n : Nat} {X : Nat → Kx} (h : OwnK w B v n X) (hb : Below w.heap.size w w') : OwnK w' B v n X :=
  h.same (fun k hk => hb.block k (h.blockLt k hk))
theorem OwnK.mono {w : World} {B B' : Nat} {v : Value} {n : Nat} {X : Nat → Kx} (h : OwnK w B v n X) (hb : B' ≤ B) : OwnK w B' v n X := by
  obtain ⟨h0, h1⟩ := h
  refine ⟨h0, ?_⟩
  rcases h1 with h1 | ⟨g, cap, cur, hv, hg0, hr⟩
  · exact .inl h1
  · exact .inr ⟨g, cap, cur, hv, Nat.le_trans hb hg0, hr⟩
theorem OwnK.congr {w : World} {B : Nat} {v : Value} {n : Nat} {X X' : Nat → Kx} (h : OwnK w B v n X) (hT : ∀ i, i < n → X i = X' i) : OwnK w B v n X' := by
  unfold OwnK; rw [← kv_congr hT]; exact h
theorem OwnK.grows {w w' a : World} {B B0 : Nat} {v : Value} {n : Nat} {X : Nat → Kx} (h : OwnK w B v n X) (hg : w.grownBy w' v.ownBlock) (hb : Below B0 a w) (h1 : B0 ≤ B) (h2 : B0 ≤ w.heap.size) : Below B0 a w' :=
  hb.grown hg h2 (fun k hk => Nat.le_trans h1 (h.block k hk))
theorem OwnK.ne {w : World} {B p : Nat} {v : Value} {n : Nat} {X : Nat → Kx} {t : TypeId} {cs : Array Value} (h : OwnK w B v n X) (hp : Lies w p t cs) (ht : t ≠ 130) : some p ≠ v.ownBlock := by
  rcases h.2 with ⟨rfl, _⟩ | ⟨g, cap, cur, rfl, _, hg, _⟩
  · simp [Value.ownBlock]
  · intro e
    have : p = g := by simpa [Value.ownBlock] using e
    subst this
    unfold Lies at hp
    rw [hg] at hp
    injection hp with hp
    injection hp with _ h2
    exact ht h2.symm
/-- A row of bytes behind an append to a row of kept steps. -/
theorem Own.grownK {w w' : World} {B B' : Nat} {v : Value} {n : Nat} {X : Nat → Kx} {u : Value} {l : List Nat} (h : Own w B u l) (hr : OwnK w B' v n X) (hg : w.grownBy w' v.ownBlock) : Own w' B u l := by
  refine h.grownOther hg (fun g e1 e2 => ?_)
  rcases h.form with ⟨rfl, _⟩ | ⟨g', cap, cur, rfl, _, hL, _⟩
  · cases e1
  · have : g' = g := by simpa [Value.ownBlock] using e1
    subst this
    exact hr.ne hL (by decide) e2.symm

/-- Six cells at a place of a block. -/
abbrev st6 (w : World) (g o : Nat) (a0 a1 a2 a3 a4 a5 : Value) : World := (((((w.setCell ⟨g, o, none⟩ a0).setCell ⟨g, o + 1, none⟩ a1).setCell ⟨g, o + 2, none⟩ a2).setCell ⟨g, o + 3, none⟩ a3).setCell ⟨g, o + 4, none⟩ a4).setCell ⟨g, o + 5, none⟩ a5
theorem below_st6 {B g o : Nat} {w0 w : World} (h : Below B w0 w) (hg : B ≤ g) (a0 a1 a2 a3 a4 a5 : Value) : Below B w0 (st6 w g o a0 a1 a2 a3 a4 a5) := ((((((h.setCell (p := ⟨g, o, none⟩) hg a0).setCell (p := ⟨g, o + 1, none⟩) hg a1).setCell (p := ⟨g, o + 2, none⟩) hg a2).setCell (p := ⟨g, o + 3, none⟩) hg a3).setCell (p := ⟨g, o + 4, none⟩) hg a4).setCell (p := ⟨g, o + 5, none⟩) hg a5)
theorem getElem_st6 (cur : Array Value) (o : Nat) (a0 a1 a2 a3 a4 a5 : Value) (ho : o + 6 ≤ cur.size) (k : Nat) :
    (((((((cur.setIfInBounds (o) a0).setIfInBounds (o + 1) a1).setIfInBounds (o + 2) a2).setIfInBounds (o + 3) a3).setIfInBounds (o + 4) a4).setIfInBounds (o + 5) a5))[k]? = if k = o then some a0 else if k = o + 1 then some a1 else if k = o + 2 then some a2 else if k = o + 3 then some a3 else if k = o + 4 then some a4 else if k = o + 5 then some a5 else cur[k]? := by
  simp only [Array.getElem?_setIfInBounds, Array.size_setIfInBounds]
  by_cases h0 : k = o
  · subst h0; simp; omega
  · by_cases h1 : k = o + 1
    · subst h1; simp; omega
    · by_cases h2 : k = o + 2
      · subst h2; simp; omega
      · by_cases h3 : k = o + 3
        · subst h3; simp; omega
        · by_cases h4 : k = o + 4
          · subst h4; simp; omega
          · by_cases h5 : k = o + 5
            · subst h5; simp; omega
            · rw [if_neg (by omega), if_neg (by omega), if_neg (by omega), if_neg (by omega), if_neg (by omega), if_neg (by omega), if_neg h0, if_neg h1, if_neg h2, if_neg h3, if_neg h4, if_neg h5]
/-- What can be said of the slice itself. -/
theorem OwnK.slice {w : World} {B : Nat} {v : Value} {n : Nat} {X : Nat → Kx} (h : OwnK w B v n X) :
    ∃ A c, v = .slice A n c ∧ n ≤ c ∧ c ≤ maxLen ∧ (A = none → c = 0) ∧ (0 < n → ∃ b off, A = some ⟨b, off, none⟩ ∧ off = 0 ∧ B ≤ b ∧ b < w.heap.size) := by
  rcases h.2 with ⟨h1, h2⟩ | ⟨g, cap, cur, hv, hb, hg, hn, hm, _⟩
  · subst h2
    exact ⟨none, 0, h1, by omega, by unfold maxLen; omega, fun _ => rfl, fun h => by omega⟩
  · exact ⟨_, cap, hv, hn, hm, fun h => (by cases h), fun _ => ⟨g, 0, rfl, rfl, hb, Lies.lt (t := 130) hg⟩⟩
theorem OwnK.ks {w : World} {B c : Nat} {A : Option Addr} {n : Nat} {X : Nat → Kx} (h : OwnK w B (.slice A n c) n X) (hk : ∀ i, i < n → KT w (X i)) : Ks w A n X := by
  refine ⟨fun h0 => ?_, hk⟩
  rcases h.2 with ⟨h1, h2⟩ | ⟨g, cap, cur, hv, hb, hg, hn, hm, hs, ht⟩
  · omega
  · injection hv with q1 q2 q3
    refine ⟨g, 0, q1, fun i hi j hj => ?_⟩
    rw [Lies.cell (t := 130) hg, Nat.zero_add, ← kv_at n X i j hi hj, ← ht, List.getElem?_take, if_pos (by omega), Array.getElem?_toList]
/-- The cells of the element at place i. -/
theorem OwnK.at {w : World} {B b off c : Nat} {n : Nat} {X : Nat → Kx} (h : OwnK w B (.slice (some ⟨b, off, none⟩) n c) n X) (i : Nat) (hi : i < n) :
    (w.cell? ⟨b, off + i * 6, none⟩ = some (.int .u32 ((X i).k.o : Int)) ∧ w.cell? ⟨b, off + i * 6 + 1, none⟩ = some (.int .i64 (X i).k.s) ∧ w.cell? ⟨b, off + i * 6 + 2, none⟩ = some (.bool (X i).k.u) ∧ w.cell? ⟨b, off + i * 6 + 3, none⟩ = some ((X i).K) ∧ w.cell? ⟨b, off + i * 6 + 4, none⟩ = some (.int .i64 (X i).k.c) ∧ w.cell? ⟨b, off + i * 6 + 5, none⟩ = some ((X i).D)) ∧
    (w.frozen? ⟨b, off + i * 6, none⟩ = false ∧ w.frozen? ⟨b, off + i * 6 + 1, none⟩ = false ∧ w.frozen? ⟨b, off + i * 6 + 2, none⟩ = false ∧ w.frozen? ⟨b, off + i * 6 + 3, none⟩ = false ∧ w.frozen? ⟨b, off + i * 6 + 4, none⟩ = false ∧ w.frozen? ⟨b, off + i * 6 + 5, none⟩ = false) := by
  rcases h.2 with ⟨h1, h2⟩ | ⟨g, cap, cur, hv, hb, hg, hn, hm, hs, ht⟩
  · cases h1
  · injection hv with q1 q2 q3
    injection q1 with q1
    injection q1 with q1 q4 _
    subst q1 q4
    have e : ∀ j, j < 6 → w.cell? ⟨b, 0 + i * 6 + j, none⟩ = (kc (X i)).toList[j]? := fun j hj => by
      rw [Lies.cell (t := 130) hg, Nat.zero_add, ← kv_at n X i j hi hj, ← ht, List.getElem?_take, if_pos (by omega), Array.getElem?_toList]
    exact ⟨⟨e 0 (by omega), e 1 (by omega), e 2 (by omega), e 3 (by omega), e 4 (by omega), e 5 (by omega)⟩, Lies.free (t := 130) hg _, Lies.free (t := 130) hg _, Lies.free (t := 130) hg _, Lies.free (t := 130) hg _, Lies.free (t := 130) hg _, Lies.free (t := 130) hg _⟩
/-- An element is stored at place i. -/
theorem OwnK.set {w : World} {B b off c : Nat} {n : Nat} {X : Nat → Kx} (h : OwnK w B (.slice (some ⟨b, off, none⟩) n c) n X) (i : Nat) (hi : i < n) (x : Kx) :
    OwnK (st6 w b (off + i * 6) (.int .u32 (x.k.o : Int)) (.int .i64 x.k.s) (.bool x.k.u) (x.K) (.int .i64 x.k.c) (x.D)) B (.slice (some ⟨b, off, none⟩) n c) n (fun j => if j = i then x else X j) := by
  refine ⟨kv_length _ _, ?_⟩
  rcases h.2 with ⟨h1, h2⟩ | ⟨g, cap, cur, hv, hb, hg, hn, hm, hs, ht⟩
  · cases h1
  · have hv' := hv
    injection hv with q1 q2 q3
    injection q1 with q1
    injection q1 with q1 q4 _
    subst q1 q4 q3
    rw [Nat.zero_add]
    refine .inr ⟨b, c, _, rfl, hb, (((((Lies.put (t := 130) hg (i * 6) _).put (i * 6 + 1) _).put (i * 6 + 2) _).put (i * 6 + 3) _).put (i * 6 + 4) _).put (i * 6 + 5) _, hn, hm, by simpa using hs, ?_⟩
    refine kv_ext (by simp [hs]; omega) (fun k j hk hj => ?_)
    rw [List.getElem?_take, if_pos (by omega), Array.getElem?_toList, getElem_st6 _ _ _ _ _ _ _ _ (by rw [hs]; omega)]
    by_cases hki : k = i
    · subst hki
      rw [if_pos rfl]
      rcases j with _ | _ | _ | _ | _ | _ | j
      · rw [if_pos (by omega)]; rfl
      · rw [if_neg (by omega), if_pos (by omega)]; rfl
      · rw [if_neg (by omega), if_neg (by omega), if_pos (by omega)]; rfl
      · rw [if_neg (by omega), if_neg (by omega), if_neg (by omega), if_pos (by omega)]; rfl
      · rw [if_neg (by omega), if_neg (by omega), if_neg (by omega), if_neg (by omega), if_pos (by omega)]; rfl
      · rw [if_neg (by omega), if_neg (by omega), if_neg (by omega), if_neg (by omega), if_neg (by omega), if_pos (by omega)]; rfl
      · omega
    · rw [if_neg (by omega), if_neg (by omega), if_neg (by omega), if_neg (by omega), if_neg (by omega), if_neg (by omega), if_neg hki, ← kv_at n X k j hk hj, ← ht, List.getElem?_take, if_pos (by omega), Array.getElem?_toList]

def zK : Value := .agg #[.int .u32 0, .int .i64 0, .bool false, .slice none 0 0, .int .i64 0, .slice none 0 0]
/-- 'append' of kept steps onto a row of the call's own. -/
theorem wpl_appendK {ops : Array Oper} {rest : List Oper} {a : Act} {w : World} {Q : Exit → Act → World → Prop} (dst : Option Tmp) (ty : TypeId) (pos : String) (aft : Array Edge) (s x : Operand)
    (B : Nat) (v : Value) (n : Nat) (X : Nat → Kx) (A : Option Addr) (m c : Nat) (Y : Nat → Kx)
    (hs : a.eval s = v) (hx : a.eval x = .slice A m c) (hown : OwnK w B v n X) (hsrc : Ks w A m Y) (hA : A = none → c = 0 ∧ m = 0) (hsm : n + m ≤ 100000) (hB : B ≤ w.heap.size)
    (h : ∀ v' w', OwnK w' B v' (n + m) (fun i => if i < n then X i else Y (i - n)) → w.grownBy w' v.ownBlock → (v'.ownBlock = v.ownBlock ∨ v'.ownBlock = some w.heap.size) → wpList Tryz.prog ops Q rest (a.put dst v') w') :
    wpList Tryz.prog ops Q (⟨dst, .call { callee := .builtin .append, args := #[s, x], argTypes := #[62, 62] }, ty, pos, aft, none⟩ :: rest) a w := by
  rcases A with _ | ad
  · obtain ⟨hc0, hm⟩ := hA rfl
    subst hm hc0
    refine wpList_append_own_none (o := ⟨dst, .call { callee := .builtin .append, args := #[s, x], argTypes := #[62, 62] }, ty, pos, aft, none⟩) rfl s x 62 rfl B 130 _ 6 Tryz.underlying62 Tryz.type130 v n (kv n X) hs hown hx ?_
    exact h v w (hown.congr (fun i hi => by rw [if_pos hi])) (World.grownBy.refl w _) (.inl rfl)
  · refine wpList_append_own_at (w := w) (o := ⟨dst, .call { callee := .builtin .append, args := #[s, x], argTypes := #[62, 62] }, ty, pos, aft, none⟩) rfl s x 62 rfl B 130 _ zK 6 80 Tryz.underlying62 Tryz.type130 rfl rfl rfl rfl (by decide) v n (kv n X) hs hown
      ad m c (kv m Y) hx (by rw [kv_length]) (hsrc.cellsA ad rfl) (kv_one m Y (fun i hi => (hsrc.2 i hi).one)) (by unfold maxLen; omega) (by omega) hB ?_
    intro v' w' h1 h2 _ h4
    refine h v' w' ?_ h2 h4
    unfold OwnK
    rw [← kv_add]
    exact h1
/-- A list that a call has made: its row and its texts lie in blocks of their own, each in one. -/
structure NF (w : World) (B : Nat) (v : Value) (n : Nat) (X : Nat → Kx) : Prop where
  row : OwnK w B v n X
  a : ∀ i, i < n → Own w B (X i).K (X i).k.a
  r : ∀ i, i < n → Own w B (X i).D (X i).k.r
  b : ∀ i, i < n → (X i).k.o < 4294967296 ∧ in64 (X i).k.s ∧ in64 (X i).k.c
  da : ∀ i j, i < n → j < i → ∀ g, (X j).K.ownBlock = some g → (X i).K.ownBlock ≠ some g
  dr : ∀ i j, i < n → j < i → ∀ g, (X j).D.ownBlock = some g → (X i).D.ownBlock ≠ some g
theorem NF.nil (w : World) (B : Nat) (X : Nat → Kx) : NF w B (.slice none 0 0) 0 X := ⟨OwnK.nil w B X, fun i hi => (by omega), fun i hi => (by omega), fun i hi => (by omega), fun i j hi => (by omega), fun i j hi => (by omega)⟩
theorem NF.kt {w : World} {B : Nat} {v : Value} {n : Nat} {X : Nat → Kx} (h : NF w B v n X) : ∀ i, i < n → KT w (X i) := fun i hi => ⟨(h.a i hi).reads, (h.r i hi).reads, (h.b i hi).1, (h.b i hi).2.1, (h.b i hi).2.2⟩
theorem NF.below {w w' : World} {B : Nat} {v : Value} {n : Nat} {X : Nat → Kx} (h : NF w B v n X) (hb : Below w.heap.size w w') : NF w' B v n X :=
  ⟨h.row.belowT hb, fun i hi => (h.a i hi).belowOwn hb, fun i hi => (h.r i hi).belowOwn hb, h.b, h.da, h.dr⟩
theorem NF.mono {w : World} {B B' : Nat} {v : Value} {n : Nat} {X : Nat → Kx} (h : NF w B v n X) (hb : B' ≤ B) : NF w B' v n X :=
  ⟨h.row.mono hb, fun i hi => (h.a i hi).mono hb, fun i hi => (h.r i hi).mono hb, h.b, h.da, h.dr⟩
theorem NF.fv {w : World} {B : Nat} {v : Value} {n : Nat} {X : Nat → Kx} {T : Nat → Kp} (h : NF w B v n X) (e : ∀ i, i < n → (X i).k = T i) : ∃ A c, v = .slice A n c ∧ FV w A n c T := by
  obtain ⟨A, c, rfl, h1, h2, h3, _⟩ := h.row.slice
  exact ⟨A, c, rfl, h1, h2, h3, X, h.row.ks h.kt, e⟩

end Go.Proofs.YtpbclmnhkmcknaaGreat.Fe

namespace Go.Proofs.YtpbclmnhkmcknaaGreat.Fe
open Go.RowKit
set_option linter.unusedVariables false

def one : Nat → Bool := fun n => n == 1
/-- All blocks but two are as they were. -/
structure Still (p q : Nat) (w w' : World) : Prop where
  os : w'.os = w.os
  tape : w'.tape = w.tape
  output : w'.output = w.output
  size : w.heap.size ≤ w'.heap.size
  block : ∀ k, k < w.heap.size → k ≠ p → k ≠ q → w'.heap[k]? = w.heap[k]?
theorem Still.it {p q : Nat} {w w' : World} (h : Still p q w w') {k : Nat} {s : List Nat} {j : Nat} (hp : k ≠ p) (hq : k ≠ q) (hI : It w k s j) : It w' k s j := (h.block k hI.lt hp hq).trans hI
end Go.Proofs.YtpbclmnhkmcknaaGreat.Fe

namespace Go.Proofs.YtpbclmnhkmcknaaGreat.Fe
open Go.RowKit
set_option maxRecDepth 100000

set_option maxHeartbeats 400000 in
theorem equal_any (a b : Option Addr) (n m c d : Nat) (la lb : List Nat) (w : World) (hA : Bys w a n la) (hB : Bys w b m lb) :
    Calls Tryz.prog 99 #[.slice a n c, .slice b m d] w fun e w' => e = .returned (.bool (sameB la lb)) ∧ w = w' := by
  have r1 := run_str hA c
  have r2 := run_str hB d
  have r3 := str_eq la lb hA.2.1 hB.2.1
  clear hA hB
  go_enter Tryz.func99, Tryz.ntmps99
  go_wp2
  go_ret
  exact ⟨rfl, rfl⟩

theorem results_cell_run {fn : Func} {p u : Tmp} {ty : TypeId} (h : fn.results = #[.cell p ty, .tmp u]) (tmps : Array Value) (w : World) (g : Nat) (cs : Array Value)
    (hp : tmps.getD p undef = .pointer (some ⟨g, 0, none⟩)) (hr : (loadVar ty ⟨g, 0, none⟩).run Tryz.prog w = .ok (.agg cs) w) :
    (results fn tmps).run Tryz.prog w = .ok (.tuple #[.agg cs, tmps.getD u undef]) w := by
  rw [results_cell_tmp h, hp]
  simp [asAddr, hr, Result.andThen]
end Go.Proofs.YtpbclmnhkmcknaaGreat.Fe
