/-
  The contracts of package field's reader: U8, U32, U64, Text, NewReader.
-/
import Derived.Test.YtfcfejmammohpaaRdr
import Derived.Deep.RegionHeld3
namespace Go.Proofs.Ytfcfejmammohpaa
open Go.RowKit
set_option maxRecDepth 100000
attribute [local go_sem ↓] Go.wp_at_zero Go.wp_at_succ

theorem Rd.small {T : TypeId} {w : World} {p : Nat} {s : Ent.St} {l : List Nat} (h : Rd T w p s l) : ∀ c ∈ l, c < 256 := by
  obtain ⟨A, c, _, hB, _⟩ := h
  exact hB.2.1

def Ru8Post (w : World) (p : Nat) (l : List Nat) (s : Ent.St) (e : Ending) (w' : World) : Prop :=
  e = .returned (.int .u8 ((Ent.rnum l 1 s).1 : Nat)) ∧ Rd 135 w' p (Ent.rnum l 1 s).2 l ∧ w.grownBy w' (some p)
def Ru32Post (w : World) (p : Nat) (l : List Nat) (s : Ent.St) (e : Ending) (w' : World) : Prop :=
  e = .returned (.int .u32 ((Ent.rnum l 4 s).1 : Nat)) ∧ Rd 135 w' p (Ent.rnum l 4 s).2 l ∧ w.grownBy w' (some p)
def Ru64Post (w : World) (p : Nat) (l : List Nat) (s : Ent.St) (e : Ending) (w' : World) : Prop :=
  e = .returned (.int .u64 ((Ent.rnum l 8 s).1 : Nat)) ∧ Rd 135 w' p (Ent.rnum l 8 s).2 l ∧ w.grownBy w' (some p)

set_option maxHeartbeats 400000 in
theorem ru8_any (p : Nat) (s : Ent.St) (l : List Nat) (w : World) (hR : Rd 135 w p s l) (hl : l.length ≤ 200000) :
    Calls Try.prog 60 #[.pointer (some ⟨p, 0, none⟩)] w (Ru8Post w p l s) := by
  have hv : (Ent.rnum l 1 s).1 < 256 := Ent.rnum_lt l hR.small 1 s
  have c2 := rnumber_any p 1 s l w hR (by omega) hl
  unfold RnPost at c2
  unfold Ru8Post
  rw [show ((1 : Nat) : Int) = 1 from rfl] at c2
  generalize Ent.rnum l 1 s = r at *
  obtain ⟨x, s'⟩ := r
  simp only at hv c2 ⊢
  have C2 := Lib.hid c2
  clear c2 hR
  go_enter Try.func60, Try.ntmps60
  go_wp2_with fail
  with_reducible refine C2.out.mono ?_
  rintro e w2 ⟨rfl, hR2, hb2⟩
  have HR2 := Lib.hid hR2
  clear hR2 C2
  go_wp2
  go_ret
  exact ⟨rfl, HR2.out, hb2⟩

set_option maxHeartbeats 400000 in
theorem ru32_any (p : Nat) (s : Ent.St) (l : List Nat) (w : World) (hR : Rd 135 w p s l) (hl : l.length ≤ 200000) :
    Calls Try.prog 59 #[.pointer (some ⟨p, 0, none⟩)] w (Ru32Post w p l s) := by
  have hv : (Ent.rnum l 4 s).1 < 4294967296 := Ent.rnum_lt l hR.small 4 s
  have c2 := rnumber_any p 4 s l w hR (by omega) hl
  unfold RnPost at c2
  unfold Ru32Post
  rw [show ((4 : Nat) : Int) = 4 from rfl] at c2
  generalize Ent.rnum l 4 s = r at *
  obtain ⟨x, s'⟩ := r
  simp only at hv c2 ⊢
  have C2 := Lib.hid c2
  clear c2 hR
  go_enter Try.func59, Try.ntmps59
  go_wp2_with fail
  with_reducible refine C2.out.mono ?_
  rintro e w2 ⟨rfl, hR2, hb2⟩
  have HR2 := Lib.hid hR2
  clear hR2 C2
  go_wp2
  go_ret
  exact ⟨rfl, HR2.out, hb2⟩

def NrPost (w : World) (l : List Nat) (e : Ending) (w' : World) : Prop :=
  ∃ p, e = .returned (.pointer (some ⟨p, 0, none⟩)) ∧ Rd 135 w' p (0, false) l ∧ Below w.heap.size w w' ∧ w.heap.size ≤ p

set_option maxHeartbeats 400000 in
theorem newReader_any (a : Option Addr) (n cap : Nat) (l : List Nat) (w : World) (hB : Bys w a n l) (hn : n ≤ 200000) :
    Calls Try.prog 58 #[.slice a n cap] w (NrPost w l) := by
  have HB := Lib.hid hB
  clear hB
  go_enter Try.func58, Try.ntmps58
  go_wp2_with fail
  with_reducible refine (fresh_any _ _ _ _ _ HB.out (by omega)).mono ?_
  rintro e w2 ⟨rfl, hO2, hb2⟩
  have HO2 := Lib.hid hO2
  clear hO2
  go_wp2
  go_ret
  refine ⟨w2.heap.size, rfl, ⟨some ⟨w.heap.size, 0, none⟩, n, ?_, ?_, ?_, Nat.zero_le _, ?_, ?_⟩, hb2.alloc hb2.size _, hb2.size⟩
  · rw [HB.out.1]; exact Lies.made w2 135 _
  · rw [HB.out.1]; exact (HO2.out.alloc _).bys.1
  · intro ad e
    injection e with e
    subst e
    exact HO2.out.lt _ rfl
  · rw [HB.out.1]; exact Nat.le_refl _
  · exact small_len _ (by omega)

theorem Bys.cut {w : World} {b off n : Nat} {l : List Nat} (h : Bys w (some ⟨b, off, none⟩) n l) (k : Nat) (hk : k ≤ n) : Bys w (some ⟨b, off + k, none⟩) (n - k) (l.drop k) := by
  obtain ⟨h1, h2, h3⟩ := h
  refine ⟨by rw [List.length_drop]; omega, fun c hc => h2 c (List.mem_of_mem_drop hc), fun h0 => ?_⟩
  obtain ⟨b', off', e, hc⟩ := h3 (by omega)
  injection e with e
  injection e with e1 e2 _
  subst e1 e2
  refine ⟨b, off + k, rfl, fun i hi => ?_⟩
  rw [Nat.add_assoc, hc (k + i) (by omega)]
  simp [List.getD]

theorem bys_mid {w : World} {b off n c m1 m2 y : Nat} {l : List Nat} (h : Bys w (some ⟨b, off, none⟩) n l) (h1 : m1 + y = m2) (h2 : m2 ≤ n) (h3 : n ≤ c) :
    Bys w (if c = m1 then some ⟨b, off, none⟩ else some ⟨b, off + m1, none⟩) (m2 - m1) ((l.drop m1).take y) := by
  have e : m2 - m1 = y := by omega
  rw [e]
  split
  · have : y = 0 := by omega
    subst this
    exact ⟨by simp, by simp, fun h => by omega⟩
  · exact (h.cut m1 (by omega)).front y (by omega)

def RtPost (w : World) (p : Nat) (l : List Nat) (s : Ent.St) (e : Ending) (w' : World) : Prop :=
  ∃ v, e = .returned v ∧ Own w' w.heap.size v (Ent.rtxt l s).1 ∧ Rd 135 w' p (Ent.rtxt l s).2 l ∧ w.grownBy w' (some p)

theorem hasB_true {l : List Nat} {k : Nat} {s : Ent.St} (h : ¬ (s.2 = true ∨ l.length - s.1 < k)) : hasB l k s = true ∧ hasS l k s = s := by
  obtain ⟨i, sh⟩ := s
  have h1 : sh = false := by cases sh; rfl; exact absurd (.inl rfl) h
  subst h1
  have h2 : ¬ l.length - i < k := fun hh => h (.inr hh)
  unfold hasB hasS
  simp; omega
theorem hasB_false {l : List Nat} {k : Nat} {s : Ent.St} (h : s.2 = true ∨ l.length - s.1 < k) : hasB l k s = false ∧ hasS l k s = (s.1, true) := by
  obtain ⟨i, sh⟩ := s
  unfold hasB hasS
  rcases h with h | h
  · simp only at h; subst h; simp
  · simp only at h; simp; exact ⟨fun _ => h, .inr h⟩

set_option maxHeartbeats 400000 in
theorem rtext_bad1 (p : Nat) (s : Ent.St) (l : List Nat) (w : World) (hR : Rd 135 w p s l) (hl : l.length ≤ 200000) (h : s.2 = true ∨ l.length - s.1 < 1) :
    Calls Try.prog 85 #[.pointer (some ⟨p, 0, none⟩)] w (RtPost w p l s) := by
  have hn : Ent.rtxt l s = ([], (s.1, true)) := by unfold Ent.rtxt; rw [if_pos (by rcases h with h | h; exact .inl h; exact .inr (.inl h))]
  have c1 := has_any p 1 s l w hR hl (by omega)
  unfold HasPost at c1
  rw [(hasB_false h).1, (hasB_false h).2, show ((1 : Nat) : Int) = 1 from rfl] at c1
  have C1 := Lib.hid c1
  unfold RtPost
  rw [hn]
  clear hn hR c1
  go_enter Try.func85, Try.ntmps85
  go_wp2_with fail
  with_reducible refine C1.out.mono ?_
  rintro e w2 ⟨rfl, hR2, hg2⟩
  have HR2 := Lib.hid hR2
  clear hR2
  go_wp2
  go_ret
  exact ⟨_, rfl, Own.nil _ _, HR2.out, hg2⟩

set_option maxHeartbeats 400000 in
theorem rtext_bad2 (p i : Nat) (l : List Nat) (w : World) (hR : Rd 135 w p (i, false) l) (hl : l.length ≤ 200000) (h1 : 1 ≤ l.length - i) (h : l.length - i < 1 + l.getD i 0) :
    Calls Try.prog 85 #[.pointer (some ⟨p, 0, none⟩)] w (RtPost w p l (i, false)) := by
  have hn : Ent.rtxt l (i, false) = ([], (i, true)) := by unfold Ent.rtxt; rw [if_pos (.inr (.inr h))]
  have c1 := has_any p 1 (i, false) l w hR hl (by omega)
  have hT := hasB_true (l := l) (k := 1) (s := (i, false)) (by simp; omega)
  unfold HasPost at c1
  rw [hT.1, hT.2, show ((1 : Nat) : Int) = 1 from rfl] at c1
  have C1 := Lib.hid c1
  have hF := hasB_false (l := l) (k := 1 + l.getD i 0) (s := (i, false)) (.inr h)
  have hy : l.getD i 0 < 256 := getD_lt l hR.small i
  have c2 := fun W (hW : Rd 135 W p (i, false) l) => has_any p (1 + l.getD i 0) (i, false) l W hW hl (by omega)
  unfold HasPost at c2
  rw [hF.1, hF.2] at c2
  have C2 := Lib.hid c2
  unfold RtPost
  rw [hn]
  clear hn hR c1 c2 hT hF
  go_enter Try.func85, Try.ntmps85
  go_wp2_with fail
  with_reducible refine C1.out.mono ?_
  rintro e w2 ⟨rfl, hR2, hg2⟩
  have HR2 := Lib.hid hR2
  have HG2 := Lib.hid hg2
  obtain ⟨A, c, hL, hB, _, hi, _, _⟩ := hR2
  obtain ⟨b, off, rfl, hc⟩ := hB.2.2 (by simp at hi; omega)
  have hc0 := hL.cell 0
  have hc1 := hL.cell 1
  have hck := hc i (by omega)
  have hq1 : (i : Int) < (l.length : Int) := by omega
  simp only at hc0 hc1
  clear hL hB hc hg2 C1
  generalize l.getD i 0 = y at *
  go_wp2_with fail
  go_quiet (fail)
  have hyy : IntKind.i64.wrap (1 + (y : Int)) = ((1 + y : Nat) : Int) := by rw [IntWalk.i64_in _ (by omega)]; omega
  have c2 := C2.out _ (HR2.out.drewN nq)
  rw [show ((1 + y : Nat) : Int) = 1 + (y : Int) from by omega] at c2
  have C3 := Lib.hid c2
  clear c2 hyy
  go_wp2_with fail
  with_reducible refine C3.out.mono ?_
  rintro e w3 ⟨rfl, hR3, hg3⟩
  have HR3 := Lib.hid hR3
  clear hR3
  go_wp2
  go_ret
  exact ⟨_, rfl, Own.nil _ _, HR3.out, (grown_drewN HG2.out _).trans hg3⟩

set_option maxRecDepth 100000 in
set_option maxHeartbeats 1000000 in
theorem rtext_good (p i : Nat) (l : List Nat) (w : World) (hR : Rd 135 w p (i, false) l) (hl : l.length ≤ 200000) (h1 : 1 ≤ l.length - i) (h : 1 + l.getD i 0 ≤ l.length - i) :
    Calls Try.prog 85 #[.pointer (some ⟨p, 0, none⟩)] w (RtPost w p l (i, false)) := by
  have hn : Ent.rtxt l (i, false) = ((l.drop (i + 1)).take (l.getD i 0), (i + (1 + l.getD i 0), false)) := by unfold Ent.rtxt; rw [if_neg (by rintro (q | q | q); exact absurd q (by simp); exact absurd q (by simp only; omega); exact absurd q (by simp only; omega))]
  have c1 := has_any p 1 (i, false) l w hR hl (by omega)
  have hT := hasB_true (l := l) (k := 1) (s := (i, false)) (by simp; omega)
  unfold HasPost at c1
  rw [hT.1, hT.2, show ((1 : Nat) : Int) = 1 from rfl] at c1
  have C1 := Lib.hid c1
  have hF := hasB_true (l := l) (k := 1 + l.getD i 0) (s := (i, false)) (by rintro (q | q); exact absurd q (by simp); exact absurd q (by simp only; omega))
  have hy : l.getD i 0 < 256 := getD_lt l hR.small i
  have c2 := fun W (hW : Rd 135 W p (i, false) l) => has_any p (1 + l.getD i 0) (i, false) l W hW hl (by omega)
  unfold HasPost at c2
  rw [hF.1, hF.2] at c2
  have C2 := Lib.hid c2
  unfold RtPost
  rw [hn]
  generalize hr : (l.drop (i + 1)).take (l.getD i 0) = r
  generalize hz : i + (1 + l.getD i 0) = z
  have HRR := Lib.hid hr
  have HZZ := Lib.hid hz
  clear hn hR c1 c2 hT hF hr hz
  go_enter Try.func85, Try.ntmps85
  go_wp2_with fail
  with_reducible refine C1.out.mono ?_
  rintro e w2 ⟨rfl, hR2, hg2⟩
  have HR2 := Lib.hid hR2
  have HG2 := Lib.hid hg2
  obtain ⟨A, c, hL, hB, _, hi, _, _⟩ := hR2
  obtain ⟨b, off, rfl, hc⟩ := hB.2.2 (by simp at hi; omega)
  have hc0 := hL.cell 0
  have hc1 := hL.cell 1
  have hck := hc i (by omega)
  have hq1 : (i : Int) < (l.length : Int) := by omega
  simp only at hc0 hc1
  clear hL hB hc hg2 C1
  generalize hyl : l.getD i 0 = y at *
  have HYL := Lib.hid hyl
  clear hyl
  go_wp2_with fail
  go_quiet (fail)
  have c2 := C2.out _ (HR2.out.drewN nq)
  rw [show ((1 + y : Nat) : Int) = 1 + (y : Int) from by omega] at c2
  have C3 := Lib.hid c2
  clear c2 hc0 hc1 hck hq1
  go_wp2_with fail
  with_reducible refine C3.out.mono ?_
  rintro e w3 ⟨rfl, hR3, hg3⟩
  have HR3 := Lib.hid hR3
  have HG3 := Lib.hid ((grown_drewN HG2.out nq).trans hg3)
  obtain ⟨A, c', hL, hB, hlo, hi', hcl, hcm⟩ := hR3
  obtain ⟨b', off', rfl, hc⟩ := hB.2.2 (by omega)
  have HB3 := Lib.hid hB
  have hc0 := hL.cell 0
  have hc1 := hL.cell 1
  simp only at hc0 hc1
  obtain ⟨m1, hm1⟩ : ∃ m, i + 1 = m := ⟨_, rfl⟩
  obtain ⟨m2, hm2⟩ : ∃ m, i + (1 + y) = m := ⟨_, rfl⟩
  have hq1 : IntKind.i64.wrap ((i : Int) + 1) = ((m1 : Nat) : Int) := by rw [IntWalk.i64_in _ (by omega)]; omega
  have hq2 : IntKind.i64.wrap ((i : Int) + (1 + (y : Int))) = ((m2 : Nat) : Int) := by rw [IntWalk.i64_in _ (by omega)]; omega
  have b1 : (0 : Int) ≤ (m1 : Int) := by omega
  have b2 : (m1 : Int) ≤ (m2 : Int) := by omega
  have b3 : (m2 : Int) ≤ (c' : Int) := by omega
  have hf1 := hL.free 1
  obtain ⟨AD, hAD⟩ : ∃ AD, (if c' = m1 then some (⟨b', off', none⟩ : Addr) else some ⟨b', off' + m1, none⟩) = AD := ⟨_, rfl⟩
  have c4 := fresh_any AD (m2 - m1) (c' - m1) _ w3.drew (hAD ▸ bys_mid (m1 := m1) (m2 := m2) (y := y) (c := c') HB3.out.drew (by omega) (by omega) hcl) (by omega)
  have C4 := Lib.hid c4
  have HFF := Lib.hid (fun w' (hb : Below w3.drew.heap.size w3.drew w') => (Lies.below (w := w3.drew) hL hb hL.lt).free 1)
  have hcc : ∀ w', Below w3.drew.heap.size w3.drew w' → w'.cell? ⟨p, 0, none⟩ = some (.slice (some ⟨b', off', none⟩) l.length c') ∧ w'.cell? ⟨p, 1, none⟩ = some (.int .i64 (i : Nat)) := fun w' hb => ⟨(Lies.below (w := w3.drew) hL hb hL.lt).cell 0, (Lies.below (w := w3.drew) hL hb hL.lt).cell 1⟩
  have HCC := Lib.hid hcc
  clear hcc
  clear c4
  clear hL hB hc HG2 HR2 C2 C3 hg3
  go_wp2_with fail
  go_region_held3 (fun W => W.cell? ⟨p, 0, none⟩ = some (.slice (some ⟨b', off', none⟩) l.length c') ∧ W.cell? ⟨p, 1, none⟩ = some (.int .i64 (i : Nat))) (first | go_keep | exact HCC.out _ HB4.out)
    ((go_at_call 82; (with_reducible refine C4.out.mono ?_); rintro x w4 ⟨rfl, hO4, hb4⟩; have HO4 := Lib.hid hO4; have HB4 := Lib.hid hb4; have hf4 := HFF.out _ hb4; clear hO4 hb4))
  have hR4 := HR3.out.drew.below HB4.out
  have HR4 := Lib.hid hR4
  obtain ⟨A5, c5, hL5, _, _, _, _, _⟩ := hR4
  have HL5 := Lib.hid hL5
  clear hL5 hAD
  go_wp2
  go_ret
  refine ⟨_, rfl, ?_, ?_, grown_put (grown_below (grown_drew HG3.out) HB4.out) 1 _⟩
  · rw [← HRR.out, hm1]
    exact ((HO4.out.mono (show w.heap.size ≤ w3.heap.size from HG3.out.size)).setOther (a := ⟨p, 1, none⟩) (HO4.out.ne HL5.out (by decide)) _)
  · rw [← HZZ.out, hm2]
    exact HR4.out.put m2 (by omega)

theorem rtext_any (p : Nat) (s : Ent.St) (l : List Nat) (w : World) (hR : Rd 135 w p s l) (hl : l.length ≤ 200000) :
    Calls Try.prog 85 #[.pointer (some ⟨p, 0, none⟩)] w (RtPost w p l s) := by
  by_cases h : s.2 = true ∨ l.length - s.1 < 1
  · exact rtext_bad1 p s l w hR hl h
  · obtain ⟨i, sh⟩ := s
    have h1 : sh = false := by cases sh; rfl; exact absurd (.inl rfl) h
    subst h1
    have h2 : 1 ≤ l.length - i := by
      refine Classical.byContradiction fun hh => h (.inr ?_)
      simp only
      omega
    by_cases h3 : l.length - i < 1 + l.getD i 0
    · exact rtext_bad2 p i l w hR hl h2 h3
    · exact rtext_good p i l w hR hl h2 (by omega)

end Go.Proofs.Ytfcfejmammohpaa
