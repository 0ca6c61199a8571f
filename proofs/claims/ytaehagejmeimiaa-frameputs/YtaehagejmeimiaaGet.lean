/-
  The contracts of open, Clone and frame.Get: for every slice of bytes, at every place.
-/
import Derived.Test.YtaehagejmeimiaaOpnMath
import Derived.Deep.DeepCutAuto
namespace Go.Proofs.Ytaehagejmeimiaa
open Go.RowKit

/-- What 'open' returns. -/
def OpnPost (w : World) (l : List Nat) (e : Ending) (w' : World) : Prop :=
  Below w.heap.size w w' ∧ ((Frm.opn l = none ∧ ∃ v, e = .returned (.tuple #[v, .bool false])) ∨
    ∃ x A c, Frm.opn l = some x ∧ e = .returned (.tuple #[.slice A x.length c, .bool true]) ∧ Bys w' A x.length x ∧ x.length ≤ c ∧ c ≤ maxLen ∧ (A = none → c = 0))

theorem Bys.cut {w : World} {b off n : Nat} {l : List Nat} (h : Bys w (some ⟨b, off, none⟩) n l) (k : Nat) (hk : k ≤ n) : Bys w (some ⟨b, off + k, none⟩) (n - k) (l.drop k) := by
  obtain ⟨h1, h2, h3⟩ := h
  refine ⟨by rw [List.length_drop]; omega, fun c hc => h2 c (List.mem_of_mem_drop hc), fun h0 => ?_⟩
  obtain ⟨b', off', e, hc⟩ := h3 (by omega)
  injection e with e
  injection e with e1 e2 _
  subst e1 e2
  refine ⟨b, off + k, rfl, fun i hi => ?_⟩
  rw [Nat.add_assoc, hc (k + i) (by omega)]
  simp [List.getD]

set_option maxHeartbeats 400000 in
theorem open_short (a : Option Addr) (n cap : Nat) (l : List Nat) (w : World) (hB : Bys w a n l) (hn : n < 8) :
    Calls Try.prog 34 #[.slice a n cap] w (OpnPost w l) := by
  have HB := Lib.hid hB
  clear hB
  go_enter Try.func34, Try.ntmps34
  go_wp2
  go_ret2
  exact ⟨Below.refl _ _, .inl ⟨Frm.opn_short l (by rw [HB.out.1]; exact hn), _, rfl⟩⟩

/-- Behind the reader's making: the reader, and the bytes behind the head. -/
def OcR (w : World) (n : Nat) (l : List Nat) (x y : Value) (wc : World) : Prop :=
  ∃ p b o m mc, x = .pointer (some ⟨p, 0, none⟩) ∧ y = .slice (some ⟨b, o, none⟩) m mc ∧ Rd wc p w.heap.size 0 (l.take 8) ∧ Bys w (some ⟨b, o, none⟩) m (l.drop 8) ∧ m + 8 = n ∧ m ≤ mc ∧ mc ≤ maxLen ∧ Below w.heap.size w wc

theorem told_lt (l : List Nat) (h : ∀ c ∈ l, c < 256) : Frm.told l < 4294967296 := Rd.val_le (fun c hc => h c (List.mem_of_mem_take hc))
theorem long_lt (l : List Nat) (h : ∀ c ∈ l, c < 256) : Frm.long l < 65536 := Rd.val_le (fun c hc => h c (List.mem_of_mem_take hc))

set_option maxHeartbeats 1000000 in
theorem open_long (b off n cap : Nat) (l : List Nat) (w : World) (hB : Bys w (some ⟨b, off, none⟩) n l) (hn : 8 ≤ n) (hcap : n ≤ cap) (hm : cap ≤ maxLen) :
    Calls Try.prog 34 #[.slice (some ⟨b, off, none⟩) n cap] w (OpnPost w l) := by
  have hopn := Frm.opn_eq l (by rw [hB.1]; exact hn) hB.2.1
  rw [hB.1] at hopn
  have hF := hB.front 8 hn
  have nr := newReader_any (some ⟨b, off, none⟩) 8 cap (l.take 8) w.drew hF.drew (by omega)
  have hl8 : (l.take 8).length = 8 := by rw [List.length_take, hB.1]; omega
  have HOPN := Lib.hid hopn
  have HB := Lib.hid hB
  have NR := Lib.hid nr
  have HL8 := Lib.hid hl8
  have HM := Lib.hid hm
  clear hopn hB nr hl8 hF
  unfold maxLen at hm
  have i1 : (8 : Int) ≤ (n : Int) := by omega
  have i2 : (n : Int) ≤ (cap : Int) := by omega
  have i3 : (8 : Int) ≤ (cap : Int) := by omega
  go_enter Try.func34, Try.ntmps34
  go_upto_region 3 with fail
  go_cut [4, 5] (OcR w n l)
  case first =>
    by_cases hc8 : cap = 8
    · subst hc8
      go_region_held3 (fun _ => True) (trivial)
        (first
          | (go_at_call 41; (with_reducible refine NR.out.mono ?_); rintro e w1 ⟨rfl, hR1, hb1⟩))
      go_wp2_with fail
      go_meet
      have h8 : n = 8 := by omega
      subst h8
      exact ⟨_, b, off, 0, 0, rfl, rfl, hR1, ⟨by rw [List.length_drop, HB.out.1], fun c hc => HB.out.2.1 c (List.mem_of_mem_drop hc), fun h0 => by omega⟩, by omega, by omega, by unfold maxLen; omega, ((Below.refl w.heap.size w).drew).trans hb1⟩
    · go_region_held3 (fun _ => True) (trivial)
        (first
          | (go_at_call 41; (with_reducible refine NR.out.mono ?_); rintro e w1 ⟨rfl, hR1, hb1⟩))
      go_wp2_with fail
      go_meet
      exact ⟨_, b, off + 8, n - 8, cap - 8, rfl, rfl, hR1, HB.out.cut 8 hn, by omega, by omega, by have := HM.out; omega, ((Below.refl w.heap.size w).drew).trans hb1⟩
  case rest =>
    obtain ⟨p, b2, o2, m, mc, rfl, rfl, hR0, hBr, hmn, hmc, hmm, hb0⟩ := hcut
    have HMM := Lib.hid hmm
    have HR0 := Lib.hid hR0
    have HBR := Lib.hid hBr
    have hlong := long_lt l HB.out.2.1
    have htold := told_lt l HB.out.2.1
    obtain ⟨f, hf⟩ : ∃ f, val (((l.take 8).drop 0).take 2) = f := ⟨_, rfl⟩
    obtain ⟨nn, hnn⟩ : ∃ nn, val (((l.take 8).drop (0 + 2)).take 2) = nn := ⟨_, rfl⟩
    obtain ⟨s, hs⟩ : ∃ s, val (((l.take 8).drop (0 + 2 + 2)).take 4) = s := ⟨_, rfl⟩
    rw [show Frm.long l = nn from hnn] at hlong
    rw [show Frm.told l = s from hs] at htold
    have hop := HOPN.out
    rw [show Frm.first l = f from hf, show Frm.long l = nn from hnn, show Frm.told l = s from hs] at hop
    have HF := Lib.hid hf
    have HNN := Lib.hid hnn
    have HS := Lib.hid hs
    have HOP := Lib.hid hop
    clear hR0 hBr NR i1 i2 i3 hf hnn hs hop HOPN
    unfold maxLen at hmm
    go_wp2_with fail
    with_reducible refine (ru16_any _ _ _ _ _ HR0.out (by rw [HL8.out]; omega) (by rw [HL8.out]; omega)).mono ?_
    rintro e w1 ⟨rfl, hR1, hb1⟩
    rw [HF.out]
    have HR1 := Lib.hid hR1
    clear hR1
    go_wp2_with fail
    with_reducible refine (ru16_any _ _ _ _ _ HR1.out (by rw [HL8.out]; omega) (by rw [HL8.out]; omega)).mono ?_
    rintro e w2 ⟨rfl, hR2, hb2⟩
    rw [HNN.out]
    have HR2 := Lib.hid hR2
    clear hR2
    go_wp2_with fail
    with_reducible refine (ru32_any _ _ _ _ _ HR2.out (by rw [HL8.out]; omega) (by rw [HL8.out]; omega)).mono ?_
    rintro e w3 ⟨rfl, hR3, hb3⟩
    rw [HS.out]
    have hb03 : Below w.heap.size w w3 := ((hb0.trans hb1).trans hb2).trans hb3
    clear hR3 HR2 HR1 HR0 HF HNN HS
    by_cases h1 : f = 55206
    · have d1 : ((f : Int) != 55206) = false := by rw [h1]; rfl
      by_cases h2 : nn ≤ 2000
      · by_cases h3 : nn ≤ m
        · have hBd := (HBR.out.below hb03).front nn h3
          have HBD := Lib.hid hBd
          have H1 := Lib.hid h1
          clear hBd h1
          go_wp2_with fail
          with_reducible refine (checksum_any _ _ _ _ _ HBD.out (small_len _ (by omega))).mono ?_
          rintro e w4 ⟨rfl, hb4⟩
          have hb04 := hb03.trans (hb4.mono hb03.size)
          have HBD4 := Lib.hid (HBD.out.below hb4)
          have hop := HOP.out
          have hbl : ((l.drop 8).take nn).length = nn := HBD.out.1
          generalize hbody : (l.drop 8).take nn = body at *
          generalize hck : Frm.chk body = ck at *
          have HCK := Lib.hid hck
          have HBL := Lib.hid hbl
          clear hck hbody HBD HOP hbl
          by_cases h4 : s = ck
          · rw [if_pos ⟨H1.out, h2, by omega, h4⟩] at hop
            have HO := Lib.hid hop
            clear hop
            subst h4
            go_wp2
            go_ret2
            have hbl := HBL.out
            subst hbl
            exact ⟨hb04, .inr ⟨body, _, mc, HO.out, rfl, HBD4.out, by omega, HMM.out, fun h => by cases h⟩⟩
          · rw [if_neg (fun hh => h4 hh.2.2.2)] at hop
            have HO := Lib.hid hop
            have d4 : ((s : Int) == (ck : Int)) = false := by rw [beq_eq_false_iff_ne]; omega
            clear hop
            go_wp2
            go_ret2
            exact ⟨hb04, .inl ⟨HO.out, _, rfl⟩⟩
        · have hop := HOP.out
          rw [if_neg (fun hh => h3 (by omega))] at hop
          have HO := Lib.hid hop
          clear hop HOP h1
          go_wp2
          go_ret2
          exact ⟨hb03, .inl ⟨HO.out, _, rfl⟩⟩
      · have hop := HOP.out
        rw [if_neg (fun hh => h2 hh.2.1)] at hop
        have HO := Lib.hid hop
        have d2 : decide ((2000 : Int) < (nn : Int)) = true := by simp; omega
        clear hop HOP h1
        go_wp2
        go_ret2
        exact ⟨hb03, .inl ⟨HO.out, _, rfl⟩⟩
    · have hop := HOP.out
      rw [if_neg (fun hh => h1 hh.1)] at hop
      have HO := Lib.hid hop
      have d1 : ((f : Int) != 55206) = true := by rw [bne_iff_ne]; omega
      clear hop HOP h1
      go_wp2
      go_ret2
      exact ⟨hb03, .inl ⟨HO.out, _, rfl⟩⟩

theorem open_any (a : Option Addr) (n cap : Nat) (l : List Nat) (w : World) (hB : Bys w a n l) (hcap : n ≤ cap) (hm : cap ≤ maxLen) :
    Calls Try.prog 34 #[.slice a n cap] w (OpnPost w l) := by
  by_cases hn : n < 8
  · exact open_short a n cap l w hB hn
  · obtain ⟨b, off, rfl, _⟩ := hB.2.2 (by omega)
    exact open_long b off n cap l w hB (by omega) hcap hm

/-- What Clone returns. -/
def ClonePost (w : World) (l : List Nat) (e : Ending) (w' : World) : Prop := ∃ v, e = .returned v ∧ Own w' w.heap.size v l ∧ Below w.heap.size w w'

set_option maxHeartbeats 400000 in
theorem clone_any (a : Option Addr) (n cap : Nat) (l : List Nat) (w : World) (hB : Bys w a n l) (hA : a = none → cap = 0) (hn : n ≤ 100000) :
    Calls Try.prog 35 #[.slice a n cap] w (ClonePost w l) := by
  rcases a with _ | ad
  · have h0 : n = 0 := by
      rcases Nat.eq_zero_or_pos n with h | h
      · exact h
      · obtain ⟨b, off, e, _⟩ := hB.2.2 h
        cases e
    have hc := hA rfl
    have hl : l = [] := List.eq_nil_of_length_eq_zero (by rw [hB.1]; exact h0)
    subst h0 hc hl
    clear hB hA
    have he : ∀ w : World, (binOp .eql 22 (.slice none 0 0) (.slice none 0 0)).run Try.prog w = .ok (.bool true) w := fun _ => rfl
    go_enter Try.func35, Try.ntmps35
    go_wp2
    go_ret
    exact ⟨_, rfl, Own.nil _ _, Below.refl _ _⟩
  · have HB := Lib.hid hB
    clear hB hA
    have he : ∀ w : World, (binOp .eql 22 (.slice (some ad) n cap) (.slice none 0 0)).run Try.prog w = .ok (.bool false) w := fun _ => rfl
    go_enter Try.func35, Try.ntmps35
    go_wp2_with (first
      | ((with_reducible refine wpl_append (some 7) _ _ _ (.tmp 5) (.tmp 6) w.heap.size _ [] (some ad) n cap l ?hs ?hx (Own.made (l := []) (Lies.made _ _ _) (Nat.le_refl _) (by simp) (by unfold maxLen; simp)) (HB.out.alloc _) ?ha ?hm ?hz ?_); (case hs => rfl); (case hx => rfl); (case ha => (intro h; cases h)); (case hm => simp; omega); (case hz => simp); (intro v' w' ho hg hv)))
    go_ret
    exact ⟨v', rfl, ho, (Own.made (w := w.alloc _) (l := []) (Lies.made w 5 #[]) (Nat.le_refl _) (by simp) (by unfold maxLen; simp)).grows hg ((Below.refl _ _).alloc (Nat.le_refl _) _) (Nat.le_refl _) (by simp)⟩

end Go.Proofs.Ytaehagejmeimiaa
