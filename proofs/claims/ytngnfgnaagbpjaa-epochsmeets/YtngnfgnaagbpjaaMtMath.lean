/-
  One journal goes back to where it parts from the other: each step strips an epoch, or comes there.
-/
import Derived.Test.YtngnfgnaagbpjaaEnMath
namespace Go.Proofs.Ytngnfgnaagbpjaa

theorem cE_pE {t : Tbl} (h : isT t) {q : Nat} (hq : q ≤ t.length) : cE t (pE t q) = q := by
  refine cE_is hq (fun h0 => ?_) (fun i h1 h2 => ?_)
  · unfold pE; rw [if_neg (by omega)]; exact Nat.le_refl _
  · rcases q with _ | q
    · have := (h.pos h2).1; rw [pE_zero]; omega
    · rw [pE_succ]; exact (h.mono (i := q) (j := i) (by omega) h2).1
theorem ahead_up {t : Tbl} (h : isT t) {i j x : Nat} (hij : i ≤ j) (hj : j ≤ t.length) (_hi : i < t.length) (hx : x < ls t i) (hm : x ≤ 18446744073709551615) : x ≤ ahead t j := by
  unfold ahead
  split
  · exact hm
  · have := (h.le (i := i) (j := j) hij (by omega)).2
    omega
theorem ahead_of {t : Tbl} {n : Nat} (h : n < t.length) : ahead t n = ls t n - 1 := by unfold ahead; rw [if_neg (by omega)]
theorem end_ge {t : Tbl} (h : isT t) {last e m x : Nat} (hl : last ≤ 18446744073709551615) (hm : m = min (cE t e) (cL t last)) (h1 : x ≤ last) (h2 : 0 < m → x ≤ ahead t m) (h3 : m = 0 → x = 0) : x ≤ endS t last e := by
  rw [endS_is h last e hl m hm]
  split
  · rename_i q; have := h3 q; omega
  · rename_i q; have := h2 (by omega); omega

/-- Where both have an epoch, all ahead of it is the same. -/
def Shr (a b : Tbl) (c : Nat) : Prop := ∀ i, c ≤ i → i < a.length → ∀ k, c ≤ k → k < b.length → ep a i ≠ ep b k
/-- No entry is of no epoch. -/
def Beg (a : Tbl) (la : Nat) : Prop := (0 < a.length → ls a 0 ≤ 1) ∧ (a.length = 0 → la = 0)
def nextS (a : Tbl) (la : Nat) (b : Tbl) (last : Nat) : Nat := min last (min (endS a la (atS b last)) (endS b last (atS a (endS a la (atS b last)))))

theorem next_le (a : Tbl) (la : Nat) (b : Tbl) (last : Nat) : nextS a la b last ≤ last := by unfold nextS; omega

set_option maxHeartbeats 4000000 in
theorem step_it {a b : Tbl} (ha : isT a) (hb : isT b) {la lb last c F : Nat} (hC : Com a b c) (hS : Shr a b c) (hla : la ≤ 18446744073709551615) (hls : last ≤ 18446744073709551615)
    (Ba : Beg a la) (Bb : Beg b last) (hF : F = min la (min lb (min (ahead a c) (ahead b c)))) (h1 : F ≤ last) (h2 : last ≤ lb) :
    F ≤ nextS a la b last ∧ (nextS a la b last = F ∨ cL b (nextS a la b last) < cL b last) := by
  obtain ⟨c1, c2, c3, c4⟩ := hC
  obtain ⟨p, hp⟩ : ∃ p, cL b last = p := ⟨_, rfl⟩
  have hpl := cL_le b last
  rw [hp] at hpl ⊢
  obtain ⟨e, he⟩ : ∃ e, atS b last = e := ⟨_, rfl⟩
  have he2 : e = pE b p := by rw [← he, atS_yes hb, hp]
  obtain ⟨m, hm⟩ : ∃ m, m = min (cE a e) (cL a la) := ⟨_, rfl⟩
  have hma := cE_le a e
  have hmb := cL_le a la
  obtain ⟨E, hE⟩ : ∃ E, endS a la e = E := ⟨_, rfl⟩
  have hE1 := endS_is ha la e hla m hm
  have hE2 := (end_at ha hla hm).2
  rw [hE] at hE1 hE2
  obtain ⟨f, hf⟩ : ∃ f, pE a m = f := ⟨_, rfl⟩
  rw [hf] at hE2
  obtain ⟨O, hO⟩ : ∃ O, endS b last f = O := ⟨_, rfl⟩
  obtain ⟨r, hr⟩ : ∃ r, cE b f = r := ⟨_, rfl⟩
  have hO1 := endS_is hb last f hls (min r p) (by rw [hr, hp])
  rw [hO] at hO1
  have hN : nextS a la b last = min last (min E O) := by unfold nextS; rw [he, hE, hE2, hO]
  rw [hN]
  have hps : ∀ q, q ≤ c → pE a q = pE b q := fun q hq => (pE_same c3 q hq).1
  have hlp : p < b.length → last < ls b p := fun q => by
    have := cL_hi (t := b) (l := last) (i := p) (by omega) q; exact this
  have hlo : ∀ i, i < p → ls b i ≤ last := fun i hi => cL_lo hb (by omega)
  have hao : ∀ i, i < cL a la → ls a i ≤ la := fun i hi => cL_lo ha hi
  have hah : cL a la < a.length → la < ls a (cL a la) := fun q => cL_hi (Nat.le_refl _) q
  by_cases hp0 : p = 0
  · -- nothing is left
    have hl0 : last = 0 := by
      by_cases q : b.length = 0
      · exact Bb.2 q
      · have := hlp (by omega)
        rw [hp0] at this
        have := Bb.1 (by omega)
        omega
    have : F = 0 := by omega
    refine ⟨by omega, .inl (by omega)⟩
  by_cases hpc : p ≤ c
  · -- all that is left both have
    have hce : cE a e = p := by rw [he2, ← hps p hpc]; exact cE_pE ha (by omega)
    rw [hce] at hm
    have hr2 : r = m := by rw [← hr, ← hf, hps m (by omega)]; exact cE_pE hb (by omega)
    rw [hr2, show min m p = m from by omega] at hO1
    by_cases hmp : m = p
    · rw [if_neg (by omega), hmp] at hE1 hO1
      have k1 : last ≤ ahead b p := by
        by_cases q : p < b.length
        · rw [ahead_of q]; have := hlp q; omega
        · unfold ahead; rw [if_pos (by omega)]; exact hls
      have k2 : F ≤ ahead a p := by
        by_cases q : p = c
        · rw [q]; omega
        · rw [ahead_of (by omega), (c3 p (by omega)).2]
          have := hlp (by omega); omega
      have k3 : min last (ahead a p) ≤ ahead a c := by
        by_cases q : p = c
        · rw [q]; omega
        · have := hlp (by omega)
          have s := (c3 p (by omega)).2
          have := ahead_up ha (i := p) (j := c) (x := last) hpc c1 (by omega) (by omega) hls
          omega
      have k4 : last ≤ ahead b c := by
        by_cases q : p = c
        · rw [← q]; exact k1
        · exact ahead_up hb (i := p) (j := c) hpc c2 (by omega) (hlp (by omega)) hls
      refine ⟨by omega, .inl (by omega)⟩
    · have hml : m = cL a la := by omega
      have hl2 := hah (by omega)
      rw [← hml] at hl2
      have s := (c3 m (by omega)).2
      have hlb := hlo m (by omega)
      have k3 := ahead_up ha (i := m) (j := c) (x := la) (by omega) c1 (by omega) hl2 hla
      have k4 := ahead_up hb (i := m) (j := c) (x := la) (by omega) c2 (by omega) (by omega) hla
      by_cases hm0 : m = 0
      · rw [if_pos hm0] at hE1 hO1
        have := Ba.1 (by omega)
        rw [hm0] at hl2
        have : la = 0 := by omega
        refine ⟨by omega, .inl (by omega)⟩
      · rw [if_neg hm0, ahead_of (by omega)] at hE1 hO1
        refine ⟨by omega, .inl (by omega)⟩
  · -- the last epoch is one that the other has not
    obtain ⟨p', hp'⟩ : ∃ p', p = p' + 1 := ⟨p - 1, by omega⟩
    rw [hp', pE_succ] at he2
    have hm1 : c ≤ cE a e := Nat.le_of_not_lt fun q => by
      have x1 := cE_hi (t := a) (l := e) (i := cE a e) (Nat.le_refl _) (by omega)
      have x2 := (c3 (cE a e) q).1
      have x3 := (hb.mono (i := cE a e) (j := p') (by omega) (by omega)).1
      omega
    have hfe : f < e := by
      rw [← hf]
      rcases Nat.eq_zero_or_pos m with q | q
      · rw [q, pE_zero, he2]; have := (hb.pos (i := p') (by omega)).1; omega
      · obtain ⟨m', hm'⟩ : ∃ m', m = m' + 1 := ⟨m - 1, by omega⟩
        rw [hm', pE_succ]
        by_cases qc : m' < c
        · have x2 := (c3 m' qc).1
          have x3 := (hb.mono (i := m') (j := p') (by omega) (by omega)).1
          omega
        · have x1 := hS m' (by omega) (by omega) p' (by omega) (by omega)
          have x2 := cE_lo ha (l := e) (i := m') (by omega)
          omega
    have hrp : r ≤ p' := Nat.le_of_not_lt fun q => by
      have := cE_lo hb (l := f) (i := p') (by omega)
      omega
    have hrl : r < b.length := by omega
    have hlr := hlo r (by omega)
    have hpr := (hb.pos hrl).2
    have hOv : O = ls b r - 1 := by
      rw [show min r p = r from by omega] at hO1
      by_cases q : r = 0
      · rw [if_pos q] at hO1
        have := Bb.1 (by omega)
        rw [q]; omega
      · rw [if_neg q, ahead_of hrl] at hO1; omega
    have hFO : F ≤ O := by
      by_cases q : c ≤ m
      · have hcr : c ≤ r := Nat.le_of_not_lt fun q2 => by
          have x1 := cE_hi (t := b) (l := f) (i := r) (by omega) hrl
          have x2 := (c3 r q2).1
          rw [← hf] at x1
          obtain ⟨m', hm'⟩ : ∃ m', m = m' + 1 := ⟨m - 1, by omega⟩
          rw [hm', pE_succ] at x1
          have x3 := (ha.le (i := r) (j := m') (by omega) (by omega)).1
          omega
        have x4 := (hb.le (i := c) (j := r) hcr hrl).2
        rw [ahead_of (t := b) (n := c) (by omega)] at hF
        omega
      · have hr2 : r = m := by rw [← hr, ← hf, hps m (by omega)]; exact cE_pE hb (by omega)
        have hml : m = cL a la := by omega
        have hl2 := hah (by omega)
        rw [← hml] at hl2
        have s := (c3 m (by omega)).2
        rw [hOv, hr2]; omega
    have hFE : F ≤ E := by
      rw [← hE]
      refine end_ge ha hla hm (by omega) (fun q => ?_) (fun q => ?_)
      · by_cases qc : c ≤ m
        · by_cases qm : m < a.length
          · have x5 := (ha.le (i := c) (j := m) qc qm).2
            have x6 : F ≤ ahead a c := by omega
            rw [ahead_of (by omega)] at x6 ⊢
            omega
          · unfold ahead; rw [if_pos (by omega)]; omega
        · have hml : m = cL a la := by omega
          have hl2 := hah (by omega)
          rw [← hml] at hl2
          rw [ahead_of (by omega)]; omega
      · by_cases q2 : cL a la = 0
        · by_cases q3 : a.length = 0
          · have := Ba.2 q3; omega
          · have := hah (by omega)
            rw [q2] at this
            have := Ba.1 (by omega)
            omega
        · have hc0 : c = 0 := by omega
          have := Bb.1 (by omega)
          have x6 : F ≤ ahead b c := by omega
          rw [hc0, ahead_of (by omega)] at x6
          omega
    refine ⟨by omega, .inr ?_⟩
    refine Nat.lt_of_not_le fun q => ?_
    have x7 := cL_le b (min last (min E O))
    have x8 := cL_lo hb (l := min last (min E O)) (i := r) (by omega)
    omega

/-- A table cut at an entry tells of what lies up to it what it told. -/
theorem cut_is {b : Tbl} (hb : isT b) (x : Nat) : cutS b x = b.take (cL b x) := by unfold cutS; rw [if_pos hb]
theorem cut_isT {b : Tbl} (hb : isT b) (x : Nat) : isT (cutS b x) := by rw [cut_is hb]; exact hb.take _
theorem cut_length {b : Tbl} (hb : isT b) (x : Nat) : (cutS b x).length = cL b x := by rw [cut_is hb, List.length_take]; have := cL_le b x; omega
theorem cL_mono {b : Tbl} (hb : isT b) {x y : Nat} (h : y ≤ x) : cL b y ≤ cL b x := Nat.le_of_not_lt fun q => by
  have a := cL_le b y
  have := cL_lo hb (l := y) (i := cL b x) q
  have := cL_hi (t := b) (l := x) (i := cL b x) (Nat.le_refl _) (by omega)
  omega
theorem cut_cnt {b : Tbl} (hb : isT b) {x y : Nat} (h : y ≤ x) : cL (cutS b x) y = cL b y := by
  have m := cL_mono hb h
  have l := cut_length hb x
  refine cL_is (by omega) (fun h0 => ?_) (fun i h1 h2 => ?_)
  · rw [cut_is hb, ls_take' _ _ _ (by omega)]; exact cL_lo hb (by omega)
  · rw [l] at h2
    have := cL_le b x
    rw [cut_is hb, ls_take' _ _ _ h2]; exact cL_hi h1 (by omega)
theorem cut_at {b : Tbl} (hb : isT b) {x y : Nat} (h : y ≤ x) : atS (cutS b x) y = atS b y := by
  rw [atS_yes (cut_isT hb x), atS_yes hb, cut_cnt hb h, cut_is hb, pE_take _ _ _ (cL_mono hb h)]
theorem cut_cE {b : Tbl} (hb : isT b) (x e : Nat) : min (cE (cutS b x) e) (cL b x) = min (cE b e) (cL b x) := by
  have l := cut_length hb x
  have a1 := cL_le b x
  have a2 := cE_le b e
  have : cE (cutS b x) e = min (cE b e) (cL b x) := by
    refine cE_is (by omega) (fun h0 => ?_) (fun i h1 h2 => ?_)
    · rw [cut_is hb, ep_take' _ _ _ (by omega)]; exact cE_lo hb (by omega)
    · rw [l] at h2
      rw [cut_is hb, ep_take' _ _ _ h2]; exact cE_hi (by omega) (by omega)
  omega
theorem cut_end {b : Tbl} (hb : isT b) (x e : Nat) : endS (cutS b x) x e = endS b x e := by
  have ht := cut_isT hb x
  have l := cut_length hb x
  have a1 := cL_le b x
  unfold endS
  rw [if_pos ht, if_pos hb, cEL_min ht, cEL_min hb, cut_cnt hb (Nat.le_refl _), cut_cE hb]
  generalize hm : min (cE b e) (cL b x) = m
  unfold endV
  by_cases h0 : m = 0
  · rw [if_pos h0, if_pos h0]
  · rw [if_neg h0, if_neg h0, l]
    by_cases h1 : m < cL b x
    · have := cL_lo hb h1
      rw [cut_is hb, ls_take' _ _ _ h1, if_pos ⟨h1, this⟩, if_pos ⟨by omega, this⟩]
    · rw [if_neg (fun q => h1 q.1), if_neg (fun q => ?_)]
      have := cL_hi (t := b) (l := x) (i := m) (by omega) q.1
      omega
theorem cut_cut {b : Tbl} (hb : isT b) {x y : Nat} (h : y ≤ x) : cutS (cutS b x) y = cutS b y := by
  rw [cut_is (cut_isT hb x), cut_cnt hb h, cut_is hb x, cut_is hb y, List.take_take, Nat.min_eq_left (cL_mono hb h)]
theorem beg_less {b : Tbl} {lb last : Nat} (h : Beg b lb) (hl : last ≤ lb) : Beg b last := ⟨h.1, fun q => by have := h.2 q; omega⟩

end Go.Proofs.Ytngnfgnaagbpjaa
