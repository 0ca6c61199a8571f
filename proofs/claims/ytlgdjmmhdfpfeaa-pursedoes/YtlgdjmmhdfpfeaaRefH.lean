/-
  The contract of the reference's Holds.
-/
import Derived.Test.YtlgdjmmhdfpfeaaRefG
namespace Go.Proofs.Ytlgdjmmhdfpfeaa
open Go.Proofs Go.RowKit
set_option maxRecDepth 100000
set_option linter.unusedVariables false
set_option linter.unusedSimpArgs false

/-- The order of the last of i holds. -/
def lastO (H : List Hd) : Nat → Nat
  | 0 => 0
  | i + 1 => ((H[i]?).map (·.o)).getD 0
theorem lastO_succ {H : List Hd} {i : Nat} (hi : i < H.length) : lastO H (i + 1) = H[i].o := by simp [lastO, hi]
/-- The least order above this one, so far. -/
def Best (L : List Hd) (lst j : Nat) (v : Value) : Prop :=
  (v = .int .i64 (-1) ∧ ∀ (k : Nat) (hk : k < L.length), k < j → L[k].o ≤ lst) ∨
  ∃ (m : Nat) (hm : m < L.length), m < j ∧ v = .int .i64 (m : Int) ∧ lst < L[m].o ∧ ∀ (k : Nat) (hk : k < L.length), k < j → lst < L[k].o → L[m].o ≤ L[k].o
theorem HSort.lt {H : List Hd} (h : HSort H) {i j : Nat} (hj : j < H.length) (hij : i < j) : (H[i]'(by omega)).o < H[j].o := List.pairwise_iff_getElem.1 h i j (by omega) hj hij
theorem best_end {H L : List Hd} (hs : HSort H) (hp : H.Perm L) (h0 : ∀ h ∈ H, 0 < h.o) {i : Nat} (hi : i < H.length) {v : Value} (h : Best L (lastO H i) L.length v) : ∃ (m : Nat) (hm : m < L.length), v = .int .i64 (m : Int) ∧ L[m] = H[i] := by
  have hl : lastO H i < H[i].o := by
    cases i with
    | zero => exact h0 _ (List.getElem_mem hi)
    | succ i => rw [lastO_succ (by omega)]; exact hs.lt hi (by omega)
  obtain ⟨p, hpl, hpe⟩ := List.getElem_of_mem (hp.mem_iff.1 (List.getElem_mem hi))
  rcases h with ⟨-, h2⟩ | ⟨m, hm, -, hv, h3, h4⟩
  · have := h2 p hpl hpl
    rw [hpe] at this
    omega
  · refine ⟨m, hm, hv, ?_⟩
    obtain ⟨k, hk, hke⟩ := List.getElem_of_mem (hp.mem_iff.2 (List.getElem_mem hm))
    have h5 := h4 p hpl hpl (by rw [hpe]; exact hl)
    rw [hpe, ← hke] at h5
    rw [← hke] at h3
    have e : k = i := by
      rcases Nat.lt_trichotomy k i with h | h | h
      · exfalso
        cases i with
        | zero => omega
        | succ i =>
          rw [lastO_succ (by omega)] at h3
          rcases Nat.lt_or_ge k i with h' | h'
          · have := hs.lt (j := i) (by omega) h'
            omega
          · have : k = i := by omega
            subst this
            omega
      · exact h
      · exfalso
        have := hs.lt hk h
        omega
    subst e
    exact hke.symm
theorem Best.skip {L : List Hd} {lst j : Nat} {v : Value} (h : Best L lst j v) (hj : j < L.length) (hn : L[j].o ≤ lst) : Best L lst (j + 1) v := by
  rcases h with ⟨h1, h2⟩ | ⟨m, hm, hmj, hv, h3, h4⟩
  · refine .inl ⟨h1, fun k hk hkj => ?_⟩
    by_cases e : k = j
    · subst e; exact hn
    · exact h2 k hk (by omega)
  · refine .inr ⟨m, hm, by omega, hv, h3, fun k hk hkj hlt => ?_⟩
    by_cases e : k = j
    · subst e; omega
    · exact h4 k hk (by omega) hlt
theorem Best.first {L : List Hd} {lst j : Nat} (h : ∀ (k : Nat) (hk : k < L.length), k < j → L[k].o ≤ lst) (hj : j < L.length) (hn : lst < L[j].o) : Best L lst (j + 1) (.int .i64 (j : Int)) := by
  refine .inr ⟨j, hj, by omega, rfl, hn, fun k hk hkj hlt => ?_⟩
  by_cases e : k = j
  · subst e; exact Nat.le_refl _
  · have := h k hk (by omega); omega
theorem Best.less {L : List Hd} {lst j m : Nat} (hm : m < L.length) (h4 : ∀ (k : Nat) (hk : k < L.length), k < j → lst < L[k].o → L[m].o ≤ L[k].o) (hj : j < L.length) (hn : lst < L[j].o) (hl : L[j].o < L[m].o) : Best L lst (j + 1) (.int .i64 (j : Int)) := by
  refine .inr ⟨j, hj, by omega, rfl, hn, fun k hk hkj hlt => ?_⟩
  by_cases e : k = j
  · subst e; exact Nat.le_refl _
  · have := h4 k hk (by omega) hlt; omega
theorem Best.stay {L : List Hd} {lst j m : Nat} (hm : m < L.length) (hmj : m < j) (h3 : lst < L[m].o) (h4 : ∀ (k : Nat) (hk : k < L.length), k < j → lst < L[k].o → L[m].o ≤ L[k].o) (hj : j < L.length) (hl : ¬ L[j].o < L[m].o) : Best L lst (j + 1) (.int .i64 (m : Int)) := by
  refine .inr ⟨m, hm, by omega, rfl, h3, fun k hk hkj hlt => ?_⟩
  by_cases e : k = j
  · subst e; omega
  · exact h4 k hk (by omega) hlt

def RhI (w : World) (H : List Hd) (v3 v4 : Value) (wr : World) : Prop := ∃ i : Nat, i ≤ H.length ∧ v4 = .int .u32 (lastO H i : Int) ∧ OwnR wr w.heap.size v3 (H.take i) ∧ Below w.heap.size w wr
def RhJ (L : List Hd) (lst : Nat) (y : World) (v5 v6 : Value) (wr : World) : Prop := ∃ j : Nat, j ≤ L.length ∧ v6 = .int .i64 (j : Int) ∧ Best L lst j v5 ∧ Below y.heap.size y wr
def RhPost (w : World) (l : List Hd) (e : Ending) (w' : World) : Prop := ∃ v, e = .returned v ∧ OwnR w' w.heap.size v l ∧ Below w.heap.size w w'
/-- A slice's length. -/
def lenV (v : Value) : Nat := match v with
  | .slice _ n _ => n
  | _ => 0
theorem lenV_slice (A : Option Addr) (n c : Nat) : lenV (.slice A n c) = n := rfl
theorem ho_cell {w : World} {B : Nat} {b o n c : Nat} {L : List Hd} (h : OwnR w B (.slice (some ⟨b, o, none⟩) n c) L) (m : Nat) (hm : m < L.length) : w.cell? ⟨b, o + m * 4, none⟩ = some (.int .u32 ((L[m]'hm).o : Int)) := by
  obtain ⟨A, c', e, hH, -⟩ := h.hin
  injection e with q1 q2 q3
  subst q1
  obtain ⟨b0, o0, e2, -, hc⟩ := hH.2 (by omega)
  injection e2 with e2
  injection e2 with e2 e3
  subst e2 e3
  exact (hc m hm).1

set_option maxHeartbeats 8000000 in
theorem rpays_any (B g : Nat) (vF vL : Value) (r : Rs) (H : List Hd) (w : World) (h : RAt w B g vF vL r) (hs : HSort H) (hp : H.Perm r.L) (h0 : ∀ h ∈ H, 0 < h.o) (hl : H.length ≤ 1000) :
    Calls Try.prog 21 #[.pointer (some ⟨g, 0, none⟩)] w (RhPost w H) := by
  have HH := Lib.hid h
  have HS := Lib.hid hs
  have HP := Lib.hid hp
  have H0 := Lib.hid h0
  obtain ⟨AL, cL, rfl, hHL, hcL⟩ := h.l.hin
  have hz : (r.L.length : Int) ≤ 1000 := by have := hp.length_eq; omega
  have HZ : Hid (H.length = r.L.length) := Lib.hid hp.length_eq
  clear h hs hp h0 hHL hcL hl
  go_enter Try.func21, Try.ntmps21
  go_wp2_with fail
  go_loopw [3, 4] (fun v3 v4 wr => RhI w H v3 v4 wr) (fun v3 _ _ => r.L.length - lenV v3)
  case atStart => exact ⟨0, by omega, rfl, OwnE.nil _ _, Below.refl _ _⟩
  case round =>
    obtain ⟨i, hi, rfl, hO, hB⟩ := hrel
    obtain ⟨A3, c3, rfl, -, -⟩ := hO.hin
    rw [List.length_take, Nat.min_eq_left hi] at hO ⊢
    have HO := Lib.hid hO
    have HB := Lib.hid hB
    have HR := Lib.hid (HH.out.below hB)
    clear hO hB
    obtain ⟨c0, c1⟩ := HR.out.c.cells2
    by_cases hlt : i < r.L.length
    · have hlt2 : (i : Int) < (r.L.length : Int) := by omega
      obtain ⟨lst, hlst⟩ : ∃ z, lastO H i = z := ⟨_, rfl⟩
      rw [hlst]
      have HLST := Lib.hid hlst
      clear hlst
      go_wp2_with fail
      go_loopw [5, 6] (fun v5 v6 wq => RhJ r.L lst wr v5 v6 wq) (fun _ j _ => r.L.length - (intOf j).toNat)
      case atStart => exact ⟨0, by omega, rfl, .inl ⟨rfl, fun k hk h => by omega⟩, Below.refl _ _⟩
      case round =>
        clear c0 c1
        obtain ⟨j, hj, rfl, hbest, hB5⟩ := hrel
        have HBEST := Lib.hid hbest
        have HB5 := Lib.hid hB5
        have HR5 := Lib.hid (HR.out.below hB5)
        clear hbest hB5
        obtain ⟨c0, c1⟩ := HR5.out.c.cells2
        obtain ⟨A5, c5, e5, hH5, -⟩ := HR5.out.l.hin
        injection e5 with q1 q2 q3
        subst q1 q3
        by_cases hj1 : j < r.L.length
        · have hj2 : (j : Int) < (r.L.length : Int) := by omega
          obtain ⟨b0, o0, rfl, hb0, hcell⟩ := hH5.2 (by omega)
          have HC := Lib.hid hcell
          obtain ⟨y0, -, -⟩ := hcell j hj1
          obtain ⟨oo, hoo⟩ : ∃ z, r.L[j].o = z := ⟨_, rfl⟩
          rw [hoo] at y0
          have HOO := Lib.hid hoo
          clear hcell hH5 hoo q2
          by_cases ha : lst < oo
          · have ha2 : (lst : Int) < (oo : Int) := by omega
            rcases HBEST.out with ⟨hv, hall⟩ | ⟨m, hm, hmj, hv, h3, h4⟩
            · have HALL := Lib.hid hall
              subst hv
              clear hall
              go_wp2_with fail
              go_quiet (fail)
              go_wp2
              go_roundw
              case rel => exact ⟨j + 1, by omega, by go_num, Best.first HALL.out hj1 (by rw [HOO.out]; exact ha), below_drewN HB5.out _⟩
              case measure => simp [intOf]; omega
            · have H3 := Lib.hid h3
              have H4 := Lib.hid h4
              subst hv
              obtain ⟨z0, -, -⟩ := HC.out m hm
              obtain ⟨om, hom⟩ : ∃ z, r.L[m].o = z := ⟨_, rfl⟩
              rw [hom] at z0
              have HOM := Lib.hid hom
              have hm2 : (m : Int) < (r.L.length : Int) := by omega
              have hm0 : decide ((m : Int) < 0) = false := by simp
              clear h3 h4 hom
              by_cases hc : oo < om
              · have hc2 : (oo : Int) < (om : Int) := by omega
                go_wp2_with fail
                go_quiet (fail)
                go_wp2
                go_roundw
                case rel => exact ⟨j + 1, by omega, by go_num, Best.less hm H4.out hj1 (by rw [HOO.out]; exact ha) (by rw [HOO.out, HOM.out]; exact hc), below_drewN HB5.out _⟩
                case measure => simp [intOf]; omega
              · have hc2 : decide ((oo : Int) < (om : Int)) = false := by simp; omega
                go_wp2_with fail
                go_quiet (fail)
                go_wp2
                go_roundw
                case rel => exact ⟨j + 1, by omega, by go_num, Best.stay hm hmj H3.out H4.out hj1 (by rw [HOO.out, HOM.out]; exact hc), below_drewN HB5.out _⟩
                case measure => simp [intOf]; omega
          · have ha2 : decide ((lst : Int) < (oo : Int)) = false := by simp; omega
            go_wp2_with fail
            go_quiet (fail)
            go_wp2
            go_roundw
            case rel => exact ⟨j + 1, by omega, by go_num, HBEST.out.skip hj1 (by rw [HOO.out]; omega), below_drewN HB5.out _⟩
            case measure => simp [intOf]; omega
        · have hj2 : decide ((j : Int) < (r.L.length : Int)) = false := by simp; omega
          have hbe := best_end HS.out HP.out H0.out (i := i) (by have := HZ.out; omega) (v := u5) (by rw [HLST.out, show r.L.length = j from by omega]; exact HBEST.out)
          obtain ⟨m, hm, rfl, hme⟩ := hbe
          have hm2 : (m : Int) < (r.L.length : Int) := by omega
          obtain ⟨b0, o0, rfl, hb0, hcell⟩ := hH5.2 (by omega)
          obtain ⟨y0, y1, y2, y3⟩ := hcell m hm
          have HHI : Hid (H.take (i + 1) = H.take i ++ [r.L[m]]) := Lib.hid (by rw [List.take_succ_eq_append_getElem (by have := HZ.out; omega), hme])
          have HLO : Hid (lastO H (i + 1) = r.L[m].o) := Lib.hid (by rw [lastO_succ (by have := HZ.out; omega), hme])
          obtain ⟨yy, hyy⟩ : ∃ z, r.L[m] = z := ⟨_, rfl⟩
          rw [hyy] at y0 y1 y2 y3 HHI HLO
          have HYY := Lib.hid hyy
          clear hcell hH5 hyy hme
          obtain ⟨yo, yn, yk, yt⟩ := yy
          dsimp only at *
          have HO3 : Hid (OwnR (wr.alloc (.cells #[.int .u32 (yo : Int), encStr yn, .int .i64 yk, .int .i64 (yt : Int)] 48)) w.heap.size (.slice A3 i c3) (H.take i)) := Lib.hid ((HO.out.below HB5.out).alloc _)
          have LN := Lib.hid (Lies.made wr 48 #[.int .u32 (yo : Int), encStr yn, .int .i64 yk, .int .i64 (yt : Int)])
          have HSM : Hid ((H.take i).length ≤ 100000) := Lib.hid (by rw [List.length_take]; omega)
          have HBZ : Hid (w.heap.size ≤ (wr.alloc (.cells #[.int .u32 (yo : Int), encStr yn, .int .i64 yk, .int .i64 (yt : Int)] 48)).heap.size) := Lib.hid (by rw [size_one]; have := HB.out.size; have := HB5.out.size; omega)
          have HBW : Hid (∀ w4 v4, (wr.alloc (.cells #[.int .u32 (yo : Int), encStr yn, .int .i64 yk, .int .i64 (yt : Int)] 48)).grownBy w4 (Value.slice A3 i c3).ownBlock → Below w.heap.size w w4) := Lib.hid (fun w4 (v4 : Value) hg4 => ((HB.out.trans (HB5.out.mono HB.out.size)).alloc (by have := HB.out.size; have := HB5.out.size; omega) _).grown hg4 HBZ.out (fun k hk => (HO.out.block k hk).1))
          go_wp2_with (first
            | ((with_reducible refine wpl_appH (some 67) _ _ _ (.tmp 58) (.tmp 66) w.heap.size (.slice A3 i c3) (H.take i) wr.heap.size yo yn yk yt ?hs ?hx HO3.out LN.out HSM.out HBZ.out ?_); (case hs => rfl); (case hx => rfl); (intro v4 w4 ho4 hg4 hb4; (have hB4 := HBW.out w4 v4 hg4); (have hR4 := HH.out.below hB4); (have z0 := ho_cell hR4.l m hm); (rw [HYY.out] at z0); (obtain ⟨c0, c1⟩ := hR4.c.cells2); (have HO4 := Lib.hid ho4); (have HB4 := Lib.hid hB4); clear ho4 hg4 hb4 hB4 hR4)))
          go_roundw
          case rel => exact ⟨i + 1, by have := HZ.out; omega, by rw [HLO.out], by rw [HHI.out]; exact HO4.out, HB4.out⟩
          case measure =>
            obtain ⟨A4, c4, rfl, -, -⟩ := HO4.out.hin
            simp [lenV_slice]
            omega
    · have hlt2 : decide ((i : Int) < (r.L.length : Int)) = false := by simp; omega
      have hii : H.take i = H := List.take_of_length_le (by have := HZ.out; omega)
      rw [hii] at HO
      go_wp2
      go_ret
      exact ⟨_, rfl, HO.out, HB.out⟩

end Go.Proofs.Ytlgdjmmhdfpfeaa
