/-
  The walk of EntryEpochs, out of the contracts.
-/
import Derived.Test.YtccpmalefdnhdaaKnown
import Derived.Test.YtccpmalefdnhdaaIn
import Derived.IntWalk
namespace Go.Proofs.Ytccpmalefdnhdaa
open Go.RowKit

/-- A slice of entries that came in. -/
abbrev InEnts (w : World) (a : Option Addr) (n cap : Nat) (es : List Entry) : Prop := Ents w a n es ∧ n ≤ cap ∧ cap ≤ maxLen ∧ (a = none → cap = 0)

theorem known_ret (w : World) : Calls Try.prog 12 #[] w fun e w' => e = .returned (.bool true) ∧ Below w.heap.size w w' := known_any w

set_option maxHeartbeats 400000 in
theorem epochs_long (a : Option Addr) (n cap : Nat) (w : World) (hn : 500 < n) (hm : n ≤ maxLen) :
    Calls Try.prog 10 #[.slice a n cap] w fun e w' => e = .returned (.bool true) ∧ Below w.heap.size w w' := by
  unfold maxLen at hm
  go_enter Try.func10, Try.ntmps10
  go_wp2_with fail
  with_reducible refine (known_any _).mono ?_
  rintro e w2 ⟨rfl, hb⟩
  go_wp2
  go_ret
  exact ⟨rfl, hb⟩

def EpR (w : World) (m : Nat) (i : Value) (wr : World) : Prop := ∃ k : Nat, k ≤ m ∧ i = .int .i64 k ∧ Below w.heap.size w wr

theorem good_at {es : List Entry} {k : Nat} (h : Ent.good es k) (hk : k < es.length) : Ent.ok es[k] = true ∧ ∀ h0 : 0 < k, Ent.nxt (es[k - 1]'(by omega)) es[k] := by
  obtain ⟨e, h1, h2, h3⟩ := h
  rw [List.getElem?_eq_getElem hk] at h1
  injection h1 with h1
  subst h1
  refine ⟨h2, fun h0 => ?_⟩
  obtain ⟨b, h4, h5⟩ := h3 h0
  rw [List.getElem?_eq_getElem (by omega)] at h4
  injection h4 with h4
  subst h4
  exact h5

set_option maxRecDepth 100000 in
set_option maxHeartbeats 4000000 in
theorem epochs_short (a : Option Addr) (n cap : Nat) (es : List Entry) (w : World) (hI : InEnts w a n cap es) (hn : n ≤ 500) :
    Calls Try.prog 10 #[.slice a n cap] w fun e w' => e = .returned (.bool true) ∧ Below w.heap.size w w' := by
  obtain ⟨hE, _, _, _⟩ := hI
  have hlen := hE.1
  have HE := Lib.hid hE
  have HLEN := Lib.hid hlen
  have C1 := Lib.hid (row_any a n cap es w hE (small_len _ (by omega)))
  clear hE hlen
  have hn5 : decide ((500 : Int) < (n : Int)) = false := by rw [decide_eq_false_iff_not]; omega
  go_enter Try.func10, Try.ntmps10
  go_wp2_with fail
  with_reducible refine C1.out.mono ?_
  rintro x w1 ⟨m, hm, rfl, hb1⟩
  have hmn : m ≤ n := by rw [← HLEN.out]; exact hm.1
  have HG := Lib.hid hm.2.1
  obtain ⟨er, her⟩ : ∃ q, Ent.rowE es m = q := ⟨_, rfl⟩
  rw [her]
  clear hm her C1
  have hnm : decide (n < m) = false := by rw [decide_eq_false_iff_not]; omega
  have hm0 : decide ((m : Int) < 0) = false := by rw [decide_eq_false_iff_not]; omega
  go_wp2_with fail
  go_loopw [5] (EpR w m) (fun i _ => m - (intOf i).toNat)
  case atStart => exact ⟨0, by omega, rfl, hb1⟩
  case round =>
    obtain ⟨k, hk, rfl, hbel⟩ := hrel
    have HBE := Lib.hid hbel
    clear hbel
    by_cases hlt : k < m
    · obtain ⟨b, off, rfl, hat⟩ := HE.out.2 (by omega)
      have hkl : k < es.length := by rw [HLEN.out]; omega
      obtain ⟨hok, hnx⟩ := good_at (HG.out k hlt) hkl
      obtain ⟨A1, A2, c1, c2, hV, hrg⟩ := (hat k hkl).below HBE.out
      obtain ⟨e0, e1, e2, e3, e4, e5, e6, e7, e8, e9, e10⟩ := range_cells hrg
      have cc := check_any (es[k]'hkl) A1 A2 c1 c2 wr
      unfold ChkPost at cc
      rw [show chkN (es[k]'hkl) = 0 from by unfold chkN; rw [if_pos hok]] at cc
      have C2 := Lib.hid cc
      have hpv : ∀ h0 : 0 < k, At11 wr b (off + (k - 1) * 11) (es[k - 1]'(by omega)) := fun h0 => (hat (k - 1) (by omega)).below HBE.out
      have HPV := Lib.hid hpv
      have HNX := Lib.hid hnx
      have HRG := Lib.hid hrg
      have hi1 : (k : Int) < (n : Int) := by omega
      clear cc hat hV hok hpv hnx hrg
      generalize he : es[k]'hkl = e at *
      obtain ⟨n1, hn1⟩ : ∃ n, e.key.length = n := ⟨_, rfl⟩
      obtain ⟨n2, hn2⟩ : ∃ n, e.data.length = n := ⟨_, rfl⟩
      rw [hn1] at e9 C2 HRG
      rw [hn2] at e10 C2 HRG
      clear hn1 hn2 he
      go_wp2_with fail
      with_reducible refine C2.out.mono ?_
      rintro x w2 ⟨rfl, hb2⟩
      have BB2 := Lib.hid (HBE.out.trans (hb2.mono HBE.out.size))
      have hrg2 := range_below HRG.out hb2
      clear e0 e1 e2 e3 e4 e5 e6 e7 e8 e9 e10
      obtain ⟨e0, e1, e2, e3, e4, e5, e6, e7, e8, e9, e10⟩ := range_cells hrg2
      clear e3 e4 e5 e6 e7 e8 e9 e10
      by_cases hk0 : k = 0
      · have hkb : (((k : Nat) : Int) == 0) = true := by rw [beq_iff_eq]; omega
        clear hk0
        go_wp2
        go_roundw
        case rel => exact ⟨k + 1, by omega, by go_num, BB2.out⟩
        case measure => simp [intOf]; omega
      · have hkb : (((k : Nat) : Int) == 0) = false := by rw [beq_eq_false_iff_ne]; omega
        obtain ⟨hx, hy⟩ := HNX.out (by omega)
        obtain ⟨D1, D2, d1, d2, hVd, hrd⟩ := HPV.out (by omega)
        have hylt := hVd.b.lsn
        have hrd2 := range_below hrd hb2
        clear HPV HNX hVd hrd
        obtain ⟨d, hd⟩ : ∃ d, es[k - 1]'(by omega) = d := ⟨_, rfl⟩
        rw [hd] at hx hy hylt hrd2
        clear hd
        obtain ⟨f0, f1, f2, f3, f4, f5, f6, f7, f8, f9, f10⟩ := range_cells hrd2
        clear f0 f3 f4 f5 f6 f7 f8 f9 f10
        obtain ⟨q, hkq⟩ : ∃ q, k - 1 = q := ⟨_, rfl⟩
        rw [hkq] at f1 f2
        have hq1 : IntKind.i64.wrap ((k : Int) - 1) = ((q : Nat) : Int) := by rw [IntWalk.i64_in _ (by omega)]; omega
        have hq2 : ((q : Nat) : Int) < (n : Int) := by omega
        clear hrd2 hrg2 hkq
        obtain ⟨y, hyy⟩ : ∃ y, d.lsn = y := ⟨_, rfl⟩
        obtain ⟨x', hxx⟩ : ∃ x, e.lsn = x := ⟨_, rfl⟩
        obtain ⟨u, huu⟩ : ∃ y, d.epoch = y := ⟨_, rfl⟩
        obtain ⟨v, hvv⟩ : ∃ x, e.epoch = x := ⟨_, rfl⟩
        obtain ⟨kd, hkd⟩ : ∃ x, e.kind = x := ⟨_, rfl⟩
        rw [hyy, hxx] at hx
        rw [huu, hvv, hkd] at hy
        rw [hyy] at f1 hylt
        rw [huu] at f2
        rw [hxx] at e1
        rw [hvv] at e2
        rw [hkd] at e0
        have hs1 : IntKind.u64.wrap ((x' : Int) - 1) = (y : Int) := by rw [IntKind.wrap_u64]; omega
        have g1 : (((x' : Nat) : Int) == 0) = false := by rw [beq_eq_false_iff_ne]; omega
        have g2 : (((y : Nat) : Int) != ((y : Nat) : Int)) = false := by simp
        have g3 : decide (v < u) = false := by rw [decide_eq_false_iff_not]; omega
        have g3' : decide (((v : Nat) : Int) < ((u : Nat) : Int)) = false := by rw [decide_eq_false_iff_not]; omega
        clear hyy hxx huu hvv hkd hx
        by_cases huv : u < v
        · have hk1 : kd = 1 := by omega
          subst hk1
          have g4 : decide (u < v) = true := by simpa using huv
          have g4' : decide (((u : Nat) : Int) < ((v : Nat) : Int)) = true := by rw [decide_eq_true_iff]; omega
          go_wp2_with fail
          go_quiet (fail)
          go_wp2
          go_roundw
          case rel => exact ⟨k + 1, by omega, by go_num, below_drewN BB2.out _⟩
          case measure => simp [intOf]; omega
        · have g4 : decide (u < v) = false := by simpa using huv
          have g4' : decide (((u : Nat) : Int) < ((v : Nat) : Int)) = false := by rw [decide_eq_false_iff_not]; omega
          go_wp2_with fail
          go_quiet (fail)
          go_wp2
          go_roundw
          case rel => exact ⟨k + 1, by omega, by go_num, below_drewN BB2.out _⟩
          case measure => simp [intOf]; omega
    · have hkn : k = m := by omega
      subst hkn
      go_wp2_with fail
      with_reducible refine (known_any _).mono ?_
      rintro x w2 ⟨rfl, hb2⟩
      go_wp2
      go_ret
      exact ⟨rfl, HBE.out.trans (hb2.mono HBE.out.size)⟩

theorem entryEpochs_walk (a : Option Addr) (n cap : Nat) (es : List Entry) (w : World) (hI : InEnts w a n cap es) :
    Calls Try.prog 10 #[.slice a n cap] w fun e w' => e = .returned (.bool true) ∧ Below w.heap.size w w' := by
  by_cases hn : n ≤ 500
  · exact epochs_short a n cap es w hI hn
  · exact epochs_long a n cap w (by omega) (by have := hI.2; omega)

end Go.Proofs.Ytccpmalefdnhdaa
