/-
  What all laws' walks stand on.
-/
import Derived.Test.YtlgdjmmhdfpfeaaKnown
import Derived.Test.YtlgdjmmhdfpfeaaLawM
import Derived.Deep.DeepCutAuto
import Derived.Deep.CutRange
import Derived.Deep.CutBlock
namespace Go.Proofs.Ytlgdjmmhdfpfeaa
open Go.Proofs Go.RowKit
set_option maxRecDepth 100000
set_option linter.unusedVariables false
set_option linter.unusedSimpArgs false

def SwS (w0 w : World) (b : SB) (q : Ss) (e : Ending) (w' : World) : Prop := e = .returned (.bool true) ∧ SW w0 w' b q ∧ Below w.heap.size w w'
theorem sw_sameG {w0 w : World} {b : SB} {q : Ss} (h : SW w0 w b q) {v1 v2 : Value} {l : List Kd} (h1 : RG w b v1 l) (h2 : RG w b v2 l) (hn : l.length ≤ 1000000) : Calls Try.prog 18 #[v1, v2] w (SwS w0 w b q) := by
  obtain ⟨B1, o1, -⟩ := h1
  obtain ⟨B2, o2, -⟩ := h2
  exact (sameG_own B1 B2 v1 v2 l w o1 o2 hn).mono fun e w' ⟨he, hb⟩ => ⟨he, h.below hb, hb⟩
theorem sw_sameH {w0 w : World} {b : SB} {q : Ss} (h : SW w0 w b q) {v1 v2 : Value} {l : List Hd} (h1 : RH w b v1 l) (h2 : RH w b v2 l) (hn : l.length ≤ 1000000) : Calls Try.prog 20 #[v1, v2] w (SwS w0 w b q) := by
  obtain ⟨B1, o1, -⟩ := h1
  obtain ⟨B2, o2, -⟩ := h2
  exact (sameH_own B1 B2 v1 v2 l w o1 o2 hn).mono fun e w' ⟨he, hb⟩ => ⟨he, h.below hb, hb⟩
theorem Short.names {l : List Kd} {a : List Ac} (h : Short l a) : ∀ g ∈ l, g.n.length ≤ 1000000 := fun g hg => by have := h.2.1 g hg; omega
theorem RG.drewN {w : World} {b : SB} {v : Value} {l : List Kd} (h : RG w b v l) (n : Nat) : RG (w.drewN n) b v l := h.below (below_drewN (Below.refl _ _) n)
theorem RH.drewN {w : World} {b : SB} {v : Value} {l : List Hd} (h : RH w b v l) (n : Nat) : RH (w.drewN n) b v l := h.below (below_drewN (Below.refl _ _) n)
/-- The cells of one place. -/
theorem RG.at {w : World} {b : SB} {A : Option Addr} {n c : Nat} {l : List Kd} (h : RG w b (.slice A n c) l) (i : Nat) (hi : i < l.length) : ∃ g o, A = some ⟨g, o, none⟩ ∧ g < w.heap.size ∧ w.cell? ⟨g, o + i * 3, none⟩ = some (encStr l[i].n) ∧ w.cell? ⟨g, o + i * 3 + 1, none⟩ = some (.int .i64 l[i].m) ∧ w.cell? ⟨g, o + i * 3 + 2, none⟩ = some (.int .i64 l[i].h) := by
  obtain ⟨A', c', e, hg, -⟩ := h.gin
  injection e with q1 q2 q3
  subst q1 q2 q3
  obtain ⟨g, o, e, hl, hc⟩ := hg.2 (by omega)
  exact ⟨g, o, e, hl, hc i hi⟩
theorem RH.at {w : World} {b : SB} {A : Option Addr} {n c : Nat} {l : List Hd} (h : RH w b (.slice A n c) l) (i : Nat) (hi : i < l.length) : ∃ g o, A = some ⟨g, o, none⟩ ∧ g < w.heap.size ∧ w.cell? ⟨g, o + i * 4, none⟩ = some (.int .u32 (l[i].o : Int)) ∧ w.cell? ⟨g, o + i * 4 + 1, none⟩ = some (encStr l[i].n) ∧ w.cell? ⟨g, o + i * 4 + 2, none⟩ = some (.int .i64 l[i].k) ∧ w.cell? ⟨g, o + i * 4 + 3, none⟩ = some (.int .i64 (l[i].t : Int)) := by
  obtain ⟨A', c', e, hg, -⟩ := h.hin
  injection e with q1 q2 q3
  subst q1 q2 q3
  obtain ⟨g, o, e, hl, hc⟩ := hg.2 (by omega)
  exact ⟨g, o, e, hl, hc i hi⟩
/-- Acts ahead of what a law looks at. -/
def AcR (lim N : Nat) (w : World) (a : List Ac) (b : SB) (i : Value) (wr : World) : Prop := ∃ (j : Nat) (q : Ss), j ≤ a.length ∧ j ≤ lim ∧ i = .int .i64 (j : Int) ∧ SW w wr b q ∧ q.H.length ≤ j ∧ q.K.length = N
def AcE (lim N : Nat) (w : World) (b : SB) (wr : World) : Prop := ∃ q : Ss, SW w wr b q ∧ q.H.length ≤ lim ∧ q.K.length = N

def HaR (L : List Hd) (o : Nat) (i : Value) : Prop := ∃ j : Nat, j ≤ L.length ∧ i = .int .i64 (j : Int) ∧ ∀ y ∈ L.take j, y.o ≠ o
theorem has_any' (A : Option Addr) (n c : Nat) (L : List Hd) (o : Nat) (w : World) (hA : Hin w A n L) (hn : n ≤ 1000000) : Calls Try.prog 28 #[.slice A n c, .int .u32 (o : Int)] w fun e w' => e = .returned (.bool (findH L o).isSome) ∧ w = w' := by
  have HA := Lib.hid hA
  have HN := Lib.hid hA.1
  clear hA
  go_enter Try.func28, Try.ntmps28
  go_wp2_with fail
  go_loop [5] (fun i => HaR L o i) (fun i => n - (intOf i).toNat)
  case atStart => exact ⟨0, by omega, rfl, by simp⟩
  case round =>
    obtain ⟨j, hj, rfl, hall⟩ := hrel
    have HALL := Lib.hid hall
    clear hall
    have hjn : j ≤ n := by have := HN.out; omega
    by_cases hlt : j < n
    · have hlt2 : (j : Int) < (n : Int) := by omega
      have hlt3 : j < L.length := by have := HN.out; omega
      obtain ⟨b0, off, rfl, hbl, hcell⟩ := HA.out.2 (by omega)
      obtain ⟨x0, -⟩ := hcell j hlt3
      have HT := Lib.hid (List.take_succ_eq_append_getElem hlt3)
      have HM := Lib.hid (List.getElem_mem hlt3)
      obtain ⟨y, hy⟩ : ∃ y, L[j] = y := ⟨_, rfl⟩
      rw [hy] at x0 HT HM
      clear hcell hy
      by_cases ho : y.o = o
      · have e1 : (((y.o : Int) == (o : Int)) : Bool) = true := by rw [ho]; simp
        have HS : Hid ((findH L o).isSome = true) := Lib.hid (by
          cases hf : findH L o with
          | none => exact absurd ho (findH_none hf y HM.out)
          | some _ => rfl)
        clear ho
        go_wp2
        go_ret
        exact ⟨by rw [HS.out]; rfl, rfl⟩
      · have e1 : (((y.o : Int) == (o : Int)) : Bool) = false := beq_eq_false_iff_ne.2 (by omega)
        have HO := Lib.hid ho
        clear ho
        go_wp2
        go_round
        case rel =>
          refine ⟨j + 1, by omega, by go_num, fun z hz => ?_⟩
          rw [HT.out] at hz
          rcases List.mem_append.1 hz with hz | hz
          · exact HALL.out z hz
          · have : z = y := by simpa using hz
            rw [this]; exact HO.out
        case measure => simp [intOf]; omega
    · have hnl : decide ((j : Int) < (n : Int)) = false := by simp; omega
      have HS : Hid ((findH L o).isSome = false) := Lib.hid (by
        have e : L.take j = L := List.take_of_length_le (by have := HN.out; omega)
        rw [findH_none' (by rw [← e]; exact HALL.out)]; rfl)
      go_wp2
      go_ret
      exact ⟨by rw [HS.out]; rfl, rfl⟩
theorem has_row {w : World} {b : SB} {v : Value} {L : List Hd} (h : RH w b v L) (hl : L.length ≤ 1000000) (o : Nat) : Calls Try.prog 28 #[v, .int .u32 (o : Int)] w fun e w' => e = .returned (.bool (findH L o).isSome) ∧ w = w' := by
  obtain ⟨A, c, rfl, h1, -⟩ := h.hin
  exact has_any' A _ c L o w h1 hl

end Go.Proofs.Ytlgdjmmhdfpfeaa
