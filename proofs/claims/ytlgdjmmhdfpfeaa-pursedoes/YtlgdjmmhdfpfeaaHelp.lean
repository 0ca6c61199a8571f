/-
  The contracts of long and act.
-/
import Derived.Test.YtlgdjmmhdfpfeaaInA
import Derived.Test.YtlgdjmmhdfpfeaaSmall
namespace Go.Proofs.Ytlgdjmmhdfpfeaa
open Go.Proofs Go.RowKit
set_option maxRecDepth 100000
set_option linter.unusedVariables false
set_option linter.unusedSimpArgs false

/-- What is known where long says no. -/
def Short (l : List Kd) (a : List Ac) : Prop := l.length ≤ 200 ∧ (∀ g ∈ l, g.n.length ≤ 1000) ∧ ∀ (i : Nat) (hi : i < a.length), i < 200 → a[i].x.length ≤ 1000
def LongPost (w : World) (l : List Kd) (a : List Ac) (e : Ending) (w' : World) : Prop := w = w' ∧ (e = .returned (.bool true) ∨ (e = .returned (.bool false) ∧ Short l a))
def LgR (l : List Kd) (i : Value) : Prop := ∃ j : Nat, j ≤ l.length ∧ i = .int .i64 (j : Int) ∧ ∀ (k : Nat) (hk : k < l.length), k < j → l[k].n.length ≤ 1000
def LgA (a : List Ac) (i : Value) : Prop := ∃ j : Nat, j ≤ a.length ∧ j ≤ 200 ∧ i = .int .i64 (j : Int) ∧ ∀ (k : Nat) (hk : k < a.length), k < j → a[k].x.length ≤ 1000

set_option maxHeartbeats 4000000 in
theorem long_any (A : Option Addr) (n c : Nat) (l : List Kd) (B : Option Addr) (m d : Nat) (a : List Ac) (w : World) (hG : Gin w A n l) (hA : Ain w B m a) (hm : m ≤ maxLen) (hn : n ≤ maxLen) :
    Calls Try.prog 9 #[.slice A n c, .slice B m d] w (LongPost w l a) := by
  have HG := Lib.hid hG
  have HA := Lib.hid hA
  have HN := Lib.hid hG.1
  have HM := Lib.hid hA.1
  unfold maxLen at hm hn
  clear hG hA
  by_cases h2 : 200 < n
  · have e0 : (200 : Int) < (n : Int) := by omega
    go_enter Try.func9, Try.ntmps9
    go_wp2
    go_ret
    exact ⟨rfl, .inl rfl⟩
  · have e0 : decide ((200 : Int) < (n : Int)) = false := by simp; omega
    go_enter Try.func9, Try.ntmps9
    go_wp2_with fail
    go_loop [5] (fun i => LgR l i) (fun i => n - (intOf i).toNat)
    case atStart => exact ⟨0, by omega, rfl, fun k hk h => by omega⟩
    case round =>
      obtain ⟨j, hj, rfl, hall⟩ := hrel
      have HALL := Lib.hid hall
      clear hall
      have hjn : j ≤ n := by have := HN.out; omega
      by_cases hlt : j < n
      · have hlt2 : (j : Int) < (n : Int) := by omega
        have hlt3 : j < l.length := by have := HN.out; omega
        obtain ⟨b0, off, rfl, hbl, hcell⟩ := HG.out.2 (by omega)
        obtain ⟨x0, -, -⟩ := hcell j hlt3
        obtain ⟨xx, hxx⟩ : ∃ q, l[j].n = q := ⟨_, rfl⟩
        rw [hxx] at x0
        have HX := Lib.hid hxx
        clear hcell hxx
        by_cases hx : 1000 < xx.length
        · have e1 : decide ((1000 : Int) < (xx.length : Int)) = true := by simp; omega
          go_wp2
          go_ret
          exact ⟨rfl, .inl rfl⟩
        · have e1 : decide ((1000 : Int) < (xx.length : Int)) = false := by simp; omega
          go_wp2
          go_round
          case rel =>
            refine ⟨j + 1, by omega, by go_num, fun k hk h => ?_⟩
            by_cases hkj : k = j
            · subst hkj; rw [HX.out]; omega
            · exact HALL.out k hk (by omega)
          case measure => simp [intOf]; omega
      · have hnl : decide ((j : Int) < (n : Int)) = false := by simp; omega
        have HGD : Hid (l.length ≤ 200 ∧ ∀ g ∈ l, g.n.length ≤ 1000) := Lib.hid ⟨by have := HN.out; omega, fun g hg => by
          obtain ⟨k, hk, rfl⟩ := List.getElem_of_mem hg
          exact HALL.out k hk (by have := HN.out; omega)⟩
        clear HALL
        go_wp2_with fail
        clear hnl
        go_loop [6] (fun i => LgA a i) (fun i => 201 - (intOf i).toNat)
        case atStart => exact ⟨0, by omega, by omega, rfl, fun k hk h => by omega⟩
        case round =>
          obtain ⟨q, hq, hq2, rfl, hall⟩ := hrel
          have HALL := Lib.hid hall
          clear hall
          have hqm : q ≤ m := by have := HM.out; omega
          by_cases hlt : q < m
          · have hlt2 : (q : Int) < (m : Int) := by omega
            by_cases hq3 : q < 200
            · have e2 : decide ((q : Int) < 200) = true := by simp; omega
              have hlt3 : q < a.length := by have := HM.out; omega
              obtain ⟨b0, off, rfl, hbl, hcell⟩ := HA.out.2 (by omega)
              obtain ⟨-, -, x0, -⟩ := hcell q hlt3
              obtain ⟨xx, hxx⟩ : ∃ z, a[q].x = z := ⟨_, rfl⟩
              rw [hxx] at x0
              have HX := Lib.hid hxx
              clear hcell hxx
              by_cases hx : 1000 < xx.length
              · have e1 : decide ((1000 : Int) < (xx.length : Int)) = true := by simp; omega
                go_wp2
                go_ret
                exact ⟨rfl, .inl rfl⟩
              · have e1 : decide ((1000 : Int) < (xx.length : Int)) = false := by simp; omega
                go_wp2
                go_round
                case rel =>
                  refine ⟨q + 1, by omega, by omega, by go_num, fun k hk h => ?_⟩
                  by_cases hkj : k = q
                  · subst hkj; rw [HX.out]; omega
                  · exact HALL.out k hk (by omega)
                case measure => simp [intOf]; omega
            · have e2 : decide ((q : Int) < 200) = false := by simp; omega
              go_wp2
              go_ret
              exact ⟨rfl, .inr ⟨rfl, HGD.out.1, HGD.out.2, fun i hi h => HALL.out i hi (by omega)⟩⟩
          · have hnl : decide ((q : Int) < (m : Int)) = false := by simp; omega
            go_wp2
            go_ret
            exact ⟨rfl, .inr ⟨rfl, HGD.out.1, HGD.out.2, fun i hi h => HALL.out i hi (by have := HM.out; omega)⟩⟩

/-- Which way on an act is. -/
def wayOf (t : Int) : Nat := if t = 2 then 0 else if t = 3 then 1 else 2
theorem wayOf_le (t : Int) : wayOf t ≤ 2 := by unfold wayOf; split <;> (try split) <;> omega
/-- What an act does. -/
def actS (q : Ss) (a : Ac) : Ss := if a.t = 0 ∨ a.t = 1 then authS q a.o a.x a.n else movS q a.o (wayOf a.t)
def actV (q : Ss) (a : Ac) : Bool := if a.t = 0 ∨ a.t = 1 then authV q a.o a.x a.n else movV q a.o (wayOf a.t)
def ActPost (w : World) (b : SB) (q : Ss) (a : Ac) (e : Ending) (w' : World) : Prop := e = .returned (.int .i64 (verd (actV q a))) ∧ At w' b (actS q a) ∧ Frm w w' b
theorem Inv.act {q : Ss} (h : Inv q) {a : Ac} (ho : a.o < 4294967296) : Inv (actS q a) := by
  unfold actS
  split
  · exact h.auth ho _ _
  · exact h.mov _ (wayOf_le _)
theorem actS_len (q : Ss) (a : Ac) : (actS q a).H.length ≤ q.H.length + 1 ∧ (actS q a).K.map (·.n) = q.K.map (·.n) := by
  unfold actS
  split
  · exact authS_len q _ _ _
  · have := movS_len q a.o (wayOf a.t); exact ⟨by omega, this.2⟩
theorem actS_no {q : Ss} {a : Ac} (h : actV q a = false) : actS q a = q := by
  unfold actV at h
  unfold actS
  split
  · rename_i h1; rw [if_pos h1] at h; exact authS_no h
  · rename_i h1; rw [if_neg h1] at h; exact movS_no h

set_option maxHeartbeats 4000000 in
theorem act_any (b : SB) (q : Ss) (a : Ac) (w : World) (hA : At w b q) (hI : Inv q) (ho : a.o < 4294967296) (hx : a.x.length ≤ maxLen) (hn : in64 a.n) (hl : q.H.length ≤ 1000) :
    Calls Try.prog 13 #[.pointer (some ⟨b.s, 0, none⟩), .agg #[.int .i64 a.t, .int .u32 (a.o : Int), encStr a.x, .int .i64 a.n]] w (ActPost w b q a) := by
  have HA := Lib.hid (hA.alloc (.cells #[.int .i64 a.t, .int .u32 (a.o : Int), encStr a.x, .int .i64 a.n] 35))
  have HI := Lib.hid hI
  have HB := Lib.hid (Frm.of_below b (below1 w (.cells #[.int .i64 a.t, .int .u32 (a.o : Int), encStr a.x, .int .i64 a.n] 35)))
  have C1 := Lib.hid (auth_any b q a.o a.x a.n _ HA.out hI ho hx hn hl)
  have D0 := Lib.hid (capture_any b q a.o _ HA.out hI ho hl)
  have D1 := Lib.hid (void_any b q a.o _ HA.out hI ho hl)
  have D2 := Lib.hid (refund_any b q a.o _ HA.out hI ho hl)
  clear hA hI hn
  obtain ⟨t, o, x, n⟩ := a
  dsimp only at *
  by_cases h0 : t = 0
  · have ev : actV q ⟨t, o, x, n⟩ = authV q o x n ∧ actS q ⟨t, o, x, n⟩ = authS q o x n := by unfold actV actS; rw [if_pos (.inl h0), if_pos (.inl h0)]; exact ⟨rfl, rfl⟩
    have EV := Lib.hid ev
    have e0 : (t == 0) = true := by simp [h0]
    clear ev D0 D1 D2 h0
    go_enter Try.func13, Try.ntmps13
    go_wp2_with fail
    with_reducible refine C1.out.mono ?_
    rintro e w2 ⟨rfl, h1, h2⟩
    have H1 := Lib.hid h1
    have H2 := Lib.hid h2
    clear h1 h2
    go_wp2
    go_ret
    exact ⟨by rw [EV.out.1]; rfl, by rw [EV.out.2]; exact H1.out, HB.out.trans H2.out⟩
  have e0 : (t == 0) = false := by simpa using h0
  by_cases h1 : t = 1
  · have ev : actV q ⟨t, o, x, n⟩ = authV q o x n ∧ actS q ⟨t, o, x, n⟩ = authS q o x n := by unfold actV actS; rw [if_pos (.inr h1), if_pos (.inr h1)]; exact ⟨rfl, rfl⟩
    have EV := Lib.hid ev
    have e1 : (t == 1) = true := by simp [h1]
    clear ev D0 D1 D2 h0 h1
    go_enter Try.func13, Try.ntmps13
    go_wp2_with fail
    with_reducible refine C1.out.mono ?_
    rintro e w2 ⟨rfl, h1, h2⟩
    have H1 := Lib.hid h1
    have H2 := Lib.hid h2
    clear h1 h2
    go_wp2
    go_ret
    exact ⟨by rw [EV.out.1]; rfl, by rw [EV.out.2]; exact H1.out, HB.out.trans H2.out⟩
  have e1 : (t == 1) = false := by simpa using h1
  by_cases h2 : t = 2
  · have ev : actV q ⟨t, o, x, n⟩ = movV q o 0 ∧ actS q ⟨t, o, x, n⟩ = movS q o 0 := by
      have hw : wayOf t = 0 := by unfold wayOf; rw [if_pos h2]
      unfold actV actS
      dsimp only
      rw [if_neg (by rintro (h | h) <;> contradiction), if_neg (by rintro (h | h) <;> contradiction), hw]
      exact ⟨rfl, rfl⟩
    have EV := Lib.hid ev
    have e2 : (t == 2) = true := by simp [h2]
    clear ev C1 D1 D2 h0 h1 h2
    go_enter Try.func13, Try.ntmps13
    go_wp2_with fail
    with_reducible refine D0.out.mono ?_
    rintro e w2 ⟨rfl, h1, h2⟩
    have H1 := Lib.hid h1
    have H2 := Lib.hid h2
    clear h1 h2
    go_wp2
    go_ret
    exact ⟨by rw [EV.out.1]; rfl, by rw [EV.out.2]; exact H1.out, HB.out.trans H2.out⟩
  have e2 : (t == 2) = false := by simpa using h2
  by_cases h3 : t = 3
  · have ev : actV q ⟨t, o, x, n⟩ = movV q o 1 ∧ actS q ⟨t, o, x, n⟩ = movS q o 1 := by
      have hw : wayOf t = 1 := by unfold wayOf; rw [if_neg h2, if_pos h3]
      unfold actV actS
      dsimp only
      rw [if_neg (by rintro (h | h) <;> contradiction), if_neg (by rintro (h | h) <;> contradiction), hw]
      exact ⟨rfl, rfl⟩
    have EV := Lib.hid ev
    have e3 : (t == 3) = true := by simp [h3]
    clear ev C1 D0 D2 h0 h1 h2 h3
    go_enter Try.func13, Try.ntmps13
    go_wp2_with fail
    with_reducible refine D1.out.mono ?_
    rintro e w2 ⟨rfl, h1, h2⟩
    have H1 := Lib.hid h1
    have H2 := Lib.hid h2
    clear h1 h2
    go_wp2
    go_ret
    exact ⟨by rw [EV.out.1]; rfl, by rw [EV.out.2]; exact H1.out, HB.out.trans H2.out⟩
  have e3 : (t == 3) = false := by simpa using h3
  have ev : actV q ⟨t, o, x, n⟩ = movV q o 2 ∧ actS q ⟨t, o, x, n⟩ = movS q o 2 := by
    have hw : wayOf t = 2 := by unfold wayOf; rw [if_neg h2, if_neg h3]
    unfold actV actS
    dsimp only
    rw [if_neg (by rintro (h | h) <;> contradiction), if_neg (by rintro (h | h) <;> contradiction), hw]
    exact ⟨rfl, rfl⟩
  have EV := Lib.hid ev
  clear ev C1 D0 D1 h0 h1 h2 h3
  go_enter Try.func13, Try.ntmps13
  go_wp2_with fail
  with_reducible refine D2.out.mono ?_
  rintro e w2 ⟨rfl, h1, h2⟩
  have H1 := Lib.hid h1
  have H2 := Lib.hid h2
  clear h1 h2
  go_wp2
  go_ret
  exact ⟨by rw [EV.out.1]; rfl, by rw [EV.out.2]; exact H1.out, HB.out.trans H2.out⟩

end Go.Proofs.Ytlgdjmmhdfpfeaa
