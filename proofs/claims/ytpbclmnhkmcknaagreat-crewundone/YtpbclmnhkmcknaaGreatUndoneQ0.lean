/-
  Texts of one proof, in their order: X13Undone, CUndM, COnceM, CKp, CDid, CRdec.
-/
import Derived.Test.YtpbclmnhkmcknaaGreatB22
namespace Go.Proofs.YtpbclmnhkmcknaaGreat.Do
open Go.RowKit Go.Maps
set_option maxRecDepth 100000
set_option linter.unusedVariables false
set_option linter.unusedSimpArgs false
theorem roomI_neg (F : List Int) (d : Int) (h : d < 0) : roomI F d = 0 := by unfold roomI; rw [if_neg (by omega)]
set_option maxHeartbeats 1000000 in
theorem room_same (b : SB) (q : Ss) (d : Int) (w : World) (hA : At w b q) (hl : q.F.length ≤ 1000) : Calls Tryz.prog 80 #[.pointer (some ⟨b.s, 0, none⟩), .int .i64 d] w fun e w' => e = .returned (.int .i64 (roomI q.F d)) ∧ w = w' := by
  obtain ⟨A, cap, hv⟩ := hA.len
  have hC := hA.c
  rw [hv] at hC
  obtain ⟨c0, c1⟩ := hC.cells2
  clear hC
  by_cases h1 : d < 0
  · have HR := Lib.hid (roomI_neg q.F d h1)
    clear hA hv
    go_enter Tryz.func80, Tryz.ntmps80
    go_wp2
    go_ret
    exact ⟨by rw [HR.out]; rfl, rfl⟩
  · have e1 : decide (d < 0) = false := by simpa using h1
    by_cases h2 : (q.F.length : Int) ≤ d
    · have HR : Hid (roomI q.F d = 0) := Lib.hid (by unfold roomI; rw [if_neg (by omega)])
      clear hA hv
      go_enter Tryz.func80, Tryz.ntmps80
      go_wp2
      go_ret
      exact ⟨by rw [HR.out]; rfl, rfl⟩
    · have e2 : decide ((q.F.length : Int) ≤ d) = false := by simpa using h2
      obtain ⟨k, rfl⟩ := Int.eq_ofNat_of_zero_le (show 0 ≤ d by omega)
      have hk : k < q.F.length := by omega
      obtain ⟨cap', hv', h3, h4, hc⟩ := hA.row (by omega)
      rw [hv] at hv'
      injection hv' with q1 q2 q3
      subst q1 q3
      obtain ⟨x0, -⟩ := hc k hk
      have HR := Lib.hid (roomI_nat q.F k)
      have hk2 : (k : Int) < (q.F.length : Int) := by omega
      have hk3 : decide ((k : Int) < 0) = false := by simp
      clear hA hv hc q2
      obtain ⟨x, hx⟩ : ∃ x, fr q.F k = x := ⟨_, rfl⟩
      rw [hx] at x0 HR
      clear hx
      go_enter Tryz.func80, Tryz.ntmps80
      go_wp2
      go_ret
      exact ⟨by rw [HR.out]; rfl, rfl⟩
end Go.Proofs.YtpbclmnhkmcknaaGreat.Do

namespace Go.Proofs.YtpbclmnhkmcknaaGreat
open Go.RowKit
open Fe (Lies Own Bys Reads NF Kx Kp Note)
set_option maxRecDepth 100000
set_option linter.unusedVariables false
set_option linter.unusedSimpArgs false
set_option maxHeartbeats 1000000 in
theorem room_crew {R : List Int} {b : CB} {q : Cq} (d : Int) (w : World) (h : CAt w b q) (hI : CInv R q) : Calls Tryz.prog 37 #[.pointer (some ⟨b.c, 0, none⟩), .int .i64 d] w fun x w' => x = .returned (.int .i64 (Do.roomI q.d.F d)) ∧ w = w' := by
  obtain ⟨c0, c1, c2, c3, c4, c5, c6⟩ := Lies_cells7 h.c
  have C := Lib.hid (Do.room_same b.d q.d d w h.d (by have h1 := hI.d.fl; have h2 := hI.d.fz; omega))
  clear h hI
  go_enter Tryz.func37, Tryz.ntmps37
  go_wp2_with fail
  with_reducible refine C.out.mono ?_
  rintro x w1 ⟨rfl, rfl⟩
  go_wp2
  go_ret
  exact ⟨rfl, rfl⟩
section
variable {w w' w'' : World} {R : List Int} {cc : Nat} {b : CB} {q : Cq}
theorem cw_room (h : CW w w' R cc b q) (d : Int) : Calls Tryz.prog 37 #[.pointer (some ⟨cc, 0, none⟩), .int .i64 d] w' fun x w'' => x = .returned (.int .i64 (Do.roomI q.d.F d)) ∧ w' = w'' := by
  have C := room_crew d w' h.at_ h.inv
  rwa [h.c] at C
end
namespace St
theorem first_upd {q : Ss} (hI : Inv q) {k k' : Kd} (hm : k ∈ q.K) (hn : k'.n = k.n) (H' : List Hd) (h1 : k'.f + k'.g + held H' k.n = k.f + k.g + held q.H k.n) (h2 : ∀ x, x ≠ k.n → held H' x = held q.H x) : firstL ⟨updK q.K k', H'⟩ = firstL q := by
  unfold firstL updK
  rw [List.map_map]
  refine List.map_congr_left fun y hy => ?_
  simp only [Function.comp]
  by_cases e : y.n = k'.n
  · have ey : y = k := hI.ks.uniq hy hm (e.trans hn)
    subst ey
    rw [if_pos (by simpa using e), hn, h1]
  · rw [if_neg (by simpa using e), h2 y.n (fun h => e (h.trans hn.symm))]
theorem first_hold {q : Ss} (hI : Inv q) (o : Nat) (x : List UInt8) (n : Int) : firstL (holdS q o x n) = firstL q := by
  cases hv : holdV q o x n
  · rw [holdS_no hv]
  · obtain ⟨-, -, -, k, hk, -⟩ := holdV_iff.1 hv
    obtain ⟨hm, rfl⟩ := findK_some hk
    rw [holdS_yes hv hk]
    refine first_upd hI (k := k) (k' := ⟨k.n, k.f - n, k.g⟩) hm rfl _ ?_ fun x hx => ?_
    · rw [held_ins]; simp; omega
    · rw [held_ins]
      have hb : (k.n == x) = false := by rw [beq_eq_false_iff_ne]; intro h'; exact hx h'.symm
      simp [hb]
theorem first_end {q : Ss} (hI : Inv q) (o : Nat) (b : Bool) : firstL (endS q o b) = firstL q := by
  cases hf : findH q.H o with
  | none => rw [endS_no hf]
  | some y =>
    obtain ⟨hy, rfl⟩ := findH_some hf
    obtain ⟨k, hk, hm, e⟩ := hI.kn hy
    rw [endS_yes hf hk]
    refine first_upd hI (k := k) (k' := backK k y.k b) hm (backK_n k y.k b) _ ?_ fun x hx => ?_
    · rw [held_del hI.hs hy, e]
      simp only [beq_self_eq_true, if_true]
      cases b <;> (unfold backK; simp; try omega)
    · rw [held_del hI.hs hy]
      have hb : (y.n == x) = false := by rw [beq_eq_false_iff_ne]; intro h'; exact hx (h'.symm.trans e.symm)
      simp [hb]
end St
namespace Pu
theorem first_upd {q : Ss} (hI : Inv q) {k k' : Kd} (hm : k ∈ q.K) (hn : k'.n = k.n) (H' : List Hd) (h1 : k'.m + held H' k.n 2 = k.m + held q.H k.n 2) (h2 : ∀ x, x ≠ k.n → held H' x 2 = held q.H x 2) : firstL ⟨updK q.K k', H'⟩ = firstL q := by
  unfold firstL updK
  rw [List.map_map]
  refine List.map_congr_left fun y hy => ?_
  simp only [Function.comp]
  by_cases e : y.n = k'.n
  · have ey : y = k := hI.ks.uniq hy hm (e.trans hn)
    subst ey
    rw [if_pos (by simpa using e), hn, h1]
  · rw [if_neg (by simpa using e), h2 y.n (fun h => e (h.trans hn.symm))]
theorem first_auth {q : Ss} (hI : Inv q) (o : Nat) (x : List UInt8) (n : Int) : firstL (authS q o x n) = firstL q := by
  cases hv : authV q o x n
  · rw [authS_no hv]
  · obtain ⟨-, -, -, k, hk, -⟩ := authV_iff.1 hv
    obtain ⟨hm, rfl⟩ := findK_some hk
    rw [authS_yes hv hk]
    refine first_upd hI (k := k) (k' := ⟨k.n, k.m, k.h + n⟩) hm rfl _ ?_ fun x hx => ?_
    · rw [held_ins]; simp
    · rw [held_ins]; simp
theorem first_mov {q : Ss} (hI : Inv q) (o : Nat) {c : Nat} (hc : c ≤ 2) : firstL (movS q o c) = firstL q := by
  cases hv : movV q o c with
  | false => rw [movS_no hv]
  | true =>
    obtain ⟨y, hf, ht⟩ := movV_iff.1 hv
    obtain ⟨hy, rfl⟩ := findH_some hf
    obtain ⟨k, hk, hm, e⟩ := hI.kn hy
    rw [movS_yes hf ht hk]
    refine first_upd hI (k := k) (k' := movK k y.k c) hm (movK_n k y.k c) _ ?_ fun x hx => ?_
    · rw [held_set hI.hs hy, ht, e]
      simp only [beq_self_eq_true, Bool.true_and]
      rcases frS_or c hc with ⟨rfl, e1, e2⟩ | ⟨rfl, e1, e2⟩ | ⟨rfl, e1, e2⟩ <;> (rw [e1, e2]; unfold movK; simp; try omega)
    · rw [held_set hI.hs hy]
      have hb : (y.n == x) = false := by rw [beq_eq_false_iff_ne]; intro h'; exact hx (h'.symm.trans e.symm)
      simp only [hb, Bool.false_and, Bool.false_eq_true, if_false]
      omega
end Pu
theorem fwd_first {R : List Int} {q : Cq} (h : CInv R q) (o : Nat) (k : Wk) : firstQ (fwdS q o k).q = firstQ q := by
  unfold fwdS
  split
  · exact Prod.ext (St.first_hold h.s _ _ _) rfl
  split
  · exact Prod.ext (St.first_end h.s _ _) rfl
  split
  · exact Prod.ext rfl (Pu.first_auth h.p _ _ _)
  split
  · exact Prod.ext rfl (Pu.first_mov h.p _ (by omega))
  split
  · split <;> rfl
  split <;> rfl
theorem bwd_first {R : List Int} {q : Cq} (h : CInv R q) (o : Nat) (k : Wk) : firstQ (bwdS q o k).q = firstQ q := by
  unfold bwdS
  split
  · exact Prod.ext (St.first_end h.s _ _) rfl
  split
  · exact Prod.ext rfl (Pu.first_mov h.p _ (by omega))
  split
  · exact Prod.ext rfl (Pu.first_mov h.p _ (by omega))
  split
  · rfl
  split <;> rfl
theorem decide_first {R : List Int} {q : Cq} (h : CInv R q) (a : Nat) (N : Note) : firstQ (decideS q a N).q = firstQ q := by
  have he : firstQ (execS q N.order N.undo N.data).q = firstQ q := by
    unfold execS
    split
    · rfl
    · split
      · exact bwd_first h _ _
      · exact fwd_first h _ _
  unfold decideS
  split
  · rfl
  split
  · rfl
  · unfold effS
    split
    · exact he
    · exact he
theorem serve_first {R : List Int} {q : Cq} (h : CInv R q) (N : Note) : firstQ (serveS q N).q = firstQ q := by
  unfold serveS
  dsimp only
  split
  · rfl
  split
  · rfl
  split
  · rfl
  split
  · rfl
  split
  · rfl
  · exact decide_first h _ N
end Go.Proofs.YtpbclmnhkmcknaaGreat

namespace Go.Proofs.YtpbclmnhkmcknaaGreat
open Go.RowKit
open Fe (Lies Own Bys Reads NF Kx Kp Note)
set_option maxRecDepth 100000
set_option linter.unusedVariables false
set_option linter.unusedSimpArgs false

/-- A step that took effect: its order, its step, its bytes. -/
structure Dn where
  o : Nat
  s : Int
  l : List Nat
/-- Which work bytes are. -/
def dt (l : List Nat) : Int := match decS l with | none => 0 | some k => k.t
theorem dt_of {l : List Nat} {k : Wk} (h : decS l = some k) : dt l = k.t := by unfold dt; rw [h]
/-- All that is held goes back to a step of D. -/
structure UI (q : Cq) (D : List Dn) : Prop where
  g : ∀ k ∈ q.s.K, k.g = 0
  s : ∀ y ∈ q.s.H, ∃ d ∈ D, d.o = y.o ∧ dt d.l = 1
  d : ∀ y ∈ q.d.H, ∃ d ∈ D, d.o = y.o ∧ dt d.l = 5
  p1 : ∀ y ∈ q.p.H, y.t = 1 → ∃ d ∈ D, d.o = y.o ∧ dt d.l = 3
  p2 : ∀ y ∈ q.p.H, y.t = 2 → ∃ d ∈ D, d.o = y.o ∧ dt d.l = 4
theorem cov_mono {D D' : List Dn} (h : ∀ d ∈ D, d ∈ D') {o : Nat} {t : Int} (e : ∃ d ∈ D, d.o = o ∧ dt d.l = t) : ∃ d ∈ D', d.o = o ∧ dt d.l = t := by
  obtain ⟨d, hd, e⟩ := e; exact ⟨d, h d hd, e⟩
theorem UI.mono {q : Cq} {D D' : List Dn} (h : UI q D) (hd : ∀ d ∈ D, d ∈ D') : UI q D' :=
  ⟨h.g, fun y hy => cov_mono hd (h.s y hy), fun y hy => cov_mono hd (h.d y hy), fun y hy e => cov_mono hd (h.p1 y hy e), fun y hy e => cov_mono hd (h.p2 y hy e)⟩
theorem UI.same {q q' : Cq} {D : List Dn} (h : UI q D) (h1 : q'.s = q.s) (h2 : q'.p = q.p) (h3 : q'.d = q.d) : UI q' D := by
  obtain ⟨s, p, d, f, E, M⟩ := q
  obtain ⟨s', p', d', f', E', M'⟩ := q'
  dsimp only at h1 h2 h3
  subst h1 h2 h3
  exact ⟨h.g, h.s, h.d, h.p1, h.p2⟩
theorem cov_drop {D : List Dn} {e : Dn} {o : Nat} {t : Int} (h : ∃ d ∈ D ++ [e], d.o = o ∧ dt d.l = t) (hn : e.o ≠ o ∨ dt e.l ≠ t) : ∃ d ∈ D, d.o = o ∧ dt d.l = t := by
  obtain ⟨d, hd, e1, e2⟩ := h
  rcases List.mem_append.1 hd with hd | hd
  · exact ⟨d, hd, e1, e2⟩
  · simp at hd
    subst hd
    rcases hn with hn | hn
    · exact absurd e1 hn
    · exact absurd e2 hn
/-- A step forward: what is new goes back to it. -/
theorem UI.fwd {q : Cq} {D : List Dn} (h : UI q D) (e : Dn) {k : Wk} (hk : decS e.l = some k) (h2 : k.t ≠ 2) : UI (fwdS q e.o k).q (D ++ [e]) := by
  have he : dt e.l = k.t := dt_of hk
  have hm := h.mono (D' := D ++ [e]) (fun d hd => List.mem_append_left _ hd)
  have hin : ∀ t : Int, k.t = t → ∃ d ∈ D ++ [e], d.o = e.o ∧ dt d.l = t := fun t ht => ⟨e, by simp, rfl, he.trans ht⟩
  unfold fwdS
  split
  · rename_i c
    cases hv : St.holdV q.s e.o (u8s k.x) k.n
    · rw [St.holdS_no hv]; exact hm.same rfl rfl rfl
    · obtain ⟨-, -, -, k0, hk0, -⟩ := St.holdV_iff.1 hv
      rw [St.holdS_yes hv hk0]
      refine ⟨fun y hy => ?_, fun y hy => ?_, hm.d, hm.p1, hm.p2⟩
      · rcases St.mem_updK.1 hy with ⟨rfl, -⟩ | ⟨hy, -⟩
        · exact h.g k0 (St.findK_some hk0).1
        · exact h.g y hy
      · rcases St.mem_insH.1 hy with rfl | hy
        · exact hin 1 c
        · exact hm.s y hy
  split
  · rename_i c
    cases hv : Pu.authV q.p e.o (u8s k.x) k.n
    · rw [Pu.authS_no hv]; exact hm.same rfl rfl rfl
    · obtain ⟨-, -, -, k0, hk0, -⟩ := Pu.authV_iff.1 hv
      rw [Pu.authS_yes hv hk0]
      refine ⟨hm.g, hm.s, hm.d, fun y hy ht => ?_, fun y hy ht => ?_⟩
      · rcases Pu.mem_insH.1 hy with rfl | hy
        · exact hin 3 c
        · exact hm.p1 y hy ht
      · rcases Pu.mem_insH.1 hy with rfl | hy
        · cases ht
        · exact hm.p2 y hy ht
  split
  · rename_i c
    cases hv : Pu.movV q.p e.o 0
    · rw [Pu.movS_no hv]; exact hm.same rfl rfl rfl
    · obtain ⟨y0, hf, ht0⟩ := Pu.movV_iff.1 hv
      cases hk0 : Pu.findK q.p.K y0.n with
      | none =>
        have : Pu.movS q.p e.o 0 = q.p := by unfold Pu.movS; rw [hf]; simp [hk0]
        rw [this]; exact hm.same rfl rfl rfl
      | some k0 =>
        rw [Pu.movS_yes hf ht0 hk0]
        refine ⟨hm.g, hm.s, hm.d, fun y hy ht => ?_, fun y hy ht => ?_⟩
        · rcases Pu.mem_setH.1 hy with ⟨z, hz, -, rfl⟩ | ⟨hy, -⟩
          · cases ht
          · exact hm.p1 y hy ht
        · rcases Pu.mem_setH.1 hy with ⟨z, hz, ho, rfl⟩ | ⟨hy, -⟩
          · show ∃ d ∈ D ++ [e], d.o = z.o ∧ _
            rw [ho]; exact hin 4 c
          · exact hm.p2 y hy ht
  split
  · rename_i c
    cases hb : Do.bookD q.d e.o 0 k.n with
    | none => exact hm
    | some d0 =>
      dsimp only
      rw [Do.bookS_yes hb]
      refine ⟨hm.g, hm.s, fun y hy => ?_, hm.p1, hm.p2⟩
      rcases Do.mem_insH.1 hy with rfl | hy
      · exact hin 5 c
      · exact hm.d y hy
  split
  · exact hm.same rfl rfl rfl
  · exact hm
theorem mov_case {R : List Int} {q : Cq} (hI : CInv R q) (o c : Nat) (hc : c ≤ 2) : ∀ y ∈ (Pu.movS q.p o c).H, (y ∈ q.p.H ∧ (y.o = o → y.t ≠ Pu.frS c)) ∨ (y.o = o ∧ y.t = Pu.toS c) := by
  intro y hy
  cases hv : Pu.movV q.p o c
  · rw [Pu.movS_no hv] at hy
    refine .inl ⟨hy, fun e ht => ?_⟩
    have := Pu.movV_iff.2 ⟨y, e ▸ hI.p.hs.find hy, ht⟩
    rw [hv] at this; cases this
  · obtain ⟨y0, hf, ht0⟩ := Pu.movV_iff.1 hv
    obtain ⟨hy0, ho0⟩ := Pu.findH_some hf
    obtain ⟨k0, hk0, -, -⟩ := hI.p.kn hy0
    rw [Pu.movS_yes hf ht0 hk0] at hy
    rcases Pu.mem_setH.1 hy with ⟨z, hz, ho, rfl⟩ | ⟨hy, hn⟩
    · exact .inr ⟨ho, rfl⟩
    · exact .inl ⟨hy, fun e => absurd e hn⟩
/-- A step back: what it held is held no more. -/
theorem UI.bwd {R : List Int} {q : Cq} {D : List Dn} (hI : CInv R q) (e : Dn) (h : UI q (D ++ [e])) {k : Wk} (hk : decS e.l = some k) (h2 : k.t ≠ 2) : UI (bwdS q e.o k).q D := by
  have he : dt e.l = k.t := dt_of hk
  have hw := (wkB_iff k).1 (decS_some hk).2.2
  have hS : k.t ≠ 1 → ∀ y ∈ q.s.H, ∃ d ∈ D, d.o = y.o ∧ dt d.l = 1 := fun c y hy => cov_drop (h.s y hy) (.inr (by rw [he]; exact c))
  have hD : k.t ≠ 5 → ∀ y ∈ q.d.H, ∃ d ∈ D, d.o = y.o ∧ dt d.l = 5 := fun c y hy => cov_drop (h.d y hy) (.inr (by rw [he]; exact c))
  have h1 : k.t ≠ 3 → ∀ y ∈ q.p.H, y.t = 1 → ∃ d ∈ D, d.o = y.o ∧ dt d.l = 3 := fun c y hy t => cov_drop (h.p1 y hy t) (.inr (by rw [he]; exact c))
  have h4 : k.t ≠ 4 → ∀ y ∈ q.p.H, y.t = 2 → ∃ d ∈ D, d.o = y.o ∧ dt d.l = 4 := fun c y hy t => cov_drop (h.p2 y hy t) (.inr (by rw [he]; exact c))
  unfold bwdS
  split
  · rename_i c
    refine ⟨?_, ?_, hD (by omega), h1 (by omega), h4 (by omega)⟩
    · cases hf : St.findH q.s.H e.o with
      | none => rw [St.endS_no hf]; exact h.g
      | some y0 =>
        obtain ⟨hy0, -⟩ := St.findH_some hf
        obtain ⟨k0, hk0, hm0, -⟩ := hI.s.kn hy0
        rw [St.endS_yes hf hk0]
        intro y hy
        rcases St.mem_updK.1 hy with ⟨rfl, -⟩ | ⟨hy, -⟩
        · exact h.g k0 hm0
        · exact h.g y hy
    · cases hf : St.findH q.s.H e.o with
      | none =>
        rw [St.endS_no hf]
        exact fun y hy => cov_drop (h.s y hy) (.inl fun e' => St.findH_none hf y hy e'.symm)
      | some y0 =>
        obtain ⟨hy0, -⟩ := St.findH_some hf
        obtain ⟨k0, hk0, hm0, -⟩ := hI.s.kn hy0
        rw [St.endS_yes hf hk0]
        intro y hy
        obtain ⟨hy, hn⟩ := St.mem_delH.1 hy
        exact cov_drop (h.s y hy) (.inl fun e' => hn e'.symm)
  split
  · rename_i c1 c
    refine ⟨h.g, hS (by omega), hD (by omega), fun y hy ht => ?_, fun y hy ht => ?_⟩
    · rcases mov_case hI e.o 1 (by omega) y hy with ⟨hy, hn⟩ | ⟨-, hn⟩
      · exact cov_drop (h.p1 y hy ht) (.inl fun e' => hn e'.symm ht)
      · rw [hn] at ht; cases ht
    · rcases mov_case hI e.o 1 (by omega) y hy with ⟨hy, hn⟩ | ⟨-, hn⟩
      · exact h4 (by omega) y hy ht
      · rw [hn] at ht; cases ht
  split
  · rename_i c1 c2 c
    refine ⟨h.g, hS (by omega), hD (by omega), fun y hy ht => ?_, fun y hy ht => ?_⟩
    · rcases mov_case hI e.o 2 (by omega) y hy with ⟨hy, hn⟩ | ⟨-, hn⟩
      · exact h1 (by omega) y hy ht
      · rw [hn] at ht; cases ht
    · rcases mov_case hI e.o 2 (by omega) y hy with ⟨hy, hn⟩ | ⟨-, hn⟩
      · exact cov_drop (h.p2 y hy ht) (.inl fun e' => hn e'.symm ht)
      · rw [hn] at ht; cases ht
  split
  · rename_i c1 c2 c3 c
    refine ⟨h.g, hS (by omega), ?_, h1 (by omega), h4 (by omega)⟩
    cases hf : Do.findH q.d.H e.o with
    | none =>
      rw [Do.cancS_no hf]
      exact fun y hy => cov_drop (h.d y hy) (.inl fun e' => Do.findH_none hf y hy e'.symm)
    | some y0 =>
      rw [Do.cancS_yes hf]
      intro y hy
      obtain ⟨hy, hn⟩ := Do.mem_delH.1 hy
      exact cov_drop (h.d y hy) (.inl fun e' => hn e'.symm)
  split
  · rename_i c1 c2 c3 c4 c
    exact ⟨h.g, hS (by omega), hD (by omega), h1 (by omega), h4 (by omega)⟩
  · rename_i c1 c2 c3 c4 c5
    exfalso; omega
/-- Steps that took effect, and the fence. -/
structure DI (q : Cq) (D : List Dn) : Prop where
  fw : ∀ d ∈ D, ∃ p, p < q.f.n ∧ (q.f.T p).o = d.o ∧ (q.f.T p).s = d.s ∧ (q.f.T p).u = false ∧ (q.f.T p).c = 1
  nu : ∀ d ∈ D, ∀ p, p < q.f.n → ¬ ((q.f.T p).o = d.o ∧ (q.f.T p).s = d.s ∧ (q.f.T p).u = true)
  nd : D.Pairwise (fun a b => ¬ (a.o = b.o ∧ a.s = b.s))
  ok : ∀ d ∈ D, d.o < 4294967296 ∧ Fe.in64 d.s ∧ Fe.reqB (stN 1 d.o d.s false d.l) = true ∧ ∃ k, decS d.l = some k ∧ k.t ≠ 2
theorem DI.init {D : List Dn} {e : Dn} {q : Cq} (h : DI q (D ++ [e])) : DI q D :=
  ⟨fun d hd => h.fw d (List.mem_append_left _ hd), fun d hd => h.nu d (List.mem_append_left _ hd), (List.pairwise_append.1 h.nd).1, fun d hd => h.ok d (List.mem_append_left _ hd)⟩
theorem req_undo {o : Nat} {s : Int} {l : List Nat} (h : Fe.reqB (stN 1 o s false l) = true) : Fe.reqB (stN 2 o s true l) = true := by
  unfold Fe.reqB Fe.Ent.ok Fe.Ent.only Fe.Ent.inB Fe.Ent.lackK at *
  simp only [Bool.and_eq_true, decide_eq_true_eq, Bool.not_eq_true', decide_eq_false_iff_not, List.all_eq_true] at *
  obtain ⟨h1, ⟨h2, h3, h4, h5⟩, h6, h7⟩ := h
  refine ⟨h1, ⟨h2, fun c hc => ?_, h4, h5⟩, by decide, h7⟩
  have := h3 c hc
  rcases Fe.Ent.alpha_cases hc with rfl | rfl | rfl | rfl | rfl | rfl | rfl | rfl | rfl | rfl <;> first | rfl | exact this
/-- A step back of one that took effect. -/
theorem back_one {R : List Int} {q : Cq} {D : List Dn} (hI : CInv R q) (e : Dn) (hU : UI q (D ++ [e])) (hD : DI q (D ++ [e])) (hep : q.f.ep ≤ 2) (hn : q.f.n < 200) :
    (serveS q (stN 2 e.o e.s true e.l)).a.kind = 8 ∧ UI (serveS q (stN 2 e.o e.s true e.l)).q D ∧ DI (serveS q (stN 2 e.o e.s true e.l)).q D ∧ (serveS q (stN 2 e.o e.s true e.l)).q.f.ep = 2 ∧ (serveS q (stN 2 e.o e.s true e.l)).q.f.n = q.f.n + 1 := by
  obtain ⟨ho, hs, hr, k, hk, h2⟩ := hD.ok e (by simp)
  have hr2 := req_undo hr
  have hno : Fe.has q.f.n q.f.T (Fe.nk (stN 2 e.o e.s true e.l)) = false := Fe.has_not fun i hi ei => by
    have hv := (Fe.vk_iff _).1 (hI.ok.2 i hi).1
    obtain ⟨k1, k2, k3⟩ := Fe.kn_inj (by unfold Fe.in64; omega) hs ei
    exact hD.nu e (by simp) i hi ⟨k1, k2, k3⟩
  obtain ⟨p, hp, p1, p2, p3, p4⟩ := hD.fw e (by simp)
  obtain ⟨g1, g2⟩ := Fe.has_of hI.ok (q := Fe.nk' (stN 2 e.o e.s true e.l)) hp (by show Fe.kn (q.f.T p).o (q.f.T p).s (q.f.T p).u = _; rw [p1, p2, p3]; rfl)
  have ha : Fe.actN q.f.n q.f.T (stN 2 e.o e.s true e.l) = 1 := by
    unfold Fe.actN
    rw [if_neg (fun c => by cases c.1), if_neg]
    rintro ⟨-, c | c⟩
    · rw [g2] at c; cases c
    · rw [g1, p4] at c; cases c
  have hask : Fe.askS q.f.ep q.f.n q.f.T (stN 2 e.o e.s true e.l) = ⟨1, Fe.kz, 0⟩ := by
    unfold Fe.askS
    rw [if_pos ⟨(Fe.okB_iff _ _).2 hI.ok, hr2⟩, if_neg (by show ¬ 2 < q.f.ep; omega), if_neg (by rw [hno]; decide), ha]
  have hkp := (serve_hd hI (N := stN 2 e.o e.s true e.l) ho 1 (.inl rfl)).2.2 hask (by omega)
  rw [serve_new (.inl rfl) hask (by omega)]
  unfold Fe.keepF
  rw [if_pos hkp]
  have hx : (execS q e.o true e.l).q = (bwdS q e.o k).q := by unfold execS; rw [hk]; rfl
  have hUx : UI (execS q e.o true e.l).q D := by rw [hx]; exact hU.bwd hI e hk h2
  have hUd : UI (decideS q 1 (stN 2 e.o e.s true e.l)).q D := by
    rw [decide1]
    unfold effS
    split
    · exact hUx.same rfl rfl rfl
    · exact hUx
  have hpl := Fe.pos_le q.f.T (Fe.nk (stN 2 e.o e.s true e.l)) q.f.n
  have hD0 := hD.init
  refine ⟨rfl, hUd.same rfl rfl rfl, ⟨fun d hd => ?_, fun d hd i hi => ?_, hD0.nd, hD0.ok⟩, rfl, rfl⟩
  · obtain ⟨p, hp, e1⟩ := hD0.fw d hd
    obtain ⟨p', hp', e2⟩ := ins_old (x := Fe.newK (stN 2 e.o e.s true e.l) (decideS q 1 (stN 2 e.o e.s true e.l)).v (decideS q 1 (stN 2 e.o e.s true e.l)).r) (T := q.f.T) hpl hp
    exact ⟨p', hp', by dsimp only; rw [e2]; exact e1⟩
  · dsimp only at hi ⊢
    rcases ins_cases (x := Fe.newK (stN 2 e.o e.s true e.l) (decideS q 1 (stN 2 e.o e.s true e.l)).v (decideS q 1 (stN 2 e.o e.s true e.l)).r) (T := q.f.T) hpl hi with e1 | ⟨p0, hp0, e1⟩
    · rw [e1]
      rintro ⟨c1, c2, -⟩
      exact (List.pairwise_append.1 hD.nd).2.2 d hd e (by simp) ⟨c1.symm, c2.symm⟩
    · rw [e1]; exact hD0.nu d hd p0 hp0
/-- The first way: all steps forward, of epoch 1. -/
structure FI (q : Cq) (D : List Dn) : Prop where
  ui : UI q D
  di : DI q D
  ep : q.f.ep ≤ 1
  fo : ∀ p, p < q.f.n → (q.f.T p).u = false
theorem FI.start {K : List St.Kd} {P : List Pu.Kd} {R : List Int} (hg : ∀ k ∈ K, k.g = 0) : FI (newQ K P R) [] :=
  ⟨⟨hg, fun y hy => (by cases hy), fun y hy => (by cases hy), fun y hy => (by cases hy), fun y hy => (by cases hy)⟩, ⟨fun d hd => (by cases hd), fun d hd => (by cases hd), List.Pairwise.nil, fun d hd => (by cases hd)⟩, Nat.zero_le _, fun p hp => absurd hp (Nat.not_lt_zero p)⟩
/-- A step forward. -/
theorem forth_one {R : List Int} {q : Cq} {D : List Dn} (hI : CInv R q) (h : FI q D) (e : Dn) (ho : e.o < 4294967296) (hs : Fe.in64 e.s) {k : Wk} (hk : decS e.l = some k) (h2 : k.t ≠ 2) :
    (serveS q (stN 1 e.o e.s false e.l)).q.f.n ≤ q.f.n + 1 ∧
    (((serveS q (stN 1 e.o e.s false e.l)).q.E.length = q.E.length ∧ FI (serveS q (stN 1 e.o e.s false e.l)).q D) ∨
     ((serveS q (stN 1 e.o e.s false e.l)).q.E.length = q.E.length + 1 ∧ FI (serveS q (stN 1 e.o e.s false e.l)).q (D ++ [e]))) := by
  rcases serve_split hI (stN 1 e.o e.s false e.l) ho with ⟨c, -, ee⟩ | ⟨-, ee⟩ | ⟨k', -, h3, -, -, -, ee⟩ | ⟨a, hA, hr, h3, h4, h5, hn, ee⟩
  · rw [ee]; exact ⟨Nat.le_succ _, .inl ⟨rfl, h⟩⟩
  · rw [ee]; exact ⟨Nat.le_succ _, .inl ⟨rfl, h⟩⟩
  · rw [ee]; exact ⟨Nat.le_succ _, .inl ⟨rfl, h.ui.same rfl rfl rfl, ⟨h.di.fw, h.di.nu, h.di.nd, h.di.ok⟩, Nat.le_refl _, h.fo⟩⟩
  · rw [ee]
    refine ⟨Nat.le_refl _, ?_⟩
    have hpl := Fe.pos_le q.f.T (Fe.nk (stN 1 e.o e.s false e.l)) q.f.n
    obtain ⟨x, hx⟩ : ∃ x, x = Fe.newK (stN 1 e.o e.s false e.l) (decideS q a (stN 1 e.o e.s false e.l)).v (decideS q a (stN 1 e.o e.s false e.l)).r := ⟨_, rfl⟩
    rw [← hx]
    have xo : x.o = e.o := by rw [hx]
    have xs : x.s = e.s := by rw [hx]
    have xu : x.u = false := by rw [hx]
    have xc : x.c = (decideS q a (stN 1 e.o e.s false e.l)).v := by rw [hx]
    clear hx
    have hfo : ∀ p, p < q.f.n + 1 → (Fe.ins (Fe.pos q.f.T (Fe.nk (stN 1 e.o e.s false e.l)) q.f.n) x q.f.T p).u = false := fun p hp => by
      rcases ins_cases (x := x) (T := q.f.T) hpl hp with e1 | ⟨p0, hp0, e1⟩
      · rw [e1]; exact xu
      · rw [e1]; exact h.fo p0 hp0
    have hDI : ∀ Q : Cq, Q.f = ⟨1, q.f.n + 1, Fe.ins (Fe.pos q.f.T (Fe.nk (stN 1 e.o e.s false e.l)) q.f.n) x q.f.T⟩ → DI Q D := fun Q hQ => ⟨fun d hd => by
      obtain ⟨p, hp, e1⟩ := h.di.fw d hd
      obtain ⟨p', hp', e2⟩ := ins_old (x := x) (T := q.f.T) hpl hp
      exact ⟨p', by rw [hQ]; exact hp', by rw [hQ]; dsimp only; rw [e2]; exact e1⟩, (fun d hd i hi => by
      rw [hQ] at hi ⊢
      rintro ⟨-, -, c⟩
      rw [hfo i hi] at c; cases c), h.di.nd, h.di.ok⟩
    rcases decide_one hI (N := stN 1 e.o e.s false e.l) ho a with hq | ⟨n3, n4, hv, hq⟩
    · left
      rw [hq]
      exact ⟨rfl, h.ui.same rfl rfl rfl, hDI _ rfl, Nat.le_refl _, hfo⟩
    · right
      have ha1 : a = 1 := by omega
      subst ha1
      have hv1 : (decideS q 1 (stN 1 e.o e.s false e.l)).v = 1 := by
        rw [decide1]; unfold effS; rw [if_pos hv]; exact hv
      rw [hq]
      have hx : (execS q e.o false e.l).q = (fwdS q e.o k).q := by unfold execS; rw [hk]; rfl
      have hUx : UI (execS q e.o false e.l).q (D ++ [e]) := by rw [hx]; exact h.ui.fwd e hk h2
      have hd1 := hDI { (addE (execS q e.o false e.l).q ⟨e.o, e.s, false⟩) with f := ⟨1, q.f.n + 1, Fe.ins (Fe.pos q.f.T (Fe.nk (stN 1 e.o e.s false e.l)) q.f.n) x q.f.T⟩ } rfl
      refine ⟨?_, hUx.same rfl rfl rfl, ⟨fun d hd => ?_, fun d hd i hi => ?_, ?_, fun d hd => ?_⟩, Nat.le_refl _, hfo⟩
      · show ((execS q e.o false e.l).q.E ++ [_]).length = _
        rw [(exec_E q _ _ _).1]; simp
      · rcases List.mem_append.1 hd with hd | hd
        · exact hd1.fw d hd
        · simp at hd; subst hd
          refine ⟨_, Nat.lt_succ_of_le hpl, ?_⟩
          show (Fe.ins _ x q.f.T _).o = _ ∧ (Fe.ins _ x q.f.T _).s = _ ∧ (Fe.ins _ x q.f.T _).u = _ ∧ (Fe.ins _ x q.f.T _).c = _
          rw [ins_at]
          exact ⟨xo, xs, xu, xc.trans hv1⟩
      · rintro ⟨-, -, c⟩
        have := hfo i hi
        change (Fe.ins _ x q.f.T i).u = true at c
        rw [this] at c; cases c
      · refine List.pairwise_append.2 ⟨h.di.nd, List.pairwise_singleton _ _, fun d hd b hb => ?_⟩
        simp at hb; subst hb
        rintro ⟨c1, c2⟩
        obtain ⟨p, hp, p1, p2, p3, -⟩ := h.di.fw d hd
        exact Fe.has_no hI.ok h4 p hp (by show Fe.kn (q.f.T p).o (q.f.T p).s (q.f.T p).u = _; rw [p1, p2, p3, c1, c2])
      · rcases List.mem_append.1 hd with hd | hd
        · exact h.di.ok d hd
        · simp at hd; subst hd
          exact ⟨ho, hs, hr, k, hk, h2⟩

theorem held_zero {H : List Pu.Hd} {t : Nat} (h : ∀ y ∈ H, y.t ≠ t) (x : List UInt8) : Pu.held H x t = 0 := by
  induction H with
  | nil => rfl
  | cons y r ih =>
    have e : Pu.held (y :: r) x t = (if y.n == x && y.t == t then y.k else 0) + Pu.held r x t := rfl
    rw [e, ih (fun z hz => h z (List.mem_cons_of_mem _ hz)), if_neg]
    · rfl
    · simp only [Bool.and_eq_true, beq_iff_eq]
      rintro ⟨-, c⟩
      exact h y (List.mem_cons_self ..) c
/-- Where nothing is held, all is as it was at first. -/
theorem und_all {q : Cq} (h : CInv smR q) (hf : firstQ q = firstQ smQ) (hU : UI q []) : St.goodsL q.s.K = smG ∧ q.p.K = smA ∧ Do.roomI q.d.F 0 = 3 ∧ Do.roomI q.d.F 1 = 5 := by
  have e1 : St.firstL q.s = [⟨[97], 9, 0⟩, ⟨[98], 4, 0⟩] := by
    have : St.firstL q.s = St.firstL smQ.s := congrArg Prod.fst hf
    exact this.trans (by kernel_rfl)
  have e2 : Pu.firstL q.p = [⟨[97, 110, 110], 20, 0⟩, ⟨[98, 111, 98], 6, 0⟩] := by
    have : Pu.firstL q.p = Pu.firstL smQ.p := congrArg Prod.snd hf
    exact this.trans (by kernel_rfl)
  have hH : q.s.H = [] := List.eq_nil_iff_forall_not_mem.2 fun y hy => by obtain ⟨d, hd, -⟩ := hU.s y hy; cases hd
  have hD : q.d.H = [] := List.eq_nil_iff_forall_not_mem.2 fun y hy => by obtain ⟨d, hd, -⟩ := hU.d y hy; cases hd
  have hp1 : ∀ y ∈ q.p.H, y.t ≠ 1 := fun y hy e => by obtain ⟨d, hd, -⟩ := hU.p1 y hy e; cases hd
  have hp2 : ∀ y ∈ q.p.H, y.t ≠ 2 := fun y hy e => by obtain ⟨d, hd, -⟩ := hU.p2 y hy e; cases hd
  have hg := hU.g
  have r0 : Do.roomI q.d.F 0 = 3 := by
    have h0 := h.d.ff 0 (by decide)
    rw [hD] at h0
    have e0 : Do.roomI q.d.F 0 = Do.fr q.d.F 0 := Do.roomI_nat q.d.F 0
    have f0 : Do.fr smR 0 = 3 := rfl
    have b0 : Do.bkd [] 0 = 0 := rfl
    rw [e0]; omega
  have r1 : Do.roomI q.d.F 1 = 5 := by
    have h0 := h.d.ff 1 (by decide)
    rw [hD] at h0
    have e0 : Do.roomI q.d.F 1 = Do.fr q.d.F 1 := Do.roomI_nat q.d.F 1
    have f0 : Do.fr smR 1 = 5 := rfl
    have b0 : Do.bkd [] 1 = 0 := rfl
    rw [e0]; omega
  refine ⟨?_, ?_, r0, r1⟩
  · clear e2 hp1 hp2 r0 r1 hD hU hf h
    unfold St.firstL at e1
    rw [hH] at e1
    obtain ⟨⟨K, H⟩, sp, sd, sf, sE, sM⟩ := q
    dsimp only at e1 hg ⊢
    have hl : K.length = 2 := by simpa using congrArg List.length e1
    obtain ⟨a, b, rfl⟩ := two_of hl
    simp only [List.map_cons, List.map_nil, List.cons.injEq, St.Kd.mk.injEq, and_true] at e1
    obtain ⟨⟨a1, a2⟩, b1, b2⟩ := e1
    have ga := hg a (by simp)
    have gb := hg b (by simp)
    have z : ∀ x, St.held [] x = 0 := fun x => rfl
    rw [z] at a2 b2
    show [(⟨a.n, a.f⟩ : St.Gd), ⟨b.n, b.f⟩] = [⟨[97], 9⟩, ⟨[98], 4⟩]
    rw [a1, b1, show a.f = 9 from by omega, show b.f = 4 from by omega]
  · have hkf := h.p.kf
    clear e1 r0 r1 hD hU hf h hH hg
    unfold Pu.firstL at e2
    obtain ⟨ss, ⟨K, H⟩, sd, sf, sE, sM⟩ := q
    dsimp only at e2 hp1 hp2 hkf ⊢
    have hl : K.length = 2 := by simpa using congrArg List.length e2
    obtain ⟨a, b, rfl⟩ := two_of hl
    simp only [List.map_cons, List.map_nil, List.cons.injEq, Pu.Kd.mk.injEq, and_true] at e2
    obtain ⟨⟨a1, a2⟩, b1, b2⟩ := e2
    have ka := (hkf a (by simp)).2.2.1
    have kb := (hkf b (by simp)).2.2.1
    rw [held_zero hp2] at a2 b2
    rw [held_zero hp1] at ka kb
    obtain ⟨an, am, ah⟩ := a
    obtain ⟨bn, bm, bh⟩ := b
    dsimp only at a1 a2 b1 b2 ka kb
    subst a1 b1 ka kb
    show [(⟨_, am, 0⟩ : Pu.Kd), ⟨_, bm, 0⟩] = [⟨_, 20, 0⟩, ⟨_, 6, 0⟩]
    rw [show am = 20 from by omega, show bm = 6 from by omega]

end Go.Proofs.YtpbclmnhkmcknaaGreat

namespace Go.Proofs.YtpbclmnhkmcknaaGreat
open Go.RowKit
open Fe (Lies Own Bys Reads NF Kx Kp Note)
set_option maxRecDepth 100000
set_option linter.unusedVariables false
set_option linter.unusedSimpArgs false

/-- The same key. -/
def SK (x : Kp) (e : Ef) : Prop := x.o = e.o ∧ x.s = e.s ∧ x.u = e.u
theorem SK.k {x : Kp} {e : Ef} (h : SK x e) : x.k = Fe.kn e.o e.s e.u := by show Fe.kn x.o x.s x.u = _; rw [h.1, h.2.1, h.2.2]
/-- What holds of the effects of a crew. -/
structure EInv (q : Cq) : Prop where
  a : ∀ i (hi : i < q.E.length), ∃ p, p < q.f.n ∧ SK (q.f.T p) q.E[i]
  b : ∀ k i (hk : k < i) (hi : i < q.E.length), q.E[k].o = q.E[i].o → q.E[k].s = q.E[i].s → q.E[k].u = false ∧ q.E[i].u = true
  c : ∀ i (hi : i < q.E.length), q.E[i].u = true → ∃ k, ∃ hk : k < i, q.E[k].o = q.E[i].o ∧ q.E[k].s = q.E[i].s
  d : ∀ p, p < q.f.n → (q.f.T p).u = false → (q.f.T p).c = 1 → ∃ i, ∃ hi : i < q.E.length, SK (q.f.T p) q.E[i]
theorem EInv.start {K : List St.Kd} {P : List Pu.Kd} {R : List Int} : EInv (newQ K P R) :=
  ⟨fun i hi => absurd hi (Nat.not_lt_zero i), fun k i _ hi => absurd hi (Nat.not_lt_zero i), fun i hi => absurd hi (Nat.not_lt_zero i), fun p hp => absurd hp (Nat.not_lt_zero p)⟩
theorem EInv.same {q q' : Cq} (h : EInv q) (hE : q'.E = q.E) (hn : q'.f.n = q.f.n) (hT : q'.f.T = q.f.T) : EInv q' := by
  obtain ⟨s, p, d, ⟨ep, n, T⟩, E, M⟩ := q
  obtain ⟨s', p', d', ⟨ep', n', T'⟩, E', M'⟩ := q'
  dsimp only at hE hn hT
  subst hE hn hT
  exact ⟨h.a, h.b, h.c, h.d⟩
theorem act_one {n : Nat} {T : Nat → Kp} (hk : Fe.okT n T) {N : Note} (h : Fe.actN n T N = 1) : (N.undo = false → Fe.has n T (Fe.nk' N) = false) ∧ (N.undo = true → Fe.has n T (Fe.nk' N) = true ∧ (T (Fe.pos T (Fe.nk' N) n)).c = 1) := by
  unfold Fe.actN at h
  split at h
  · cases h
  rename_i c1
  split at h
  · cases h
  rename_i c2
  refine ⟨fun hu => ?_, fun hu => ?_⟩
  · cases hq : Fe.has n T (Fe.nk' N)
    · rfl
    · exact absurd ⟨hu, hq⟩ c1
  · have h1 : Fe.has n T (Fe.nk' N) = true := by
      cases hq : Fe.has n T (Fe.nk' N)
      · exact absurd ⟨hu, .inl hq⟩ c2
      · rfl
    refine ⟨h1, ?_⟩
    have h2 := (Fe.has_at h1).1
    have h3 := ((Fe.vk_iff _).1 (hk.2 _ h2).1).2.2.2.2.2
    rcases h3 with h3 | h3
    · exact h3
    · exact absurd ⟨hu, .inr h3⟩ c2
theorem decide_four {R : List Int} {q : Cq} (h : CInv R q) {N : Note} (ho : N.order < 4294967296) {a : Nat} (ha : a = 1 ∨ a = 3 ∨ a = 4) :
    (a = 3 ∧ (decideS q a N).v = 2 ∧ (decideS q a N).q = q) ∨ (a = 4 ∧ (decideS q a N).q = q) ∨ (a = 1 ∧ (decideS q a N).v = 2 ∧ (decideS q a N).q = q) ∨
    (a = 1 ∧ (decideS q a N).v = 1 ∧ (decideS q a N).q.E = q.E ++ [⟨N.order, N.step, N.undo⟩]) := by
  rcases ha with rfl | rfl | rfl
  · right; right
    have h1 := (exec_ok h ho N.undo N.data).1
    have e : decideS q 1 N = effS (execS q N.order N.undo N.data) ⟨N.order, N.step, N.undo⟩ := rfl
    rw [e]
    unfold effS
    split
    · rename_i c
      right
      refine ⟨rfl, c, ?_⟩
      show (execS q N.order N.undo N.data).q.E ++ [_] = _
      rw [(exec_E q _ _ _).1]
    · rename_i c
      have c2 : (execS q N.order N.undo N.data).v = 2 := by omega
      exact .inl ⟨rfl, c2, exec_no c2⟩
  · exact .inl ⟨rfl, rfl, rfl⟩
  · exact .inr (.inl ⟨rfl, rfl⟩)
theorem act_four {n : Nat} {T : Nat → Kp} {N : Note} (h : Fe.actN n T N = 4) : N.undo = true := by
  unfold Fe.actN at h
  split at h
  · cases h
  split at h
  · rename_i c; exact c.1
  · cases h
theorem EInv.serve {R : List Int} {q : Cq} (h : EInv q) (hI : CInv R q) (N : Note) (ho : N.order < 4294967296) : EInv (serveS q N).q := by
  rcases serve_split hI N ho with ⟨c, -, e⟩ | ⟨-, e⟩ | ⟨k, -, -, -, -, -, e⟩ | ⟨a, ha, hr, h3, h4, h5, hn, e⟩
  · rw [e]; exact h
  · rw [e]; exact h
  · rw [e]; exact h.same rfl rfl rfl
  · rw [e]
    obtain ⟨r1, r2, r3, r4, r5, r6⟩ := req_ok hr
    have hpl := Fe.pos_le q.f.T (Fe.nk N) q.f.n
    obtain ⟨x, hx⟩ : ∃ x, x = Fe.newK N (decideS q a N).v (decideS q a N).r := ⟨_, rfl⟩
    obtain ⟨T', hT⟩ : ∃ T', T' = Fe.ins (Fe.pos q.f.T (Fe.nk N) q.f.n) x q.f.T := ⟨_, rfl⟩
    have hold : ∀ p, p < q.f.n → ∃ p', p' < q.f.n + 1 ∧ T' p' = q.f.T p := fun p hp => by rw [hT]; exact ins_old hpl hp
    have hcas : ∀ p, p < q.f.n + 1 → T' p = x ∨ ∃ p0, p0 < q.f.n ∧ T' p = q.f.T p0 := fun p hp => by rw [hT]; exact ins_cases hpl hp
    have hnew : ∃ p, p < q.f.n + 1 ∧ T' p = x := ⟨_, Nat.lt_succ_of_le hpl, by rw [hT]; exact ins_at⟩
    have hs64 : Fe.in64 N.step := by unfold Fe.in64; omega
    have hin : ∀ p, p < q.f.n → Fe.in64 (q.f.T p).s := fun p hp => by
      have hv := (Fe.vk_iff _).1 (hI.ok.2 p hp).1
      unfold Fe.in64; omega
    have ho' := h
    have hdec := decide_four hI ho (N := N) ha
    rw [← hx, ← hT]
    have hxu : x.u = N.undo := by rw [hx]
    have hxc : x.c = (decideS q a N).v := by rw [hx]
    have hxo : SK x ⟨N.order, N.step, N.undo⟩ := by rw [hx]; exact ⟨rfl, rfl, rfl⟩
    clear hx hT e
    obtain ⟨d, hd⟩ : ∃ d, decideS q a N = d := ⟨_, rfl⟩
    rw [hd] at hdec hxc ⊢
    clear hd
    by_cases hE : d.q.E = q.E
    · have hx1 : x.u = false → x.c = 1 → False := fun hu hc => by
        rcases hdec with ⟨-, h1, -⟩ | ⟨h1, -⟩ | ⟨-, h1, -⟩ | ⟨-, -, h1⟩
        · rw [hxc, h1] at hc; cases hc
        · rw [h1] at h5
          rw [hxu, act_four h5] at hu; cases hu
        · rw [hxc, h1] at hc; cases hc
        · rw [hE] at h1
          have := congrArg List.length h1
          simp at this
      have key : EInv { q with f := ⟨N.epoch, q.f.n + 1, T'⟩ } := by
        refine ⟨fun i hi => ?_, h.b, h.c, fun p hp hu hc => ?_⟩
        · obtain ⟨p, hp, hk⟩ := h.a i hi
          obtain ⟨p', hp', e⟩ := hold p hp
          exact ⟨p', hp', by show SK (T' p') _; rw [e]; exact hk⟩
        · rcases hcas p hp with e | ⟨p0, hp0, e⟩
          · change (T' p).u = false at hu
            change (T' p).c = 1 at hc
            rw [e] at hu hc
            exact (hx1 hu hc).elim
          · change (T' p).u = false at hu
            change (T' p).c = 1 at hc
            rw [e] at hu hc
            obtain ⟨i, hi, hk⟩ := h.d p0 hp0 hu hc
            exact ⟨i, hi, by show SK (T' p) _; rw [e]; exact hk⟩
      exact key.same hE rfl rfl
    · rcases hdec with ⟨-, -, h1⟩ | ⟨-, h1⟩ | ⟨-, -, h1⟩ | ⟨h1, h2, hE2⟩
      · exact absurd (by rw [h1]) hE
      · exact absurd (by rw [h1]) hE
      · exact absurd (by rw [h1]) hE
      · rw [h1] at h5
        obtain ⟨g1, g2⟩ := act_one hI.ok h5
        have hno := Fe.has_no hI.ok h4
        have key : EInv { q with E := q.E ++ [⟨N.order, N.step, N.undo⟩], f := ⟨N.epoch, q.f.n + 1, T'⟩ } := by
          have hL : (q.E ++ [(⟨N.order, N.step, N.undo⟩ : Ef)]).length = q.E.length + 1 := by simp
          have hlo : ∀ i (hi : i < q.E.length) (hi' : i < (q.E ++ [(⟨N.order, N.step, N.undo⟩ : Ef)]).length), (q.E ++ [(⟨N.order, N.step, N.undo⟩ : Ef)])[i] = q.E[i] := fun i hi hi' => List.getElem_append_left hi
          have hat : ∀ (hi' : q.E.length < (q.E ++ [(⟨N.order, N.step, N.undo⟩ : Ef)]).length), (q.E ++ [(⟨N.order, N.step, N.undo⟩ : Ef)])[q.E.length] = ⟨N.order, N.step, N.undo⟩ := fun hi' => by simp
          refine ⟨fun i hi => ?_, fun k i hk hi e1 e2 => ?_, fun i hi hu => ?_, fun p hp hu hc => ?_⟩
          · change i < (q.E ++ [_]).length at hi
            rcases (by omega : i < q.E.length ∨ i = q.E.length) with hi2 | rfl
            · obtain ⟨p, hp, hk⟩ := h.a i hi2
              obtain ⟨p', hp', e⟩ := hold p hp
              exact ⟨p', hp', by show SK (T' p') ((q.E ++ [_])[i]); rw [e, hlo i hi2 hi]; exact hk⟩
            · obtain ⟨p', hp', e⟩ := hnew
              exact ⟨p', hp', by show SK (T' p') ((q.E ++ [_])[q.E.length]); rw [e, hat hi]; exact hxo⟩
          · change i < (q.E ++ [_]).length at hi
            change (q.E ++ [_])[k].o = (q.E ++ [_])[i].o at e1
            change (q.E ++ [_])[k].s = (q.E ++ [_])[i].s at e2
            show (q.E ++ [_])[k].u = false ∧ (q.E ++ [_])[i].u = true
            rcases (by omega : i < q.E.length ∨ i = q.E.length) with hi2 | rfl
            · rw [hlo k (by omega) (by omega), hlo i hi2 hi] at e1 e2 ⊢
              exact h.b k i hk hi2 e1 e2
            · rw [hlo k hk (by omega), hat hi] at e1 e2 ⊢
              obtain ⟨p, hp, hkk⟩ := h.a k hk
              have e0 := hkk.k
              rw [e1, e2] at e0
              change (q.f.T p).k = Fe.kn N.order N.step _ at e0
              show q.E[k].u = false ∧ N.undo = true
              cases hu : N.undo
              · cases hv : q.E[k].u
                · rw [hv] at e0; exact absurd (by rw [e0]; show _ = Fe.kn N.order N.step N.undo; rw [hu]) (hno p hp)
                · rw [hv] at e0
                  have := (Fe.has_of hI.ok hp (q := Fe.nk' N) (by rw [e0]; show _ = Fe.kn N.order N.step (!N.undo); rw [hu]; rfl)).2
                  rw [g1 hu] at this; cases this
              · cases hv : q.E[k].u
                · exact ⟨rfl, rfl⟩
                · rw [hv] at e0; exact absurd (by rw [e0]; show _ = Fe.kn N.order N.step N.undo; rw [hu]) (hno p hp)
          · change i < (q.E ++ [_]).length at hi
            change (q.E ++ [_])[i].u = true at hu
            rcases (by omega : i < q.E.length ∨ i = q.E.length) with hi2 | rfl
            · rw [hlo i hi2 hi] at hu
              obtain ⟨k, hk, e1, e2⟩ := h.c i hi2 hu
              exact ⟨k, hk, by show (q.E ++ [_])[k].o = (q.E ++ [_])[i].o; rw [hlo k (by omega) (by omega), hlo i hi2 hi]; exact e1, by show (q.E ++ [_])[k].s = (q.E ++ [_])[i].s; rw [hlo k (by omega) (by omega), hlo i hi2 hi]; exact e2⟩
            · rw [hat hi] at hu
              obtain ⟨b1, b2⟩ := g2 hu
              obtain ⟨hp, hpk⟩ := Fe.has_at b1
              have hpk2 : Fe.kn (q.f.T (Fe.pos q.f.T (Fe.nk' N) q.f.n)).o (q.f.T (Fe.pos q.f.T (Fe.nk' N) q.f.n)).s (q.f.T (Fe.pos q.f.T (Fe.nk' N) q.f.n)).u = Fe.kn N.order N.step (!N.undo) := hpk
              obtain ⟨k1, k2, k3⟩ := Fe.kn_inj (hin _ hp) hs64 hpk2
              have hu' : N.undo = true := hu
              rw [hu'] at k3
              obtain ⟨i, hi2, hk⟩ := h.d _ hp k3 b2
              exact ⟨i, hi2, by show (q.E ++ [_])[i].o = (q.E ++ [_])[q.E.length].o; rw [hlo i hi2 (by omega), hat hi]; exact hk.1.symm.trans k1, by show (q.E ++ [_])[i].s = (q.E ++ [_])[q.E.length].s; rw [hlo i hi2 (by omega), hat hi]; exact hk.2.1.symm.trans k2⟩
          · change (T' p).u = false at hu
            change (T' p).c = 1 at hc
            rcases hcas p hp with e | ⟨p0, hp0, e⟩
            · exact ⟨q.E.length, by show _ < (q.E ++ [_]).length; omega, by show SK (T' p) ((q.E ++ [_])[q.E.length]); rw [e, hat (by omega)]; exact hxo⟩
            · rw [e] at hu hc
              obtain ⟨i, hi, hk⟩ := h.d p0 hp0 hu hc
              exact ⟨i, by show i < (q.E ++ [_]).length; omega, by show SK (T' p) ((q.E ++ [_])[i]); rw [e, hlo i hi (by omega)]; exact hk⟩
        exact key.same hE2 rfl rfl
theorem ask_again' {ep n : Nat} {T : Nat → Kp} {N : Note} (ho : Fe.okT n T) (hr : Fe.reqB N = true) (he : ¬ N.epoch < ep) (hh : Fe.has n T (Fe.nk N) = true) (ha : (T (Fe.pos T (Fe.nk N) n)).a = N.data) : Fe.askS ep n T N = ⟨2, T (Fe.pos T (Fe.nk N) n), 0⟩ := by
  unfold Fe.askS
  rw [if_pos ⟨(Fe.okB_iff _ _).2 ho, hr⟩, if_neg he, if_pos hh, if_pos ha]
/-- Served again, the answer is the same. -/
theorem serve_twice {R : List Int} {q : Cq} (hI : CInv R q) (N : Note) (ho : N.order < 4294967296) (he : N.epoch < 4294967296) (h8 : (serveS q N).a.kind = 8) : (serveS (serveS q N).q N).a = (serveS q N).a := by
  have hI2 := hI.serve N ho he
  rcases serve_split hI N ho with ⟨c, hc, e⟩ | ⟨h1, e⟩ | ⟨k, hr, h3, h4, hk, ha, e⟩ | ⟨a, hA, hr, h3, h4, h5, hn, e⟩
  · rw [e] at h8; have h : (6 : Int) = 8 := h8; exact absurd h (by decide)
  · rw [e] at h8; have h : (9 : Int) = 8 := h8; exact absurd h (by decide)
  · rw [e] at hI2 ⊢
    subst hk
    have h := ask_again' (ep := N.epoch) hI2.ok hr (Nat.lt_irrefl _) h4 ha
    rw [serve_again h]
  · rw [e] at hI2 ⊢
    have hpl := Fe.pos_le q.f.T (Fe.nk N) q.f.n
    obtain ⟨hp, hh⟩ := Fe.has_of hI2.ok (q := Fe.nk N) (i := Fe.pos q.f.T (Fe.nk N) q.f.n) (Nat.lt_succ_of_le hpl) (by show (Fe.ins _ _ _ _).k = _; rw [ins_at])
    have h := ask_again' (ep := N.epoch) hI2.ok hr (Nat.lt_irrefl _) hh (by rw [hp]; show (Fe.ins _ _ _ _).a = _; rw [ins_at])
    rw [serve_again h, hp]
    show doneN N (Fe.ins _ _ _ _).c (Fe.ins _ _ _ _).r = _
    rw [ins_at]

end Go.Proofs.YtpbclmnhkmcknaaGreat

namespace Go.Proofs.YtpbclmnhkmcknaaGreat
open Go.RowKit
open Fe (Lies Own Bys Reads NF Kx Kp Note)
set_option maxRecDepth 100000
set_option linter.unusedVariables false
set_option linter.unusedSimpArgs false

/-- A note's bytes, at hand, and no crew's. -/
structure Kn (w : World) (b : CB) (A : Option Addr) (c : Nat) (l : List Nat) : Prop where
  i : InBytes w A l.length c l
  lt : ∀ i, (Value.slice A l.length c).ownBlock = some i → i < w.heap.size
  far : ∀ i, (Value.slice A l.length c).ownBlock = some i → ¬ b.foot i
theorem Kn.below {w w' : World} {b : CB} {A : Option Addr} {c : Nat} {l : List Nat} (h : Kn w b A c l) (hb : Below w.heap.size w w') : Kn w' b A c l := ⟨h.i.below hb, fun i hi => Nat.lt_of_lt_of_le (h.lt i hi) hb.size, h.far⟩
theorem Kn.serve {w w' : World} {b b' : CB} {A : Option Addr} {c : Nat} {l : List Nat} (h : Kn w b A c l) (hg : Chg b.foot w w') (hf : ∀ i, b'.foot i → b.foot i ∨ w.heap.size ≤ i) : Kn w' b' A c l :=
  ⟨⟨Bys_chg h.i.1 hg (fun i hi e => h.far i e hi), h.i.2⟩, fun i hi => Nat.lt_of_lt_of_le (h.lt i hi) hg.size, fun i hi hn => by
    rcases hf i hn with h1 | h1
    · exact h.far i hi h1
    · have := h.lt i hi; omega⟩
theorem Kn.own {w : World} {B : Nat} {b : CB} {A : Option Addr} {c : Nat} {l : List Nat} (h : Own w B (.slice A l.length c) l) (hf : ∀ i, (Value.slice A l.length c).ownBlock = some i → ¬ b.foot i) : Kn w b A c l := ⟨Own.inb h, fun i hi => Fe.Own.lt h i hi, hf⟩
theorem Kn.ask {w wr W : World} {R : List Int} {cc : Nat} {b : CB} {q : Cq} {x : Ax} {A : Option Addr} {c : Nat} (hS : CW w wr R cc b q) (hx : AT w x) (hi : InBytes W A (askD x).length c (askD x))
    (ho : (A = x.B ∧ 0 < x.r.length) ∨ ∀ i, (Value.slice A (askD x).length c).ownBlock = some i → wr.heap.size ≤ i) (hl : ∀ i, (Value.slice A (askD x).length c).ownBlock = some i → i < W.heap.size) : Kn W b A c (askD x) :=
  ⟨hi, hl, fun i h1 h2 => by
    rcases ho with ⟨rfl, h0⟩ | ho
    · have a1 := hx.rr.lt h0 h1
      have a2 := hS.new i h2
      omega
    · have a1 := ho i h1
      have a2 := hS.at_.foot_lt h2
      omega⟩
/-- Serve, with such a note. -/
theorem kn_serve {w W : World} {R : List Int} {cc : Nat} {b : CB} {q : Cq} {A : Option Addr} {c : Nat} {l : List Nat} (hS : CW w W R cc b q) (hk : Kn W b A c l) {ep o : Nat} {s : Int} (u : Bool) (hep : ep < 4294967296) (ho : o < 4294967296) (hs : Fe.in64 s) (hl : l.length ≤ 200000) :
    Calls Tryz.prog 23 #[.pointer (some ⟨cc, 0, none⟩), .agg #[.int .i64 7, .int .u32 (ep : Int), .int .u32 0, .int .u64 0, .int .u64 0, .int .u32 (o : Int), .int .i64 s, .bool u, .int .i64 0, .slice none 0 0, .slice A l.length c]] W (CwServe w W R cc b (serveS q (stN ep o s u l))) :=
  cw_serve hS (stN ep o s u l) A c 0 (ent_st hk.i s u hep ho) hs hl (fun i h1 h2 => hk.far i h1 h2)
theorem askD_big {x : Ax} (h : x.k.x.length ≤ 500 ∧ x.r.length ≤ 500) : (askD x).length ≤ 200000 := Nat.le_trans (askD_len h) (by omega)

end Go.Proofs.YtpbclmnhkmcknaaGreat

namespace Go.Proofs.YtpbclmnhkmcknaaGreat
open Go.RowKit
open Fe (Lies Own Bys Reads NF Kx Kp Note)
set_option maxRecDepth 100000
set_option linter.unusedVariables false
set_option linter.unusedSimpArgs false

/-- A note that took effect, kept: order, step, bytes, and where they lie. -/
structure Nn where
  o : Nat
  s : Int
  l : List Nat
  A : Option Addr
  c : Nat
def encN (n : Nn) : List Value := [.int .i64 7, .int .u32 1, .int .u32 0, .int .u64 0, .int .u64 0, .int .u32 (n.o : Int), .int .i64 n.s, .bool false, .int .i64 0, .slice none 0 0, .slice n.A n.l.length n.c]
theorem encN_len (x : Nn) : (encN x).length = 11 := rfl
theorem encN_one (x : Nn) : ∀ v ∈ encN x, v.oneCell' = true := by
  intro v hv
  simp [encN] at hv
  rcases hv with rfl | rfl | rfl | rfl | rfl | rfl | rfl | rfl | rfl | rfl <;> rfl
abbrev OwnN (w : World) (B : Nat) (v : Value) (l : List Nn) : Prop := St.OwnE encN 55 11 w B v l
theorem N_row {w : World} {B : Nat} {v : Value} {l : List Nn} (h : OwnN w B v l) : ∃ A c, v = .slice A l.length c ∧ (l.length : Int) ≤ 9223372036854775807 ∧ ∀ (i : Nat) (hi : i < l.length), ∃ g, A = some ⟨g, 0, none⟩ ∧
    w.cell? ⟨g, i * 11, none⟩ = some (.int .i64 7) ∧ w.cell? ⟨g, i * 11 + 1, none⟩ = some (.int .u32 1) ∧ w.cell? ⟨g, i * 11 + 2, none⟩ = some (.int .u32 0) ∧ w.cell? ⟨g, i * 11 + 3, none⟩ = some (.int .u64 0) ∧ w.cell? ⟨g, i * 11 + 4, none⟩ = some (.int .u64 0) ∧
    w.cell? ⟨g, i * 11 + 5, none⟩ = some (.int .u32 (l[i].o : Int)) ∧ w.cell? ⟨g, i * 11 + 6, none⟩ = some (.int .i64 l[i].s) ∧ w.cell? ⟨g, i * 11 + 7, none⟩ = some (.bool false) ∧ w.cell? ⟨g, i * 11 + 8, none⟩ = some (.int .i64 0) ∧ w.cell? ⟨g, i * 11 + 9, none⟩ = some (.slice none 0 0) ∧ w.cell? ⟨g, i * 11 + 10, none⟩ = some (.slice l[i].A l[i].l.length l[i].c) := by
  have hm : ∀ n c : Nat, n ≤ c → c ≤ maxLen → (n : Int) ≤ 9223372036854775807 := fun n c h1 h2 => by unfold maxLen at h2; omega
  rcases h.form with ⟨rfl, rfl⟩ | ⟨g, cap, cur, rfl, -⟩
  · exact ⟨none, 0, rfl, by simp, fun i hi => absurd hi (Nat.not_lt_zero i)⟩
  · obtain ⟨-, h1, h2, -, hc⟩ := St.OwnE.cell h (fun _ => rfl)
    refine ⟨_, _, rfl, hm _ _ h1 h2, fun i hi => ?_⟩
    obtain ⟨g', e, -, -, hj⟩ := hc i hi
    exact ⟨g', e, (hj 0 (by omega)).1, (hj 1 (by omega)).1, (hj 2 (by omega)).1, (hj 3 (by omega)).1, (hj 4 (by omega)).1, (hj 5 (by omega)).1, (hj 6 (by omega)).1, (hj 7 (by omega)).1, (hj 8 (by omega)).1, (hj 9 (by omega)).1, (hj 10 (by omega)).1⟩
theorem N_serve {w w' : World} {b : CB} {q : Cq} {B : Nat} {v : Value} {l : List Nn} (h : OwnN w B v l) (hA : CAt w b q) (hg : Chg b.foot w w') : OwnN w' B v l :=
  h.same fun i hi => hg.block i (St.OwnE.block h i hi).2 (hA.far (Kb.row h hi) (by decide))
theorem wpl_appD {ops : Array Oper} {rest : List Oper} {a : Act} {w : World} {Q : Exit → Act → World → Prop} (dst : Option Tmp) (ty : TypeId) (pos : String) (aft : Array Edge) (s x : Operand)
    (B : Nat) (v : Value) (l : List Nn) (g : Nat) (y : Nn)
    (hs : a.eval s = v) (hx : a.eval x = .slice (some ⟨g, 0, none⟩) 1 1) (hown : OwnN w B v l) (hsrc : Lies w g 55 (encN y).toArray) (hsm : l.length ≤ 100000) (hB : B ≤ w.heap.size)
    (h : ∀ v' w', OwnN w' B v' (l ++ [y]) → w.grownBy w' v.ownBlock → (v'.ownBlock = v.ownBlock ∨ v'.ownBlock = some w.heap.size) → wpList Tryz.prog ops Q rest (a.put dst v') w') :
    wpList Tryz.prog ops Q (⟨dst, .call { callee := .builtin .append, args := #[s, x], argTypes := #[85, 85] }, ty, pos, aft, none⟩ :: rest) a w :=
  St.wpl_app1 85 _ _ 112 Tryz.underlying85 Tryz.type55 rfl rfl rfl rfl (by decide) (by decide) encN_len encN_one dst ty pos aft s x B v l g y hs hx hown hsrc hsm hB h
/-- Its step. -/
def Nn.d (n : Nn) : Dn := ⟨n.o, n.s, n.l⟩
/-- All that is kept while a crew undoes. -/
structure Kept (w : World) (b : CB) (B : Nat) (t vg va : Value) (L : List Nn) : Prop where
  row : OwnN w B t L
  kn : ∀ n ∈ L, Kn w b n.A n.c n.l
  ne : ∀ n ∈ L, ∀ i, (Value.slice n.A n.l.length n.c).ownBlock = some i → t.ownBlock ≠ some i
  g : ∃ B', St.OwnG w B' vg smG
  a : ∃ B', Pu.OwnG w B' va smA
theorem Kept.below {w w' : World} {b : CB} {B : Nat} {t vg va : Value} {L : List Nn} (h : Kept w b B t vg va L) (hb : Below w.heap.size w w') : Kept w' b B t vg va L :=
  ⟨h.row.below hb, fun n hn => (h.kn n hn).below hb, h.ne, by obtain ⟨x, hx⟩ := h.g; exact ⟨x, hx.below hb⟩, by obtain ⟨x, hx⟩ := h.a; exact ⟨x, hx.below hb⟩⟩
theorem Kept.serve {w w' : World} {b b' : CB} {q : Cq} {B : Nat} {t vg va : Value} {L : List Nn} (h : Kept w b B t vg va L) (hA : CAt w b q) (hg : Chg b.foot w w') (hf : ∀ i, b'.foot i → b.foot i ∨ w.heap.size ≤ i) : Kept w' b' B t vg va L :=
  ⟨N_serve h.row hA hg, fun n hn => (h.kn n hn).serve hg hf, h.ne, by obtain ⟨x, hx⟩ := h.g; exact ⟨x, G_serve hx hA hg⟩, by obtain ⟨x, hx⟩ := h.a; exact ⟨x, A_serve hx hA hg⟩⟩
/-- One more is kept. -/
theorem Kept.snoc {w w' : World} {b : CB} {q : Cq} {B : Nat} {t t' vg va : Value} {L : List Nn} {n : Nn} (h : Kept w b B t vg va L) (hn : Kn w b n.A n.c n.l) (hne : ∀ i, (Value.slice n.A n.l.length n.c).ownBlock = some i → t.ownBlock ≠ some i) (hA : CAt w b q)
    (hr : OwnN w' B t' (L ++ [n])) (hg : w.grownBy w' t.ownBlock) (ht : t'.ownBlock = t.ownBlock ∨ t'.ownBlock = some w.heap.size) : Kept w' b B t' vg va (L ++ [n]) ∧ CAt w' b q := by
  have hkn : ∀ m : Nn, Kn w b m.A m.c m.l → (∀ i, (Value.slice m.A m.l.length m.c).ownBlock = some i → t.ownBlock ≠ some i) → Kn w' b m.A m.c m.l := fun m hm hx => by
    refine ⟨⟨?_, hm.i.2⟩, fun i hi => Nat.lt_of_lt_of_le (hm.lt i hi) hg.size, hm.far⟩
    obtain ⟨h1, h2, h3⟩ := hm.i.1
    refine ⟨h1, h2, fun h0 => ?_⟩
    obtain ⟨k, off, e, hc⟩ := h3 h0
    refine ⟨k, off, e, fun i hi => ?_⟩
    have he := hg.block k (block_lt_of_cell (hc i hi)) (fun e' => hx k (by rw [e]; rfl) e'.symm)
    rw [← hc i hi]
    simp only [World.cell?, he]
  have hall : ∀ m ∈ L ++ [n], Kn w b m.A m.c m.l ∧ ∀ i, (Value.slice m.A m.l.length m.c).ownBlock = some i → t.ownBlock ≠ some i := fun m hm => by
    rcases List.mem_append.1 hm with hm | hm
    · exact ⟨h.kn m hm, h.ne m hm⟩
    · simp at hm; subst hm; exact ⟨hn, hne⟩
  refine ⟨⟨hr, fun m hm => hkn m (hall m hm).1 (hall m hm).2, fun m hm i hi e => ?_, ?_, ?_⟩, hA.same fun i hi => hg.block i (hA.foot_lt hi) (fun e => hA.far (Kb.row h.row (i := i) e.symm) (by decide) hi)⟩
  · rcases ht with ht | ht
    · rw [ht] at e; exact (hall m hm).2 i hi e
    · rw [ht] at e
      injection e with e
      have := (hall m hm).1.lt i hi
      omega
  · obtain ⟨x, hx⟩ := h.g
    exact ⟨x, hx.same fun i hi => hg.block i (St.OwnE.block hx i hi).2 (fun e => (Kb.row hx hi).ne (Kb.row h.row (i := i) e.symm) (by decide) rfl)⟩
  · obtain ⟨x, hx⟩ := h.a
    exact ⟨x, hx.same fun i hi => hg.block i (Pu.OwnE.block hx i hi).2 (fun e => (Kb.row hx hi).ne (Kb.row h.row (i := i) e.symm) (by decide) rfl)⟩
theorem ask_apart {w wr : World} {R : List Int} {cc : Nat} {b : CB} {q : Cq} {x : Ax} {A : Option Addr} {c : Nat} {t : Value} {L : List Nn} (hS : CW w wr R cc b q) (hx : AT w x) (hr : OwnN wr w.heap.size t L)
    (ho : (A = x.B ∧ 0 < x.r.length) ∨ ∀ i, (Value.slice A (askD x).length c).ownBlock = some i → wr.heap.size ≤ i) : ∀ i, (Value.slice A (askD x).length c).ownBlock = some i → t.ownBlock ≠ some i := fun i h1 h2 => by
  have h3 := St.OwnE.block hr i h2
  rcases ho with ⟨rfl, h0⟩ | ho
  · have a1 := hx.rr.lt h0 h1
    omega
  · have a1 := ho i h1
    omega

end Go.Proofs.YtpbclmnhkmcknaaGreat

namespace Go.Proofs.YtpbclmnhkmcknaaGreat
open Go.RowKit
open Fe (Lies Own Bys Reads NF Kx Kp Note)
set_option maxRecDepth 100000
set_option linter.unusedVariables false
set_option linter.unusedSimpArgs false

/-- What the document's Decode gives. -/
def RDecPost (w : World) (l : List Nat) (e : Ending) (w' : World) : Prop :=
  Below w.heap.size w w' ∧ ((decS l = none ∧ e = .returned (.tuple #[.agg #[.int .i64 0, .int .i64 0, .slice none 0 0], .int .i64 120])) ∨
    ∃ (k : Wk) (v : Value), decS l = some k ∧ e = .returned (.tuple #[.agg #[.int .i64 k.t, .int .i64 k.n, v], .int .i64 0]) ∧ Fe.Tx w' w.heap.size v k.x)
theorem Tx_put3 {w : World} {B g : Nat} {v : Value} {l : List Nat} (h : Fe.Tx w B v l) (hg : g < B) (a0 a1 a2 : Value) : Fe.Tx (put3 w g a0 a1 a2) B v l := ((h.put hg a0).put hg a1).put hg a2
set_option maxHeartbeats 4000000 in
theorem rdecode_any (l : List Nat) (A : Option Addr) (c : Nat) (w : World) (hI : InBytes w A l.length c l) (hl : l.length ≤ 200000) : Calls Tryz.prog 15 #[.slice A l.length c] w (RDecPost w l) := by
  have hsm := hI.1.2.1
  obtain ⟨q1, q2, q3, q4, q5⟩ := rdW_small hsm
  have HD := Lib.hid (dec_ref hsm)
  have HSM := Lib.hid hsm
  obtain ⟨a1, hr1⟩ : ∃ a, Fe.Ent.rnum l 1 (0, false) = a := ⟨_, rfl⟩
  obtain ⟨a2, hr2⟩ : ∃ a, Fe.Ent.rnum l 4 a1.2 = a := ⟨_, rfl⟩
  obtain ⟨a3, hr3⟩ : ∃ a, Fe.Ent.rtxt l a2.2 = a := ⟨_, rfl⟩
  have e1 : r1 l = a1 := hr1
  have e2 : r2 l = a2 := by unfold r2; rw [e1]; exact hr2
  have e3 : r3 l = a3 := by unfold r3; rw [e2]; exact hr3
  have eW : rdW l = ⟨(a1.1 : Nat), (a2.1 : Nat), a3.1⟩ := by unfold rdW; rw [e1, e2, e3]
  rw [e1] at q2
  rw [e2] at q3
  rw [eW] at q4 q5 HD
  have HX := Lib.hid q4
  have HR1 := Lib.hid hr1
  have HR2 := Lib.hid hr2
  have HR3 := Lib.hid hr3
  clear e1 e2 e3 eW q1 q4 hsm hr1 hr2 hr3
  obtain ⟨n1, s1⟩ := a1
  obtain ⟨n2, s2⟩ := a2
  obtain ⟨x, s3⟩ := a3
  dsimp only at *
  obtain ⟨w1, HW, hR, hL, hb⟩ : ∃ W, W = (w.alloc (.cells #[.int .i64 0, .int .i64 0, .slice none 0 0] 24)).alloc (.cells #[.slice A l.length c, .int .i64 0, .bool false] 110) ∧ Fe.Rf W (w.heap.size + 1) (0, false) l ∧ Lies W w.heap.size 24 #[.int .i64 0, .int .i64 0, .slice none 0 0] ∧ Below w.heap.size w W :=
    ⟨_, rfl, ⟨A, c, Lies.made2 w _ 110 _, hI.1.below (Fe.below2 w _ _), fun h0 ad e => by
      obtain ⟨b, off, e', hc⟩ := hI.1.2.2 h0
      have hbl := block_lt_of_cell (hc 0 h0)
      rw [e] at e'
      injection e' with e'
      rw [e']
      exact Nat.lt_succ_of_lt hbl, Nat.zero_le _, hI.2.1, hI.2.2.1⟩, (Lies.made w 24 _).alloc _, Fe.below2 w _ _⟩
  have HI := Lib.hid hI
  have RD1 := Lib.hid hR
  have LR1 := Lib.hid hL
  have BB1 := Lib.hid hb
  clear hR hL hb hI
  have C1 := Lib.hid (show Calls Tryz.prog 54 #[.pointer (some ⟨w.heap.size + 1, 0, none⟩), .int .i64 1] w1 _ from Fe.rfnum_any (w.heap.size + 1) 1 (0, false) l w1 RD1.out (by omega) (by omega) hl)
  go_enter Tryz.func15, Tryz.ntmps15
  go_wp2_with fail
  rw [← HW]
  clear HW
  with_reducible refine C1.out.mono ?_
  rintro e w2 ⟨he, hR, hg⟩
  rw [HR1.out] at he hR
  subst he
  dsimp only at *
  have RD2 := Lib.hid hR
  have BB2 := Lib.hid (BB1.out.grown hg BB1.out.size (fun k hk => by injection hk with hk; omega))
  have LR2 := Lib.hid (LR1.out.grown hg (fun e => by injection e with e; omega))
  clear hR hg C1 RD1 BB1 LR1
  have i1 : wrap64 (n1 : Int) = (n1 : Int) := by unfold wrap64; omega
  have i2 : wrap64 (n2 : Int) = (n2 : Int) := by unfold wrap64; omega
  obtain ⟨W2, HW, hR, hL, hb, hLW⟩ : ∃ W, W = w2.alloc (.cells #[.int .i64 (n1 : Int), .int .i64 0, .slice none 0 0] 24) ∧ Fe.Rf W (w.heap.size + 1) s1 l ∧ Lies W w.heap.size 24 #[.int .i64 0, .int .i64 0, .slice none 0 0] ∧ Below w.heap.size w W ∧ Lies W w2.heap.size 24 #[.int .i64 (n1 : Int), .int .i64 0, .slice none 0 0] :=
    ⟨_, rfl, RD2.out.below (Fe.below1 _ _), LR2.out.alloc _, BB2.out.alloc BB2.out.size _, Lies.made w2 24 _⟩
  have C2 := Lib.hid (show Calls Tryz.prog 54 #[.pointer (some ⟨w.heap.size + 1, 0, none⟩), .int .i64 4] W2 _ from Fe.rfnum_any (w.heap.size + 1) 4 s1 l W2 hR (by omega) (by omega) hl)
  obtain ⟨g, hgg⟩ : ∃ g, w2.heap.size = g := ⟨_, rfl⟩
  have HGP : Hid (w.heap.size + 1 < g) := Lib.hid (by rw [← hgg]; exact RD2.out.lt)
  have BB3 := Lib.hid hb
  have LR3 := Lib.hid hL
  have LW3 := Lib.hid hLW
  have HG := Lib.hid hgg
  clear hR hL hb hLW RD2 BB2 LR2 hgg
  go_wp2_with fail
  rw [← HW]
  clear HW
  with_reducible refine C2.out.mono ?_
  rintro e w3 ⟨he, hR, hg⟩
  rw [HR2.out] at he hR
  subst he
  dsimp only at *
  rw [HG.out] at LW3 ⊢
  have RD4 := Lib.hid hR
  have BB4 := Lib.hid (BB3.out.grown hg BB3.out.size (fun k hk => by injection hk with hk; omega))
  have LR4 := Lib.hid (LR3.out.grown hg (fun e => by injection e with e; omega))
  have LW4 := Lib.hid (LW3.out.grown hg (fun e => by injection e with e; have := HGP.out; omega))
  clear hR hg C2 BB3 LR3 LW3 HG
  obtain ⟨f0, f1, f2⟩ := LW4.out.free3
  obtain ⟨k0, k1, k2⟩ := LW4.out.cells3
  obtain ⟨W4, HW, hR, hL, hb, hLW⟩ : ∃ W, W = w3.setCell ⟨g, 1, none⟩ (.int .i64 (n2 : Int)) ∧ Fe.Rf W (w.heap.size + 1) s2 l ∧ Lies W w.heap.size 24 #[.int .i64 0, .int .i64 0, .slice none 0 0] ∧ Below w.heap.size w W ∧ Lies W g 24 #[.int .i64 (n1 : Int), .int .i64 (n2 : Int), .slice none 0 0] :=
    ⟨_, rfl, RD4.out.setq HGP.out 1 _, LR4.out.other (a := ⟨g, 1, none⟩) (by have := HGP.out; show w.heap.size ≠ g; omega) _, BB4.out.setCell (p := ⟨g, 1, none⟩) (by have := HGP.out; show w.heap.size ≤ g; omega) _, LW4.out.put 1 _⟩
  have C3 := Lib.hid (Fe.rftext_any (w.heap.size + 1) s2 l W4 hR hl)
  have BB5 := Lib.hid hb
  have LR5 := Lib.hid hL
  have LW5 := Lib.hid hLW
  clear hR hL hb hLW RD4 BB4 LR4
  go_wp2_with fail
  rw [← HW]
  clear HW f0 f1 f2 k0 k1 k2 LW4
  with_reducible refine C3.out.mono ?_
  rintro e w5 ⟨v, he, hT, hR, hg⟩
  rw [HR3.out] at hT
  subst he
  dsimp only at *
  have HGS : Hid (g < W4.heap.size) := Lib.hid LW5.out.lt
  have BB6 := Lib.hid (BB5.out.grown hg BB5.out.size (fun k hk => by injection hk with hk; omega))
  have LR6 := Lib.hid (LR5.out.grown hg (fun e => by injection e with e; omega))
  have LW6 := Lib.hid (LW5.out.grown hg (fun e => by injection e with e; have := HGP.out; omega))
  have TX6 := Lib.hid hT
  clear hT hR hg C3 BB5 LR5 LW5
  obtain ⟨vA, vc, rfl, hvB, hv1, hv2, hv3, hv4⟩ := TX6.out
  obtain ⟨f0, f1, f2⟩ := LW6.out.free3
  obtain ⟨j0, j1, j2⟩ := LW6.out.cells3
  obtain ⟨W6, HW, hL, hb, hLW, hT⟩ : ∃ W, W = w5.setCell ⟨g, 2, none⟩ (.slice vA x.length vc) ∧ Lies W w.heap.size 24 #[.int .i64 0, .int .i64 0, .slice none 0 0] ∧ Below w.heap.size w W ∧ Lies W g 24 #[.int .i64 (n1 : Int), .int .i64 (n2 : Int), .slice vA x.length vc] ∧ Fe.Tx W W4.heap.size (.slice vA x.length vc) x :=
    ⟨_, rfl, LR6.out.other (a := ⟨g, 2, none⟩) (by have := HGP.out; show w.heap.size ≠ g; omega) _, BB6.out.setCell (p := ⟨g, 2, none⟩) (by have := HGP.out; show w.heap.size ≤ g; omega) _, LW6.out.put 2 _, TX6.out.put HGS.out _⟩
  have BB7 := Lib.hid hb
  have LR7 := Lib.hid hL
  have LW7 := Lib.hid hLW
  have TX7 := Lib.hid (hT.mono (Nat.le_of_lt (Nat.lt_trans (Nat.lt_of_succ_lt HGP.out) HGS.out)))
  have TX8 := Lib.hid (hT.mono (Nat.succ_le_of_lt (Nat.lt_trans (Nat.lt_of_succ_lt HGP.out) HGS.out)))
  have hvB2 : Bys W6 vA x.length x := by obtain ⟨A', c', e', h', -⟩ := hT; injection e' with e1 e2 e3; subst e1; exact h'
  have CE := Lib.hid (rencode_any ⟨(n1 : Int), (n2 : Int), x⟩ vA vc W6 hvB2 hv3 (Nat.le_trans hv1 hv2))
  have HI7 := Lib.hid (HI.out.below BB7.out)
  clear hL hb hLW hT hvB hv1 hv2 hv3 hv4 hvB2 BB6 LR6 TX6 LW6
  obtain ⟨k0, k1, k2⟩ := LW7.out.cells3
  rw [HW] at k0 k1 k2
  go_wp2_with fail
  rw [← HW]
  clear f0 f1 f2 j0 j1 j2
  rw [← HW] at k0 k1 k2
  clear HW
  with_reducible refine CE.out.mono ?_
  rintro e w8 ⟨hb, ⟨hw, rfl⟩ | ⟨hw, v, rfl, hO⟩⟩
  · have LR8 := Lib.hid (LR7.out.below hb LR7.out.lt)
    have BB8 := Lib.hid (BB7.out.trans (hb.mono BB7.out.size))
    have HDN : Hid (decS l = none) := Lib.hid (by rw [HD.out, if_neg (fun h => by rw [hw] at h; cases h.1)])
    clear hb CE hw k0 k1 k2
    obtain ⟨c0, c1, c2⟩ := LR8.out.cells3
    obtain ⟨f0, f1, f2⟩ := LR8.out.free3
    go_wp2
    exact ret_work w.heap.size 24 _ rfl rfl (Lies_put3 LR8.out _ _ _) rfl rfl ⟨below_put3 BB8.out (Nat.le_refl _) _ _ _, .inl ⟨HDN.out, rfl⟩⟩
  · have LR8 := Lib.hid (LR7.out.below hb LR7.out.lt)
    have LW8 := Lib.hid (LW7.out.below hb LW7.out.lt)
    have BB8 := Lib.hid (BB7.out.trans (hb.mono BB7.out.size))
    have TX9 := Lib.hid (TX8.out.below hb)
    have HI8 := Lib.hid (HI7.out.below hb)
    obtain ⟨rA, rc, rfl, hrB, -⟩ := hO.slice
    have u1 := Fe.run_str hrB rc
    have u2 := Fe.run_str HI8.out.1 c
    have hes : ∀ c ∈ encW ⟨(n1 : Int), (n2 : Int), x⟩, c < 256 := encW_small HX.out
    have u3 := Fe.str_eq (encW ⟨(n1 : Int), (n2 : Int), x⟩) l hes HSM.out
    by_cases hq : encW ⟨(n1 : Int), (n2 : Int), x⟩ = l
    · have HDS : Hid (decS l = some ⟨(n1 : Int), (n2 : Int), x⟩) := Lib.hid (by rw [HD.out, if_pos ⟨hw, hq⟩])
      have u4 : ((Fe.str (encW ⟨(n1 : Int), (n2 : Int), x⟩)).toList == (Fe.str l).toList) = true := by rw [u3, hq]; exact Fe.sameB_self l
      clear hb CE hw k0 k1 k2 hO hrB hes u3 hq
      obtain ⟨c0, c1, c2⟩ := LR8.out.cells3
      obtain ⟨f0, f1, f2⟩ := LR8.out.free3
      obtain ⟨k0, k1, k2⟩ := LW8.out.cells3
      go_wp2
      exact ret_work w.heap.size 24 _ rfl rfl (Lies_put3 LR8.out _ _ _) rfl rfl ⟨below_put3 BB8.out (Nat.le_refl _) _ _ _, .inr ⟨_, _, HDS.out, rfl, (Tx_put3 TX9.out (Nat.lt_succ_self _) _ _ _).mono (Nat.le_succ _)⟩⟩
    · have HDN : Hid (decS l = none) := Lib.hid (by rw [HD.out, if_neg (fun h => hq h.2)])
      have u4 : ((Fe.str (encW ⟨(n1 : Int), (n2 : Int), x⟩)).toList == (Fe.str l).toList) = false := by
        rw [u3]
        exact Fe.sameB_ne hq
      clear hb CE hw k0 k1 k2 hO hrB hes u3 hq
      obtain ⟨c0, c1, c2⟩ := LR8.out.cells3
      obtain ⟨f0, f1, f2⟩ := LR8.out.free3
      go_wp2
      exact ret_work w.heap.size 24 _ rfl rfl (Lies_put3 LR8.out _ _ _) rfl rfl ⟨below_put3 BB8.out (Nat.le_refl _) _ _ _, .inl ⟨HDN.out, rfl⟩⟩

end Go.Proofs.YtpbclmnhkmcknaaGreat
