/-
  The contract of the reference's Turn.
-/
import Derived.Test.YtlgdjmmhdfpfeaaRefF
namespace Go.Proofs.Ytlgdjmmhdfpfeaa
open Go.Proofs Go.RowKit
set_option maxRecDepth 100000
set_option linter.unusedVariables false
set_option linter.unusedSimpArgs false

def rturnV (r : Rs) (o f : Nat) : Bool := match r.L.findIdx? (fun h => h.o == o) with
  | none => false
  | some i => (r.L.getD i default).t == f
def rturnS (r : Rs) (o f t : Nat) : Rs := if rturnV r o f = true then (match r.L.findIdx? (fun h => h.o == o) with
  | none => r
  | some i => ⟨r.F, r.L.set i ⟨(r.L.getD i default).o, (r.L.getD i default).n, (r.L.getD i default).k, t⟩⟩) else r
theorem rt_no {w w' : World} {B g : Nat} {vF vL : Value} {r : Rs} {o f t : Nat} (hv : rturnV r o f = false) (h : RAt w B g vF vL r) (hb : Below w.heap.size w w') : RcPost w B g vF vL (rturnV r o f) (rturnS r o f t) (.returned (.int .i64 2)) w' := by
  unfold rturnS
  rw [hv, if_neg (by decide)]
  exact rc_same h hb
/-- A payment's state is written where it stands. -/
theorem RAt.turn {w : World} {B g : Nat} {vF : Value} {r : Rs} {b n c : Nat} (h : RAt w B g vF (.slice (some ⟨b, 0, none⟩) n c) r) (i : Nat) (hi : i < r.L.length) (t : Nat) :
    RAt (w.setCell ⟨b, i * 4 + 3, none⟩ (.int .i64 (t : Int))) B g vF (.slice (some ⟨b, 0, none⟩) n c) ⟨r.F, r.L.set i ⟨r.L[i].o, r.L[i].n, r.L[i].k, t⟩⟩ ∧ RFrm w (w.setCell ⟨b, i * 4 + 3, none⟩ (.int .i64 (t : Int))) g (.slice (some ⟨b, 0, none⟩) n c) := by
  have hbg : b ≠ g := h.l.ne_lies h.c (by decide) b rfl
  have hFb : ∀ k, vF.ownBlock = some k → k ≠ b := by
    intro k hk e
    subst e
    rcases h.f.form with ⟨rfl, _⟩ | ⟨g', cap, cur, rfl, h1, h2, _⟩
    · cases hk
    · have : g' = k := by simpa [Value.ownBlock] using hk
      subst this
      exact h.l.ne_lies h2 (by decide) _ rfl rfl
  refine ⟨⟨h.c.other (a := ⟨b, i * 4 + 3, none⟩) (Ne.symm hbg) _, h.f.same fun k hk => heap_setCell_other w ⟨b, i * 4 + 3, none⟩ k _ (hFb k hk), h.l.set1 i hi t, h.lo⟩, ⟨rfl, rfl, rfl, by simp, fun k hk h1 h2 => heap_setCell_other w ⟨b, i * 4 + 3, none⟩ k _ (fun e => h2 (by rw [show k = b from e]; rfl))⟩⟩

set_option maxHeartbeats 4000000 in
theorem rturn_any (B g : Nat) (vF vL : Value) (r : Rs) (o f t : Nat) (fv tv : Int) (w : World) (hf : fv = (f : Int)) (ht : tv = (t : Int)) (h : RAt w B g vF vL r) (hl : r.L.length ≤ 1000) :
    Calls Try.prog 15 #[.pointer (some ⟨g, 0, none⟩), .int .u32 (o : Int), .int .i64 fv, .int .i64 tv] w (RcPost w B g vF vL (rturnV r o f) (rturnS r o f t)) := by
  have H := Lib.hid h
  have HT := Lib.hid ht
  have CAT := at_any B g vF vL r o w h hl
  have hz : (r.L.length : Int) ≤ 1000 := by omega
  obtain ⟨c0, c1⟩ := h.c.cells2
  unfold atN at CAT
  cases hx : r.L.findIdx? (fun h => h.o == o) with
  | none =>
    have HV : Hid (rturnV r o f = false) := Lib.hid (by unfold rturnV; rw [hx])
    rw [hx] at CAT
    dsimp only at CAT
    have CAT := Lib.hid CAT
    clear h hx hf ht
    go_enter Try.func15, Try.ntmps15
    go_wp2_with fail
    with_reducible refine CAT.out.mono ?_
    rintro e w' ⟨rfl, rfl⟩
    go_wp2
    go_ret
    exact rt_no HV.out H.out (Below.refl _ _)
  | some i =>
    rw [hx] at CAT
    dsimp only at CAT
    have CAT := Lib.hid CAT
    obtain ⟨hi, -, -⟩ := List.findIdx?_eq_some_iff_getElem.1 hx
    have hgd : r.L.getD i default = r.L[i] := by rw [List.getD_eq_getElem?_getD, List.getElem?_eq_getElem hi]; rfl
    have HVE : Hid (rturnV r o f = (r.L[i].t == f)) := Lib.hid (by unfold rturnV; rw [hx]; dsimp only; rw [hgd])
    have HSE : Hid (rturnV r o f = true → rturnS r o f t = ⟨r.F, r.L.set i ⟨r.L[i].o, r.L[i].n, r.L[i].k, t⟩⟩) := Lib.hid (fun hv => by unfold rturnS; rw [if_pos hv, hx]; dsimp only; rw [hgd])
    rcases h.l.form with ⟨-, h0⟩ | ⟨b, cap, cur, rfl, h1, h2, h3, h4, h5, h6⟩
    · rw [h0] at hi; cases hi
    obtain ⟨A', c', e', hH, -⟩ := h.l.hin
    injection e' with q1 q2 q3
    subst q1 q3
    obtain ⟨b', o', e', hbl, hc⟩ := hH.2 (by omega)
    injection e' with e'
    injection e' with e1 e2
    subst e1 e2
    obtain ⟨-, -, -, y3⟩ := hc i hi
    have yf := h2.free (0 + i * 4 + 3)
    rw [Nat.zero_add] at y3 yf
    have hi2 : (i : Int) < (r.L.length : Int) := by omega
    have hi3 : decide ((i : Int) < 0) = false := by simp
    obtain ⟨yy, hyt⟩ : ∃ z, r.L[i] = z := ⟨_, rfl⟩
    rw [hyt] at y3 HVE
    obtain ⟨yt, hy2⟩ : ∃ z, yy.t = z := ⟨_, rfl⟩
    rw [hy2] at y3 HVE
    have HI := Lib.hid hi
    clear h hx hgd h1 h2 h3 h4 h5 h6 hH hc hbl hyt hy2 q2
    by_cases htt : yt = f
    · have e3 : (((yt : Int) == fv) : Bool) = true := by rw [hf, htt]; simp
      have e4 : (((yt : Int) != fv) : Bool) = false := by rw [hf, htt]; simp
      have HV : Hid (rturnV r o f = true) := Lib.hid (by rw [HVE.out, htt]; simp)
      clear htt hf ht
      go_enter Try.func15, Try.ntmps15
      go_wp2_with fail
      with_reducible refine CAT.out.mono ?_
      rintro e w' ⟨rfl, rfl⟩
      go_wp2
      go_ret
      have hq := H.out.turn i HI.out t
      rw [← HT.out] at hq
      exact ⟨by rw [HV.out]; rfl, _, by rw [HSE.out HV.out]; exact hq.1, hq.2⟩
    · have e3 : (((yt : Int) == fv) : Bool) = false := beq_eq_false_iff_ne.2 (by omega)
      have e4 : (((yt : Int) != fv) : Bool) = true := by rw [bne_iff_ne]; omega
      have HV : Hid (rturnV r o f = false) := Lib.hid (by rw [HVE.out]; simpa using htt)
      clear htt hf ht
      go_enter Try.func15, Try.ntmps15
      go_wp2_with fail
      with_reducible refine CAT.out.mono ?_
      rintro e w' ⟨rfl, rfl⟩
      go_wp2
      go_ret
      exact rt_no HV.out H.out (Below.refl _ _)

end Go.Proofs.Ytlgdjmmhdfpfeaa
