/-
  Texts of one proof, in their order: DoSmall, DoBook, DoStillS, DoPutS.
-/
import Derived.StillTailTactics
import Derived.Test.YtpbclmnhkmcknaaGreatZ13
namespace Go.Proofs.YtpbclmnhkmcknaaGreat.Do
open Go.RowKit Go.Maps
set_option maxRecDepth 100000
set_option linter.unusedVariables false
set_option linter.unusedSimpArgs false

/-- The room of a day that there may not be. -/
def roomI (F : List Int) (d : Int) : Int := if 0 ≤ d ∧ d < (F.length : Int) then fr F d.toNat else 0
theorem roomI_nat (F : List Int) (d : Nat) : roomI F (d : Int) = fr F d := by
  unfold roomI
  split
  · simp
  · unfold fr
    rw [List.getD_eq_getElem?_getD, List.getElem?_eq_none (by omega)]
    rfl
theorem roomI_neg (F : List Int) (d : Int) (h : d < 0) : roomI F d = 0 := by unfold roomI; rw [if_neg (by omega)]
set_option maxHeartbeats 1000000 in
theorem room_same (b : SB) (q : Ss) (d : Int) (w : World) (hA : At w b q) (hl : q.F.length ≤ 1000) : Calls Tryz.prog 80 #[.pointer (some ⟨b.s, 0, none⟩), .int .i64 d] w fun e w' => e = .returned (.int .i64 (roomI q.F d)) ∧ w = w' := by
  obtain ⟨A, cap, hv⟩ := hA.len
  have hC := hA.c
  rw [hv] at hC
  obtain ⟨c0, c1⟩ := hC.cells2
  clear hC
  by_cases h1 : d < 0
  · have HR := Lib.hid (roomI_neg q.F d h1)
    clear hA hv
    go_enter Tryz.func80, Tryz.ntmps80
    go_wp2
    go_ret
    exact ⟨by rw [HR.out]; rfl, rfl⟩
  · have e1 : decide (d < 0) = false := by simpa using h1
    by_cases h2 : (q.F.length : Int) ≤ d
    · have HR : Hid (roomI q.F d = 0) := Lib.hid (by unfold roomI; rw [if_neg (by omega)])
      clear hA hv
      go_enter Tryz.func80, Tryz.ntmps80
      go_wp2
      go_ret
      exact ⟨by rw [HR.out]; rfl, rfl⟩
    · have e2 : decide ((q.F.length : Int) ≤ d) = false := by simpa using h2
      obtain ⟨k, rfl⟩ := Int.eq_ofNat_of_zero_le (show 0 ≤ d by omega)
      have hk : k < q.F.length := by omega
      obtain ⟨cap', hv', h3, h4, hc⟩ := hA.row (by omega)
      rw [hv] at hv'
      injection hv' with q1 q2 q3
      subst q1 q3
      obtain ⟨x0, -⟩ := hc k hk
      have HR := Lib.hid (roomI_nat q.F k)
      have hk2 : (k : Int) < (q.F.length : Int) := by omega
      have hk3 : decide ((k : Int) < 0) = false := by simp
      clear hA hv hc q2
      obtain ⟨x, hx⟩ : ∃ x, fr q.F k = x := ⟨_, rfl⟩
      rw [hx] at x0 HR
      clear hx
      go_enter Tryz.func80, Tryz.ntmps80
      go_wp2
      go_ret
      exact ⟨by rw [HR.out]; rfl, rfl⟩

theorem room_any (b : SB) (q : Ss) (d : Int) (w : World) (hA : At w b q) (hl : q.F.length ≤ 1000) : Calls Tryz.prog 80 #[.pointer (some ⟨b.s, 0, none⟩), .int .i64 d] w fun e w' => e = .returned (.int .i64 (roomI q.F d)) ∧ Below w.heap.size w w' :=
  (room_same b q d w hA hl).mono fun e w' ⟨h1, h2⟩ => ⟨h1, h2 ▸ Below.refl _ _⟩

/-! ### a dock that is not there -/
theorem book_nil (o f n : Value) (w : World) : Calls Tryz.prog 196 #[.pointer none, o, f, n] w fun e w' => e = .returned (.tuple #[.int .i64 0, .int .i64 2]) ∧ w = w' := by
  go_enter Tryz.func196, Tryz.ntmps196
  go_wp2
  go_ret2
  exact ⟨rfl, rfl⟩
theorem canc_nil (o : Value) (w : World) : Calls Tryz.prog 159 #[.pointer none, o] w fun e w' => e = .returned (.int .i64 2) ∧ w = w' := by
  go_enter Tryz.func159, Tryz.ntmps159
  go_wp2
  go_ret
  exact ⟨rfl, rfl⟩
theorem room_nil (o : Value) (w : World) : Calls Tryz.prog 80 #[.pointer none, o] w fun e w' => e = .returned (.int .i64 0) ∧ w = w' := by
  go_enter Tryz.func80, Tryz.ntmps80
  go_wp2
  go_ret
  exact ⟨rfl, rfl⟩
end Go.Proofs.YtpbclmnhkmcknaaGreat.Do

namespace Go.Proofs.YtpbclmnhkmcknaaGreat.Do
open Go.RowKit Go.Maps
set_option maxRecDepth 100000
set_option linter.unusedVariables false
set_option linter.unusedSimpArgs false

def BookPost (w : World) (b : SB) (q : Ss) (o : Nat) (f n : Int) (e : Ending) (w' : World) : Prop :=
  e = .returned (.tuple #[.int .i64 (dayI (bookD q o f n)), .int .i64 (verd (bookD q o f n).isSome)]) ∧ At w' b (bookS q o f n) ∧ Frm w w' b
theorem book_same {w w' : World} {b : SB} {q : Ss} {o : Nat} {f n : Int} (hv : bookD q o f n = none) (h : At w b q) (hb : Below w.heap.size w w') : BookPost w b q o f n (.returned (.tuple #[.int .i64 0, .int .i64 2])) w' := by
  unfold BookPost
  rw [bookS_no hv, hv]
  exact ⟨rfl, h.below hb, Frm.of_below b hb⟩
theorem OwnH.look_none {w : World} {b : Nat} {H : List Hd} (h : OwnH w b H) (o : Nat) (ho : o < 4294967296) (hf : findH H o = none) :
    (Instr.lookup 191 (.map (some b)) (.int .u32 (o : Int)) true).run Tryz.prog w = .ok (.tuple #[.agg #[.int .i64 0, .int .i64 0], .bool false]) w := by
  have := h.look_ok o ho
  unfold foundP at this
  rw [hf] at this
  exact this
theorem OwnH.look_some {w : World} {b : Nat} {H : List Hd} (h : OwnH w b H) (o : Nat) (ho : o < 4294967296) {y : Hd} (hf : findH H o = some y) :
    (Instr.lookup 191 (.map (some b)) (.int .u32 (o : Int)) true).run Tryz.prog w = .ok (.tuple #[.agg #[.int .i64 (y.d : Int), .int .i64 y.k], .bool true]) w := by
  have := h.look_ok o ho
  unfold foundP at this
  rw [hf] at this
  exact this
def BkI (F : List Int) (f n : Int) (v : Value) : Prop := ∃ j : Nat, j ≤ F.length ∧ v = .int .i64 (j : Int) ∧ ∀ i, i < j → ¬ (f ≤ (i : Int) ∧ n ≤ fr F i)

set_option maxHeartbeats 8000000 in
theorem book_any (R : List Int) (b : SB) (q : Ss) (o : Nat) (f n : Int) (w : World) (hA : At w b q) (hI : Inv R q) (ho : o < 4294967296) (hf1 : -9223372036854775808 ≤ f ∧ f ≤ 9223372036854775807) (hn1 : -9223372036854775808 ≤ n ∧ n ≤ 9223372036854775807) (hl : q.H.length ≤ 1000) :
    Calls Tryz.prog 196 #[.pointer (some ⟨b.s, 0, none⟩), .int .u32 (o : Int), .int .i64 f, .int .i64 n] w (BookPost w b q o f n) := by
  have HA := Lib.hid hA
  have HI := Lib.hid hI
  by_cases h0 : o = 0
  · have HV : Hid (bookD q o f n = none) := Lib.hid (by unfold bookD; rw [if_neg (fun h => h.1 h0)])
    have e0 : (((o : Int) == 0) : Bool) = true := by simp [h0]
    clear hA hI h0
    go_enter Tryz.func196, Tryz.ntmps196
    go_wp2
    go_ret2
    exact book_same HV.out HA.out (Below.refl _ _)
  have e0 : (((o : Int) == 0) : Bool) = false := beq_eq_false_iff_ne.2 (by omega)
  by_cases h1 : n < 1
  · have HV : Hid (bookD q o f n = none) := Lib.hid (by unfold bookD; rw [if_neg (fun h => by omega)])
    clear hA hI
    go_enter Tryz.func196, Tryz.ntmps196
    go_wp2
    go_ret2
    exact book_same HV.out HA.out (Below.refl _ _)
  have e1 : decide (n < 1) = false := by simpa using h1
  by_cases h2 : f < 0
  · have HV : Hid (bookD q o f n = none) := Lib.hid (by unfold bookD; rw [if_neg (fun h => by omega)])
    clear hA hI
    go_enter Tryz.func196, Tryz.ntmps196
    go_wp2
    go_ret2
    exact book_same HV.out HA.out (Below.refl _ _)
  have e2 : decide (f < 0) = false := by simpa using h2
  obtain ⟨A, cap, hbv⟩ := hA.len
  have hC := hA.c
  rw [hbv] at hC
  obtain ⟨c0, c1⟩ := hC.cells2
  have HBV := Lib.hid hbv
  clear hC hbv
  cases hf : findH q.H o with
  | some y =>
    have HV : Hid (bookD q o f n = none) := Lib.hid (by unfold bookD; rw [if_neg (fun h => by rw [hf] at h; cases h.2.2.2)])
    have lk := hA.o.look_some o ho hf
    clear hA hI hf
    go_enter Tryz.func196, Tryz.ntmps196
    go_wp2
    go_ret2
    exact book_same HV.out HA.out (below1 _ _)
  | none =>
    have HF := Lib.hid hf
    have lk := hA.o.look_none o ho hf
    have HVE : Hid (bookD q o f n = fday q.F f n) := Lib.hid (by unfold bookD; rw [if_pos ⟨h0, by omega, by omega, hf⟩])
    have hlen : (q.F.length : Int) ≤ 60 := by have := hI.fl; have := hI.fz; omega
    have HFB : Hid (∀ d, d < q.F.length → 0 ≤ fr q.F d ∧ fr q.F d ≤ 1000000) := Lib.hid (fun d hd => hI.fb (by rw [← hI.fl]; exact hd))
    have hC2 := (hA.alloc (.cells #[.int .i64 0, .int .i64 0] 276)).c
    rw [HBV.out] at hC2
    obtain ⟨d0, d1⟩ := hC2.cells2
    clear hA hI hf hC2
    go_enter Tryz.func196, Tryz.ntmps196
    go_wp2_with fail
    obtain ⟨W1, hW1⟩ : ∃ W1, W1 = w.alloc (.cells #[.int .i64 0, .int .i64 0] 276) := ⟨_, rfl⟩
    rw [← hW1]
    have HA1 : Hid (At W1 b q) := Lib.hid (by rw [hW1]; exact HA.out.alloc _)
    have HB1 : Hid (Below w.heap.size w W1) := Lib.hid (by rw [hW1]; exact below1 _ _)
    clear hW1 lk c0 c1 d0 d1
    have hC := HA1.out.c
    rw [HBV.out] at hC
    obtain ⟨c0, c1⟩ := hC.cells2
    clear hC
    go_loop [43] (fun v => BkI q.F f n v) (fun i => q.F.length - (intOf i).toNat)
    case atStart => exact ⟨0, by omega, rfl, fun i hi => by omega⟩
    case round =>
      obtain ⟨j, hj, rfl, hall⟩ := hrel
      have HALL := Lib.hid hall
      clear hall
      by_cases hlt : j < q.F.length
      · have hlt2 : (j : Int) < (q.F.length : Int) := by omega
        obtain ⟨cap', hv', hcc, hcm, hc⟩ := HA1.out.row (by omega)
        obtain ⟨x0, xf⟩ := hc j hlt
        rw [HBV.out] at hv'
        injection hv' with q1 q2 q3
        subst q1 q3
        have hxb := HFB.out j hlt
        obtain ⟨x, hx⟩ : ∃ x, fr q.F j = x := ⟨_, rfl⟩
        rw [hx] at x0 hxb
        have HX := Lib.hid hx
        obtain ⟨hxb1, hxb2⟩ := hxb
        clear hc hx q2
        by_cases hfj : f ≤ (j : Int)
        · by_cases hnx : n ≤ x
          · have HVD : Hid (bookD q o f n = some j) := Lib.hid (by rw [HVE.out]; exact fday_some.2 ⟨hlt, hfj, by rw [HX.out]; exact hnx, HALL.out⟩)
            have ew : IntKind.i64.wrap (x - n) = x - n := IntWalk.i64_in _ (by omega)
            obtain ⟨hp1, hp2⟩ := HA1.out.putF hlt (x - n)
            obtain ⟨w5, hu1, hu2, hu3⟩ := hp1.o.add ⟨o, j, n⟩ (findH_none HF.out) ho (by show q.H.length ≤ _; omega)
            obtain ⟨hp3, hp4⟩ := hp1.turnH hu2 hu3
            have HU := Lib.hid hu1
            have HP3 := Lib.hid hp3
            have HP4 := Lib.hid (((Frm.of_below b HB1.out).trans hp2).trans hp4)
            have y0 : (W1.setCell ⟨b.g, j, none⟩ (.int .i64 (x - n))).cell? ⟨b.s, 1, none⟩ = some (.map (some b.m)) := hp1.c.cell 1
            clear hp1 hp2 hp3 hp4 hu1 hu2 hu3
            go_wp2_with (first
              | ((with_reducible refine wpl_upd none _ _ _ 191 (.tmp 69) (.tmp 70) (.tmp 73) (.map (some b.m)) (.int .u32 (o : Int)) (vH (Hd.p ⟨o, j, n⟩)) w5 ?um ?uk ?uv HU.out ?_); (case um => rfl); (case uk => rfl); (case uv => rfl)))
            go_ret2
            refine ⟨by rw [HVD.out]; rfl, ?_, HP4.out⟩
            rw [bookS_yes HVD.out, HX.out]
            exact HP3.out
          · have e3 : decide (n ≤ x) = false := by simpa using hnx
            go_wp2
            go_round
            case rel =>
              refine ⟨j + 1, by omega, by go_num, fun i hi h => ?_⟩
              by_cases e : i = j
              · subst e; rw [HX.out] at h; exact hnx h.2
              · exact HALL.out i (by omega) h
            case measure => simp [intOf]; omega
        · have e3 : decide (f ≤ (j : Int)) = false := by simpa using hfj
          go_wp2
          go_round
          case rel =>
            refine ⟨j + 1, by omega, by go_num, fun i hi h => ?_⟩
            by_cases e : i = j
            · subst e; exact hfj h.1
            · exact HALL.out i (by omega) h
          case measure => simp [intOf]; omega
      · have hlt2 : decide ((j : Int) < (q.F.length : Int)) = false := by simp; omega
        have HV : Hid (bookD q o f n = none) := Lib.hid (by rw [HVE.out]; exact fday_none.2 fun i hi => HALL.out i (by omega))
        go_wp2
        go_ret2
        exact book_same HV.out HA.out HB1.out

end Go.Proofs.YtpbclmnhkmcknaaGreat.Do

namespace Go.Proofs.YtpbclmnhkmcknaaGreat.Do
open Go.RowKit
set_option maxRecDepth 100000
set_option linter.unusedVariables false
section
variable {P : Program} {ops : Array Oper} {Q : Act → Prop} {w : World}
theorem still_val {o : Oper} {rest : List Oper} {a : Act} (d : Tmp) (v : Value) (hd : o.dst = some d) (hw : Region.wanted o (yielded ops a.tmps) = true) (hy : (execOp a.eval o).run P w = .ok (.value v) w) (h : wpStill P ops w Q rest (a.put (some d) v)) : wpStill P ops w Q (o :: rest) a := by
  unfold wpStill
  rw [if_pos hw]
  unfold Oper.still
  rw [hy]
  exact ⟨rfl, by rw [hd]; exact h⟩
theorem still_skip {o : Oper} {rest : List Oper} {a : Act} (d : Tmp) (hd : o.dst = some d) (hw : Region.wanted o (yielded ops a.tmps) = false) (h : wpStill P ops w Q rest (a.put (some d) undef)) : wpStill P ops w Q (o :: rest) a := by
  unfold wpStill
  rw [if_neg (by rw [hw]; decide), hd]
  exact h
theorem still_cal {o : Oper} {rest : List Oper} {a : Act} (d : Tmp) (f : FuncId) (args : Array Value) (v : Value) (hd : o.dst = some d) (hw : Region.wanted o (yielded ops a.tmps) = true) (hy : (execOp a.eval o).run P w = .ok (.enter f args) w)
    (hc : Calls P f args w fun e w' => e = .returned v ∧ w' = w) (h : wpStill P ops w Q rest (a.put (some d) v)) : wpStill P ops w Q (o :: rest) a := by
  unfold wpStill
  rw [if_pos hw]
  unfold Oper.still
  rw [hy]
  exact ⟨rfl, v, hc, by rw [hd]; exact h⟩
end

end Go.Proofs.YtpbclmnhkmcknaaGreat.Do

namespace Go.Proofs.YtpbclmnhkmcknaaGreat.Do
open Go.RowKit
set_option maxRecDepth 100000
set_option linter.unusedVariables false

/-- Block g is now these cells, all else as before. -/
structure PutW (w w' : World) (g : Nat) (t : TypeId) (cs : Array Value) : Prop where
  lies : Lies w' g t cs
  grown : w.grownBy w' (some g)
  size : w'.heap.size = w.heap.size
theorem putW {w : World} {g i : Nat} {t : TypeId} {cs : Array Value} (hL : Lies w g t cs) (v : Value) : PutW w (w.setCell ⟨g, i, none⟩ v) g t (cs.setIfInBounds i v) :=
  ⟨hL.put i v, ⟨rfl, rfl, rfl, by simp, fun k hk hne => heap_setCell_other w ⟨g, i, none⟩ k v (fun e => hne (by rw [e]))⟩, by simp⟩

theorem wpl_putC {ops : Array Oper} {rest : List Oper} {a : Act} {w : World} {Q : Exit → Act → World → Prop} (dst : Option Tmp) (rty : TypeId) (pos : String) (aft : Array Edge) (ty : TypeId) (x y : Operand)
    (g i : Nat) (t : TypeId) (cs : Array Value) (v : Value) (hx : a.eval x = .pointer (some ⟨g, i, none⟩)) (hy : a.eval y = v) (hL : Lies w g t cs) (hi : i < cs.size)
    (hsz : (Tryz.prog.info? ty).map (·.size) = some 1) (h1 : v.oneCell' = true)
    (h : ∀ w', PutW w w' g t (cs.setIfInBounds i v) → wpList Tryz.prog ops Q rest (a.put dst undef) w') :
    wpList Tryz.prog ops Q (⟨dst, .store ty x y, rty, pos, aft, none⟩ :: rest) a w := by
  refine wpList_plain rfl fun K' hK' => ?_
  have f0 := hL.cell i
  rw [Array.getElem?_eq_getElem hi] at f0
  have f1 := hL.free i
  have hc : v.cells = #[v] := by cases v <;> first | rfl | cases h1
  unfold Oper.wp
  cases hq : Tryz.prog.info? ty with
  | none => simp [hq] at hsz
  | some inf =>
    have hs : inf.size = 1 := by simpa [hq] using hsz
    have hr : ((Instr.storeAt ty (.pointer (some ⟨g, i, none⟩)) v).run Tryz.prog w) = .ok () (w.setCell ⟨g, i, none⟩ v) := by
      simp [Instr.storeAt, Instr.sureAddr, storeVar, sizeOf, typeInfo, hq, hs, hc, Result.andThen, storeCells, Addr.add]
      rw [run_store _ _ _ _ _ h1]
      simp [f0, f1]
    simp [execOp, hx, hy, hr, Result.andThen]
    exact hK' _ _ (h _ (putW hL v))

end Go.Proofs.YtpbclmnhkmcknaaGreat.Do
