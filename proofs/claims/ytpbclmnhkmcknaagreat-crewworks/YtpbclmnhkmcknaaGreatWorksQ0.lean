/-
  Texts of one proof, in their order: X13Works, CRdec, WcrewWorks.
-/
import Derived.Test.YtpbclmnhkmcknaaGreatB22
namespace Go.Proofs.YtpbclmnhkmcknaaGreat.Fe
open Go.RowKit
end Go.Proofs.YtpbclmnhkmcknaaGreat.Fe
namespace Go.Proofs.YtpbclmnhkmcknaaGreat.Fe
open Go.RowKit
set_option maxRecDepth 100000
/-- 'append' of one byte onto a row of the call's own, where the order is open. -/
theorem stp_append {ops : Array Oper} {a : Act} {w : World} {K : Act → World → Prop} {Q : Exit → Act → World → Prop} {E : Prop} (dst : Option Tmp) (ty : TypeId) (pos : String) (aft : Array Edge) (s x : Operand)
    (B : Nat) (v : Value) (l : List Nat) (A : Option Addr) (m c : Nat) (news : List Nat)
    (hs : a.eval s = v) (hx : a.eval x = .slice A m c) (hown : Own w B v l) (hsrc : Bys w A m news) (hm : 0 < m) (hsm : l.length + m ≤ 1000000) (hB : B ≤ w.heap.size)
    (h : ∀ g cap w', Own w' B (.slice (some ⟨g, 0, none⟩) (l.length + m) cap) (l ++ news) → w.grownBy w' v.ownBlock → K (a.put dst (.slice (some ⟨g, 0, none⟩) (l.length + m) cap)) w') :
    if Region.wanted ⟨dst, .call { callee := .builtin .append, args := #[s, x], argTypes := #[22, 22] }, ty, pos, aft, none⟩ (yielded ops a.tmps) = true then Oper.wp Tryz.prog ⟨dst, .call { callee := .builtin .append, args := #[s, x], argTypes := #[22, 22] }, ty, pos, aft, none⟩ a w K Q else E := by
  obtain ⟨b, off, rfl, hc⟩ := hsrc.2.2 hm
  refine step_append_lies w (o := ⟨dst, .call { callee := .builtin .append, args := #[s, x], argTypes := #[22, 22] }, ty, pos, aft, none⟩) rfl s x 22 rfl B 5 _ (.int .u8 0) 1 1 Tryz.underlying22 Tryz.type5 rfl rfl rfl rfl (by decide) v l.length (vals l) hs hown.1
      ⟨b, off, none⟩ m c (vals news) hx (by simp [vals, hsrc.1]) (hsrc.cells _ rfl) (fun u hu => by simp only [vals, List.mem_map] at hu; obtain ⟨_, _, rfl⟩ := hu; rfl) hm (by unfold maxLen; omega) (by omega) hB w.heap.size rfl ?_
  intro g cap w' h1 h2 _ _
  refine h g cap w' ⟨?_, ?_⟩ h2
  · have e : (l ++ news).length = l.length + m := by rw [List.length_append, hsrc.1]
    rw [e]
    show w'.ownsRow B 5 1 _ (l.length + m) (vals (l ++ news))
    rw [show vals (l ++ news) = vals l ++ vals news from by simp [vals]]
    exact h1
  · intro c hc
    rcases List.mem_append.1 hc with h' | h'
    · exact hown.2 c h'
    · exact hsrc.2.1 c h'

/-- What is lent: the bytes, and two of room behind them. -/
def LentPost (w : World) (n : Nat) (l : List Nat) (e : Ending) (w' : World) : Prop :=
  ∃ g c, e = .returned (.slice (some ⟨g, 0, none⟩) n c) ∧ n + 2 ≤ c ∧ c ≤ maxLen ∧ Bys w' (some ⟨g, 0, none⟩) (n + 2) (l ++ [91, 92]) ∧ Below w.heap.size w w'

theorem bys_marks (w : World) (fr : Nat × Nat) : Bys (w.alloc (.cells #[.int .u8 91, .int .u8 92] 5 fr)) (some ⟨w.heap.size, 0, none⟩) 2 [91, 92] := Bys.const w _ [91, 92] fr 2 rfl rfl (by decide)

set_option maxHeartbeats 400000 in
theorem lent_any (a : Option Addr) (n cap : Nat) (l : List Nat) (w : World) (hB : Bys w a n l) (hA : a = none → cap = 0) (hn : n ≤ 100000) :
    Calls Tryz.prog 11 #[.slice a n cap] w (LentPost w n l) := by
  have HB := Lib.hid hB
  have HA := Lib.hid hA
  clear hB hA
  go_enter Tryz.func11, Tryz.ntmps11
  go_wp2_with fail
  with_reducible refine (copy_any _ _ _ _ _ HB.out HA.out (by omega)).mono ?_
  rintro e w2 ⟨v, rfl, hO, hb2⟩
  have HO := Lib.hid hO
  clear hO
  have hlen : (l ++ [91, 92]).length = n + 2 := by rw [List.length_append, HB.out.1]; rfl
  have HLEN := Lib.hid hlen
  clear hlen
  go_wp2_with (first
    | ((with_reducible refine wpl_append (some 8) _ _ _ (.tmp 6) (.tmp 7) w.heap.size v l (some ⟨w2.heap.size, 0, none⟩) 2 2 [91, 92] ?hs ?hx (HO.out.alloc _) (bys_marks _ _) ?ha ?hm ?hz ?_); (case hs => rfl); (case hx => rfl); (case ha => (intro h; cases h)); (case hm => (rw [HB.out.1]; omega)); (case hz => exact Nat.le_trans hb2.size (by simp)); (intro v' w' ho hg hv); (obtain ⟨g, c, hv', hBx, hc1, hc2⟩ := ho.some_ (by rw [HLEN.out]; omega)); (rw [HLEN.out] at hv' hBx hc1); (rw [hv']); (have HBX := Lib.hid hBx); (clear hv' hBx ho hv)))
  go_ret
  exact ⟨g, c, rfl, hc1, hc2, HBX.out, (HO.out.alloc _).grows hg (hb2.alloc hb2.size _) (Nat.le_refl _) (Nat.le_trans hb2.size (by simp))⟩

set_option maxHeartbeats 400000 in
theorem whole_any (g n c : Nat) (b : Option Addr) (cb : Nat) (l : List Nat) (w : World) (hX : Bys w (some ⟨g, 0, none⟩) (n + 2) (l ++ [91, 92])) (hB : Bys w b n l) (hc : n + 2 ≤ c) (hn : n ≤ 100000) :
    Calls Tryz.prog 16 #[.slice (some ⟨g, 0, none⟩) n c, .slice b n cb] w fun e w' => e = .returned (.bool true) ∧ Below w.heap.size w w' := by
  obtain ⟨g', off, e, hcell⟩ := hX.2.2 (by omega)
  injection e with e
  injection e with e1 e2 _
  subst e1 e2
  have c1 := hcell n (by omega)
  have c2 := hcell (n + 1) (by omega)
  have hl := hB.1
  have e1 : (l ++ [91, 92]).getD n 0 = 91 := by simp [List.getD, ← hl]
  have e2 : (l ++ [91, 92]).getD (n + 1) 0 = 92 := by simp [List.getD, ← hl]
  rw [e1, Nat.zero_add] at c1
  rw [e2, Nat.zero_add] at c2
  have HX := Lib.hid hX
  have HB := Lib.hid hB
  have r1 := run_str (hX.part hl) c
  have r2 := run_str hB cb
  generalize str l = S at *
  clear hX hB hcell hl e1 e2 HX HB
  go_enter Tryz.func16, Tryz.ntmps16
  go_wp2
  go_ret
  exact ⟨rfl, Below.refl _ _⟩

end Go.Proofs.YtpbclmnhkmcknaaGreat.Fe
namespace Go.Proofs.YtpbclmnhkmcknaaGreat.Fe
open Go.RowKit
set_option maxRecDepth 100000
def WrPost (w : World) (p B : Nat) (l : List Nat) (e : Ending) (w' : World) : Prop := e = .returned (.pointer (some ⟨p, 0, none⟩)) ∧ Wr w' p B l ∧ Below B w w' ∧ Keep w w'

theorem newWriter_any (w : World) : Calls Tryz.prog 43 #[] w (WrPost w w.heap.size w.heap.size []) := by
  go_enter Tryz.func43, Tryz.ntmps43
  go_wp2
  go_ret
  exact ⟨rfl, ⟨Nat.le_refl _, _, Lies.made w 162 _, Own.nil _ _⟩, (Below.refl _ _).alloc (Nat.le_refl _) _, (Keep.refl _).alloc _⟩

def NumR (w : World) (p B n k : Nat) (l : List Nat) (i : Value) (wr : World) : Prop := ∃ j : Nat, j ≤ k ∧ i = .int .i64 j ∧ Wr wr p B (l ++ (Ent.be k n).take j) ∧ Below B w wr ∧ Keep w wr

set_option maxHeartbeats 400000 in
theorem wnumber_any (p B n k : Nat) (l : List Nat) (w : World) (hW : Wr w p B l) (hk : k ≤ 8) (hl : l.length ≤ 200000) :
    Calls Tryz.prog 81 #[.pointer (some ⟨p, 0, none⟩), .int .u64 n, .int .i64 k] w (WrPost w p B (l ++ Ent.be k n)) := by
  obtain ⟨hBp, v0, hL0, hO0⟩ := hW
  have hc1 := hL0.cell 1
  have HL := Lib.hid hL0
  have HO := Lib.hid hO0
  clear hL0 hO0
  go_enter Tryz.func81, Tryz.ntmps81
  go_wp2_with fail
  go_loopw [18] (NumR w p B n k l) (fun i _ => k - (intOf i).toNat)
  case atStart => exact ⟨0, by omega, rfl, ⟨hBp, v0, HL.out, by simpa using HO.out⟩, Below.refl _ _, Keep.refl _⟩
  case round =>
    obtain ⟨j, hj, rfl, ⟨_, v, hL, hO⟩, hbel, hkp⟩ := hrel
    have HKP := Lib.hid hkp
    clear hkp
    by_cases hlt : j < k
    · have hc0 := hL.cell 0
      have hf0 := hL.free 0
      have e1 : IntKind.i64.wrap ((k : Int) - 1) = (k : Int) - 1 := IntWalk.i64_in _ (by omega)
      have e2 : IntKind.i64.wrap ((k : Int) - 1 - (j : Int)) = ((k - 1 - j : Nat) : Int) := by rw [IntWalk.i64_in _ (by omega)]; omega
      generalize hm : k - 1 - j = m at *
      have e3 : IntKind.i64.wrap (8 * (m : Int)) = 8 * (m : Int) := IntWalk.i64_in _ (by omega)
      have hy : n / 2 ^ (8 * m) % 256 < 256 := Nat.mod_lt _ (by decide)
      have e4 : IntKind.u8.wrap ((n : Int) / 2 ^ (8 * (m : Int)).toNat) = ((n / 2 ^ (8 * m) % 256 : Nat) : Int) := by
        rw [show (8 * (m : Int)).toNat = 8 * m from by omega, IntKind.wrap_u8, Int.natCast_emod, Int.natCast_ediv, Int.natCast_pow]; rfl
      have hbe : (Ent.be k n).take (j + 1) = (Ent.be k n).take j ++ [n / 2 ^ (8 * m) % 256] := by
        rw [take_one _ _ (by rw [Ent.be_len]; exact hlt)]
        simp [Ent.be, List.getD, hlt, hm]
      have hll : (l ++ (Ent.be k n).take j).length + 1 ≤ 1000000 := by simp [Ent.be_len]; omega
      generalize n / 2 ^ (8 * m) % 256 = y at *
      have hm8 : (m : Int) ≤ 7 := by omega
      have hc0a := (hL.alloc (.cells #[.int .u8 (y : Nat)] 5)).cell 0
      have HBE := Lib.hid hbe
      have HM := Lib.hid hm
      have HL1 := Lib.hid hL
      have HO1 := Lib.hid hO
      clear hbe hm hL hO HL HO
      generalize hlj : l ++ (Ent.be k n).take j = lj at *
      have HLJ := Lib.hid hlj
      clear hlj
      go_wp2_with fail
      go_region_law ((refine stp_append (some 35) _ _ _ (.tmp 25) (.tmp 34) B _ _ (some ⟨wr.heap.size, 0, none⟩) 1 1 [y] (by rfl) (by rfl) (HO1.out.alloc _).drew (Bys.const wr _ [y] (0, 0) 1 (by rfl) (by rfl) (by simp; omega)).drew (by omega) hll (Nat.le_trans hBp (Nat.le_trans (Nat.le_of_lt HL1.out.lt) (by simp))) ?_; intro g cap w1 hown1 hgrow; have hL1 := Lies.grown (w := (wr.alloc _).drew) (HL1.out.alloc _) hgrow (HO1.out.ne HL1.out (by decide)); have hd0 := hL1.cell 0; have hd1 := hL1.free 0))
      all_goals
        go_wp2
        have hb1 := (HO1.out.alloc _).drew.grows hgrow ((hbel.alloc (Nat.le_trans hBp (Nat.le_of_lt HL1.out.lt)) _).drew) (Nat.le_refl _) (Nat.le_trans hBp (Nat.le_trans (Nat.le_of_lt HL1.out.lt) (by simp)))
        have hk1 := ((HKP.out.alloc (.cells #[.int .u8 (y : Nat)] 5)).drew).grown (HO1.out.alloc _).drew hgrow
        go_roundw
        case rel => exact ⟨j + 1, by omega, by go_num, ⟨hBp, _, hL1.put 0 _, by rw [HBE.out, ← List.append_assoc, HLJ.out]; exact hown1.setOther (a := ⟨p, 0, none⟩) (hown1.ne hL1 (by decide)) _⟩, hb1.setCell hBp _, hk1.put hL1 0 _⟩
        case measure => simp [intOf]; omega
    · have hjk : j = k := by omega
      subst hjk
      rw [List.take_of_length_le (by rw [Ent.be_len]; exact Nat.le_refl _)] at hO
      have HL1 := Lib.hid hL
      have HO1 := Lib.hid hO
      clear hL hO
      go_wp2
      go_ret
      exact ⟨rfl, ⟨hBp, v, HL1.out, HO1.out⟩, hbel, HKP.out⟩


end Go.Proofs.YtpbclmnhkmcknaaGreat.Fe
namespace Go.Proofs.YtpbclmnhkmcknaaGreat.Fe
open Go.RowKit
set_option maxRecDepth 100000
set_option maxHeartbeats 400000 in
theorem wu32_any (p B n : Nat) (l : List Nat) (w : World) (hW : Wr w p B l) (hn : n < 4294967296) (hl : l.length ≤ 200000) :
    Calls Tryz.prog 45 #[.pointer (some ⟨p, 0, none⟩), .int .u32 n] w (WrPost w p B (l ++ Ent.be 4 n)) := by
  have HW := Lib.hid hW
  clear hW
  have c2 := wnumber_any p B n 4 l w HW.out (by omega) hl
  rw [show ((4 : Nat) : Int) = 4 from rfl] at c2
  have C2 := Lib.hid c2
  clear c2
  go_enter Tryz.func45, Tryz.ntmps45
  go_wp2_with fail
  with_reducible refine C2.out.mono ?_
  rintro e w2 ⟨rfl, hW2, hb2⟩
  go_wp2
  go_ret
  exact ⟨rfl, hW2, hb2⟩

def DonePost (w : World) (l : List Nat) (e : Ending) (w' : World) : Prop :=
  ∃ v, e = .returned (.tuple #[v, .int .i64 0]) ∧ Own w' w.heap.size v l ∧ Below w.heap.size w w'

set_option maxHeartbeats 400000 in
theorem wdone_any (p B : Nat) (l : List Nat) (w : World) (hW : Wr w p B l) (hl : l.length ≤ 200000) :
    Calls Tryz.prog 47 #[.pointer (some ⟨p, 0, none⟩)] w (DonePost w l) := by
  obtain ⟨_, v, hL, hO⟩ := hW
  obtain ⟨A, c, rfl, hB, _, _, _⟩ := hO.slice
  have hc0 := hL.cell 0
  have hc1 := hL.cell 1
  have HB := Lib.hid hB
  clear hL hO hB
  go_enter Tryz.func47, Tryz.ntmps47
  go_wp2_with fail
  with_reducible refine (fresh_any _ _ _ _ _ HB.out (by omega)).mono ?_
  rintro e w2 ⟨rfl, hO2, hb2⟩
  have HO2 := Lib.hid hO2
  clear hO2
  go_wp2
  go_ret2
  exact ⟨_, rfl, HO2.out, hb2⟩


end Go.Proofs.YtpbclmnhkmcknaaGreat.Fe
namespace Go.Proofs.YtpbclmnhkmcknaaGreat.Fe
open Go.RowKit
set_option maxRecDepth 100000
end Go.Proofs.YtpbclmnhkmcknaaGreat.Fe
namespace Go.Proofs.YtpbclmnhkmcknaaGreat.Fe
open Go.RowKit
set_option maxHeartbeats 400000 in
theorem same_any (a b : Option Addr) (n m c d : Nat) (la lb : List Nat) (w : World) (hA : Bys w a n la) (hB : Bys w b m lb) :
    Calls Tryz.prog 18 #[.slice a n c, .slice b m d] w fun e w' => e = .returned (.bool (sameB la lb)) ∧ w = w' := by
  have r1 := run_str hA c
  have r2 := run_str hB d
  have r3 := str_eq la lb hA.2.1 hB.2.1
  clear hA hB
  go_enter Tryz.func18, Tryz.ntmps18
  go_wp2
  go_ret
  exact ⟨rfl, rfl⟩


end Go.Proofs.YtpbclmnhkmcknaaGreat.Fe
namespace Go.Proofs.YtpbclmnhkmcknaaGreat.Fe
open Go.RowKit
end Go.Proofs.YtpbclmnhkmcknaaGreat.Fe
namespace Go.Proofs.YtpbclmnhkmcknaaGreat.Fe
open Go.RowKit
set_option maxRecDepth 100000
theorem grown_set {a w : World} {g : Nat} (h : a.grownBy w (some g)) (o : Nat) (u : Value) : a.grownBy (w.setCell ⟨g, o, none⟩ u) (some g) :=
  ⟨h.os, h.tape, h.output, by simpa [World.setCell] using h.size, fun i hi hne => (Below.heap_setCell w ⟨g, o, none⟩ u i (by rintro rfl; exact hne rfl)).trans (h.block i hi hne)⟩

/-- What is lent: the bytes, and two of room behind them, in a block of its own. -/
def LentOwn (w : World) (n : Nat) (l : List Nat) (e : Ending) (w' : World) : Prop :=
  ∃ g c, e = .returned (.slice (some ⟨g, 0, none⟩) n c) ∧ n + 2 ≤ c ∧ c ≤ maxLen ∧ w.heap.size ≤ g ∧ Own w' w.heap.size (.slice (some ⟨g, 0, none⟩) (n + 2) c) (l ++ [91, 92]) ∧ Below w.heap.size w w'

set_option maxHeartbeats 400000 in
theorem lent_own (a : Option Addr) (n cap : Nat) (l : List Nat) (w : World) (hB : Bys w a n l) (hA : a = none → cap = 0) (hn : n ≤ 100000) :
    Calls Tryz.prog 11 #[.slice a n cap] w (LentOwn w n l) := by
  have HB := Lib.hid hB
  have HA := Lib.hid hA
  clear hB hA
  go_enter Tryz.func11, Tryz.ntmps11
  go_wp2_with fail
  with_reducible refine (copy_any _ _ _ _ _ HB.out HA.out (by omega)).mono ?_
  rintro e w2 ⟨v, rfl, hO, hb2⟩
  have HO := Lib.hid hO
  clear hO
  have hlen : (l ++ [91, 92]).length = n + 2 := by rw [List.length_append, HB.out.1]; rfl
  have HLEN := Lib.hid hlen
  clear hlen
  go_wp2_with (first
    | ((with_reducible refine wpl_append (some 8) _ _ _ (.tmp 6) (.tmp 7) w.heap.size v l (some ⟨w2.heap.size, 0, none⟩) 2 2 [91, 92] ?hs ?hx (HO.out.alloc _) (bys_marks _ _) ?ha ?hm ?hz ?_); (case hs => rfl); (case hx => rfl); (case ha => (intro h; cases h)); (case hm => (rw [HB.out.1]; omega)); (case hz => exact Nat.le_trans hb2.size (by simp)); (intro v' w' ho hg hv); (obtain ⟨g, c, hv', hBx, hc1, hc2⟩ := ho.some_ (by rw [HLEN.out]; omega)); (rw [HLEN.out] at hv' hc1); (subst hv'); (have HOX := Lib.hid ho); (clear hBx ho hv)))
  go_ret
  exact ⟨g, c, rfl, hc1, hc2, HOX.out.block g rfl, HOX.out, (HO.out.alloc _).grows hg (hb2.alloc hb2.size _) (Nat.le_refl _) (Nat.le_trans hb2.size (by simp))⟩

def SpR (w : World) (g n : Nat) (i : Value) (wr : World) : Prop :=
  ∃ (k : Nat) (cur : Array Value), k ≤ n ∧ i = .int .i64 k ∧ Lies wr g 5 cur ∧ (∀ j, j < n → ∃ z : Int, cur[j]? = some (.int .u8 z)) ∧ w.grownBy wr (some g)

set_option maxHeartbeats 400000 in
theorem spoil_any (g n c : Nat) (l : List Nat) (B : Nat) (m : Nat) (w : World) (hO : Own w B (.slice (some ⟨g, 0, none⟩) m c) l) (hn : n ≤ m) (hm : m ≤ 100000) :
    Calls Tryz.prog 17 #[.slice (some ⟨g, 0, none⟩) n c] w fun e w' => e = .returned (.tuple #[]) ∧ w.grownBy w' (some g) := by
  rcases hO.form with ⟨h, _⟩ | ⟨g', cap, cur, hv, hgB, hL, h1, h2, h3, hcur⟩
  · cases h
  injection hv with e1 e2 e3
  injection e1 with e1
  injection e1 with e1 _ _
  subst e1 e3
  have hst : ∀ j, j < n → ∃ z : Int, cur[j]? = some (.int .u8 z) := fun j hj => ⟨_, hcur j (by omega)⟩
  have HL := Lib.hid hL
  have HST := Lib.hid hst
  clear hL hcur hst h3 hO
  go_enter Tryz.func17, Tryz.ntmps17
  go_wp2_with fail
  go_loopw [2] (SpR w g n) (fun i _ => n - (intOf i).toNat)
  case atStart => exact ⟨0, cur, by omega, rfl, HL.out, HST.out, World.grownBy.refl w _⟩
  case round =>
    clear HST HL
    obtain ⟨k, cu, hk, rfl, hL, hst, hgr⟩ := hrel
    by_cases hlt : k < n
    · obtain ⟨z, hz⟩ := hst k hlt
      have hck := (hL.cell k).trans hz
      have hfk := hL.free k
      have HST := Lib.hid hst
      have HL := Lib.hid hL
      clear hst hL hz
      go_wp2
      refine ⟨⟨k + 1, _, by omega, by go_num, HL.out.put k _, fun j hj => ?_, grown_set hgr k _⟩, by simp [intOf]; omega⟩
      rw [Array.getElem?_setIfInBounds]
      obtain ⟨z', hz'⟩ := HST.out j hj
      by_cases hjk : k = j
      · subst hjk
        have hlt2 : k < cu.size := (Array.getElem?_eq_some_iff.1 hz').1
        rw [if_pos rfl, if_pos hlt2]
        exact ⟨_, rfl⟩
      · rw [if_neg hjk]; exact ⟨z', hz'⟩
    · have hkn : k = n := by omega
      subst hkn
      go_wp2
      go_end0
      exact ⟨rfl, hgr⟩


end Go.Proofs.YtpbclmnhkmcknaaGreat.Fe
namespace Go.Proofs.YtpbclmnhkmcknaaGreat.Fe
open Go.RowKit
set_option maxRecDepth 100000
set_option maxHeartbeats 400000 in
theorem wu8_any (p B n : Nat) (l : List Nat) (w : World) (hW : Wr w p B l) (hn : n < 256) (hl : l.length ≤ 200000) :
    Calls Tryz.prog 44 #[.pointer (some ⟨p, 0, none⟩), .int .u8 n] w (WrPost w p B (l ++ Ent.be 1 n)) := by
  have HW := Lib.hid hW
  clear hW
  have c2 := wnumber_any p B n 1 l w HW.out (by omega) hl
  rw [show ((1 : Nat) : Int) = 1 from rfl] at c2
  have C2 := Lib.hid c2
  clear c2
  go_enter Tryz.func44, Tryz.ntmps44
  go_wp2_with fail
  with_reducible refine C2.out.mono ?_
  rintro e w2 ⟨rfl, hW2, hb2⟩
  go_wp2
  go_ret
  exact ⟨rfl, hW2, hb2⟩

theorem Bys.belowB {w w' : World} {B : Nat} {a : Option Addr} {n : Nat} {l : List Nat} (h : Bys w a n l) (hlow : Low B a n) (hb : Below B w w') : Bys w' a n l := by
  obtain ⟨h1, h2, h3⟩ := h
  refine ⟨h1, h2, fun h0 => ?_⟩
  obtain ⟨b, off, e, hc⟩ := h3 h0
  obtain ⟨b', off', e', hlt⟩ := hlow h0
  rw [e] at e'
  injection e' with e'
  injection e' with e1 e2 _
  subst e1 e2
  exact ⟨b, off, e, fun i hi => (hb.cell (p := ⟨b, off + i, none⟩) hlt).trans (hc i hi)⟩
theorem Bys.low {w : World} {a : Option Addr} {n : Nat} {l : List Nat} (h : Bys w a n l) {B : Nat} (hB : w.heap.size ≤ B) : Low B a n := fun h0 => by
  obtain ⟨b, off, e, hc⟩ := h.2.2 h0
  have := block_lt_of_cell (hc 0 h0)
  exact ⟨b, off, e, by simp at this; omega⟩

set_option maxHeartbeats 1000000 in
theorem wtext_any (p B : Nat) (l s : List Nat) (A : Option Addr) (n cap : Nat) (w : World) (hW : Wr w p B l) (hB : Bys w A n s) (hlow : Low B A n) (hA : A = none → cap = 0) (hn : n ≤ 255) (hl : l.length ≤ 200000) :
    Calls Tryz.prog 46 #[.pointer (some ⟨p, 0, none⟩), .slice A n cap] w (WrPost w p B (l ++ Ent.txt s)) := by
  obtain ⟨hBp, v0, hL0, hO0⟩ := hW
  have hc1 := hL0.cell 1
  have hc0 := hL0.cell 0
  have hBw : B ≤ w.heap.size := Nat.le_trans hBp (Nat.le_of_lt hL0.lt)
  have hc0a := (hL0.alloc (.cells #[.int .u8 (n : Nat)] 5)).cell 0
  have HL := Lib.hid hL0
  have HO := Lib.hid hO0
  have HB := Lib.hid hB
  have HA := Lib.hid hA
  have HLOW := Lib.hid hlow
  have HLEN := Lib.hid hB.1
  clear hL0 hO0 hB hA hlow
  go_enter Tryz.func46, Tryz.ntmps46
  go_wp2_with (first
    | ((with_reducible refine wpl_append (some 33) _ _ _ (.tmp 28) (.tmp 32) B v0 l (some ⟨w.heap.size, 0, none⟩) 1 1 [n] ?hs ?hx (HO.out.alloc _) (Bys.const w _ [n] (0, 0) 1 rfl rfl ?hb) ?ha ?hm ?hz ?_); (case hs => rfl); (case hx => rfl); (case hb => (simp; omega)); (case ha => (intro h; cases h)); (case hm => omega); (case hz => exact Nat.le_trans hBw (by simp)); (intro v1 w1 ho1 hg1 hv1); (obtain ⟨Ax, cx, hvx, _, _, _, _⟩ := ho1.slice); (obtain ⟨q, hq⟩ : ∃ q, (l ++ [n]).length = q := ⟨_, rfl⟩); (rw [hq] at hvx); (have HQ := Lib.hid hq); (clear hq); (subst hvx); (have hL1 := Lies.grown (HL.out.alloc _) hg1 (HO.out.ne HL.out (by decide))); (have hd0 := hL1.cell 0); (have hd1 := hL1.free 0); (have hL2 := hL1.put 0 (.slice Ax q cx)); (have hd2 := hL2.cell 0); (have hd3 := hL2.free 0); (have hO2 := ho1.setOther (a := ⟨p, 0, none⟩) (ho1.ne hL1 (by decide)) (.slice Ax q cx)); (have hb1 := ((HO.out.alloc _).grows hg1 ((Below.refl B _).alloc hBw _) (Nat.le_refl _) (Nat.le_trans hBw (by simp))).setCell (p := ⟨p, 0, none⟩) hBp (.slice Ax q cx)); (have HO2 := Lib.hid hO2); (have HL2 := Lib.hid hL2); (have HK2 := Lib.hid ((((Keep.refl w).alloc _).grown (HO.out.alloc _) hg1).put hL1 0 (.slice Ax q cx))); (have HB2 := Lib.hid (HB.out.belowB HLOW.out hb1)); (have HBB := Lib.hid hb1); (clear hL1 hL2 hO2 ho1 hg1 hv1 hb1))
    | ((with_reducible refine wpl_append (some 42) _ _ _ (.tmp 40) (.tmp 41) B _ (l ++ [n]) A n cap s ?hs ?hx HO2.out HB2.out HA.out ?hm ?hz ?_); (case hs => rfl); (case hx => rfl); (case hm => (rw [List.length_append]; simp; omega)); (case hz => exact Nat.le_trans hBw HBB.out.size); (intro v3 w3 ho3 hg3 hv3); (obtain ⟨Ay, cy, hvy, _, _, _, _⟩ := ho3.slice); (obtain ⟨q3, hq3⟩ : ∃ q, (l ++ [n] ++ s).length = q := ⟨_, rfl⟩); (rw [hq3] at hvy); (clear hq3); (subst hvy); (have hL3 := Lies.grown HL2.out hg3 (HO2.out.ne HL2.out (by decide))); (have hd4 := hL3.cell 0); (have hd5 := hL3.free 0); (have HO3 := Lib.hid ho3); (have HL3 := Lib.hid hL3); (have HG3 := Lib.hid hg3); (clear hL3 ho3 hg3 hv3)))
  go_ret
  refine ⟨rfl, ⟨hBp, _, HL3.out.put 0 _, ?_⟩, ?_, (HK2.out.grown HO2.out HG3.out).put HL3.out 0 _⟩
  · have e : l ++ Ent.txt s = l ++ [n] ++ s := by unfold Ent.txt; rw [HLEN.out, Ent.be_one n (by omega), List.append_assoc]
    rw [e]
    exact HO3.out.setOther (a := ⟨p, 0, none⟩) (HO3.out.ne HL3.out (by decide)) _
  · exact (HO2.out.grows HG3.out HBB.out (Nat.le_refl _) (Nat.le_trans hBw HBB.out.size)).setCell (p := ⟨p, 0, none⟩) hBp _

end Go.Proofs.YtpbclmnhkmcknaaGreat.Fe
namespace Go.Proofs.YtpbclmnhkmcknaaGreat
open Go.RowKit
open Fe (Lies Own Bys Reads NF Kx Kp Note)
set_option maxRecDepth 100000
set_option linter.unusedVariables false
set_option linter.unusedSimpArgs false
set_option maxHeartbeats 4000000 in
theorem encode_any (k : Wk) (A : Option Addr) (c : Nat) (w : World) (hB : Bys w A k.x.length k.x) (hA : A = none → c = 0) (hx : k.x.length ≤ maxLen) :
    Calls Tryz.prog 12 #[.agg #[.int .i64 k.t, .int .i64 k.n, .slice A k.x.length c]] w (EncPost w k) := by
  have CV := Lib.hid (fun W => isValid_any k A c W hx)
  have HB0 := Lib.hid hB
  have HA := Lib.hid hA
  cases hv : wkB k
  · rw [hv] at CV
    unfold EncPost
    rw [hv]
    clear hv hB hA
    go_enter Tryz.func12, Tryz.ntmps12
    go_wp2_with fail
    with_reducible refine (CV.out _).mono ?_
    rintro e w1 ⟨rfl, hb1⟩
    have BB := Lib.hid ((Fe.below1 w (.cells #[.int .i64 k.t, .int .i64 k.n, .slice A k.x.length c] 24)).trans (hb1.mono (by simp)))
    clear hb1
    go_wp2
    go_ret2
    exact ⟨BB.out, .inl ⟨by first | trivial | rfl, rfl⟩⟩
  · rw [hv] at CV
    obtain ⟨h1, h2, h3, h4, h5⟩ := (wkB_iff k).1 hv
    obtain ⟨t, n, x⟩ := k
    dsimp only at *
    obtain ⟨tn, rfl⟩ : ∃ tn : Nat, t = (tn : Int) := ⟨t.toNat, by omega⟩
    obtain ⟨nn, rfl⟩ : ∃ nn : Nat, n = (nn : Int) := ⟨n.toNat, by omega⟩
    have HE : Hid (encW ⟨(tn : Int), (nn : Int), x⟩ = [] ++ Fe.Ent.be 1 tn ++ Fe.Ent.be 4 nn ++ Fe.Ent.txt x) := Lib.hid (by unfold encW; simp)
    have e8 : IntKind.u8.wrap (tn : Int) = (tn : Int) := Fe.wrap_u8 tn (by omega)
    have e32 : IntKind.u32.wrap (nn : Int) = (nn : Int) := by rw [IntKind.wrap_u32]; omega
    have ht : tn < 256 := by omega
    have hn : nn < 4294967296 := by omega
    have h255 : x.length ≤ 255 := by omega
    have hxl : ([] ++ Fe.Ent.be 1 tn ++ Fe.Ent.be 4 nn).length ≤ 200000 ∧ ([] ++ Fe.Ent.be 1 tn).length ≤ 200000 ∧ ([] ++ Fe.Ent.be 1 tn ++ Fe.Ent.be 4 nn ++ Fe.Ent.txt x).length ≤ 200000 := by
      simp only [List.length_append, Fe.Ent.be_len, txt_len, List.length_nil]; omega
    have HXL := Lib.hid hxl
    unfold EncPost
    rw [hv]
    clear hv hB hA h1 h2 h3 h4 h5 hxl
    go_enter Tryz.func12, Tryz.ntmps12
    go_wp2_with fail
    with_reducible refine (CV.out _).mono ?_
    rintro e w1 ⟨rfl, hb1⟩
    have BB := Lib.hid ((Fe.below1 w (.cells #[.int .i64 (tn : Int), .int .i64 (nn : Int), .slice A x.length c] 24)).trans (hb1.mono (by simp)))
    have LB : Hid (Lies w1 w.heap.size 24 #[.int .i64 (tn : Int), .int .i64 (nn : Int), .slice A x.length c]) := Lib.hid ((Lies.made w 24 _).below hb1 (by simp))
    have HBx := Lib.hid (HB0.out.below BB.out)
    clear hb1
    go_wp2_with fail
    refine wp_region_noPanic ?_
    refine wp_region_held_drew (S := fun W => Lies W w.heap.size 24 #[.int .i64 (tn : Int), .int .i64 (nn : Int), .slice A x.length c]) (by kernel_rfl) (LB.out) (fun hH0 => ?_)
    refine Fe.any_take 1 8 ?vt2 rfl rfl (by kernel_rfl) (by kernel_rfl) (by kernel_rfl) (fun _ _ _ h => h) (by rfl) ?ht2 hH0 ?rt2
    case ht2 => ((intro W hSw); obtain ⟨o0, o1, o2⟩ := Fe.Lies.cells3 hSw; go_simp; (try with_reducible rfl))
    try simp only [Act.put, List.setIfInBounds_toArray, List.set_cons_zero, List.set_cons_succ]
    refine Fe.any_take 2 9 ?vt3 rfl rfl (by kernel_rfl) (by kernel_rfl) (by kernel_rfl) (fun _ _ _ h => h) (by rfl) ?ht3 hH0 ?rt3
    case ht3 => ((intro W hSw); obtain ⟨o0, o1, o2⟩ := Fe.Lies.cells3 hSw; go_simp; (try with_reducible rfl))
    try simp only [Act.put, List.setIfInBounds_toArray, List.set_cons_zero, List.set_cons_succ]
    refine Fe.any_take 3 10 ?vt4 rfl rfl (by kernel_rfl) (by kernel_rfl) (by kernel_rfl) (fun _ _ _ h => h) (by rfl) ?ht4 hH0 ?rt4
    case ht4 => ((intro W hSw); obtain ⟨o0, o1, o2⟩ := Fe.Lies.cells3 hSw; go_simp; (try with_reducible rfl))
    try simp only [Act.put, List.setIfInBounds_toArray, List.set_cons_zero, List.set_cons_succ]
    refine Fe.any_take 5 12 ?vt5 rfl rfl (by kernel_rfl) (by kernel_rfl) (by kernel_rfl) (fun _ _ _ h => h) (by rfl) ?ht5 hH0 ?rt5
    case ht5 => ((intro W hSw); obtain ⟨o0, o1, o2⟩ := Fe.Lies.cells3 hSw; go_simp; (try with_reducible rfl))
    try simp only [Act.put, List.setIfInBounds_toArray, List.set_cons_zero, List.set_cons_succ]
    refine Fe.any_take 6 13 ?vt6 rfl rfl (by kernel_rfl) (by kernel_rfl) (by kernel_rfl) (fun _ _ _ h => h) (by rfl) ?ht6 hH0 ?rt6
    case ht6 => ((intro W hSw); obtain ⟨o0, o1, o2⟩ := Fe.Lies.cells3 hSw; go_simp; (try with_reducible rfl))
    try simp only [Act.put, List.setIfInBounds_toArray, List.set_cons_zero, List.set_cons_succ]
    refine Fe.any_take 7 14 ?vt7 rfl rfl (by kernel_rfl) (by kernel_rfl) (by kernel_rfl) (fun _ _ _ h => h) (by rfl) ?ht7 hH0 ?rt7
    case ht7 => ((intro W hSw); obtain ⟨o0, o1, o2⟩ := Fe.Lies.cells3 hSw; go_simp; (try with_reducible rfl))
    try simp only [Act.put, List.setIfInBounds_toArray, List.set_cons_zero, List.set_cons_succ]
    refine Fe.any_take 9 16 ?vt8 rfl rfl (by kernel_rfl) (by kernel_rfl) (by kernel_rfl) (fun _ _ _ h => h) (by rfl) ?ht8 hH0 ?rt8
    case ht8 => ((intro W hSw); obtain ⟨o0, o1, o2⟩ := Fe.Lies.cells3 hSw; go_simp; (try with_reducible rfl))
    try simp only [Act.put, List.setIfInBounds_toArray, List.set_cons_zero, List.set_cons_succ]
    refine Fe.any_take 10 17 ?vt9 rfl rfl (by kernel_rfl) (by kernel_rfl) (by kernel_rfl) (fun _ _ _ h => h) (by rfl) ?ht9 hH0 ?rt9
    case ht9 => ((intro W hSw); obtain ⟨o0, o1, o2⟩ := Fe.Lies.cells3 hSw; go_simp; (try with_reducible rfl))
    try simp only [Act.put, List.setIfInBounds_toArray, List.set_cons_zero, List.set_cons_succ]
    refine wpAnyH_ready (rs := [0]) (by kernel_rfl) (by simp) ?_
    refine AllReadyH.cons rfl (fun K hK => ?_) AllReadyH.nil
    go_simp
    go_at_call 43
    with_reducible refine (Fe.newWriter_any _).mono ?_
    rintro e w2 ⟨rfl, hw, hb, hk⟩
    have WR_2 : Hid (Fe.Wr w2 w1.heap.size w1.heap.size []) := Lib.hid hw
    have LB_2 := Lib.hid (hk.lies (by decide) (by decide) LB.out)
    have BX_2 : Hid (Below w1.heap.size w1 w2) := Lib.hid (Below.trans (Below.drew (Below.refl _ _)) hb)
    clear hw hb hk
    refine hK.out _ _ (LB_2.out) (fun hH1 => ?_)
    clear hK K hH0
    try simp only [Act.put, List.setIfInBounds_toArray, List.set_cons_zero, List.set_cons_succ]
    refine wpAnyH_ready (rs := [4]) (by kernel_rfl) (by simp) ?_
    refine AllReadyH.cons rfl (fun K hK => ?_) AllReadyH.nil
    go_simp
    go_at_call 44
    with_reducible refine (Fe.wu8_any _ _ tn _ _ WR_2.out ht (by simp)).mono ?_
    rintro e w3 ⟨rfl, hw, hb, hk⟩
    have WR_3 := Lib.hid hw
    have LB_3 := Lib.hid (hk.lies (by decide) (by decide) LB_2.out)
    have BX_3 := Lib.hid (BX_2.out.trans hb)
    clear hw hb hk
    refine hK.out _ _ (LB_3.out) (fun hH2 => ?_)
    clear hK K hH1
    try simp only [Act.put, List.setIfInBounds_toArray, List.set_cons_zero, List.set_cons_succ]
    refine wpAnyH_ready (rs := [8]) (by kernel_rfl) (by simp) ?_
    refine AllReadyH.cons rfl (fun K hK => ?_) AllReadyH.nil
    go_simp
    go_at_call 45
    with_reducible refine (Fe.wu32_any _ _ nn _ _ WR_3.out hn HXL.out.2.1).mono ?_
    rintro e w4 ⟨rfl, hw, hb, hk⟩
    have WR_4 := Lib.hid hw
    have LB_4 := Lib.hid (hk.lies (by decide) (by decide) LB_3.out)
    have BX_4 := Lib.hid (BX_3.out.trans hb)
    clear hw hb hk
    refine hK.out _ _ (LB_4.out) (fun hH3 => ?_)
    clear hK K hH2
    try simp only [Act.put, List.setIfInBounds_toArray, List.set_cons_zero, List.set_cons_succ]
    refine wpAnyH_ready (rs := [11]) (by kernel_rfl) (by simp) ?_
    refine AllReadyH.cons rfl (fun K hK => ?_) AllReadyH.nil
    go_simp
    go_at_call 46
    have HBy := Lib.hid (HBx.out.belowB (HBx.out.low (Nat.le_refl _)) BX_4.out)
    with_reducible refine (Fe.wtext_any _ _ _ x A x.length c _ WR_4.out HBy.out (HBx.out.low (Nat.le_refl _)) HA.out h255 HXL.out.1).mono ?_
    rintro e w5 ⟨rfl, hw, hb, hk⟩
    have WR_5 := Lib.hid hw
    have LB_5 := Lib.hid (hk.lies (by decide) (by decide) LB_4.out)
    have BX_5 := Lib.hid (BX_4.out.trans hb)
    clear hw hb hk
    refine hK.out _ _ (LB_5.out) (fun hH4 => ?_)
    clear hK K hH3
    try simp only [Act.put, List.setIfInBounds_toArray, List.set_cons_zero, List.set_cons_succ]
    refine wpAnyH_ready (rs := [12]) (by kernel_rfl) (by simp) ?_
    refine AllReadyH.cons rfl (fun K hK => ?_) AllReadyH.nil
    go_simp
    go_at_call 47
    with_reducible refine (Fe.wdone_any _ _ _ _ WR_5.out HXL.out.2.2).mono ?_
    rintro e w6 ⟨v, rfl, ho, hb⟩
    have HO := Lib.hid ho
    have BX_6 := Lib.hid (BX_5.out.trans (hb.mono BX_5.out.size))
    have LB_6 := Lib.hid (LB_5.out.below hb LB_5.out.lt)
    clear ho hb
    refine hK.out _ _ (LB_6.out) (fun hH5 => ?_)
    clear hK K hH4
    try simp only [Act.put, List.setIfInBounds_toArray, List.set_cons_zero, List.set_cons_succ]
    refine Fe.any_take 13 20 ?vt10 rfl rfl (by kernel_rfl) (by kernel_rfl) (by kernel_rfl) (fun _ _ _ h => h) (by rfl) ?ht10 hH5 ?rt10
    case ht10 => ((intro W hSw); go_simp; (try with_reducible rfl))
    try simp only [Act.put, List.setIfInBounds_toArray, List.set_cons_zero, List.set_cons_succ]
    refine Fe.any_take 14 21 ?vt11 rfl rfl (by kernel_rfl) (by kernel_rfl) (by kernel_rfl) (fun _ _ _ h => h) (by rfl) ?ht11 hH5 ?rt11
    case ht11 => ((intro W hSw); go_simp; (try with_reducible rfl))
    try simp only [Act.put, List.setIfInBounds_toArray, List.set_cons_zero, List.set_cons_succ]
    refine Fe.any_take 15 2 ?vt12 rfl rfl (by kernel_rfl) (by kernel_rfl) (by kernel_rfl) (fun _ _ _ h => h) (by rfl) ?ht12 hH5 ?rt12
    case ht12 => ((intro W hSw); go_simp; (try with_reducible rfl))
    try simp only [Act.put, List.setIfInBounds_toArray, List.set_cons_zero, List.set_cons_succ]
    refine Fe.any_take 16 3 ?vt13 rfl rfl (by kernel_rfl) (by kernel_rfl) (by kernel_rfl) (fun _ _ _ h => h) (by rfl) ?ht13 hH5 ?rt13
    case ht13 => ((intro W hSw); go_simp; (try with_reducible rfl))
    try simp only [Act.put, List.setIfInBounds_toArray, List.set_cons_zero, List.set_cons_succ]
    clear hH5
    refine wpAnyH_done (by kernel_rfl) ?_ _
    refine NoPanic.normal ?_
    go_wp2
    go_ret2
    refine ⟨BB.out.trans (BX_6.out.mono BB.out.size), .inr ⟨by first | trivial | rfl, v, rfl, ?_⟩⟩
    rw [HE.out]
    exact HO.out.mono (Nat.le_trans BB.out.size BX_5.out.size)

end Go.Proofs.YtpbclmnhkmcknaaGreat
namespace Go.Proofs.YtpbclmnhkmcknaaGreat.Fe
open Go.RowKit
set_option maxRecDepth 100000
attribute [local go_sem ↓] Go.wp_at_zero Go.wp_at_succ
theorem Bys.grownOther2 {w w' : World} {a : Option Addr} {n p : Nat} {l : List Nat} (h : Bys w a n l) (ha : ∀ ad, a = some ad → ad.block ≠ p ∧ ad.block < w.heap.size) (hg : w.grownBy w' (some p)) : Bys w' a n l := by
  obtain ⟨h1, h2, h3⟩ := h
  refine ⟨h1, h2, fun h0 => ?_⟩
  obtain ⟨b, off, e, hc⟩ := h3 h0
  refine ⟨b, off, e, fun i hi => ?_⟩
  have hb := ha _ e
  rw [← hc i hi]
  unfold World.cell?
  rw [hg.block b hb.2 (fun e => hb.1 (Option.some.inj e))]
theorem Tx.grown {w w' : World} {B p : Nat} {v : Value} {l : List Nat} (h : Tx w B v l) (hp : p < B) (hg : w.grownBy w' (some p)) : Tx w' B v l := by
  obtain ⟨A, c, h1, h2, h3, h4, h5, h6⟩ := h
  exact ⟨A, c, h1, h2.grownOther2 (fun ad e => ⟨by have := (h6 ad e).1; omega, (h6 ad e).2⟩) hg, h3, h4, h5, fun ad e => ⟨(h6 ad e).1, Nat.lt_of_lt_of_le (h6 ad e).2 hg.size⟩⟩

end Go.Proofs.YtpbclmnhkmcknaaGreat.Fe

namespace Go.Proofs.YtpbclmnhkmcknaaGreat
open Go.RowKit
open Fe (Lies Own Bys Reads NF Kx Kp Note)
set_option maxRecDepth 100000
set_option linter.unusedVariables false
set_option linter.unusedSimpArgs false

/-- What the document's Decode gives. -/
def RDecPost (w : World) (l : List Nat) (e : Ending) (w' : World) : Prop :=
  Below w.heap.size w w' ∧ ((decS l = none ∧ e = .returned (.tuple #[.agg #[.int .i64 0, .int .i64 0, .slice none 0 0], .int .i64 120])) ∨
    ∃ (k : Wk) (v : Value), decS l = some k ∧ e = .returned (.tuple #[.agg #[.int .i64 k.t, .int .i64 k.n, v], .int .i64 0]) ∧ Fe.Tx w' w.heap.size v k.x)
theorem Tx_put3 {w : World} {B g : Nat} {v : Value} {l : List Nat} (h : Fe.Tx w B v l) (hg : g < B) (a0 a1 a2 : Value) : Fe.Tx (put3 w g a0 a1 a2) B v l := ((h.put hg a0).put hg a1).put hg a2
set_option maxHeartbeats 4000000 in
theorem rdecode_any (l : List Nat) (A : Option Addr) (c : Nat) (w : World) (hI : InBytes w A l.length c l) (hl : l.length ≤ 200000) : Calls Tryz.prog 15 #[.slice A l.length c] w (RDecPost w l) := by
  have hsm := hI.1.2.1
  obtain ⟨q1, q2, q3, q4, q5⟩ := rdW_small hsm
  have HD := Lib.hid (dec_ref hsm)
  have HSM := Lib.hid hsm
  obtain ⟨a1, hr1⟩ : ∃ a, Fe.Ent.rnum l 1 (0, false) = a := ⟨_, rfl⟩
  obtain ⟨a2, hr2⟩ : ∃ a, Fe.Ent.rnum l 4 a1.2 = a := ⟨_, rfl⟩
  obtain ⟨a3, hr3⟩ : ∃ a, Fe.Ent.rtxt l a2.2 = a := ⟨_, rfl⟩
  have e1 : r1 l = a1 := hr1
  have e2 : r2 l = a2 := by unfold r2; rw [e1]; exact hr2
  have e3 : r3 l = a3 := by unfold r3; rw [e2]; exact hr3
  have eW : rdW l = ⟨(a1.1 : Nat), (a2.1 : Nat), a3.1⟩ := by unfold rdW; rw [e1, e2, e3]
  rw [e1] at q2
  rw [e2] at q3
  rw [eW] at q4 q5 HD
  have HX := Lib.hid q4
  have HR1 := Lib.hid hr1
  have HR2 := Lib.hid hr2
  have HR3 := Lib.hid hr3
  clear e1 e2 e3 eW q1 q4 hsm hr1 hr2 hr3
  obtain ⟨n1, s1⟩ := a1
  obtain ⟨n2, s2⟩ := a2
  obtain ⟨x, s3⟩ := a3
  dsimp only at *
  obtain ⟨w1, HW, hR, hL, hb⟩ : ∃ W, W = (w.alloc (.cells #[.int .i64 0, .int .i64 0, .slice none 0 0] 24)).alloc (.cells #[.slice A l.length c, .int .i64 0, .bool false] 110) ∧ Fe.Rf W (w.heap.size + 1) (0, false) l ∧ Lies W w.heap.size 24 #[.int .i64 0, .int .i64 0, .slice none 0 0] ∧ Below w.heap.size w W :=
    ⟨_, rfl, ⟨A, c, Lies.made2 w _ 110 _, hI.1.below (Fe.below2 w _ _), fun h0 ad e => by
      obtain ⟨b, off, e', hc⟩ := hI.1.2.2 h0
      have hbl := block_lt_of_cell (hc 0 h0)
      rw [e] at e'
      injection e' with e'
      rw [e']
      exact Nat.lt_succ_of_lt hbl, Nat.zero_le _, hI.2.1, hI.2.2.1⟩, (Lies.made w 24 _).alloc _, Fe.below2 w _ _⟩
  have HI := Lib.hid hI
  have RD1 := Lib.hid hR
  have LR1 := Lib.hid hL
  have BB1 := Lib.hid hb
  clear hR hL hb hI
  have C1 := Lib.hid (show Calls Tryz.prog 54 #[.pointer (some ⟨w.heap.size + 1, 0, none⟩), .int .i64 1] w1 _ from Fe.rfnum_any (w.heap.size + 1) 1 (0, false) l w1 RD1.out (by omega) (by omega) hl)
  go_enter Tryz.func15, Tryz.ntmps15
  go_wp2_with fail
  rw [← HW]
  clear HW
  with_reducible refine C1.out.mono ?_
  rintro e w2 ⟨he, hR, hg⟩
  rw [HR1.out] at he hR
  subst he
  dsimp only at *
  have RD2 := Lib.hid hR
  have BB2 := Lib.hid (BB1.out.grown hg BB1.out.size (fun k hk => by injection hk with hk; omega))
  have LR2 := Lib.hid (LR1.out.grown hg (fun e => by injection e with e; omega))
  clear hR hg C1 RD1 BB1 LR1
  have i1 : wrap64 (n1 : Int) = (n1 : Int) := by unfold wrap64; omega
  have i2 : wrap64 (n2 : Int) = (n2 : Int) := by unfold wrap64; omega
  obtain ⟨W2, HW, hR, hL, hb, hLW⟩ : ∃ W, W = w2.alloc (.cells #[.int .i64 (n1 : Int), .int .i64 0, .slice none 0 0] 24) ∧ Fe.Rf W (w.heap.size + 1) s1 l ∧ Lies W w.heap.size 24 #[.int .i64 0, .int .i64 0, .slice none 0 0] ∧ Below w.heap.size w W ∧ Lies W w2.heap.size 24 #[.int .i64 (n1 : Int), .int .i64 0, .slice none 0 0] :=
    ⟨_, rfl, RD2.out.below (Fe.below1 _ _), LR2.out.alloc _, BB2.out.alloc BB2.out.size _, Lies.made w2 24 _⟩
  have C2 := Lib.hid (show Calls Tryz.prog 54 #[.pointer (some ⟨w.heap.size + 1, 0, none⟩), .int .i64 4] W2 _ from Fe.rfnum_any (w.heap.size + 1) 4 s1 l W2 hR (by omega) (by omega) hl)
  obtain ⟨g, hgg⟩ : ∃ g, w2.heap.size = g := ⟨_, rfl⟩
  have HGP : Hid (w.heap.size + 1 < g) := Lib.hid (by rw [← hgg]; exact RD2.out.lt)
  have BB3 := Lib.hid hb
  have LR3 := Lib.hid hL
  have LW3 := Lib.hid hLW
  have HG := Lib.hid hgg
  clear hR hL hb hLW RD2 BB2 LR2 hgg
  go_wp2_with fail
  rw [← HW]
  clear HW
  with_reducible refine C2.out.mono ?_
  rintro e w3 ⟨he, hR, hg⟩
  rw [HR2.out] at he hR
  subst he
  dsimp only at *
  rw [HG.out] at LW3 ⊢
  have RD4 := Lib.hid hR
  have BB4 := Lib.hid (BB3.out.grown hg BB3.out.size (fun k hk => by injection hk with hk; omega))
  have LR4 := Lib.hid (LR3.out.grown hg (fun e => by injection e with e; omega))
  have LW4 := Lib.hid (LW3.out.grown hg (fun e => by injection e with e; have := HGP.out; omega))
  clear hR hg C2 BB3 LR3 LW3 HG
  obtain ⟨f0, f1, f2⟩ := LW4.out.free3
  obtain ⟨k0, k1, k2⟩ := LW4.out.cells3
  obtain ⟨W4, HW, hR, hL, hb, hLW⟩ : ∃ W, W = w3.setCell ⟨g, 1, none⟩ (.int .i64 (n2 : Int)) ∧ Fe.Rf W (w.heap.size + 1) s2 l ∧ Lies W w.heap.size 24 #[.int .i64 0, .int .i64 0, .slice none 0 0] ∧ Below w.heap.size w W ∧ Lies W g 24 #[.int .i64 (n1 : Int), .int .i64 (n2 : Int), .slice none 0 0] :=
    ⟨_, rfl, RD4.out.setq HGP.out 1 _, LR4.out.other (a := ⟨g, 1, none⟩) (by have := HGP.out; show w.heap.size ≠ g; omega) _, BB4.out.setCell (p := ⟨g, 1, none⟩) (by have := HGP.out; show w.heap.size ≤ g; omega) _, LW4.out.put 1 _⟩
  have C3 := Lib.hid (Fe.rftext_any (w.heap.size + 1) s2 l W4 hR hl)
  have BB5 := Lib.hid hb
  have LR5 := Lib.hid hL
  have LW5 := Lib.hid hLW
  clear hR hL hb hLW RD4 BB4 LR4
  go_wp2_with fail
  rw [← HW]
  clear HW f0 f1 f2 k0 k1 k2 LW4
  with_reducible refine C3.out.mono ?_
  rintro e w5 ⟨v, he, hT, hR, hg⟩
  rw [HR3.out] at hT
  subst he
  dsimp only at *
  have HGS : Hid (g < W4.heap.size) := Lib.hid LW5.out.lt
  have BB6 := Lib.hid (BB5.out.grown hg BB5.out.size (fun k hk => by injection hk with hk; omega))
  have LR6 := Lib.hid (LR5.out.grown hg (fun e => by injection e with e; omega))
  have LW6 := Lib.hid (LW5.out.grown hg (fun e => by injection e with e; have := HGP.out; omega))
  have TX6 := Lib.hid hT
  clear hT hR hg C3 BB5 LR5 LW5
  obtain ⟨vA, vc, rfl, hvB, hv1, hv2, hv3, hv4⟩ := TX6.out
  obtain ⟨f0, f1, f2⟩ := LW6.out.free3
  obtain ⟨j0, j1, j2⟩ := LW6.out.cells3
  obtain ⟨W6, HW, hL, hb, hLW, hT⟩ : ∃ W, W = w5.setCell ⟨g, 2, none⟩ (.slice vA x.length vc) ∧ Lies W w.heap.size 24 #[.int .i64 0, .int .i64 0, .slice none 0 0] ∧ Below w.heap.size w W ∧ Lies W g 24 #[.int .i64 (n1 : Int), .int .i64 (n2 : Int), .slice vA x.length vc] ∧ Fe.Tx W W4.heap.size (.slice vA x.length vc) x :=
    ⟨_, rfl, LR6.out.other (a := ⟨g, 2, none⟩) (by have := HGP.out; show w.heap.size ≠ g; omega) _, BB6.out.setCell (p := ⟨g, 2, none⟩) (by have := HGP.out; show w.heap.size ≤ g; omega) _, LW6.out.put 2 _, TX6.out.put HGS.out _⟩
  have BB7 := Lib.hid hb
  have LR7 := Lib.hid hL
  have LW7 := Lib.hid hLW
  have TX7 := Lib.hid (hT.mono (Nat.le_of_lt (Nat.lt_trans (Nat.lt_of_succ_lt HGP.out) HGS.out)))
  have TX8 := Lib.hid (hT.mono (Nat.succ_le_of_lt (Nat.lt_trans (Nat.lt_of_succ_lt HGP.out) HGS.out)))
  have hvB2 : Bys W6 vA x.length x := by obtain ⟨A', c', e', h', -⟩ := hT; injection e' with e1 e2 e3; subst e1; exact h'
  have CE := Lib.hid (rencode_any ⟨(n1 : Int), (n2 : Int), x⟩ vA vc W6 hvB2 hv3 (Nat.le_trans hv1 hv2))
  have HI7 := Lib.hid (HI.out.below BB7.out)
  clear hL hb hLW hT hvB hv1 hv2 hv3 hv4 hvB2 BB6 LR6 TX6 LW6
  obtain ⟨k0, k1, k2⟩ := LW7.out.cells3
  rw [HW] at k0 k1 k2
  go_wp2_with fail
  rw [← HW]
  clear f0 f1 f2 j0 j1 j2
  rw [← HW] at k0 k1 k2
  clear HW
  with_reducible refine CE.out.mono ?_
  rintro e w8 ⟨hb, ⟨hw, rfl⟩ | ⟨hw, v, rfl, hO⟩⟩
  · have LR8 := Lib.hid (LR7.out.below hb LR7.out.lt)
    have BB8 := Lib.hid (BB7.out.trans (hb.mono BB7.out.size))
    have HDN : Hid (decS l = none) := Lib.hid (by rw [HD.out, if_neg (fun h => by rw [hw] at h; cases h.1)])
    clear hb CE hw k0 k1 k2
    obtain ⟨c0, c1, c2⟩ := LR8.out.cells3
    obtain ⟨f0, f1, f2⟩ := LR8.out.free3
    go_wp2
    exact ret_work w.heap.size 24 _ rfl rfl (Lies_put3 LR8.out _ _ _) rfl rfl ⟨below_put3 BB8.out (Nat.le_refl _) _ _ _, .inl ⟨HDN.out, rfl⟩⟩
  · have LR8 := Lib.hid (LR7.out.below hb LR7.out.lt)
    have LW8 := Lib.hid (LW7.out.below hb LW7.out.lt)
    have BB8 := Lib.hid (BB7.out.trans (hb.mono BB7.out.size))
    have TX9 := Lib.hid (TX8.out.below hb)
    have HI8 := Lib.hid (HI7.out.below hb)
    obtain ⟨rA, rc, rfl, hrB, -⟩ := hO.slice
    have u1 := Fe.run_str hrB rc
    have u2 := Fe.run_str HI8.out.1 c
    have hes : ∀ c ∈ encW ⟨(n1 : Int), (n2 : Int), x⟩, c < 256 := encW_small HX.out
    have u3 := Fe.str_eq (encW ⟨(n1 : Int), (n2 : Int), x⟩) l hes HSM.out
    by_cases hq : encW ⟨(n1 : Int), (n2 : Int), x⟩ = l
    · have HDS : Hid (decS l = some ⟨(n1 : Int), (n2 : Int), x⟩) := Lib.hid (by rw [HD.out, if_pos ⟨hw, hq⟩])
      have u4 : ((Fe.str (encW ⟨(n1 : Int), (n2 : Int), x⟩)).toList == (Fe.str l).toList) = true := by rw [u3, hq]; exact Fe.sameB_self l
      clear hb CE hw k0 k1 k2 hO hrB hes u3 hq
      obtain ⟨c0, c1, c2⟩ := LR8.out.cells3
      obtain ⟨f0, f1, f2⟩ := LR8.out.free3
      obtain ⟨k0, k1, k2⟩ := LW8.out.cells3
      go_wp2
      exact ret_work w.heap.size 24 _ rfl rfl (Lies_put3 LR8.out _ _ _) rfl rfl ⟨below_put3 BB8.out (Nat.le_refl _) _ _ _, .inr ⟨_, _, HDS.out, rfl, (Tx_put3 TX9.out (Nat.lt_succ_self _) _ _ _).mono (Nat.le_succ _)⟩⟩
    · have HDN : Hid (decS l = none) := Lib.hid (by rw [HD.out, if_neg (fun h => hq h.2)])
      have u4 : ((Fe.str (encW ⟨(n1 : Int), (n2 : Int), x⟩)).toList == (Fe.str l).toList) = false := by
        rw [u3]
        exact Fe.sameB_ne hq
      clear hb CE hw k0 k1 k2 hO hrB hes u3 hq
      obtain ⟨c0, c1, c2⟩ := LR8.out.cells3
      obtain ⟨f0, f1, f2⟩ := LR8.out.free3
      go_wp2
      exact ret_work w.heap.size 24 _ rfl rfl (Lies_put3 LR8.out _ _ _) rfl rfl ⟨below_put3 BB8.out (Nat.le_refl _) _ _ _, .inl ⟨HDN.out, rfl⟩⟩

end Go.Proofs.YtpbclmnhkmcknaaGreat

namespace Go.Proofs.YtpbclmnhkmcknaaGreat
open Go.RowKit
open Fe (Lies Own Bys Reads NF Kx Kp Note)
set_option maxRecDepth 100000
set_option linter.unusedVariables false
set_option linter.unusedSimpArgs false

/-- What a work is written as: bytes, and the error. -/
def encR (k : Wk) : List Nat × Int := if wkB k = true then (encW k, 0) else ([], 120)
/-- What bytes are read as: a work, and the error. -/
def decR (l : List Nat) : Wk × Int := match decS l with | none => (⟨0, 0, []⟩, 120) | some k => (k, 0)
theorem own_nil (w : World) (B : Nat) : Own w B (.slice none 0 0) [] := ⟨⟨by simp [Fe.vals], .inl ⟨rfl, rfl⟩⟩, fun c hc => by cases hc⟩
theorem enc_one {w : World} {k : Wk} {e : Ending} {w' : World} (h : EncPost w k e w') : Below w.heap.size w w' ∧ ∃ A c, e = .returned (.tuple #[.slice A (encR k).1.length c, .int .i64 (encR k).2]) ∧ Own w' w.heap.size (.slice A (encR k).1.length c) (encR k).1 := by
  obtain ⟨hb, ⟨hw, rfl⟩ | ⟨hw, v, rfl, hO⟩⟩ := h
  · have e : encR k = ([], 120) := by unfold encR; rw [hw]; rfl
    rw [e]
    exact ⟨hb, none, 0, rfl, own_nil _ _⟩
  · have e : encR k = (encW k, 0) := by unfold encR; rw [hw]; rfl
    rw [e]
    obtain ⟨A, c, rfl, -⟩ := hO.slice
    exact ⟨hb, A, c, rfl, hO⟩
theorem dec_one {w : World} {l : List Nat} {e : Ending} {w' : World} (h : DecPost w l e w') : Below w.heap.size w w' ∧ ∃ A c, e = .returned (.tuple #[.agg #[.int .i64 (decR l).1.t, .int .i64 (decR l).1.n, .slice A (decR l).1.x.length c], .int .i64 (decR l).2]) ∧ Own w' w.heap.size (.slice A (decR l).1.x.length c) (decR l).1.x := by
  obtain ⟨hb, ⟨hd, rfl⟩ | ⟨k, s, hd, hn, rfl, hO⟩⟩ := h
  · have e : decR l = (⟨0, 0, []⟩, 120) := by unfold decR; rw [hd]
    rw [e]
    exact ⟨hb, none, 0, rfl, own_nil _ _⟩
  · have e : decR l = (k, 0) := by unfold decR; rw [hd]
    rw [e]
    obtain ⟨A, n, c⟩ := s
    dsimp only at hn
    subst hn
    exact ⟨hb, A, c, rfl, hO⟩
theorem rdec_one {w : World} {l : List Nat} {e : Ending} {w' : World} (h : RDecPost w l e w') : Below w.heap.size w w' ∧ ∃ A c, e = .returned (.tuple #[.agg #[.int .i64 (decR l).1.t, .int .i64 (decR l).1.n, .slice A (decR l).1.x.length c], .int .i64 (decR l).2]) ∧ Fe.Tx w' w.heap.size (.slice A (decR l).1.x.length c) (decR l).1.x := by
  obtain ⟨hb, ⟨hd, rfl⟩ | ⟨k, v, hd, rfl, hT⟩⟩ := h
  · have e : decR l = (⟨0, 0, []⟩, 120) := by unfold decR; rw [hd]
    rw [e]
    exact ⟨hb, none, 0, rfl, Fe.Tx.nil _ _⟩
  · have e : decR l = (k, 0) := by unfold decR; rw [hd]
    rw [e]
    have hT' := hT
    obtain ⟨A, c, rfl, -⟩ := hT'
    exact ⟨hb, A, c, rfl, hT⟩
theorem own_apart {w w' : World} {B g : Nat} {v : Value} {l : List Nat} (h : Own w B v l) (hg : w.grownBy w' (some g)) (hB : g < B) : Own w' B v l :=
  h.grownOther hg (fun k hk e => by have := Fe.Own.block h k hk; injection e with e; omega)
theorem lies_apart {w w' : World} {B p g n c : Nat} {t : TypeId} {cs : Array Value} {l : List Nat} (h : Lies w p t cs) (hO : Own w B (.slice (some ⟨g, 0, none⟩) n c) l) (ht : t ≠ 5) (hg : w.grownBy w' (some g)) : Lies w' p t cs :=
  h.grown hg (hO.ne h ht)
theorem Tx.apart {w w' : World} {B g : Nat} {v : Value} {l : List Nat} (h : Fe.Tx w B v l) (hg : w.grownBy w' (some g)) (hB : g < B) : Fe.Tx w' B v l := h.grown hB hg
theorem Tx_bys {w : World} {B n c : Nat} {A : Option Addr} {l : List Nat} (h : Fe.Tx w B (.slice A n c) l) : Bys w A n l := by
  obtain ⟨A', c', e, h1, -⟩ := h
  injection e with e1 e2 e3
  subst e1 e2
  exact h1
set_option maxHeartbeats 8000000 in
theorem crewWorks_walk (k : Wk) (A : Option Addr) (c : Nat) (B : Option Addr) (d : Nat) (l : List Nat) (w : World) (hK : InBytes w A k.x.length c k.x) (hB : InBytes w B l.length d l) :
    Calls Tryz.prog 3 #[.agg #[.int .i64 k.t, .int .i64 k.n, .slice A k.x.length c], .slice B l.length d] w fun e w' => e = .returned (.bool true) ∧ Below w.heap.size w w' := by
  have HK := Lib.hid hK
  have HB := Lib.hid hB
  have LK_0 := Lib.hid (Lies.made w 24 #[.int .i64 k.t, .int .i64 k.n, .slice A k.x.length c])
  have BB_0 := Lib.hid (Fe.below1 w (.cells #[.int .i64 k.t, .int .i64 k.n, .slice A k.x.length c] 24))
  obtain ⟨c0, c1, c2⟩ := LK_0.out.cells3
  have hm1 : (k.x.length : Int) ≤ 9223372036854775807 := by have h1 := hK.2.1; have h2 := hK.2.2.1; unfold maxLen at h2; omega
  have hm2 : (l.length : Int) ≤ 9223372036854775807 := by have h1 := hB.2.1; have h2 := hB.2.2.1; unfold maxLen at h2; omega
  clear hK hB
  by_cases h1 : 1000 < k.x.length
  · have f1 : decide ((1000 : Int) < (k.x.length : Int)) = true := by simp; omega
    have f1b : decide (1000 < k.x.length) = true := by simp; omega
    clear h1
    go_enter Tryz.func3, Tryz.ntmps3
    go_wp2_with fail
    with_reducible refine (known_any _).mono ?_
    rintro e w90 ⟨rfl, hb⟩
    have HZ := Lib.hid (BB_0.out.trans (hb.mono BB_0.out.size))
    clear hb
    go_wp2
    go_ret
    exact ⟨rfl, HZ.out⟩
  · by_cases h2 : 1000 < l.length
    · have f1 : decide ((1000 : Int) < (k.x.length : Int)) = false := by simp; omega
      have f1b : decide (1000 < k.x.length) = false := by simp; omega
      have f2 : decide ((1000 : Int) < (l.length : Int)) = true := by simp; omega
      have f2b : decide (1000 < l.length) = true := by simp; omega
      clear h1 h2
      go_enter Tryz.func3, Tryz.ntmps3
      go_wp2_with fail
      with_reducible refine (known_any _).mono ?_
      rintro e w90 ⟨rfl, hb⟩
      have HZ := Lib.hid (BB_0.out.trans (hb.mono BB_0.out.size))
      clear hb
      go_wp2
      go_ret
      exact ⟨rfl, HZ.out⟩
    · have f1 : decide ((1000 : Int) < (k.x.length : Int)) = false := by simp; omega
      have f1b : decide (1000 < k.x.length) = false := by simp; omega
      have f2 : decide ((1000 : Int) < (l.length : Int)) = false := by simp; omega
      have f2b : decide (1000 < l.length) = false := by simp; omega
      have HL1 : Hid (k.x.length ≤ 1000) := Lib.hid (by omega)
      have HL2 : Hid (l.length ≤ 1000) := Lib.hid (by omega)
      clear h1 h2
      go_enter Tryz.func3, Tryz.ntmps3
      go_wp2_with fail
      obtain ⟨w1, HW, hl, hb1⟩ : ∃ W, W = w.alloc (.cells #[.int .i64 k.t, .int .i64 k.n, .slice A k.x.length c] 24) ∧ Lies W w.heap.size 24 #[.int .i64 k.t, .int .i64 k.n, .slice A k.x.length c] ∧ Below w.heap.size w W := ⟨_, rfl, LK_0.out, BB_0.out⟩
      rw [← HW]
      have LK_1 := Lib.hid hl
      have BB_1 := Lib.hid hb1
      clear HW hl hb1 LK_0 BB_0 c0 c1 c2 f1 f1b f2 f2b
      have q1 : Bys w1 B l.length l := (HB.out.below BB_1.out).1
      have q2 : B = none → d = 0 := HB.out.2.2.2
      have q3 : A = none → c = 0 := HK.out.2.2.2
      with_reducible refine (Fe.lent_own B l.length d l w1 q1 q2 (by have := HL2.out; omega)).mono ?_
      rintro e w2 ⟨gx, cx, rfl, hx1, hx2, hxg, hxO, hb⟩
      have HX1 := Lib.hid hx1
      have HXG := Lib.hid (Nat.le_trans BB_1.out.size hxg)
      have XO_2 := Lib.hid hxO
      have LK_2 := Lib.hid (LK_1.out.below hb LK_1.out.lt)
      have BB_2 := Lib.hid (BB_1.out.trans (hb.mono BB_1.out.size))
      have HXL : Hid (gx < w2.heap.size) := Lib.hid (Fe.Own.lt hxO gx rfl)
      clear hx1 hx2 hxg hxO hb LK_1 BB_1
      obtain ⟨c0, c1, c2⟩ := LK_2.out.cells3
      obtain ⟨lE, hlE⟩ : ∃ x, (encR k).1 = x := ⟨_, rfl⟩
      obtain ⟨zE, hzE⟩ : ∃ x, (encR k).2 = x := ⟨_, rfl⟩
      clear q1
      have q1 : Bys w2 A k.x.length k.x := (HK.out.below BB_2.out).1
      go_wp2_with fail
      clear c0 c1 c2
      with_reducible refine (encode_any k A c w2 q1 q3 (by have := HL1.out; unfold maxLen; omega)).mono ?_
      rintro e w3 he
      obtain ⟨hb, A3, c3, rfl, hO⟩ := enc_one he
      rw [hlE] at hO ⊢
      rw [hzE]
      have HS3 : Hid (w2.heap.size ≤ w3.heap.size) := Lib.hid hb.size
      have LK_3 := Lib.hid (LK_2.out.below hb LK_2.out.lt)
      have XO_3 := Lib.hid (XO_2.out.belowOwn hb)
      have BB_3 := Lib.hid (BB_2.out.trans ((hb).mono BB_2.out.size))
      have O3_3 := Lib.hid hO
      clear he hO
      clear hb LK_2 XO_2 BB_2
      obtain ⟨c0, c1, c2⟩ := LK_3.out.cells3
      clear q1
      have q1 : Bys w3 A k.x.length k.x := (HK.out.below BB_3.out).1
      go_wp2_with fail
      clear c0 c1 c2
      with_reducible refine (rencode_any k A c w3 q1 q3 (by have := HL1.out; unfold maxLen; omega)).mono ?_
      rintro e w4 he
      obtain ⟨hb, A4, c4, rfl, hO⟩ := enc_one he
      rw [hlE] at hO ⊢
      rw [hzE]
      have HS4 : Hid (w3.heap.size ≤ w4.heap.size) := Lib.hid hb.size
      have LK_4 := Lib.hid (LK_3.out.below hb LK_3.out.lt)
      have XO_4 := Lib.hid (XO_3.out.belowOwn hb)
      have BB_4 := Lib.hid (BB_3.out.trans ((hb).mono BB_3.out.size))
      have O3_4 := Lib.hid (O3_3.out.belowOwn hb)
      have O4_4 := Lib.hid hO
      have HZ3 : Hid (w2.heap.size ≤ w3.heap.size) := Lib.hid HS3.out
      clear he hO
      clear hb LK_3 XO_3 BB_3 O3_3
      obtain ⟨kd, hkd⟩ : ∃ x, (decR l).1 = x := ⟨_, rfl⟩
      obtain ⟨zD, hzD⟩ : ∃ x, (decR l).2 = x := ⟨_, rfl⟩
      have hlb : Bys w4 (some ⟨gx, 0, none⟩) l.length l := XO_4.out.bys.1.part rfl
      go_wp2_with fail
      with_reducible refine (decode_any l (some ⟨gx, 0, none⟩) l.length cx w4 hlb (by have := HL2.out; omega)).mono ?_
      rintro e w5 he
      obtain ⟨hb, A5, c5, rfl, hO⟩ := dec_one he
      rw [hkd] at hO ⊢
      rw [hzD]
      have HS5 : Hid (w4.heap.size ≤ w5.heap.size) := Lib.hid hb.size
      have LK_5 := Lib.hid (LK_4.out.below hb LK_4.out.lt)
      have XO_5 := Lib.hid (XO_4.out.belowOwn hb)
      have BB_5 := Lib.hid (BB_4.out.trans ((hb).mono BB_4.out.size))
      have O3_5 := Lib.hid (O3_4.out.belowOwn hb)
      have O4_5 := Lib.hid (O4_4.out.belowOwn hb)
      have O5_5 := Lib.hid hO
      have HZ4 : Hid (w2.heap.size ≤ w4.heap.size) := Lib.hid (Nat.le_trans HS3.out HS4.out)
      clear he hO hlb
      clear hb LK_4 XO_4 BB_4 O3_4 O4_4
      obtain ⟨w6, HW, hl, hb⟩ : ∃ W, W = w5.alloc (.cells #[.int .i64 kd.t, .int .i64 kd.n, .slice A5 kd.x.length c5] 24) ∧ Lies W w5.heap.size 24 #[.int .i64 kd.t, .int .i64 kd.n, .slice A5 kd.x.length c5] ∧ Below w5.heap.size w5 W := ⟨_, rfl, Lies.made w5 24 _, Fe.below1 _ _⟩
      have HS6 : Hid (w5.heap.size ≤ w6.heap.size) := Lib.hid hb.size
      have LK_6 := Lib.hid (LK_5.out.below hb LK_5.out.lt)
      have XO_6 := Lib.hid (XO_5.out.belowOwn hb)
      have BB_6 := Lib.hid (BB_5.out.trans ((hb).mono BB_5.out.size))
      have O3_6 := Lib.hid (O3_5.out.belowOwn hb)
      have O4_6 := Lib.hid (O4_5.out.belowOwn hb)
      have O5_6 := Lib.hid (O5_5.out.belowOwn hb)
      have LV_6 := Lib.hid hl
      clear hl
      clear hb LK_5 XO_5 BB_5 O3_5 O4_5 O5_5
      go_wp2_with fail
      rw [← HW]
      clear HW
      with_reducible refine (rdecode_any l B d w6 (HB.out.below BB_6.out) (by have := HL2.out; omega)).mono ?_
      rintro e w7 he
      obtain ⟨hb, A7, c7, rfl, hO⟩ := rdec_one he
      rw [hkd] at hO ⊢
      rw [hzD]
      have LK_7 := Lib.hid (LK_6.out.below hb LK_6.out.lt)
      have XO_7 := Lib.hid (XO_6.out.belowOwn hb)
      have BB_7 := Lib.hid (BB_6.out.trans ((hb).mono BB_6.out.size))
      have O3_7 := Lib.hid (O3_6.out.belowOwn hb)
      have O4_7 := Lib.hid (O4_6.out.belowOwn hb)
      have O5_7 := Lib.hid (O5_6.out.belowOwn hb)
      have LV_7 := Lib.hid (LV_6.out.below hb LV_6.out.lt)
      have T7_7 := Lib.hid hO
      have HZ6 : Hid (w2.heap.size ≤ w6.heap.size) := Lib.hid (Nat.le_trans HZ4.out (Nat.le_trans HS5.out HS6.out))
      clear he hO
      clear hb LK_6 XO_6 BB_6 O3_6 O4_6 O5_6 LV_6
      obtain ⟨w8, HW, hl, hb⟩ : ∃ W, W = w7.alloc (.cells #[.int .i64 kd.t, .int .i64 kd.n, .slice A7 kd.x.length c7] 24) ∧ Lies W w7.heap.size 24 #[.int .i64 kd.t, .int .i64 kd.n, .slice A7 kd.x.length c7] ∧ Below w7.heap.size w7 W := ⟨_, rfl, Lies.made w7 24 _, Fe.below1 _ _⟩
      have LK_8 := Lib.hid (LK_7.out.below hb LK_7.out.lt)
      have XO_8 := Lib.hid (XO_7.out.belowOwn hb)
      have BB_8 := Lib.hid (BB_7.out.trans ((hb).mono BB_7.out.size))
      have O3_8 := Lib.hid (O3_7.out.belowOwn hb)
      have O4_8 := Lib.hid (O4_7.out.belowOwn hb)
      have O5_8 := Lib.hid (O5_7.out.belowOwn hb)
      have LV_8 := Lib.hid (LV_7.out.below hb LV_7.out.lt)
      have T7_8 := Lib.hid (T7_7.out.below hb)
      have LU_8 := Lib.hid hl
      clear hl
      clear hb LK_7 XO_7 BB_7 O3_7 O4_7 O5_7 LV_7 T7_7
      clear q1
      have q1 : Bys w8 B l.length l := (HB.out.below BB_8.out).1
      go_wp2_with fail
      rw [← HW]
      clear HW
      with_reducible refine (Fe.whole_any gx l.length cx B d l w8 XO_8.out.bys.1 q1 HX1.out (by have := HL2.out; omega)).mono ?_
      rintro e w9 ⟨rfl, hb⟩
      have LK_9 := Lib.hid (LK_8.out.below hb LK_8.out.lt)
      have XO_9 := Lib.hid (XO_8.out.belowOwn hb)
      have BB_9 := Lib.hid (BB_8.out.trans ((hb).mono BB_8.out.size))
      have O3_9 := Lib.hid (O3_8.out.belowOwn hb)
      have O4_9 := Lib.hid (O4_8.out.belowOwn hb)
      have O5_9 := Lib.hid (O5_8.out.belowOwn hb)
      have LV_9 := Lib.hid (LV_8.out.below hb LV_8.out.lt)
      have T7_9 := Lib.hid (T7_8.out.below hb)
      have LU_9 := Lib.hid (LU_8.out.below hb LU_8.out.lt)
      clear hb LK_8 XO_8 BB_8 O3_8 O4_8 O5_8 LV_8 T7_8 LU_8
      go_wp2_with fail
      with_reducible refine (Fe.spoil_any gx l.length cx (l ++ [91, 92]) _ (l.length + 2) w9 XO_9.out (by omega) (by have := HL2.out; omega)).mono ?_
      rintro e w10 ⟨rfl, hg⟩
      have HS2 : Hid (gx < w2.heap.size) := HXL
      have LK_10 := Lib.hid (lies_apart LK_9.out XO_9.out (by decide) hg)
      have LV_10 := Lib.hid (lies_apart LV_9.out XO_9.out (by decide) hg)
      have LU_10 := Lib.hid (lies_apart LU_9.out XO_9.out (by decide) hg)
      have O3_10 := Lib.hid (own_apart O3_9.out hg HXL.out)
      have O4_10 := Lib.hid (own_apart O4_9.out hg (Nat.lt_of_lt_of_le HXL.out HZ3.out))
      have O5_10 := Lib.hid (own_apart O5_9.out hg (Nat.lt_of_lt_of_le HXL.out HZ4.out))
      have T7_10 := Lib.hid (Tx.apart T7_9.out hg (Nat.lt_of_lt_of_le HXL.out HZ6.out))
      have BB_10 := Lib.hid (BB_9.out.grown hg BB_9.out.size (fun q hq => by injection hq with hq; have := HXG.out; omega))
      clear hg LK_9 LV_9 LU_9 O3_9 O4_9 O5_9 T7_9 BB_9 XO_9 HS2
      go_wp2_with fail
      with_reducible refine (Fe.same_any A3 A4 lE.length lE.length c3 c4 lE lE w10 O3_10.out.bys.1 O4_10.out.bys.1).mono ?_
      rintro e _ ⟨rfl, rfl⟩
      rw [Fe.sameB_self]
      have g1 : (zE != zE) = false := by simp
      have g2 : (kd.t != kd.t) = false := by simp
      have g3 : (kd.n != kd.n) = false := by simp
      have g4 : (zD != zD) = false := by simp
      have g1b : (zE == zE) = true := by simp
      have g2b : (kd.t == kd.t) = true := by simp
      have g3b : (kd.n == kd.n) = true := by simp
      have g4b : (zD == zD) = true := by simp
      obtain ⟨v0, v1, v2⟩ := LV_10.out.cells3
      obtain ⟨u0, u1, u2⟩ := LU_10.out.cells3
      go_wp2_with fail
      with_reducible refine (Fe.same_any A5 A7 kd.x.length kd.x.length c5 c7 kd.x kd.x w10 O5_10.out.bys.1 (Tx_bys T7_10.out)).mono ?_
      rintro e _ ⟨rfl, rfl⟩
      rw [Fe.sameB_self]
      by_cases hz : zE = 0
      · have g5 : (zE == 0) = true := by simpa using hz
        have HEW : Hid (lE = encW k ∧ wkB k = true) := Lib.hid (by
          cases hw : wkB k
          · have e : encR k = ([], 120) := by unfold encR; rw [hw]; rfl
            rw [e] at hzE
            rw [hz] at hzE
            cases hzE
          · have e : encR k = (encW k, 0) := by unfold encR; rw [hw]; rfl
            rw [e] at hlE
            exact ⟨hlE.symm, rfl⟩)
        have HDR : Hid (decR lE = (k, 0)) := Lib.hid (by unfold decR; rw [HEW.out.1, dec_enc HEW.out.2])
        clear hz
        go_wp2_with fail
        clear v0 v1 v2 u0 u1 u2 g1 g2 g3 g4 g1b g2b g3b g4b g5
        have hle : lE.length ≤ 200000 := by rw [HEW.out.1, encW_len]; have := HL1.out; omega
        with_reducible refine (decode_any lE A3 lE.length c3 w10 O3_10.out.bys.1 hle).mono ?_
        rintro e w11 he
        obtain ⟨hb, A9, c9, rfl, hO⟩ := dec_one he
        rw [HDR.out] at hO ⊢
        dsimp only at hO ⊢
        have LK_11 := Lib.hid (LK_10.out.below hb LK_10.out.lt)
        have BB_11 := Lib.hid (BB_10.out.trans (hb.mono BB_10.out.size))
        have O9_11 := Lib.hid hO
        clear hb hO he hle
        obtain ⟨w12, HW, hl, hb⟩ : ∃ W, W = w11.alloc (.cells #[.int .i64 k.t, .int .i64 k.n, .slice A9 k.x.length c9] 24) ∧ Lies W w11.heap.size 24 #[.int .i64 k.t, .int .i64 k.n, .slice A9 k.x.length c9] ∧ Below w11.heap.size w11 W := ⟨_, rfl, Lies.made w11 24 _, Fe.below1 _ _⟩
        have LK_12 := Lib.hid (LK_11.out.below hb LK_11.out.lt)
        have BB_12 := Lib.hid (BB_11.out.trans (hb.mono BB_11.out.size))
        have O9_12 := Lib.hid (O9_11.out.belowOwn hb)
        have LA_12 := Lib.hid hl
        clear hb hl LK_11 BB_11 O9_11
        obtain ⟨k0, k1, k2⟩ := LK_12.out.cells3
        obtain ⟨a0, a1, a2⟩ := LA_12.out.cells3
        rw [HW] at k0 k1 k2 a0 a1 a2
        have g2 : (k.t != k.t) = false := by simp
        have g3 : (k.n != k.n) = false := by simp
        have g2b : (k.t == k.t) = true := by simp
        have g3b : (k.n == k.n) = true := by simp
        go_wp2_with fail
        rw [← HW]
        clear k0 k1 k2 a0 a1 a2 HW
        have q4 : Bys w12 A k.x.length k.x := (HK.out.below BB_12.out).1
        with_reducible refine (Fe.same_any A9 A k.x.length k.x.length c9 c k.x k.x w12 O9_12.out.bys.1 q4).mono ?_
        rintro e _ ⟨rfl, rfl⟩
        rw [Fe.sameB_self]
        go_wp2_with fail
        with_reducible refine (known_any _).mono ?_
        rintro e w90 ⟨rfl, hb⟩
        have HZ := Lib.hid (BB_12.out.trans (hb.mono BB_12.out.size))
        clear hb
        go_wp2
        go_ret
        exact ⟨rfl, HZ.out⟩
      · have g5 : (zE == 0) = false := beq_eq_false_iff_ne.2 hz
        clear hz
        go_wp2_with fail
        with_reducible refine (known_any _).mono ?_
        rintro e w90 ⟨rfl, hb⟩
        have HZ := Lib.hid (BB_10.out.trans (hb.mono BB_10.out.size))
        clear hb
        go_wp2
        go_ret
        exact ⟨rfl, HZ.out⟩

end Go.Proofs.YtpbclmnhkmcknaaGreat
