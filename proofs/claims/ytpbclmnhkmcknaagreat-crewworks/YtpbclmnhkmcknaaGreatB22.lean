/-
  Texts of one proof, in their order: CFirst, CSm, CStaleM, FeRfRd.
-/
import Derived.Laws.StructEq
import Derived.Test.YtpbclmnhkmcknaaGreatB21
namespace Go.Proofs.YtpbclmnhkmcknaaGreat
open Go.RowKit
open Fe (Lies Own Bys Reads NF Kx Kp Note)
set_option maxRecDepth 100000
set_option linter.unusedVariables false
set_option linter.unusedSimpArgs false

namespace St
/-- What was there at first, by name. -/
def firstL (q : Ss) : List Kd := q.K.map (fun k => ⟨k.n, k.f + k.g + held q.H k.n, 0⟩)
end St
namespace Pu
/-- What was there at first, by name. -/
def firstL (q : Ss) : List Kd := q.K.map (fun k => ⟨k.n, k.m + held q.H k.n 2, 0⟩)
end Pu

/-- What there was at first, of a crew. -/
def firstQ (q : Cq) : List St.Kd × List Pu.Kd := (St.firstL q.s, Pu.firstL q.p)
theorem two_of {α : Type} {l : List α} (h : l.length = 2) : ∃ a b, l = [a, b] := by
  match l, h with
  | [a, b], _ => exact ⟨a, b, rfl⟩
/-- A block of the input. -/
theorem InBytes.lt {w : World} {a : Option Addr} {n c : Nat} {l : List Nat} (h : InBytes w a n c l) (h0 : 0 < n) {m d i : Nat} (hi : (Value.slice a m d).ownBlock = some i) : i < w.heap.size := by
  obtain ⟨b, off, rfl, hc⟩ := h.1.2.2 h0
  have : b = i := by simpa [Value.ownBlock] using hi
  subst this
  exact block_lt_of_cell (hc 0 h0)
theorem askD_len {x : Ax} (h : x.k.x.length ≤ 500 ∧ x.r.length ≤ 500) : (askD x).length ≤ 600 := by
  unfold askD datW
  split
  · omega
  · split
    · rw [encW_len]; omega
    · simp
end Go.Proofs.YtpbclmnhkmcknaaGreat

namespace Go.Proofs.YtpbclmnhkmcknaaGreat
open Go.RowKit
open Fe (Lies Own Bys Reads NF Kx Kp Note)
set_option maxRecDepth 100000
set_option linter.unusedVariables false
set_option linter.unusedSimpArgs false

/-- Behind a comparison: p says that both are the same. -/
def SmP (w : World) (p : Prop) (e : Ending) (w' : World) : Prop := Below w.heap.size w w' ∧ ∃ t : Bool, e = .returned (.bool t) ∧ (p → t = true)
def SmR (w : World) (n : Nat) (i : Value) (wr : World) : Prop := ∃ k : Nat, k ≤ n ∧ i = .int .i64 (k : Int) ∧ Below w.heap.size w wr
/-- Serve, with an ask's note, its epoch another, some time later. -/
theorem ask_serve2 {w wr W : World} {R : List Int} {cc : Nat} {b : CB} {q : Cq} {x : Ax} {A : Option Addr} {c : Nat} (ep : Nat) (hep : ep < 4294967296) (hS : CW w wr R cc b q) (hx : AT w x) (hl : x.k.x.length ≤ 500 ∧ x.r.length ≤ 500) (hb : Below wr.heap.size wr W) (hi : InBytes W A (askD x).length c (askD x))
    (ho : (A = x.B ∧ 0 < x.r.length) ∨ ∀ i, (Value.slice A (askD x).length c).ownBlock = some i → wr.heap.size ≤ i) :
    Calls Tryz.prog 23 #[.pointer (some ⟨cc, 0, none⟩), .agg #[.int .i64 7, .int .u32 (ep : Int), .int .u32 0, .int .u64 0, .int .u64 0, .int .u32 (x.o : Int), .int .i64 x.s, .bool x.u, .int .i64 0, .slice none 0 0, .slice A (askD x).length c]] W (CwServe w W R cc b (serveS q (stN ep x.o x.s x.u (askD x)))) := by
  refine cw_serve (hS.below hb) (stN ep x.o x.s x.u (askD x)) A c 0 (ent_st hi x.s x.u hep hx.o) hx.s (by show (askD x).length ≤ 200000; have := askD_len hl; omega) (fun i h1 h2 => ?_)
  rcases ho with ⟨rfl, h0⟩ | ho
  · have a1 := hx.rr.lt h0 h1
    have a2 := hS.new i h2
    omega
  · have a1 := ho i h1
    have a2 := hS.at_.foot_lt h2
    omega
theorem far55 {w w' : World} {b : CB} {q : Cq} {g : Nat} {cs : Array Value} (h : Lies w g 55 cs) (hA : CAt w b q) (hg : Chg b.foot w w') : Lies w' g 55 cs := (hg.block g h.lt (hA.far (Kb.of h) (by decide))).trans h
instance : DecidableEq St.Gd := fun a b => decidable_of_iff (a.n = b.n ∧ a.f = b.f) (by cases a; cases b; simp)
theorem run_neq90 (x y : St.Gd) (w : World) : (binOp .neq 90 (.agg #[encStr x.n, .int .i64 x.f]) (.agg #[encStr y.n, .int .i64 y.f])).run Tryz.prog w = .ok (.bool (!decide (x = y))) w := by
  have u9 := Tryz.underlying9
  have a9 := Tryz.isAgg9
  have z9 := Tryz.sizeOf9
  have u3 := Tryz.underlying3
  have a3 := Tryz.isAgg3
  have z3 := Tryz.sizeOf3
  have hS : Tryz.prog.underlying 90 = some (.struct (Tryz.prog.fieldsOf 90)) := by kernel_rfl
  have hp : Tryz.prog.stoodInHeld 90 = false := by kernel_rfl
  have he : (x = y) ↔ (x.n = y.n ∧ x.f = y.f) := by cases x; cases y; simp
  rw [run_neq_struct, show (10000 : Nat) = 9999 + 1 from rfl, run_equalIn_agg w 9999 90 _ _ hS hp]
  simp only [Program.fieldsOf, Tryz.underlying90, decide_eq_decide.2 he]
  clear he
  by_cases h1 : x.n = y.n <;> by_cases h2 : x.f = y.f <;> go_simp
theorem guard90 (op : BinOp) (p q : Operand) (xs ys : Array Value) (w : World) : (eqGuard op 90 p q (.agg xs) (.agg ys)).run Tryz.prog w = .ok () w := run_eqGuard_agg w op 90 p q xs ys (by kernel_rfl)
set_option maxHeartbeats 2000000 in
theorem smG_any (v1 v2 : Value) (B1 B2 : Nat) (la lb : List St.Gd) (w : World) (h1 : St.OwnG w B1 v1 la) (h2 : St.OwnG w B2 v2 lb) :
    Calls Tryz.prog 31 #[v1, v2] w (SmP w (la = lb)) := by
  have H1 := Lib.hid h1
  have H2 := Lib.hid h2
  obtain ⟨A, cA, rfl, hnA, -⟩ := G_row h1
  obtain ⟨B, cB, rfl, hnB, -⟩ := G_row h2
  clear h1 h2
  by_cases hl : la.length = lb.length
  · have f1 : ((la.length : Int) == (lb.length : Int)) = true := by simp [hl]
    have f1b : (la.length == lb.length) = true := by simp [hl]
    have HL := Lib.hid hl
    clear hl
    go_enter Tryz.func31, Tryz.ntmps31
    go_wp2_with fail
    go_loopw [5] (SmR w la.length) (fun i _ => la.length - (intOf i).toNat)
    case atStart => exact ⟨0, by omega, rfl, Below.refl _ _⟩
    case round =>
      clear f1 f1b
      obtain ⟨k, hk, rfl, hbel⟩ := hrel
      have HBE := Lib.hid hbel
      clear hbel
      by_cases hlt : k < la.length
      · have hlb : k < lb.length := by have := HL.out; omega
        obtain ⟨A', c', e', -, hc⟩ := G_row (H1.out.below HBE.out)
        injection e' with e' t1 t2
        clear t1 t2
        subst e'
        obtain ⟨g1, rfl, d0, d1⟩ := hc k hlt
        clear hc
        obtain ⟨A', c', e', -, hc⟩ := G_row (H2.out.below HBE.out)
        injection e' with e' t1 t2
        clear t1 t2
        subst e'
        obtain ⟨g2, rfl, f0, f1⟩ := hc k hlb
        clear hc
        have hi : (k : Int) < (la.length : Int) := by omega
        have hi2 : (k : Int) < (lb.length : Int) := by omega
        obtain ⟨x, hx⟩ : ∃ x, la[k] = x := ⟨_, rfl⟩
        obtain ⟨y, hy⟩ : ∃ y, lb[k] = y := ⟨_, rfl⟩
        rw [hx] at d0 d1
        rw [hy] at f0 f1
        have hgd := guard90
        by_cases hxy : x = y
        · subst hxy
          have hne : ∀ W, _ := fun W => run_neq90 x x W
          simp only [decide_true, Bool.not_true] at hne
          clear hx hy
          go_wp2_with fail
          go_quiet (fail)
          clear hne hgd d0 d1 f0 f1
          go_wp2
          go_roundw
          case rel => exact ⟨k + 1, by omega, by go_num, Fe.below_drewN HBE.out _⟩
          case measure => simp [intOf]; omega
        · have HNE : Hid (la ≠ lb) := Lib.hid (fun e => hxy (by rw [← hx, ← hy]; subst e; rfl))
          have hne : ∀ W, _ := fun W => run_neq90 x y W
          simp only [decide_eq_false hxy, Bool.not_false] at hne
          clear hx hy hxy
          go_wp2_with fail
          go_quiet (fail)
          clear hne hgd d0 d1 f0 f1
          go_wp2
          go_ret
          exact ⟨Fe.below_drewN HBE.out _, false, rfl, fun h => absurd h HNE.out⟩
      · have hlt3 : decide ((k : Int) < (la.length : Int)) = false := by simp; omega
        go_wp2
        go_ret
        exact ⟨HBE.out, true, rfl, fun _ => rfl⟩
  · have f1 : ((la.length : Int) == (lb.length : Int)) = false := beq_eq_false_iff_ne.2 (by omega)
    have f1b : (la.length == lb.length) = false := beq_eq_false_iff_ne.2 hl
    have HNE : Hid (la ≠ lb) := Lib.hid (fun e => hl (by rw [e]))
    clear hl
    go_enter Tryz.func31, Tryz.ntmps31
    go_wp2
    go_ret
    exact ⟨Below.refl _ _, false, rfl, fun h => absurd h HNE.out⟩
instance : DecidableEq Pu.Kd := fun a b => decidable_of_iff (a.n = b.n ∧ a.m = b.m ∧ a.h = b.h) (by cases a; cases b; simp)
theorem run_neq87 (x y : Pu.Kd) (w : World) : (binOp .neq 87 (.agg #[encStr x.n, .int .i64 x.m, .int .i64 x.h]) (.agg #[encStr y.n, .int .i64 y.m, .int .i64 y.h])).run Tryz.prog w = .ok (.bool (!decide (x = y))) w := by
  have u9 := Tryz.underlying9
  have a9 := Tryz.isAgg9
  have z9 := Tryz.sizeOf9
  have u3 := Tryz.underlying3
  have a3 := Tryz.isAgg3
  have z3 := Tryz.sizeOf3
  have hS : Tryz.prog.underlying 87 = some (.struct (Tryz.prog.fieldsOf 87)) := by kernel_rfl
  have hp : Tryz.prog.stoodInHeld 87 = false := by kernel_rfl
  have he : (x = y) ↔ (x.n = y.n ∧ x.m = y.m ∧ x.h = y.h) := by cases x; cases y; simp
  rw [run_neq_struct, show (10000 : Nat) = 9999 + 1 from rfl, run_equalIn_agg w 9999 87 _ _ hS hp]
  simp only [Program.fieldsOf, Tryz.underlying87, decide_eq_decide.2 he]
  clear he
  by_cases h1 : x.n = y.n <;> by_cases h2 : x.m = y.m <;> by_cases h3 : x.h = y.h <;> go_simp
theorem guard87 (op : BinOp) (p q : Operand) (xs ys : Array Value) (w : World) : (eqGuard op 87 p q (.agg xs) (.agg ys)).run Tryz.prog w = .ok () w := run_eqGuard_agg w op 87 p q xs ys (by kernel_rfl)
set_option maxHeartbeats 2000000 in
theorem smA_any (v1 v2 : Value) (B1 B2 : Nat) (la lb : List Pu.Kd) (w : World) (h1 : Pu.OwnG w B1 v1 la) (h2 : Pu.OwnG w B2 v2 lb) :
    Calls Tryz.prog 34 #[v1, v2] w (SmP w (la = lb)) := by
  have H1 := Lib.hid h1
  have H2 := Lib.hid h2
  obtain ⟨A, cA, rfl, hnA, -⟩ := A_row h1
  obtain ⟨B, cB, rfl, hnB, -⟩ := A_row h2
  clear h1 h2
  by_cases hl : la.length = lb.length
  · have f1 : ((la.length : Int) == (lb.length : Int)) = true := by simp [hl]
    have f1b : (la.length == lb.length) = true := by simp [hl]
    have HL := Lib.hid hl
    clear hl
    go_enter Tryz.func34, Tryz.ntmps34
    go_wp2_with fail
    go_loopw [5] (SmR w la.length) (fun i _ => la.length - (intOf i).toNat)
    case atStart => exact ⟨0, by omega, rfl, Below.refl _ _⟩
    case round =>
      clear f1 f1b
      obtain ⟨k, hk, rfl, hbel⟩ := hrel
      have HBE := Lib.hid hbel
      clear hbel
      by_cases hlt : k < la.length
      · have hlb : k < lb.length := by have := HL.out; omega
        obtain ⟨A', c', e', -, hc⟩ := A_row (H1.out.below HBE.out)
        injection e' with e' t1 t2
        clear t1 t2
        subst e'
        obtain ⟨g1, rfl, d0, d1, d2⟩ := hc k hlt
        clear hc
        obtain ⟨A', c', e', -, hc⟩ := A_row (H2.out.below HBE.out)
        injection e' with e' t1 t2
        clear t1 t2
        subst e'
        obtain ⟨g2, rfl, f0, f1, f2⟩ := hc k hlb
        clear hc
        have hi : (k : Int) < (la.length : Int) := by omega
        have hi2 : (k : Int) < (lb.length : Int) := by omega
        obtain ⟨x, hx⟩ : ∃ x, la[k] = x := ⟨_, rfl⟩
        obtain ⟨y, hy⟩ : ∃ y, lb[k] = y := ⟨_, rfl⟩
        rw [hx] at d0 d1 d2
        rw [hy] at f0 f1 f2
        have hgd := guard87
        by_cases hxy : x = y
        · subst hxy
          have hne : ∀ W, _ := fun W => run_neq87 x x W
          simp only [decide_true, Bool.not_true] at hne
          clear hx hy
          go_wp2_with fail
          go_quiet (fail)
          clear hne hgd d0 d1 d2 f0 f1 f2
          go_wp2
          go_roundw
          case rel => exact ⟨k + 1, by omega, by go_num, Fe.below_drewN HBE.out _⟩
          case measure => simp [intOf]; omega
        · have HNE : Hid (la ≠ lb) := Lib.hid (fun e => hxy (by rw [← hx, ← hy]; subst e; rfl))
          have hne : ∀ W, _ := fun W => run_neq87 x y W
          simp only [decide_eq_false hxy, Bool.not_false] at hne
          clear hx hy hxy
          go_wp2_with fail
          go_quiet (fail)
          clear hne hgd d0 d1 d2 f0 f1 f2
          go_wp2
          go_ret
          exact ⟨Fe.below_drewN HBE.out _, false, rfl, fun h => absurd h HNE.out⟩
      · have hlt3 : decide ((k : Int) < (la.length : Int)) = false := by simp; omega
        go_wp2
        go_ret
        exact ⟨HBE.out, true, rfl, fun _ => rfl⟩
  · have f1 : ((la.length : Int) == (lb.length : Int)) = false := beq_eq_false_iff_ne.2 (by omega)
    have f1b : (la.length == lb.length) = false := beq_eq_false_iff_ne.2 hl
    have HNE : Hid (la ≠ lb) := Lib.hid (fun e => hl (by rw [e]))
    clear hl
    go_enter Tryz.func34, Tryz.ntmps34
    go_wp2
    go_ret
    exact ⟨Below.refl _ _, false, rfl, fun h => absurd h HNE.out⟩
instance : DecidableEq Ef := fun a b => decidable_of_iff (a.o = b.o ∧ a.s = b.s ∧ a.u = b.u) (by cases a; cases b; simp)
theorem run_neq83 (x y : Ef) (w : World) : (binOp .neq 83 (.agg #[.int .u32 (x.o : Int), .int .i64 x.s, .bool x.u]) (.agg #[.int .u32 (y.o : Int), .int .i64 y.s, .bool y.u])).run Tryz.prog w = .ok (.bool (!decide (x = y))) w := by
  have u52 := Tryz.underlying52
  have a52 := Tryz.isAgg52
  have z52 := Tryz.sizeOf52
  have u3 := Tryz.underlying3
  have a3 := Tryz.isAgg3
  have z3 := Tryz.sizeOf3
  have u4 := Tryz.underlying4
  have a4 := Tryz.isAgg4
  have z4 := Tryz.sizeOf4
  have hS : Tryz.prog.underlying 83 = some (.struct (Tryz.prog.fieldsOf 83)) := by kernel_rfl
  have hp : Tryz.prog.stoodInHeld 83 = false := by kernel_rfl
  have he : (x = y) ↔ ((x.o : Int) = y.o ∧ x.s = y.s ∧ x.u = y.u) := by rw [Int.natCast_inj]; cases x; cases y; simp
  rw [run_neq_struct, show (10000 : Nat) = 9999 + 1 from rfl, run_equalIn_agg w 9999 83 _ _ hS hp]
  simp only [Program.fieldsOf, Tryz.underlying83, decide_eq_decide.2 he]
  clear he
  by_cases h0 : (x.o : Int) = y.o <;> by_cases h1 : x.s = y.s <;> by_cases h2 : x.u = y.u <;> go_simp
theorem guard83 (op : BinOp) (p q : Operand) (xs ys : Array Value) (w : World) : (eqGuard op 83 p q (.agg xs) (.agg ys)).run Tryz.prog w = .ok () w := run_eqGuard_agg w op 83 p q xs ys (by kernel_rfl)
set_option maxHeartbeats 2000000 in
theorem smF_any (v1 v2 : Value) (B1 B2 : Nat) (la lb : List Ef) (w : World) (h1 : OwnF w B1 v1 la) (h2 : OwnF w B2 v2 lb) :
    Calls Tryz.prog 28 #[v1, v2] w (SmP w (la = lb)) := by
  have H1 := Lib.hid h1
  have H2 := Lib.hid h2
  obtain ⟨A, cA, rfl, hnA, -⟩ := F_row h1
  obtain ⟨B, cB, rfl, hnB, -⟩ := F_row h2
  clear h1 h2
  by_cases hl : la.length = lb.length
  · have f1 : ((la.length : Int) == (lb.length : Int)) = true := by simp [hl]
    have f1b : (la.length == lb.length) = true := by simp [hl]
    have HL := Lib.hid hl
    clear hl
    go_enter Tryz.func28, Tryz.ntmps28
    go_wp2_with fail
    go_loopw [5] (SmR w la.length) (fun i _ => la.length - (intOf i).toNat)
    case atStart => exact ⟨0, by omega, rfl, Below.refl _ _⟩
    case round =>
      clear f1 f1b
      obtain ⟨k, hk, rfl, hbel⟩ := hrel
      have HBE := Lib.hid hbel
      clear hbel
      by_cases hlt : k < la.length
      · have hlb : k < lb.length := by have := HL.out; omega
        obtain ⟨A', c', e', -, hc⟩ := F_row (H1.out.below HBE.out)
        injection e' with e' t1 t2
        clear t1 t2
        subst e'
        obtain ⟨g1, rfl, d0, d1, d2⟩ := hc k hlt
        clear hc
        obtain ⟨A', c', e', -, hc⟩ := F_row (H2.out.below HBE.out)
        injection e' with e' t1 t2
        clear t1 t2
        subst e'
        obtain ⟨g2, rfl, f0, f1, f2⟩ := hc k hlb
        clear hc
        have hi : (k : Int) < (la.length : Int) := by omega
        have hi2 : (k : Int) < (lb.length : Int) := by omega
        obtain ⟨x, hx⟩ : ∃ x, la[k] = x := ⟨_, rfl⟩
        obtain ⟨y, hy⟩ : ∃ y, lb[k] = y := ⟨_, rfl⟩
        rw [hx] at d0 d1 d2
        rw [hy] at f0 f1 f2
        have hgd := guard83
        by_cases hxy : x = y
        · subst hxy
          have hne : ∀ W, _ := fun W => run_neq83 x x W
          simp only [decide_true, Bool.not_true] at hne
          clear hx hy
          go_wp2_with fail
          go_quiet (fail)
          clear hne hgd d0 d1 d2 f0 f1 f2
          go_wp2
          go_roundw
          case rel => exact ⟨k + 1, by omega, by go_num, Fe.below_drewN HBE.out _⟩
          case measure => simp [intOf]; omega
        · have HNE : Hid (la ≠ lb) := Lib.hid (fun e => hxy (by rw [← hx, ← hy]; subst e; rfl))
          have hne : ∀ W, _ := fun W => run_neq83 x y W
          simp only [decide_eq_false hxy, Bool.not_false] at hne
          clear hx hy hxy
          go_wp2_with fail
          go_quiet (fail)
          clear hne hgd d0 d1 d2 f0 f1 f2
          go_wp2
          go_ret
          exact ⟨Fe.below_drewN HBE.out _, false, rfl, fun h => absurd h HNE.out⟩
      · have hlt3 : decide ((k : Int) < (la.length : Int)) = false := by simp; omega
        go_wp2
        go_ret
        exact ⟨HBE.out, true, rfl, fun _ => rfl⟩
  · have f1 : ((la.length : Int) == (lb.length : Int)) = false := beq_eq_false_iff_ne.2 (by omega)
    have f1b : (la.length == lb.length) = false := beq_eq_false_iff_ne.2 hl
    have HNE : Hid (la ≠ lb) := Lib.hid (fun e => hl (by rw [e]))
    clear hl
    go_enter Tryz.func28, Tryz.ntmps28
    go_wp2
    go_ret
    exact ⟨Below.refl _ _, false, rfl, fun h => absurd h HNE.out⟩

end Go.Proofs.YtpbclmnhkmcknaaGreat

namespace Go.Proofs.YtpbclmnhkmcknaaGreat
open Go.RowKit
open Fe (Lies Own Bys Reads NF Kx Kp Note)
set_option maxRecDepth 100000
set_option linter.unusedVariables false
set_option linter.unusedSimpArgs false

theorem verdS2 {b : Bool} (h : St.verd b = 2) : b = false := by cases b <;> first | rfl | cases h
theorem verdP2 {b : Bool} (h : Pu.verd b = 2) : b = false := by cases b <;> first | rfl | cases h
theorem verdD2 {b : Bool} (h : Do.verd b = 2) : b = false := by cases b <;> first | rfl | cases h
theorem endV_no {s : St.Ss} {o : Nat} {b : Bool} (h : St.endV s o = false) : St.endS s o b = s := by
  refine St.endS_no ?_
  unfold St.endV at h
  cases hf : St.findH s.H o
  · rfl
  · rw [hf] at h; cases h
theorem fwd_no {q : Cq} {o : Nat} {k : Wk} (h : (fwdS q o k).v = 2) : (fwdS q o k).q = q := by
  unfold fwdS at h ⊢
  split at h
  · rw [if_pos (by assumption)]; show { q with s := _ } = q; rw [St.holdS_no (verdS2 h)]
  rename_i c1; rw [if_neg c1]
  split at h
  · rw [if_pos (by assumption)]; show { q with s := _ } = q; rw [endV_no (verdS2 h)]
  rename_i c2; rw [if_neg c2]
  split at h
  · rw [if_pos (by assumption)]; show { q with p := _ } = q; rw [Pu.authS_no (verdP2 h)]
  rename_i c3; rw [if_neg c3]
  split at h
  · rw [if_pos (by assumption)]; show { q with p := _ } = q; rw [Pu.movS_no (verdP2 h)]
  rename_i c4; rw [if_neg c4]
  split at h
  · rw [if_pos (by assumption)]
    cases hb : Do.bookD q.d o 0 k.n
    · rfl
    · rw [hb] at h; cases h
  rename_i c5; rw [if_neg c5]
  split at h
  · cases h
  rename_i c6; rw [if_neg c6]
theorem bwd_no {q : Cq} {o : Nat} {k : Wk} (h : (bwdS q o k).v = 2) : (bwdS q o k).q = q := by
  unfold bwdS at h ⊢
  split at h
  · rw [if_pos (by assumption)]; show { q with s := _ } = q; rw [endV_no (verdS2 h)]
  rename_i c1; rw [if_neg c1]
  split at h
  · rw [if_pos (by assumption)]; show { q with p := _ } = q; rw [Pu.movS_no (verdP2 h)]
  rename_i c2; rw [if_neg c2]
  split at h
  · rw [if_pos (by assumption)]; show { q with p := _ } = q; rw [Pu.movS_no (verdP2 h)]
  rename_i c3; rw [if_neg c3]
  split at h
  · rw [if_pos (by assumption)]; show { q with d := _ } = q
    have h' := verdD2 h
    cases hf : Do.findH q.d.H o
    · rw [Do.cancS_no hf]
    · rw [hf] at h'; cases h'
  rename_i c4; rw [if_neg c4]
  split at h
  · cases h
  rename_i c5; rw [if_neg c5]
theorem exec_no {q : Cq} {o : Nat} {u : Bool} {l : List Nat} (h : (execS q o u l).v = 2) : (execS q o u l).q = q := by
  unfold execS at h ⊢
  cases hd : decS l
  · rfl
  · rw [hd] at h
    cases u
    · exact fwd_no h
    · exact bwd_no h
/-- A step that was decided anew: nothing has changed, or it has taken effect. -/
theorem decide_one {R : List Int} {q : Cq} (h : CInv R q) {N : Note} (ho : N.order < 4294967296) (a : Nat) :
    (decideS q a N).q = q ∨ (a ≠ 3 ∧ a ≠ 4 ∧ (execS q N.order N.undo N.data).v = 1 ∧ (decideS q a N).q = addE (execS q N.order N.undo N.data).q ⟨N.order, N.step, N.undo⟩) := by
  unfold decideS
  split
  · exact .inl rfl
  rename_i c1
  split
  · exact .inl rfl
  rename_i c2
  unfold effS
  split
  · rename_i c; exact .inr ⟨c1, c2, c, rfl⟩
  · rename_i c
    have h1 := (exec_ok h ho N.undo N.data).1
    exact .inl (exec_no (by omega))
/-- The three answers to a step. -/
theorem serve_three {R : List Int} {q : Cq} (h : CInv R q) (N : Note) (ho : N.order < 4294967296) :
    (∃ v r, (serveS q N).a = doneN N v r ∧ (serveS q N).q.f.ep = N.epoch ∧ q.f.ep ≤ N.epoch ∧ (((serveS q N).q.s = q.s ∧ (serveS q N).q.p = q.p ∧ (serveS q N).q.E = q.E) ∨ (serveS q N).q.E.length = q.E.length + 1)) ∨
    (N.epoch < q.f.ep ∧ serveS q N = ⟨fenceN q.f.ep N, q⟩) ∨
    (∃ c, (c = 1 ∨ c = 2 ∨ c = 3) ∧ serveS q N = ⟨noN q.f.ep c, q⟩) := by
  rcases serve_split h N ho with ⟨c, hc, e⟩ | ⟨h1, e⟩ | ⟨k, -, h3, -, -, -, e⟩ | ⟨a, ha, hr, h3, h4, h5, hn, e⟩
  · exact .inr (.inr ⟨c, hc, e⟩)
  · exact .inr (.inl ⟨h1, e⟩)
  · rw [e]; exact .inl ⟨_, _, rfl, rfl, Nat.le_of_not_lt h3, .inl ⟨rfl, rfl, rfl⟩⟩
  · rw [e]
    refine .inl ⟨_, _, rfl, rfl, Nat.le_of_not_lt h3, ?_⟩
    rcases decide_one h ho a with hq | ⟨-, -, -, hq⟩
    · left
      show (decideS q a N).q.s = q.s ∧ (decideS q a N).q.p = q.p ∧ (decideS q a N).q.E = q.E
      rw [hq]; exact ⟨rfl, rfl, rfl⟩
    · right
      show (decideS q a N).q.E.length = q.E.length + 1
      rw [hq]
      show ((execS q N.order N.undo N.data).q.E ++ [_]).length = _
      rw [(exec_E q _ _ _).1]; simp

end Go.Proofs.YtpbclmnhkmcknaaGreat

namespace Go.Proofs.YtpbclmnhkmcknaaGreat.Fe
open Go.RowKit
set_option maxRecDepth 100000
attribute [local go_sem ↓] Go.wp_at_zero Go.wp_at_succ

/-- The document's reader, at block p. -/
def Rf (w : World) (p : Nat) (s : Ent.St) (l : List Nat) : Prop :=
  ∃ A c, Lies w p 110 #[.slice A l.length c, .int .i64 (s.1 : Nat), .bool s.2] ∧ Bys w A l.length l ∧ (0 < l.length → ∀ ad, A = some ad → ad.block < p) ∧ s.1 ≤ l.length ∧ l.length ≤ c ∧ c ≤ maxLen
theorem Bys.setOther0 {w : World} {a : Option Addr} {n : Nat} {l : List Nat} {p o : Nat} (h : Bys w a n l) (ha : 0 < n → ∀ ad, a = some ad → ad.block ≠ p) (u : Value) : Bys (w.setCell ⟨p, o, none⟩ u) a n l := by
  by_cases h0 : 0 < n
  · exact h.setOther (ha h0) u
  · exact ⟨h.1, h.2.1, fun h => absurd h h0⟩
theorem Rf.drewN {w : World} {p : Nat} {s : Ent.St} {l : List Nat} (h : Rf w p s l) (n : Nat) : Rf (w.drewN n) p s l := h
theorem Rf.small {w : World} {p : Nat} {s : Ent.St} {l : List Nat} (h : Rf w p s l) : ∀ c ∈ l, c < 256 := by
  obtain ⟨A, c, _, hB, _⟩ := h
  exact hB.2.1
theorem Rf.lt {w : World} {p : Nat} {s : Ent.St} {l : List Nat} (h : Rf w p s l) : p < w.heap.size := by
  obtain ⟨A, c, hL, _⟩ := h
  exact hL.lt
theorem Rf.below {w w' : World} {p : Nat} {s : Ent.St} {l : List Nat} (h : Rf w p s l) (hb : Below w.heap.size w w') : Rf w' p s l := by
  obtain ⟨A, c, hL, hB, h3⟩ := h
  exact ⟨A, c, hL.below hb hL.lt, hB.below hb, h3⟩
theorem Rf.put {w : World} {p : Nat} {s : Ent.St} {l : List Nat} (h : Rf w p s l) (i : Nat) (hi : i ≤ l.length) : Rf (w.setCell ⟨p, 1, none⟩ (.int .i64 (i : Nat))) p (i, s.2) l := by
  obtain ⟨A, c, hL, hB, h3, h4, h5⟩ := h
  exact ⟨A, c, hL.put 1 _, hB.setOther0 (fun h0 ad e => by have := h3 h0 ad e; omega) _, h3, hi, h5⟩
theorem Rf.short {w : World} {p : Nat} {s : Ent.St} {l : List Nat} (h : Rf w p s l) : Rf (w.setCell ⟨p, 2, none⟩ (.bool true)) p (s.1, true) l := by
  obtain ⟨A, c, hL, hB, h3, h4, h5⟩ := h
  exact ⟨A, c, hL.put 2 _, hB.setOther0 (fun h0 ad e => by have := h3 h0 ad e; omega) _, h3, h4, h5⟩
theorem Rf.setq {w : World} {p q : Nat} {s : Ent.St} {l : List Nat} (h : Rf w p s l) (hpq : p < q) (o : Nat) (u : Value) : Rf (w.setCell ⟨q, o, none⟩ u) p s l := by
  obtain ⟨A, c, hL, hB, h3, h4⟩ := h
  exact ⟨A, c, hL.other (a := ⟨q, o, none⟩) (by show p ≠ q; omega) u, hB.setOther0 (fun h0 ad e => by have := h3 h0 ad e; omega) u, h3, h4⟩

def OfR (n : Nat) (l : List Nat) (w : World) (x y : Value) (wr : World) : Prop :=
  ∃ j : Nat, j ≤ n ∧ y = .int .i64 j ∧ x = .int .u64 (Ent.val (l.take j) : Nat) ∧ wr = w

set_option maxHeartbeats 400000 in
theorem rof_any (A : Option Addr) (n c : Nat) (l : List Nat) (w : World) (hB : Bys w A n l) (hn : n ≤ 8) :
    Calls Tryz.prog 88 #[.slice A n c] w fun e w' => e = .returned (.int .u64 (Ent.val l : Nat)) ∧ w' = w := by
  have HB := Lib.hid hB
  clear hB
  go_enter Tryz.func88, Tryz.ntmps88
  go_wp2_with fail
  go_loopw [3, 4] (OfR n l w) (fun _ i _ => n - (intOf i).toNat)
  case atStart => exact ⟨0, by omega, rfl, rfl, rfl⟩
  case round =>
    obtain ⟨j, hj, rfl, rfl, rfl⟩ := hrel
    have hB := HB.out
    by_cases hlt : j < n
    · obtain ⟨b, off, rfl, hc⟩ := hB.2.2 (by omega)
      have hck := hc j hlt
      have hyb := getD_lt l hB.2.1 j
      have hv := Ent.val_lt (l.take j) (fun c hc => hB.2.1 c (List.mem_of_mem_take hc))
      have hll := hB.1
      have hsn : Ent.val (l.take (j + 1)) = Ent.val (l.take j) * 256 + l.getD j 0 := by
        rw [take_one _ _ (by omega), Ent.val_snoc]
      rw [List.length_take, Nat.min_eq_left (by omega)] at hv
      have hv2 : Ent.val (l.take j) < 72057594037927936 := Nat.lt_of_lt_of_le hv (show 256 ^ j ≤ 256 ^ 7 from Nat.pow_le_pow_right (by decide) (by omega))
      have HSN := Lib.hid hsn
      have hq1 : (j : Int) < (n : Int) := by omega
      clear hB hc hv hsn hll HB
      generalize Ent.val (l.take j) = x at *
      generalize l.getD j 0 = y at *
      go_wp2
      go_roundw
      case rel => exact ⟨j + 1, by omega, by go_num, val_int (by rw [HSN.out]; omega), rfl⟩
      case measure => simp [intOf]; omega
    · have hjk : j = n := by omega
      subst hjk
      go_wp2
      go_ret
      refine ⟨ret_int ?_, rfl⟩
      rw [List.take_of_length_le (by rw [hB.1]; exact Nat.le_refl _)]

def TakeBad (w : World) (p : Nat) (l : List Nat) (s : Ent.St) (e : Ending) (w' : World) : Prop :=
  e = .returned (.tuple #[.slice none 0 0, .bool false]) ∧ Rf w' p (s.1, true) l ∧ w.grownBy w' (some p)
def TakeGood (w : World) (p k i : Nat) (l : List Nat) (e : Ending) (w' : World) : Prop :=
  ∃ v, e = .returned (.tuple #[v, .bool true]) ∧ Own w' w.heap.size v ((l.drop i).take k) ∧ Rf w' p (i + k, false) l ∧ w.grownBy w' (some p)

set_option maxHeartbeats 400000 in
theorem take_bad (p k : Nat) (s : Ent.St) (l : List Nat) (w : World) (hR : Rf w p s l) (_hk : k ≤ 200000) (hl : l.length ≤ 200000) (h : s.2 = true ∨ l.length - s.1 < k) :
    Calls Tryz.prog 87 #[.pointer (some ⟨p, 0, none⟩), .int .i64 k] w (TakeBad w p l s) := by
  have HR := Lib.hid hR
  obtain ⟨A, c, hL, hB, _, hi, _, _⟩ := hR
  have hc0 := hL.cell 0
  have hc1 := hL.cell 1
  have hc2 := hL.cell 2
  have hf2 := hL.free 2
  obtain ⟨i, sh⟩ := s
  simp only at hi hc0 hc1 hc2
  clear hL hB
  cases sh with
  | true =>
    clear h hi hc0 hc1
    go_enter Tryz.func87, Tryz.ntmps87
    go_wp2_with fail
    go_quiet (fail)
    go_wp2
    go_ret2
    exact ⟨rfl, (HR.out.drewN _).short, grown_put (grown_drewN (World.grownBy.refl w _) _) 2 _⟩
  | false =>
    have h : l.length - i < k := by rcases h with h | h; cases h; exact h
    obtain ⟨z, hz⟩ : ∃ z, l.length - i = z := ⟨_, rfl⟩
    have hq : IntKind.i64.wrap ((l.length : Int) - (i : Int)) = ((z : Nat) : Int) := by rw [IntWalk.i64_in _ (by omega)]; omega
    have hq1 : ((z : Nat) : Int) < (k : Int) := by omega
    clear h hz hi
    go_enter Tryz.func87, Tryz.ntmps87
    go_wp2_with fail
    go_quiet (fail)
    go_wp2
    go_ret2
    exact ⟨rfl, (HR.out.drewN _).short, grown_put (grown_drewN (World.grownBy.refl w _) _) 2 _⟩

theorem size_put (w : World) (a : Addr) (u : Value) : (w.setCell a u).heap.size = w.heap.size := by simp [World.setCell]

set_option maxRecDepth 100000 in
set_option maxHeartbeats 1000000 in
theorem take_good (p k i : Nat) (l : List Nat) (w : World) (hR : Rf w p (i, false) l) (hk : k ≤ 200000) (h0 : 0 < k) (hl : l.length ≤ 200000) (h : ¬ l.length - i < k) :
    Calls Tryz.prog 87 #[.pointer (some ⟨p, 0, none⟩), .int .i64 k] w (TakeGood w p k i l) := by
  have HR := Lib.hid hR
  obtain ⟨A, c, hL, hB, hlo, hi, hcl, hcm⟩ := hR
  simp only at hi
  obtain ⟨b, off, rfl, hc⟩ := hB.2.2 (by omega)
  have hc0 := hL.cell 0
  have hc1 := hL.cell 1
  have hc2 := hL.cell 2
  have hf1 := hL.free 1
  simp only at hc0 hc1 hc2
  obtain ⟨m2, hm2⟩ : ∃ m, i + k = m := ⟨_, rfl⟩
  obtain ⟨z, hz⟩ : ∃ z, l.length - i = z := ⟨_, rfl⟩
  have hq : IntKind.i64.wrap ((l.length : Int) - (i : Int)) = ((z : Nat) : Int) := by rw [IntWalk.i64_in _ (by omega)]; omega
  have hq1 : ¬ ((z : Nat) : Int) < (k : Int) := by omega
  have hq2 : IntKind.i64.wrap ((i : Int) + (k : Int)) = ((m2 : Nat) : Int) := by rw [IntWalk.i64_in _ (by omega)]; omega
  have b1 : (0 : Int) ≤ (i : Int) := by omega
  have b2 : (i : Int) ≤ (m2 : Int) := by omega
  have b3 : (m2 : Int) ≤ (c : Int) := by omega
  have hne : c ≠ i := by omega
  have hml : m2 ≤ l.length := by omega
  have hBy : Bys w (some ⟨b, off + i, none⟩) (m2 - i) ((l.drop i).take k) := by
    have := (hB.cut i hi).front k (by omega)
    rwa [show m2 - i = k from by omega]
  have hbp : b ≠ p := by have := hlo (by omega) _ rfl; simp at this; omega
  have hBp : ∀ q u, Bys ((w.drewN q).setCell ⟨p, 1, none⟩ u) (some ⟨b, off + i, none⟩) (m2 - i) ((l.drop i).take k) := fun q u => (hBy.drewN q).setOther (fun ad e => by injection e with e; subst e; exact hbp) u
  have HRP := Lib.hid (fun q => (HR.out.drewN q).put m2 hml)
  have C4 := Lib.hid (fun q u => copy_any _ (m2 - i) (c - i) _ _ (hBp q u) (fun h => by cases h) (by omega))
  have HM := Lib.hid hm2
  clear hL hB hc hBp hBy hm2 hz h hlo
  go_enter Tryz.func87, Tryz.ntmps87
  go_wp2_with fail
  go_quiet (fail)
  go_wp2_with fail
  go_quiet (fail)
  go_wp2_with fail
  with_reducible refine (C4.out _ _).mono ?_
  rintro e w2 ⟨v, rfl, hO, hb2⟩
  have HO := Lib.hid hO
  clear hO
  go_wp2
  go_ret2
  refine ⟨v, rfl, ?_, ?_, ?_⟩
  · have := HO.out; rw [size_put] at this; exact this
  · rw [HM.out]; exact (HRP.out _).below hb2
  · exact grown_below (grown_put (grown_drewN (World.grownBy.refl w _) _) 1 _) hb2

def RfnPost (w : World) (p k : Nat) (l : List Nat) (s : Ent.St) (e : Ending) (w' : World) : Prop :=
  e = .returned (.int .u64 ((Ent.rnum l k s).1 : Nat)) ∧ Rf w' p (Ent.rnum l k s).2 l ∧ w.grownBy w' (some p)

set_option maxHeartbeats 400000 in
theorem rfnum_any (p k : Nat) (s : Ent.St) (l : List Nat) (w : World) (hR : Rf w p s l) (hk : k ≤ 8) (h0 : 0 < k) (hl : l.length ≤ 200000) :
    Calls Tryz.prog 54 #[.pointer (some ⟨p, 0, none⟩), .int .i64 k] w (RfnPost w p k l s) := by
  unfold RfnPost
  by_cases h : s.2 = true ∨ l.length - s.1 < k
  · have hn : Ent.rnum l k s = (0, (s.1, true)) := by unfold Ent.rnum; rw [if_pos h]
    have C1 := Lib.hid (take_bad p k s l w hR (by omega) hl h)
    unfold TakeBad at C1
    rw [hn]
    clear hn hR h
    go_enter Tryz.func54, Tryz.ntmps54
    go_wp2_with fail
    with_reducible refine C1.out.mono ?_
    rintro e w2 ⟨rfl, hR2, hg2⟩
    have HR2 := Lib.hid hR2
    have C2 := Lib.hid (rof_any none 0 0 [] w2 (Bys.none_ w2) (by omega))
    clear hR2 C1
    go_wp2_with fail
    with_reducible refine C2.out.mono ?_
    rintro e w3 ⟨rfl, rfl⟩
    go_wp2
    go_ret
    exact ⟨rfl, HR2.out, hg2⟩
  · obtain ⟨i, sh⟩ := s
    have h1 : sh = false := by cases sh; rfl; exact absurd (.inl rfl) h
    subst h1
    have h2 : ¬ l.length - i < k := fun hh => h (.inr hh)
    have hn : Ent.rnum l k (i, false) = (Ent.val ((l.drop i).take k), (i + k, false)) := by unfold Ent.rnum; rw [if_neg h]
    have C1 := Lib.hid (take_good p k i l w hR (by omega) h0 hl h2)
    unfold TakeGood at C1
    rw [hn]
    have hlen : ((l.drop i).take k).length = k := by rw [List.length_take, List.length_drop]; omega
    generalize (l.drop i).take k = r at *
    generalize i + k = z at *
    clear hn hR h h2
    go_enter Tryz.func54, Tryz.ntmps54
    go_wp2_with fail
    with_reducible refine C1.out.mono ?_
    rintro e w2 ⟨v, rfl, hO2, hR2, hg2⟩
    have HR2 := Lib.hid hR2
    obtain ⟨A, c, rfl, hB, _, _, _⟩ := hO2.slice
    have C2 := Lib.hid (rof_any A r.length c r w2 hB (by omega))
    clear hR2 C1 hB hO2 hlen
    go_wp2_with fail
    with_reducible refine C2.out.mono ?_
    rintro e w3 ⟨rfl, rfl⟩
    go_wp2
    go_ret
    exact ⟨rfl, HR2.out, hg2⟩

/-- A slice that reads as these bytes, in a block not below B; or none. -/
def Tx (w : World) (B : Nat) (v : Value) (l : List Nat) : Prop :=
  ∃ A c, v = .slice A l.length c ∧ Bys w A l.length l ∧ l.length ≤ c ∧ c ≤ maxLen ∧ (A = none → c = 0) ∧ ∀ ad, A = some ad → B ≤ ad.block ∧ ad.block < w.heap.size
theorem Tx.nil (w : World) (B : Nat) : Tx w B (.slice none 0 0) [] := ⟨none, 0, rfl, Bys.none_ w, Nat.le_refl _, by unfold maxLen; omega, fun _ => rfl, fun ad h => by cases h⟩
theorem Tx.mono {w : World} {B B' : Nat} {v : Value} {l : List Nat} (h : Tx w B v l) (hb : B' ≤ B) : Tx w B' v l := by
  obtain ⟨A, c, h1, h2, h3, h4, h5, h6⟩ := h
  exact ⟨A, c, h1, h2, h3, h4, h5, fun ad e => ⟨Nat.le_trans hb (h6 ad e).1, (h6 ad e).2⟩⟩
theorem Tx.below {w w' : World} {B : Nat} {v : Value} {l : List Nat} (h : Tx w B v l) (hb : Below w.heap.size w w') : Tx w' B v l := by
  obtain ⟨A, c, h1, h2, h3, h4, h5, h6⟩ := h
  exact ⟨A, c, h1, h2.below hb, h3, h4, h5, fun ad e => ⟨(h6 ad e).1, Nat.lt_of_lt_of_le (h6 ad e).2 hb.size⟩⟩
theorem Tx.put {w : World} {B q o : Nat} {v : Value} {l : List Nat} (h : Tx w B v l) (hq : q < B) (u : Value) : Tx (w.setCell ⟨q, o, none⟩ u) B v l := by
  obtain ⟨A, c, h1, h2, h3, h4, h5, h6⟩ := h
  exact ⟨A, c, h1, h2.setOther (fun ad e => by have := (h6 ad e).1; omega) u, h3, h4, h5, fun ad e => ⟨(h6 ad e).1, by rw [size_put]; exact (h6 ad e).2⟩⟩
def RftPost (w : World) (p : Nat) (l : List Nat) (s : Ent.St) (e : Ending) (w' : World) : Prop :=
  ∃ v, e = .returned v ∧ Tx w' w.heap.size v (Ent.rtxt l s).1 ∧ Rf w' p (Ent.rtxt l s).2 l ∧ w.grownBy w' (some p)

theorem own_tail {w : World} {B g cap : Nat} {r : List Nat} (h : Own w B (.slice (some ⟨g, 0, none⟩) r.length cap) r) (hr : 1 ≤ r.length) :
    Tx w B (.slice (if cap = 1 then some ⟨g, 0, none⟩ else some ⟨g, 1, none⟩) (r.length - 1) (cap - 1)) (r.drop 1) := by
  have hb := h.bys
  have hlen : (r.drop 1).length = r.length - 1 := by rw [List.length_drop]
  have hlt : g < w.heap.size := by
    obtain ⟨g', off, e, hc⟩ := hb.1.2.2 (by omega)
    injection e with e
    injection e with e1 e2 _
    subst e1 e2
    exact block_lt_of_cell (hc 0 (by omega))
  have hge := h.block g rfl
  refine ⟨if cap = 1 then some ⟨g, 0, none⟩ else some ⟨g, 1, none⟩, cap - 1, by rw [hlen], ?_, by rw [hlen]; omega, by omega, ?_, ?_⟩
  rotate_left
  · intro e; split at e <;> cases e
  · intro ad e; split at e <;> (injection e with e; subst e; exact ⟨hge, hlt⟩)
  rw [hlen]
  have := bys_mid (m1 := 1) (m2 := r.length) (y := r.length - 1) (c := cap) hb.1 (by omega) (Nat.le_refl _) hb.2.1
  rw [List.take_of_length_le (by rw [hlen]; exact Nat.le_refl _), Nat.zero_add] at this
  exact this

set_option maxRecDepth 100000 in
set_option maxHeartbeats 1000000 in
theorem rftext_any (p : Nat) (s : Ent.St) (l : List Nat) (w : World) (hR : Rf w p s l) (hl : l.length ≤ 200000) :
    Calls Tryz.prog 55 #[.pointer (some ⟨p, 0, none⟩)] w (RftPost w p l s) := by
  unfold RftPost
  have HR := Lib.hid hR
  have hsm := hR.small
  obtain ⟨A, c, hL, hB, _, hi, _, _⟩ := hR
  have hc0 := hL.cell 0
  have hc1 := hL.cell 1
  obtain ⟨i, sh⟩ := s
  simp only at hi hc0 hc1
  by_cases h1 : i < l.length
  · obtain ⟨b, off, rfl, hc⟩ := hB.2.2 (by omega)
    have hck := hc i h1
    have hq1 : (i : Int) < (l.length : Int) := by omega
    have hy : l.getD i 0 < 256 := getD_lt l hsm i
    by_cases h2 : sh = true ∨ l.length - i < 1 + l.getD i 0
    · have hn : Ent.rtxt l (i, sh) = ([], (i, true)) := by
        unfold Ent.rtxt
        rw [if_pos (by rcases h2 with h2 | h2; exact .inl h2; exact .inr (.inr h2))]
      have C2 := Lib.hid (fun W (hW : Rf W p (i, sh) l) => take_bad p (1 + l.getD i 0) (i, sh) l W hW (by omega) hl h2)
      unfold TakeBad at C2
      rw [hn]
      clear hL hB hc hn h2
      generalize l.getD i 0 = y at *
      go_enter Tryz.func55, Tryz.ntmps55
      go_wp2_with fail
      go_quiet (fail)
      go_wp2_with fail
      go_quiet (fail)
      have c2 := fun q => C2.out _ (HR.out.drewN q)
      rw [show ((1 + y : Nat) : Int) = 1 + (y : Int) from by omega] at c2
      have C3 := Lib.hid c2
      clear c2
      go_wp2_with fail
      with_reducible refine (C3.out _).mono ?_
      rintro e w3 ⟨rfl, hR3, hg3⟩
      have HR3 := Lib.hid hR3
      clear hR3
      go_wp2
      go_ret
      exact ⟨_, rfl, Tx.nil _ _, HR3.out, (grown_drewN (World.grownBy.refl w _) _).trans hg3⟩
    · have hsh : sh = false := by cases sh; rfl; exact absurd (.inl rfl) h2
      subst hsh
      have h3 : ¬ l.length - i < 1 + l.getD i 0 := fun hh => h2 (.inr hh)
      have hn : Ent.rtxt l (i, false) = ((l.drop (i + 1)).take (l.getD i 0), (i + (1 + l.getD i 0), false)) := by
        unfold Ent.rtxt
        rw [if_neg (by rintro (q | q | q); exact absurd q (by simp); exact absurd q (by simp only; omega); exact h3 q)]
      have hlen : ((l.drop i).take (1 + l.getD i 0)).length = 1 + l.getD i 0 := by rw [List.length_take, List.length_drop]; omega
      have htl : (l.drop (i + 1)).take (l.getD i 0) = ((l.drop i).take (1 + l.getD i 0)).drop 1 := by
        rw [List.drop_take, List.drop_drop, Nat.add_sub_cancel_left]
      have C2 := Lib.hid (fun W (hW : Rf W p (i, false) l) => take_good p (1 + l.getD i 0) i l W hW (by omega) (by omega) hl h3)
      unfold TakeGood at C2
      rw [hn, htl]
      clear hL hB hc hn h2 h3 htl
      generalize hr : (l.drop i).take (1 + l.getD i 0) = r at *
      generalize i + (1 + l.getD i 0) = z at *
      clear hr
      generalize l.getD i 0 = y at *
      go_enter Tryz.func55, Tryz.ntmps55
      go_wp2_with fail
      go_quiet (fail)
      go_wp2_with fail
      go_quiet (fail)
      have c2 := fun q => C2.out _ (HR.out.drewN q)
      rw [show ((1 + y : Nat) : Int) = 1 + (y : Int) from by omega] at c2
      have C3 := Lib.hid c2
      clear c2
      go_wp2_with fail
      with_reducible refine (C3.out _).mono ?_
      rintro e w3 ⟨v, rfl, hO3, hR3, hg3⟩
      have HR3 := Lib.hid hR3
      have HLEN := Lib.hid hlen
      obtain ⟨g, cap, rfl, hBr, hcp, hcm⟩ := hO3.some_ (by omega)
      have HT := Lib.hid (own_tail hO3 (by omega))
      obtain ⟨t, ht⟩ : ∃ t, r.length = t := ⟨_, rfl⟩
      rw [ht] at HT hcp hlen ⊢
      have b1 : (1 : Int) ≤ (t : Int) := by omega
      have b2 : (t : Int) ≤ (cap : Int) := by omega
      have HG3 := Lib.hid ((grown_drewN (World.grownBy.refl w _) _).trans hg3)
      clear hR3 hO3 hBr ht hlen HLEN
      by_cases hcap : cap = 1
      · rw [if_pos hcap] at HT
        subst hcap
        have ht1 : t = 1 := by omega
        subst ht1
        go_wp2
        go_ret
        exact ⟨_, rfl, HT.out, HR3.out, HG3.out⟩
      · rw [if_neg hcap] at HT
        go_wp2
        go_ret
        exact ⟨_, rfl, HT.out, HR3.out, HG3.out⟩
  · have hn : Ent.rtxt l (i, sh) = ([], (i, true)) := by
      unfold Ent.rtxt
      rw [if_pos (.inr (.inl (by simp only; omega)))]
    have C2 := Lib.hid (fun W (hW : Rf W p (i, sh) l) => take_bad p 1 (i, sh) l W hW (by omega) hl (.inr (by simp only; omega)))
    unfold TakeBad at C2
    rw [show ((1 : Nat) : Int) = 1 from rfl] at C2
    rw [hn]
    have hq1 : ¬ (i : Int) < (l.length : Int) := by omega
    clear hL hB hn
    go_enter Tryz.func55, Tryz.ntmps55
    go_wp2_with fail
    go_quiet (fail)
    have C3 := Lib.hid (fun q => C2.out _ (HR.out.drewN q))
    go_wp2_with fail
    with_reducible refine (C3.out _).mono ?_
    rintro e w3 ⟨rfl, hR3, hg3⟩
    have HR3 := Lib.hid hR3
    clear hR3
    go_wp2
    go_ret
    exact ⟨_, rfl, Tx.nil _ _, HR3.out, (grown_drewN (World.grownBy.refl w _) _).trans hg3⟩

end Go.Proofs.YtpbclmnhkmcknaaGreat.Fe
