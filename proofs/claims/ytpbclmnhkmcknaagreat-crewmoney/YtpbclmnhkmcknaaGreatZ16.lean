/-
  Texts of one proof, in their order: StGoods, PuLayS, PuCmp, PuRowE, PuMet.
-/
import Derived.Shelf.SlSortCmp.NoneTotal
import Derived.Lib.Bytealg
import Derived.Lib.Walk
import Derived.Maps.AppendAt
import Derived.Laws.MakeOwn
import Derived.Sort.OwnSorted
import Derived.Test.YtpbclmnhkmcknaaGreatZ15
namespace Go.Proofs.YtpbclmnhkmcknaaGreat.St
open Go.Proofs Go.RowKit Go.Maps
set_option maxRecDepth 100000
set_option linter.unusedVariables false
set_option linter.unusedSimpArgs false

def GoodsPost (w : World) (K : List Kd) (e : Ending) (w' : World) : Prop := ∃ v, e = .returned v ∧ OwnG w' w.heap.size v (goodsL K) ∧ Below w.heap.size w w'

/-- The cells of n new goods. -/
def mrowG (n : Nat) : Array Value := madeCells #[.string ⟨#[]⟩, .int .i64 0] (n * 2)
theorem run_mrowG (n : Nat) (hn : n ≤ 1000000) (w : World) : (Instr.makeSlice 39 (.int .i64 0) (.int .i64 (n : Int))).run Tryz.prog w = .ok (.slice (some ⟨w.heap.size, 0, none⟩) 0 n) (w.alloc (.cells (mrowG n) 90)) := by
  have := run_make (P := Tryz.prog) w 39 90 _ (.agg #[.string ⟨#[]⟩, .int .i64 0]) Tryz.underlying39 Tryz.type90 rfl .i64 .i64 0 (n : Int) (by omega) (by omega) (by show (24 : Int) * (n : Int) ≤ _; omega) (by omega)
  rw [this]
  show Result.ok (Value.slice _ (0 : Int).toNat (n : Int).toNat) (w.alloc (.cells (madeCells #[.string ⟨#[]⟩, .int .i64 0] ((n : Int).toNat * 2)) 90)) = _
  rw [Int.toNat_natCast]
  rfl

def GR (w0 : World) (b : SB) (q : Ss) (D : DataW Unit) (r : Nat) (v3 : Value) (wr : World) : Prop :=
  ∃ left cnt L, wr.ranges Tryz.prog 9 rK b.k r (Maps.size D) D left cnt ∧ MetK q.K left L ∧ L.length + cnt ≤ 1000 ∧ OwnG wr w0.heap.size v3 (goodsL L) ∧ Below w0.heap.size w0 wr ∧ r < wr.heap.size ∧ w0.heap.size ≤ r

set_option maxHeartbeats 4000000 in
theorem goods_any (b : SB) (q : Ss) (w : World) (hA : At w b q) (hs : KSort q.K) (hl : q.K.length ≤ 1000) : Calls Tryz.prog 76 #[.pointer (some ⟨b.s, 0, none⟩)] w (GoodsPost w q.K) := by
  have HA := Lib.hid hA
  have HS := Lib.hid hs
  obtain ⟨c0, c1⟩ := hA.c.cells2
  have r1 := hA.ok.len 3
  have r2 := fun W => run_mrowG q.K.length (by omega) W
  have HA1 := Lib.hid (hA.alloc (.cells (mrowG q.K.length) 90))
  obtain ⟨D, hD1, hD2, hD3⟩ := HA1.out.ok
  obtain ⟨d0, d1⟩ := HA1.out.c.cells2
  have HD1 := Lib.hid hD1
  have HD2 := Lib.hid hD2
  have HD3 := Lib.hid hD3
  clear hA hs hD1 hD2 hD3
  go_enter Tryz.func76, Tryz.ntmps76
  go_wp2_with (at_range; refine wpList_range_own _ rfl _ 172 rfl 9 178 lawK Tryz.underlying172 rK b.k (Maps.size D) D rfl HD1.out ?_; intro y hrg0 hg0 hs0)
  go_frame
  rw [size_one] at hrg0 hs0
  rw [size_one]
  have RG := Lib.hid hrg0
  have BY : Hid (Below w.heap.size w y) := Lib.hid ((below1 w (.cells (mrowG q.K.length) 90)).grown hg0 (by simp) (fun k hk => by cases hk))
  have HAy : Hid (At y b q) := Lib.hid (HA1.out.below ⟨hg0.os, hg0.tape, hg0.output, hg0.size, fun k hk => hg0.block k hk (by simp)⟩)
  have OY : Hid (OwnG y w.heap.size (.slice (some ⟨w.heap.size, 0, none⟩) 0 q.K.length) []) := Lib.hid ((OwnE.made w w.heap.size q.K.length _ (Nat.le_refl _) (by unfold maxLen; omega)).grown hg0 (fun b hb => by simp))
  have HYZ : Hid (y.heap.size = w.heap.size + 1 + 1) := Lib.hid hs0
  clear hrg0 hg0 hs0 r1 r2 HA1 HD1 c0 c1 d0 d1
  go_loopw [3, 4, 5] (fun v3 _ _ wr => GR w b q D (w.heap.size + 1) v3 wr) (fun _ _ _ wr => wr.rangeLeft b.k (w.heap.size + 1))
  case atStart =>
    refine ⟨_, _, [], RG.out, MetK.start HD2.out HS.out, ?_, OY.out, BY.out, by rw [HYZ.out]; omega, by omega⟩
    rw [HD3.out]; simp; omega
  case round =>
    obtain ⟨left, cnt, L, hrg, hM, hc, hO, hB, hr1, hr2⟩ := hrel
    have HM := Lib.hid hM
    have HO := Lib.hid hO
    have HB := Lib.hid hB
    have HRG := Lib.hid hrg
    clear hrg hM hO hB
    go_wp2_with (at_next; refine wpList_next_ranges _ rfl _ rfl 9 lawK rK encStr vK (fun key kl hk => by obtain ⟨x, hx, _⟩ := Maps.keyOf_str Tryz.underlying9 hk; exact ⟨x, hx⟩) (fun v y hv => by obtain ⟨c, rfl, _⟩ := rK_inv hv; exact ⟨c, rfl⟩) b.k (w.heap.size + 1) (Maps.size D) _ _ _ rfl HRG.out ?_ ?_)
    · intro hc0 hl0
      have HL0 := Lib.hid hl0
      clear hl0
      go_wp2_with fail
      with_reducible refine (sortG_any w.heap.size u3 (goodsL L) wr HO.out (by unfold goodsL; rw [List.length_map]; omega)).mono ?_
      rintro e w5 ⟨rfl, l', h1, h2, h3, h4⟩
      have HE := Lib.hid (goods_eq HS.out (HM.out.perm HS.out HL0.out) h1 h2)
      have HO5 := Lib.hid h3
      have HB5 := Lib.hid (HB.out.grown h4 (by omega) (fun k hk => (HO.out.block k hk).1))
      clear h1 h2 h3 h4
      go_wp2
      go_ret
      exact ⟨_, rfl, by rw [← HE.out]; exact HO5.out, HB5.out⟩
    · intro x c kl yd yp w2 cnt2 hkey hlk hv hat hrg2 hlt hg2 hs2 hen
      obtain ⟨x', ex, rfl, hxl⟩ := Maps.keyOf_str Tryz.underlying9 hkey
      obtain rfl : x = x' := encStr_inj ex
      rw [rK_mk] at hv
      obtain ⟨rfl, rfl⟩ : dK c = yd ∧ [] = yp := by simpa using hv
      obtain ⟨hcK, rfl⟩ := HD2.out.entry hat
      have HM2 := Lib.hid (HM.out.step HS.out hcK hlk)
      have HNI : Hid (some (w.heap.size + 1) ≠ u3.ownBlock) := Lib.hid (row_ne_iter HO.out HRG.out)
      have HO2 := Lib.hid (HO.out.grown hg2 (fun b hb e => HNI.out (e.symm.trans hb.symm)))
      have HRG2 := Lib.hid hrg2
      have HB2 := Lib.hid (HB.out.grown hg2 (Nat.le_of_lt (Nat.lt_of_le_of_lt hr2 hr1)) (fun k hk => by injection hk with hk; omega))
      have HZ2 := Lib.hid hs2
      have HLT := Lib.hid hlt
      clear hkey hlk hv hat hrg2 hlt hg2 hs2 ex
      have HO3 := Lib.hid ((HO2.out.alloc (.cells #[encStr c.n, .int .i64 c.f, .int .i64 c.g] 178)).alloc (.cells #[encStr c.n, .int .i64 c.f] 90))
      have LN := Lib.hid (Lies.made2 w2 (.cells #[encStr c.n, .int .i64 c.f, .int .i64 c.g] 178) 90 #[encStr c.n, .int .i64 c.f])
      have HSM : Hid ((goodsL L).length ≤ 100000) := Lib.hid (by unfold goodsL; rw [List.length_map]; omega)
      have HBZ : Hid (w.heap.size ≤ ((w2.alloc (.cells #[encStr c.n, .int .i64 c.f, .int .i64 c.g] 178)).alloc (.cells #[encStr c.n, .int .i64 c.f] 90)).heap.size) := Lib.hid (by simp; have := HZ2.out; omega)
      go_wp2_with (first
        | ((with_reducible refine wpl_appG (some 31) _ _ _ (.tmp 24) (.tmp 30) w.heap.size u3 (goodsL L) (w2.heap.size + 1) c.n c.f ?hs ?hx HO3.out LN.out HSM.out HBZ.out ?_); (case hs => rfl); (case hx => rfl); (intro v4 w4 ho4 hg4 hb4)))
      go_roundw
      case rel =>
        have hbk : b.k < w.heap.size := HA.out.ok.lt
        have e1 := fun k (h : u3.ownBlock = some k) => (HO.out.block k h).1
        refine ⟨_, _, L ++ [c], ((HRG2.out.alloc _).alloc _).kept hg4 (fun e => by have := e1 _ e.symm; omega) HNI.out, HM2.out, ?_, by unfold goodsL at ho4 ⊢; rw [List.map_append]; exact ho4, ?_, ?_, hr2⟩
        · have := HLT.out
          rw [List.length_append]; simp; omega
        · exact (((HB2.out.alloc (by have := HZ2.out; omega) _).alloc (by have := HZ2.out; simp; omega) _).grown hg4 HBZ.out (fun k hk => e1 k hk))
        · have := hg4.size
          have h2 := HZ2.out
          simp at this
          omega
      case measure =>
        rw [(((HRG2.out.alloc _).alloc _).kept hg4 (fun e => by have := (HO.out.block _ e.symm).1; have hbk : b.k < w.heap.size := HA.out.ok.lt; omega) HNI.out).left_eq, HRG.out.left_eq]
        exact HLT.out

end Go.Proofs.YtpbclmnhkmcknaaGreat.St

namespace Go.Proofs.YtpbclmnhkmcknaaGreat.Pu
open Go.Proofs Go.Shelf Go.RowKit Go.Lib Go.Sort
set_option maxRecDepth 100000

def sortGoodR : Ren where
  f := fun x => match x with
    | 6 => 120
    | 15 => 144
    | 14 => 146
    | 28 => 174
    | 29 => 175
    | 20 => 177
    | 21 => 178
    | 22 => 179
    | 23 => 180
    | 24 => 181
    | 25 => 182
    | 26 => 183
    | 27 => 184
    | 46 => 203
    | 47 => 199
    | 48 => 200
    | 49 => 204
    | 50 => 205
    | 57 => 208
    | n => n
  t := fun x => match x with
    | 22 => 40
    | 24 => 87
    | 25 => 223
    | 3 => 3
    | 39 => 226
    | 0 => 0
    | 53 => 52
    | 55 => 53
    | 4 => 4
    | 46 => 256
    | 45 => 255
    | 50 => 201
    | 5 => 5
    | 9 => 9
    | 66 => 284
    | 70 => 288
    | 76 => 294
    | 77 => 214
    | n => n
  g := fun n => n
theorem sortGoodL : SlLaysF0.n6 Tryz.prog sortGoodR where
  mixed := by kernel_rfl
  f6 := ⟨Tryz.f120.name, by kernel_rfl, Tryz.func120.trans (congrArg some (by kernel_rfl))⟩
  f14 := ⟨Tryz.f146.name, by kernel_rfl, Tryz.func146.trans (congrArg some (by kernel_rfl))⟩
  f15 := Tryz.func144.trans (congrArg some (by kernel_rfl))
  f20 := ⟨Tryz.f177.name, by kernel_rfl, Tryz.func177.trans (congrArg some (by kernel_rfl))⟩
  f21 := ⟨Tryz.f178.name, by kernel_rfl, Tryz.func178.trans (congrArg some (by kernel_rfl))⟩
  f22 := ⟨Tryz.f179.name, by kernel_rfl, Tryz.func179.trans (congrArg some (by kernel_rfl))⟩
  f23 := ⟨Tryz.f180.name, by kernel_rfl, Tryz.func180.trans (congrArg some (by kernel_rfl))⟩
  f24 := ⟨Tryz.f181.name, by kernel_rfl, Tryz.func181.trans (congrArg some (by kernel_rfl))⟩
  f25 := ⟨Tryz.f182.name, by kernel_rfl, Tryz.func182.trans (congrArg some (by kernel_rfl))⟩
  f26 := ⟨Tryz.f183.name, by kernel_rfl, Tryz.func183.trans (congrArg some (by kernel_rfl))⟩
  f27 := ⟨Tryz.f184.name, by kernel_rfl, Tryz.func184.trans (congrArg some (by kernel_rfl))⟩
  f28 := Tryz.func174.trans (congrArg some (by kernel_rfl))
  f29 := Tryz.func175.trans (congrArg some (by kernel_rfl))
  f46 := ⟨Tryz.f203.name, by kernel_rfl, Tryz.func203.trans (congrArg some (by kernel_rfl))⟩
  f47 := Tryz.func199.trans (congrArg some (by kernel_rfl))
  f48 := Tryz.func200.trans (congrArg some (by kernel_rfl))
  f49 := ⟨Tryz.f204.name, by kernel_rfl, Tryz.func204.trans (congrArg some (by kernel_rfl))⟩
  f50 := ⟨Tryz.f205.name, by kernel_rfl, Tryz.func205.trans (congrArg some (by kernel_rfl))⟩
  f57 := ⟨Tryz.f208.name, by kernel_rfl, Tryz.func208.trans (congrArg some (by kernel_rfl))⟩
  t0 := Tryz.underlying0
  a0 := Tryz.isAgg0
  z0 := Tryz.sizeOf0
  v0 := Tryz.zeroValue0
  t3 := Tryz.underlying3
  a3 := Tryz.isAgg3
  z3 := Tryz.sizeOf3
  v3 := Tryz.zeroValue3
  t4 := Tryz.underlying4
  a4 := Tryz.isAgg4
  z4 := Tryz.sizeOf4
  v4 := Tryz.zeroValue4
  t5 := Tryz.underlying5
  a5 := Tryz.isAgg5
  z5 := Tryz.sizeOf5
  v5 := Tryz.zeroValue5
  t9 := Tryz.underlying9
  a9 := Tryz.isAgg9
  z9 := Tryz.sizeOf9
  v9 := Tryz.zeroValue9
  t22 := Tryz.underlying40
  a22 := Tryz.isAgg40
  z22 := Tryz.sizeOf40
  v22 := Tryz.zeroValue40
  t25 := Tryz.underlying223
  a25 := Tryz.isAgg223
  z25 := Tryz.sizeOf223
  v25 := Tryz.zeroValue223
  t39 := Tryz.underlying226
  a39 := Tryz.isAgg226
  z39 := Tryz.sizeOf226
  v39 := Tryz.zeroValue226
  t45 := Tryz.underlying255
  a45 := Tryz.isAgg255
  z45 := Tryz.sizeOf255
  v45 := Tryz.zeroValue255
  t46 := Tryz.underlying256
  a46 := Tryz.isAgg256
  z46 := Tryz.sizeOf256
  v46 := Tryz.zeroValue256
  t50 := Tryz.underlying201
  a50 := Tryz.isAgg201
  z50 := Tryz.sizeOf201
  v50 := Tryz.zeroValue201
  t53 := Tryz.underlying52
  a53 := Tryz.isAgg52
  z53 := Tryz.sizeOf52
  v53 := Tryz.zeroValue52
  t55 := Tryz.underlying53
  a55 := Tryz.isAgg53
  z55 := Tryz.sizeOf53
  v55 := Tryz.zeroValue53
  t66 := Tryz.underlying284
  a66 := Tryz.isAgg284
  z66 := Tryz.sizeOf284
  v66 := Tryz.zeroValue284
  t70 := Tryz.underlying288
  a70 := Tryz.isAgg288
  z70 := Tryz.sizeOf288
  v70 := Tryz.zeroValue288
  t76 := Tryz.underlying294
  a76 := Tryz.isAgg294
  z76 := Tryz.sizeOf294
  v76 := Tryz.zeroValue294
  t77 := Tryz.underlying214
  a77 := Tryz.isAgg214
  z77 := Tryz.sizeOf214
  v77 := Tryz.zeroValue214

end Go.Proofs.YtpbclmnhkmcknaaGreat.Pu

namespace Go.Proofs.YtpbclmnhkmcknaaGreat.Pu
open Go.Proofs Go.Shelf Go.RowKit Go.Lib Go.Sort
set_option maxRecDepth 100000
set_option linter.unusedVariables false
set_option linter.unusedSimpArgs false

theorem cmpB_lt : ∀ a b : List UInt8, Lib.compareBytes a b < 0 ↔ a < b
  | [], [] => by simp [Lib.compareBytes]
  | [], _ :: _ => by simp [Lib.compareBytes]
  | _ :: _, [] => by simp [Lib.compareBytes]
  | a :: ra, b :: rb => by
    unfold Lib.compareBytes
    rw [List.cons_lt_cons_iff]
    by_cases h : a < b
    · simp [h]
    · rw [if_neg h]
      by_cases h2 : b < a
      · rw [if_pos h2]
        simp only [h, false_or]
        constructor
        · intro h3; omega
        · rintro ⟨rfl, _⟩; exact absurd h2 (UInt8.lt_irrefl _)
      · rw [if_neg h2, cmpB_lt ra rb]
        have : a = b := UInt8.le_antisymm (UInt8.not_lt.1 h2) (UInt8.not_lt.1 h)
        simp [h, this]

theorem cmp47 (a b : List UInt8) (w : World) :
    Calls Tryz.prog 145 #[encStr a, encStr b] w fun e w' => e = .returned (.int .i64 (Lib.compareBytes a b)) ∧ w = w' := by
  go_enter Tryz.func145, Tryz.ntmps145
  go_wp2
  rw [run_callFunc_extern Tryz.func176 (by kernel_rfl) (by kernel_rfl) (by kernel_rfl) (e := Extern.BytealgCompare.compare) (by kernel_rfl), Lib.run_compareString]
  simp only [Result.andThen]
  rw [Oper.upon_value]
  go_wp2
  go_ret
  exact ⟨rfl, rfl⟩
theorem cmp34 (a b : List UInt8) (w : World) :
    Calls Tryz.prog 119 #[encStr a, encStr b] w fun e w' => e = .returned (.int .i64 (Lib.compareBytes a b)) ∧ w = w' := by
  have C := cmp47 a b w
  generalize Lib.compareBytes a b = r at *
  go_enter Tryz.func119, Tryz.ntmps119
  go_wp2_with fail
  with_reducible refine C.mono ?_
  rintro e w' ⟨rfl, rfl⟩
  go_wp2
  go_ret
  exact ⟨rfl, rfl⟩
theorem cmp37 (x y : Int) (w : World) :
    Calls Tryz.prog 148 #[.int .u32 x, .int .u32 y] w fun e w' => e = .returned (.int .i64 (Lib.compareInt x y)) ∧ w = w' := by
  go_enter Tryz.func148, Tryz.ntmps148
  go_wp2
  all_goals (go_ret; refine ⟨?_, rfl⟩; unfold Lib.compareInt; (repeat' split) <;> first | rfl | (exfalso; omega))

def encG (x : Kd) : List Value := [encStr x.n, .int .i64 x.m, .int .i64 x.h]
def encH (h : Hd) : List Value := [.int .u32 (h.o : Int), encStr h.n, .int .i64 h.k, .int .i64 (h.t : Int)]
def cfG (x y : Kd) : Int := Lib.compareBytes x.n y.n
def cfH (x y : Hd) : Int := Lib.compareInt x.o y.o

theorem close33 (x y : Kd) (W : World) : Calls Tryz.prog 121 #[.agg #[encStr x.n, .int .i64 x.m, .int .i64 x.h], .agg #[encStr y.n, .int .i64 y.m, .int .i64 y.h]] W fun e w' => e = .returned (.int .i64 (cfG x y)) ∧ ∃ q os', w' = grow (W.drewN q) os' := by
  have C := fun W => cmp34 x.n y.n W
  unfold cfG
  generalize Lib.compareBytes x.n y.n = r at *
  go_enter Tryz.func121, Tryz.ntmps121
  go_wp2_with (go_at_call 119; refine (C _).mono ?_; rintro e w' ⟨rfl, rfl⟩)
  go_ret
  exact ⟨rfl, 0, _, by rw [alloc_eq_grow, alloc_eq_grow, grow_grow]; rfl⟩
theorem ltG (x y : Kd) : ltOf cfG x y = decide (x.n < y.n) := by
  unfold ltOf cfG
  by_cases h : x.n < y.n
  · have := (cmpB_lt _ _).2 h; simp [h, this]
  · have : ¬ Lib.compareBytes x.n y.n < 0 := fun h' => h ((cmpB_lt x.n y.n).1 h'); simp only [h, this, decide_false]
theorem ltH (x y : Hd) : ltOf cfH x y = decide (x.o < y.o) := by
  unfold ltOf cfH Lib.compareInt
  by_cases h1 : x.o < y.o
  · simp [h1]
  · by_cases h2 : y.o < x.o <;> simp [h1, h2]
theorem swoG : SWO (ltOf cfG) where
  irrefl x := by rw [ltG]; exact decide_eq_false (nm_irrefl x.n)
  trans x y z h1 h2 := by rw [ltG] at *; simp at *; exact nm_trans h1 h2
  ntrans x y z h1 h2 := by
    rw [ltG] at *
    simp at *
    exact List.le_trans h2 h1
theorem swoH : SWO (ltOf cfH) where
  irrefl x := by rw [ltH]; simp
  trans x y z h1 h2 := by rw [ltH] at *; simp at *; omega
  ntrans x y z h1 h2 := by rw [ltH] at *; simp at *; omega

end Go.Proofs.YtpbclmnhkmcknaaGreat.Pu

namespace Go.Proofs.YtpbclmnhkmcknaaGreat.Pu
open Go.Proofs Go.Shelf Go.RowKit Go.Lib Go.Sort
set_option maxRecDepth 100000
set_option linter.unusedVariables false
set_option linter.unusedSimpArgs false

section
variable {α : Type} (enc : α → List Value) (e : TypeId) (k : Nat)

/-- The cells of these elements. -/
def flat (l : List α) : List Value := l.flatMap enc
variable {enc} {k}
theorem flat_len (hk : ∀ x, (enc x).length = k) : ∀ l : List α, (flat enc l).length = l.length * k
  | [] => by simp [flat]
  | x :: r => by
    have := flat_len hk r
    unfold flat at this ⊢
    rw [List.flatMap_cons, List.length_append, this, hk, List.length_cons, Nat.add_mul]; omega
theorem flat_get (hk : ∀ x, (enc x).length = k) : ∀ (l : List α) (i : Nat) (hi : i < l.length) (j : Nat), j < k → (flat enc l)[i * k + j]? = (enc (l[i]'hi))[j]?
  | [], i, hi, _, _ => absurd hi (by simp)
  | x :: r, 0, hi, j, hj => by
    unfold flat
    rw [List.flatMap_cons, List.getElem?_append_left (by rw [hk]; omega)]
    simp
  | x :: r, i + 1, hi, j, hj => by
    have := flat_get hk r i (by simpa using hi) j hj
    unfold flat at this ⊢
    rw [List.flatMap_cons, List.getElem?_append_right (by rw [hk, Nat.add_mul]; omega), hk]
    rw [show (i + 1) * k + j - k = i * k + j from by rw [Nat.add_mul]; omega, this]
    simp
theorem flat_flatK [Inhabited α] (hk : ∀ x, (enc x).length = k) (hk0 : 0 < k) (l : List α) : flatK enc k l.toArray = (flat enc l).toArray := by
  have hl := flat_len hk l
  refine ext_get! (by rw [size_flatK]; simp [hl]) fun t ht => ?_
  have ht' : t < l.length * k := by simpa using ht
  rw [get_flatK _ _ _ t (by simpa using ht')]
  have hq : t / k < l.length := Nat.div_lt_of_lt_mul (by rw [Nat.mul_comm]; exact ht')
  have hm : t % k < k := Nat.mod_lt _ hk0
  have h := flat_get hk l (t / k) hq (t % k) hm
  rw [show t / k * k + t % k = t from by rw [Nat.mul_comm]; exact Nat.div_add_mod t k] at h
  have e1 : l.toArray[t / k]! = l[t / k] := by simp [hq]
  rw [e1]
  have h2 : t < (flat enc l).length := by rw [hl]; exact ht'
  have e2 : (flat enc l).toArray[t]! = (flat enc l)[t] := by simp [h2]
  rw [e2]
  have h3 : t % k < (enc l[t / k]).length := by rw [hk]; exact hm
  rw [List.getElem?_eq_getElem h2, List.getElem?_eq_getElem h3] at h
  have e3 : (enc l[t / k])[t % k]! = (enc l[t / k])[t % k] := by simp [h3]
  rw [e3]
  exact (Option.some.inj h).symm

variable (enc) (k)
/-- The slice v owns a row, not below B, that reads as l. -/
def OwnE (w : World) (B : Nat) (v : Value) (l : List α) : Prop := w.ownsRow B e k v l.length (flat enc l)
variable {enc} {e} {k}

theorem OwnE.form {w : World} {B : Nat} {v : Value} {l : List α} (h : OwnE enc e k w B v l) :
    (v = .slice none 0 0 ∧ l = []) ∨ ∃ g cap cur, v = .slice (some ⟨g, 0, none⟩) l.length cap ∧ B ≤ g ∧ Lies w g e cur ∧ l.length ≤ cap ∧ cap ≤ maxLen ∧ cur.size = cap * k ∧ cur.toList.take (l.length * k) = flat enc l := by
  obtain ⟨_, h1 | ⟨g, cap, cur, hv, hb, hg, hn, hm, hs, ht⟩⟩ := h
  · exact .inl ⟨h1.1, List.eq_nil_of_length_eq_zero h1.2⟩
  · exact .inr ⟨g, cap, cur, hv, hb, hg, hn, hm, hs, ht⟩
theorem OwnE.nil (w : World) (B : Nat) : OwnE enc e k w B (.slice none 0 0) [] := ⟨by simp [flat], .inl ⟨rfl, rfl⟩⟩
theorem OwnE.made (w : World) (B n : Nat) (z : Array Value) (hB : B ≤ w.heap.size) (hn : n ≤ maxLen) : OwnE enc e k (w.alloc (.cells (madeCells z (n * k)) e)) B (.slice (some ⟨w.heap.size, 0, none⟩) 0 n) [] :=
  World.ownsRow_made w _ n hB hn (size_madeCells _ _)
theorem OwnE.block {w : World} {B : Nat} {v : Value} {l : List α} (h : OwnE enc e k w B v l) : ∀ b, v.ownBlock = some b → B ≤ b ∧ b < w.heap.size := by
  intro b hb
  rcases h.form with ⟨rfl, _⟩ | ⟨g, cap, cur, rfl, h1, h2, _⟩
  · cases hb
  · have : g = b := by simpa [Value.ownBlock] using hb
    subst this
    exact ⟨h1, h2.lt⟩
theorem OwnE.same {w w' : World} {B : Nat} {v : Value} {l : List α} (h : OwnE enc e k w B v l) (hb : ∀ b, v.ownBlock = some b → w'.heap[b]? = w.heap[b]?) : OwnE enc e k w' B v l := by
  obtain ⟨h0, h1⟩ := h
  refine ⟨h0, ?_⟩
  rcases h1 with h1 | ⟨g, cap, cur, rfl, r1, r2, r3⟩
  · exact .inl h1
  · exact .inr ⟨g, cap, cur, rfl, r1, (hb g rfl).trans r2, r3⟩
theorem OwnE.grown {w w' : World} {B : Nat} {v : Value} {l : List α} {row : Option Nat} (h : OwnE enc e k w B v l) (hg : w.grownBy w' row) (hne : ∀ b, v.ownBlock = some b → some b ≠ row) : OwnE enc e k w' B v l :=
  h.same fun b hb => hg.block b (h.block b hb).2 (hne b hb)
theorem OwnE.below {w w' : World} {B : Nat} {v : Value} {l : List α} (h : OwnE enc e k w B v l) (hb : Below w.heap.size w w') : OwnE enc e k w' B v l :=
  h.same fun b hv => hb.block b (h.block b hv).2
theorem OwnE.alloc {w : World} {B : Nat} {v : Value} {l : List α} (h : OwnE enc e k w B v l) (o : Obj) : OwnE enc e k (w.alloc o) B v l := h.below (below1 w o)
theorem OwnE.drew {w : World} {B : Nat} {v : Value} {l : List α} (h : OwnE enc e k w B v l) : OwnE enc e k w.drew B v l := h
theorem OwnE.low {w : World} {B B' : Nat} {v : Value} {l : List α} (h : OwnE enc e k w B v l) (hB : B' ≤ B) : OwnE enc e k w B' v l := by
  obtain ⟨h0, h1⟩ := h
  refine ⟨h0, ?_⟩
  rcases h1 with h1 | ⟨g, cap, cur, rfl, r1, r2⟩
  · exact .inl h1
  · exact .inr ⟨g, cap, cur, rfl, Nat.le_trans hB r1, r2⟩
/-- Element i's cell j. -/
theorem OwnE.cell {w : World} {B : Nat} {A : Option Addr} {n c : Nat} {l : List α} (h : OwnE enc e k w B (.slice A n c) l) (hk : ∀ x, (enc x).length = k) : n = l.length ∧ n ≤ c ∧ c ≤ maxLen ∧ (A = none → n = 0) ∧
    ∀ (i : Nat) (hi : i < l.length), ∃ g, A = some ⟨g, 0, none⟩ ∧ B ≤ g ∧ g < w.heap.size ∧ ∀ j, j < k → w.cell? ⟨g, i * k + j, none⟩ = (enc (l[i]'hi))[j]? ∧ w.frozen? ⟨g, i * k + j, none⟩ = false := by
  rcases h.form with ⟨hv, hl⟩ | ⟨g, cap, cur, hv, h1, h2, h3, h4, h5, h6⟩
  · injection hv with q1 q2 q3
    subst q1 q2 q3 hl
    exact ⟨rfl, Nat.le_refl _, by unfold maxLen; omega, fun _ => rfl, fun i hi => absurd hi (by simp)⟩
  · injection hv with q1 q2 q3
    subst q1 q2 q3
    refine ⟨rfl, h3, h4, (fun h => by cases h), fun i hi => ⟨g, rfl, h1, h2.lt, fun j hj => ⟨?_, h2.free _⟩⟩⟩
    rw [h2.cell, ← flat_get hk l i hi j hj, ← h6, List.getElem?_take_of_lt, Array.getElem?_toList]
    have := Nat.mul_le_mul_right k (show i + 1 ≤ l.length from hi)
    rw [Nat.add_mul] at this
    omega

/-- 'append' of one element. -/
theorem wpl_app1 (t : TypeId) (inf : TypeInfo) (z : Value) (by_ : Nat) (ht : Tryz.prog.underlying t = some (.slice e)) (hi : Tryz.prog.info? e = some inf) (hz : inf.zero = some z) (hsz : inf.size = k) (hby : inf.bytes = by_) (hzs : z.cells.size = k) (hk0 : 0 < k) (hb48 : by_ ≤ 1000)
    (hk : ∀ x, (enc x).length = k) (h1c : ∀ x, ∀ v ∈ enc x, v.oneCell' = true)
    {ops : Array Oper} {rest : List Oper} {a : Act} {w : World} {Q : Exit → Act → World → Prop} (dst : Option Tmp) (ty : TypeId) (pos : String) (aft : Array Edge) (s x : Operand)
    (B : Nat) (v : Value) (l : List α) (g : Nat) (y : α)
    (hs : a.eval s = v) (hx : a.eval x = .slice (some ⟨g, 0, none⟩) 1 1) (hown : OwnE enc e k w B v l) (hsrc : Lies w g e (enc y).toArray) (hsm : l.length ≤ 100000) (hB : B ≤ w.heap.size)
    (h : ∀ v' w', OwnE enc e k w' B v' (l ++ [y]) → w.grownBy w' v.ownBlock → (v'.ownBlock = v.ownBlock ∨ v'.ownBlock = some w.heap.size) → wpList Tryz.prog ops Q rest (a.put dst v') w') :
    wpList Tryz.prog ops Q (⟨dst, .call { callee := .builtin .append, args := #[s, x], argTypes := #[t, t] }, ty, pos, aft, none⟩ :: rest) a w := by
  refine wpList_append_own_at (w := w) (o := ⟨dst, .call { callee := .builtin .append, args := #[s, x], argTypes := #[t, t] }, ty, pos, aft, none⟩) rfl s x t rfl B e inf z k by_ ht hi hz hsz hby hzs hk0 v l.length (flat enc l) hs hown
    ⟨g, 0, none⟩ 1 1 (enc y) hx (by rw [hk]; omega) (fun j u hu => ?_) (h1c y) (by unfold maxLen; omega) ?_ hB ?_
  · rw [Addr.add_mid, Nat.zero_add, hsrc.cell]
    simpa using hu
  · have : (l.length + 1) * by_ ≤ 100001 * 1000 := Nat.mul_le_mul (by omega) hb48
    omega
  · intro v' w' r1 r2 _ r4
    refine h v' w' ?_ r2 r4
    show w'.ownsRow B e k v' (l ++ [y]).length (flat enc (l ++ [y]))
    rw [List.length_append, show flat enc (l ++ [y]) = flat enc l ++ enc y from by simp [flat]]
    exact r1

/-- What a sort leaves. -/
theorem sorted_form [Inhabited α] {w : World} {g n : Nat} {os : Array Obj} {cur : Array Value} (d : List α) (hk : ∀ x, (enc x).length = k) (hk0 : 0 < k) (hb : Lies w g e cur) (hn : d.length * k ≤ cur.size) :
    ∃ cur', Lies (grow (putRowK enc k (Sort.ahead w n) g 0 d.toArray) os) g e cur' ∧ cur'.size = cur.size ∧ cur'.toList.take (d.length * k) = flat enc d := by
  have hg : g < w.heap.size := hb.lt
  refine ⟨putCells id 0 (flat enc d).toArray cur, ?_, by simp [putCells], ?_⟩
  · unfold Lies at hb ⊢
    rw [heap_grow_old _ _ (by simpa [putRowK] using hg)]
    unfold putRowK
    rw [flat_flatK hk hk0]
    simp [putRow, mapBlock, Sort.ahead, Array.getElem?_modify, hb, onCells]
  · have hl := flat_len hk d
    rw [← hl] at hn ⊢
    apply List.ext_getElem?
    intro j
    by_cases hj : j < (flat enc d).length
    · rw [List.getElem?_take_of_lt hj, Array.getElem?_toList]
      simp [putCells, hj, show j < cur.size by omega]
    · rw [List.getElem?_take_eq_none (by omega), List.getElem?_eq_none (by omega)]
theorem grownBy_sortK [Inhabited α] {w : World} {g n : Nat} {os : Array Obj} (d : Array α) : w.grownBy (grow (putRowK enc k (Sort.ahead w n) g 0 d) os) (some g) := by
  refine ⟨rfl, rfl, rfl, by simp [putRowK], fun i hi hne => ?_⟩
  rw [heap_grow_old _ _ (by simpa [putRowK] using hi)]
  have : g ≠ i := fun e => hne (by rw [e])
  simp [putRowK, putRow, mapBlock, Sort.ahead, Array.getElem?_modify, this]
theorem holdsK_of [Inhabited α] {w : World} {g : Nat} {cur : Array Value} {l : List α} (hk : ∀ x, (enc x).length = k) (hk0 : 0 < k) (hb : Lies w g e cur) (ht : cur.toList.take (l.length * k) = flat enc l) : HoldsK enc k w g 0 l.toArray := by
  unfold HoldsK
  rw [flat_flatK hk hk0]
  have hl := flat_len hk l
  intro j hj
  have hj' : j < (flat enc l).length := by simpa using hj
  refine ⟨?_, hb.free _⟩
  rw [Nat.zero_add, hb.cell]
  have h1 : (cur.toList.take (l.length * k))[j]? = (flat enc l)[j]? := by rw [ht]
  rw [List.getElem?_take_of_lt (by omega), Array.getElem?_toList] at h1
  rw [h1, List.getElem?_eq_getElem hj']
  simp [hj']

theorem perm_sorted [Inhabited α] {lt : α → α → Bool} {l : List α} {d' : Array α} (hp : PermIn 0 l.toArray.size l.toArray d') (hs : SortedIn lt 0 l.toArray.size d') :
    d'.toList.Perm l ∧ d'.toList.Pairwise (fun x y => lt y x = false) := by
  obtain ⟨hsz, _, hperm⟩ := hp
  have e1 : d'.extract 0 l.toArray.size = d' := by rw [← hsz]; exact Array.extract_size
  rw [e1, Array.extract_size] at hperm
  refine ⟨by simpa using hperm, ?_⟩
  rw [List.pairwise_iff_getElem]
  intro i j hi hj hij
  have hi' : i < d'.size := by simpa using hi
  have hj' : j < d'.size := by simpa using hj
  have := hs i j (Nat.zero_le _) hij (by omega)
  rw [getElem!_pos d' j hj', getElem!_pos d' i hi'] at this
  simpa using this
end

end Go.Proofs.YtpbclmnhkmcknaaGreat.Pu

namespace Go.Proofs.YtpbclmnhkmcknaaGreat.Pu
open Go.Proofs Go.RowKit Go.Maps
set_option maxRecDepth 100000
set_option linter.unusedVariables false
set_option linter.unusedSimpArgs false

/-! ### what was met in a range over a map -/
def MetK (K : List Kd) (left : Lit → Bool) (L : List Kd) : Prop := (L.map (·.n)).Nodup ∧ (∀ k ∈ L, k ∈ K ∧ left (.string k.n) = false) ∧ ∀ k ∈ K, left (.string k.n) = false → k ∈ L
def MetH (H : List Hd) (left : Lit → Bool) (L : List Hd) : Prop := (L.map (·.o)).Nodup ∧ (∀ k ∈ L, k ∈ H ∧ left (.int .u32 (k.o : Int)) = false) ∧ ∀ k ∈ H, left (.int .u32 (k.o : Int)) = false → k ∈ L

theorem MetK.start {D : DataW Unit} {K : List Kd} (h : KT D K) (hs : KSort K) : MetK K (Maps.has D) [] :=
  ⟨List.nodup_nil, (fun k hk => absurd hk (by simp)), fun k hk hf => by rw [h.has, hs.find hk] at hf; cases hf⟩
theorem MetH.start {D : DataW Unit} {H : List Hd} (h : HT D H) (hs : HSort H) : MetH H (Maps.has D) [] :=
  ⟨List.nodup_nil, (fun k hk => absurd hk (by simp)), fun k hk hf => by rw [h.has, hs.find hk] at hf; cases hf⟩
theorem KT.entry {D : DataW Unit} {K : List Kd} (h : KT D K) {x : List UInt8} {c : Kd} (hat : ∀ z, D.atKey (.string x) z = dK c) : c ∈ K ∧ c.n = x := by
  have h1 := h.find x
  cases hf : findK K x with
  | none =>
    rw [hf] at h1
    have := (h1 .nil).symm.trans (hat .nil)
    cases this
  | some k =>
    rw [hf] at h1
    have := dK_inj ((h1 .nil).symm.trans (hat .nil))
    subst this
    exact findK_some hf
theorem HT.entry {D : DataW Unit} {H : List Hd} (h : HT D H) {o : Nat} {c : Hd} (hat : ∀ z, D.atKey (.int .u32 (o : Int)) z = dH c) : ∃ y ∈ H, y.o = o ∧ y.n = c.n ∧ y.k = c.k := by
  have h1 := h.find o
  cases hf : findH H o with
  | none =>
    rw [hf] at h1
    have := (h1 .nil).symm.trans (hat .nil)
    cases this
  | some k =>
    rw [hf] at h1
    have := dH_inj ((h1 .nil).symm.trans (hat .nil))
    obtain ⟨hk, rfl⟩ := findH_some hf
    exact ⟨k, hk, rfl, this.1, this.2⟩
theorem MetK.step {K : List Kd} {left : Lit → Bool} {L : List Kd} (h : MetK K left L) (hs : KSort K) {c : Kd} (hc : c ∈ K) (hl : left (.string c.n) = true) : MetK K (fun z => left z && !z.sameKey (.string c.n)) (L ++ [c]) := by
  refine ⟨?_, ?_, ?_⟩
  · rw [List.map_append]
    refine List.nodup_append.2 ⟨h.1, by simp, fun a ha b hb => ?_⟩
    simp at hb
    subst hb
    obtain ⟨k, hk, rfl⟩ := List.mem_map.1 ha
    intro e
    have := (h.2.1 k hk).2
    rw [e, hl] at this
    cases this
  · intro k hk
    rcases List.mem_append.1 hk with hk | hk
    · exact ⟨(h.2.1 k hk).1, by simp only [(h.2.1 k hk).2, Bool.false_and]⟩
    · simp at hk; subst hk; exact ⟨hc, by simp [Lit.sameKey]⟩
  · intro k hk hf
    by_cases e : k.n = c.n
    · rw [hs.uniq hk hc e]; simp
    · refine List.mem_append_left _ (h.2.2 k hk ?_)
      simpa [Lit.sameKey, e] using hf
theorem MetH.step {H : List Hd} {left : Lit → Bool} {L : List Hd} (h : MetH H left L) (hs : HSort H) {c : Hd} (hc : c ∈ H) (hl : left (.int .u32 (c.o : Int)) = true) : MetH H (fun z => left z && !z.sameKey (.int .u32 (c.o : Int))) (L ++ [c]) := by
  refine ⟨?_, ?_, ?_⟩
  · rw [List.map_append]
    refine List.nodup_append.2 ⟨h.1, by simp, fun a ha b hb => ?_⟩
    simp at hb
    subst hb
    obtain ⟨k, hk, rfl⟩ := List.mem_map.1 ha
    intro e
    have := (h.2.1 k hk).2
    rw [e, hl] at this
    cases this
  · intro k hk
    rcases List.mem_append.1 hk with hk | hk
    · exact ⟨(h.2.1 k hk).1, by simp only [(h.2.1 k hk).2, Bool.false_and]⟩
    · simp at hk; subst hk; exact ⟨hc, by simp [Lit.sameKey]⟩
  · intro k hk hf
    by_cases e : k.o = c.o
    · rw [hs.uniq hk hc e]; simp
    · refine List.mem_append_left _ (h.2.2 k hk ?_)
      have e' : ¬ (k.o : Int) = (c.o : Int) := by omega
      simpa [Lit.sameKey, e, e'] using hf
theorem nodup_of_map {α β : Type} (f : α → β) : ∀ {l : List α}, (l.map f).Nodup → l.Nodup
  | [], _ => List.nodup_nil
  | x :: r, h => by
    rw [List.map_cons, List.nodup_cons] at h
    exact List.nodup_cons.2 ⟨fun hx => h.1 (List.mem_map_of_mem hx), nodup_of_map f h.2⟩
theorem MetK.perm {K : List Kd} {left : Lit → Bool} {L : List Kd} (h : MetK K left L) (hs : KSort K) (hl : ∀ kl, left kl = false) : L.Perm K := by
  have hn : K.Nodup := List.Pairwise.imp (fun {a b} hlt e => by subst e; exact nm_irrefl _ hlt) hs
  refine (List.perm_ext_iff_of_nodup (nodup_of_map _ h.1) hn).2 fun k => ⟨fun hk => (h.2.1 k hk).1, fun hk => h.2.2 k hk (hl _)⟩
theorem MetH.perm {H : List Hd} {left : Lit → Bool} {L : List Hd} (h : MetH H left L) (hs : HSort H) (hl : ∀ kl, left kl = false) : L.Perm H := by
  have hn : H.Nodup := List.Pairwise.imp (fun {a b} hlt e => by subst e; omega) hs
  refine (List.perm_ext_iff_of_nodup (nodup_of_map _ h.1) hn).2 fun k => ⟨fun hk => (h.2.1 k hk).1, fun hk => h.2.2 k hk (hl _)⟩
/-- The payments of all states, one state behind the other, are all payments. -/
theorem perm_states : ∀ H : List Hd, (∀ h ∈ H, 1 ≤ h.t ∧ h.t ≤ 3) → (stH H 1 ++ stH H 2 ++ stH H 3).Perm H
  | [], _ => List.Perm.refl _
  | h :: r, hb => by
    have ih := perm_states r fun y hy => hb y (List.mem_cons_of_mem _ hy)
    have hc : ∀ t, stH (h :: r) t = if h.t == t then h :: stH r t else stH r t := fun t => by unfold stH; rw [List.filter_cons]
    rw [hc, hc, hc]
    obtain ⟨b1, b2⟩ := hb h (List.mem_cons_self ..)
    rcases (by omega : h.t = 1 ∨ h.t = 2 ∨ h.t = 3) with e | e | e <;> rw [e] <;> simp only [Nat.reduceBEq, Bool.false_eq_true, if_false, if_true, beq_self_eq_true]
    · exact ih.cons h
    · refine List.Perm.trans ?_ (ih.cons h)
      rw [List.append_assoc, List.append_assoc, List.cons_append]
      exact List.perm_middle
    · refine List.Perm.trans ?_ (ih.cons h)
      exact List.perm_middle

end Go.Proofs.YtpbclmnhkmcknaaGreat.Pu
