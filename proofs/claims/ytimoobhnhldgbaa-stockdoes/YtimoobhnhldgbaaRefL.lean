/-
  The contract of the reference's Leave.
-/
import Derived.Test.YtimoobhnhldgbaaRefF
import Derived.Test.YtimoobhnhldgbaaRefH
import Derived.Test.YtimoobhnhldgbaaRegS
import Derived.Deep.CutRange
import Derived.Deep.CutBlock
namespace Go.Proofs.Ytimoobhnhldgbaa
open Go.Proofs Go.RowKit
set_option maxRecDepth 100000
set_option linter.unusedVariables false
set_option linter.unusedSimpArgs false

/-- The list without its element i. -/
def dropAt (L : List Hd) (i : Nat) : List Hd := L.take i ++ L.drop (i + 1)
def rleaveV (r : Rs) (o : Nat) : Bool := decide (0 ≤ atN r.L o)
def rleaveS (r : Rs) (o : Nat) (b : Bool) : Rs := match r.L.findIdx? (fun h => h.o == o) with
  | none => r
  | some i => ⟨r.F, dropAt r.L i, if b then r.A ++ (r.L[i]?).toList else r.A⟩
/-- What has been copied. -/
def outL (L : List Hd) (i j : Nat) : List Hd := if j ≤ i then L.take j else L.take i ++ (L.drop (i + 1)).take (j - (i + 1))
theorem outL_eq {L : List Hd} {i : Nat} (hi : i < L.length) : outL L i (i + 1) = outL L i i := by
  unfold outL
  rw [if_neg (by omega), if_pos (Nat.le_refl _)]
  simp
theorem outL_step {L : List Hd} {i j : Nat} (hj : j < L.length) (hne : j ≠ i) : outL L i (j + 1) = outL L i j ++ [L[j]] := by
  unfold outL
  by_cases h : j + 1 ≤ i
  · rw [if_pos h, if_pos (by omega), List.take_succ_eq_append_getElem hj]
  · rw [if_neg h, if_neg (by omega), show j + 1 - (i + 1) = (j - (i + 1)) + 1 from by omega, List.take_succ_eq_append_getElem (by simp; omega), List.append_assoc]
    congr 3
    rw [List.getElem_drop]
    congr 1
    omega
theorem outL_end {L : List Hd} {i : Nat} (hi : i < L.length) : outL L i L.length = dropAt L i := by
  unfold outL dropAt
  rw [if_neg (by omega)]
  congr 1
  exact List.take_of_length_le (by simp)
theorem outL_len (L : List Hd) (i j : Nat) : (outL L i j).length ≤ L.length := by
  unfold outL
  split
  · rw [List.length_take]; omega
  · simp; omega

def RlI (L : List Hd) (i B : Nat) (y : World) (v8 v9 : Value) (wr : World) : Prop := ∃ j : Nat, j ≤ L.length ∧ v9 = .int .i64 (j : Int) ∧ OwnR wr y.heap.size v8 (outL L i j) ∧ Below y.heap.size y wr

/-- Behind the append to what is gone. -/
def RlPre (w : World) (B g : Nat) (vF vL vA : Value) (r : Rs) (h : Hd) (w1 : World) : Prop := ∃ vA', RAt w1 B g vF vL vA' ⟨r.F, r.L, r.A ++ [h]⟩ ∧ RFrm w w1 g vL vA ∧ (∀ k, vA'.ownBlock = some k → k < w1.heap.size)

theorem cell_same {w w' : World} (p : Addr) (h : w'.heap[p.block]? = w.heap[p.block]?) : w'.cell? p = w.cell? p := by
  unfold World.cell?
  rw [h]
theorem RFrm.trans_frm {w w1 w' : World} {g : Nat} {vL vA : Value} (h : RFrm w w1 g vL vA) (h2 : RFrm w1 w' g vL vA) : RFrm w w' g vL vA :=
  ⟨h2.os.trans h.os, h2.tape.trans h.tape, h2.output.trans h.output, Nat.le_trans h.size h2.size, fun k hk e1 e2 e3 => (h2.block k (Nat.lt_of_lt_of_le hk h.size) e1 e2 e3).trans (h.block k hk e1 e2 e3)⟩

set_option maxHeartbeats 8000000 in
theorem rleave_any (B g : Nat) (vF vL vA : Value) (r : Rs) (o : Nat) (b : Bool) (w : World) (h : RAt w B g vF vL vA r) (hL : SumOk r.L) (hA : SumOk r.A) (hB : B ≤ w.heap.size) :
    Calls Try.prog 15 #[.pointer (some ⟨g, 0, none⟩), .int .u32 (o : Int), .bool b] w (RcPost w B g vF vL vA (rleaveV r o) (rleaveS r o b)) := by
  have H := Lib.hid h
  have HBB := Lib.hid hB
  have CAT := Lib.hid (at_any B g vF vL vA r o w h hL.1)
  have HLL := Lib.hid hL.1
  have HAL := Lib.hid hA.1
  clear h hL hA hB
  cases hf : r.L.findIdx? (fun h => h.o == o) with
  | none =>
    have hat : atN r.L o = -1 := by unfold atN; rw [hf]
    have HV : Hid (rleaveV r o = false) := Lib.hid (by unfold rleaveV; rw [hat]; rfl)
    have HSS : Hid (rleaveS r o b = r) := Lib.hid (by unfold rleaveS; rw [hf])
    rw [hat] at CAT
    clear hat hf
    go_enter Try.func15, Try.ntmps15
    go_wp2_with fail
    with_reducible refine CAT.out.mono ?_
    rintro e w' ⟨rfl, rfl⟩
    go_wp2
    go_ret
    rw [HV.out, HSS.out]
    exact rc_same H.out (Below.refl _ _)
  | some i =>
    have hi : i < r.L.length := (List.findIdx?_eq_some_iff_getElem.1 hf).1
    have hat : atN r.L o = (i : Int) := by unfold atN; rw [hf]
    have HV : Hid (rleaveV r o = true) := Lib.hid (by unfold rleaveV; rw [hat]; simp)
    have HSS : Hid (rleaveS r o b = ⟨r.F, dropAt r.L i, if b then r.A ++ [r.L[i]] else r.A⟩) := Lib.hid (by unfold rleaveS; rw [hf]; simp [hi])
    rw [hat] at CAT
    clear hat hf
    have hi0 : decide ((i : Int) < 0) = false := by simp
    have hz : (r.L.length : Int) ≤ 1000 := by have := HLL.out; omega
    obtain ⟨AL, cL, rfl, hHL, -⟩ := H.out.l.hin
    obtain ⟨b0, o0, rfl, -, -⟩ := hHL.2 (by omega)
    clear hHL
    cases b with
    | false =>
      go_enter Try.func15, Try.ntmps15
      go_wp2_with fail
      with_reducible refine CAT.out.mono ?_
      rintro e w' ⟨rfl, rfl⟩
      go_wp2_with fail
      have HR1 := H
      have HF1 : Hid (RFrm w w g (.slice (some ⟨b0, o0, none⟩) r.L.length cL) vA) := Lib.hid (RFrm.of_below (Below.refl _ _) g _ vA)
      go_loopw [8, 9] (fun v8 v9 wr => RlI r.L i B w v8 v9 wr) (fun _ j _ => r.L.length - (intOf j).toNat)
      case atStart => exact ⟨0, by omega, rfl, by unfold outL; rw [if_pos (Nat.zero_le _), List.take_zero]; exact OwnE.nil _ _, Below.refl _ _⟩
      case round =>
        obtain ⟨j, hj, rfl, hO, hb⟩ := hrel
        have HO := Lib.hid hO
        have HB := Lib.hid hb
        have HR := Lib.hid (HR1.out.below hb)
        clear hO hb
        obtain ⟨c0, c1, c2⟩ := HR.out.c.cells3
        by_cases hlt : j < r.L.length
        · have hlt2 : (j : Int) < (r.L.length : Int) := by omega
          by_cases hji : j = i
          · have hji2 : ((j : Int) == (i : Int)) = true := by simp; omega
            have HST : Hid (outL r.L i (j + 1) = outL r.L i j) := Lib.hid (by rw [hji]; exact outL_eq hi)
            clear hji
            go_wp2
            go_roundw
            case rel => exact ⟨j + 1, by omega, by go_num, by rw [HST.out]; exact HO.out, HB.out⟩
            case measure => simp [intOf]; omega
          · have hji2 : ((j : Int) == (i : Int)) = false := by rw [beq_eq_false_iff_ne]; omega
            have HST := Lib.hid (outL_step hlt hji)
            obtain ⟨A5, c5, e5, hH5, -⟩ := HR.out.l.hin
            injection e5 with q1 q2 q3
            subst q1 q3
            obtain ⟨b1, o1, e1, -, hcell⟩ := hH5.2 (by omega)
            injection e1 with e1
            injection e1 with e1 e2
            subst e1 e2
            obtain ⟨y0, y1, y2⟩ := hcell j hlt
            obtain ⟨yy, hyy⟩ : ∃ z, r.L[j] = z := ⟨_, rfl⟩
            rw [hyy] at y0 y1 y2 HST
            clear hcell hH5 hyy q2
            obtain ⟨yo, yn, yk⟩ := yy
            dsimp only at *
            have HO3 : Hid (OwnR (wr.alloc (.cells #[.int .u32 (yo : Int), encStr yn, .int .i64 yk] 48)) w.heap.size u8 (outL r.L i j)) := Lib.hid (HO.out.alloc _)
            have LN := Lib.hid (Lies.made wr 48 #[.int .u32 (yo : Int), encStr yn, .int .i64 yk])
            have HSM : Hid ((outL r.L i j).length ≤ 100000) := Lib.hid (by have := outL_len r.L i j; have := HLL.out; omega)
            have HBZ : Hid (w.heap.size ≤ (wr.alloc (.cells #[.int .u32 (yo : Int), encStr yn, .int .i64 yk] 48)).heap.size) := Lib.hid (by rw [size_one]; have := HB.out.size; omega)
            have HBW := Lib.hid (HB.out.alloc HB.out.size (.cells #[.int .u32 (yo : Int), encStr yn, .int .i64 yk] 48))
            go_wp2_with (first
              | ((with_reducible refine wpl_appH (some 53) _ _ _ (.tmp 44) (.tmp 52) w.heap.size u8 (outL r.L i j) wr.heap.size yo yn yk ?hs ?hx HO3.out LN.out HSM.out HBZ.out ?_); (case hs => rfl); (case hx => rfl); (intro v4 w4 ho4 hg4 hb4; (have HO4 := Lib.hid ho4); (have HG4 := Lib.hid hg4); clear ho4 hg4 hb4)))
            go_roundw
            case rel => exact ⟨j + 1, by omega, by go_num, by rw [HST.out]; exact HO4.out, HBW.out.grown HG4.out HBZ.out (fun k hk => (HO.out.block k hk).1)⟩
            case measure => simp [intOf]; omega
        · have hlt2 : decide ((j : Int) < (r.L.length : Int)) = false := by simp; omega
          have HE : Hid (outL r.L i j = dropAt r.L i) := Lib.hid (by rw [show j = r.L.length from by omega]; exact outL_end hi)
          have HONE := Lib.hid HO.out.one
          have HOB : Hid (OwnR wr B u8 (dropAt r.L i)) := Lib.hid (by rw [← HE.out]; exact HO.out.low HBB.out)
          go_wp2_with (first
            | ((with_reducible refine wpl_putC none _ _ _ 40 (.tmp 57) (.tmp 55) g 1 65 _ u8 ?px ?py HR.out.c ?pi ?ps HONE.out ?_); (case px => rfl); (case py => rfl); (case pi => simp); (case ps => kernel_rfl); (intro w5 hp5; (have HP5 := Lib.hid hp5); clear hp5)))
          go_ret
          rw [HV.out, HSS.out]
          refine ⟨rfl, u8, _, HR.out.swapL HOB.out (fun k hk e => ?_) HP5.out, ?_⟩
          · have h1 := (HO.out.block k hk).1
            have h2 := (H.out.a.block k e).2
            omega
          · exact (HF1.out.trans_below HB.out).grownL HP5.out.grown (fun k e => .inl (by injection e with e; exact e.symm))
    | true =>
      obtain ⟨A5, c5, e5, hH5, -⟩ := H.out.l.hin
      injection e5 with q1 q2 q3
      subst q1 q3
      obtain ⟨b1, o1, e1, -, hcell⟩ := hH5.2 (by omega)
      injection e1 with e1
      injection e1 with e1 e2
      subst e1 e2
      obtain ⟨y0, y1, y2⟩ := hcell i hi
      obtain ⟨yy, hyy⟩ : ∃ z, r.L[i] = z := ⟨_, rfl⟩
      rw [hyy] at y0 y1 y2 HSS
      clear hcell hH5 hyy q2
      obtain ⟨yo, yn, yk⟩ := yy
      dsimp only at y0 y1 y2
      have hi2 : (i : Int) < (r.L.length : Int) := by omega
      go_enter Try.func15, Try.ntmps15
      go_wp2_with fail
      with_reducible refine CAT.out.mono ?_
      rintro e w' ⟨rfl, rfl⟩
      go_upto_region 5 with fail
      go_cut [] from 16 (fun wc => RlPre w B g vF (.slice (some ⟨b0, o0, none⟩) r.L.length cL) vA r ⟨yo, yn, yk⟩ wc)
      case first =>
        have HRd : Hid (RAt w.drew B g vF (.slice (some ⟨b0, o0, none⟩) r.L.length cL) vA r) := Lib.hid (H.out.below ((Below.refl _ _).drew))
        have HBd : Hid (Below w.heap.size w w.drew) := Lib.hid ((Below.refl _ _).drew)
        have HY : Hid (w.drew.cell? ⟨b0, o0 + i * 3, none⟩ = some (.int .u32 (yo : Int)) ∧ w.drew.cell? ⟨b0, o0 + i * 3 + 1, none⟩ = some (encStr yn) ∧ w.drew.cell? ⟨b0, o0 + i * 3 + 2, none⟩ = some (.int .i64 yk)) := Lib.hid ⟨y0, y1, y2⟩
        clear y0 y1 y2
        refine wp_region_noPanic ?_
        refine wp_region_held_drew (S := fun W => (∃ v, Lies W g 65 #[vF, (.slice (some ⟨b0, o0, none⟩) r.L.length cL), v]) ∧ W.cell? ⟨b0, o0 + i * 3, none⟩ = some (.int .u32 (yo : Int)) ∧ W.cell? ⟨b0, o0 + i * 3 + 1, none⟩ = some (encStr yn) ∧ W.cell? ⟨b0, o0 + i * 3 + 2, none⟩ = some (.int .i64 yk)) (by kernel_rfl) ⟨⟨vA, HRd.out.c⟩, HY.out⟩ (fun hH0 => ?_)
        generalize w.drew = wd at *
        have HR2 := Lib.hid (HRd.out.alloc (.cells #[.int .u32 (yo : Int), encStr yn, .int .i64 yk] 48))
        have LN := Lib.hid (Lies.made wd 48 #[.int .u32 (yo : Int), encStr yn, .int .i64 yk])
        have HSM : Hid (r.A.length ≤ 100000) := Lib.hid (by have := HAL.out; omega)
        have HBZ : Hid (B ≤ (wd.alloc (.cells #[.int .u32 (yo : Int), encStr yn, .int .i64 yk] 48)).heap.size) := Lib.hid (by rw [size_one]; have := HBd.out.size; have := HBB.out; omega)
        have HY2 : Hid ((wd.alloc (.cells #[.int .u32 (yo : Int), encStr yn, .int .i64 yk] 48)).cell? ⟨b0, o0 + i * 3, none⟩ = some (.int .u32 (yo : Int)) ∧ (wd.alloc (.cells #[.int .u32 (yo : Int), encStr yn, .int .i64 yk] 48)).cell? ⟨b0, o0 + i * 3 + 1, none⟩ = some (encStr yn) ∧ (wd.alloc (.cells #[.int .u32 (yo : Int), encStr yn, .int .i64 yk] 48)).cell? ⟨b0, o0 + i * 3 + 2, none⟩ = some (.int .i64 yk)) := Lib.hid (by
          have hb := below1 wd (.cells #[.int .u32 (yo : Int), encStr yn, .int .i64 yk] 48)
          have hlt : b0 < wd.heap.size := (HRd.out.l.block b0 rfl).2
          exact ⟨(hb.cell (p := ⟨b0, o0 + i * 3, none⟩) hlt).trans HY.out.1, (hb.cell (p := ⟨b0, o0 + i * 3 + 1, none⟩) hlt).trans HY.out.2.1, (hb.cell (p := ⟨b0, o0 + i * 3 + 2, none⟩) hlt).trans HY.out.2.2⟩)
        have HP4 : Hid (∀ (v4 : Value) w4, (wd.alloc (.cells #[.int .u32 (yo : Int), encStr yn, .int .i64 yk] 48)).grownBy w4 vA.ownBlock → Lies w4 g 65 #[vF, (.slice (some ⟨b0, o0, none⟩) r.L.length cL), vA]) := Lib.hid (fun v4 w4 hg4 => HR2.out.c.same (hg4.block g HR2.out.c.lt (fun e => HR2.out.a.ne_lies HR2.out.c (by decide) g e.symm rfl)))
        have HYG : Hid (∀ w4, (wd.alloc (.cells #[.int .u32 (yo : Int), encStr yn, .int .i64 yk] 48)).grownBy w4 vA.ownBlock → w4.cell? ⟨b0, o0 + i * 3, none⟩ = some (.int .u32 (yo : Int)) ∧ w4.cell? ⟨b0, o0 + i * 3 + 1, none⟩ = some (encStr yn) ∧ w4.cell? ⟨b0, o0 + i * 3 + 2, none⟩ = some (.int .i64 yk)) := Lib.hid (fun w4 hg4 => by
          have hq := hg4.block b0 (HR2.out.l.block b0 rfl).2 (fun e => HR2.out.ne b0 rfl e.symm)
          exact ⟨(cell_same _ hq).trans HY2.out.1, (cell_same _ hq).trans HY2.out.2.1, (cell_same _ hq).trans HY2.out.2.2⟩)
        have HYP : Hid (∀ (w4 w5 : World) {cs : Array Value} {ds : Array Value}, PutW w4 w5 g 65 cs → Lies w4 g 65 ds → (w4.cell? ⟨b0, o0 + i * 3, none⟩ = some (.int .u32 (yo : Int)) ∧ w4.cell? ⟨b0, o0 + i * 3 + 1, none⟩ = some (encStr yn) ∧ w4.cell? ⟨b0, o0 + i * 3 + 2, none⟩ = some (.int .i64 yk)) → w5.cell? ⟨b0, o0 + i * 3, none⟩ = some (.int .u32 (yo : Int)) ∧ w5.cell? ⟨b0, o0 + i * 3 + 1, none⟩ = some (encStr yn) ∧ w5.cell? ⟨b0, o0 + i * 3 + 2, none⟩ = some (.int .i64 yk)) := Lib.hid (fun w4 w5 _ _ hp hl hy => by
          have hlt : b0 < w4.heap.size := block_lt_of_cell hy.1
          have hq := hp.grown.block b0 hlt (fun e => HRd.out.l.ne_lies HRd.out.c (by decide) b0 rfl (by injection e))
          exact ⟨(cell_same _ hq).trans hy.1, (cell_same _ hq).trans hy.2.1, (cell_same _ hq).trans hy.2.2⟩)
        have HFI : Hid (∀ (v4 : Value) (w4 w5 : World), OwnR w4 B v4 (r.A ++ [⟨yo, yn, yk⟩]) → (wd.alloc (.cells #[.int .u32 (yo : Int), encStr yn, .int .i64 yk] 48)).grownBy w4 vA.ownBlock → (v4.ownBlock = vA.ownBlock ∨ v4.ownBlock = some (wd.alloc (.cells #[.int .u32 (yo : Int), encStr yn, .int .i64 yk] 48)).heap.size) → PutW w4 w5 g 65 #[vF, (.slice (some ⟨b0, o0, none⟩) r.L.length cL), v4] → RlPre w B g vF (.slice (some ⟨b0, o0, none⟩) r.L.length cL) vA r ⟨yo, yn, yk⟩ w5) := Lib.hid (fun v4 w4 w5 h1 h2 h3 h4 => by
          have hq := HR2.out.putA HBZ.out h1 h2 h3 h4
          exact ⟨v4, hq.1, (RFrm.of_below (HBd.out.alloc HBd.out.size _) g _ _).trans_frm hq.2, fun k hk => (hq.1.a.block k hk).2⟩)
        refine any_take 0 16 ?vt0 rfl rfl (by kernel_rfl) (by kernel_rfl) (by kernel_rfl) (fun _ _ _ h => h) (by rfl) ?hyt0 hH0 ?restt0
        case hyt0 => ((intro W hSw); (obtain ⟨⟨vx, sx⟩, sy0, sy1, sy2⟩ := hSw); (obtain ⟨sc0, sc1, sc2⟩ := Lies.cells3 sx); go_simp; (try with_reducible rfl))
        try simp only [Act.put, List.setIfInBounds_toArray, List.set_cons_zero, List.set_cons_succ]
        refine any_take 1 17 ?vt1 rfl rfl (by kernel_rfl) (by kernel_rfl) (by kernel_rfl) (fun _ _ _ h => h) (by rfl) ?hyt1 hH0 ?restt1
        case hyt1 => ((intro W hSw); (obtain ⟨⟨vx, sx⟩, sy0, sy1, sy2⟩ := hSw); (obtain ⟨sc0, sc1, sc2⟩ := Lies.cells3 sx); go_simp; (try with_reducible rfl))
        try simp only [Act.put, List.setIfInBounds_toArray, List.set_cons_zero, List.set_cons_succ]
        refine any_take 2 18 ?vt2 rfl rfl (by kernel_rfl) (by kernel_rfl) (by kernel_rfl) (fun _ _ _ h => h) (by rfl) ?hyt2 hH0 ?restt2
        case hyt2 => ((intro W hSw); (obtain ⟨⟨vx, sx⟩, sy0, sy1, sy2⟩ := hSw); (obtain ⟨sc0, sc1, sc2⟩ := Lies.cells3 sx); go_simp; (try with_reducible rfl))
        try simp only [Act.put, List.setIfInBounds_toArray, List.set_cons_zero, List.set_cons_succ]
        refine any_take 3 19 ?vt3 rfl rfl (by kernel_rfl) (by kernel_rfl) (by kernel_rfl) (fun _ _ _ h => h) (by rfl) ?hyt3 hH0 ?restt3
        case hyt3 => ((intro W hSw); (obtain ⟨⟨vx, sx⟩, sy0, sy1, sy2⟩ := hSw); (obtain ⟨sc0, sc1, sc2⟩ := Lies.cells3 sx); go_simp; (try with_reducible rfl))
        try simp only [Act.put, List.setIfInBounds_toArray, List.set_cons_zero, List.set_cons_succ]
        refine any_take 5 21 ?vt5 rfl rfl (by kernel_rfl) (by kernel_rfl) (by kernel_rfl) (fun _ _ _ h => h) (by rfl) ?hyt5 hH0 ?restt5
        case hyt5 => ((intro W hSw); (obtain ⟨⟨vx, sx⟩, sy0, sy1, sy2⟩ := hSw); (obtain ⟨sc0, sc1, sc2⟩ := Lies.cells3 sx); go_simp; (try with_reducible rfl))
        try simp only [Act.put, List.setIfInBounds_toArray, List.set_cons_zero, List.set_cons_succ]
        refine any_take 6 22 ?vt6 rfl rfl (by kernel_rfl) (by kernel_rfl) (by kernel_rfl) (fun _ _ _ h => h) (by rfl) ?hyt6 hH0 ?restt6
        case hyt6 => ((intro W hSw); (obtain ⟨⟨vx, sx⟩, sy0, sy1, sy2⟩ := hSw); (obtain ⟨sc0, sc1, sc2⟩ := Lies.cells3 sx); go_simp; (try with_reducible rfl))
        try simp only [Act.put, List.setIfInBounds_toArray, List.set_cons_zero, List.set_cons_succ]
        refine any_take 7 23 ?vt7 rfl rfl (by kernel_rfl) (by kernel_rfl) (by kernel_rfl) (fun _ _ _ h => h) (by rfl) ?hyt7 hH0 ?restt7
        case hyt7 => ((intro W hSw); (obtain ⟨⟨vx, sx⟩, sy0, sy1, sy2⟩ := hSw); (obtain ⟨sc0, sc1, sc2⟩ := Lies.cells3 sx); go_simp; (try with_reducible rfl))
        try simp only [Act.put, List.setIfInBounds_toArray, List.set_cons_zero, List.set_cons_succ]
        refine any_take 8 24 ?vt8 rfl rfl (by kernel_rfl) (by kernel_rfl) (by kernel_rfl) (fun _ _ _ h => h) (by rfl) ?hyt8 hH0 ?restt8
        case hyt8 => ((intro W hSw); (obtain ⟨⟨vx, sx⟩, sy0, sy1, sy2⟩ := hSw); (obtain ⟨sc0, sc1, sc2⟩ := Lies.cells3 sx); go_simp; (try with_reducible rfl))
        try simp only [Act.put, List.setIfInBounds_toArray, List.set_cons_zero, List.set_cons_succ]
        refine any_take 9 25 ?vt9 rfl rfl (by kernel_rfl) (by kernel_rfl) (by kernel_rfl) (fun _ _ _ h => h) (by rfl) ?hyt9 hH0 ?restt9
        case hyt9 => ((intro W hSw); (obtain ⟨⟨vx, sx⟩, sy0, sy1, sy2⟩ := hSw); (obtain ⟨sc0, sc1, sc2⟩ := Lies.cells3 sx); go_simp; (try with_reducible rfl))
        try simp only [Act.put, List.setIfInBounds_toArray, List.set_cons_zero, List.set_cons_succ]
        refine any_take 10 26 ?vt10 rfl rfl (by kernel_rfl) (by kernel_rfl) (by kernel_rfl) (fun _ _ _ h => h) (by rfl) ?hyt10 hH0 ?restt10
        case hyt10 => ((intro W hSw); (obtain ⟨⟨vx, sx⟩, sy0, sy1, sy2⟩ := hSw); (obtain ⟨sc0, sc1, sc2⟩ := Lies.cells3 sx); go_simp; (try with_reducible rfl))
        try simp only [Act.put, List.setIfInBounds_toArray, List.set_cons_zero, List.set_cons_succ]
        refine any_take 11 27 ?vt11 rfl rfl (by kernel_rfl) (by kernel_rfl) (by kernel_rfl) (fun _ _ _ h => h) (by rfl) ?hyt11 hH0 ?restt11
        case hyt11 => ((intro W hSw); (obtain ⟨⟨vx, sx⟩, sy0, sy1, sy2⟩ := hSw); (obtain ⟨sc0, sc1, sc2⟩ := Lies.cells3 sx); go_simp; (try with_reducible rfl))
        try simp only [Act.put, List.setIfInBounds_toArray, List.set_cons_zero, List.set_cons_succ]
        refine wpAnyH_ready (rs := [4, 12]) (by kernel_rfl) (by simp) ?_
        refine AllReadyH.cons rfl (fun K hK => ?_) (AllReadyH.cons rfl (fun K hK => ?_) AllReadyH.nil)
        · obtain ⟨q0, q1, q2⟩ := HRd.out.c.cells3
          go_simp
          refine hK.out _ _ ⟨⟨vA, HRd.out.c⟩, HY.out⟩ (fun hH1 => ?_)
          clear hK K
          try simp only [Act.put, List.setIfInBounds_toArray, List.set_cons_zero, List.set_cons_succ]
          refine wpAnyH_ready (rs := [12]) (by kernel_rfl) (by simp) ?_
          refine AllReadyH.cons rfl (fun K hK => ?_) AllReadyH.nil
          go_simp
          refine hK.out _ _ ⟨⟨vA, HR2.out.c⟩, HY2.out⟩ (fun hH2 => ?_)
          clear hK K
          try simp only [Act.put, List.setIfInBounds_toArray, List.set_cons_zero, List.set_cons_succ]
          refine wpAnyH_ready (rs := [13]) (by kernel_rfl) (by simp) ?_
          refine AllReadyH.cons rfl (fun K hK => ?_) AllReadyH.nil
          refine stp_appH (some 29) _ _ _ (.tmp 20) (.tmp 28) B vA r.A wd.heap.size yo yn yk rfl rfl HR2.out.a LN.out HSM.out HBZ.out (fun v4 w4 ho4 hg4 hb4 => ?_)
          have HL4 := Lib.hid (HP4.out v4 w4 hg4)
          have HY4 := Lib.hid (HYG.out w4 hg4)
          have HONE := Lib.hid ho4.one
          refine hK.out _ _ ⟨⟨vA, HL4.out⟩, HY4.out⟩ (fun hH3 => ?_)
          clear hK K
          try simp only [Act.put, List.setIfInBounds_toArray, List.set_cons_zero, List.set_cons_succ]
          refine any_take 14 30 ?va14 rfl rfl (by kernel_rfl) (by kernel_rfl) (by kernel_rfl) (fun _ _ _ h => h) (by rfl) ?hya14 hH3 ?resta14
          case hya14 => ((intro W hSw); go_simp; (try with_reducible rfl))
          try simp only [Act.put, List.setIfInBounds_toArray, List.set_cons_zero, List.set_cons_succ]
          refine any_take 15 31 ?va15 rfl rfl (by kernel_rfl) (by kernel_rfl) (by kernel_rfl) (fun _ _ _ h => h) (by rfl) ?hya15 hH3 ?resta15
          case hya15 => ((intro W hSw); go_simp; (try with_reducible rfl))
          try simp only [Act.put, List.setIfInBounds_toArray, List.set_cons_zero, List.set_cons_succ]
          refine wpAnyH_ready (rs := [16]) (by kernel_rfl) (by simp) ?_
          refine AllReadyH.cons rfl (fun K hK => ?_) AllReadyH.nil
          refine stp_putC none _ _ _ 40 (.tmp 31) (.tmp 29) g 2 65 _ v4 rfl rfl HL4.out (by simp) (by kernel_rfl) HONE.out (fun w5 hp5 => ?_)
          refine hK.out _ _ ⟨⟨v4, hp5.lies⟩, HYP.out w4 w5 hp5 HL4.out HY4.out⟩ (fun hH4 => ?_)
          clear hK K
          try simp only [Act.put, List.setIfInBounds_toArray, List.set_cons_zero, List.set_cons_succ]
          refine wpAnyH_done (by kernel_rfl) ?_ _
          refine NoPanic.normal ?_
          have HFIN := Lib.hid (HFI.out v4 w4 w5 ho4 hg4 hb4 hp5)
          clear hp5 ho4 hg4 hb4
          go_wp2_with fail
          go_meet
          exact HFIN.out
        · go_simp
          refine hK.out _ _ ⟨⟨vA, HR2.out.c⟩, HY2.out⟩ (fun hH1 => ?_)
          clear hK K
          try simp only [Act.put, List.setIfInBounds_toArray, List.set_cons_zero, List.set_cons_succ]
          refine wpAnyH_ready (rs := [4]) (by kernel_rfl) (by simp) ?_
          refine AllReadyH.cons rfl (fun K hK => ?_) AllReadyH.nil
          obtain ⟨q0, q1, q2⟩ := HR2.out.c.cells3
          go_simp
          refine hK.out _ _ ⟨⟨vA, HR2.out.c⟩, HY2.out⟩ (fun hH2 => ?_)
          clear hK K q0 q1 q2
          try simp only [Act.put, List.setIfInBounds_toArray, List.set_cons_zero, List.set_cons_succ]
          refine wpAnyH_ready (rs := [13]) (by kernel_rfl) (by simp) ?_
          refine AllReadyH.cons rfl (fun K hK => ?_) AllReadyH.nil
          refine stp_appH (some 29) _ _ _ (.tmp 20) (.tmp 28) B vA r.A wd.heap.size yo yn yk rfl rfl HR2.out.a LN.out HSM.out HBZ.out (fun v4 w4 ho4 hg4 hb4 => ?_)
          have HL4 := Lib.hid (HP4.out v4 w4 hg4)
          have HY4 := Lib.hid (HYG.out w4 hg4)
          have HONE := Lib.hid ho4.one
          refine hK.out _ _ ⟨⟨vA, HL4.out⟩, HY4.out⟩ (fun hH3 => ?_)
          clear hK K
          try simp only [Act.put, List.setIfInBounds_toArray, List.set_cons_zero, List.set_cons_succ]
          refine any_take 14 30 ?vb14 rfl rfl (by kernel_rfl) (by kernel_rfl) (by kernel_rfl) (fun _ _ _ h => h) (by rfl) ?hyb14 hH3 ?restb14
          case hyb14 => ((intro W hSw); go_simp; (try with_reducible rfl))
          try simp only [Act.put, List.setIfInBounds_toArray, List.set_cons_zero, List.set_cons_succ]
          refine any_take 15 31 ?vb15 rfl rfl (by kernel_rfl) (by kernel_rfl) (by kernel_rfl) (fun _ _ _ h => h) (by rfl) ?hyb15 hH3 ?restb15
          case hyb15 => ((intro W hSw); go_simp; (try with_reducible rfl))
          try simp only [Act.put, List.setIfInBounds_toArray, List.set_cons_zero, List.set_cons_succ]
          refine wpAnyH_ready (rs := [16]) (by kernel_rfl) (by simp) ?_
          refine AllReadyH.cons rfl (fun K hK => ?_) AllReadyH.nil
          refine stp_putC none _ _ _ 40 (.tmp 31) (.tmp 29) g 2 65 _ v4 rfl rfl HL4.out (by simp) (by kernel_rfl) HONE.out (fun w5 hp5 => ?_)
          refine hK.out _ _ ⟨⟨v4, hp5.lies⟩, HYP.out w4 w5 hp5 HL4.out HY4.out⟩ (fun hH4 => ?_)
          clear hK K
          try simp only [Act.put, List.setIfInBounds_toArray, List.set_cons_zero, List.set_cons_succ]
          refine wpAnyH_done (by kernel_rfl) ?_ _
          refine NoPanic.normal ?_
          have HFIN := Lib.hid (HFI.out v4 w4 w5 ho4 hg4 hb4 hp5)
          clear hp5 ho4 hg4 hb4
          go_wp2_with fail
          go_meet
          exact HFIN.out
      case rest =>
        clear y0 y1 y2
        obtain ⟨vA', hr1, hf1, ha1⟩ := hcut
        have HR1 := Lib.hid hr1
        have HF1 := Lib.hid hf1
        have HAC := Lib.hid ha1
        have HBC : Hid (B ≤ wc.heap.size) := Lib.hid (Nat.le_trans HBB.out hf1.size)
        clear hr1 hf1 ha1
        go_wp2_with fail
        go_loopw [8, 9] (fun v8 v9 wr => RlI r.L i B wc v8 v9 wr) (fun _ j _ => r.L.length - (intOf j).toNat)
        case atStart => exact ⟨0, by omega, rfl, by unfold outL; rw [if_pos (Nat.zero_le _), List.take_zero]; exact OwnE.nil _ _, Below.refl _ _⟩
        case round =>
          obtain ⟨j, hj, rfl, hO, hb⟩ := hrel
          have HO := Lib.hid hO
          have HB := Lib.hid hb
          have HR := Lib.hid (HR1.out.below hb)
          clear hO hb
          obtain ⟨c0, c1, c2⟩ := HR.out.c.cells3
          by_cases hlt : j < r.L.length
          · have hlt2 : (j : Int) < (r.L.length : Int) := by omega
            by_cases hji : j = i
            · have hji2 : ((j : Int) == (i : Int)) = true := by simp; omega
              have HST : Hid (outL r.L i (j + 1) = outL r.L i j) := Lib.hid (by rw [hji]; exact outL_eq hi)
              clear hji
              go_wp2
              go_roundw
              case rel => exact ⟨j + 1, by omega, by go_num, by rw [HST.out]; exact HO.out, HB.out⟩
              case measure => simp [intOf]; omega
            · have hji2 : ((j : Int) == (i : Int)) = false := by rw [beq_eq_false_iff_ne]; omega
              have HST := Lib.hid (outL_step hlt hji)
              obtain ⟨A5, c5, e5, hH5, -⟩ := HR.out.l.hin
              injection e5 with q1 q2 q3
              subst q1 q3
              obtain ⟨b1, o1, e1, -, hcell⟩ := hH5.2 (by omega)
              injection e1 with e1
              injection e1 with e1 e2
              subst e1 e2
              obtain ⟨y0, y1, y2⟩ := hcell j hlt
              obtain ⟨yy, hyy⟩ : ∃ z, r.L[j] = z := ⟨_, rfl⟩
              rw [hyy] at y0 y1 y2 HST
              clear hcell hH5 hyy q2
              obtain ⟨yo, yn, yk⟩ := yy
              dsimp only at *
              have HO3 : Hid (OwnR (wr.alloc (.cells #[.int .u32 (yo : Int), encStr yn, .int .i64 yk] 48)) wc.heap.size u8 (outL r.L i j)) := Lib.hid (HO.out.alloc _)
              have LN := Lib.hid (Lies.made wr 48 #[.int .u32 (yo : Int), encStr yn, .int .i64 yk])
              have HSM : Hid ((outL r.L i j).length ≤ 100000) := Lib.hid (by have := outL_len r.L i j; have := HLL.out; omega)
              have HBZ : Hid (wc.heap.size ≤ (wr.alloc (.cells #[.int .u32 (yo : Int), encStr yn, .int .i64 yk] 48)).heap.size) := Lib.hid (by rw [size_one]; have := HB.out.size; omega)
              have HBW := Lib.hid (HB.out.alloc HB.out.size (.cells #[.int .u32 (yo : Int), encStr yn, .int .i64 yk] 48))
              go_wp2_with (first
                | ((with_reducible refine wpl_appH (some 53) _ _ _ (.tmp 44) (.tmp 52) wc.heap.size u8 (outL r.L i j) wr.heap.size yo yn yk ?hs ?hx HO3.out LN.out HSM.out HBZ.out ?_); (case hs => rfl); (case hx => rfl); (intro v4 w4 ho4 hg4 hb4; (have HO4 := Lib.hid ho4); (have HG4 := Lib.hid hg4); clear ho4 hg4 hb4)))
              go_roundw
              case rel => exact ⟨j + 1, by omega, by go_num, by rw [HST.out]; exact HO4.out, HBW.out.grown HG4.out HBZ.out (fun k hk => (HO.out.block k hk).1)⟩
              case measure => simp [intOf]; omega
          · have hlt2 : decide ((j : Int) < (r.L.length : Int)) = false := by simp; omega
            have HE : Hid (outL r.L i j = dropAt r.L i) := Lib.hid (by rw [show j = r.L.length from by omega]; exact outL_end hi)
            have HONE := Lib.hid HO.out.one
            have HOB : Hid (OwnR wr B u8 (dropAt r.L i)) := Lib.hid (by rw [← HE.out]; exact HO.out.low HBC.out)
            go_wp2_with (first
              | ((with_reducible refine wpl_putC none _ _ _ 40 (.tmp 57) (.tmp 55) g 1 65 _ u8 ?px ?py HR.out.c ?pi ?ps HONE.out ?_); (case px => rfl); (case py => rfl); (case pi => simp); (case ps => kernel_rfl); (intro w5 hp5; (have HP5 := Lib.hid hp5); clear hp5)))
            go_ret
            rw [HV.out, HSS.out]
            refine ⟨rfl, u8, _, HR.out.swapL HOB.out (fun k hk e => ?_) HP5.out, ?_⟩
            · have h1 := (HO.out.block k hk).1
              have h2 := HAC.out k e
              omega
            · exact (HF1.out.trans_below HB.out).grownL HP5.out.grown (fun k e => .inl (by injection e with e; exact e.symm))

end Go.Proofs.Ytimoobhnhldgbaa
