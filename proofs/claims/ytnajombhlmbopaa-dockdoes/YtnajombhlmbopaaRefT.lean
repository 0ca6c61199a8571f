/-
  The contract of the reference's Cancel.
-/
import Derived.Test.YtnajombhlmbopaaRefF
namespace Go.Proofs.Ytnajombhlmbopaa
open Go.Proofs Go.RowKit
set_option maxRecDepth 100000
set_option linter.unusedVariables false
set_option linter.unusedSimpArgs false

def rcancS (r : Rs) (o : Nat) : Rs := match r.L.findIdx? (fun h => h.o == o) with
  | none => r
  | some p => ⟨r.F, r.L.eraseIdx p⟩
def rcancV (r : Rs) (o : Nat) : Bool := (r.L.findIdx? (fun h => h.o == o)).isSome
theorem erase_same {L : List Hd} {p : Nat} (hp : p < L.length) : (L.take (p + 1)).eraseIdx p = (L.take p).eraseIdx p := by
  have e : (L.take p).eraseIdx p = L.take p := List.eraseIdx_of_length_le (by rw [List.length_take]; omega)
  have hl : (L.take p).length = p := by rw [List.length_take]; omega
  rw [e, List.take_succ_eq_append_getElem hp, List.eraseIdx_append_of_length_le (by omega), hl, Nat.sub_self]
  simp
theorem erase_more {L : List Hd} {p i : Nat} (hi : i < L.length) (hne : i ≠ p) : (L.take (i + 1)).eraseIdx p = (L.take i).eraseIdx p ++ [L[i]] := by
  rw [List.take_succ_eq_append_getElem hi]
  by_cases h : p < i
  · rw [List.eraseIdx_append_of_lt_length (by rw [List.length_take]; omega)]
  · rw [List.eraseIdx_of_length_le (by simp; omega), List.eraseIdx_of_length_le (by simp; omega)]
/-- A new row of bookings is put in the old one's place. -/
theorem RAt.newL {W w4 w5 : World} {B g : Nat} {vF vL v4 : Value} {r : Rs} {L' : List Hd} (h : RAt W B g vF vL r) (hB : B ≤ W.heap.size) (hb : Below W.heap.size W w4) (ho : OwnR w4 W.heap.size v4 L') (hp : PutW w4 w5 g 57 #[vF, v4]) : RAt w5 B g vF v4 ⟨r.F, L'⟩ ∧ RFrm W w5 g vL := by
  have hg := h.c.lt
  refine ⟨⟨hp.lies, (h.f.below hb).grown hp.grown fun k hk e => h.f.ne_lies h.c (by decide) k hk (by injection e), ?_, h.lo⟩, ?_⟩
  · exact (ho.low hB).grown hp.grown fun k hk e => by
      have := (ho.block k hk).1
      injection e with e
      omega
  · exact (RFrm.of_below hb g vL).grownL hp.grown (fun k e => .inl (by injection e with e; exact e.symm))
def RtI (w : World) (L : List Hd) (p : Nat) (v6 v7 : Value) (wr : World) : Prop := ∃ i : Nat, i ≤ L.length ∧ v7 = .int .i64 (i : Int) ∧ OwnR wr w.heap.size v6 ((L.take i).eraseIdx p) ∧ Below w.heap.size w wr

set_option maxHeartbeats 8000000 in
theorem rcanc_any (B g : Nat) (vF vL : Value) (r : Rs) (o : Nat) (w : World) (h : RAt w B g vF vL r) (hl : r.L.length ≤ 1000) (hB : B ≤ w.heap.size) :
    Calls Try.prog 14 #[.pointer (some ⟨g, 0, none⟩), .int .u32 (o : Int)] w (RcPost1 w B g vF vL (verd (rcancV r o)) (rcancS r o)) := by
  have H := Lib.hid h
  have HBB := Lib.hid hB
  have CAT := at_any B g vF vL r o w h hl
  have hz : (r.L.length : Int) ≤ 1000 := by omega
  unfold atN at CAT
  cases hx : r.L.findIdx? (fun h => h.o == o) with
  | none =>
    have HV : Hid (verd (rcancV r o) = 2) := Lib.hid (by unfold rcancV; rw [hx]; rfl)
    have HS : Hid (rcancS r o = r) := Lib.hid (by unfold rcancS; rw [hx])
    rw [hx] at CAT
    dsimp only at CAT
    have CAT := Lib.hid CAT
    clear h hx
    go_enter Try.func14, Try.ntmps14
    go_wp2_with fail
    with_reducible refine CAT.out.mono ?_
    rintro e w' ⟨rfl, rfl⟩
    go_wp2
    go_ret
    exact ⟨by rw [HV.out]; rfl, vL, by rw [HS.out]; exact H.out, RFrm.of_below (Below.refl _ _) g vL⟩
  | some p =>
    have HV : Hid (verd (rcancV r o) = 1) := Lib.hid (by unfold rcancV; rw [hx]; rfl)
    have HS : Hid (rcancS r o = ⟨r.F, r.L.eraseIdx p⟩) := Lib.hid (by unfold rcancS; rw [hx])
    rw [hx] at CAT
    dsimp only at CAT
    have CAT := Lib.hid CAT
    obtain ⟨hp, -, -⟩ := List.findIdx?_eq_some_iff_getElem.1 hx
    obtain ⟨AL, cL, rfl, -, -⟩ := h.l.hin
    have e0 : decide ((p : Int) < 0) = false := by simp
    clear h hx
    go_enter Try.func14, Try.ntmps14
    go_wp2_with fail
    with_reducible refine CAT.out.mono ?_
    rintro e w' ⟨rfl, rfl⟩
    go_wp2_with fail
    clear CAT e0
    go_loopw [6, 7] (fun v6 v7 wr => RtI w r.L p v6 v7 wr) (fun _ i _ => r.L.length - (intOf i).toNat)
    case atStart => exact ⟨0, by omega, rfl, OwnE.nil _ _, Below.refl _ _⟩
    case round =>
      obtain ⟨i, hi, rfl, hO, hb⟩ := hrel
      have HO := Lib.hid hO
      have HB := Lib.hid hb
      have HR := Lib.hid (H.out.below hb)
      clear hO hb
      obtain ⟨c0, c1⟩ := HR.out.c.cells2
      by_cases hlt : i < r.L.length
      · have hlt2 : (i : Int) < (r.L.length : Int) := by omega
        by_cases hip : i = p
        · have e1 : (((i : Int) != (p : Int)) : Bool) = false := by simp [hip]
          have e2 : (i != p) = false := by simp [hip]
          have HE : Hid ((r.L.take (i + 1)).eraseIdx p = (r.L.take i).eraseIdx p) := Lib.hid (by subst hip; exact erase_same hlt)
          clear hip
          go_wp2
          go_roundw
          case rel => exact ⟨i + 1, by omega, by go_num, by rw [HE.out]; exact HO.out, HB.out⟩
          case measure => simp [intOf]; omega
        · have e1 : (((i : Int) != (p : Int)) : Bool) = true := by rw [bne_iff_ne]; omega
          have e2 : (i != p) = true := by simpa using hip
          have HE := Lib.hid (erase_more hlt hip)
          obtain ⟨A1, c2, ev, hH, -⟩ := HR.out.l.hin
          injection ev with q1 q2 q3
          subst q1 q3
          obtain ⟨g1, o1, rfl, -, hc⟩ := hH.2 (by omega)
          obtain ⟨y0, y1, y2⟩ := hc i hlt
          obtain ⟨y, hy⟩ : ∃ y, r.L[i] = y := ⟨_, rfl⟩
          rw [hy] at y0 y1 y2 HE
          clear hc hH hy q2 hip
          obtain ⟨yo, yd, yk⟩ := y
          dsimp only at y0 y1 y2
          have HO3 := Lib.hid (HO.out.alloc (.cells #[.int .u32 (yo : Int), .int .i64 (yd : Int), .int .i64 yk] 44))
          have LN := Lib.hid (Lies.made wr 44 #[.int .u32 (yo : Int), .int .i64 (yd : Int), .int .i64 yk])
          have HSM : Hid (((r.L.take i).eraseIdx p).length ≤ 100000) := Lib.hid (by have := List.length_eraseIdx_le (r.L.take i) p; rw [List.length_take] at this; omega)
          have HBX := Lib.hid (HB.out.alloc HB.out.size (.cells #[.int .u32 (yo : Int), .int .i64 (yd : Int), .int .i64 yk] 44))
          have HBZ : Hid (w.heap.size ≤ (wr.alloc (.cells #[.int .u32 (yo : Int), .int .i64 (yd : Int), .int .i64 yk] 44)).heap.size) := Lib.hid HBX.out.size
          go_wp2_with (first
            | ((with_reducible refine wpl_appH (some 34) _ _ _ (.tmp 25) (.tmp 33) w.heap.size u6 ((r.L.take i).eraseIdx p) wr.heap.size yo yd yk ?hs ?hx HO3.out LN.out HSM.out HBZ.out ?_); (case hs => rfl); (case hx => rfl); (intro v4 w4 ho4 hg4 hb4)))
          go_roundw
          case rel => exact ⟨i + 1, by omega, by go_num, by rw [HE.out]; exact ho4, HBX.out.grown hg4 HBZ.out (fun k hk => (HO.out.block k hk).1)⟩
          case measure => simp [intOf]; omega
      · have hlt2 : decide ((i : Int) < (r.L.length : Int)) = false := by simp; omega
        have hii : r.L.take i = r.L := List.take_of_length_le (by omega)
        rw [hii] at HO
        have HONE := Lib.hid HO.out.one
        go_wp2_with (first
          | ((with_reducible refine wpl_putC none _ _ _ 39 (.tmp 38) (.tmp 36) g 1 57 _ u6 ?px ?py HR.out.c ?pi ?ps HONE.out ?_); (case px => rfl); (case py => rfl); (case pi => simp); (case ps => kernel_rfl); (intro w5 hp5; (have HP5 := Lib.hid hp5); clear hp5)))
        go_ret
        have hq := H.out.newL HBB.out HB.out HO.out HP5.out
        exact ⟨by rw [HV.out]; rfl, u6, by rw [HS.out]; exact hq.1, hq.2⟩

end Go.Proofs.Ytnajombhlmbopaa
