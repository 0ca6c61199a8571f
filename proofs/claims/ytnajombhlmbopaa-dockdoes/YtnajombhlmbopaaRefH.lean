/-
  The contract of the reference's Bookings.
-/
import Derived.Test.YtnajombhlmbopaaRefF
import Derived.Test.YtnajombhlmbopaaRefM
import Derived.Sort.Walk0
namespace Go.Proofs.Ytnajombhlmbopaa
open Go.Proofs Go.RowKit
set_option maxRecDepth 100000
set_option linter.unusedVariables false
set_option linter.unusedSimpArgs false

def RhPost (w : World) (l : List Hd) (e : Ending) (w' : World) : Prop := ∃ v, e = .returned v ∧ OwnR w' w.heap.size v l ∧ Below w.heap.size w w'
def RhA (w : World) (N : Nat) (HL : List Hd) (v3 v4 : Value) (wr : World) : Prop := ∃ D : Nat, D ≤ N ∧ v4 = .int .i64 (D : Int) ∧ OwnR wr w.heap.size v3 (upto HL D) ∧ Below w.heap.size w wr
def RhB (y : World) (L : List Hd) (D : Nat) (v5 v6 : Value) (wq : World) : Prop := ∃ (i : Nat) (T : List Hd), i ≤ L.length ∧ v6 = .int .i64 (i : Int) ∧ OwnR wq y.heap.size v5 T ∧ Tod L D i T ∧ Below y.heap.size y wq
def RhC (z : World) (T : List Hd) (xo : Nat) (v7 v8 : Value) (wz : World) : Prop := ∃ k : Nat, k ≤ T.length ∧ v8 = .int .i64 (k : Int) ∧ (∀ (p : Nat) (hp : p < T.length), p < k → T[p].o < xo) ∧ OwnR wz z.heap.size v7 (T.take k) ∧ Below z.heap.size z wz
def RhE (z : World) (T : List Hd) (xo : Nat) (v7 v8 : Value) (wz : World) : Prop := ∃ k : Nat, k ≤ T.length ∧ v8 = .int .i64 (k : Int) ∧ (∀ (p : Nat) (hp : p < T.length), p < k → T[p].o < xo) ∧ (∀ (h : k < T.length), ¬ T[k].o < xo) ∧ OwnR wz z.heap.size v7 (T.take k) ∧ Below z.heap.size z wz
theorem OwnE.addr {α : Type} {enc : α → List Value} {e : TypeId} {k : Nat} {w : World} {B : Nat} {A : Option Addr} {n c : Nat} {l : List α} (h : OwnE enc e k w B (.slice A n c) l) : (A = none ∧ c = 0 ∧ l = []) ∨ ∃ b o, A = some ⟨b, o, none⟩ := by
  rcases h.form with ⟨hv, hl⟩ | ⟨g, cap, cur, hv, _⟩
  · injection hv with q1 q2 q3
    exact .inl ⟨q1, q3, hl⟩
  · injection hv with q1 q2 q3
    exact .inr ⟨g, 0, q1⟩
theorem row_src {w : World} {B b o n c : Nat} {T : List Hd} (h : OwnR w B (.slice (some ⟨b, o, none⟩) n c) T) (k : Nat) : ∀ (i : Nat) (hi : i < (T.drop k).length) (j : Nat), j < 3 → w.cell? ⟨b, o + k * 3 + i * 3 + j, none⟩ = (encH (T.drop k)[i])[j]? := by
  intro i hi j hj
  have hi2 : k + i < T.length := by rw [List.length_drop] at hi; omega
  obtain ⟨-, -, -, -, hc⟩ := h.cell encH_len
  obtain ⟨g, e, -, -, hcc⟩ := hc (k + i) hi2
  injection e with e
  injection e with e1 e2
  subst e1 e2
  rw [List.getElem_drop, ← (hcc j hj).1]
  congr 2
  omega
theorem row_src0 {w : World} {B b o n c : Nat} {T : List Hd} (h : OwnR w B (.slice (some ⟨b, o, none⟩) n c) T) : ∀ (i : Nat) (hi : i < T.length) (j : Nat), j < 3 → w.cell? ⟨b, o + i * 3 + j, none⟩ = (encH T[i])[j]? := by
  intro i hi j hj
  have := row_src h 0 i (by simpa using hi) j hj
  simpa using this

set_option maxHeartbeats 16000000 in
theorem rbks_any (B g : Nat) (vF vL : Value) (r : Rs) (HL : List Hd) (w : World) (h : RAt w B g vF vL r) (hs : HSort HL) (hp : HL.Perm r.L) (hd : ∀ y ∈ HL, y.d < r.F.length) (hF : r.F.length ≤ 1000) (hl : HL.length ≤ 1000) :
    Calls Try.prog 17 #[.pointer (some ⟨g, 0, none⟩)] w (RhPost w HL) := by
  have H := Lib.hid h
  have HS := Lib.hid hs
  have HP := Lib.hid hp
  have HD := Lib.hid hd
  have HU : Hid (r.L.Pairwise (fun a b => a.o ≠ b.o)) := Lib.hid ((hp.pairwise_iff (fun {a b} (h : a.o ≠ b.o) => Ne.symm h)).1 hs.u)
  obtain ⟨AL, cL, rfl, -, -⟩ := h.l.hin
  obtain ⟨AF, cF, rfl, -, -⟩ := h.f.iin
  have hz : (r.L.length : Int) ≤ 1000 := by have := hp.length_eq; omega
  have hzF : (r.F.length : Int) ≤ 1000 := by omega
  clear h hs hp hd
  go_enter Try.func17, Try.ntmps17
  go_wp2_with fail
  go_loopw [3, 4] (fun v3 v4 wr => RhA w r.F.length HL v3 v4 wr) (fun _ d _ => r.F.length - (intOf d).toNat)
  case atStart => exact ⟨0, by omega, rfl, by rw [upto_zero]; exact OwnE.nil _ _, Below.refl _ _⟩
  case round =>
    rename World => wo
    obtain ⟨D, hD, rfl, hO, hB⟩ := hrel
    have HO3 := Lib.hid hO
    have HB3 := Lib.hid hB
    have HR3 := Lib.hid (H.out.below hB)
    clear hO hB
    obtain ⟨c0, c1⟩ := HR3.out.c.cells2
    by_cases hDl : D < r.F.length
    · have hDl2 : (D : Int) < (r.F.length : Int) := by omega
      go_wp2_with fail
      clear c0 c1
      go_loopw [5, 6] (fun v5 v6 wq => RhB wo r.L D v5 v6 wq) (fun _ i _ => r.L.length - (intOf i).toNat)
      case atStart => exact ⟨0, [], by omega, rfl, OwnE.nil _ _, Tod.zero _ _, Below.refl _ _⟩
      case round =>
        rename World => wq
        obtain ⟨i, T, hi, rfl, hO, hT, hB⟩ := hrel
        have HO5 := Lib.hid hO
        have HB5 := Lib.hid hB
        have HT := Lib.hid hT
        have HR5 := Lib.hid (HR3.out.below hB)
        clear hO hB hT
        obtain ⟨c0, c1⟩ := HR5.out.c.cells2
        by_cases hil : i < r.L.length
        · have hil2 : (i : Int) < (r.L.length : Int) := by omega
          obtain ⟨x, hx⟩ : ∃ x, r.L[i] = x := ⟨_, rfl⟩
          have HX := Lib.hid hx
          clear hx
          obtain ⟨xo, xd, xk⟩ := x
          obtain ⟨A9, c9, e9, hH9, -⟩ := HR5.out.l.hin
          injection e9 with q1 q2 q3
          subst q1 q3
          obtain ⟨g9, o9, rfl, -, hc9⟩ := hH9.2 (by omega)
          obtain ⟨y0, y1, y2⟩ := hc9 i hil
          rw [HX.out] at y0 y1 y2
          dsimp only at y0 y1 y2
          clear hc9 hH9 q2
          by_cases hxd : xd = D
          · have e1 : (((xd : Int) != (D : Int)) : Bool) = false := by simp [hxd]
            have e2 : (xd != D) = false := by simp [hxd]
            have HXD : Hid (r.L[i].d = D) := Lib.hid (by rw [HX.out]; exact hxd)
            clear hxd
            have HTL := Lib.hid HT.out.len
            obtain ⟨A5, c5, rfl, -, hcc, -⟩ := HO5.out.hin
            have hTl : (T.length : Int) ≤ 1000 := by have := HTL.out; omega
            have HCC := Lib.hid hcc
            clear hcc
            go_upto_block 4 with (fail)
            clear e1 e2 c0 c1 y0 y1 y2
            go_cut [7, 8] from 37 to 65 (fun s7 s8 W => RhE wq T xo s7 s8 W)
            case first =>
              go_wp2_with fail
              go_loopw [7, 8] (fun v7 v8 wz => RhC wq T xo v7 v8 wz) (fun _ k _ => T.length - (intOf k).toNat)
              case atStart => exact ⟨0, by omega, rfl, fun p hp h => by omega, by rw [List.take_zero]; exact OwnE.nil _ _, Below.refl _ _⟩
              case round =>
                rename World => wz
                obtain ⟨k, hk, rfl, hall, hO, hB⟩ := hrel
                have HALL := Lib.hid hall
                have HO7 := Lib.hid hO
                have HB7 := Lib.hid hB
                have HR7 := Lib.hid (HR5.out.below hB)
                have HO5z := Lib.hid (HO5.out.below hB)
                clear hall hO hB
                obtain ⟨c0, c1⟩ := HR7.out.c.cells2
                obtain ⟨A9, c9, e9, hH9, -⟩ := HR7.out.l.hin
                injection e9 with q1 q2 q3
                subst q1 q3
                obtain ⟨g8, o8, e8, -, hc9⟩ := hH9.2 (by omega)
                injection e8 with e8
                injection e8 with q4 q5
                subst q4 q5
                obtain ⟨y0, y1, y2⟩ := hc9 i hil
                rw [HX.out] at y0 y1 y2
                dsimp only at y0 y1 y2
                clear hc9 hH9 q2
                by_cases hkT : k < T.length
                · have hkT2 : (k : Int) < (T.length : Int) := by omega
                  obtain ⟨A6, c6, e6, hH6, -⟩ := HO5z.out.hin
                  injection e6 with q1 q2 q3
                  subst q1 q3
                  obtain ⟨b1, o1, rfl, -, hc6⟩ := hH6.2 (by omega)
                  obtain ⟨z0, z1, z2⟩ := hc6 k hkT
                  obtain ⟨z, hz⟩ : ∃ z, T[k] = z := ⟨_, rfl⟩
                  rw [hz] at z0 z1 z2
                  have HZ := Lib.hid hz
                  clear hz hc6 hH6 q2
                  obtain ⟨zo, zd, zk⟩ := z
                  dsimp only at z0 z1 z2
                  by_cases hlt : zo < xo
                  · have f1 : decide ((zo : Int) < (xo : Int)) = true := by simp; omega
                    have f2 : decide (zo < xo) = true := by simpa using hlt
                    have HST : Hid (T.take (k + 1) = T.take k ++ [⟨zo, zd, zk⟩]) := Lib.hid (by rw [List.take_succ_eq_append_getElem hkT, HZ.out])
                    have HLT := Lib.hid hlt
                    clear hlt
                    go_wp2_with fail
                    go_quiet (fail)
                    obtain ⟨wy, hwy⟩ : ∃ wy, wy = wz.drewN nq := ⟨_, rfl⟩
                    rw [← hwy]
                    have HBY : Hid (Below wz.heap.size wz wy) := Lib.hid (by rw [hwy]; exact below_drewN (Below.refl _ _) _)
                    have HBW : Hid (Below wq.heap.size wq wy) := Lib.hid (by rw [hwy]; exact below_drewN HB7.out _)
                    have z0' : wy.cell? ⟨b1, o1 + k * 3, none⟩ = some (.int .u32 (zo : Int)) := by rw [hwy]; exact z0
                    have z1' : wy.cell? ⟨b1, o1 + k * 3 + 1, none⟩ = some (.int .i64 (zd : Int)) := by rw [hwy]; exact z1
                    have z2' : wy.cell? ⟨b1, o1 + k * 3 + 2, none⟩ = some (.int .i64 zk) := by rw [hwy]; exact z2
                    clear hwy c0 c1 y0 y1 y2 z0 z1 z2 f1 f2
                    have HO8 : Hid (OwnR (wy.alloc (.cells #[.int .u32 (zo : Int), .int .i64 (zd : Int), .int .i64 zk] 44)) wq.heap.size u7 (T.take k)) := Lib.hid ((HO7.out.below HBY.out).alloc _)
                    have LN := Lib.hid (Lies.made wy 44 #[.int .u32 (zo : Int), .int .i64 (zd : Int), .int .i64 zk])
                    have HSM : Hid ((T.take k).length ≤ 100000) := Lib.hid (by rw [List.length_take]; omega)
                    have HBX := Lib.hid (HBW.out.alloc HBW.out.size (.cells #[.int .u32 (zo : Int), .int .i64 (zd : Int), .int .i64 zk] 44))
                    have HBZ : Hid (wq.heap.size ≤ (wy.alloc (.cells #[.int .u32 (zo : Int), .int .i64 (zd : Int), .int .i64 zk] 44)).heap.size) := Lib.hid HBX.out.size
                    go_wp2_with (first
                      | ((with_reducible refine wpl_appH (some 63) _ _ _ (.tmp 57) (.tmp 62) wq.heap.size u7 (T.take k) wy.heap.size zo zd zk ?hs ?hx HO8.out LN.out HSM.out HBZ.out ?_); (case hs => rfl); (case hx => rfl); (intro v4 w4 ho4 hg4 hb4; (have HO4 := Lib.hid ho4); (have HG4 := Lib.hid hg4); clear ho4 hg4 hb4)))
                    go_roundw
                    case rel =>
                      refine ⟨k + 1, by omega, by go_num, fun p hp h => ?_, by rw [HST.out]; exact HO4.out, HBX.out.grown HG4.out HBZ.out (fun q hq => (HO7.out.block q hq).1)⟩
                      by_cases e : p = k
                      · subst e; rw [HZ.out]; exact HLT.out
                      · exact HALL.out p hp (by omega)
                    case measure => simp [intOf]; omega
                  · have f1 : decide ((zo : Int) < (xo : Int)) = false := by simp; omega
                    have f2 : decide (zo < xo) = false := by simpa using hlt
                    have HLT := Lib.hid hlt
                    clear hlt
                    go_wp2_with fail
                    go_quiet (fail)
                    clear c0 c1 y0 y1 y2 z0 z1 z2 f1 f2
                    go_wp2
                    go_meet
                    exact ⟨k, hk, rfl, HALL.out, fun h => by rw [HZ.out]; exact HLT.out, HO7.out.below (below_drewN (Below.refl _ _) _), below_drewN HB7.out _⟩
                · have hkT2 : decide ((k : Int) < (T.length : Int)) = false := by simp; omega
                  have hkT3 : decide (k < T.length) = false := by simpa using hkT
                  go_wp2_with fail
                  go_quiet (fail)
                  clear c0 c1 y0 y1 y2
                  go_wp2
                  go_meet
                  exact ⟨k, hk, rfl, HALL.out, fun h => absurd h hkT, HO7.out.below (below_drewN (Below.refl _ _) _), below_drewN HB7.out _⟩
            case rest =>
              obtain ⟨k, hk, rfl, h1, h2, hO, hB⟩ := hcut
              have HTN : Hid (Tod r.L D (i + 1) (T.take k ++ [⟨xo, xd, xk⟩] ++ T.drop k)) := Lib.hid (by have := HT.out.more HU.out hil HXD.out hk (fun p hp h => by rw [HX.out]; exact h1 p hp h) (fun h => by rw [HX.out]; exact h2 h); rw [HX.out] at this; exact this)
              have HO7 := Lib.hid hO
              have HB7 := Lib.hid hB
              have HR7 := Lib.hid (HR5.out.below hB)
              have HO5z := Lib.hid (HO5.out.below hB)
              clear hO hB h1 h2
              obtain ⟨c0, c1⟩ := HR7.out.c.cells2
              obtain ⟨A9, c9, e9, hH9, -⟩ := HR7.out.l.hin
              injection e9 with q1 q2 q3
              subst q1 q3
              obtain ⟨g8, o8, e8, -, hc9⟩ := hH9.2 (by omega)
              injection e8 with e8
              injection e8 with q4 q5
              subst q4 q5
              obtain ⟨y0, y1, y2⟩ := hc9 i hil
              rw [HX.out] at y0 y1 y2
              dsimp only at y0 y1 y2
              clear hc9 hH9 q2
              have HO8 : Hid (OwnR (wc.alloc (.cells #[.int .u32 (xo : Int), .int .i64 (xd : Int), .int .i64 xk] 44)) wq.heap.size u7 (T.take k)) := Lib.hid (HO7.out.alloc _)
              have LN := Lib.hid (Lies.made wc 44 #[.int .u32 (xo : Int), .int .i64 (xd : Int), .int .i64 xk])
              have HSM : Hid ((T.take k).length ≤ 100000) := Lib.hid (by rw [List.length_take]; omega)
              have HBX := Lib.hid (HB7.out.alloc HB7.out.size (.cells #[.int .u32 (xo : Int), .int .i64 (xd : Int), .int .i64 xk] 44))
              have HBZ : Hid (wq.heap.size ≤ (wc.alloc (.cells #[.int .u32 (xo : Int), .int .i64 (xd : Int), .int .i64 xk] 44)).heap.size) := Lib.hid HBX.out.size
              have HBG : Hid (∀ w4, (wc.alloc (.cells #[.int .u32 (xo : Int), .int .i64 (xd : Int), .int .i64 xk] 44)).grownBy w4 u7.ownBlock → Below wq.heap.size wq w4) := Lib.hid (fun w4 hg4 => HBX.out.grown hg4 HBZ.out (fun q hq => (HO7.out.block q hq).1))
              rcases HO5z.out.addr with ⟨hA0, hc0, hF0⟩ | ⟨b1, o1, hA1⟩
              · subst hA0 hc0
                subst hF0
                obtain rfl : k = 0 := by simpa using hk
                go_wp2_with (first
                  | ((with_reducible refine wpl_appH (some 75) _ _ _ (.tmp 66) (.tmp 74) wq.heap.size u7 (([] : List Hd).take 0) wc.heap.size xo xd xk ?hs ?hx HO8.out LN.out HSM.out HBZ.out ?_); (case hs => rfl); (case hx => rfl); (intro v4 w4 ho4 hg4 hb4; (have HB4 := Lib.hid (HBG.out w4 hg4)); (have HO4 := Lib.hid ho4); clear ho4 hg4 hb4))
                  | ((with_reducible refine wpl_appZH (some 80) _ _ _ (.tmp 76) (.tmp 79) wq.heap.size 0 v4 (([] : List Hd).take 0 ++ [⟨xo, xd, xk⟩]) ?hs ?hx HO4.out ?_); (case hs => rfl); (case hx => rfl)))
                go_roundw
                case rel => exact ⟨i + 1, _, by omega, by go_num, HO4.out.low HB5.out.size, by simpa using HTN.out, HB5.out.trans (HB4.out.mono HB5.out.size)⟩
                case measure => simp [intOf]; omega
              · subst hA1
                have hkc : (k : Int) ≤ (T.length : Int) := by omega
                have hcc : (T.length : Int) ≤ (c5 : Int) := by have := HCC.out; omega
                by_cases hkT : k < T.length
                · have hkc2 : decide (c5 = k) = false := by have := HCC.out; simp; omega
                  go_wp2_with (first
                    | ((with_reducible refine wpl_appH (some 75) _ _ _ (.tmp 66) (.tmp 74) wq.heap.size u7 (T.take k) wc.heap.size xo xd xk ?hs ?hx HO8.out LN.out HSM.out HBZ.out ?_); (case hs => rfl); (case hx => rfl); (intro v4 w4 ho4 hg4 hb4; (have HB4 := Lib.hid (HBG.out w4 hg4)); (have HO4 := Lib.hid ho4); clear ho4 hg4 hb4))
                    | ((with_reducible refine wpl_appHs (some 80) _ _ _ (.tmp 76) (.tmp 79) wq.heap.size v4 (T.take k ++ [⟨xo, xd, xk⟩]) (T.drop k) b1 (o1 + k * 3) (c5 - k) (T.length - k) ?hm ?hs ?hx HO4.out ?src ?sm ?bz ?_); (case hm => simp); (case hs => rfl); (case hx => (first | rfl | (simp [Act.eval]; done) | (simp [Act.eval]; omega))); (case src => exact row_src (HO5.out.below HB4.out) k); (case sm => simp; omega); (case bz => exact HB4.out.size); (intro v5 w5 ho5 hg5 hb5; (have HB6 := Lib.hid (HB4.out.grown hg5 HB4.out.size (fun q hq => (HO4.out.block q hq).1))); (have HO6 := Lib.hid ho5); clear ho5 hg5 hb5)))
                  all_goals (
                    go_roundw
                    case rel => exact ⟨i + 1, _, by omega, by go_num, HO6.out.low HB5.out.size, HTN.out, HB5.out.trans (HB6.out.mono HB5.out.size)⟩
                    case measure => simp [intOf]; omega)
                · have hdr : Hid ((T.drop k).length = 0) := Lib.hid (by rw [List.length_drop]; omega)
                  go_wp2_with (first
                    | ((with_reducible refine wpl_appH (some 75) _ _ _ (.tmp 66) (.tmp 74) wq.heap.size u7 (T.take k) wc.heap.size xo xd xk ?hs ?hx HO8.out LN.out HSM.out HBZ.out ?_); (case hs => rfl); (case hx => rfl); (intro v4 w4 ho4 hg4 hb4; (have HB4 := Lib.hid (HBG.out w4 hg4)); (have HO4 := Lib.hid ho4); clear ho4 hg4 hb4))
                    | ((with_reducible refine wpl_appHs (some 80) _ _ _ (.tmp 76) (.tmp 79) wq.heap.size v4 (T.take k ++ [⟨xo, xd, xk⟩]) (T.drop k) b1 (if c5 = k then o1 else o1 + k * 3) (c5 - k) (T.length - k) ?hm ?hs ?hx HO4.out ?src ?sm ?bz ?_); (case hm => simp); (case hs => rfl); (case hx => (first | rfl | (simp [Act.eval]; done) | (simp [Act.eval]; split <;> simp_all))); (case src => (intro i2 hi2; exfalso; have := hdr.out; omega)); (case sm => simp; omega); (case bz => exact HB4.out.size); (intro v5 w5 ho5 hg5 hb5; (have HB6 := Lib.hid (HB4.out.grown hg5 HB4.out.size (fun q hq => (HO4.out.block q hq).1))); (have HO6 := Lib.hid ho5); clear ho5 hg5 hb5)))
                  all_goals (
                    go_roundw
                    case rel => exact ⟨i + 1, _, by omega, by go_num, HO6.out.low HB5.out.size, HTN.out, HB5.out.trans (HB6.out.mono HB5.out.size)⟩
                    case measure => simp [intOf]; omega)
          · have e1 : (((xd : Int) != (D : Int)) : Bool) = true := by rw [bne_iff_ne]; omega
            have e2 : (xd != D) = true := by simpa using hxd
            have HTS := Lib.hid (HT.out.skip hil (by rw [HX.out]; exact hxd))
            clear hxd
            go_wp2
            go_roundw
            case rel => exact ⟨i + 1, T, by omega, by go_num, HO5.out, HTS.out, HB5.out⟩
            case measure => simp [intOf]; omega
        · have hil2 : decide ((i : Int) < (r.L.length : Int)) = false := by simp; omega
          have hfin : T = onD HL D := Tod.fin HS.out HP.out (by have := HT.out; rwa [show i = r.L.length from by omega] at this)
          have HST : Hid (upto HL (D + 1) = upto HL D ++ T) := Lib.hid (by rw [hfin]; exact upto_succ HS.out D)
          have HTL := Lib.hid HT.out.len
          clear hfin
          have HO3q := Lib.hid (HO3.out.below HB5.out)
          have HBQ := Lib.hid (HB3.out.trans (HB5.out.mono HB3.out.size))
          have hUL : (upto HL D).length ≤ HL.length := List.length_filter_le _ _
          obtain ⟨A5, c5, rfl, -, hcc, -⟩ := HO5.out.hin
          rcases HO5.out.addr with ⟨hA0, hc0, hF0⟩ | ⟨b1, o1, hA1⟩
          · subst hA0 hc0
            have HF0 := Lib.hid hF0
            subst hF0
            go_wp2_with (first
              | ((with_reducible refine wpl_appZH (some 84) _ _ _ (.tmp 82) (.tmp 83) w.heap.size 0 u3 (upto HL D) ?hs ?hx HO3q.out ?_); (case hs => rfl); (case hx => rfl)))
            go_roundw
            case rel => exact ⟨D + 1, by omega, by go_num, by rw [HST.out, List.append_nil]; exact HO3q.out, HBQ.out⟩
            case measure => simp [intOf]; omega
          · subst hA1
            have HSRC := Lib.hid (row_src0 HO5.out)
            have HSM : Hid ((upto HL D).length + T.length ≤ 100000) := Lib.hid (by have := HTL.out; omega)
            go_wp2_with (first
              | ((with_reducible refine wpl_appHs (some 84) _ _ _ (.tmp 82) (.tmp 83) w.heap.size u3 (upto HL D) T b1 o1 c5 T.length rfl ?hs ?hx HO3q.out HSRC.out HSM.out HBQ.out.size ?_); (case hs => rfl); (case hx => rfl); (intro v5 w5 ho5 hg5 hb5; (have HB6 := Lib.hid (HBQ.out.grown hg5 HBQ.out.size (fun q hq => (HO3q.out.block q hq).1))); (have HO6 := Lib.hid ho5); clear ho5 hg5 hb5)))
            go_roundw
            case rel => exact ⟨D + 1, by omega, by go_num, by rw [HST.out]; exact HO6.out, HB6.out⟩
            case measure => simp [intOf]; omega
    · have hDl2 : decide ((D : Int) < (r.F.length : Int)) = false := by simp; omega
      have hU : upto HL D = HL := upto_all fun y hy => by have := HD.out y hy; omega
      rw [hU] at HO3
      clear hU
      go_wp2
      go_ret
      exact ⟨_, rfl, HO3.out, HB3.out⟩

end Go.Proofs.Ytnajombhlmbopaa
