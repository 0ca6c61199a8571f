/-
  The contract of write: a kept step.
-/
import Derived.Test.YtfcfejmammohpaaNWr
import Derived.Test.YtfcfejmammohpaaKRow
import Derived.Test.YtfcfejmammohpaaKeep
import Derived.Deep.RegionHeld3
namespace Go.Proofs.Ytfcfejmammohpaa
open Go.RowKit
set_option maxRecDepth 100000
set_option linter.unusedVariables false
set_option linter.unusedSimpArgs false

/-- The bytes of a kept step; of a fence. -/
def encK (k : Kp) : List Nat := Ent.be 4 k.o ++ Ent.be 1 k.s.toNat ++ Ent.be 1 (Ent.b2n k.u) ++ Ent.be 1 k.c.toNat ++ Ent.txt k.a ++ Ent.txt k.r
def encL (n : Nat) (T : Nat → Kp) : List Nat := (List.range n).flatMap fun i => encK (T i)
def putS (ep n : Nat) (T : Nat → Kp) : List Nat := (Ent.be 4 ep ++ Ent.be 1 n) ++ encL n T
theorem encL_succ (n : Nat) (T : Nat → Kp) : encL (n + 1) T = encL n T ++ encK (T n) := by simp [encL, List.range_succ]
theorem encL_congr {n : Nat} {T T' : Nat → Kp} (h : ∀ i, i < n → T i = T' i) : encL n T = encL n T' := by
  induction n with
  | zero => rfl
  | succ n ih => rw [encL_succ, encL_succ, ih (fun i hi => h i (by omega)), h n (by omega)]
theorem encK_len {k : Kp} (h : vk k = true) : (encK k).length ≤ 519 := by
  have hv := (vk_iff k).1 h
  unfold encK
  simp only [List.length_append, Ent.be_len, Ent.txt_len]
  omega
theorem encL_len {n : Nat} {T : Nat → Kp} (h : ∀ i, i < n → vk (T i) = true) : (encL n T).length ≤ n * 519 := by
  induction n with
  | zero => simp [encL]
  | succ n ih =>
    rw [encL_succ, List.length_append]
    have := ih (fun i hi => h i (by omega))
    have := encK_len (h n (by omega))
    omega
/-- A kept step's texts, below B. -/
structure KTx (w : World) (B : Nat) (x : Kx) : Prop where
  t : KT w x
  a : ∃ A c, x.K = .slice A x.k.a.length c ∧ Low B A x.k.a.length ∧ (A = none → c = 0)
  r : ∃ A c, x.D = .slice A x.k.r.length c ∧ Low B A x.k.r.length ∧ (A = none → c = 0)
theorem KT.low {w : World} {x : Kx} (h : KT w x) {B : Nat} (hB : w.heap.size ≤ B) : KTx w B x := by
  obtain ⟨A, c, e, h1, _, _, h2⟩ := h.a
  obtain ⟨A', c', e', h1', _, _, h2'⟩ := h.r
  exact ⟨h, ⟨A, c, e, h1.low hB, h2⟩, ⟨A', c', e', h1'.low hB, h2'⟩⟩
set_option maxHeartbeats 8000000 in
theorem write_any (p B : Nat) (l : List Nat) (x : Kx) (w : World) (hW : Wr w p B l) (hx : KTx w B x) (hv : vk x.k = true) (hl : l.length ≤ 190000) :
    Calls Try.prog 55 #[.pointer (some ⟨p, 0, none⟩), .agg (kc x)] w (WritePost w p B (l ++ encK x.k)) := by
  obtain ⟨⟨ha, hr, ho, hs, hc⟩, ⟨xA, xc, e1, lo1, na1⟩, ⟨xB, xd, e2, lo2, na2⟩⟩ := hx
  have hvv := (vk_iff _).1 hv
  obtain ⟨⟨xo, xs, xu, xa, xq, xr⟩, xK, xD⟩ := x
  dsimp only at *
  subst e1 e2
  obtain ⟨A', c', e1, by1, -⟩ := ha
  obtain ⟨A'', c'', e2, by2, -⟩ := hr
  injection e1 with z1 _ z3
  injection e2 with y1 _ y3
  subst z1 z3 y1 y3
  unfold encK
  dsimp only
  have b1 := Lib.hid by1
  have b2 := Lib.hid by2
  clear by1 by2
  obtain ⟨xn, hxn⟩ : ∃ q, xa.length = q := ⟨_, rfl⟩
  obtain ⟨xm, hxm⟩ : ∃ q, xr.length = q := ⟨_, rfl⟩
  rw [hxn] at b1 lo1 hvv ⊢
  rw [hxm] at b2 lo2 hvv ⊢
  have eS : ((xs.toNat : Nat) : Int) = IntKind.u8.wrap xs := by rw [IntKind.wrap_u8]; omega
  have eC : ((xq.toNat : Nat) : Int) = IntKind.u8.wrap xq := by rw [IntKind.wrap_u8]; omega
  have WA := Lib.hid (hW.below (below1 w (.cells #[.int .u32 (xo : Int), .int .i64 xs, .bool xu, .slice xA xn xc, .int .i64 xq, .slice xB xm xd] 34)))
  have HSZ := Lib.hid hW.size
  have BL0 : Hid (Below B w (w.alloc (.cells #[.int .u32 (xo : Int), .int .i64 xs, .bool xu, .slice xA xn xc, .int .i64 xq, .slice xB xm xd] 34)).drew) := Lib.hid (((Below.refl B w).alloc hW.size _).drew)
  have KK0 : Hid (Keep w (w.alloc (.cells #[.int .u32 (xo : Int), .int .i64 xs, .bool xu, .slice xA xn xc, .int .i64 xq, .slice xB xm xd] 34)).drew) := Lib.hid (((Keep.refl w).alloc _).drew)
  have LB0 : Hid (Lies (w.alloc (.cells #[.int .u32 (xo : Int), .int .i64 xs, .bool xu, .slice xA xn xc, .int .i64 xq, .slice xB xm xd] 34)).drew w.heap.size 34 #[.int .u32 (xo : Int), .int .i64 xs, .bool xu, .slice xA xn xc, .int .i64 xq, .slice xB xm xd]) := Lib.hid (Lies.drew (Lies.made w 34 #[.int .u32 (xo : Int), .int .i64 xs, .bool xu, .slice xA xn xc, .int .i64 xq, .slice xB xm xd]))
  have C1 := Lib.hid (wu32_any p B xo l (w.alloc (.cells #[.int .u32 (xo : Int), .int .i64 xs, .bool xu, .slice xA xn xc, .int .i64 xq, .slice xB xm xd] 34)).drew WA.out.drew ho (by omega))
  have C2 := Lib.hid (fun W h => wu8_any p B xs.toNat (l ++ Ent.be 4 xo) W h (by omega) (by rw [List.length_append, Ent.be_len]; omega))
  have C3 := Lib.hid (fun W h => wu8_any p B (Ent.b2n xu) (l ++ Ent.be 4 xo ++ Ent.be 1 xs.toNat) W h (by have := b2n_le xu; omega) (by simp only [List.length_append, Ent.be_len]; omega))
  have C4 := Lib.hid (fun W h => wu8_any p B xq.toNat (l ++ Ent.be 4 xo ++ Ent.be 1 xs.toNat ++ Ent.be 1 (Ent.b2n xu)) W h (by omega) (by simp only [List.length_append, Ent.be_len]; omega))
  have C5 := Lib.hid (fun W (h : Wr W p B (l ++ Ent.be 4 xo ++ Ent.be 1 xs.toNat ++ Ent.be 1 (Ent.b2n xu) ++ Ent.be 1 xq.toNat)) (hb : Below B w W) => wtext_any p B _ xa xA xn xc W h (b1.out.belowB lo1 hb) lo1 na1 (by omega) (by simp only [List.length_append, Ent.be_len]; omega))
  have C6 := Lib.hid (fun W (h : Wr W p B (l ++ Ent.be 4 xo ++ Ent.be 1 xs.toNat ++ Ent.be 1 (Ent.b2n xu) ++ Ent.be 1 xq.toNat ++ Ent.txt xa)) (hb : Below B w W) => wtext_any p B _ xr xB xm xd W h (b2.out.belowB lo2 hb) lo2 na2 (by omega) (by simp only [List.length_append, Ent.be_len, Ent.txt_len]; omega))
  have CF := Lib.hid (fun W => flag_any xu W)
  rw [eS] at C2
  rw [eC] at C4
  unfold WrPost at C1 C2 C3 C4 C5 C6
  rw [show l ++ (Ent.be 4 xo ++ Ent.be 1 xs.toNat ++ Ent.be 1 (Ent.b2n xu) ++ Ent.be 1 xq.toNat ++ Ent.txt xa ++ Ent.txt xr) = l ++ Ent.be 4 xo ++ Ent.be 1 xs.toNat ++ Ent.be 1 (Ent.b2n xu) ++ Ent.be 1 xq.toNat ++ Ent.txt xa ++ Ent.txt xr by simp only [List.append_assoc]]
  generalize hg1 : l ++ Ent.be 4 xo = l1 at *
  generalize hg2 : l1 ++ Ent.be 1 xs.toNat = l2 at *
  generalize hg3 : l2 ++ Ent.be 1 (Ent.b2n xu) = l3 at *
  generalize hg4 : l3 ++ Ent.be 1 xq.toNat = l4 at *
  generalize hg5 : l4 ++ Ent.txt xa = l5 at *
  generalize hg6 : l5 ++ Ent.txt xr = l6 at *
  clear hg1 hg2 hg3 hg4 hg5 hg6 WA hW eS eC hvv hv ho hs hc lo1 lo2 na1 na2 b1 b2 hxn hxm
  generalize hbu : ((Ent.b2n xu : Nat) : Int) = bu at *
  clear hbu
  have KP := Lib.hid LB0.out.cells6
  obtain ⟨k0, k1, k2, k3, k4, k5⟩ := KP.out
  go_enter Try.func55, Try.ntmps55
  go_wp2_with fail
  clear k0 k1 k2 k3 k4 k5
  go_region_held3 (fun W => W.cell? ⟨w.heap.size, 0, none⟩ = some (.int .u32 (xo : Int)) ∧ W.cell? ⟨w.heap.size, 1, none⟩ = some (.int .i64 xs) ∧ W.cell? ⟨w.heap.size, 2, none⟩ = some (.bool xu) ∧ W.cell? ⟨w.heap.size, 3, none⟩ = some (.slice xA xn xc) ∧ W.cell? ⟨w.heap.size, 4, none⟩ = some (.int .i64 xq) ∧ W.cell? ⟨w.heap.size, 5, none⟩ = some (.slice xB xm xd)) (first | (with_reducible exact KP.out) | go_keep)
    (first
    | (go_at_call 53; (with_reducible refine (C1.out).mono ?_); (rintro x v1 ⟨rfl, hw, hb, hk⟩); (have WR1 := Lib.hid hw); (have BL1 := Lib.hid (BL0.out.trans hb)); (have KK1 := Lib.hid (KK0.out.trans hk)); (have LB1 := Lib.hid (Keep.lies hk (by decide) (by decide) LB0.out)); (clear KP); (have KP := Lib.hid LB1.out.cells6); (clear hw hb hk))
    | (go_at_call 77; (with_reducible refine (CF.out _).mono ?_); (rintro x v0 ⟨rfl, rfl⟩))
    | (go_at_call 54; (with_reducible refine (C2.out v1 WR1.out).mono ?_); (rintro x v2 ⟨rfl, hw, hb, hk⟩); (have WR2 := Lib.hid hw); (have BL2 := Lib.hid (BL1.out.trans hb)); (have KK2 := Lib.hid (KK1.out.trans hk)); (have LB2 := Lib.hid (Keep.lies hk (by decide) (by decide) LB1.out)); (clear KP); (have KP := Lib.hid LB2.out.cells6); (clear hw hb hk))
    | (go_at_call 54; (with_reducible refine (C3.out v2 WR2.out).mono ?_); (rintro x v3 ⟨rfl, hw, hb, hk⟩); (have WR3 := Lib.hid hw); (have BL3 := Lib.hid (BL2.out.trans hb)); (have KK3 := Lib.hid (KK2.out.trans hk)); (have LB3 := Lib.hid (Keep.lies hk (by decide) (by decide) LB2.out)); (clear KP); (have KP := Lib.hid LB3.out.cells6); (clear hw hb hk))
    | (go_at_call 54; (with_reducible refine (C4.out v3 WR3.out).mono ?_); (rintro x v4 ⟨rfl, hw, hb, hk⟩); (have WR4 := Lib.hid hw); (have BL4 := Lib.hid (BL3.out.trans hb)); (have KK4 := Lib.hid (KK3.out.trans hk)); (have LB4 := Lib.hid (Keep.lies hk (by decide) (by decide) LB3.out)); (clear KP); (have KP := Lib.hid LB4.out.cells6); (clear hw hb hk))
    | (go_at_call 81; (with_reducible refine (C5.out v4 WR4.out BL4.out).mono ?_); (rintro x v5 ⟨rfl, hw, hb, hk⟩); (have WR5 := Lib.hid hw); (have BL5 := Lib.hid (BL4.out.trans hb)); (have KK5 := Lib.hid (KK4.out.trans hk)); (have LB5 := Lib.hid (Keep.lies hk (by decide) (by decide) LB4.out)); (clear KP); (have KP := Lib.hid LB5.out.cells6); (clear hw hb hk))
    | (go_at_call 81; (with_reducible refine (C6.out v5 WR5.out BL5.out).mono ?_); (rintro x v6 ⟨rfl, hw, hb, hk⟩); (have WR6 := Lib.hid hw); (have BL6 := Lib.hid (BL5.out.trans hb)); (have KK6 := Lib.hid (KK5.out.trans hk)); (have LB6 := Lib.hid (Keep.lies hk (by decide) (by decide) LB5.out)); (clear KP); (have KP := Lib.hid LB6.out.cells6); (clear hw hb hk)))
  all_goals
    go_wp2
    go_end0
    exact ⟨rfl, WR6.out, BL6.out, KK6.out⟩

end Go.Proofs.Ytfcfejmammohpaa
