/-
  Texts of one proof, in their order: FeClone, FeInsert, FeInsertK, FeRegLaw.
-/
import Derived.Laws.Cover3
import Derived.Deep.RegionWith
import Derived.Shelf.Spec.SlicesInsertGrow
import Derived.Deep.RegionHeld3
import Derived.Test.YtpbclmnhkmcknaaGreatB03
namespace Go.Proofs.YtpbclmnhkmcknaaGreat.Fe
open Go.RowKit
set_option maxRecDepth 100000
set_option linter.unusedVariables false
set_option linter.unusedSimpArgs false

theorem run_nil27 (a : Option Addr) (n c : Nat) (w : World) : (binOp .eql 22 (.slice a n c) (.slice none 0 0)).run Tryz.prog w = .ok (.bool a.isNone) w := by
  have h := run_equal_slice_nil (P := Tryz.prog) w 22 5 a n c Tryz.underlying22
  simp only [binOp, Sem.run_bind, h, Result.andThen_ok, Sem.run_pure]
theorem run_nil23 (a : Option Addr) (n c : Nat) (w : World) : (binOp .eql 62 (.slice a n c) (.slice none 0 0)).run Tryz.prog w = .ok (.bool a.isNone) w := by
  have h := run_equal_slice_nil (P := Tryz.prog) w 62 130 a n c Tryz.underlying62
  simp only [binOp, Sem.run_bind, h, Result.andThen_ok, Sem.run_pure]
theorem Own.zero (w : World) (B : Nat) (hB : B ≤ w.heap.size) : Own (w.alloc (.cells #[] 5)) B (.slice (some ⟨w.heap.size, 0, none⟩) 0 0) [] :=
  Own.made (l := []) (Lies.made w 5 _) hB (by simp) (by unfold maxLen; simp)
theorem OwnK.made0 (w : World) (B : Nat) (X : Nat → Kx) (hB : B ≤ w.heap.size) : OwnK (w.alloc (.cells #[] 130)) B (.slice (some ⟨w.heap.size, 0, none⟩) 0 0) 0 X :=
  World.ownsRow_made w #[] 0 hB (by unfold maxLen; omega) rfl
set_option maxHeartbeats 1000000 in
theorem bclone_any (a : Option Addr) (n cap : Nat) (l : List Nat) (w : World) (hB : Bys w a n l) (hA : a = none → cap = 0) (hn : n ≤ 1000000) :
    Calls Tryz.prog 74 #[.slice a n cap] w fun e w' => ∃ v, e = .returned v ∧ Own w' w.heap.size v l ∧ Below w.heap.size w w' := by
  rcases a with _ | ad
  · have hm : n = 0 := by
      refine Classical.byContradiction fun h0 => ?_
      obtain ⟨b, off, e, _⟩ := hB.2.2 (by omega)
      cases e
    have hl : l = [] := List.eq_nil_of_length_eq_zero (by rw [hB.1]; exact hm)
    have hc := hA rfl
    subst hm hl hc
    clear hB hA
    have hq := run_nil27 none 0 0
    rw [show (none : Option Addr).isNone = true from rfl] at hq
    go_enter Tryz.func74, Tryz.ntmps74
    go_wp2
    go_ret
    exact ⟨_, rfl, Own.nil _ _, Below.refl _ _⟩
  · have HT := Lib.hid (hB.alloc (.cells #[] 5))
    have HO := Lib.hid (Own.zero w w.heap.size (Nat.le_refl _))
    clear hB hA
    have hq := run_nil27 (some ad) n cap
    rw [show (some ad : Option Addr).isNone = false from rfl] at hq
    go_enter Tryz.func74, Tryz.ntmps74
    go_wp2_with (first
      | ((with_reducible refine wpl_append (some 7) _ _ _ (.tmp 5) (.tmp 6) w.heap.size _ [] (some ad) n cap l ?hs ?hx HO.out HT.out ?ha ?hm ?hz ?_); (case hs => rfl); (case hx => rfl); (case ha => (intro h; cases h)); (case hm => simpa using hn); (case hz => simp); (intro v' w' ho hg hv)))
    go_ret
    exact ⟨_, rfl, ho, HO.out.grows hg (below1 w _) (Nat.le_refl _) (by simp)⟩

/-- A kept step that a call has made. -/
def NewK (w : World) (B : Nat) (k : Kp) (y : Kx) : Prop := y.k = k ∧ Own w B y.K k.a ∧ Own w B y.D k.r
theorem NewK.below {w w' : World} {B : Nat} {k : Kp} {y : Kx} (h : NewK w B k y) (hb : Below w.heap.size w w') : NewK w' B k y := ⟨h.1, h.2.1.belowOwn hb, h.2.2.belowOwn hb⟩
theorem NewK.mono {w : World} {B B' : Nat} {k : Kp} {y : Kx} (h : NewK w B k y) (hb : B' ≤ B) : NewK w B' k y := ⟨h.1, h.2.1.mono hb, h.2.2.mono hb⟩
theorem Own.lies_put {w : World} {B : Nat} {v : Value} {l : List Nat} {g : Nat} {t : TypeId} {cs : Array Value} (h : Own w B v l) (hL : Lies w g t cs) (ht : t ≠ 5) (o : Nat) (u : Value) : Own (w.setCell ⟨g, o, none⟩ u) B v l := h.setOther (h.ne hL ht) u
theorem Own.put6 {w : World} {B : Nat} {v : Value} {l : List Nat} {g : Nat} {t : TypeId} {z0 z1 z2 z3 z4 z5 : Value} (h : Own w B v l) (hL : Lies w g t #[z0, z1, z2, z3, z4, z5]) (ht : t ≠ 5) (a0 a1 a2 a3 a4 a5 : Value) : Own (Go.Proofs.YtpbclmnhkmcknaaGreat.Fe.put6 w g a0 a1 a2 a3 a4 a5) B v l :=
  (((((h.lies_put hL ht 0 a0).lies_put (hL.put 0 a0) ht 1 a1).lies_put ((hL.put 0 a0).put 1 a1) ht 2 a2).lies_put (((hL.put 0 a0).put 1 a1).put 2 a2) ht 3 a3).lies_put ((((hL.put 0 a0).put 1 a1).put 2 a2).put 3 a3) ht 4 a4).lies_put (((((hL.put 0 a0).put 1 a1).put 2 a2).put 3 a3).put 4 a4) ht 5 a5
theorem Own.st6 {w : World} {B : Nat} {v : Value} {l : List Nat} {g o : Nat} {t : TypeId} {cs : Array Value} (h : Own w B v l) (hL : Lies w g t cs) (ht : t ≠ 5) (a0 a1 a2 a3 a4 a5 : Value) : Own (Go.Proofs.YtpbclmnhkmcknaaGreat.Fe.st6 w g o a0 a1 a2 a3 a4 a5) B v l :=
  (((((h.lies_put hL ht o a0).lies_put (hL.put o a0) ht (o + 1) a1).lies_put ((hL.put o a0).put (o + 1) a1) ht (o + 2) a2).lies_put (((hL.put o a0).put (o + 1) a1).put (o + 2) a2) ht (o + 3) a3).lies_put ((((hL.put o a0).put (o + 1) a1).put (o + 2) a2).put (o + 3) a3) ht (o + 4) a4).lies_put (((((hL.put o a0).put (o + 1) a1).put (o + 2) a2).put (o + 3) a3).put (o + 4) a4) ht (o + 5) a5
theorem OwnK.lies {w : World} {B b off c : Nat} {n : Nat} {X : Nat → Kx} (h : OwnK w B (.slice (some ⟨b, off, none⟩) n c) n X) : ∃ cs, Lies w b 130 cs := by
  rcases h.2 with ⟨h1, h2⟩ | ⟨g, cap, cur, hv, hb, hg, _⟩
  · cases h1
  · injection hv with q1 q2 q3
    injection q1 with q1
    injection q1 with q1 q4 _
    subst q1
    exact ⟨cur, hg⟩
set_option maxHeartbeats 4000000 in
theorem clone_any (x : Kx) (w : World) (hx : KT w x) (h1 : x.k.a.length ≤ 100000) (h2 : x.k.r.length ≤ 100000) :
    Calls Tryz.prog 105 #[.agg (kc x)] w fun e w' => ∃ y, e = .returned (.agg (kc y)) ∧ NewK w' w.heap.size x.k y ∧ Below w.heap.size w w' := by
  obtain ⟨A1, c1, e1, g1, _, _, k1⟩ := hx.a
  obtain ⟨A2, c2, e2, g2, _, _, k2⟩ := hx.r
  clear hx
  obtain ⟨⟨xo, xs, xu, xa, xc, xr⟩, xK, xD⟩ := x
  dsimp only at *
  subst e1 e2
  obtain ⟨n1, hn1⟩ : ∃ n1, xa.length = n1 := ⟨_, rfl⟩
  obtain ⟨n2, hn2⟩ : ∃ n2, xr.length = n2 := ⟨_, rfl⟩
  rw [hn1] at g1 h1 ⊢
  rw [hn2] at g2 h2 ⊢
  have HB := Lib.hid (below2 w (.cells #[.int .u32 (xo : Int), .int .i64 xs, .bool xu, .slice A1 n1 c1, .int .i64 xc, .slice A2 n2 c2] 130) (.cells #[.int .u32 0, .int .i64 0, .bool false, .slice none 0 0, .int .i64 0, .slice none 0 0] 130))
  have LX := Lib.hid ((Lies.made w 130 #[.int .u32 (xo : Int), .int .i64 xs, .bool xu, .slice A1 n1 c1, .int .i64 xc, .slice A2 n2 c2]).alloc (.cells #[.int .u32 0, .int .i64 0, .bool false, .slice none 0 0, .int .i64 0, .slice none 0 0] 130))
  have LR := Lib.hid (Lies.made2 w (.cells #[.int .u32 (xo : Int), .int .i64 xs, .bool xu, .slice A1 n1 c1, .int .i64 xc, .slice A2 n2 c2] 130) 130 #[.int .u32 0, .int .i64 0, .bool false, .slice none 0 0, .int .i64 0, .slice none 0 0])
  have C1 := Lib.hid (fun W (hb : Below w.heap.size w W) => bclone_any A1 n1 c1 xa W (g1.below hb) k1 (by omega))
  have C2 := Lib.hid (fun W (hb : Below w.heap.size w W) => bclone_any A2 n2 c2 xr W (g2.below hb) k2 (by omega))
  obtain ⟨q0, q1, q2, q3, q4, q5⟩ := LX.out.cells6
  obtain ⟨p0, p1, p2, p3, p4, p5⟩ := LX.out.free6
  clear g1 g2 k1 k2 hn1 hn2
  go_enter Tryz.func105, Tryz.ntmps105
  go_wp2_with fail
  go_region_with
    (first
    | (go_at_call 74; (with_reducible refine (C1.out _ HB.out.drew).mono ?_); (rintro e w1 ⟨v1, rfl, ho1, hb⟩); (obtain ⟨D1, d1, rfl, -, -, -, -⟩ := ho1.slice); (have O1 := Lib.hid ho1); (have B1 := Lib.hid (HB.out.drew.trans (hb.mono HB.out.size))); (have X1 := Lib.hid (Lies.below (Lies.drew LX.out) hb (Lies.lt LX.out))); (have R1 := Lib.hid (Lies.below (Lies.drew LR.out) hb (Lies.lt LR.out))); (clear ho1 hb q0 q1 q2 q3 q4 q5 p0 p1 p2 p3 p4 p5); (obtain ⟨q0, q1, q2, q3, q4, q5⟩ := X1.out.cells6); (obtain ⟨p0, p1, p2, p3, p4, p5⟩ := X1.out.free6))
    | (go_at_call 74; (with_reducible refine (C2.out _ B1.out).mono ?_); (rintro e w2 ⟨v2, rfl, ho2, hb⟩); (obtain ⟨D2, d2, rfl, -, -, -, -⟩ := ho2.slice); (have O2 := Lib.hid ho2); (have O12 := Lib.hid (O1.out.belowOwn hb)); (have B2 := Lib.hid (B1.out.trans (hb.mono B1.out.size))); (have X2 := Lib.hid (Lies.below X1.out hb (Lies.lt X1.out))); (have R2 := Lib.hid (Lies.below R1.out hb (Lies.lt R1.out))); (clear ho2 hb q0 q1 q2 q3 q4 q5 p0 p1 p2 p3 p4 p5); (obtain ⟨q0, q1, q2, q3, q4, q5⟩ := X2.out.cells6); (obtain ⟨p0, p1, p2, p3, p4, p5⟩ := X2.out.free6)))
  all_goals
    have L3 := Lib.hid ((X2.out.put 3 (.slice D1 xa.length d1)).put 5 (.slice D2 xr.length d2))
    have R3 := Lib.hid ((R2.out.other (a := ⟨w.heap.size, 3, none⟩) (by simp) (.slice D1 xa.length d1)).other (a := ⟨w.heap.size, 5, none⟩) (by simp) (.slice D2 xr.length d2))
    have B3 := Lib.hid ((B2.out.setCell (p := ⟨w.heap.size, 3, none⟩) (Nat.le_refl _) (.slice D1 xa.length d1)).setCell (p := ⟨w.heap.size, 5, none⟩) (Nat.le_refl _) (.slice D2 xr.length d2))
    have P1 := Lib.hid ((O12.out.lies_put X2.out (by decide) 3 (.slice D1 xa.length d1)).lies_put (X2.out.put 3 _) (by decide) 5 (.slice D2 xr.length d2))
    have P2 := Lib.hid ((O2.out.lies_put X2.out (by decide) 3 (.slice D1 xa.length d1)).lies_put (X2.out.put 3 _) (by decide) 5 (.slice D2 xr.length d2))
    clear q0 q1 q2 q3 q4 q5 p0 p1 p2 p3 p4 p5
    obtain ⟨q0, q1, q2, q3, q4, q5⟩ := Lies.cells6 (show Lies _ _ 130 #[_, _, _, _, _, _] from L3.out)
    obtain ⟨t0, t1, t2, t3, t4, t5⟩ := R3.out.cells6
    obtain ⟨p0, p1, p2, p3, p4, p5⟩ := R3.out.free6
    go_wp2
    refine ret_kept (w.heap.size + 1) 130 _ rfl rfl (R3.out.put6 _ _ _ _ _ _) rfl rfl ?_
    refine ⟨⟨⟨xo, xs, xu, xa, xc, xr⟩, .slice D1 xa.length d1, .slice D2 xr.length d2⟩, rfl, ⟨rfl, ?_, ?_⟩, below_put6 B3.out (Nat.le_succ _) _ _ _ _ _ _⟩
    · exact (P1.out.put6 R3.out (by decide) _ _ _ _ _ _).mono HB.out.size
    · exact (P2.out.put6 R3.out (by decide) _ _ _ _ _ _).mono B1.out.size

set_option maxHeartbeats 1000000 in
theorem sclone_any (A : Option Addr) (n c : Nat) (X : Nat → Kx) (w : World) (hK : Ks w A n X) (hnc : n ≤ c) (hA : A = none → c = 0) (hn : n ≤ 10000) :
    Calls Tryz.prog 129 #[.slice A n c] w fun e w' => ∃ v, e = .returned v ∧ OwnK w' w.heap.size v n X ∧ Below w.heap.size w w' := by
  rcases A with _ | ad
  · have hc := hA rfl
    subst hc
    have hm : n = 0 := by omega
    subst hm
    clear hK hA
    have hq := run_nil23 none 0 0
    rw [show (none : Option Addr).isNone = true from rfl] at hq
    go_enter Tryz.func129, Tryz.ntmps129
    go_wp2
    go_ret
    exact ⟨_, rfl, OwnK.nil _ _ _, Below.refl _ _⟩
  · have HT := Lib.hid (hK.below (below1 w (.cells #[] 130)))
    have HO := Lib.hid (OwnK.made0 w w.heap.size X (Nat.le_refl _))
    clear hK hA
    have hq := run_nil23 (some ad) n c
    rw [show (some ad : Option Addr).isNone = false from rfl] at hq
    go_enter Tryz.func129, Tryz.ntmps129
    go_wp2_with (first
      | ((with_reducible refine wpl_appendK (some 7) _ _ _ (.tmp 5) (.tmp 6) w.heap.size _ 0 X (some ad) n c X ?hs ?hx HO.out HT.out ?ha ?hm ?hz ?_); (case hs => rfl); (case hx => rfl); (case ha => (intro h; cases h)); (case hm => omega); (case hz => simp); (intro v' w' ho hg hv)))
    go_ret
    refine ⟨_, rfl, ?_, HO.out.grows hg (below1 w _) (Nat.le_refl _) (by simp)⟩
    have h2 := ho
    rw [Nat.zero_add] at h2
    exact h2.congr (fun i hi => by simp)

/-- The first j elements are copied. -/
def CaR (w : World) (n : Nat) (X : Nat → Kx) (v i : Value) (wr : World) : Prop :=
  ∃ (j : Nat) (Y : Nat → Kx), j ≤ n ∧ i = .int .i64 (j : Int) ∧ OwnK wr w.heap.size v n (fun k => if k < j then Y k else X k) ∧ (∀ k, k < j → NewK wr w.heap.size (X k).k (Y k)) ∧
    (∀ i k, i < j → k < i → (∀ g, (Y k).K.ownBlock = some g → (Y i).K.ownBlock ≠ some g) ∧ (∀ g, (Y k).D.ownBlock = some g → (Y i).D.ownBlock ≠ some g)) ∧ Below w.heap.size w wr
theorem fresh_ne {w w' : World} {B : Nat} {u v : Value} {l l' : List Nat} (h : Own w B u l) (h' : Own w' w.heap.size v l') : ∀ g, u.ownBlock = some g → v.ownBlock ≠ some g := fun g e e' => by
  have := h.lt g e
  have := h'.block g e'
  omega
set_option maxHeartbeats 8000000 in
theorem cloneAll_any (A : Option Addr) (n c : Nat) (X : Nat → Kx) (w : World) (hK : Ks w A n X) (hnc : n ≤ c) (hA : A = none → c = 0) (hn : n ≤ 10000) (hl : ∀ i, i < n → (X i).k.a.length ≤ 100000 ∧ (X i).k.r.length ≤ 100000) :
    Calls Tryz.prog 100 #[.slice A n c] w fun e w' => ∃ v Y, e = .returned v ∧ NF w' w.heap.size v n Y ∧ (∀ i, i < n → (Y i).k = (X i).k) ∧ Below w.heap.size w w' := by
  have CC := Lib.hid (sclone_any A n c X w hK hnc hA hn)
  have HK := Lib.hid hK
  have HL := Lib.hid hl
  clear hK hA hl hnc
  go_enter Tryz.func100, Tryz.ntmps100
  go_wp2_with fail
  with_reducible refine CC.out.mono ?_
  rintro e w1 ⟨v, rfl, ho, hb⟩
  obtain ⟨A', c', rfl, hnc', hcm, hA', hat⟩ := ho.slice
  have HO := Lib.hid ho
  have HB := Lib.hid hb
  have HAT := Lib.hid hat
  clear ho hb hat CC
  go_wp2_with fail
  go_loopw [8] (CaR w n X (.slice A' n c')) (fun i _ => n - (intOf i).toNat)
  case atStart => exact ⟨0, X, by omega, rfl, HO.out.congr (fun k hk => by simp), (fun k hk => by omega), (fun i k hi => by omega), HB.out⟩
  case round =>
    obtain ⟨j, Y, hj, rfl, hrow, hnew, hdis, hbel⟩ := hrel
    have ROW := Lib.hid hrow
    have NEW := Lib.hid hnew
    have DIS := Lib.hid hdis
    have BE := Lib.hid hbel
    clear hrow hnew hdis hbel
    by_cases hlt : j < n
    · obtain ⟨b, off, rfl, hoff, hbB, _⟩ := HAT.out (by omega)
      have HBB := Lib.hid hbB
      clear hoff hbB
      obtain ⟨⟨q0, q1, q2, q3, q4, q5⟩, f0, f1, f2, f3, f4, f5⟩ := ROW.out.at j hlt
      have hi : (j : Int) < (n : Int) := by omega
      have HKT := Lib.hid ((HK.out.below BE.out).2 j hlt)
      have CL := Lib.hid (fun (W : World) (hW : Below wr.heap.size wr W) => clone_any (X j) W (HKT.out.below hW) (HL.out j hlt).1 (HL.out j hlt).2)
      have CL0 := Lib.hid (CL.out _ (Below.refl _ _))
      obtain ⟨A1, c1, e1, _⟩ := HKT.out.a
      obtain ⟨A2, c2, e2, _⟩ := HKT.out.r
      rw [if_neg (Nat.lt_irrefl j)] at q0 q1 q2 q3 q4 q5
      have HXJ := Lib.hid (rfl : (X j).k = (X j).k)
      clear HKT CL
      rw [e1] at q3
      rw [e2] at q5
      generalize hxj : X j = x at *
      have HXE := Lib.hid hxj
      clear hxj
      obtain ⟨⟨xo, xs, xu, xa, xc, xr⟩, xK, xD⟩ := x
      dsimp only at *
      subst e1 e2
      go_wp2_with fail
      with_reducible refine CL0.out.mono ?_
      rintro e w2 ⟨y, rfl, hy, hb⟩
      have NY := Lib.hid hy
      have B2 := Lib.hid (BE.out.trans (hb.mono BE.out.size))
      have ROW2 := Lib.hid (ROW.out.belowT hb)
      have NEW2 := Lib.hid (fun k hk => (NEW.out k hk).below hb)
      have FR := Lib.hid (fun k (hk : k < j) => And.intro (fresh_ne (NEW.out k hk).2.1 hy.2.1) (fresh_ne (NEW.out k hk).2.2 hy.2.2))
      have BLE := Lib.hid BE.out.size
      clear hb hy q0 q1 q2 q3 q4 q5 f0 f1 f2 f3 f4 f5
      obtain ⟨⟨q0, q1, q2, q3, q4, q5⟩, f0, f1, f2, f3, f4, f5⟩ := ROW2.out.at j hlt
      obtain ⟨E1, d1, z1, _⟩ := NY.out.2.1.slice
      obtain ⟨E2, d2, z2, _⟩ := NY.out.2.2.slice
      have NYK := Lib.hid NY.out.1
      obtain ⟨yk, yK, yD⟩ := y
      dsimp only at *
      subst z1 z2
      have hyk := NYK.out
      subst hyk
      try dsimp only at *
      obtain ⟨rcs, hrl⟩ := ROW2.out.lies
      have RL := Lib.hid hrl
      clear hrl
      go_wp2
      go_roundw
      case rel =>
        refine ⟨j + 1, fun k => if k = j then ⟨⟨xo, xs, xu, xa, xc, xr⟩, .slice E1 xa.length d1, .slice E2 xr.length d2⟩ else Y k, by omega, by go_num, ?_, ?_, ?_, below_st6 B2.out HBB.out _ _ _ _ _ _⟩
        · refine (ROW2.out.set j hlt ⟨⟨xo, xs, xu, xa, xc, xr⟩, .slice E1 xa.length d1, .slice E2 xr.length d2⟩).congr (fun k hk => ?_)
          dsimp only
          by_cases e : k = j
          · subst e; simp
          · by_cases e2 : k < j
            · rw [if_neg e, if_pos e2, if_pos (by omega), if_neg e]
            · rw [if_neg e, if_neg e2, if_neg (by omega)]
        · intro k hk
          dsimp only
          by_cases e : k = j
          · subst e
            rw [if_pos rfl, HXE.out]
            exact ⟨rfl, (NY.out.2.1.mono BLE.out).st6 RL.out (by decide) _ _ _ _ _ _, (NY.out.2.2.mono BLE.out).st6 RL.out (by decide) _ _ _ _ _ _⟩
          · rw [if_neg e]
            have h := NEW2.out k (by omega)
            exact ⟨h.1, h.2.1.st6 RL.out (by decide) _ _ _ _ _ _, h.2.2.st6 RL.out (by decide) _ _ _ _ _ _⟩
        · intro i k hi hk
          dsimp only
          rw [if_neg (show ¬ k = j by omega)]
          by_cases e : i = j
          · subst e
            rw [if_pos rfl]
            exact FR.out k hk
          · rw [if_neg e]
            exact DIS.out i k (by omega) hk
      case measure => simp [intOf]; omega
    · have hjn : j = n := by omega
      subst hjn
      go_wp2
      go_ret
      refine ⟨_, Y, rfl, ⟨ROW.out.congr (fun k hk => by rw [if_pos hk]), fun i hi => ?_, fun i hi => ?_, fun i hi => ?_, fun i k hi hk => (DIS.out i k hi hk).1, fun i k hi hk => (DIS.out i k hi hk).2⟩, fun i hi => (NEW.out i hi).1, BE.out⟩
      · rw [(NEW.out i hi).1]; exact (NEW.out i hi).2.1
      · rw [(NEW.out i hi).1]; exact (NEW.out i hi).2.2
      · have := HK.out.2 i hi
        rw [(NEW.out i hi).1]; exact ⟨this.o, this.s, this.c⟩

end Go.Proofs.YtpbclmnhkmcknaaGreat.Fe

namespace Go.Proofs.YtpbclmnhkmcknaaGreat.Fe
open Go.RowKit Go.Lib
set_option maxRecDepth 100000
set_option linter.unusedVariables false
set_option linter.unusedSimpArgs false

theorem info34 : (Tryz.prog.info? 130).map (·.size) = some 6 := by kernel_rfl
theorem run_copy6 (w : World) (ty : TypeId) (b o dLen dCap : Nat) (a : Addr) (sLen sCap : Nat) (cs : List Value)
    (hn : cs.length = Nat.min sLen dLen * 6)
    (hsrc : ∀ j v, cs[j]? = some v → w.cell? (a.add j) = some v) (hc : ∀ j, j < cs.length → (w.cell? ⟨b, o + j, none⟩).isSome = true) (hf : ∀ j, j < cs.length → w.frozen? ⟨b, o + j, none⟩ = false) (h1 : ∀ v ∈ cs, v.oneCell' = true) :
    (Builtin.copy_ #[62, 62] ty #[.slice (some ⟨b, o, none⟩) dLen dCap, .slice (some a) sLen sCap]).run Tryz.prog w = .ok (goInt (Nat.min sLen dLen)) (w.setCells b o cs) := by
  have hl := run_loadCells_list (P := Tryz.prog) w a cs hsrc
  have hst := run_storeCells_cells (P := Tryz.prog) b o cs 0 w (by simpa using hc) (by simpa using hf) h1
  have hs := info34
  cases hq : Tryz.prog.info? 130 with
  | none => simp [hq] at hs
  | some i =>
    have hi : i.size = 6 := by simpa [hq] using hs
    simp [Builtin.copy_, run_underlying Tryz.underlying62, Builtin.lenOf, Builtin.firstCells, sizeOf, typeInfo, hq, hi, ← hn, hl, hst]
theorem size34 (w : World) : (Go.sizeOf 130).run Tryz.prog w = .ok 6 w := by
  have hs := info34
  cases hq : Tryz.prog.info? 130 with
  | none => simp [hq] at hs
  | some i =>
    have hi : i.size = 6 := by simpa [hq] using hs
    simp [Go.sizeOf, typeInfo, hq, hi]
theorem mixed : Tryz.prog.follows .mixedOrders = true := by kernel_rfl
set_option maxHeartbeats 4000000 in
theorem insert_shift (b n c i vb : Nat) (cs vs : List Value) (w : World) (hi : i < n) (hroom : n + 1 ≤ c) (hc63 : c ≤ 9223372036854775807) (hvb : vb ≠ b)
    (hcl : cs.length = n * 6) (hvl : vs.length = 6)
    (hcs : ∀ j v, cs[j]? = some v → w.cell? ⟨b, j, none⟩ = some v) (hsp : ∀ j, j < (n + 1) * 6 → (w.cell? ⟨b, j, none⟩).isSome = true) (hfz : ∀ j, w.frozen? ⟨b, j, none⟩ = false)
    (hvs : ∀ j v, vs[j]? = some v → w.cell? ⟨vb, j, none⟩ = some v) (h1c : ∀ v ∈ cs, v.oneCell' = true) (h1v : ∀ v ∈ vs, v.oneCell' = true)
    (tA tB : TypeId) (kA kB : Nat) (hsa : w.shape? vb = some (tA, kA)) (hsb : w.shape? b = some (tB, kB)) (hkB : kB ≠ 0) (hfa : w.frozen? ⟨vb, 0, none⟩ = false) (hfe : w.frozen? ⟨vb, kA, none⟩ = false) :
    Calls Tryz.prog 104 #[.slice (some ⟨b, 0, none⟩) n c, .int .i64 (i : Int), .slice (some ⟨vb, 0, none⟩) 1 1] w fun e w' =>
      e = .returned (.slice (some ⟨b, 0, none⟩) (n + 1) c) ∧ w' = (w.drew.setCells b ((i + 1) * 6) (cs.drop (i * 6))).setCells b (i * 6) vs := by
  have mixed := mixed
  have hz2 : ((i : Int) == (n : Int)) = false := by simp; omega
  have hz3 : ¬ ((i : Int) = (n : Int)) := by omega
  have hov : ∀ lb cb, (callFunc 135 #[.slice (some ⟨vb, 0, none⟩) 1 1, .slice (some ⟨b, (i + 1) * 6, none⟩) lb cb]).run Tryz.prog w = .ok (.value (.bool false)) w := fun lb cb => by
    rw [run_callFunc_extern Tryz.func135 (by kernel_rfl) (by kernel_rfl) (by kernel_rfl) (e := Extern.SlicesOverlaps.overlaps #[62, 62] #[4]) (by kernel_rfl),
      Lib.run_overlaps_apart w 62 4 130 Tryz.underlying62 6 size34 ⟨vb, 0, none⟩ ⟨b, (i + 1) * 6, none⟩ 1 1 lb cb hvb tA tB kA kB hsa hsb hkB hfa hfe]
    rfl
  have hdl : (cs.drop (i * 6)).length = (n - i) * 6 := by rw [List.length_drop, hcl]; omega
  have hw1 : IntKind.i64.wrap ((i : Int) + 1) = (i : Int) + 1 := by rw [IntKind.wrap_i64]; omega
  have hw2 : IntKind.i64.wrap ((n : Int) + 1) = (n : Int) + 1 := by rw [IntKind.wrap_i64]; omega
  have hb1 : (0 : Int) ≤ (i : Int) + 1 := by omega
  have hin : i ≤ n := by omega
  have htn : ((i : Int) + 1).toNat = i + 1 := by omega
  have hb2 : ¬ (c = i + 1) := by omega
  have hb3 : (i : Int) ≤ (n : Int) + 1 := by omega
  have hb4 : ¬ (c = i) := by omega
  have hb5 : ¬ ((c : Int) < (n : Int) + 1) := by omega
  have hcp1 : ∀ ty dc sc, (Builtin.copy_ #[62, 62] ty #[.slice (some ⟨b, (i + 1) * 6, none⟩) (n - i) dc, .slice (some ⟨b, i * 6, none⟩) (n + 1 - i) sc]).run Tryz.prog w.drew = .ok (goInt (Nat.min (n + 1 - i) (n - i))) (w.drew.setCells b ((i + 1) * 6) (cs.drop (i * 6))) := fun ty dc sc =>
    run_copy6 w.drew ty b ((i + 1) * 6) (n - i) dc ⟨b, i * 6, none⟩ (n + 1 - i) sc (cs.drop (i * 6)) (by rw [hdl]; simp only [Nat.min_def]; split <;> omega)
      (fun j v hj => by rw [Addr.add_lit]; exact hcs (i * 6 + j) v (by rwa [List.getElem?_drop] at hj))
      (fun j hj => hsp _ (by omega)) (fun j hj => hfz _) (fun v hv => h1c v (List.mem_of_mem_drop hv))
  obtain ⟨W1, hW1⟩ : ∃ W1, W1 = w.drew.setCells b ((i + 1) * 6) (cs.drop (i * 6)) := ⟨_, rfl⟩
  have hsp1 : ∀ k, k < (n + 1) * 6 → (W1.cell? ⟨b, k, none⟩).isSome = true := fun k hk => by
    rw [hW1]
    exact isSome_setCells b (cs.drop (i * 6)) ((i + 1) * 6) w.drew (fun j hj => hsp _ (by rw [hdl] at hj; omega)) k (hsp k hk)
  have hcp2 : ∀ (W : World), (∀ x, W.cell? x = W1.cell? x) → (∀ x, W.frozen? x = W1.frozen? x) → ∀ ty dc, (Builtin.copy_ #[62, 62] ty #[.slice (some ⟨b, i * 6, none⟩) (n + 1 - i) dc, .slice (some ⟨vb, 0, none⟩) 1 1]).run Tryz.prog W = .ok (goInt (Nat.min 1 (n + 1 - i))) (W.setCells b (i * 6) vs) := fun W hWc hWf ty dc =>
    run_copy6 W ty b (i * 6) (n + 1 - i) dc ⟨vb, 0, none⟩ 1 1 vs (by rw [hvl]; simp only [Nat.min_def]; split <;> omega)
      (fun j v hj => by
        rw [Addr.add_lit, Nat.zero_add, hWc, hW1, World.cell?_setCells_out b _ _ _ _ (fun h _ => absurd h hvb)]
        exact hvs j v hj)
      (fun j hj => by rw [hWc]; exact hsp1 _ (by omega)) (fun j hj => by rw [hWf, hW1, World.frozen?_setCells]; exact hfz _) h1v
  rw [← hW1] at hcp1
  go_enter Tryz.func104, Tryz.ntmps104
  go_wp2_with (simp only [hov])
  go_region_law_o (refine step_copy_runI rfl _ _ 62 62 rfl _ _ (by simp [Act.eval, Act.put]) (by simp [Act.eval, Act.put]) (hcp1 _ _ _) ?_)
  go_wp2_with (at_builtin; refine wpList_copy_runI _ rfl _ _ 62 62 rfl _ _ rfl rfl (hcp2 _ (fun _ => rfl) (fun _ => rfl) _ _) ?_)
  go_ret
  first | exact ⟨rfl, rfl⟩ | exact ⟨rfl, by rw [hW1]⟩

abbrev kzc : List Value := [.int .u32 0, .int .i64 0, .bool false, .slice none 0 0, .int .i64 0, .slice none 0 0]
theorem info34m : (Tryz.prog.info? 130).map (fun i => (i.zero, i.size, i.bytes)) = some (some (.agg kzc.toArray), 6, 80) := by kernel_rfl
theorem info34all : ∃ i0, Tryz.prog.info? 130 = some i0 ∧ i0.zero = some (.agg kzc.toArray) ∧ i0.size = 6 ∧ i0.bytes = 80 := by
  have h := info34m
  cases hq : Tryz.prog.info? 130 with
  | none => rw [hq] at h; cases h
  | some i =>
    rw [hq] at h
    simp only [Option.map_some, Option.some.injEq, Prod.mk.injEq] at h
    exact ⟨i, rfl, h.1, h.2.1, h.2.2⟩
set_option maxHeartbeats 4000000 in
theorem insert_grow (b n c i vb : Nat) (cs vs : List Value) (w : World) (hi : i < n) (hnc : n ≤ c) (hroom : c < n + 1) (hbig : n ≤ 10000)
    (hcl : cs.length = n * 6) (hvl : vs.length = 6)
    (hcs : ∀ j v, cs[j]? = some v → w.cell? ⟨b, j, none⟩ = some v)
    (hvs : ∀ j v, vs[j]? = some v → w.cell? ⟨vb, j, none⟩ = some v) (h1c : ∀ v ∈ cs, v.oneCell' = true) (h1v : ∀ v ∈ vs, v.oneCell' = true) :
    Calls Tryz.prog 104 #[.slice (some ⟨b, 0, none⟩) n c, .int .i64 (i : Int), .slice (some ⟨vb, 0, none⟩) 1 1] w fun e w' =>
      ∃ G ROW, n + 1 ≤ G ∧ G ≤ maxLen ∧ ROW.size = G * 6 ∧ (∀ j, j < i * 6 → ROW[j]? = cs[j]?) ∧ e = .returned (.slice (some ⟨w.heap.size, 0, none⟩) (n + 1) G) ∧
      w' = (((w.alloc (.cells ROW 130)).drew.setCells w.heap.size (i * 6) vs).drew).setCells w.heap.size ((i + 1) * 6) (cs.drop (i * 6)) := by
  have mixed := mixed
  have hz2 : ((i : Int) == (n : Int)) = false := by simp; omega
  have hz4 : ¬ ((i : Int) = (n : Int)) := by omega
  have hz3 : (c : Int) < (n : Int) + 1 := by omega
  have hbw : b < w.heap.size := block_lt_of_cell (hcs 0 _ (List.getElem?_eq_getElem (by omega)))
  have hvw : vb < w.heap.size := block_lt_of_cell (hvs 0 _ (List.getElem?_eq_getElem (by omega)))
  have hkk : (n : Int) + 1 - (i : Int) = ((n + 1 - i : Nat) : Int) := by omega
  have hik : i + (n + 1 - i) = n + 1 := by omega
  obtain ⟨i0, hi0, hz0, hzs, hzb⟩ := info34all
  have hold : (Builtin.firstCells i0.size i (.slice (some ⟨b, 0, none⟩) i c)).run Tryz.prog w.drew = .ok (cs.take (i * 6)).toArray w.drew := by
    rw [hzs]
    exact run_firstCells_some w.drew 6 i ⟨b, 0, none⟩ i c (cs.take (i * 6)) (by rw [List.length_take]; omega) (fun j v hj => by
      rw [Addr.add_lit, Nat.zero_add]
      rw [List.getElem?_take] at hj
      split at hj
      · exact hcs j v hj
      · cases hj)
  have hrz : ∀ ty, (Builtin.append_ #[62, 3] ty #[.slice (some ⟨b, 0, none⟩) i c, .int .i64 ((n : Int) + 1 - (i : Int))]).run Tryz.prog w =
      .ok (.slice (some ⟨w.heap.size, 0, none⟩) (n + 1) (grownCap w (n + 1) c 130)) (w.drew.alloc (.cells ((cs.take (i * 6)).toArray ++ Builtin.zeroCells (Value.agg kzc.toArray).cells (n + 1 - i) ++ Builtin.zeroCells (Value.agg kzc.toArray).cells (grownCap w (n + 1) c 130 - (n + 1))) 130)) := fun ty => by
    have h := Lib.run_append_grow_zeros w 62 3 ty 130 i0 _ .i64 .i64 Tryz.underlying62 Tryz.underlying3 hi0 hz0 (some ⟨b, 0, none⟩) i c (cs.take (i * 6)) hold (n + 1 - i) (by omega) (by omega) (by omega) (by omega) (by rw [hzb]; omega) (by rw [hzb, hik]; exact growslice_fits hroom (by omega))
    rw [hik] at h
    rw [hkk]
    exact h
  obtain ⟨G, hG⟩ : ∃ G, G = grownCap w (n + 1) c 130 := ⟨_, rfl⟩
  obtain ⟨ROW, hROW⟩ : ∃ ROW : Array Value, ROW = (cs.take (i * 6)).toArray ++ Builtin.zeroCells (Value.agg kzc.toArray).cells (n + 1 - i) ++ Builtin.zeroCells (Value.agg kzc.toArray).cells (G - (n + 1)) := ⟨_, rfl⟩
  rw [← hG] at hrz
  rw [← hROW] at hrz
  have hGn : n + 1 ≤ G := by rw [hG]; exact grownCap_ge w _ _ _
  have hGm : G ≤ maxLen := by rw [hG]; exact grownCap_le_maxLen w (n + 1) c 130 (by unfold maxLen; omega)
  have hRs : ROW.size = G * 6 := by
    rw [hROW]
    simp [Builtin.zeroCells, Value.cells]
    omega
  have hRt : ∀ j, j < i * 6 → ROW[j]? = cs[j]? := fun j hj => by
    rw [hROW, Array.getElem?_append_left (by simp [Builtin.zeroCells, Value.cells]; omega), Array.getElem?_append_left (by simp; omega)]
    simp [hj]
  obtain ⟨W1, hW1⟩ : ∃ W1, W1 = w.drew.alloc (.cells ROW 130) := ⟨_, rfl⟩
  rw [← hW1] at hrz
  have hN : ∀ j, j < (n + 1) * 6 → (W1.cell? ⟨w.heap.size, j, none⟩).isSome = true := fun j hj => by
    rw [hW1, World.cell?_alloc_at (w := w.drew) ROW _ w.heap.size j rfl, Array.getElem?_eq_getElem (by omega)]; rfl
  have hNf : ∀ j, W1.frozen? ⟨w.heap.size, j, none⟩ = false := fun j => by rw [hW1]; exact World.frozen?_alloc_at (w := w.drew) ROW _ w.heap.size j rfl
  have hOb : ∀ j v, w.cell? ⟨b, j, none⟩ = some v → W1.cell? ⟨b, j, none⟩ = some v := fun j v h => by rw [hW1, World.cell?_alloc_past (w := w.drew) _ b j hbw]; exact h
  have hOv : ∀ j v, w.cell? ⟨vb, j, none⟩ = some v → W1.cell? ⟨vb, j, none⟩ = some v := fun j v h => by rw [hW1, World.cell?_alloc_past (w := w.drew) _ vb j hvw]; exact h
  have hcpA : ∀ (W : World), (∀ x, W.cell? x = W1.cell? x) → (∀ x, W.frozen? x = W1.frozen? x) → ∀ ty dc, (Builtin.copy_ #[62, 62] ty #[.slice (some ⟨w.heap.size, i * 6, none⟩) (n + 1 - i) dc, .slice (some ⟨vb, 0, none⟩) 1 1]).run Tryz.prog W = .ok (goInt (Nat.min 1 (n + 1 - i))) (W.setCells w.heap.size (i * 6) vs) := fun W hWc hWf ty dc =>
    run_copy6 W ty w.heap.size (i * 6) (n + 1 - i) dc ⟨vb, 0, none⟩ 1 1 vs (by rw [hvl]; simp only [Nat.min_def]; split <;> omega)
      (fun j v hj => by rw [Addr.add_lit, Nat.zero_add, hWc]; exact hOv _ v (hvs j v hj))
      (fun j hj => by rw [hWc]; exact hN _ (by omega)) (fun j hj => by rw [hWf]; exact hNf _) h1v
  have hGi : ¬ (G = i) := by omega
  have hGim : ¬ (G = i + 1) := by omega
  have hci : ¬ (c = i) := by omega
  have hbN : b ≠ w.heap.size := by omega
  have hdl : (cs.drop (i * 6)).length = (n - i) * 6 := by rw [List.length_drop, hcl]; omega
  have hcpB : ∀ (W : World), (∀ x, W.cell? x = (W1.setCells w.heap.size (i * 6) vs).cell? x) → (∀ x, W.frozen? x = (W1.setCells w.heap.size (i * 6) vs).frozen? x) → ∀ ty dc sc, (Builtin.copy_ #[62, 62] ty #[.slice (some ⟨w.heap.size, (i + 1) * 6, none⟩) (n - i) dc, .slice (some ⟨b, i * 6, none⟩) (n - i) sc]).run Tryz.prog W = .ok (goInt (Nat.min (n - i) (n - i))) (W.setCells w.heap.size ((i + 1) * 6) (cs.drop (i * 6))) := fun W hWc hWf ty dc sc =>
    run_copy6 W ty w.heap.size ((i + 1) * 6) (n - i) dc ⟨b, i * 6, none⟩ (n - i) sc (cs.drop (i * 6)) (by rw [hdl]; simp only [Nat.min_def]; split <;> omega)
      (fun j v hj => by
        rw [Addr.add_lit, hWc, World.cell?_setCells_out _ _ _ _ _ (fun h _ => absurd h hbN)]
        exact hOb _ v (hcs (i * 6 + j) v (by rwa [List.getElem?_drop] at hj)))
      (fun j hj => by rw [hWc]; exact isSome_setCells _ _ _ _ (fun t ht => hN _ (by omega)) _ (hN _ (by rw [hdl] at hj; omega)))
      (fun j hj => by rw [hWf, World.frozen?_setCells]; exact hNf _) (fun v hv => h1c v (List.mem_of_mem_drop hv))
  subst hW1
  have hE1 : ∀ x, ((w.alloc (.cells ROW 130)).drew).cell? x = (w.drew.alloc (.cells ROW 130)).cell? x := fun x => rfl
  have hE2 : ∀ x, ((w.alloc (.cells ROW 130)).drew).frozen? x = (w.drew.alloc (.cells ROW 130)).frozen? x := fun x => rfl
  have hF1 : ∀ x, (((w.alloc (.cells ROW 130)).drew.setCells w.heap.size (i * 6) vs).drew).cell? x = ((w.drew.alloc (.cells ROW 130)).setCells w.heap.size (i * 6) vs).cell? x := fun x => rfl
  have hF2 : ∀ x, (((w.alloc (.cells ROW 130)).drew.setCells w.heap.size (i * 6) vs).drew).frozen? x = ((w.drew.alloc (.cells ROW 130)).setCells w.heap.size (i * 6) vs).frozen? x := fun x => rfl
  have hw1 : IntKind.i64.wrap ((i : Int) + 1) = (i : Int) + 1 := by rw [IntKind.wrap_i64]; omega
  have hw2 : IntKind.i64.wrap ((n : Int) + 1) = (n : Int) + 1 := by rw [IntKind.wrap_i64]; omega
  have hb1 : (0 : Int) ≤ (i : Int) + 1 := by omega
  have hin : i ≤ n := by omega
  have htn : ((i : Int) + 1).toNat = i + 1 := by omega
  have hb3 : (i : Int) ≤ (n : Int) := by omega
  have hG63 : G ≤ 9223372036854775807 := by unfold maxLen at hGm; omega
  have HGM := Lib.hid hGm
  have HRT := Lib.hid hRt
  have HRS := Lib.hid hRs
  clear hkk hik hold hROW hG hRt hRs hGm
  go_enter Tryz.func104, Tryz.ntmps104
  go_wp2_with (first
    | (at_builtin; refine Lib.wpList_append_run _ rfl _ _ _ _ rfl _ _ rfl rfl _ _ (hrz _) ?_)
    | (at_builtin; refine wpList_copy_runI _ rfl _ _ 62 62 rfl _ _ rfl rfl (hcpA _ hE1 hE2 _ _) ?_)
    | (at_builtin; refine wpList_copy_runI _ rfl _ _ 62 62 rfl _ _ rfl rfl (hcpB _ (fun _ => rfl) (fun _ => rfl) _ _ _) ?_))
  go_region_law_o (refine step_copy_runI rfl _ _ 62 62 rfl (.slice (some ⟨w.heap.size, (i + 1) * 6, none⟩) (n - i) (G - (i + 1))) (.slice (some ⟨b, i * 6, none⟩) (n - i) (c - i)) (by simp [Act.eval, Act.put]) (by simp [Act.eval, Act.put]) (hcpB _ hF1 hF2 3 (G - (i + 1)) (c - i)) ?_)
  go_wp2
  go_ret
  exact ⟨G, ROW, hGn, HGM.out, HRS.out, HRT.out, rfl, rfl⟩

end Go.Proofs.YtpbclmnhkmcknaaGreat.Fe

namespace Go.Proofs.YtpbclmnhkmcknaaGreat.Fe
open Go.RowKit Go.Lib
set_option maxRecDepth 100000
set_option linter.unusedVariables false
set_option linter.unusedSimpArgs false

def insX (m : Nat) (x : Kx) (X : Nat → Kx) : Nat → Kx := fun j => if j < m then X j else if j = m then x else X (j - 1)
theorem insX_k (m : Nat) (x : Kx) (X : Nat → Kx) (j : Nat) : (insX m x X j).k = ins m x.k (fun i => (X i).k) j := by
  unfold insX ins
  by_cases h : j < m
  · rw [if_pos h, if_pos h]
  · rw [if_neg h, if_neg h]
    by_cases h2 : j = m
    · rw [if_pos h2, if_pos h2]
    · rw [if_neg h2, if_neg h2]
theorem grown_of_below {w w' : World} (h : Below w.heap.size w w') (r : Option Nat) : w.grownBy w' r := ⟨h.os, h.tape, h.output, h.size, fun i hi _ => h.block i hi⟩
theorem grown_puts {a w : World} {g : Nat} (h : a.grownBy w (some g)) (vs : List Value) (o : Nat) : a.grownBy (w.setCells g o vs) (some g) := by
  induction vs generalizing w o with
  | nil => exact h
  | cons v r ih => exact ih (grown_put h o v) (o + 1)
/-- A row with one element more. -/
theorem ownK_ins {w : World} {B g G n i : Nat} {X : Nat → Kx} {y : Kx} {ds : Array Value} (hL : Lies w g 130 ds) (hB : B ≤ g) (hG : n + 1 ≤ G) (hm : G ≤ maxLen) (hs : ds.size = G * 6) (hi : i ≤ n)
    (hd : ∀ k j, k < n + 1 → j < 6 → ds[k * 6 + j]? = if k < i then (kv n X)[k * 6 + j]? else if k = i then (kc y).toList[j]? else (kv n X)[(k - 1) * 6 + j]?) :
    OwnK w B (.slice (some ⟨g, 0, none⟩) (n + 1) G) (n + 1) (insX i y X) := by
  refine ⟨kv_length _ _, .inr ⟨g, G, ds, rfl, hB, hL, hG, hm, hs, ?_⟩⟩
  refine kv_ext (by simp [hs]; omega) (fun k j hk hj => ?_)
  rw [List.getElem?_take, if_pos (by omega), Array.getElem?_toList, hd k j hk hj]
  unfold insX
  by_cases h : k < i
  · rw [if_pos h, if_pos h, kv_at n X k j (by omega) hj]
  · rw [if_neg h, if_neg h]
    by_cases h2 : k = i
    · rw [if_pos h2, if_pos h2]
    · rw [if_neg h2, if_neg h2, kv_at n X (k - 1) j (by omega) hj]
theorem shift_at (cs ys : List Value) (cur d1 d2 : Array Value) (n i : Nat) (hcl : cs.length = n * 6) (hyl : ys.length = 6) (hi : i < n) (hcur : ∀ j, j < n * 6 → cur[j]? = cs[j]?)
    (e1 : ∀ j, d1[j]? = if (i + 1) * 6 ≤ j ∧ j < (i + 1) * 6 + (cs.drop (i * 6)).length then (cs.drop (i * 6))[j - (i + 1) * 6]? else cur[j]?)
    (e2 : ∀ j, d2[j]? = if i * 6 ≤ j ∧ j < i * 6 + ys.length then ys[j - i * 6]? else d1[j]?) :
    ∀ k j, k < n + 1 → j < 6 → d2[k * 6 + j]? = if k < i then cs[k * 6 + j]? else if k = i then ys[j]? else cs[(k - 1) * 6 + j]? := by
  intro k j hk hj
  rw [e2, e1, List.length_drop, hcl, hyl]
  by_cases h : k < i
  · rw [if_neg (by omega), if_neg (by omega), if_pos h, hcur _ (by omega)]
  · rw [if_neg h]
    by_cases h2 : k = i
    · rw [if_pos (by omega), if_pos h2, show k * 6 + j - i * 6 = j by omega]
    · rw [if_neg (by omega), if_pos (by omega), if_neg h2, List.getElem?_drop, show i * 6 + (k * 6 + j - (i + 1) * 6) = (k - 1) * 6 + j by omega]
theorem grow_at (cs ys : List Value) (ROW d1 d2 : Array Value) (n i : Nat) (hcl : cs.length = n * 6) (hyl : ys.length = 6) (hi : i < n) (hRt : ∀ j, j < i * 6 → ROW[j]? = cs[j]?)
    (e1 : ∀ j, d1[j]? = if i * 6 ≤ j ∧ j < i * 6 + ys.length then ys[j - i * 6]? else ROW[j]?)
    (e2 : ∀ j, d2[j]? = if (i + 1) * 6 ≤ j ∧ j < (i + 1) * 6 + (cs.drop (i * 6)).length then (cs.drop (i * 6))[j - (i + 1) * 6]? else d1[j]?) :
    ∀ k j, k < n + 1 → j < 6 → d2[k * 6 + j]? = if k < i then cs[k * 6 + j]? else if k = i then ys[j]? else cs[(k - 1) * 6 + j]? := by
  intro k j hk hj
  rw [e2, e1, List.length_drop, hcl, hyl]
  by_cases h : k < i
  · rw [if_neg (by omega), if_neg (by omega), if_pos h, hRt _ (by omega)]
  · rw [if_neg h]
    by_cases h2 : k = i
    · rw [if_neg (by omega), if_pos (by omega), if_pos h2, show k * 6 + j - i * 6 = j by omega]
    · rw [if_pos (by omega), if_neg h2, List.getElem?_drop, show i * 6 + (k * 6 + j - (i + 1) * 6) = (k - 1) * 6 + j by omega]
theorem shape_lies {w : World} {g : Nat} {t : TypeId} {cs : Array Value} (h : Lies w g t cs) : w.shape? g = some (t, cs.size) := by
  unfold Lies at h
  simp [World.shape?, h]
set_option maxHeartbeats 1000000 in
theorem insert_end (B g0 n c : Nat) (A : Option Addr) (X : Nat → Kx) (y : Kx) (w : World) (hown : OwnK w B (.slice A n c) n X) (hy : KT w y) (hg : Lies w g0 130 (kc y)) (hn : n ≤ 1000) (hB : B ≤ w.heap.size) (hnc : n ≤ c) :
    Calls Tryz.prog 104 #[.slice A n c, .int .i64 (n : Int), .slice (some ⟨g0, 0, none⟩) 1 1] w fun e w' => ∃ v', e = .returned v' ∧ OwnK w' B v' (n + 1) (insX n y X) ∧ w.grownBy w' (Value.slice A n c).ownBlock := by
  have HO := Lib.hid hown
  have HS : Hid (Ks w (some ⟨g0, 0, none⟩) 1 (fun _ => y)) := Lib.hid (by
    refine ⟨fun _ => ⟨g0, 0, rfl, fun k hk j hj => ?_⟩, fun _ _ => hy⟩
    rw [hg.cell]
    obtain rfl : k = 0 := by omega
    simp)
  have HI : Hid (∀ k, k < n + 1 → (if k < n then X k else y) = insX n y X k) := Lib.hid (fun k hk => by
    unfold insX
    by_cases h : k < n
    · rw [if_pos h, if_pos h]
    · rw [if_neg h, if_neg h, if_pos (by omega)])
  clear hown hy hg
  have z1 : ((n : Int) == (n : Int)) = true := by simp
  have q2 : (n : Int) ≤ (n : Int) := by omega
  by_cases hcn : c = n
  · subst hcn
    go_enter Tryz.func104, Tryz.ntmps104
    go_wp2_with (first
      | ((with_reducible refine wpl_appendK (some 25) _ _ _ (.tmp 23) (.tmp 24) B (.slice A c c) c X (some ⟨g0, 0, none⟩) 1 1 (fun _ => y) ?hs ?hx HO.out HS.out ?ha ?hm ?hz ?_); (case hs => rfl); (case hx => rfl); (case ha => (intro h; cases h)); (case hm => omega); (case hz => exact hB); (intro v' w' ho hgr hv); (have HO2 := Lib.hid ho); (have HG2 := Lib.hid hgr); (clear ho hgr hv)))
    all_goals
      go_ret
      exact ⟨_, rfl, HO2.out.congr HI.out, HG2.out⟩
  · have q1 : (n : Int) ≤ (c : Int) := by omega
    go_enter Tryz.func104, Tryz.ntmps104
    go_wp2_with (first
      | ((with_reducible refine wpl_appendK (some 25) _ _ _ (.tmp 23) (.tmp 24) B (.slice A n c) n X (some ⟨g0, 0, none⟩) 1 1 (fun _ => y) ?hs ?hx HO.out HS.out ?ha ?hm ?hz ?_); (case hs => rfl); (case hx => rfl); (case ha => (intro h; cases h)); (case hm => omega); (case hz => exact hB); (intro v' w' ho hgr hv); (have HO2 := Lib.hid ho); (have HG2 := Lib.hid hgr); (clear ho hgr hv)))
    all_goals
      go_ret
      exact ⟨_, rfl, HO2.out.congr HI.out, HG2.out⟩
theorem insert_mid (B b g0 n c i : Nat) (X : Nat → Kx) (y : Kx) (w : World) (cur : Array Value) (hL : Lies w b 130 cur) (hb : B ≤ b) (hs : cur.size = c * 6) (hcur : ∀ j, j < n * 6 → cur[j]? = (kv n X)[j]?) (hX : ∀ i, i < n → One (X i)) (hy : One y) (hg : Lies w g0 130 (kc y)) (hgb : g0 ≠ b) (hi : i < n) (hn : n ≤ 1000) (hB : B ≤ w.heap.size) (hnc : n ≤ c) (hcm : c ≤ maxLen) :
    Calls Tryz.prog 104 #[.slice (some ⟨b, 0, none⟩) n c, .int .i64 (i : Int), .slice (some ⟨g0, 0, none⟩) 1 1] w fun e w' => ∃ v', e = .returned v' ∧ OwnK w' B v' (n + 1) (insX i y X) ∧ w.grownBy w' (some b) := by
  have hcs : ∀ j v, (kv n X)[j]? = some v → w.cell? ⟨b, j, none⟩ = some v := fun j v h => by
    have hj : j < n * 6 := by have := (List.getElem?_eq_some_iff.1 h).1; rwa [kv_length] at this
    rw [hL.cell, hcur j hj, h]
  have hvs : ∀ j v, (kc y).toList[j]? = some v → w.cell? ⟨g0, j, none⟩ = some v := fun j v h => by
    rw [hg.cell]; simpa using h
  have hyl : (kc y).toList.length = 6 := rfl
  have h1y := kc_one y hy
  have hsa := shape_lies hg
  have hga : (kc y).size = 6 := rfl
  rw [hga] at hsa
  have hf0 := hg.free 0
  have hf6 := hg.free 6
  have HI := fun (ds : Array Value) (W : World) (g G : Nat) (h1 : Lies W g 130 ds) (h2 : B ≤ g) (h3 : n + 1 ≤ G) (h4 : G ≤ maxLen) (h5 : ds.size = G * 6) h6 => ownK_ins (B := B) (n := n) (i := i) (X := X) (y := y) h1 h2 h3 h4 h5 (Nat.le_of_lt hi) h6
  generalize (kc y).toList = ys at *
  clear hg
  have hkl := kv_length n X
  have h1c := kv_one n X hX
  generalize kv n X = cs at *
  by_cases hroom : n + 1 ≤ c
  · have h63 : c ≤ 9223372036854775807 := by unfold maxLen at hcm; omega
    have hsp : ∀ j, j < (n + 1) * 6 → (w.cell? ⟨b, j, none⟩).isSome = true := fun j hj => by rw [hL.cell, Array.getElem?_eq_getElem (by omega)]; rfl
    have hsb := shape_lies hL
    have hk0 : cur.size ≠ 0 := by omega
    refine (insert_shift b n c i g0 cs ys w hi hroom h63 hgb hkl hyl hcs hsp (fun j => hL.free j) hvs h1c h1y 130 130 6 cur.size hsa hsb hk0 hf0 hf6).mono ?_
    rintro e w' ⟨rfl, rfl⟩
    have l1 : (i + 1) * 6 + (cs.drop (i * 6)).length ≤ cur.size := by rw [List.length_drop, hkl, hs]; omega
    obtain ⟨d1, k1, s1, e1⟩ := Lies.puts' (cs.drop (i * 6)) ((i + 1) * 6) w.drew cur hL l1
    have l2 : i * 6 + ys.length ≤ d1.size := by rw [s1, hs, hyl]; omega
    obtain ⟨d2, k2, s2, e2⟩ := Lies.puts' ys (i * 6) _ d1 k1 l2
    exact ⟨_, rfl, HI d2 _ b c k2 hb hroom hcm (by rw [s2, s1, hs]) (shift_at cs ys cur d1 d2 n i hkl hyl hi hcur e1 e2), grown_puts (grown_puts (grown_drew (World.grownBy.refl w _)) _ _) _ _⟩
  · refine (insert_grow b n c i g0 cs ys w hi hnc (by omega) (by omega) hkl hyl hcs hvs h1c h1y).mono ?_
    rintro e w' ⟨G, ROW, hG, hGm, hRs, hRt, rfl, rfl⟩
    have k0 : Lies (w.alloc (.cells ROW 130)).drew w.heap.size 130 ROW := Lies.made w 130 ROW
    have l1 : i * 6 + ys.length ≤ ROW.size := by rw [hRs, hyl]; omega
    obtain ⟨d1, k1, s1, e1⟩ := Lies.puts' ys (i * 6) _ ROW k0 l1
    have k1' : Lies ((w.alloc (.cells ROW 130)).drew.setCells w.heap.size (i * 6) ys).drew w.heap.size 130 d1 := k1
    have l2 : (i + 1) * 6 + (cs.drop (i * 6)).length ≤ d1.size := by rw [List.length_drop, hkl, s1, hRs]; omega
    obtain ⟨d2, k2, s2, e2⟩ := Lies.puts' (cs.drop (i * 6)) ((i + 1) * 6) _ d1 k1' l2
    exact ⟨_, rfl, HI d2 _ w.heap.size G k2 hB hG hGm (by rw [s2, s1, hRs]) (grow_at cs ys ROW d1 d2 n i hkl hyl hi hRt e1 e2), grown_of_below (below_puts ((below_puts (below1 w _).drew (Nat.le_refl _) _ _).drew) (Nat.le_refl _) _ _) _⟩
theorem insert_any (B g0 n i : Nat) (v : Value) (X : Nat → Kx) (y : Kx) (w : World) (hown : OwnK w B v n X) (hX : ∀ i, i < n → One (X i)) (hy : KT w y) (hg : Lies w g0 130 (kc y)) (hne : v.ownBlock ≠ some g0) (hi : i ≤ n) (hn : n ≤ 1000) (hB : B ≤ w.heap.size) :
    Calls Tryz.prog 104 #[v, .int .i64 (i : Int), .slice (some ⟨g0, 0, none⟩) 1 1] w fun e w' => ∃ v', e = .returned v' ∧ OwnK w' B v' (n + 1) (insX i y X) ∧ w.grownBy w' v.ownBlock := by
  by_cases hin : i = n
  · subst hin
    obtain ⟨A, c, rfl, hnc, hcm, hA, hat⟩ := hown.slice
    exact insert_end B g0 i c A X y w hown hy hg hn hB hnc
  · have hlt : i < n := by omega
    rcases hown.2 with ⟨h1, h2⟩ | ⟨g, cap, cur, hv, hb, hL, hnc, hcm, hs, ht⟩
    · omega
    · subst hv
      exact insert_mid B g g0 n cap i X y w cur hL hb hs (fun j hj => by rw [← ht, List.getElem?_take, if_pos hj, Array.getElem?_toList]) hX hy.one hg (fun e => hne (by rw [e]; rfl)) hlt hn hB hnc hcm

end Go.Proofs.YtpbclmnhkmcknaaGreat.Fe

namespace Go.Proofs.YtpbclmnhkmcknaaGreat.Fe
open Go.RowKit

section
variable {P : Program} {ops : Array Oper} {Q : Exit → Act → World → Prop} {md : Region.Mode} {S : World → Prop}

/-- An operation that is wanted, and yields the same in every world that meets S, is taken first. -/
theorem any_take (i : Nat) (d : Tmp) {oi : Oper} (v : Value) {fuel : Nat} {listed : Array Bool} {a : Act} {w : World} (hi : ops[i]? = some oi) (hd : oi.dst = some d)
    (hs : Region.noSelect ops = true) (hf : Region.free md ops listed i = true) (hr : (Region.ready md ops listed).contains i = true)
    (hQ : ∀ c a w, Q (.panic c) (a.put (some d) v) w → Q (.panic c) a w) (hw : Region.wanted oi (yielded ops a.tmps) = true) (hy : ∀ w, S w → (execOp a.eval oi).run P w = .ok (.value v) w) (hS : S w)
    (h : wpAnyH P md ops Q S fuel (listed.setIfInBounds i true) (a.put (some d) v) w) : wpAnyH P md ops Q S (fuel + 1) listed a w :=
  wpAnyH_take hi hs hf hr (by rw [hd]; exact hQ) (.inl ⟨hw, hy⟩) hS (by rw [hd]; exact h)

/-- An operation that is not wanted. -/
theorem any_skip (i : Nat) (d : Tmp) {oi : Oper} {fuel : Nat} {listed : Array Bool} {a : Act} {w : World} (hi : ops[i]? = some oi) (hd : oi.dst = some d)
    (hs : Region.noSelect ops = true) (hf : Region.free md ops listed i = true) (hr : (Region.ready md ops listed).contains i = true)
    (hQ : ∀ c a w, Q (.panic c) (a.put (some d) undef) w → Q (.panic c) a w) (hw : Region.wanted oi (yielded ops a.tmps) = false) (hS : S w)
    (h : wpAnyH P md ops Q S fuel (listed.setIfInBounds i true) (a.put (some d) undef) w) : wpAnyH P md ops Q S (fuel + 1) listed a w :=
  wpAnyH_take hi hs hf hr (by rw [hd]; exact hQ) (.inr ⟨hw, rfl⟩) hS (by rw [hd]; exact h)
end

end Go.Proofs.YtpbclmnhkmcknaaGreat.Fe
