/-
  The contracts of bytes.Clone, clone, slices.Clone, cloneAll.
-/
import Derived.Test.YtfcfejmammohpaaCmp
import Derived.Laws.Cover3
import Derived.Deep.RegionWith
namespace Go.Proofs.Ytfcfejmammohpaa
open Go.RowKit
set_option maxRecDepth 100000
set_option linter.unusedVariables false
set_option linter.unusedSimpArgs false

theorem run_nil27 (a : Option Addr) (n c : Nat) (w : World) : (binOp .eql 27 (.slice a n c) (.slice none 0 0)).run Try.prog w = .ok (.bool a.isNone) w := by
  have h := run_equal_slice_nil (P := Try.prog) w 27 5 a n c Try.underlying27
  simp only [binOp, Sem.run_bind, h, Result.andThen_ok, Sem.run_pure]
theorem run_nil23 (a : Option Addr) (n c : Nat) (w : World) : (binOp .eql 23 (.slice a n c) (.slice none 0 0)).run Try.prog w = .ok (.bool a.isNone) w := by
  have h := run_equal_slice_nil (P := Try.prog) w 23 34 a n c Try.underlying23
  simp only [binOp, Sem.run_bind, h, Result.andThen_ok, Sem.run_pure]
theorem Own.zero (w : World) (B : Nat) (hB : B ≤ w.heap.size) : Own (w.alloc (.cells #[] 5)) B (.slice (some ⟨w.heap.size, 0, none⟩) 0 0) [] :=
  Own.made (l := []) (Lies.made w 5 _) hB (by simp) (by unfold maxLen; simp)
theorem OwnK.made0 (w : World) (B : Nat) (X : Nat → Kx) (hB : B ≤ w.heap.size) : OwnK (w.alloc (.cells #[] 34)) B (.slice (some ⟨w.heap.size, 0, none⟩) 0 0) 0 X :=
  World.ownsRow_made w #[] 0 hB (by unfold maxLen; omega) rfl
set_option maxHeartbeats 1000000 in
theorem bclone_any (a : Option Addr) (n cap : Nat) (l : List Nat) (w : World) (hB : Bys w a n l) (hA : a = none → cap = 0) (hn : n ≤ 1000000) :
    Calls Try.prog 70 #[.slice a n cap] w fun e w' => ∃ v, e = .returned v ∧ Own w' w.heap.size v l ∧ Below w.heap.size w w' := by
  rcases a with _ | ad
  · have hm : n = 0 := by
      refine Classical.byContradiction fun h0 => ?_
      obtain ⟨b, off, e, _⟩ := hB.2.2 (by omega)
      cases e
    have hl : l = [] := List.eq_nil_of_length_eq_zero (by rw [hB.1]; exact hm)
    have hc := hA rfl
    subst hm hl hc
    clear hB hA
    have hq := run_nil27 none 0 0
    rw [show (none : Option Addr).isNone = true from rfl] at hq
    go_enter Try.func70, Try.ntmps70
    go_wp2
    go_ret
    exact ⟨_, rfl, Own.nil _ _, Below.refl _ _⟩
  · have HT := Lib.hid (hB.alloc (.cells #[] 5))
    have HO := Lib.hid (Own.zero w w.heap.size (Nat.le_refl _))
    clear hB hA
    have hq := run_nil27 (some ad) n cap
    rw [show (some ad : Option Addr).isNone = false from rfl] at hq
    go_enter Try.func70, Try.ntmps70
    go_wp2_with (first
      | ((with_reducible refine wpl_append (some 7) _ _ _ (.tmp 5) (.tmp 6) w.heap.size _ [] (some ad) n cap l ?hs ?hx HO.out HT.out ?ha ?hm ?hz ?_); (case hs => rfl); (case hx => rfl); (case ha => (intro h; cases h)); (case hm => simpa using hn); (case hz => simp); (intro v' w' ho hg hv)))
    go_ret
    exact ⟨_, rfl, ho, HO.out.grows hg (below1 w _) (Nat.le_refl _) (by simp)⟩

/-- A kept step that a call has made. -/
def NewK (w : World) (B : Nat) (k : Kp) (y : Kx) : Prop := y.k = k ∧ Own w B y.K k.a ∧ Own w B y.D k.r
theorem NewK.below {w w' : World} {B : Nat} {k : Kp} {y : Kx} (h : NewK w B k y) (hb : Below w.heap.size w w') : NewK w' B k y := ⟨h.1, h.2.1.belowOwn hb, h.2.2.belowOwn hb⟩
theorem NewK.mono {w : World} {B B' : Nat} {k : Kp} {y : Kx} (h : NewK w B k y) (hb : B' ≤ B) : NewK w B' k y := ⟨h.1, h.2.1.mono hb, h.2.2.mono hb⟩
theorem Own.lies_put {w : World} {B : Nat} {v : Value} {l : List Nat} {g : Nat} {t : TypeId} {cs : Array Value} (h : Own w B v l) (hL : Lies w g t cs) (ht : t ≠ 5) (o : Nat) (u : Value) : Own (w.setCell ⟨g, o, none⟩ u) B v l := h.setOther (h.ne hL ht) u
theorem Own.put6 {w : World} {B : Nat} {v : Value} {l : List Nat} {g : Nat} {t : TypeId} {z0 z1 z2 z3 z4 z5 : Value} (h : Own w B v l) (hL : Lies w g t #[z0, z1, z2, z3, z4, z5]) (ht : t ≠ 5) (a0 a1 a2 a3 a4 a5 : Value) : Own (Go.Proofs.Ytfcfejmammohpaa.put6 w g a0 a1 a2 a3 a4 a5) B v l :=
  (((((h.lies_put hL ht 0 a0).lies_put (hL.put 0 a0) ht 1 a1).lies_put ((hL.put 0 a0).put 1 a1) ht 2 a2).lies_put (((hL.put 0 a0).put 1 a1).put 2 a2) ht 3 a3).lies_put ((((hL.put 0 a0).put 1 a1).put 2 a2).put 3 a3) ht 4 a4).lies_put (((((hL.put 0 a0).put 1 a1).put 2 a2).put 3 a3).put 4 a4) ht 5 a5
theorem Own.st6 {w : World} {B : Nat} {v : Value} {l : List Nat} {g o : Nat} {t : TypeId} {cs : Array Value} (h : Own w B v l) (hL : Lies w g t cs) (ht : t ≠ 5) (a0 a1 a2 a3 a4 a5 : Value) : Own (Go.Proofs.Ytfcfejmammohpaa.st6 w g o a0 a1 a2 a3 a4 a5) B v l :=
  (((((h.lies_put hL ht o a0).lies_put (hL.put o a0) ht (o + 1) a1).lies_put ((hL.put o a0).put (o + 1) a1) ht (o + 2) a2).lies_put (((hL.put o a0).put (o + 1) a1).put (o + 2) a2) ht (o + 3) a3).lies_put ((((hL.put o a0).put (o + 1) a1).put (o + 2) a2).put (o + 3) a3) ht (o + 4) a4).lies_put (((((hL.put o a0).put (o + 1) a1).put (o + 2) a2).put (o + 3) a3).put (o + 4) a4) ht (o + 5) a5
theorem OwnK.lies {w : World} {B b off c : Nat} {n : Nat} {X : Nat → Kx} (h : OwnK w B (.slice (some ⟨b, off, none⟩) n c) n X) : ∃ cs, Lies w b 34 cs := by
  rcases h.2 with ⟨h1, h2⟩ | ⟨g, cap, cur, hv, hb, hg, _⟩
  · cases h1
  · injection hv with q1 q2 q3
    injection q1 with q1
    injection q1 with q1 q4 _
    subst q1
    exact ⟨cur, hg⟩
set_option maxHeartbeats 4000000 in
theorem clone_any (x : Kx) (w : World) (hx : KT w x) (h1 : x.k.a.length ≤ 100000) (h2 : x.k.r.length ≤ 100000) :
    Calls Try.prog 43 #[.agg (kc x)] w fun e w' => ∃ y, e = .returned (.agg (kc y)) ∧ NewK w' w.heap.size x.k y ∧ Below w.heap.size w w' := by
  obtain ⟨A1, c1, e1, g1, _, _, k1⟩ := hx.a
  obtain ⟨A2, c2, e2, g2, _, _, k2⟩ := hx.r
  clear hx
  obtain ⟨⟨xo, xs, xu, xa, xc, xr⟩, xK, xD⟩ := x
  dsimp only at *
  subst e1 e2
  obtain ⟨n1, hn1⟩ : ∃ n1, xa.length = n1 := ⟨_, rfl⟩
  obtain ⟨n2, hn2⟩ : ∃ n2, xr.length = n2 := ⟨_, rfl⟩
  rw [hn1] at g1 h1 ⊢
  rw [hn2] at g2 h2 ⊢
  have HB := Lib.hid (below2 w (.cells #[.int .u32 (xo : Int), .int .i64 xs, .bool xu, .slice A1 n1 c1, .int .i64 xc, .slice A2 n2 c2] 34) (.cells #[.int .u32 0, .int .i64 0, .bool false, .slice none 0 0, .int .i64 0, .slice none 0 0] 34))
  have LX := Lib.hid ((Lies.made w 34 #[.int .u32 (xo : Int), .int .i64 xs, .bool xu, .slice A1 n1 c1, .int .i64 xc, .slice A2 n2 c2]).alloc (.cells #[.int .u32 0, .int .i64 0, .bool false, .slice none 0 0, .int .i64 0, .slice none 0 0] 34))
  have LR := Lib.hid (Lies.made2 w (.cells #[.int .u32 (xo : Int), .int .i64 xs, .bool xu, .slice A1 n1 c1, .int .i64 xc, .slice A2 n2 c2] 34) 34 #[.int .u32 0, .int .i64 0, .bool false, .slice none 0 0, .int .i64 0, .slice none 0 0])
  have C1 := Lib.hid (fun W (hb : Below w.heap.size w W) => bclone_any A1 n1 c1 xa W (g1.below hb) k1 (by omega))
  have C2 := Lib.hid (fun W (hb : Below w.heap.size w W) => bclone_any A2 n2 c2 xr W (g2.below hb) k2 (by omega))
  obtain ⟨q0, q1, q2, q3, q4, q5⟩ := LX.out.cells6
  obtain ⟨p0, p1, p2, p3, p4, p5⟩ := LX.out.free6
  clear g1 g2 k1 k2 hn1 hn2
  go_enter Try.func43, Try.ntmps43
  go_wp2_with fail
  go_region_with
    (first
    | (go_at_call 70; (with_reducible refine (C1.out _ HB.out.drew).mono ?_); (rintro e w1 ⟨v1, rfl, ho1, hb⟩); (obtain ⟨D1, d1, rfl, -, -, -, -⟩ := ho1.slice); (have O1 := Lib.hid ho1); (have B1 := Lib.hid (HB.out.drew.trans (hb.mono HB.out.size))); (have X1 := Lib.hid (Lies.below (Lies.drew LX.out) hb (Lies.lt LX.out))); (have R1 := Lib.hid (Lies.below (Lies.drew LR.out) hb (Lies.lt LR.out))); (clear ho1 hb q0 q1 q2 q3 q4 q5 p0 p1 p2 p3 p4 p5); (obtain ⟨q0, q1, q2, q3, q4, q5⟩ := X1.out.cells6); (obtain ⟨p0, p1, p2, p3, p4, p5⟩ := X1.out.free6))
    | (go_at_call 70; (with_reducible refine (C2.out _ B1.out).mono ?_); (rintro e w2 ⟨v2, rfl, ho2, hb⟩); (obtain ⟨D2, d2, rfl, -, -, -, -⟩ := ho2.slice); (have O2 := Lib.hid ho2); (have O12 := Lib.hid (O1.out.belowOwn hb)); (have B2 := Lib.hid (B1.out.trans (hb.mono B1.out.size))); (have X2 := Lib.hid (Lies.below X1.out hb (Lies.lt X1.out))); (have R2 := Lib.hid (Lies.below R1.out hb (Lies.lt R1.out))); (clear ho2 hb q0 q1 q2 q3 q4 q5 p0 p1 p2 p3 p4 p5); (obtain ⟨q0, q1, q2, q3, q4, q5⟩ := X2.out.cells6); (obtain ⟨p0, p1, p2, p3, p4, p5⟩ := X2.out.free6)))
  all_goals
    have L3 := Lib.hid ((X2.out.put 3 (.slice D1 xa.length d1)).put 5 (.slice D2 xr.length d2))
    have R3 := Lib.hid ((R2.out.other (a := ⟨w.heap.size, 3, none⟩) (by simp) (.slice D1 xa.length d1)).other (a := ⟨w.heap.size, 5, none⟩) (by simp) (.slice D2 xr.length d2))
    have B3 := Lib.hid ((B2.out.setCell (p := ⟨w.heap.size, 3, none⟩) (Nat.le_refl _) (.slice D1 xa.length d1)).setCell (p := ⟨w.heap.size, 5, none⟩) (Nat.le_refl _) (.slice D2 xr.length d2))
    have P1 := Lib.hid ((O12.out.lies_put X2.out (by decide) 3 (.slice D1 xa.length d1)).lies_put (X2.out.put 3 _) (by decide) 5 (.slice D2 xr.length d2))
    have P2 := Lib.hid ((O2.out.lies_put X2.out (by decide) 3 (.slice D1 xa.length d1)).lies_put (X2.out.put 3 _) (by decide) 5 (.slice D2 xr.length d2))
    clear q0 q1 q2 q3 q4 q5 p0 p1 p2 p3 p4 p5
    obtain ⟨q0, q1, q2, q3, q4, q5⟩ := Lies.cells6 (show Lies _ _ 34 #[_, _, _, _, _, _] from L3.out)
    obtain ⟨t0, t1, t2, t3, t4, t5⟩ := R3.out.cells6
    obtain ⟨p0, p1, p2, p3, p4, p5⟩ := R3.out.free6
    go_wp2
    refine ret_kept (w.heap.size + 1) 34 _ rfl rfl (R3.out.put6 _ _ _ _ _ _) rfl rfl ?_
    refine ⟨⟨⟨xo, xs, xu, xa, xc, xr⟩, .slice D1 xa.length d1, .slice D2 xr.length d2⟩, rfl, ⟨rfl, ?_, ?_⟩, below_put6 B3.out (Nat.le_succ _) _ _ _ _ _ _⟩
    · exact (P1.out.put6 R3.out (by decide) _ _ _ _ _ _).mono HB.out.size
    · exact (P2.out.put6 R3.out (by decide) _ _ _ _ _ _).mono B1.out.size

set_option maxHeartbeats 1000000 in
theorem sclone_any (A : Option Addr) (n c : Nat) (X : Nat → Kx) (w : World) (hK : Ks w A n X) (hnc : n ≤ c) (hA : A = none → c = 0) (hn : n ≤ 10000) :
    Calls Try.prog 71 #[.slice A n c] w fun e w' => ∃ v, e = .returned v ∧ OwnK w' w.heap.size v n X ∧ Below w.heap.size w w' := by
  rcases A with _ | ad
  · have hc := hA rfl
    subst hc
    have hm : n = 0 := by omega
    subst hm
    clear hK hA
    have hq := run_nil23 none 0 0
    rw [show (none : Option Addr).isNone = true from rfl] at hq
    go_enter Try.func71, Try.ntmps71
    go_wp2
    go_ret
    exact ⟨_, rfl, OwnK.nil _ _ _, Below.refl _ _⟩
  · have HT := Lib.hid (hK.below (below1 w (.cells #[] 34)))
    have HO := Lib.hid (OwnK.made0 w w.heap.size X (Nat.le_refl _))
    clear hK hA
    have hq := run_nil23 (some ad) n c
    rw [show (some ad : Option Addr).isNone = false from rfl] at hq
    go_enter Try.func71, Try.ntmps71
    go_wp2_with (first
      | ((with_reducible refine wpl_appendK (some 7) _ _ _ (.tmp 5) (.tmp 6) w.heap.size _ 0 X (some ad) n c X ?hs ?hx HO.out HT.out ?ha ?hm ?hz ?_); (case hs => rfl); (case hx => rfl); (case ha => (intro h; cases h)); (case hm => omega); (case hz => simp); (intro v' w' ho hg hv)))
    go_ret
    refine ⟨_, rfl, ?_, HO.out.grows hg (below1 w _) (Nat.le_refl _) (by simp)⟩
    have h2 := ho
    rw [Nat.zero_add] at h2
    exact h2.congr (fun i hi => by simp)

/-- The first j elements are copied. -/
def CaR (w : World) (n : Nat) (X : Nat → Kx) (v i : Value) (wr : World) : Prop :=
  ∃ (j : Nat) (Y : Nat → Kx), j ≤ n ∧ i = .int .i64 (j : Int) ∧ OwnK wr w.heap.size v n (fun k => if k < j then Y k else X k) ∧ (∀ k, k < j → NewK wr w.heap.size (X k).k (Y k)) ∧
    (∀ i k, i < j → k < i → (∀ g, (Y k).K.ownBlock = some g → (Y i).K.ownBlock ≠ some g) ∧ (∀ g, (Y k).D.ownBlock = some g → (Y i).D.ownBlock ≠ some g)) ∧ Below w.heap.size w wr
theorem fresh_ne {w w' : World} {B : Nat} {u v : Value} {l l' : List Nat} (h : Own w B u l) (h' : Own w' w.heap.size v l') : ∀ g, u.ownBlock = some g → v.ownBlock ≠ some g := fun g e e' => by
  have := h.lt g e
  have := h'.block g e'
  omega
theorem below_nodrew {B : Nat} {w w' : World} (h : Below B w w') : Below B w w' := h
set_option maxHeartbeats 8000000 in
theorem cloneAll_any (A : Option Addr) (n c : Nat) (X : Nat → Kx) (w : World) (hK : Ks w A n X) (hnc : n ≤ c) (hA : A = none → c = 0) (hn : n ≤ 10000) (hl : ∀ i, i < n → (X i).k.a.length ≤ 100000 ∧ (X i).k.r.length ≤ 100000) :
    Calls Try.prog 44 #[.slice A n c] w fun e w' => ∃ v Y, e = .returned v ∧ NF w' w.heap.size v n Y ∧ (∀ i, i < n → (Y i).k = (X i).k) ∧ Below w.heap.size w w' := by
  have CC := Lib.hid (sclone_any A n c X w hK hnc hA hn)
  have HK := Lib.hid hK
  have HL := Lib.hid hl
  clear hK hA hl hnc
  go_enter Try.func44, Try.ntmps44
  go_wp2_with fail
  with_reducible refine CC.out.mono ?_
  rintro e w1 ⟨v, rfl, ho, hb⟩
  obtain ⟨A', c', rfl, hnc', hcm, hA', hat⟩ := ho.slice
  have HO := Lib.hid ho
  have HB := Lib.hid hb
  have HAT := Lib.hid hat
  clear ho hb hat CC
  go_wp2_with fail
  go_loopw [8] (CaR w n X (.slice A' n c')) (fun i _ => n - (intOf i).toNat)
  case atStart => exact ⟨0, X, by omega, rfl, HO.out.congr (fun k hk => by simp), (fun k hk => by omega), (fun i k hi => by omega), HB.out⟩
  case round =>
    obtain ⟨j, Y, hj, rfl, hrow, hnew, hdis, hbel⟩ := hrel
    have ROW := Lib.hid hrow
    have NEW := Lib.hid hnew
    have DIS := Lib.hid hdis
    have BE := Lib.hid hbel
    clear hrow hnew hdis hbel
    by_cases hlt : j < n
    · obtain ⟨b, off, rfl, hoff, hbB, _⟩ := HAT.out (by omega)
      have HBB := Lib.hid hbB
      clear hoff hbB
      obtain ⟨⟨q0, q1, q2, q3, q4, q5⟩, f0, f1, f2, f3, f4, f5⟩ := ROW.out.at j hlt
      have hi : (j : Int) < (n : Int) := by omega
      have HKT := Lib.hid ((HK.out.below BE.out).2 j hlt)
      have CL := Lib.hid (fun (W : World) (hW : Below wr.heap.size wr W) => clone_any (X j) W (HKT.out.below hW) (HL.out j hlt).1 (HL.out j hlt).2)
      have CL0 := Lib.hid (CL.out _ (Below.refl _ _))
      obtain ⟨A1, c1, e1, _⟩ := HKT.out.a
      obtain ⟨A2, c2, e2, _⟩ := HKT.out.r
      rw [if_neg (Nat.lt_irrefl j)] at q0 q1 q2 q3 q4 q5
      have HXJ := Lib.hid (rfl : (X j).k = (X j).k)
      clear HKT CL
      rw [e1] at q3
      rw [e2] at q5
      generalize hxj : X j = x at *
      have HXE := Lib.hid hxj
      clear hxj
      obtain ⟨⟨xo, xs, xu, xa, xc, xr⟩, xK, xD⟩ := x
      dsimp only at *
      subst e1 e2
      go_wp2_with fail
      with_reducible refine CL0.out.mono ?_
      rintro e w2 ⟨y, rfl, hy, hb⟩
      have NY := Lib.hid hy
      have B2 := Lib.hid (BE.out.trans (hb.mono BE.out.size))
      have ROW2 := Lib.hid (ROW.out.belowT hb)
      have NEW2 := Lib.hid (fun k hk => (NEW.out k hk).below hb)
      have FR := Lib.hid (fun k (hk : k < j) => And.intro (fresh_ne (NEW.out k hk).2.1 hy.2.1) (fresh_ne (NEW.out k hk).2.2 hy.2.2))
      have BLE := Lib.hid BE.out.size
      clear hb hy q0 q1 q2 q3 q4 q5 f0 f1 f2 f3 f4 f5
      obtain ⟨⟨q0, q1, q2, q3, q4, q5⟩, f0, f1, f2, f3, f4, f5⟩ := ROW2.out.at j hlt
      obtain ⟨E1, d1, z1, _⟩ := NY.out.2.1.slice
      obtain ⟨E2, d2, z2, _⟩ := NY.out.2.2.slice
      have NYK := Lib.hid NY.out.1
      obtain ⟨yk, yK, yD⟩ := y
      dsimp only at *
      subst z1 z2
      have hyk := NYK.out
      subst hyk
      try dsimp only at *
      obtain ⟨rcs, hrl⟩ := ROW2.out.lies
      have RL := Lib.hid hrl
      clear hrl
      go_wp2
      go_roundw
      case rel =>
        refine ⟨j + 1, fun k => if k = j then ⟨⟨xo, xs, xu, xa, xc, xr⟩, .slice E1 xa.length d1, .slice E2 xr.length d2⟩ else Y k, by omega, by go_num, ?_, ?_, ?_, below_st6 B2.out HBB.out _ _ _ _ _ _⟩
        · refine (ROW2.out.set j hlt ⟨⟨xo, xs, xu, xa, xc, xr⟩, .slice E1 xa.length d1, .slice E2 xr.length d2⟩).congr (fun k hk => ?_)
          dsimp only
          by_cases e : k = j
          · subst e; simp
          · by_cases e2 : k < j
            · rw [if_neg e, if_pos e2, if_pos (by omega), if_neg e]
            · rw [if_neg e, if_neg e2, if_neg (by omega)]
        · intro k hk
          dsimp only
          by_cases e : k = j
          · subst e
            rw [if_pos rfl, HXE.out]
            exact ⟨rfl, (NY.out.2.1.mono BLE.out).st6 RL.out (by decide) _ _ _ _ _ _, (NY.out.2.2.mono BLE.out).st6 RL.out (by decide) _ _ _ _ _ _⟩
          · rw [if_neg e]
            have h := NEW2.out k (by omega)
            exact ⟨h.1, h.2.1.st6 RL.out (by decide) _ _ _ _ _ _, h.2.2.st6 RL.out (by decide) _ _ _ _ _ _⟩
        · intro i k hi hk
          dsimp only
          rw [if_neg (show ¬ k = j by omega)]
          by_cases e : i = j
          · subst e
            rw [if_pos rfl]
            exact FR.out k hk
          · rw [if_neg e]
            exact DIS.out i k (by omega) hk
      case measure => simp [intOf]; omega
    · have hjn : j = n := by omega
      subst hjn
      go_wp2
      go_ret
      refine ⟨_, Y, rfl, ⟨ROW.out.congr (fun k hk => by rw [if_pos hk]), fun i hi => ?_, fun i hi => ?_, fun i hi => ?_, fun i k hi hk => (DIS.out i k hi hk).1, fun i k hi hk => (DIS.out i k hi hk).2⟩, fun i hi => (NEW.out i hi).1, BE.out⟩
      · rw [(NEW.out i hi).1]; exact (NEW.out i hi).2.1
      · rw [(NEW.out i hi).1]; exact (NEW.out i hi).2.2
      · have := HK.out.2 i hi
        rw [(NEW.out i hi).1]; exact ⟨this.o, this.s, this.c⟩

end Go.Proofs.Ytfcfejmammohpaa
