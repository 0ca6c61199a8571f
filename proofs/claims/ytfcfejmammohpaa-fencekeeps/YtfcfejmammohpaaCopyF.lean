/-
  The contract of Copy of a fence.
-/
import Derived.Test.YtfcfejmammohpaaSee
namespace Go.Proofs.Ytfcfejmammohpaa
open Go.RowKit
set_option maxRecDepth 100000
set_option linter.unusedVariables false
set_option linter.unusedSimpArgs false

def CpR (w : World) (n : Nat) (X : Nat → Kx) (gF : Nat) (fc : Array Value) (l i : Value) (wr : World) : Prop :=
  ∃ (j : Nat) (Y : Nat → Kx), j ≤ n ∧ i = .int .i64 (j : Int) ∧ NF wr w.heap.size l j Y ∧ (∀ k, k < j → (Y k).k = (X k).k) ∧ Lies wr gF 25 fc ∧ Lies wr (gF + 1) 25 #[.int .u32 0, .slice none 0 0] ∧ Below w.heap.size w wr
theorem NF.snoc {w : World} {B : Nat} {v' : Value} {n : Nat} {Y : Nat → Kx} {y : Kx} (row : OwnK w B v' (n + 1) (fun i => if i < n then Y i else y))
    (ha : ∀ i, i < n → Own w B (Y i).K (Y i).k.a) (hr : ∀ i, i < n → Own w B (Y i).D (Y i).k.r) (hb : ∀ i, i < n → (Y i).k.o < 4294967296 ∧ in64 (Y i).k.s ∧ in64 (Y i).k.c)
    (da : ∀ i j, i < n → j < i → ∀ g, (Y j).K.ownBlock = some g → (Y i).K.ownBlock ≠ some g) (dr : ∀ i j, i < n → j < i → ∀ g, (Y j).D.ownBlock = some g → (Y i).D.ownBlock ≠ some g)
    (ya : Own w B y.K y.k.a) (yr : Own w B y.D y.k.r) (yb : y.k.o < 4294967296 ∧ in64 y.k.s ∧ in64 y.k.c)
    (fa : ∀ i, i < n → ∀ g, (Y i).K.ownBlock = some g → y.K.ownBlock ≠ some g) (fr : ∀ i, i < n → ∀ g, (Y i).D.ownBlock = some g → y.D.ownBlock ≠ some g) : NF w B v' (n + 1) (insX n y Y) :=
  NF.insert (Nat.le_refl n) (row.congr (fun k hk => by
    unfold insX
    by_cases h : k < n
    · rw [if_pos h, if_pos h]
    · rw [if_neg h, if_neg h, if_pos (by omega)])) ha hr hb da dr ya yr yb fa fr
theorem NewKs.slices {w : World} {B : Nat} {v : Value} {l : List Nat} (h : Own w B v l) : ∃ A c, v = .slice A l.length c := by
  obtain ⟨A, c, e, _⟩ := h.slice
  exact ⟨A, c, e⟩
set_option maxHeartbeats 16000000 in
theorem copy_fence (ep : Nat) (A : Option Addr) (n c : Nat) (T : Nat → Kp) (w : World) (hF : FV w A n c T) (hn : n ≤ 1000) (hl : ∀ i, i < n → (T i).a.length ≤ 100000 ∧ (T i).r.length ≤ 100000) :
    Calls Try.prog 13 #[.agg #[.int .u32 (ep : Int), .slice A n c]] w fun x w' => ∃ v Y, x = .returned (.agg #[.int .u32 (ep : Int), v]) ∧ NF w' w.heap.size v n Y ∧ (∀ i, i < n → (Y i).k = T i) ∧ Below w.heap.size w w' := by
  obtain ⟨hnc, hcm, _, X, hX, hXk⟩ := hF
  have HX := Lib.hid hX
  have HXK := Lib.hid hXk
  have HL : Hid (∀ i, i < n → (X i).k.a.length ≤ 100000 ∧ (X i).k.r.length ≤ 100000) := Lib.hid (fun i hi => by rw [hXk i hi]; exact hl i hi)
  have LF := Lib.hid ((Lies.made w 25 #[.int .u32 (ep : Int), .slice A n c]).alloc (.cells #[.int .u32 0, .slice none 0 0] 25))
  have LR := Lib.hid (Lies.made2 w (.cells #[.int .u32 (ep : Int), .slice A n c] 25) 25 #[.int .u32 0, .slice none 0 0])
  have BB := Lib.hid (below2 w (.cells #[.int .u32 (ep : Int), .slice A n c] 25) (.cells #[.int .u32 0, .slice none 0 0] 25))
  clear hX hXk hcm hnc hl
  go_enter Try.func13, Try.ntmps13
  go_wp2_with fail
  go_loopw [3, 4] (CpR w n X w.heap.size #[.int .u32 (ep : Int), .slice A n c]) (fun _ i _ => n - (intOf i).toNat)
  case atStart => exact ⟨0, X, by omega, rfl, NF.nil _ _ _, (fun k hk => by omega), LF.out, LR.out, BB.out⟩
  case round =>
    obtain ⟨j, Y, hj, rfl, hnf, hyk, hLF, hLR, hbel⟩ := hrel
    have NF0 := Lib.hid hnf
    have HYK := Lib.hid hyk
    have LF0 := Lib.hid hLF
    have LR0 := Lib.hid hLR
    have BB0 := Lib.hid hbel
    obtain ⟨A', c', rfl, hnc', hcm', hA', -⟩ := hnf.row.slice
    clear hnf hyk hLF hLR hbel
    by_cases hlt : j < n
    · obtain ⟨b, off, rfl, _⟩ := HX.out.1 (by omega)
      have hi : (j : Int) < (n : Int) := by omega
      have HXW := Lib.hid (HX.out.below BB0.out)
      have HKT := Lib.hid (HXW.out.2 j hlt)
      obtain ⟨q0, q1, q2, q3, q4, q5⟩ := HXW.out.at j hlt
      obtain ⟨A1, c1, e1, g1, _, _, k1⟩ := HKT.out.a
      obtain ⟨A2, c2, e2, g2, _, _, k2⟩ := HKT.out.r
      have HLJ := Lib.hid (HL.out j hlt)
      have C1 := Lib.hid (fun W (hW : Below wr.heap.size wr W) => copy_any A1 (X j).k.a.length c1 (X j).k.a W (g1.below hW) k1 (by have := HLJ.out.1; omega))
      have C2 := Lib.hid (fun W (hW : Below wr.heap.size wr W) => copy_any A2 (X j).k.r.length c2 (X j).k.r W (g2.below hW) k2 (by have := HLJ.out.2; omega))
      have HBN := Lib.hid (And.intro HKT.out.o (And.intro HKT.out.s HKT.out.c))
      clear g1 g2 k1 k2 HKT HXW
      obtain ⟨x, hx⟩ : ∃ x, X j = x := ⟨_, rfl⟩
      have HXJ := Lib.hid hx
      rw [hx] at q0 q1 q2 q3 q4 q5 e1 e2 C1 C2 HBN HLJ
      clear hx
      obtain ⟨⟨xo, xs, xu, xa, xc, xr⟩, xK, xD⟩ := x
      dsimp only at *
      subst e1 e2
      obtain ⟨n1, hn1⟩ : ∃ q, xa.length = q := ⟨_, rfl⟩
      obtain ⟨n2, hn2⟩ : ∃ q, xr.length = q := ⟨_, rfl⟩
      rw [hn1] at q3 C1
      rw [hn2] at q5 C2
      clear hn1 hn2
      obtain ⟨a0, a1⟩ := LF0.out.cells2
      have LK0 := Lib.hid (Lies.made wr 34 #[.int .u32 (xo : Int), .int .i64 xs, .bool xu, .slice A1 n1 c1, .int .i64 xc, .slice A2 n2 c2])
      have LF1 := Lib.hid (LF0.out.alloc (.cells #[.int .u32 (xo : Int), .int .i64 xs, .bool xu, .slice A1 n1 c1, .int .i64 xc, .slice A2 n2 c2] 34))
      have LR1 := Lib.hid (LR0.out.alloc (.cells #[.int .u32 (xo : Int), .int .i64 xs, .bool xu, .slice A1 n1 c1, .int .i64 xc, .slice A2 n2 c2] 34))
      have NF1 := Lib.hid (NF0.out.below (below1 wr (.cells #[.int .u32 (xo : Int), .int .i64 xs, .bool xu, .slice A1 n1 c1, .int .i64 xc, .slice A2 n2 c2] 34)))
      have Z1 := Lib.hid (below1 wr (.cells #[.int .u32 (xo : Int), .int .i64 xs, .bool xu, .slice A1 n1 c1, .int .i64 xc, .slice A2 n2 c2] 34))
      go_wp2_with fail
      with_reducible refine (C1.out _ Z1.out).mono ?_
      rintro x w1 ⟨v1, rfl, ho1, hb⟩
      obtain ⟨D1, d1, rfl⟩ := NewKs.slices ho1
      have O1 := Lib.hid ho1
      have LK1 := Lib.hid (LK0.out.below hb LK0.out.lt)
      have LF2 := Lib.hid (LF1.out.below hb LF1.out.lt)
      have LR2 := Lib.hid (LR1.out.below hb LR1.out.lt)
      have NF2 := Lib.hid (NF1.out.below hb)
      have Z2 := Lib.hid (Z1.out.trans (hb.mono Z1.out.size))
      have LK1p := Lib.hid (LK1.out.put 3 (.slice D1 xa.length d1))
      have Z2p := Lib.hid (Z2.out.setCell (p := ⟨wr.heap.size, 3, none⟩) (Nat.le_refl _) (.slice D1 xa.length d1))
      clear ho1 hb q0 q1 q2 q3 q4 q5 a0 a1
      obtain ⟨p0, p1, p2, p3, p4, p5⟩ := LK1.out.cells6
      obtain ⟨f0, f1, f2, f3, f4, f5⟩ := LK1.out.free6
      go_wp2_with fail
      with_reducible refine (C2.out _ Z2p.out).mono ?_
      rintro x w2 ⟨v2, rfl, ho2, hb⟩
      obtain ⟨D2, d2, rfl⟩ := NewKs.slices ho2
      have O2 := Lib.hid ho2
      have LK2 : Hid (Lies w2 wr.heap.size 34 #[.int .u32 (xo : Int), .int .i64 xs, .bool xu, .slice D1 xa.length d1, .int .i64 xc, .slice A2 n2 c2]) := Lib.hid (LK1p.out.below hb LK1p.out.lt)
      have O12 := Lib.hid ((O1.out.lies_put LK1.out (by decide) 3 (.slice D1 xa.length d1)).belowOwn hb)
      have LF3 := Lib.hid ((LF2.out.other (a := ⟨wr.heap.size, 3, none⟩) (Nat.ne_of_lt LF0.out.lt) (.slice D1 xa.length d1)).below hb (LF2.out.other (a := ⟨wr.heap.size, 3, none⟩) (Nat.ne_of_lt LF0.out.lt) (.slice D1 xa.length d1)).lt)
      have LR3 := Lib.hid ((LR2.out.other (a := ⟨wr.heap.size, 3, none⟩) (Nat.ne_of_lt LR0.out.lt) (.slice D1 xa.length d1)).below hb (LR2.out.other (a := ⟨wr.heap.size, 3, none⟩) (Nat.ne_of_lt LR0.out.lt) (.slice D1 xa.length d1)).lt)
      have NF3 := Lib.hid (NF0.out.below (Z2p.out.trans (hb.mono Z2p.out.size)))
      have Z3 := Lib.hid (Z2p.out.trans (hb.mono Z2p.out.size))
      have Z3p := Lib.hid (Z3.out.setCell (p := ⟨wr.heap.size, 5, none⟩) (Nat.le_refl _) (.slice D2 xr.length d2))
      have HS2 := Lib.hid hb.size
      have SZ2 := Lib.hid (show wr.heap.size ≤ w1.heap.size from Z2.out.size)
      clear ho2 hb p0 p1 p2 p3 p4 p5 f0 f1 f2 f3 f4 f5
      obtain ⟨p0, p1, p2, p3, p4, p5⟩ := LK2.out.cells6
      obtain ⟨f0, f1, f2, f3, f4, f5⟩ := LK2.out.free6
      have LKf : Hid (Lies (w2.setCell ⟨wr.heap.size, 5, none⟩ (.slice D2 xr.length d2)) wr.heap.size 34 #[.int .u32 (xo : Int), .int .i64 xs, .bool xu, .slice D1 xa.length d1, .int .i64 xc, .slice D2 xr.length d2]) := Lib.hid (LK2.out.put 5 (.slice D2 xr.length d2))
      have NF4 := Lib.hid (NF0.out.below Z3p.out)
      have P1 := Lib.hid (O12.out.lies_put LK2.out (by decide) 5 (.slice D2 xr.length d2))
      have P2 := Lib.hid (O2.out.lies_put LK2.out (by decide) 5 (.slice D2 xr.length d2))
      have LF4 := Lib.hid (LF3.out.other (a := ⟨wr.heap.size, 5, none⟩) (Nat.ne_of_lt LF0.out.lt) (.slice D2 xr.length d2))
      have LR4 := Lib.hid (LR3.out.other (a := ⟨wr.heap.size, 5, none⟩) (Nat.ne_of_lt LR0.out.lt) (.slice D2 xr.length d2))
      have hs4 : (w2.setCell ⟨wr.heap.size, 5, none⟩ (.slice D2 xr.length d2)).heap.size = w2.heap.size := by simp [World.setCell]
      clear p0 p1 p2 p3 p4 p5 f0 f1 f2 f3 f4 f5
      obtain ⟨e0, e1, e2, e3, e4, e5⟩ := LK2.out.cells6
      obtain ⟨f0, f1, f2, f3, f4, f5⟩ := LK2.out.free6
      obtain ⟨p0, p1, p2, p3, p4, p5⟩ := LKf.out.cells6
      have NF5 := Lib.hid (NF4.out.below (below1 (w2.setCell ⟨wr.heap.size, 5, none⟩ (.slice D2 xr.length d2)) (.cells #[.int .u32 (xo : Int), .int .i64 xs, .bool xu, .slice D1 xa.length d1, .int .i64 xc, .slice D2 xr.length d2] 34)))
      have P1a := Lib.hid (P1.out.alloc (.cells #[.int .u32 (xo : Int), .int .i64 xs, .bool xu, .slice D1 xa.length d1, .int .i64 xc, .slice D2 xr.length d2] 34))
      have P2a := Lib.hid (P2.out.alloc (.cells #[.int .u32 (xo : Int), .int .i64 xs, .bool xu, .slice D1 xa.length d1, .int .i64 xc, .slice D2 xr.length d2] 34))
      have LF5 := Lib.hid (LF4.out.alloc (.cells #[.int .u32 (xo : Int), .int .i64 xs, .bool xu, .slice D1 xa.length d1, .int .i64 xc, .slice D2 xr.length d2] 34))
      have LR5 := Lib.hid (LR4.out.alloc (.cells #[.int .u32 (xo : Int), .int .i64 xs, .bool xu, .slice D1 xa.length d1, .int .i64 xc, .slice D2 xr.length d2] 34))
      have LG5 : Hid (Lies ((w2.setCell ⟨wr.heap.size, 5, none⟩ (.slice D2 xr.length d2)).alloc (.cells #[.int .u32 (xo : Int), .int .i64 xs, .bool xu, .slice D1 xa.length d1, .int .i64 xc, .slice D2 xr.length d2] 34)) w2.heap.size 34 #[.int .u32 (xo : Int), .int .i64 xs, .bool xu, .slice D1 xa.length d1, .int .i64 xc, .slice D2 xr.length d2]) := Lib.hid (by have := Lies.made (w2.setCell ⟨wr.heap.size, 5, none⟩ (.slice D2 xr.length d2)) 34 #[.int .u32 (xo : Int), .int .i64 xs, .bool xu, .slice D1 xa.length d1, .int .i64 xc, .slice D2 xr.length d2]; rwa [hs4] at this)
      have Z5 := Lib.hid (Z3p.out.alloc Z3p.out.size (.cells #[.int .u32 (xo : Int), .int .i64 xs, .bool xu, .slice D1 xa.length d1, .int .i64 xc, .slice D2 xr.length d2] 34))
      have HKS : Hid (Ks ((w2.setCell ⟨wr.heap.size, 5, none⟩ (.slice D2 xr.length d2)).alloc (.cells #[.int .u32 (xo : Int), .int .i64 xs, .bool xu, .slice D1 xa.length d1, .int .i64 xc, .slice D2 xr.length d2] 34)) (some ⟨w2.heap.size, 0, none⟩) 1 (fun _ => ⟨⟨xo, xs, xu, xa, xc, xr⟩, .slice D1 xa.length d1, .slice D2 xr.length d2⟩)) := Lib.hid (by
        refine ⟨fun _ => ⟨w2.heap.size, 0, rfl, fun k hk i hi => ?_⟩, fun _ _ => ⟨P1a.out.reads, P2a.out.reads, HBN.out.1, HBN.out.2.1, HBN.out.2.2⟩⟩
        rw [LG5.out.cell]
        obtain rfl : k = 0 := by omega
        simp)
      have hsz : w.heap.size ≤ ((w2.setCell ⟨wr.heap.size, 5, none⟩ (.slice D2 xr.length d2)).alloc (.cells #[.int .u32 (xo : Int), .int .i64 xs, .bool xu, .slice D1 xa.length d1, .int .i64 xc, .slice D2 xr.length d2] 34)).heap.size := Nat.le_trans BB0.out.size Z5.out.size
      go_wp2_with (first
        | ((with_reducible refine wpl_appendK (some 29) _ _ _ (.tmp 26) (.tmp 28) w.heap.size (.slice A' j c') j Y (some ⟨w2.heap.size, 0, none⟩) 1 1 (fun _ => ⟨⟨xo, xs, xu, xa, xc, xr⟩, .slice D1 xa.length d1, .slice D2 xr.length d2⟩) ?hs ?hx NF5.out.row HKS.out ?ha ?hm hsz ?_); (case hs => rfl); (case hx => rfl); (case ha => (intro h; cases h)); (case hm => omega); (intro v' w' ho hgr hv); (have HO2 := Lib.hid ho); (have HG2 := Lib.hid hgr); (clear ho hgr hv)))
      go_roundw
      case rel =>
        have hB1 : w.heap.size ≤ (wr.alloc (.cells #[.int .u32 (xo : Int), .int .i64 xs, .bool xu, .slice A1 n1 c1, .int .i64 xc, .slice A2 n2 c2] 34)).heap.size := Nat.le_trans BB0.out.size Z1.out.size
        have hB2 : w.heap.size ≤ (w1.setCell ⟨wr.heap.size, 3, none⟩ (.slice D1 xa.length d1)).heap.size := Nat.le_trans BB0.out.size Z2p.out.size
        refine ⟨j + 1, insX j ⟨⟨xo, xs, xu, xa, xc, xr⟩, .slice D1 xa.length d1, .slice D2 xr.length d2⟩ Y, by omega, by go_num, ?_, ?_, LF5.out.grown HG2.out (NF5.out.row.ne LF5.out (by decide)), LR5.out.grown HG2.out (NF5.out.row.ne LR5.out (by decide)), OwnK.grows NF5.out.row HG2.out (BB0.out.trans (Z5.out.mono BB0.out.size)) (Nat.le_refl _) hsz⟩
        · exact NF.snoc HO2.out (fun i hi => (NF5.out.a i hi).grownK NF5.out.row HG2.out) (fun i hi => (NF5.out.r i hi).grownK NF5.out.row HG2.out) NF0.out.b NF0.out.da NF0.out.dr ((P1a.out.mono hB1).grownK NF5.out.row HG2.out) ((P2a.out.mono hB2).grownK NF5.out.row HG2.out) HBN.out (fun i hi => fresh_ne (NF1.out.a i hi) O1.out) (fun i hi => fresh_ne ((NF0.out.below Z2p.out).r i hi) O2.out)
        · intro k hk
          by_cases h : k < j
          · rw [insX_lt h]; exact HYK.out k h
          · have : k = j := by omega
            subst this
            rw [insX_eq, HXJ.out]
      case measure => simp [intOf]; omega
    · have hjn : j = n := by omega
      subst hjn
      obtain ⟨a0, a1⟩ := LF0.out.cells2
      obtain ⟨r0, r1⟩ := LR0.out.cells2
      obtain ⟨rf0, rf1⟩ := LR0.out.free2
      go_wp2
      exact ret_fence1 (w.heap.size + 1) 25 _ rfl rfl (LR0.out.put2 _ _) rfl rfl ⟨_, Y, rfl, NF.put2 NF0.out LR0.out _ _, (fun i hi => (HYK.out i hi).trans (HXK.out i hi)), below_put2 BB0.out (Nat.le_succ _) _ _⟩

end Go.Proofs.Ytfcfejmammohpaa
