/-
  Texts of one proof, in their order: CDec, StGoods, PuLayS, PuCmp, PuRowE, PuMet, PuSortE, PuAppE, PuTaken, PuAccts, CrewI, CBook, CrewS.
-/
import Derived.Shelf.SlSortCmp.NoneTotal
import Derived.Lib.Bytealg
import Derived.Lib.Walk
import Derived.Maps.AppendAt
import Derived.Laws.MakeOwn
import Derived.Sort.OwnSorted
import Derived.Test.YtpbclmnhkmcknaaGreatB12
namespace Go.Proofs.YtpbclmnhkmcknaaGreat
open Go.RowKit
open Fe (Lies Own Bys Reads NF Kx Kp Note)
set_option maxRecDepth 100000
set_option linter.unusedVariables false
set_option linter.unusedSimpArgs false

/-- What Decode gives. -/
def DecPost (w : World) (l : List Nat) (e : Ending) (w' : World) : Prop :=
  Below w.heap.size w w' ∧ ((decS l = none ∧ e = .returned (.tuple #[.agg #[.int .i64 0, .int .i64 0, .slice none 0 0], .int .i64 120])) ∨
    ∃ (k : Wk) (s : Sl), decS l = some k ∧ s.n = k.x.length ∧ e = .returned (.tuple #[.agg #[.int .i64 k.t, .int .i64 k.n, s.v], .int .i64 0]) ∧ Own w' w.heap.size s.v k.x)
theorem ret_work {fn : Func} {R : Ending → World → Prop} {a : Act} {w : World} {p u : Tmp} (g : Nat) (t : TypeId) (cs : Array Value) (h : fn.results = #[.cell p 24, .tmp u]) (hp : a.tmps.getD p undef = .pointer (some ⟨g, 0, none⟩)) (hg : Lies w g t cs) (hs : cs.size = 3) (hd : a.defers = [])
    (hR : R (.returned (.tuple #[.agg cs, a.tmps.getD u undef])) w) : bodyPost Tryz.prog fn R .ret a w :=
  bodyPost_ret (Fe.results_cell_run h _ _ g cs hp (run_loadVar_row w g t 24 cs (0, 0) _ hg Tryz.underlying24 rfl (by rw [hs]; kernel_rfl))) hd hR
abbrev put3 (w : World) (g : Nat) (a0 a1 a2 : Value) : World := ((w.setCell ⟨g, 0, none⟩ a0).setCell ⟨g, 1, none⟩ a1).setCell ⟨g, 2, none⟩ a2
theorem Lies_put3 {w : World} {g : Nat} {t : TypeId} {z0 z1 z2 : Value} (h : Lies w g t #[z0, z1, z2]) (a0 a1 a2 : Value) : Lies (put3 w g a0 a1 a2) g t #[a0, a1, a2] := ((h.put 0 a0).put 1 a1).put 2 a2
theorem below_put3 {B g : Nat} {w0 w : World} (h : Below B w0 w) (hg : B ≤ g) (a0 a1 a2 : Value) : Below B w0 (put3 w g a0 a1 a2) := ((h.setCell (p := ⟨g, 0, none⟩) hg a0).setCell (p := ⟨g, 1, none⟩) hg a1).setCell (p := ⟨g, 2, none⟩) hg a2
theorem Own_lies_put {w : World} {B : Nat} {v : Value} {l : List Nat} {g : Nat} {t : TypeId} {cs : Array Value} (h : Own w B v l) (hL : Lies w g t cs) (ht : t ≠ 5) (o : Nat) (u : Value) : Own (w.setCell ⟨g, o, none⟩ u) B v l :=
  h.setOther (a := ⟨g, o, none⟩) (h.ne hL ht) u
theorem Own_put3 {w : World} {B : Nat} {v : Value} {l : List Nat} {g : Nat} {z0 z1 z2 : Value} (h : Own w B v l) (hL : Lies w g 24 #[z0, z1, z2]) (a0 a1 a2 : Value) : Own (put3 w g a0 a1 a2) B v l :=
  Own_lies_put (Own_lies_put (Own_lies_put h hL (by decide) 0 a0) (hL.put 0 a0) (by decide) 1 a1) ((hL.put 0 a0).put 1 a1) (by decide) 2 a2
set_option maxHeartbeats 4000000 in
theorem decode_any (l : List Nat) (A : Option Addr) (n c : Nat) (w : World) (hB : Bys w A n l) (hl : l.length ≤ 200000) : Calls Tryz.prog 14 #[.slice A n c] w (DecPost w l) := by
  have HB0 := Lib.hid hB
  have hsm := hB.2.1
  have hnl : n ≤ 200000 := by have := hB.1; omega
  obtain ⟨q1, q2, q3, q4, q5⟩ := rdW_small hsm
  have HSM := Lib.hid q4
  have HD : Hid (decS l = if rdB l = true ∧ wkB (rdW l) = true then some (rdW l) else none) := Lib.hid rfl
  obtain ⟨a1, hr1⟩ : ∃ a, Fe.Ent.rnum l 1 (0, false) = a := ⟨_, rfl⟩
  obtain ⟨a2, hr2⟩ : ∃ a, Fe.Ent.rnum l 4 a1.2 = a := ⟨_, rfl⟩
  obtain ⟨a3, hr3⟩ : ∃ a, Fe.Ent.rtxt l a2.2 = a := ⟨_, rfl⟩
  have e1 : r1 l = a1 := hr1
  have e2 : r2 l = a2 := by unfold r2; rw [e1]; exact hr2
  have e3 : r3 l = a3 := by unfold r3; rw [e2]; exact hr3
  have eW : rdW l = ⟨(a1.1 : Nat), (a2.1 : Nat), a3.1⟩ := by unfold rdW; rw [e1, e2, e3]
  have eB : rdB l = (!a3.2.2 && decide (a3.2.1 = l.length)) := by unfold rdB; rw [e3]
  rw [e1] at q2
  rw [e2] at q3
  rw [eW] at HSM q5 HD
  rw [eB] at HD
  have HR1 := Lib.hid hr1
  have HR2 := Lib.hid hr2
  have HR3 := Lib.hid hr3
  clear e1 e2 e3 eW eB q1 q4 hsm hB hr1 hr2 hr3
  obtain ⟨n1, s1⟩ := a1
  obtain ⟨n2, s2⟩ := a2
  obtain ⟨x, s3⟩ := a3
  dsimp only at *
  have LR0 := Lib.hid (Lies.made w 24 #[.int .i64 0, .int .i64 0, .slice none 0 0])
  have BB0 := Lib.hid (Fe.below1 w (.cells #[.int .i64 0, .int .i64 0, .slice none 0 0] 24))
  have HB := Lib.hid (HB0.out.alloc (.cells #[.int .i64 0, .int .i64 0, .slice none 0 0] 24))
  go_enter Tryz.func14, Tryz.ntmps14
  go_wp2_with fail
  with_reducible refine (Fe.newReader_any A n c l _ HB.out hnl).mono ?_
  rintro e w1 ⟨p, rfl, hR, hb, hp⟩
  have RD1 := Lib.hid hR
  have HP : Hid (w.heap.size < p) := Lib.hid (by rw [Fe.size_one] at hp; omega)
  have BB1 := Lib.hid (BB0.out.trans (hb.mono BB0.out.size))
  have LR1 := Lib.hid (LR0.out.below hb LR0.out.lt)
  clear hR hb hp
  go_wp2_with fail
  with_reducible refine (Fe.ru8_any p (0, false) l w1 RD1.out hl).mono ?_
  rintro e w2 ⟨he, hR, hg⟩
  rw [HR1.out] at he hR
  subst he
  dsimp only at *
  have RD2 := Lib.hid hR
  have BB2 := Lib.hid (BB1.out.grown hg BB1.out.size (fun k hk => by injection hk with hk; have := HP.out; omega))
  have LR2 := Lib.hid (LR1.out.grown hg (fun e => by injection e with e; have := HP.out; omega))
  clear hR hg
  go_wp2_with fail
  with_reducible refine (Fe.ru32_any p s1 l w2 RD2.out hl).mono ?_
  rintro e w3 ⟨he, hR, hg⟩
  rw [HR2.out] at he hR
  subst he
  dsimp only at *
  have RD3 := Lib.hid hR
  have BB3 := Lib.hid (BB2.out.grown hg BB2.out.size (fun k hk => by injection hk with hk; have := HP.out; omega))
  have LR3 := Lib.hid (LR2.out.grown hg (fun e => by injection e with e; have := HP.out; omega))
  clear hR hg
  go_wp2_with fail
  with_reducible refine (Fe.rtext_any p s2 l w3 RD3.out hl).mono ?_
  rintro e w4 ⟨v, he, hO, hR, hg⟩
  rw [HR3.out] at hO hR
  subst he
  dsimp only at *
  obtain ⟨vA, vc, rfl, hvb, hv1, hv2, hv3⟩ := hO.slice
  have HO := Lib.hid ((hO.mono (show w.heap.size ≤ w3.heap.size from BB3.out.size)).alloc (.cells #[.int .i64 (n1 : Int), .int .i64 (n2 : Int), .slice vA x.length vc] 24))
  have RD4 := Lib.hid (hR.below (Fe.below1 w4 (.cells #[.int .i64 (n1 : Int), .int .i64 (n2 : Int), .slice vA x.length vc] 24)))
  have hs3 : s3.1 ≤ l.length := by obtain ⟨_, _, _, _, _, h, _⟩ := hR; exact h
  have BB4 := Lib.hid ((BB3.out.grown hg BB3.out.size (fun k hk => by injection hk with hk; have := HP.out; omega)).alloc (BB3.out.grown hg BB3.out.size (fun k hk => by injection hk with hk; have := HP.out; omega)).size (.cells #[.int .i64 (n1 : Int), .int .i64 (n2 : Int), .slice vA x.length vc] 24))
  have LR4 := Lib.hid ((LR3.out.grown hg (fun e => by injection e with e; have := HP.out; omega)).alloc (.cells #[.int .i64 (n1 : Int), .int .i64 (n2 : Int), .slice vA x.length vc] 24))
  have LW4 := Lib.hid (Lies.made w4 24 #[.int .i64 (n1 : Int), .int .i64 (n2 : Int), .slice vA x.length vc])
  have hxm : x.length ≤ maxLen := by unfold maxLen; omega
  have CV := Lib.hid (fun W => isValid_any ⟨(n1 : Int), (n2 : Int), x⟩ vA vc W hxm)
  have hdz := doneZ_iff l s3 hs3
  clear hO hR hg hvb hv1 hv2 hv3 hs3
  have i1 : wrap64 (n1 : Int) = (n1 : Int) := by unfold wrap64; omega
  have i2 : wrap64 (n2 : Int) = (n2 : Int) := by unfold wrap64; omega
  have CD := Lib.hid (rdone_any p s3 l _ RD4.out hl)
  obtain ⟨z, hz⟩ : ∃ z, doneZ l s3 = z := ⟨_, rfl⟩
  rw [hz] at CD hdz
  obtain ⟨W4, hW4⟩ : ∃ W4, W4 = w4.alloc (.cells #[.int .i64 (n1 : Int), .int .i64 (n2 : Int), .slice vA x.length vc] 24) := ⟨_, rfl⟩
  rw [← hW4] at HO RD4 BB4 LR4 LW4 CD
  have HW4 := Lib.hid hW4
  have D5 := fun k5 : Nat => Fe.below_drewN (Below.refl W4.heap.size W4) k5
  have LR5 := Lib.hid (fun k5 : Nat => LR4.out.below (D5 k5) LR4.out.lt)
  have LW5 := Lib.hid (fun k5 : Nat => LW4.out.below (D5 k5) LW4.out.lt)
  have BB5 := Lib.hid (fun k5 : Nat => BB4.out.trans ((D5 k5).mono BB4.out.size))
  have HO5 := Lib.hid (fun k5 : Nat => HO.out.belowOwn (D5 k5))
  clear D5 hW4
  cases hb3 : (!s3.2 && decide (s3.1 = l.length))
  · rw [hb3] at HD hdz
    have HDN : Hid (decS l = none) := Lib.hid (by rw [HD.out, if_neg (by simp)])
    have z1 : (z == 0) = false := by
      rw [beq_eq_false_iff_ne]
      exact fun e => by have := hdz.1 e; cases this
    have z2 : (z != 0) = true := by rw [bne, z1]; rfl
    clear hdz hz HD hb3 CV
    go_wp2_with fail
    rw [← HW4.out]
    with_reducible refine CD.out.mono ?_
    rintro e w5 ⟨rfl, k5, rfl⟩
    obtain ⟨c0, c1, c2⟩ := (LR5.out k5).cells3
    obtain ⟨f0, f1, f2⟩ := (LR5.out k5).free3
    go_wp2
    exact ret_work w.heap.size 24 _ rfl rfl (Lies_put3 (LR5.out k5) _ _ _) rfl rfl ⟨below_put3 (BB5.out k5) (Nat.le_refl _) _ _ _, .inl ⟨HDN.out, rfl⟩⟩
  · rw [hb3] at HD hdz
    have z0 : z = 0 := hdz.2 rfl
    subst z0
    cases hw3 : wkB ⟨(n1 : Int), (n2 : Int), x⟩
    · rw [hw3] at HD CV
      have HDN : Hid (decS l = none) := Lib.hid (by rw [HD.out, if_neg (by simp)])
      clear hdz hz HD hb3 hw3
      go_wp2_with fail
      rw [← HW4.out]
      with_reducible refine CD.out.mono ?_
      rintro e w5 ⟨rfl, k5, rfl⟩
      obtain ⟨d0, d1, d2⟩ := (LW5.out k5).cells3
      go_wp2_with fail
      with_reducible refine (CV.out _).mono ?_
      rintro e w6 ⟨rfl, hb6⟩
      have LR6 := Lib.hid ((LR5.out k5).below hb6 (LR5.out k5).lt)
      have BB6 := Lib.hid ((BB5.out k5).trans (hb6.mono (BB5.out k5).size))
      clear hb6
      obtain ⟨c0, c1, c2⟩ := LR6.out.cells3
      obtain ⟨f0, f1, f2⟩ := LR6.out.free3
      go_wp2
      exact ret_work w.heap.size 24 _ rfl rfl (Lies_put3 LR6.out _ _ _) rfl rfl ⟨below_put3 BB6.out (Nat.le_refl _) _ _ _, .inl ⟨HDN.out, rfl⟩⟩
    · rw [hw3] at HD CV
      have HDS : Hid (decS l = some ⟨(n1 : Int), (n2 : Int), x⟩) := Lib.hid (by rw [HD.out, if_pos ⟨rfl, rfl⟩])
      clear hdz hz HD hb3 hw3
      go_wp2_with fail
      rw [← HW4.out]
      with_reducible refine CD.out.mono ?_
      rintro e w5 ⟨rfl, k5, rfl⟩
      obtain ⟨d0, d1, d2⟩ := (LW5.out k5).cells3
      go_wp2_with fail
      with_reducible refine (CV.out _).mono ?_
      rintro e w6 ⟨rfl, hb6⟩
      have LR6 := Lib.hid ((LR5.out k5).below hb6 (LR5.out k5).lt)
      have LW6 := Lib.hid ((LW5.out k5).below hb6 (LW5.out k5).lt)
      have HO6 := Lib.hid ((HO5.out k5).belowOwn hb6)
      have BB6 := Lib.hid ((BB5.out k5).trans (hb6.mono (BB5.out k5).size))
      clear hb6
      obtain ⟨c0, c1, c2⟩ := LR6.out.cells3
      obtain ⟨f0, f1, f2⟩ := LR6.out.free3
      obtain ⟨k0, k1, k2⟩ := LW6.out.cells3
      go_wp2
      exact ret_work w.heap.size 24 _ rfl rfl (Lies_put3 LR6.out _ _ _) rfl rfl ⟨below_put3 BB6.out (Nat.le_refl _) _ _ _, .inr ⟨_, ⟨vA, x.length, vc⟩, HDS.out, rfl, rfl, Own_put3 HO6.out LR6.out _ _ _⟩⟩

end Go.Proofs.YtpbclmnhkmcknaaGreat

namespace Go.Proofs.YtpbclmnhkmcknaaGreat.St
open Go.Proofs Go.RowKit Go.Maps
set_option maxRecDepth 100000
set_option linter.unusedVariables false
set_option linter.unusedSimpArgs false

def GoodsPost (w : World) (K : List Kd) (e : Ending) (w' : World) : Prop := ∃ v, e = .returned v ∧ OwnG w' w.heap.size v (goodsL K) ∧ Below w.heap.size w w'

/-- The cells of n new goods. -/
def mrowG (n : Nat) : Array Value := madeCells #[.string ⟨#[]⟩, .int .i64 0] (n * 2)
theorem run_mrowG (n : Nat) (hn : n ≤ 1000000) (w : World) : (Instr.makeSlice 39 (.int .i64 0) (.int .i64 (n : Int))).run Tryz.prog w = .ok (.slice (some ⟨w.heap.size, 0, none⟩) 0 n) (w.alloc (.cells (mrowG n) 90)) := by
  have := run_make (P := Tryz.prog) w 39 90 _ (.agg #[.string ⟨#[]⟩, .int .i64 0]) Tryz.underlying39 Tryz.type90 rfl .i64 .i64 0 (n : Int) (by omega) (by omega) (by show (24 : Int) * (n : Int) ≤ _; omega) (by omega)
  rw [this]
  show Result.ok (Value.slice _ (0 : Int).toNat (n : Int).toNat) (w.alloc (.cells (madeCells #[.string ⟨#[]⟩, .int .i64 0] ((n : Int).toNat * 2)) 90)) = _
  rw [Int.toNat_natCast]
  rfl

def GR (w0 : World) (b : SB) (q : Ss) (D : DataW Unit) (r : Nat) (v3 : Value) (wr : World) : Prop :=
  ∃ left cnt L, wr.ranges Tryz.prog 9 rK b.k r (Maps.size D) D left cnt ∧ MetK q.K left L ∧ L.length + cnt ≤ 1000 ∧ OwnG wr w0.heap.size v3 (goodsL L) ∧ Below w0.heap.size w0 wr ∧ r < wr.heap.size ∧ w0.heap.size ≤ r

set_option maxHeartbeats 4000000 in
theorem goods_any (b : SB) (q : Ss) (w : World) (hA : At w b q) (hs : KSort q.K) (hl : q.K.length ≤ 1000) : Calls Tryz.prog 76 #[.pointer (some ⟨b.s, 0, none⟩)] w (GoodsPost w q.K) := by
  have HA := Lib.hid hA
  have HS := Lib.hid hs
  obtain ⟨c0, c1⟩ := hA.c.cells2
  have r1 := hA.ok.len 3
  have r2 := fun W => run_mrowG q.K.length (by omega) W
  have HA1 := Lib.hid (hA.alloc (.cells (mrowG q.K.length) 90))
  obtain ⟨D, hD1, hD2, hD3⟩ := HA1.out.ok
  obtain ⟨d0, d1⟩ := HA1.out.c.cells2
  have HD1 := Lib.hid hD1
  have HD2 := Lib.hid hD2
  have HD3 := Lib.hid hD3
  clear hA hs hD1 hD2 hD3
  go_enter Tryz.func76, Tryz.ntmps76
  go_wp2_with (at_range; refine wpList_range_own _ rfl _ 172 rfl 9 178 lawK Tryz.underlying172 rK b.k (Maps.size D) D rfl HD1.out ?_; intro y hrg0 hg0 hs0)
  go_frame
  rw [size_one] at hrg0 hs0
  rw [size_one]
  have RG := Lib.hid hrg0
  have BY : Hid (Below w.heap.size w y) := Lib.hid ((below1 w (.cells (mrowG q.K.length) 90)).grown hg0 (by simp) (fun k hk => by cases hk))
  have HAy : Hid (At y b q) := Lib.hid (HA1.out.below ⟨hg0.os, hg0.tape, hg0.output, hg0.size, fun k hk => hg0.block k hk (by simp)⟩)
  have OY : Hid (OwnG y w.heap.size (.slice (some ⟨w.heap.size, 0, none⟩) 0 q.K.length) []) := Lib.hid ((OwnE.made w w.heap.size q.K.length _ (Nat.le_refl _) (by unfold maxLen; omega)).grown hg0 (fun b hb => by simp))
  have HYZ : Hid (y.heap.size = w.heap.size + 1 + 1) := Lib.hid hs0
  clear hrg0 hg0 hs0 r1 r2 HA1 HD1 c0 c1 d0 d1
  go_loopw [3, 4, 5] (fun v3 _ _ wr => GR w b q D (w.heap.size + 1) v3 wr) (fun _ _ _ wr => wr.rangeLeft b.k (w.heap.size + 1))
  case atStart =>
    refine ⟨_, _, [], RG.out, MetK.start HD2.out HS.out, ?_, OY.out, BY.out, by rw [HYZ.out]; omega, by omega⟩
    rw [HD3.out]; simp; omega
  case round =>
    obtain ⟨left, cnt, L, hrg, hM, hc, hO, hB, hr1, hr2⟩ := hrel
    have HM := Lib.hid hM
    have HO := Lib.hid hO
    have HB := Lib.hid hB
    have HRG := Lib.hid hrg
    clear hrg hM hO hB
    go_wp2_with (at_next; refine wpList_next_ranges _ rfl _ rfl 9 lawK rK encStr vK (fun key kl hk => by obtain ⟨x, hx, _⟩ := Maps.keyOf_str Tryz.underlying9 hk; exact ⟨x, hx⟩) (fun v y hv => by obtain ⟨c, rfl, _⟩ := rK_inv hv; exact ⟨c, rfl⟩) b.k (w.heap.size + 1) (Maps.size D) _ _ _ rfl HRG.out ?_ ?_)
    · intro hc0 hl0
      have HL0 := Lib.hid hl0
      clear hl0
      go_wp2_with fail
      with_reducible refine (sortG_any w.heap.size u3 (goodsL L) wr HO.out (by unfold goodsL; rw [List.length_map]; omega)).mono ?_
      rintro e w5 ⟨rfl, l', h1, h2, h3, h4⟩
      have HE := Lib.hid (goods_eq HS.out (HM.out.perm HS.out HL0.out) h1 h2)
      have HO5 := Lib.hid h3
      have HB5 := Lib.hid (HB.out.grown h4 (by omega) (fun k hk => (HO.out.block k hk).1))
      clear h1 h2 h3 h4
      go_wp2
      go_ret
      exact ⟨_, rfl, by rw [← HE.out]; exact HO5.out, HB5.out⟩
    · intro x c kl yd yp w2 cnt2 hkey hlk hv hat hrg2 hlt hg2 hs2 hen
      obtain ⟨x', ex, rfl, hxl⟩ := Maps.keyOf_str Tryz.underlying9 hkey
      obtain rfl : x = x' := encStr_inj ex
      rw [rK_mk] at hv
      obtain ⟨rfl, rfl⟩ : dK c = yd ∧ [] = yp := by simpa using hv
      obtain ⟨hcK, rfl⟩ := HD2.out.entry hat
      have HM2 := Lib.hid (HM.out.step HS.out hcK hlk)
      have HNI : Hid (some (w.heap.size + 1) ≠ u3.ownBlock) := Lib.hid (row_ne_iter HO.out HRG.out)
      have HO2 := Lib.hid (HO.out.grown hg2 (fun b hb e => HNI.out (e.symm.trans hb.symm)))
      have HRG2 := Lib.hid hrg2
      have HB2 := Lib.hid (HB.out.grown hg2 (Nat.le_of_lt (Nat.lt_of_le_of_lt hr2 hr1)) (fun k hk => by injection hk with hk; omega))
      have HZ2 := Lib.hid hs2
      have HLT := Lib.hid hlt
      clear hkey hlk hv hat hrg2 hlt hg2 hs2 ex
      have HO3 := Lib.hid ((HO2.out.alloc (.cells #[encStr c.n, .int .i64 c.f, .int .i64 c.g] 178)).alloc (.cells #[encStr c.n, .int .i64 c.f] 90))
      have LN := Lib.hid (Lies.made2 w2 (.cells #[encStr c.n, .int .i64 c.f, .int .i64 c.g] 178) 90 #[encStr c.n, .int .i64 c.f])
      have HSM : Hid ((goodsL L).length ≤ 100000) := Lib.hid (by unfold goodsL; rw [List.length_map]; omega)
      have HBZ : Hid (w.heap.size ≤ ((w2.alloc (.cells #[encStr c.n, .int .i64 c.f, .int .i64 c.g] 178)).alloc (.cells #[encStr c.n, .int .i64 c.f] 90)).heap.size) := Lib.hid (by simp; have := HZ2.out; omega)
      go_wp2_with (first
        | ((with_reducible refine wpl_appG (some 31) _ _ _ (.tmp 24) (.tmp 30) w.heap.size u3 (goodsL L) (w2.heap.size + 1) c.n c.f ?hs ?hx HO3.out LN.out HSM.out HBZ.out ?_); (case hs => rfl); (case hx => rfl); (intro v4 w4 ho4 hg4 hb4)))
      go_roundw
      case rel =>
        have hbk : b.k < w.heap.size := HA.out.ok.lt
        have e1 := fun k (h : u3.ownBlock = some k) => (HO.out.block k h).1
        refine ⟨_, _, L ++ [c], ((HRG2.out.alloc _).alloc _).kept hg4 (fun e => by have := e1 _ e.symm; omega) HNI.out, HM2.out, ?_, by unfold goodsL at ho4 ⊢; rw [List.map_append]; exact ho4, ?_, ?_, hr2⟩
        · have := HLT.out
          rw [List.length_append]; simp; omega
        · exact (((HB2.out.alloc (by have := HZ2.out; omega) _).alloc (by have := HZ2.out; simp; omega) _).grown hg4 HBZ.out (fun k hk => e1 k hk))
        · have := hg4.size
          have h2 := HZ2.out
          simp at this
          omega
      case measure =>
        rw [(((HRG2.out.alloc _).alloc _).kept hg4 (fun e => by have := (HO.out.block _ e.symm).1; have hbk : b.k < w.heap.size := HA.out.ok.lt; omega) HNI.out).left_eq, HRG.out.left_eq]
        exact HLT.out

end Go.Proofs.YtpbclmnhkmcknaaGreat.St

namespace Go.Proofs.YtpbclmnhkmcknaaGreat.Pu
open Go.Proofs Go.Shelf Go.RowKit Go.Lib Go.Sort
set_option maxRecDepth 100000

def sortGoodR : Ren where
  f := fun x => match x with
    | 6 => 120
    | 15 => 144
    | 14 => 146
    | 28 => 174
    | 29 => 175
    | 20 => 177
    | 21 => 178
    | 22 => 179
    | 23 => 180
    | 24 => 181
    | 25 => 182
    | 26 => 183
    | 27 => 184
    | 46 => 203
    | 47 => 199
    | 48 => 200
    | 49 => 204
    | 50 => 205
    | 57 => 208
    | n => n
  t := fun x => match x with
    | 22 => 40
    | 24 => 87
    | 25 => 223
    | 3 => 3
    | 39 => 226
    | 0 => 0
    | 53 => 52
    | 55 => 53
    | 4 => 4
    | 46 => 256
    | 45 => 255
    | 50 => 201
    | 5 => 5
    | 9 => 9
    | 66 => 284
    | 70 => 288
    | 76 => 294
    | 77 => 214
    | n => n
  g := fun n => n
theorem sortGoodL : SlLaysF0.n6 Tryz.prog sortGoodR where
  mixed := by kernel_rfl
  f6 := ⟨Tryz.f120.name, by kernel_rfl, Tryz.func120.trans (congrArg some (by kernel_rfl))⟩
  f14 := ⟨Tryz.f146.name, by kernel_rfl, Tryz.func146.trans (congrArg some (by kernel_rfl))⟩
  f15 := Tryz.func144.trans (congrArg some (by kernel_rfl))
  f20 := ⟨Tryz.f177.name, by kernel_rfl, Tryz.func177.trans (congrArg some (by kernel_rfl))⟩
  f21 := ⟨Tryz.f178.name, by kernel_rfl, Tryz.func178.trans (congrArg some (by kernel_rfl))⟩
  f22 := ⟨Tryz.f179.name, by kernel_rfl, Tryz.func179.trans (congrArg some (by kernel_rfl))⟩
  f23 := ⟨Tryz.f180.name, by kernel_rfl, Tryz.func180.trans (congrArg some (by kernel_rfl))⟩
  f24 := ⟨Tryz.f181.name, by kernel_rfl, Tryz.func181.trans (congrArg some (by kernel_rfl))⟩
  f25 := ⟨Tryz.f182.name, by kernel_rfl, Tryz.func182.trans (congrArg some (by kernel_rfl))⟩
  f26 := ⟨Tryz.f183.name, by kernel_rfl, Tryz.func183.trans (congrArg some (by kernel_rfl))⟩
  f27 := ⟨Tryz.f184.name, by kernel_rfl, Tryz.func184.trans (congrArg some (by kernel_rfl))⟩
  f28 := Tryz.func174.trans (congrArg some (by kernel_rfl))
  f29 := Tryz.func175.trans (congrArg some (by kernel_rfl))
  f46 := ⟨Tryz.f203.name, by kernel_rfl, Tryz.func203.trans (congrArg some (by kernel_rfl))⟩
  f47 := Tryz.func199.trans (congrArg some (by kernel_rfl))
  f48 := Tryz.func200.trans (congrArg some (by kernel_rfl))
  f49 := ⟨Tryz.f204.name, by kernel_rfl, Tryz.func204.trans (congrArg some (by kernel_rfl))⟩
  f50 := ⟨Tryz.f205.name, by kernel_rfl, Tryz.func205.trans (congrArg some (by kernel_rfl))⟩
  f57 := ⟨Tryz.f208.name, by kernel_rfl, Tryz.func208.trans (congrArg some (by kernel_rfl))⟩
  t0 := Tryz.underlying0
  a0 := Tryz.isAgg0
  z0 := Tryz.sizeOf0
  v0 := Tryz.zeroValue0
  t3 := Tryz.underlying3
  a3 := Tryz.isAgg3
  z3 := Tryz.sizeOf3
  v3 := Tryz.zeroValue3
  t4 := Tryz.underlying4
  a4 := Tryz.isAgg4
  z4 := Tryz.sizeOf4
  v4 := Tryz.zeroValue4
  t5 := Tryz.underlying5
  a5 := Tryz.isAgg5
  z5 := Tryz.sizeOf5
  v5 := Tryz.zeroValue5
  t9 := Tryz.underlying9
  a9 := Tryz.isAgg9
  z9 := Tryz.sizeOf9
  v9 := Tryz.zeroValue9
  t22 := Tryz.underlying40
  a22 := Tryz.isAgg40
  z22 := Tryz.sizeOf40
  v22 := Tryz.zeroValue40
  t25 := Tryz.underlying223
  a25 := Tryz.isAgg223
  z25 := Tryz.sizeOf223
  v25 := Tryz.zeroValue223
  t39 := Tryz.underlying226
  a39 := Tryz.isAgg226
  z39 := Tryz.sizeOf226
  v39 := Tryz.zeroValue226
  t45 := Tryz.underlying255
  a45 := Tryz.isAgg255
  z45 := Tryz.sizeOf255
  v45 := Tryz.zeroValue255
  t46 := Tryz.underlying256
  a46 := Tryz.isAgg256
  z46 := Tryz.sizeOf256
  v46 := Tryz.zeroValue256
  t50 := Tryz.underlying201
  a50 := Tryz.isAgg201
  z50 := Tryz.sizeOf201
  v50 := Tryz.zeroValue201
  t53 := Tryz.underlying52
  a53 := Tryz.isAgg52
  z53 := Tryz.sizeOf52
  v53 := Tryz.zeroValue52
  t55 := Tryz.underlying53
  a55 := Tryz.isAgg53
  z55 := Tryz.sizeOf53
  v55 := Tryz.zeroValue53
  t66 := Tryz.underlying284
  a66 := Tryz.isAgg284
  z66 := Tryz.sizeOf284
  v66 := Tryz.zeroValue284
  t70 := Tryz.underlying288
  a70 := Tryz.isAgg288
  z70 := Tryz.sizeOf288
  v70 := Tryz.zeroValue288
  t76 := Tryz.underlying294
  a76 := Tryz.isAgg294
  z76 := Tryz.sizeOf294
  v76 := Tryz.zeroValue294
  t77 := Tryz.underlying214
  a77 := Tryz.isAgg214
  z77 := Tryz.sizeOf214
  v77 := Tryz.zeroValue214

end Go.Proofs.YtpbclmnhkmcknaaGreat.Pu

namespace Go.Proofs.YtpbclmnhkmcknaaGreat.Pu
open Go.Proofs Go.Shelf Go.RowKit Go.Lib Go.Sort
set_option maxRecDepth 100000
set_option linter.unusedVariables false
set_option linter.unusedSimpArgs false

theorem cmpB_lt : ∀ a b : List UInt8, Lib.compareBytes a b < 0 ↔ a < b
  | [], [] => by simp [Lib.compareBytes]
  | [], _ :: _ => by simp [Lib.compareBytes]
  | _ :: _, [] => by simp [Lib.compareBytes]
  | a :: ra, b :: rb => by
    unfold Lib.compareBytes
    rw [List.cons_lt_cons_iff]
    by_cases h : a < b
    · simp [h]
    · rw [if_neg h]
      by_cases h2 : b < a
      · rw [if_pos h2]
        simp only [h, false_or]
        constructor
        · intro h3; omega
        · rintro ⟨rfl, _⟩; exact absurd h2 (UInt8.lt_irrefl _)
      · rw [if_neg h2, cmpB_lt ra rb]
        have : a = b := UInt8.le_antisymm (UInt8.not_lt.1 h2) (UInt8.not_lt.1 h)
        simp [h, this]

theorem cmp47 (a b : List UInt8) (w : World) :
    Calls Tryz.prog 145 #[encStr a, encStr b] w fun e w' => e = .returned (.int .i64 (Lib.compareBytes a b)) ∧ w = w' := by
  go_enter Tryz.func145, Tryz.ntmps145
  go_wp2
  rw [run_callFunc_extern Tryz.func176 (by kernel_rfl) (by kernel_rfl) (by kernel_rfl) (e := Extern.BytealgCompare.compare) (by kernel_rfl), Lib.run_compareString]
  simp only [Result.andThen]
  rw [Oper.upon_value]
  go_wp2
  go_ret
  exact ⟨rfl, rfl⟩
theorem cmp34 (a b : List UInt8) (w : World) :
    Calls Tryz.prog 119 #[encStr a, encStr b] w fun e w' => e = .returned (.int .i64 (Lib.compareBytes a b)) ∧ w = w' := by
  have C := cmp47 a b w
  generalize Lib.compareBytes a b = r at *
  go_enter Tryz.func119, Tryz.ntmps119
  go_wp2_with fail
  with_reducible refine C.mono ?_
  rintro e w' ⟨rfl, rfl⟩
  go_wp2
  go_ret
  exact ⟨rfl, rfl⟩
def encG (x : Kd) : List Value := [encStr x.n, .int .i64 x.m, .int .i64 x.h]
def cfG (x y : Kd) : Int := Lib.compareBytes x.n y.n
theorem close33 (x y : Kd) (W : World) : Calls Tryz.prog 121 #[.agg #[encStr x.n, .int .i64 x.m, .int .i64 x.h], .agg #[encStr y.n, .int .i64 y.m, .int .i64 y.h]] W fun e w' => e = .returned (.int .i64 (cfG x y)) ∧ ∃ q os', w' = grow (W.drewN q) os' := by
  have C := fun W => cmp34 x.n y.n W
  unfold cfG
  generalize Lib.compareBytes x.n y.n = r at *
  go_enter Tryz.func121, Tryz.ntmps121
  go_wp2_with (go_at_call 119; refine (C _).mono ?_; rintro e w' ⟨rfl, rfl⟩)
  go_ret
  exact ⟨rfl, 0, _, by rw [alloc_eq_grow, alloc_eq_grow, grow_grow]; rfl⟩
theorem ltG (x y : Kd) : ltOf cfG x y = decide (x.n < y.n) := by
  unfold ltOf cfG
  by_cases h : x.n < y.n
  · have := (cmpB_lt _ _).2 h; simp [h, this]
  · have : ¬ Lib.compareBytes x.n y.n < 0 := fun h' => h ((cmpB_lt x.n y.n).1 h'); simp only [h, this, decide_false]
theorem swoG : SWO (ltOf cfG) where
  irrefl x := by rw [ltG]; exact decide_eq_false (nm_irrefl x.n)
  trans x y z h1 h2 := by rw [ltG] at *; simp at *; exact nm_trans h1 h2
  ntrans x y z h1 h2 := by
    rw [ltG] at *
    simp at *
    exact List.le_trans h2 h1
end Go.Proofs.YtpbclmnhkmcknaaGreat.Pu

namespace Go.Proofs.YtpbclmnhkmcknaaGreat.Pu
open Go.Proofs Go.Shelf Go.RowKit Go.Lib Go.Sort
set_option maxRecDepth 100000
set_option linter.unusedVariables false
set_option linter.unusedSimpArgs false

section
variable {α : Type} (enc : α → List Value) (e : TypeId) (k : Nat)

/-- The cells of these elements. -/
def flat (l : List α) : List Value := l.flatMap enc
variable {enc} {k}
theorem flat_len (hk : ∀ x, (enc x).length = k) : ∀ l : List α, (flat enc l).length = l.length * k
  | [] => by simp [flat]
  | x :: r => by
    have := flat_len hk r
    unfold flat at this ⊢
    rw [List.flatMap_cons, List.length_append, this, hk, List.length_cons, Nat.add_mul]; omega
theorem flat_get (hk : ∀ x, (enc x).length = k) : ∀ (l : List α) (i : Nat) (hi : i < l.length) (j : Nat), j < k → (flat enc l)[i * k + j]? = (enc (l[i]'hi))[j]?
  | [], i, hi, _, _ => absurd hi (by simp)
  | x :: r, 0, hi, j, hj => by
    unfold flat
    rw [List.flatMap_cons, List.getElem?_append_left (by rw [hk]; omega)]
    simp
  | x :: r, i + 1, hi, j, hj => by
    have := flat_get hk r i (by simpa using hi) j hj
    unfold flat at this ⊢
    rw [List.flatMap_cons, List.getElem?_append_right (by rw [hk, Nat.add_mul]; omega), hk]
    rw [show (i + 1) * k + j - k = i * k + j from by rw [Nat.add_mul]; omega, this]
    simp
theorem flat_flatK [Inhabited α] (hk : ∀ x, (enc x).length = k) (hk0 : 0 < k) (l : List α) : flatK enc k l.toArray = (flat enc l).toArray := by
  have hl := flat_len hk l
  refine ext_get! (by rw [size_flatK]; simp [hl]) fun t ht => ?_
  have ht' : t < l.length * k := by simpa using ht
  rw [get_flatK _ _ _ t (by simpa using ht')]
  have hq : t / k < l.length := Nat.div_lt_of_lt_mul (by rw [Nat.mul_comm]; exact ht')
  have hm : t % k < k := Nat.mod_lt _ hk0
  have h := flat_get hk l (t / k) hq (t % k) hm
  rw [show t / k * k + t % k = t from by rw [Nat.mul_comm]; exact Nat.div_add_mod t k] at h
  have e1 : l.toArray[t / k]! = l[t / k] := by simp [hq]
  rw [e1]
  have h2 : t < (flat enc l).length := by rw [hl]; exact ht'
  have e2 : (flat enc l).toArray[t]! = (flat enc l)[t] := by simp [h2]
  rw [e2]
  have h3 : t % k < (enc l[t / k]).length := by rw [hk]; exact hm
  rw [List.getElem?_eq_getElem h2, List.getElem?_eq_getElem h3] at h
  have e3 : (enc l[t / k])[t % k]! = (enc l[t / k])[t % k] := by simp [h3]
  rw [e3]
  exact (Option.some.inj h).symm

variable (enc) (k)
/-- The slice v owns a row, not below B, that reads as l. -/
def OwnE (w : World) (B : Nat) (v : Value) (l : List α) : Prop := w.ownsRow B e k v l.length (flat enc l)
variable {enc} {e} {k}

theorem OwnE.form {w : World} {B : Nat} {v : Value} {l : List α} (h : OwnE enc e k w B v l) :
    (v = .slice none 0 0 ∧ l = []) ∨ ∃ g cap cur, v = .slice (some ⟨g, 0, none⟩) l.length cap ∧ B ≤ g ∧ Lies w g e cur ∧ l.length ≤ cap ∧ cap ≤ maxLen ∧ cur.size = cap * k ∧ cur.toList.take (l.length * k) = flat enc l := by
  obtain ⟨_, h1 | ⟨g, cap, cur, hv, hb, hg, hn, hm, hs, ht⟩⟩ := h
  · exact .inl ⟨h1.1, List.eq_nil_of_length_eq_zero h1.2⟩
  · exact .inr ⟨g, cap, cur, hv, hb, hg, hn, hm, hs, ht⟩
theorem OwnE.made (w : World) (B n : Nat) (z : Array Value) (hB : B ≤ w.heap.size) (hn : n ≤ maxLen) : OwnE enc e k (w.alloc (.cells (madeCells z (n * k)) e)) B (.slice (some ⟨w.heap.size, 0, none⟩) 0 n) [] :=
  World.ownsRow_made w _ n hB hn (size_madeCells _ _)
theorem OwnE.block {w : World} {B : Nat} {v : Value} {l : List α} (h : OwnE enc e k w B v l) : ∀ b, v.ownBlock = some b → B ≤ b ∧ b < w.heap.size := by
  intro b hb
  rcases h.form with ⟨rfl, _⟩ | ⟨g, cap, cur, rfl, h1, h2, _⟩
  · cases hb
  · have : g = b := by simpa [Value.ownBlock] using hb
    subst this
    exact ⟨h1, h2.lt⟩
theorem OwnE.same {w w' : World} {B : Nat} {v : Value} {l : List α} (h : OwnE enc e k w B v l) (hb : ∀ b, v.ownBlock = some b → w'.heap[b]? = w.heap[b]?) : OwnE enc e k w' B v l := by
  obtain ⟨h0, h1⟩ := h
  refine ⟨h0, ?_⟩
  rcases h1 with h1 | ⟨g, cap, cur, rfl, r1, r2, r3⟩
  · exact .inl h1
  · exact .inr ⟨g, cap, cur, rfl, r1, (hb g rfl).trans r2, r3⟩
theorem OwnE.grown {w w' : World} {B : Nat} {v : Value} {l : List α} {row : Option Nat} (h : OwnE enc e k w B v l) (hg : w.grownBy w' row) (hne : ∀ b, v.ownBlock = some b → some b ≠ row) : OwnE enc e k w' B v l :=
  h.same fun b hb => hg.block b (h.block b hb).2 (hne b hb)
theorem OwnE.below {w w' : World} {B : Nat} {v : Value} {l : List α} (h : OwnE enc e k w B v l) (hb : Below w.heap.size w w') : OwnE enc e k w' B v l :=
  h.same fun b hv => hb.block b (h.block b hv).2
theorem OwnE.alloc {w : World} {B : Nat} {v : Value} {l : List α} (h : OwnE enc e k w B v l) (o : Obj) : OwnE enc e k (w.alloc o) B v l := h.below (below1 w o)
/-- Element i's cell j. -/
theorem OwnE.cell {w : World} {B : Nat} {A : Option Addr} {n c : Nat} {l : List α} (h : OwnE enc e k w B (.slice A n c) l) (hk : ∀ x, (enc x).length = k) : n = l.length ∧ n ≤ c ∧ c ≤ maxLen ∧ (A = none → n = 0) ∧
    ∀ (i : Nat) (hi : i < l.length), ∃ g, A = some ⟨g, 0, none⟩ ∧ B ≤ g ∧ g < w.heap.size ∧ ∀ j, j < k → w.cell? ⟨g, i * k + j, none⟩ = (enc (l[i]'hi))[j]? ∧ w.frozen? ⟨g, i * k + j, none⟩ = false := by
  rcases h.form with ⟨hv, hl⟩ | ⟨g, cap, cur, hv, h1, h2, h3, h4, h5, h6⟩
  · injection hv with q1 q2 q3
    subst q1 q2 q3 hl
    exact ⟨rfl, Nat.le_refl _, by unfold maxLen; omega, fun _ => rfl, fun i hi => absurd hi (by simp)⟩
  · injection hv with q1 q2 q3
    subst q1 q2 q3
    refine ⟨rfl, h3, h4, (fun h => by cases h), fun i hi => ⟨g, rfl, h1, h2.lt, fun j hj => ⟨?_, h2.free _⟩⟩⟩
    rw [h2.cell, ← flat_get hk l i hi j hj, ← h6, List.getElem?_take_of_lt, Array.getElem?_toList]
    have := Nat.mul_le_mul_right k (show i + 1 ≤ l.length from hi)
    rw [Nat.add_mul] at this
    omega

/-- 'append' of one element. -/
theorem wpl_app1 (t : TypeId) (inf : TypeInfo) (z : Value) (by_ : Nat) (ht : Tryz.prog.underlying t = some (.slice e)) (hi : Tryz.prog.info? e = some inf) (hz : inf.zero = some z) (hsz : inf.size = k) (hby : inf.bytes = by_) (hzs : z.cells.size = k) (hk0 : 0 < k) (hb48 : by_ ≤ 1000)
    (hk : ∀ x, (enc x).length = k) (h1c : ∀ x, ∀ v ∈ enc x, v.oneCell' = true)
    {ops : Array Oper} {rest : List Oper} {a : Act} {w : World} {Q : Exit → Act → World → Prop} (dst : Option Tmp) (ty : TypeId) (pos : String) (aft : Array Edge) (s x : Operand)
    (B : Nat) (v : Value) (l : List α) (g : Nat) (y : α)
    (hs : a.eval s = v) (hx : a.eval x = .slice (some ⟨g, 0, none⟩) 1 1) (hown : OwnE enc e k w B v l) (hsrc : Lies w g e (enc y).toArray) (hsm : l.length ≤ 100000) (hB : B ≤ w.heap.size)
    (h : ∀ v' w', OwnE enc e k w' B v' (l ++ [y]) → w.grownBy w' v.ownBlock → (v'.ownBlock = v.ownBlock ∨ v'.ownBlock = some w.heap.size) → wpList Tryz.prog ops Q rest (a.put dst v') w') :
    wpList Tryz.prog ops Q (⟨dst, .call { callee := .builtin .append, args := #[s, x], argTypes := #[t, t] }, ty, pos, aft, none⟩ :: rest) a w := by
  refine wpList_append_own_at (w := w) (o := ⟨dst, .call { callee := .builtin .append, args := #[s, x], argTypes := #[t, t] }, ty, pos, aft, none⟩) rfl s x t rfl B e inf z k by_ ht hi hz hsz hby hzs hk0 v l.length (flat enc l) hs hown
    ⟨g, 0, none⟩ 1 1 (enc y) hx (by rw [hk]; omega) (fun j u hu => ?_) (h1c y) (by unfold maxLen; omega) ?_ hB ?_
  · rw [Addr.add_mid, Nat.zero_add, hsrc.cell]
    simpa using hu
  · have : (l.length + 1) * by_ ≤ 100001 * 1000 := Nat.mul_le_mul (by omega) hb48
    omega
  · intro v' w' r1 r2 _ r4
    refine h v' w' ?_ r2 r4
    show w'.ownsRow B e k v' (l ++ [y]).length (flat enc (l ++ [y]))
    rw [List.length_append, show flat enc (l ++ [y]) = flat enc l ++ enc y from by simp [flat]]
    exact r1

/-- What a sort leaves. -/
theorem sorted_form [Inhabited α] {w : World} {g n : Nat} {os : Array Obj} {cur : Array Value} (d : List α) (hk : ∀ x, (enc x).length = k) (hk0 : 0 < k) (hb : Lies w g e cur) (hn : d.length * k ≤ cur.size) :
    ∃ cur', Lies (grow (putRowK enc k (Sort.ahead w n) g 0 d.toArray) os) g e cur' ∧ cur'.size = cur.size ∧ cur'.toList.take (d.length * k) = flat enc d := by
  have hg : g < w.heap.size := hb.lt
  refine ⟨putCells id 0 (flat enc d).toArray cur, ?_, by simp [putCells], ?_⟩
  · unfold Lies at hb ⊢
    rw [heap_grow_old _ _ (by simpa [putRowK] using hg)]
    unfold putRowK
    rw [flat_flatK hk hk0]
    simp [putRow, mapBlock, Sort.ahead, Array.getElem?_modify, hb, onCells]
  · have hl := flat_len hk d
    rw [← hl] at hn ⊢
    apply List.ext_getElem?
    intro j
    by_cases hj : j < (flat enc d).length
    · rw [List.getElem?_take_of_lt hj, Array.getElem?_toList]
      simp [putCells, hj, show j < cur.size by omega]
    · rw [List.getElem?_take_eq_none (by omega), List.getElem?_eq_none (by omega)]
theorem grownBy_sortK [Inhabited α] {w : World} {g n : Nat} {os : Array Obj} (d : Array α) : w.grownBy (grow (putRowK enc k (Sort.ahead w n) g 0 d) os) (some g) := by
  refine ⟨rfl, rfl, rfl, by simp [putRowK], fun i hi hne => ?_⟩
  rw [heap_grow_old _ _ (by simpa [putRowK] using hi)]
  have : g ≠ i := fun e => hne (by rw [e])
  simp [putRowK, putRow, mapBlock, Sort.ahead, Array.getElem?_modify, this]
theorem holdsK_of [Inhabited α] {w : World} {g : Nat} {cur : Array Value} {l : List α} (hk : ∀ x, (enc x).length = k) (hk0 : 0 < k) (hb : Lies w g e cur) (ht : cur.toList.take (l.length * k) = flat enc l) : HoldsK enc k w g 0 l.toArray := by
  unfold HoldsK
  rw [flat_flatK hk hk0]
  have hl := flat_len hk l
  intro j hj
  have hj' : j < (flat enc l).length := by simpa using hj
  refine ⟨?_, hb.free _⟩
  rw [Nat.zero_add, hb.cell]
  have h1 : (cur.toList.take (l.length * k))[j]? = (flat enc l)[j]? := by rw [ht]
  rw [List.getElem?_take_of_lt (by omega), Array.getElem?_toList] at h1
  rw [h1, List.getElem?_eq_getElem hj']
  simp [hj']

theorem perm_sorted [Inhabited α] {lt : α → α → Bool} {l : List α} {d' : Array α} (hp : PermIn 0 l.toArray.size l.toArray d') (hs : SortedIn lt 0 l.toArray.size d') :
    d'.toList.Perm l ∧ d'.toList.Pairwise (fun x y => lt y x = false) := by
  obtain ⟨hsz, _, hperm⟩ := hp
  have e1 : d'.extract 0 l.toArray.size = d' := by rw [← hsz]; exact Array.extract_size
  rw [e1, Array.extract_size] at hperm
  refine ⟨by simpa using hperm, ?_⟩
  rw [List.pairwise_iff_getElem]
  intro i j hi hj hij
  have hi' : i < d'.size := by simpa using hi
  have hj' : j < d'.size := by simpa using hj
  have := hs i j (Nat.zero_le _) hij (by omega)
  rw [getElem!_pos d' j hj', getElem!_pos d' i hi'] at this
  simpa using this
end

end Go.Proofs.YtpbclmnhkmcknaaGreat.Pu

namespace Go.Proofs.YtpbclmnhkmcknaaGreat.Pu
open Go.Proofs Go.RowKit Go.Maps
set_option maxRecDepth 100000
set_option linter.unusedVariables false
set_option linter.unusedSimpArgs false

/-! ### what was met in a range over a map -/
def MetK (K : List Kd) (left : Lit → Bool) (L : List Kd) : Prop := (L.map (·.n)).Nodup ∧ (∀ k ∈ L, k ∈ K ∧ left (.string k.n) = false) ∧ ∀ k ∈ K, left (.string k.n) = false → k ∈ L
theorem MetK.start {D : DataW Unit} {K : List Kd} (h : KT D K) (hs : KSort K) : MetK K (Maps.has D) [] :=
  ⟨List.nodup_nil, (fun k hk => absurd hk (by simp)), fun k hk hf => by rw [h.has, hs.find hk] at hf; cases hf⟩
theorem KT.entry {D : DataW Unit} {K : List Kd} (h : KT D K) {x : List UInt8} {c : Kd} (hat : ∀ z, D.atKey (.string x) z = dK c) : c ∈ K ∧ c.n = x := by
  have h1 := h.find x
  cases hf : findK K x with
  | none =>
    rw [hf] at h1
    have := (h1 .nil).symm.trans (hat .nil)
    cases this
  | some k =>
    rw [hf] at h1
    have := dK_inj ((h1 .nil).symm.trans (hat .nil))
    subst this
    exact findK_some hf
theorem MetK.step {K : List Kd} {left : Lit → Bool} {L : List Kd} (h : MetK K left L) (hs : KSort K) {c : Kd} (hc : c ∈ K) (hl : left (.string c.n) = true) : MetK K (fun z => left z && !z.sameKey (.string c.n)) (L ++ [c]) := by
  refine ⟨?_, ?_, ?_⟩
  · rw [List.map_append]
    refine List.nodup_append.2 ⟨h.1, by simp, fun a ha b hb => ?_⟩
    simp at hb
    subst hb
    obtain ⟨k, hk, rfl⟩ := List.mem_map.1 ha
    intro e
    have := (h.2.1 k hk).2
    rw [e, hl] at this
    cases this
  · intro k hk
    rcases List.mem_append.1 hk with hk | hk
    · exact ⟨(h.2.1 k hk).1, by simp only [(h.2.1 k hk).2, Bool.false_and]⟩
    · simp at hk; subst hk; exact ⟨hc, by simp [Lit.sameKey]⟩
  · intro k hk hf
    by_cases e : k.n = c.n
    · rw [hs.uniq hk hc e]; simp
    · refine List.mem_append_left _ (h.2.2 k hk ?_)
      simpa [Lit.sameKey, e] using hf
theorem nodup_of_map {α β : Type} (f : α → β) : ∀ {l : List α}, (l.map f).Nodup → l.Nodup
  | [], _ => List.nodup_nil
  | x :: r, h => by
    rw [List.map_cons, List.nodup_cons] at h
    exact List.nodup_cons.2 ⟨fun hx => h.1 (List.mem_map_of_mem hx), nodup_of_map f h.2⟩
theorem MetK.perm {K : List Kd} {left : Lit → Bool} {L : List Kd} (h : MetK K left L) (hs : KSort K) (hl : ∀ kl, left kl = false) : L.Perm K := by
  have hn : K.Nodup := List.Pairwise.imp (fun {a b} hlt e => by subst e; exact nm_irrefl _ hlt) hs
  refine (List.perm_ext_iff_of_nodup (nodup_of_map _ h.1) hn).2 fun k => ⟨fun hk => (h.2.1 k hk).1, fun hk => h.2.2 k hk (hl _)⟩
end Go.Proofs.YtpbclmnhkmcknaaGreat.Pu

namespace Go.Proofs.YtpbclmnhkmcknaaGreat.Pu
open Go.Proofs Go.Shelf Go.RowKit Go.Lib Go.Sort
set_option maxRecDepth 100000
set_option linter.unusedVariables false
set_option linter.unusedSimpArgs false

theorem encG_len (x : Kd) : (encG x).length = 3 := rfl
theorem encG_one (x : Kd) : ∀ v ∈ encG x, v.oneCell' = true := by
  intro v hv
  simp [encG] at hv
  rcases hv with rfl | rfl | rfl <;> rfl
abbrev OwnG (w : World) (B : Nat) (v : Value) (l : List Kd) : Prop := OwnE encG 87 3 w B v l
def SortPost {α : Type} (lt : α → α → Bool) (own : World → Value → List α → Prop) (w : World) (v : Value) (l : List α) (e : Ending) (w' : World) : Prop :=
  e = .returned (.tuple #[]) ∧ ∃ l', l'.Perm l ∧ l'.Pairwise (fun x y => lt y x = false) ∧ own w' v l' ∧ w.grownBy w' v.ownBlock

theorem sortG_any (B : Nat) (v : Value) (l : List Kd) (w : World) (h : OwnG w B v l) (hl : l.length ≤ 1000000) :
    Calls Tryz.prog 120 #[v, .func (.func 121) #[] #[]] w (SortPost (ltOf cfG) (fun w' v l' => OwnG w' B v l') w v l) := by
  rcases h.form with ⟨rfl, rfl⟩ | ⟨g, cap, cur, rfl, h1, h2, h3, h4, h5, h6⟩
  · have hcon := AnyF.slices_SortFunc_none { sortGoodL with } none 0 (.func (.func 121) #[] #[]) w
    change Calls Tryz.prog 120 _ _ _ at hcon
    refine hcon.mono ?_
    rintro e w' ⟨rfl, rfl⟩
    exact ⟨rfl, [], List.Perm.refl _, List.Pairwise.nil, h, World.grownBy.refl _ _⟩
  · have eg : ∀ args w, (callFunc 121 args).run Tryz.prog w = .ok (.enter 121 args) w := enters_of Tryz.func121 (by kernel_rfl) rfl
    have hcon := AnyQ.slices_SortFunc sortGoodL 3 Tryz.isAgg87 Tryz.sizeOf87 encG encG_len encG_one cfG swoG 121 #[] g 0 cap l.toArray w eg (fun _ _ _ _ x y => close33 x y _) (holdsK_of encG_len (by decide) h2 h6) h2.lt (by simp; omega)
    change Calls Tryz.prog 120 _ _ _ at hcon
    rw [show l.toArray.size = l.length from by simp] at hcon
    refine hcon.mono ?_
    rintro e w' ⟨rfl, d', n, os, hp, hs, rfl⟩
    obtain ⟨p1, p2⟩ := perm_sorted (l := l) (by simpa using hp) (by simpa using hs)
    obtain ⟨cur', c1, c2, c3⟩ := sorted_form (enc := encG) (k := 3) (n := n) (os := os) d'.toList encG_len (by decide) h2 (by rw [p1.length_eq]; omega)
    rw [Array.toArray_toList] at c1
    refine ⟨rfl, d'.toList, p1, p2, ⟨by rw [flat_len encG_len], .inr ⟨g, cap, cur', by rw [p1.length_eq], h1, c1, by rw [p1.length_eq]; exact h3, h4, by rw [c2]; exact h5, c3⟩⟩, grownBy_sortK d'⟩

theorem goods_eq {K L : List Kd} {l' : List Kd} (hs : KSort K) (hp : L.Perm K) (h1 : l'.Perm L) (h2 : l'.Pairwise (fun x y => ltOf cfG y x = false)) : l' = K := by
  have hp2 : l'.Perm K := h1.trans hp
  refine List.Perm.eq_of_pairwise (le := fun x y => ltOf cfG y x = false) (fun a b ha hb q1 q2 => ?_) h2 ?_ hp2
  · rw [ltG] at q1 q2
    simp only [decide_eq_false_iff_not] at q1 q2
    refine hs.uniq (hp2.mem_iff.1 ha) hb ?_
    refine Classical.byContradiction fun hne => q1 ?_
    exact nm_tri q2 hne
  · refine hs.imp fun hlt => ?_
    rw [ltG]
    exact decide_eq_false (nm_asymm hlt)
end Go.Proofs.YtpbclmnhkmcknaaGreat.Pu

namespace Go.Proofs.YtpbclmnhkmcknaaGreat.Pu
open Go.Proofs Go.RowKit Go.Maps
set_option maxRecDepth 100000
set_option linter.unusedVariables false

theorem wpl_appG {ops : Array Oper} {rest : List Oper} {a : Act} {w : World} {Q : Exit → Act → World → Prop} (dst : Option Tmp) (ty : TypeId) (pos : String) (aft : Array Edge) (s x : Operand)
    (B : Nat) (v : Value) (l : List Kd) (g : Nat) (n : List UInt8) (f z : Int)
    (hs : a.eval s = v) (hx : a.eval x = .slice (some ⟨g, 0, none⟩) 1 1) (hown : OwnG w B v l) (hsrc : Lies w g 87 #[encStr n, .int .i64 f, .int .i64 z]) (hsm : l.length ≤ 100000) (hB : B ≤ w.heap.size)
    (h : ∀ v' w', OwnG w' B v' (l ++ [⟨n, f, z⟩]) → w.grownBy w' v.ownBlock → (v'.ownBlock = v.ownBlock ∨ v'.ownBlock = some w.heap.size) → wpList Tryz.prog ops Q rest (a.put dst v') w') :
    wpList Tryz.prog ops Q (⟨dst, .call { callee := .builtin .append, args := #[s, x], argTypes := #[40, 40] }, ty, pos, aft, none⟩ :: rest) a w :=
  wpl_app1 40 _ _ 32 Tryz.underlying40 Tryz.type87 rfl rfl rfl rfl (by decide) (by decide) encG_len encG_one dst ty pos aft s x B v l g ⟨n, f, z⟩ hs hx hown hsrc hsm hB h
end Go.Proofs.YtpbclmnhkmcknaaGreat.Pu

namespace Go.Proofs.YtpbclmnhkmcknaaGreat.Pu
open Go.Proofs Go.RowKit Go.Maps
set_option maxRecDepth 100000
set_option linter.unusedVariables false
set_option linter.unusedSimpArgs false

end Go.Proofs.YtpbclmnhkmcknaaGreat.Pu

namespace Go.Proofs.YtpbclmnhkmcknaaGreat.Pu
open Go.Proofs Go.RowKit Go.Maps
set_option maxRecDepth 100000
set_option linter.unusedVariables false
set_option linter.unusedSimpArgs false

def AcctsPost (w : World) (K : List Kd) (e : Ending) (w' : World) : Prop := ∃ v, e = .returned v ∧ OwnG w' w.heap.size v (K) ∧ Below w.heap.size w w'

/-- The cells of n new goods. -/
def mrowG (n : Nat) : Array Value := madeCells #[.string ⟨#[]⟩, .int .i64 0, .int .i64 0] (n * 3)
theorem run_mrowG (n : Nat) (hn : n ≤ 1000000) (w : World) : (Instr.makeSlice 40 (.int .i64 0) (.int .i64 (n : Int))).run Tryz.prog w = .ok (.slice (some ⟨w.heap.size, 0, none⟩) 0 n) (w.alloc (.cells (mrowG n) 87)) := by
  have := run_make (P := Tryz.prog) w 40 87 _ (.agg #[.string ⟨#[]⟩, .int .i64 0, .int .i64 0]) Tryz.underlying40 Tryz.type87 rfl .i64 .i64 0 (n : Int) (by omega) (by omega) (by show (32 : Int) * (n : Int) ≤ _; omega) (by omega)
  rw [this]
  show Result.ok (Value.slice _ (0 : Int).toNat (n : Int).toNat) (w.alloc (.cells (madeCells #[.string ⟨#[]⟩, .int .i64 0, .int .i64 0] ((n : Int).toNat * 3)) 87)) = _
  rw [Int.toNat_natCast]
  rfl

def GR (w0 : World) (b : SB) (q : Ss) (D : DataW Unit) (r : Nat) (v3 : Value) (wr : World) : Prop :=
  ∃ left cnt L, wr.ranges Tryz.prog 9 rK b.k r (Maps.size D) D left cnt ∧ MetK q.K left L ∧ L.length + cnt ≤ 1000 ∧ OwnG wr w0.heap.size v3 L ∧ Below w0.heap.size w0 wr ∧ r < wr.heap.size ∧ w0.heap.size ≤ r

set_option maxHeartbeats 4000000 in
theorem accts_any (b : SB) (q : Ss) (w : World) (hA : At w b q) (hs : KSort q.K) (hl : q.K.length ≤ 1000) : Calls Tryz.prog 78 #[.pointer (some ⟨b.s, 0, none⟩)] w (AcctsPost w q.K) := by
  have HA := Lib.hid hA
  have HS := Lib.hid hs
  obtain ⟨c0, c1, c2, c3, c4⟩ := hA.c.cells5
  have r1 := hA.ok.len 3
  have r2 := fun W => run_mrowG q.K.length (by omega) W
  have HA1 := Lib.hid (hA.alloc (.cells (mrowG q.K.length) 87))
  obtain ⟨D, hD1, hD2, hD3⟩ := HA1.out.ok
  obtain ⟨d0, d1, d2, d3, d4⟩ := HA1.out.c.cells5
  have HD1 := Lib.hid hD1
  have HD2 := Lib.hid hD2
  have HD3 := Lib.hid hD3
  clear hA hs hD1 hD2 hD3
  go_enter Tryz.func78, Tryz.ntmps78
  go_wp2_with (at_range; refine wpList_range_own _ rfl _ 182 rfl 9 87 lawK Tryz.underlying182 rK b.k (Maps.size D) D rfl HD1.out ?_; intro y hrg0 hg0 hs0)
  go_frame
  rw [size_one] at hrg0 hs0
  rw [size_one]
  have RG := Lib.hid hrg0
  have BY : Hid (Below w.heap.size w y) := Lib.hid ((below1 w (.cells (mrowG q.K.length) 87)).grown hg0 (by simp) (fun k hk => by cases hk))
  have HAy : Hid (At y b q) := Lib.hid (HA1.out.below ⟨hg0.os, hg0.tape, hg0.output, hg0.size, fun k hk => hg0.block k hk (by simp)⟩)
  have OY : Hid (OwnG y w.heap.size (.slice (some ⟨w.heap.size, 0, none⟩) 0 q.K.length) []) := Lib.hid ((OwnE.made w w.heap.size q.K.length _ (Nat.le_refl _) (by unfold maxLen; omega)).grown hg0 (fun b hb => by simp))
  have HYZ : Hid (y.heap.size = w.heap.size + 1 + 1) := Lib.hid hs0
  clear hrg0 hg0 hs0 r1 r2 HA1 HD1 c0 c1 c2 c3 c4 d0 d1 d2 d3 d4
  go_loopw [3] (fun v3 wr => GR w b q D (w.heap.size + 1) v3 wr) (fun _ wr => wr.rangeLeft b.k (w.heap.size + 1))
  case atStart =>
    refine ⟨_, _, [], RG.out, MetK.start HD2.out HS.out, ?_, OY.out, BY.out, by rw [HYZ.out]; omega, by omega⟩
    rw [HD3.out]; simp; omega
  case round =>
    obtain ⟨left, cnt, L, hrg, hM, hc, hO, hB, hr1, hr2⟩ := hrel
    have HM := Lib.hid hM
    have HO := Lib.hid hO
    have HB := Lib.hid hB
    have HRG := Lib.hid hrg
    clear hrg hM hO hB
    go_wp2_with (at_next; refine wpList_next_ranges _ rfl _ rfl 9 lawK rK encStr vK (fun key kl hk => by obtain ⟨x, hx, _⟩ := Maps.keyOf_str Tryz.underlying9 hk; exact ⟨x, hx⟩) (fun v y hv => by obtain ⟨c, rfl, _⟩ := rK_inv hv; exact ⟨c, rfl⟩) b.k (w.heap.size + 1) (Maps.size D) _ _ _ rfl HRG.out ?_ ?_)
    · intro hc0 hl0
      have HL0 := Lib.hid hl0
      clear hl0
      go_wp2_with fail
      with_reducible refine (sortG_any w.heap.size u3 L wr HO.out (by omega)).mono ?_
      rintro e w5 ⟨rfl, l', h1, h2, h3, h4⟩
      have HE := Lib.hid (goods_eq HS.out (HM.out.perm HS.out HL0.out) h1 h2)
      have HO5 := Lib.hid h3
      have HB5 := Lib.hid (HB.out.grown h4 (by omega) (fun k hk => (HO.out.block k hk).1))
      clear h1 h2 h3 h4
      go_wp2
      go_ret
      exact ⟨_, rfl, by rw [← HE.out]; exact HO5.out, HB5.out⟩
    · intro x c kl yd yp w2 cnt2 hkey hlk hv hat hrg2 hlt hg2 hs2 hen
      obtain ⟨x', ex, rfl, hxl⟩ := Maps.keyOf_str Tryz.underlying9 hkey
      obtain rfl : x = x' := encStr_inj ex
      rw [rK_mk] at hv
      obtain ⟨rfl, rfl⟩ : dK c = yd ∧ [] = yp := by simpa using hv
      obtain ⟨hcK, rfl⟩ := HD2.out.entry hat
      have HM2 := Lib.hid (HM.out.step HS.out hcK hlk)
      have HNI : Hid (some (w.heap.size + 1) ≠ u3.ownBlock) := Lib.hid (row_ne_iter HO.out HRG.out)
      have HO2 := Lib.hid (HO.out.grown hg2 (fun b hb e => HNI.out (e.symm.trans hb.symm)))
      have HRG2 := Lib.hid hrg2
      have HB2 := Lib.hid (HB.out.grown hg2 (Nat.le_of_lt (Nat.lt_of_le_of_lt hr2 hr1)) (fun k hk => by injection hk with hk; omega))
      have HZ2 := Lib.hid hs2
      have HLT := Lib.hid hlt
      clear hkey hlk hv hat hrg2 hlt hg2 hs2 ex
      have HO3 := Lib.hid ((HO2.out.alloc (.cells #[encStr c.n, .int .i64 c.m, .int .i64 c.h] 87)).alloc (.cells #[encStr c.n, .int .i64 c.m, .int .i64 c.h] 87))
      have LN := Lib.hid (Lies.made2 w2 (.cells #[encStr c.n, .int .i64 c.m, .int .i64 c.h] 87) 87 #[encStr c.n, .int .i64 c.m, .int .i64 c.h])
      have HSM : Hid (L.length ≤ 100000) := Lib.hid (by omega)
      have HBZ : Hid (w.heap.size ≤ ((w2.alloc (.cells #[encStr c.n, .int .i64 c.m, .int .i64 c.h] 87)).alloc (.cells #[encStr c.n, .int .i64 c.m, .int .i64 c.h] 87)).heap.size) := Lib.hid (by simp; have := HZ2.out; omega)
      go_wp2_with (first
        | ((with_reducible refine wpl_appG (some 26) _ _ _ (.tmp 23) (.tmp 25) w.heap.size u3 L (w2.heap.size + 1) c.n c.m c.h ?hs ?hx HO3.out LN.out HSM.out HBZ.out ?_); (case hs => rfl); (case hx => rfl); (intro v4 w4 ho4 hg4 hb4)))
      go_roundw
      case rel =>
        have hbk : b.k < w.heap.size := HA.out.ok.lt
        have e1 := fun k (h : u3.ownBlock = some k) => (HO.out.block k h).1
        refine ⟨_, _, L ++ [c], ((HRG2.out.alloc _).alloc _).kept hg4 (fun e => by have := e1 _ e.symm; omega) HNI.out, HM2.out, ?_, ho4, ?_, ?_, hr2⟩
        · have := HLT.out
          rw [List.length_append]; simp; omega
        · exact (((HB2.out.alloc (by have := HZ2.out; omega) _).alloc (by have := HZ2.out; simp; omega) _).grown hg4 HBZ.out (fun k hk => e1 k hk))
        · have := hg4.size
          have h2 := HZ2.out
          simp at this
          omega
      case measure =>
        rw [(((HRG2.out.alloc _).alloc _).kept hg4 (fun e => by have := (HO.out.block _ e.symm).1; have hbk : b.k < w.heap.size := HA.out.ok.lt; omega) HNI.out).left_eq, HRG.out.left_eq]
        exact HLT.out

end Go.Proofs.YtpbclmnhkmcknaaGreat.Pu

namespace Go.Proofs.YtpbclmnhkmcknaaGreat
open Go.RowKit
open Fe (Lies Own Bys Reads NF Kx Kp Note)
set_option maxRecDepth 100000
set_option linter.unusedVariables false
set_option linter.unusedSimpArgs false

/-- What holds of a crew. -/
structure CInv (R : List Int) (q : Cq) : Prop where
  s : St.Inv q.s
  p : Pu.Inv q.p
  d : Do.Inv R q.d
  ok : Fe.okT q.f.n q.f.T
  ep : q.f.ep < 4294967296
  sl : q.s.H.length ≤ q.f.n
  pl : q.p.H.length ≤ q.f.n
  dl : q.d.H.length ≤ q.f.n
  el : q.E.length ≤ q.f.n
  ml : q.M.length ≤ q.f.n
  mx : ∀ x ∈ q.M, x.length ≤ 33
theorem CInv.n {R : List Int} {q : Cq} (h : CInv R q) : q.f.n ≤ 200 := h.ok.1

theorem Lies_cells7 {w : World} {g : Nat} {t : TypeId} {z0 z1 z2 z3 z4 z5 z6 : Value} (h : Lies w g t #[z0, z1, z2, z3, z4, z5, z6]) : w.cell? ⟨g, 0, none⟩ = some z0 ∧ w.cell? ⟨g, 1, none⟩ = some z1 ∧ w.cell? ⟨g, 2, none⟩ = some z2 ∧ w.cell? ⟨g, 3, none⟩ = some z3 ∧ w.cell? ⟨g, 4, none⟩ = some z4 ∧ w.cell? ⟨g, 5, none⟩ = some z5 ∧ w.cell? ⟨g, 6, none⟩ = some z6 := ⟨h.cell 0, h.cell 1, h.cell 2, h.cell 3, h.cell 4, h.cell 5, h.cell 6⟩
theorem Lies_free7 {w : World} {g : Nat} {t : TypeId} {cs : Array Value} (h : Lies w g t cs) : w.frozen? ⟨g, 0, none⟩ = false ∧ w.frozen? ⟨g, 1, none⟩ = false ∧ w.frozen? ⟨g, 2, none⟩ = false ∧ w.frozen? ⟨g, 3, none⟩ = false ∧ w.frozen? ⟨g, 4, none⟩ = false ∧ w.frozen? ⟨g, 5, none⟩ = false ∧ w.frozen? ⟨g, 6, none⟩ = false := ⟨h.free 0, h.free 1, h.free 2, h.free 3, h.free 4, h.free 5, h.free 6⟩

theorem encStr_u8s (x : List Nat) : encStr (u8s x) = .string (Fe.str x) := by
  have h := Fe.str_toList x
  rw [ByteArray.toList_eq] at h
  have : Fe.str x = ⟨(u8s x).toArray⟩ := by
    apply ByteArray.ext
    apply Array.toList_inj.1
    rw [h]
    rfl
  rw [this]

/-- Behind a call on a part. -/
def PartPost (w : World) (b : CB) (q' : Cq) (v : Int) (e : Ending) (w' : World) : Prop := e = .returned (.int .i64 v) ∧ CAt w' b q' ∧ Chg b.foot w w'
section
variable {R : List Int} {w : World} {b : CB} {q : Cq}
theorem cr_hold (h : CAt w b q) (hI : CInv R q) (o : Nat) (x : List Nat) (n : Int) (ho : o < 4294967296) (hx : x.length ≤ maxLen) (hn : -9223372036854775808 ≤ n ∧ n ≤ 9223372036854775807) :
    Calls Tryz.prog 160 #[.pointer (some ⟨b.s.s, 0, none⟩), .int .u32 (o : Int), .string (Fe.str x), .int .i64 n] w (PartPost w b { q with s := St.holdS q.s o (u8s x) n } (St.verd (St.holdV q.s o (u8s x) n))) := by
  rw [← encStr_u8s]
  refine (St.hold_any b.s q.s o (u8s x) n w h.s hI.s ho (by rw [u8s_len]; exact hx) hn (by have := hI.sl; have := hI.n; omega)).mono ?_
  rintro e w' ⟨he, hA, hF⟩
  exact ⟨he, h.stock hA hF⟩
theorem cr_free (h : CAt w b q) (hI : CInv R q) (o : Nat) (ho : o < 4294967296) :
    Calls Tryz.prog 156 #[.pointer (some ⟨b.s.s, 0, none⟩), .int .u32 (o : Int)] w (PartPost w b { q with s := St.endS q.s o false } (St.verd (St.endV q.s o))) := by
  refine (St.free_any b.s q.s o w h.s hI.s ho).mono ?_
  rintro e w' ⟨he, hA, hF⟩
  exact ⟨he, h.stock hA hF⟩
theorem cr_ship (h : CAt w b q) (hI : CInv R q) (o : Nat) (ho : o < 4294967296) :
    Calls Tryz.prog 161 #[.pointer (some ⟨b.s.s, 0, none⟩), .int .u32 (o : Int)] w (PartPost w b { q with s := St.endS q.s o true } (St.verd (St.endV q.s o))) := by
  refine (St.ship_any b.s q.s o w h.s hI.s ho).mono ?_
  rintro e w' ⟨he, hA, hF⟩
  exact ⟨he, h.stock hA hF⟩
theorem cr_auth (h : CAt w b q) (hI : CInv R q) (o : Nat) (x : List Nat) (n : Int) (ho : o < 4294967296) (hx : x.length ≤ maxLen) (hn : -9223372036854775808 ≤ n ∧ n ≤ 9223372036854775807) :
    Calls Tryz.prog 162 #[.pointer (some ⟨b.p.s, 0, none⟩), .int .u32 (o : Int), .string (Fe.str x), .int .i64 n] w (PartPost w b { q with p := Pu.authS q.p o (u8s x) n } (Pu.verd (Pu.authV q.p o (u8s x) n))) := by
  rw [← encStr_u8s]
  refine (Pu.auth_any b.p q.p o (u8s x) n w h.p hI.p ho (by rw [u8s_len]; exact hx) hn (by have := hI.pl; have := hI.n; omega)).mono ?_
  rintro e w' ⟨he, hA, hF⟩
  exact ⟨he, h.purse hA hF⟩
theorem cr_capture (h : CAt w b q) (hI : CInv R q) (o : Nat) (ho : o < 4294967296) :
    Calls Tryz.prog 163 #[.pointer (some ⟨b.p.s, 0, none⟩), .int .u32 (o : Int)] w (PartPost w b { q with p := Pu.movS q.p o 0 } (Pu.verd (Pu.movV q.p o 0))) := by
  refine (Pu.capture_any b.p q.p o w h.p hI.p ho (by have := hI.pl; have := hI.n; omega)).mono ?_
  rintro e w' ⟨he, hA, hF⟩
  exact ⟨he, h.purse hA hF⟩
theorem cr_void (h : CAt w b q) (hI : CInv R q) (o : Nat) (ho : o < 4294967296) :
    Calls Tryz.prog 157 #[.pointer (some ⟨b.p.s, 0, none⟩), .int .u32 (o : Int)] w (PartPost w b { q with p := Pu.movS q.p o 1 } (Pu.verd (Pu.movV q.p o 1))) := by
  refine (Pu.void_any b.p q.p o w h.p hI.p ho (by have := hI.pl; have := hI.n; omega)).mono ?_
  rintro e w' ⟨he, hA, hF⟩
  exact ⟨he, h.purse hA hF⟩
theorem cr_refund (h : CAt w b q) (hI : CInv R q) (o : Nat) (ho : o < 4294967296) :
    Calls Tryz.prog 158 #[.pointer (some ⟨b.p.s, 0, none⟩), .int .u32 (o : Int)] w (PartPost w b { q with p := Pu.movS q.p o 2 } (Pu.verd (Pu.movV q.p o 2))) := by
  refine (Pu.refund_any b.p q.p o w h.p hI.p ho (by have := hI.pl; have := hI.n; omega)).mono ?_
  rintro e w' ⟨he, hA, hF⟩
  exact ⟨he, h.purse hA hF⟩
theorem cr_canc (h : CAt w b q) (hI : CInv R q) (o : Nat) (ho : o < 4294967296) :
    Calls Tryz.prog 159 #[.pointer (some ⟨b.d.s, 0, none⟩), .int .u32 (o : Int)] w (PartPost w b { q with d := Do.cancS q.d o } (Do.verd (Do.findH q.d.H o).isSome)) := by
  refine (Do.canc_any R b.d q.d o w h.d hI.d ho).mono ?_
  rintro e w' ⟨he, hA, hF⟩
  exact ⟨he, h.dock hA hF⟩
/-- Behind a booking: day and verdict. -/
def BkPost (w : World) (b : CB) (q : Cq) (o : Nat) (n : Int) (e : Ending) (w' : World) : Prop :=
  e = .returned (.tuple #[.int .i64 (Do.dayI (Do.bookD q.d o 0 n)), .int .i64 (Do.verd (Do.bookD q.d o 0 n).isSome)]) ∧ CAt w' b { q with d := Do.bookS q.d o 0 n } ∧ Chg b.foot w w'
theorem cr_book (h : CAt w b q) (hI : CInv R q) (o : Nat) (n : Int) (ho : o < 4294967296) (hn : -9223372036854775808 ≤ n ∧ n ≤ 9223372036854775807) :
    Calls Tryz.prog 196 #[.pointer (some ⟨b.d.s, 0, none⟩), .int .u32 (o : Int), .int .i64 0, .int .i64 n] w (BkPost w b q o n) := by
  refine (Do.book_any R b.d q.d o 0 n w h.d hI.d ho (by omega) hn (by have := hI.dl; have := hI.n; omega)).mono ?_
  rintro e w' ⟨he, hA, hF⟩
  exact ⟨he, h.dock hA hF⟩
end

end Go.Proofs.YtpbclmnhkmcknaaGreat

namespace Go.Proofs.YtpbclmnhkmcknaaGreat
open Go.RowKit
open Fe (Lies Own Bys Reads NF Kx Kp Note)
set_option maxRecDepth 100000
set_option linter.unusedVariables false
set_option linter.unusedSimpArgs false

/-- Behind a step's work: verdict, reply, and the crew. -/
def WkPost (w : World) (b : CB) (B0 : Nat) (r : Rs) (e : Ending) (w' : World) : Prop :=
  ∃ v b', e = .returned (.tuple #[.int .i64 r.v, v]) ∧ Own w' w.heap.size v r.r ∧ (∀ i, v.ownBlock = some i → ¬ b'.foot i) ∧ b'.c = b.c ∧ CAt w' b' r.q ∧ Chg b.foot w w' ∧ ∀ i, b'.foot i → b.foot i ∨ B0 ≤ i
def UnPost (w : World) (b : CB) (B0 : Nat) (r : Rs) (e : Ending) (w' : World) : Prop :=
  ∃ b', e = .returned (.int .i64 r.v) ∧ b'.c = b.c ∧ CAt w' b' r.q ∧ Chg b.foot w w' ∧ ∀ i, b'.foot i → b.foot i ∨ B0 ≤ i
theorem chg_box {F : Nat → Prop} {w w' : World} {o : Obj} (h : Chg F (w.alloc o) w') : Chg F w w' :=
  (Chg.of (Fe.below1 w o)).trans h fun i hi => .inl hi

set_option maxHeartbeats 4000000 in
theorem book_crew {R : List Int} {b : CB} {q : Cq} (o : Nat) (n : Int) (B0 : Nat) (w : World) (h : CAt w b q) (hI : CInv R q) (ho : o < 4294967296) (hn : 0 ≤ n ∧ n ≤ 1000000000) :
    Calls Tryz.prog 164 #[.pointer (some ⟨b.c, 0, none⟩), .int .u32 (o : Int), .int .i64 n] w (WkPost w b B0 (fwdS q o ⟨5, n, []⟩)) := by
  obtain ⟨c0, c1, c2, c3, c4, c5, c6⟩ := Lies_cells7 h.c
  have C := Lib.hid (cr_book h hI o n ho (by omega))
  have HI := Lib.hid hI
  unfold BkPost at C
  cases hd : Do.bookD q.d o 0 n with
  | none =>
    have hr : fwdS q o ⟨5, n, []⟩ = ⟨2, [], q⟩ := by
      show (match Do.bookD q.d o 0 n with | none => (⟨2, [], q⟩ : Rs) | some d => ⟨1, [d], { q with d := Do.bookS q.d o 0 n }⟩) = _
      rw [hd]
    rw [hr]
    rw [hd] at C
    have hS := Lib.hid (Do.bookS_no hd)
    clear hr hd h hI
    dsimp only [Do.dayI, Option.isSome_none] at C
    go_enter Tryz.func164, Tryz.ntmps164
    go_wp2_with fail
    with_reducible refine C.out.mono ?_
    rintro e w1 ⟨rfl, hA, hC⟩
    rw [hS.out] at hA
    have HA := Lib.hid hA
    have HC := Lib.hid hC
    clear hA hC
    rw [show Do.verd false = 2 from rfl]
    go_wp2
    go_ret2
    exact ⟨_, b, rfl, Own.nil _ _, (fun i hi => by cases hi), rfl, HA.out, HC.out, fun i hi => .inl hi⟩
  | some d =>
    have hr : fwdS q o ⟨5, n, []⟩ = ⟨1, [d], { q with d := Do.bookS q.d o 0 n }⟩ := by
      show (match Do.bookD q.d o 0 n with | none => (⟨2, [], q⟩ : Rs) | some d => ⟨1, [d], { q with d := Do.bookS q.d o 0 n }⟩) = _
      rw [hd]
    rw [hr]
    rw [hd] at C
    have hlt : d < 256 := by
      have h1 := (Do.fday_some.1 (Do.bookD_some.1 hd).2).1
      have h2 := hI.d.fl
      have h3 := hI.d.fz
      omega
    have e8 : IntKind.u8.wrap (d : Int) = (d : Int) := Fe.wrap_u8 d hlt
    clear hr hd h hI
    dsimp only [Do.dayI, Option.isSome_some] at C
    go_enter Tryz.func164, Tryz.ntmps164
    go_wp2_with fail
    with_reducible refine C.out.mono ?_
    rintro e w1 ⟨rfl, hA, hC⟩
    have HA := Lib.hid hA
    have HC := Lib.hid hC
    clear hA hC
    rw [show Do.verd true = 1 from rfl]
    go_wp2
    go_ret2
    refine ⟨_, b, rfl, ?_, (fun i hi hf => by (have h1 : w1.heap.size = i := by (simpa [Value.ownBlock] using hi)); (have h2 := HA.out.foot_lt hf); omega), rfl, HA.out.alloc _, HC.out.trans (Chg.of (Fe.below1 w1 _)) (F := b.foot) (G := b.foot) (fun i hi => .inl hi), fun i hi => .inl hi⟩
    refine Own.made (l := [d]) (Lies.made w1 5 _) HC.out.size (by simpa using hlt) (by unfold maxLen; simp)

/-- 'append' of one element where the order is open. -/
theorem stp_app1 {α : Type} {enc : α → List Value} {e : TypeId} {k : Nat} (t : TypeId) (inf : TypeInfo) (z : Value) (by_ : Nat) (ht : Tryz.prog.underlying t = some (.slice e)) (hi : Tryz.prog.info? e = some inf) (hz : inf.zero = some z) (hsz : inf.size = k) (hby : inf.bytes = by_) (hzs : z.cells.size = k) (hk0 : 0 < k) (hb48 : by_ ≤ 1000)
    (hk : ∀ x, (enc x).length = k) (h1c : ∀ x, ∀ v ∈ enc x, v.oneCell' = true)
    {ops : Array Oper} {a : Act} {w : World} {K : Act → World → Prop} {Q : Exit → Act → World → Prop} {E : Prop} (dst : Option Tmp) (ty : TypeId) (pos : String) (aft : Array Edge) (s x : Operand)
    (B : Nat) (v : Value) (l : List α) (g : Nat) (y : α)
    (hs : a.eval s = v) (hx : a.eval x = .slice (some ⟨g, 0, none⟩) 1 1) (hown : St.OwnE enc e k w B v l) (hsrc : Lies w g e (enc y).toArray) (hsm : l.length ≤ 100000) (hB : B ≤ w.heap.size)
    (h : ∀ v' w', St.OwnE enc e k w' B v' (l ++ [y]) → w.grownBy w' v.ownBlock → (v'.ownBlock = v.ownBlock ∨ v'.ownBlock = some w.heap.size) → K (a.put dst v') w') :
    if Region.wanted ⟨dst, .call { callee := .builtin .append, args := #[s, x], argTypes := #[t, t] }, ty, pos, aft, none⟩ (yielded ops a.tmps) = true then Oper.wp Tryz.prog ⟨dst, .call { callee := .builtin .append, args := #[s, x], argTypes := #[t, t] }, ty, pos, aft, none⟩ a w K Q else E := by
  rw [if_pos (by simp [Region.wanted])]
  have hln : (l.length + 1) * by_ ≤ 100001 * 1000 := Nat.mul_le_mul (by omega) hb48
  obtain ⟨v', w', hr, h2, h3, h4, h5⟩ := run_append_own_at (P := Tryz.prog) w B t ty e _ _ k by_ ht hi hz hsz hby hzs hk0 v l.length (St.flat enc l) hown ⟨g, 0, none⟩ 1 1 (enc y) (by rw [hk]; omega) (fun j u hu => by
    rw [Addr.add_mid, Nat.zero_add, hsrc.cell]
    simpa using hu) (h1c y) (by unfold maxLen; omega) (by omega) hB
  unfold Oper.wp execOp
  simp only [resolve, invoke, builtin, Sem.run_bind, Sem.run_pure, Result.andThen_ok, List.map_toArray, List.map_cons, List.map_nil, hs, hx, hr]
  refine h v' w' ?_ h3 h5
  show w'.ownsRow B e k v' (l ++ [y]).length (St.flat enc (l ++ [y]))
  rw [List.length_append, show St.flat enc (l ++ [y]) = St.flat enc l ++ enc y from by simp [St.flat]]
  exact h2
theorem stp_appV {ops : Array Oper} {a : Act} {w : World} {K : Act → World → Prop} {Q : Exit → Act → World → Prop} {E : Prop} (dst : Option Tmp) (ty : TypeId) (pos : String) (aft : Array Edge) (s x : Operand)
    (v : Value) (l : List Sl) (g : Nat) (y : Sl)
    (hs : a.eval s = v) (hx : a.eval x = .slice (some ⟨g, 0, none⟩) 1 1) (hown : OwnV w 0 v l) (hsrc : Lies w g 22 #[y.v]) (hsm : l.length ≤ 100000)
    (h : ∀ v' w', OwnV w' 0 v' (l ++ [y]) → w.grownBy w' v.ownBlock → (v'.ownBlock = v.ownBlock ∨ v'.ownBlock = some w.heap.size) → K (a.put dst v') w') :
    if Region.wanted ⟨dst, .call { callee := .builtin .append, args := #[s, x], argTypes := #[69, 69] }, ty, pos, aft, none⟩ (yielded ops a.tmps) = true then Oper.wp Tryz.prog ⟨dst, .call { callee := .builtin .append, args := #[s, x], argTypes := #[69, 69] }, ty, pos, aft, none⟩ a w K Q else E :=
  stp_app1 69 _ _ 24 Tryz.underlying69 Tryz.type22 rfl rfl rfl rfl (by decide) (by decide) encV_len encV_one dst ty pos aft s x 0 v l g y hs hx hown hsrc hsm (Nat.zero_le _) h
theorem stp_appF {ops : Array Oper} {a : Act} {w : World} {K : Act → World → Prop} {Q : Exit → Act → World → Prop} {E : Prop} (dst : Option Tmp) (ty : TypeId) (pos : String) (aft : Array Edge) (s x : Operand)
    (v : Value) (l : List Ef) (g : Nat) (y : Ef)
    (hs : a.eval s = v) (hx : a.eval x = .slice (some ⟨g, 0, none⟩) 1 1) (hown : OwnF w 0 v l) (hsrc : Lies w g 83 #[.int .u32 (y.o : Int), .int .i64 y.s, .bool y.u]) (hsm : l.length ≤ 100000)
    (h : ∀ v' w', OwnF w' 0 v' (l ++ [y]) → w.grownBy w' v.ownBlock → (v'.ownBlock = v.ownBlock ∨ v'.ownBlock = some w.heap.size) → K (a.put dst v') w') :
    if Region.wanted ⟨dst, .call { callee := .builtin .append, args := #[s, x], argTypes := #[68, 68] }, ty, pos, aft, none⟩ (yielded ops a.tmps) = true then Oper.wp Tryz.prog ⟨dst, .call { callee := .builtin .append, args := #[s, x], argTypes := #[68, 68] }, ty, pos, aft, none⟩ a w K Q else E :=
  stp_app1 68 _ _ 24 Tryz.underlying68 Tryz.type83 rfl rfl rfl rfl (by decide) (by decide) encF_len encF_one dst ty pos aft s x 0 v l g y hs hx hown hsrc hsm (Nat.zero_le _) h
theorem OwnF_one {w : World} {B : Nat} {v : Value} {l : List Ef} (h : OwnF w B v l) : v.oneCell' = true := by
  rcases St.OwnE.form h with ⟨rfl, _⟩ | ⟨g', cap, cur, rfl, _⟩ <;> rfl
theorem OwnV_one {w : World} {B : Nat} {v : Value} {l : List Sl} (h : OwnV w B v l) : v.oneCell' = true := by
  rcases St.OwnE.form h with ⟨rfl, _⟩ | ⟨g', cap, cur, rfl, _⟩ <;> rfl

end Go.Proofs.YtpbclmnhkmcknaaGreat

namespace Go.Proofs.YtpbclmnhkmcknaaGreat
open Go.RowKit
open Fe (Lies Own Bys Reads NF Kx Kp Note)
set_option maxRecDepth 100000
set_option linter.unusedVariables false
set_option linter.unusedSimpArgs false

theorem own_eq {v v' : Value} {n i : Nat} (h : v'.ownBlock = v.ownBlock ∨ v'.ownBlock = some n) (hi : v'.ownBlock = some i) : v.ownBlock = some i ∨ i = n := by
  rcases h with h | h
  · exact .inl (h ▸ hi)
  · rw [hi] at h; injection h with h; exact .inr h
section
variable {w w' : World} {b : CB} {q : Cq}
theorem CAt.parts (h : CAt w b q) (hs : ∀ i, i < w.heap.size → i ≠ b.c → b.vE.ownBlock ≠ some i → b.vM.ownBlock ≠ some i → w'.heap[i]? = w.heap[i]?) :
    St.At w' b.s q.s ∧ Pu.At w' b.p q.p ∧ Do.At w' b.d q.d ∧ NF w' 0 b.vL b.n b.X ∧ Nts w' b.V q.M := by
  have hk : ∀ i t, Kb w i t → t ≠ some 122 → t ≠ some 83 → t ≠ some 22 → w'.heap[i]? = w.heap[i]? := fun i t hi h1 h2 h3 =>
    hs i hi.lt (hi.ne h.kc h1) (fun e => hi.ne (h.ke e) h2 rfl) (fun e => hi.ne (h.km e) h3 rfl)
  refine ⟨St_same h.s (hk _ _ h.kss (by decide) (by decide) (by decide)) fun i hi => hk i _ (h.ks hi) (by decide) (by decide) (by decide), h.p.same (hk _ _ h.kps (by decide) (by decide) (by decide)) fun i hi => hk i _ (h.kp hi) (by decide) (by decide) (by decide),
    h.d.same (hk _ _ h.kds (by decide) (by decide) (by decide)) fun i hi => ?_, NF_same h.f fun i hi => ?_, h.nt.same fun i hi => hk i _ (h.nt.kb hi) (by decide) (by decide) (by decide)⟩
  · rcases h.kd hi with hi | hi <;> exact hk i _ hi (by decide) (by decide) (by decide)
  · rcases NF_kb h.f hi with hi | hi <;> exact hk i _ hi (by decide) (by decide) (by decide)
/-- A text is noted: w1 has the new slice, w2 the row, w3 the crew's own cell. -/
theorem CAt.addM {w1 w2 w3 : World} {B0 : Nat} {v' : Value} {s : Sl} {l : List Nat} (h : CAt w b q) (hb : Below w.heap.size w w1) (hB0 : B0 ≤ w.heap.size) (hs : Nt w1 s l) (hsB : ∀ i, s.v.ownBlock = some i → B0 ≤ i) (ho : OwnV w2 0 v' (b.V ++ [s])) (hg : w1.grownBy w2 b.vM.ownBlock)
    (hv : v'.ownBlock = b.vM.ownBlock ∨ v'.ownBlock = some w1.heap.size) (hp : St.PutW w2 w3 b.c 122 #[.pointer (some ⟨b.s.s, 0, none⟩), .pointer (some ⟨b.p.s, 0, none⟩), .pointer (some ⟨b.d.s, 0, none⟩), .int .u32 (q.f.ep : Int), b.vL, b.vE, v']) :
    CAt w3 { b with vM := v', V := b.V ++ [s] } { q with M := q.M ++ [l] } ∧ Chg b.foot w w3 ∧ ∀ i, ({ b with vM := v', V := b.V ++ [s] } : CB).foot i → b.foot i ∨ B0 ≤ i := by
  have hz := hb.size
  have hz1 := hg.size
  have hs3 : ∀ i, i < w1.heap.size → i ≠ b.c → b.vM.ownBlock ≠ some i → w3.heap[i]? = w1.heap[i]? := fun i hi h1 h2 =>
    (hp.grown.block i (by omega) (fun e => h1 (by injection e))).trans (hg.block i hi (fun e => h2 e.symm))
  have hsw : ∀ i, i < w.heap.size → i ≠ b.c → b.vM.ownBlock ≠ some i → w3.heap[i]? = w.heap[i]? := fun i hi h1 h2 => (hs3 i (by omega) h1 h2).trans (hb.block i hi)
  obtain ⟨p1, p2, p3, p4, p5⟩ := h.parts (w' := w3) fun i hi h1 _ h2 => hsw i hi h1 h2
  have hk1 : Kb w1 b.c (some 122) := (h.below hb).kc
  have hvk : ∀ i, v'.ownBlock = some i → Kb w2 i (some 22) := fun i hi => Kb.row ho hi
  have hc2 : Kb w2 b.c (some 122) := by
    have := (h.below hb).c
    exact ⟨_, (0, 0), (hg.block b.c hk1.lt (fun e => (h.below hb).kc.ne ((h.below hb).km e.symm) (by decide) rfl)).trans this⟩
  refine ⟨⟨hp.lies, p1, p2, p3, h.fn, p4, h.fx, h.e.same fun i hi => hsw i (h.ke hi).lt ((h.ke hi).ne h.kc (by decide)) (fun e => (h.ke hi).ne (h.km e) (by decide) rfl), ?_, p5.snoc ?_, h.sp, h.sd, h.pd⟩, ?_, ?_⟩
  · exact ho.same fun i hi => hp.grown.block i (hvk i hi).lt (fun e => (hvk i hi).ne hc2 (by decide) (by injection e))
  · refine hs.same fun i hi => ?_
    have hk5 : Kb w1 i (some 5) := hs.kb hi
    exact hs3 i hk5.lt (hk5.ne hk1 (by decide)) (fun e => hk5.ne ((h.below hb).km e) (by decide) rfl)
  · refine ⟨hp.grown.os.trans (hg.os.trans hb.os), hp.grown.tape.trans (hg.tape.trans hb.tape), hp.grown.output.trans (hg.output.trans hb.output), by have := hp.size; omega, fun i hi hn => hsw i hi (fun e => hn (.inl e)) (fun e => hn ?_)⟩
    exact .inr (.inr (.inr (.inr (.inr (.inr (.inr (.inr (.inr (.inl e)))))))))
  · rintro i (hi | hi | hi | hi | hi | hi | hi | hi | hi | hi | hi)
    · exact .inl (.inl hi)
    · exact .inl (.inr (.inl hi))
    · exact .inl (.inr (.inr (.inl hi)))
    · exact .inl (.inr (.inr (.inr (.inl hi))))
    · exact .inl (.inr (.inr (.inr (.inr (.inl hi)))))
    · exact .inl (.inr (.inr (.inr (.inr (.inr (.inl hi))))))
    · exact .inl (.inr (.inr (.inr (.inr (.inr (.inr (.inl hi)))))))
    · exact .inl (.inr (.inr (.inr (.inr (.inr (.inr (.inr (.inl hi))))))))
    · exact .inl (.inr (.inr (.inr (.inr (.inr (.inr (.inr (.inr (.inl hi)))))))))
    · rcases own_eq hv hi with hi | hi
      · exact .inl (.inr (.inr (.inr (.inr (.inr (.inr (.inr (.inr (.inr (.inl hi))))))))))
      · exact .inr (by omega)
    · rcases Vb.snoc hi with hi | hi
      · exact .inl (.inr (.inr (.inr (.inr (.inr (.inr (.inr (.inr (.inr (.inr hi))))))))))
      · exact .inr (hsB i hi)
/-- A step took effect. -/
theorem CAt.addE {w1 w2 w3 : World} {B0 : Nat} {v' : Value} {y : Ef} (h : CAt w b q) (hb : Below w.heap.size w w1) (hB0 : B0 ≤ w.heap.size) (ho : OwnF w2 0 v' (q.E ++ [y])) (hg : w1.grownBy w2 b.vE.ownBlock)
    (hv : v'.ownBlock = b.vE.ownBlock ∨ v'.ownBlock = some w1.heap.size) (hp : St.PutW w2 w3 b.c 122 #[.pointer (some ⟨b.s.s, 0, none⟩), .pointer (some ⟨b.p.s, 0, none⟩), .pointer (some ⟨b.d.s, 0, none⟩), .int .u32 (q.f.ep : Int), b.vL, v', b.vM]) :
    CAt w3 { b with vE := v' } (addE q y) ∧ Chg b.foot w w3 ∧ ∀ i, ({ b with vE := v' } : CB).foot i → b.foot i ∨ B0 ≤ i := by
  have hz := hb.size
  have hz1 := hg.size
  have hs3 : ∀ i, i < w1.heap.size → i ≠ b.c → b.vE.ownBlock ≠ some i → w3.heap[i]? = w1.heap[i]? := fun i hi h1 h2 =>
    (hp.grown.block i (by omega) (fun e => h1 (by injection e))).trans (hg.block i hi (fun e => h2 e.symm))
  have hsw : ∀ i, i < w.heap.size → i ≠ b.c → b.vE.ownBlock ≠ some i → w3.heap[i]? = w.heap[i]? := fun i hi h1 h2 => (hs3 i (by omega) h1 h2).trans (hb.block i hi)
  obtain ⟨p1, p2, p3, p4, p5⟩ := h.parts (w' := w3) fun i hi h1 h2 _ => hsw i hi h1 h2
  have hk1 : Kb w1 b.c (some 122) := (h.below hb).kc
  have hvk : ∀ i, v'.ownBlock = some i → Kb w2 i (some 83) := fun i hi => Kb.row ho hi
  have hc2 : Kb w2 b.c (some 122) := by
    have := (h.below hb).c
    exact ⟨_, (0, 0), (hg.block b.c hk1.lt (fun e => (h.below hb).kc.ne ((h.below hb).ke e.symm) (by decide) rfl)).trans this⟩
  refine ⟨⟨hp.lies, p1, p2, p3, h.fn, p4, h.fx, ?_, h.m.same fun i hi => hsw i (h.km hi).lt ((h.km hi).ne h.kc (by decide)) (fun e => (h.km hi).ne (h.ke e) (by decide) rfl), p5, h.sp, h.sd, h.pd⟩, ?_, ?_⟩
  · exact ho.same fun i hi => hp.grown.block i (hvk i hi).lt (fun e => (hvk i hi).ne hc2 (by decide) (by injection e))
  · refine ⟨hp.grown.os.trans (hg.os.trans hb.os), hp.grown.tape.trans (hg.tape.trans hb.tape), hp.grown.output.trans (hg.output.trans hb.output), by have := hp.size; omega, fun i hi hn => hsw i hi (fun e => hn (.inl e)) (fun e => hn ?_)⟩
    exact .inr (.inr (.inr (.inr (.inr (.inr (.inr (.inr (.inl e))))))))
  · rintro i (hi | hi | hi | hi | hi | hi | hi | hi | hi | hi | hi)
    · exact .inl (.inl hi)
    · exact .inl (.inr (.inl hi))
    · exact .inl (.inr (.inr (.inl hi)))
    · exact .inl (.inr (.inr (.inr (.inl hi))))
    · exact .inl (.inr (.inr (.inr (.inr (.inl hi)))))
    · exact .inl (.inr (.inr (.inr (.inr (.inr (.inl hi))))))
    · exact .inl (.inr (.inr (.inr (.inr (.inr (.inr (.inl hi)))))))
    · exact .inl (.inr (.inr (.inr (.inr (.inr (.inr (.inr (.inl hi))))))))
    · rcases own_eq hv hi with hi | hi
      · exact .inl (.inr (.inr (.inr (.inr (.inr (.inr (.inr (.inr (.inl hi)))))))))
      · exact .inr (by omega)
    · exact .inl (.inr (.inr (.inr (.inr (.inr (.inr (.inr (.inr (.inr (.inl hi))))))))))
    · exact .inl (.inr (.inr (.inr (.inr (.inr (.inr (.inr (.inr (.inr (.inr hi))))))))))
/-- What the walk leaves behind the store of a fence. -/
abbrev putF (w : World) (g : Nat) (a0 a1 : Value) : World := (w.setCell ⟨g, 3, none⟩ a0).setCell ⟨g, 4, none⟩ a1
/-- The fence is another one. -/
theorem CAt.setF {w1 : World} {B ep n : Nat} {v' : Value} {X : Nat → Kx} {T : Nat → Kp} (h : CAt w b q) (hb : Below w.heap.size w w1) (hn : NF w1 B v' n X) (hx : ∀ i, i < n → (X i).k = T i) :
    CAt (putF w1 b.c (.int .u32 (ep : Int)) v') { b with n := n, vL := v', X := X } { q with f := ⟨ep, n, T⟩ } ∧ Chg b.foot w (putF w1 b.c (.int .u32 (ep : Int)) v') ∧ ∀ i, ({ b with n := n, vL := v', X := X } : CB).foot i → b.foot i ∨ B ≤ i := by
  have h1 := h.below hb
  have hs3 : ∀ i, i ≠ b.c → (putF w1 b.c (.int .u32 (ep : Int)) v').heap[i]? = w1.heap[i]? := fun i hi =>
    (heap_setCell_other _ ⟨b.c, 4, none⟩ i _ hi).trans (heap_setCell_other _ ⟨b.c, 3, none⟩ i _ hi)
  obtain ⟨p1, p2, p3, p4, p5⟩ := h1.parts (w' := putF w1 b.c (.int .u32 (ep : Int)) v') fun i _ hi _ _ => hs3 i hi
  refine ⟨⟨(h1.c.put 3 _).put 4 _, p1, p2, p3, rfl, ?_, hx, h1.e.same fun i hi => hs3 i ((h1.ke hi).ne h1.kc (by decide)), h1.m.same fun i hi => hs3 i ((h1.km hi).ne h1.kc (by decide)), p5, h.sp, h.sd, h.pd⟩, ?_, ?_⟩
  · refine (NF_same hn fun i hi => hs3 i ?_).mono (Nat.zero_le _)
    rcases NF_kb hn hi with hk | hk <;> exact hk.ne h1.kc (by decide)
  · refine ⟨hb.os, hb.tape, hb.output, by simpa using hb.size, fun i hi hn => (hs3 i (fun e => hn (.inl e))).trans (hb.block i hi)⟩
  · rintro i (hi | hi | hi | hi | hi | hi | hi | hi | hi | hi | hi)
    · exact .inl (.inl hi)
    · exact .inl (.inr (.inl hi))
    · exact .inl (.inr (.inr (.inl hi)))
    · exact .inl (.inr (.inr (.inr (.inl hi))))
    · exact .inl (.inr (.inr (.inr (.inr (.inl hi)))))
    · exact .inl (.inr (.inr (.inr (.inr (.inr (.inl hi))))))
    · exact .inl (.inr (.inr (.inr (.inr (.inr (.inr (.inl hi)))))))
    · exact .inr (NF_ge hn hi)
    · exact .inl (.inr (.inr (.inr (.inr (.inr (.inr (.inr (.inr (.inl hi)))))))))
    · exact .inl (.inr (.inr (.inr (.inr (.inr (.inr (.inr (.inr (.inr (.inl hi))))))))))
    · exact .inl (.inr (.inr (.inr (.inr (.inr (.inr (.inr (.inr (.inr (.inr hi))))))))))
end

end Go.Proofs.YtpbclmnhkmcknaaGreat
