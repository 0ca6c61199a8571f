/-
  The contract of read.
-/
import Derived.Test.YtfcfejmammohpaaSaveP
import Derived.Test.YtfcfejmammohpaaNRd
import Derived.Test.YtfcfejmammohpaaRd2
import Derived.Test.YtfcfejmammohpaaClone
import Derived.Deep.DeepCutAuto
namespace Go.Proofs.Ytfcfejmammohpaa
open Go.RowKit
set_option maxRecDepth 100000
set_option linter.unusedVariables false
set_option linter.unusedSimpArgs false

theorem grown_trans {a b c : World} {r : Option Nat} (h : a.grownBy b r) (k : b.grownBy c r) : a.grownBy c r := ⟨k.os.trans h.os, k.tape.trans h.tape, k.output.trans h.output, Nat.le_trans h.size k.size, fun i hi hne => (k.block i (Nat.lt_of_lt_of_le hi h.size) hne).trans (h.block i hi hne)⟩
theorem grown_high {a b : World} {r : Option Nat} {g : Nat} (h : a.grownBy b r) (hg : a.heap.size ≤ g) (o : Nat) (u : Value) : a.grownBy (b.setCell ⟨g, o, none⟩ u) r := ⟨h.os, h.tape, h.output, by simpa [World.setCell] using h.size, fun i hi hne => (heap_setCell_other b ⟨g, o, none⟩ i u (by show i ≠ g; omega)).trans (h.block i hi hne)⟩
theorem grown_alloc {a b : World} {r : Option Nat} (h : a.grownBy b r) (o : Obj) : a.grownBy (b.alloc o) r := ⟨h.os, h.tape, h.output, Nat.le_trans h.size (by simp), fun i hi hne => (Below.heap_alloc b o i (Nat.lt_of_lt_of_le hi h.size)).trans (h.block i hi hne)⟩
/-- What read answers. -/
def ReadK (f : Nat → Bool) (w : World) (p : Nat) (l : List Nat) (s : Ent.St) (x : Ending) (w' : World) : Prop :=
  ∃ y : Kx, x = .returned (.agg (kc y)) ∧ y.k = (rdK f l s).1 ∧ Own w' w.heap.size y.K y.k.a ∧ Own w' w.heap.size y.D y.k.r ∧ (∀ g, y.K.ownBlock = some g → y.D.ownBlock ≠ some g) ∧ Rd 135 w' p (rdK f l s).2 l ∧ w.grownBy w' (some p)
set_option maxHeartbeats 8000000 in
theorem read_any (p : Nat) (s : Ent.St) (l : List Nat) (w : World) (hR : Rd 135 w p s l) (hl : l.length ≤ 200000) : Calls Try.prog 61 #[.pointer (some ⟨p, 0, none⟩)] w (ReadK one w p l s) := by
  unfold ReadK rdK
  dsimp only
  have hsm := hR.small
  have C1 := Lib.hid (fun W h => ru32_any p s l W h hl)
  have C2 := Lib.hid (fun s W h => ru8_any p s l W h hl)
  have C5 := Lib.hid (fun s W h => rtext_any p s l W h hl)
  unfold Ru32Post at C1
  unfold Ru8Post at C2
  unfold RtPost at C5
  have b1 := Ent.rnum_lt l hsm 4 s
  obtain ⟨r1, hr1⟩ : ∃ q, Ent.rnum l 4 s = q := ⟨_, rfl⟩
  rw [hr1] at C1 b1 ⊢
  have b2 := Ent.rnum_lt l hsm 1 r1.2
  obtain ⟨r2, hr2⟩ : ∃ q, Ent.rnum l 1 r1.2 = q := ⟨_, rfl⟩
  rw [hr2] at b2 ⊢
  have b3 := Ent.rnum_lt l hsm 1 r2.2
  obtain ⟨r3, hr3⟩ : ∃ q, Ent.rnum l 1 r2.2 = q := ⟨_, rfl⟩
  rw [hr3] at b3 ⊢
  have b4 := Ent.rnum_lt l hsm 1 r3.2
  obtain ⟨r4, hr4⟩ : ∃ q, Ent.rnum l 1 r3.2 = q := ⟨_, rfl⟩
  rw [hr4] at b4 ⊢
  obtain ⟨r5, hr5⟩ : ∃ q, Ent.rtxt l r4.2 = q := ⟨_, rfl⟩
  rw [hr5]
  obtain ⟨r6, hr6⟩ : ∃ q, Ent.rtxt l r5.2 = q := ⟨_, rfl⟩
  rw [hr6]
  have C2a := Lib.hid (C2.out r1.2)
  have C2b := Lib.hid (C2.out r2.2)
  have C2c := Lib.hid (C2.out r3.2)
  have C5a := Lib.hid (C5.out r4.2)
  have C5b := Lib.hid (C5.out r5.2)
  rw [hr2] at C2a
  rw [hr3] at C2b
  rw [hr4] at C2c
  rw [hr5] at C5a
  rw [hr6] at C5b
  clear hr1 hr2 hr3 hr4 hr5 hr6 C2 C5 hsm
  obtain ⟨n1, s1⟩ := r1
  obtain ⟨n2, s2⟩ := r2
  obtain ⟨n3, s3⟩ := r3
  obtain ⟨n4, s4⟩ := r4
  obtain ⟨l5, s5⟩ := r5
  obtain ⟨l6, s6⟩ := r6
  dsimp only at *
  have hone : one n3 = ((n3 : Int) == 1) := by unfold one; rw [Bool.eq_iff_iff]; simp; omega
  rw [hone]
  clear hone
  have hpw := hR.lt
  have RD0 := Lib.hid ((hR.below (below1 w (.cells #[.int .u32 0, .int .i64 0, .bool false, .slice none 0 0, .int .i64 0, .slice none 0 0] 34))).below (below1 _ (.cells #[.int .u32 0, .int .i64 0, .bool false, .slice none 0 0, .int .i64 0, .slice none 0 0] 34)))
  have LR0 : Hid (Lies ((w.alloc (.cells #[.int .u32 0, .int .i64 0, .bool false, .slice none 0 0, .int .i64 0, .slice none 0 0] 34)).alloc (.cells #[.int .u32 0, .int .i64 0, .bool false, .slice none 0 0, .int .i64 0, .slice none 0 0] 34)) w.heap.size 34 #[.int .u32 0, .int .i64 0, .bool false, .slice none 0 0, .int .i64 0, .slice none 0 0]) := Lib.hid ((Lies.made w 34 #[.int .u32 0, .int .i64 0, .bool false, .slice none 0 0, .int .i64 0, .slice none 0 0]).alloc _)
  have LK0 : Hid (Lies ((w.alloc (.cells #[.int .u32 0, .int .i64 0, .bool false, .slice none 0 0, .int .i64 0, .slice none 0 0] 34)).alloc (.cells #[.int .u32 0, .int .i64 0, .bool false, .slice none 0 0, .int .i64 0, .slice none 0 0] 34)) (w.heap.size + 1) 34 #[.int .u32 0, .int .i64 0, .bool false, .slice none 0 0, .int .i64 0, .slice none 0 0]) := Lib.hid (Lies.made2 w (.cells #[.int .u32 0, .int .i64 0, .bool false, .slice none 0 0, .int .i64 0, .slice none 0 0] 34) 34 #[.int .u32 0, .int .i64 0, .bool false, .slice none 0 0, .int .i64 0, .slice none 0 0])
  have GB0 : Hid (w.grownBy ((w.alloc (.cells #[.int .u32 0, .int .i64 0, .bool false, .slice none 0 0, .int .i64 0, .slice none 0 0] 34)).alloc (.cells #[.int .u32 0, .int .i64 0, .bool false, .slice none 0 0, .int .i64 0, .slice none 0 0] 34)) (some p)) := Lib.hid (grown_alloc (grown_alloc (World.grownBy.refl w _) _) _)
  have HP := Lib.hid hpw
  clear hR hpw
  go_enter Try.func61, Try.ntmps61
  go_wp2_with fail
  with_reducible refine (C1.out _ RD0.out).mono ?_
  rintro x w1 ⟨rfl, hr, hg⟩
  have LKa := Lib.hid (LK0.out.grown hg (fun e => by have := HP.out; injection e; omega))
  have LRa := Lib.hid (LR0.out.grown hg (fun e => by have := HP.out; injection e; omega))
  have RDa := Lib.hid hr
  have GBa := Lib.hid (grown_trans GB0.out hg)
  clear hr hg
  have LK1 := Lib.hid (LKa.out.put 0 (.int .u32 (n1 : Int)))
  have LR1 := Lib.hid (LRa.out.other (a := ⟨w.heap.size + 1, 0, none⟩) (Nat.ne_of_lt (Nat.lt_succ_self _)) (.int .u32 (n1 : Int)))
  have RD1 := Lib.hid (RDa.out.setq (q := w.heap.size + 1) (by have := HP.out; omega) 0 (.int .u32 (n1 : Int)))
  have GB1 := Lib.hid (grown_high GBa.out (Nat.le_succ w.heap.size) 0 (.int .u32 (n1 : Int)))
  obtain ⟨a0_0, a0_1, a0_2, a0_3, a0_4, a0_5⟩ := LKa.out.cells6
  obtain ⟨f1_0, f1_1, f1_2, f1_3, f1_4, f1_5⟩ := LKa.out.free6
  have LKb : Hid (Lies (w1.setCell ⟨w.heap.size + 1, 0, none⟩ (.int .u32 (n1 : Int))) (w.heap.size + 1) 34 #[.int .u32 (n1 : Int), .int .i64 0, .bool false, .slice none 0 0, .int .i64 0, .slice none 0 0]) := LK1
  clear LK1 LKa LRa RDa GBa LK0 LR0 RD0 GB0
  have LK1 := LKb
  clear LKb
  go_wp2_with fail
  with_reducible refine (C2a.out _ RD1.out).mono ?_
  rintro x w2 ⟨rfl, hr, hg⟩
  have LKa := Lib.hid (LK1.out.grown hg (fun e => by have := HP.out; injection e; omega))
  have LRa := Lib.hid (LR1.out.grown hg (fun e => by have := HP.out; injection e; omega))
  have RDa := Lib.hid hr
  have GBa := Lib.hid (grown_trans GB1.out hg)
  clear hr hg
  have LK2 := Lib.hid (LKa.out.put 1 (.int .i64 (n2 : Int)))
  have LR2 := Lib.hid (LRa.out.other (a := ⟨w.heap.size + 1, 1, none⟩) (Nat.ne_of_lt (Nat.lt_succ_self _)) (.int .i64 (n2 : Int)))
  have RD2 := Lib.hid (RDa.out.setq (q := w.heap.size + 1) (by have := HP.out; omega) 1 (.int .i64 (n2 : Int)))
  have GB2 := Lib.hid (grown_high GBa.out (Nat.le_succ w.heap.size) 1 (.int .i64 (n2 : Int)))
  obtain ⟨a1_0, a1_1, a1_2, a1_3, a1_4, a1_5⟩ := LKa.out.cells6
  obtain ⟨f2_0, f2_1, f2_2, f2_3, f2_4, f2_5⟩ := LKa.out.free6
  have LKb : Hid (Lies (w2.setCell ⟨w.heap.size + 1, 1, none⟩ (.int .i64 (n2 : Int))) (w.heap.size + 1) 34 #[.int .u32 (n1 : Int), .int .i64 (n2 : Int), .bool false, .slice none 0 0, .int .i64 0, .slice none 0 0]) := LK2
  clear LK2 LKa LRa RDa GBa LK1 LR1 RD1 GB1
  have LK2 := LKb
  clear LKb
  go_wp2_with fail
  with_reducible refine (C2b.out _ RD2.out).mono ?_
  rintro x w3 ⟨rfl, hr, hg⟩
  have LKa := Lib.hid (LK2.out.grown hg (fun e => by have := HP.out; injection e; omega))
  have LRa := Lib.hid (LR2.out.grown hg (fun e => by have := HP.out; injection e; omega))
  have RDa := Lib.hid hr
  have GBa := Lib.hid (grown_trans GB2.out hg)
  clear hr hg
  have LK3 := Lib.hid (LKa.out.put 2 (.bool ((n3 : Int) == 1)))
  have LR3 := Lib.hid (LRa.out.other (a := ⟨w.heap.size + 1, 2, none⟩) (Nat.ne_of_lt (Nat.lt_succ_self _)) (.bool ((n3 : Int) == 1)))
  have RD3 := Lib.hid (RDa.out.setq (q := w.heap.size + 1) (by have := HP.out; omega) 2 (.bool ((n3 : Int) == 1)))
  have GB3 := Lib.hid (grown_high GBa.out (Nat.le_succ w.heap.size) 2 (.bool ((n3 : Int) == 1)))
  obtain ⟨a2_0, a2_1, a2_2, a2_3, a2_4, a2_5⟩ := LKa.out.cells6
  obtain ⟨f3_0, f3_1, f3_2, f3_3, f3_4, f3_5⟩ := LKa.out.free6
  have LKb : Hid (Lies (w3.setCell ⟨w.heap.size + 1, 2, none⟩ (.bool ((n3 : Int) == 1))) (w.heap.size + 1) 34 #[.int .u32 (n1 : Int), .int .i64 (n2 : Int), .bool ((n3 : Int) == 1), .slice none 0 0, .int .i64 0, .slice none 0 0]) := LK3
  clear LK3 LKa LRa RDa GBa LK2 LR2 RD2 GB2
  have LK3 := LKb
  clear LKb
  go_wp2_with fail
  with_reducible refine (C2c.out _ RD3.out).mono ?_
  rintro x w4 ⟨rfl, hr, hg⟩
  have LKa := Lib.hid (LK3.out.grown hg (fun e => by have := HP.out; injection e; omega))
  have LRa := Lib.hid (LR3.out.grown hg (fun e => by have := HP.out; injection e; omega))
  have RDa := Lib.hid hr
  have GBa := Lib.hid (grown_trans GB3.out hg)
  clear hr hg
  have LK4 := Lib.hid (LKa.out.put 4 (.int .i64 (n4 : Int)))
  have LR4 := Lib.hid (LRa.out.other (a := ⟨w.heap.size + 1, 4, none⟩) (Nat.ne_of_lt (Nat.lt_succ_self _)) (.int .i64 (n4 : Int)))
  have RD4 := Lib.hid (RDa.out.setq (q := w.heap.size + 1) (by have := HP.out; omega) 4 (.int .i64 (n4 : Int)))
  have GB4 := Lib.hid (grown_high GBa.out (Nat.le_succ w.heap.size) 4 (.int .i64 (n4 : Int)))
  obtain ⟨a3_0, a3_1, a3_2, a3_3, a3_4, a3_5⟩ := LKa.out.cells6
  obtain ⟨f4_0, f4_1, f4_2, f4_3, f4_4, f4_5⟩ := LKa.out.free6
  have LKb : Hid (Lies (w4.setCell ⟨w.heap.size + 1, 4, none⟩ (.int .i64 (n4 : Int))) (w.heap.size + 1) 34 #[.int .u32 (n1 : Int), .int .i64 (n2 : Int), .bool ((n3 : Int) == 1), .slice none 0 0, .int .i64 (n4 : Int), .slice none 0 0]) := LK4
  clear LK4 LKa LRa RDa GBa LK3 LR3 RD3 GB3
  have LK4 := LKb
  clear LKb
  go_wp2_with fail
  with_reducible refine (C5a.out _ RD4.out).mono ?_
  rintro x w5 ⟨v5, rfl, ho, hr, hg⟩
  obtain ⟨A5, c5, rfl, -⟩ := ho.slice
  have OT5 := Lib.hid ho
  have SZ5 := Lib.hid GB4.out.size
  have LKa := Lib.hid (LK4.out.grown hg (fun e => by have := HP.out; injection e; omega))
  have LRa := Lib.hid (LR4.out.grown hg (fun e => by have := HP.out; injection e; omega))
  have RDa := Lib.hid hr
  have GBa := Lib.hid (grown_trans GB4.out hg)
  clear hr hg ho
  have LK5 := Lib.hid (LKa.out.put 3 (.slice A5 l5.length c5))
  have LR5 := Lib.hid (LRa.out.other (a := ⟨w.heap.size + 1, 3, none⟩) (Nat.ne_of_lt (Nat.lt_succ_self _)) (.slice A5 l5.length c5))
  have RD5 := Lib.hid (RDa.out.setq (q := w.heap.size + 1) (by have := HP.out; omega) 3 (.slice A5 l5.length c5))
  have GB5 := Lib.hid (grown_high GBa.out (Nat.le_succ w.heap.size) 3 (.slice A5 l5.length c5))
  have OT5b := Lib.hid (OT5.out.lies_put LKa.out (by decide) 3 (.slice A5 l5.length c5))
  obtain ⟨a4_0, a4_1, a4_2, a4_3, a4_4, a4_5⟩ := LKa.out.cells6
  obtain ⟨f5_0, f5_1, f5_2, f5_3, f5_4, f5_5⟩ := LKa.out.free6
  have LKb : Hid (Lies (w5.setCell ⟨w.heap.size + 1, 3, none⟩ (.slice A5 l5.length c5)) (w.heap.size + 1) 34 #[.int .u32 (n1 : Int), .int .i64 (n2 : Int), .bool ((n3 : Int) == 1), .slice A5 l5.length c5, .int .i64 (n4 : Int), .slice none 0 0]) := LK5
  clear LK5 LKa LRa RDa GBa LK4 LR4 RD4 GB4
  have LK5 := LKb
  clear LKb
  go_wp2_with fail
  with_reducible refine (C5b.out _ RD5.out).mono ?_
  rintro x w6 ⟨v6, rfl, ho, hr, hg⟩
  obtain ⟨A6, c6, rfl, -⟩ := ho.slice
  have OT6 := Lib.hid ho
  have SZ6 := Lib.hid GB5.out.size
  have LKa := Lib.hid (LK5.out.grown hg (fun e => by have := HP.out; injection e; omega))
  have LRa := Lib.hid (LR5.out.grown hg (fun e => by have := HP.out; injection e; omega))
  have OT5a := Lib.hid (OT5b.out.grownOther hg (fun g e1 e2 => RD5.out.own_ne OT5b.out g e1 e2))
  have HDJ : Hid (∀ g, (Value.slice A5 l5.length c5).ownBlock = some g → (Value.slice A6 l6.length c6).ownBlock ≠ some g) := Lib.hid (fun g e1 e2 => by have := OT6.out.block g e2; have := OT5b.out.lt g e1; omega)
  have RDa := Lib.hid hr
  have GBa := Lib.hid (grown_trans GB5.out hg)
  clear hr hg ho
  have LK6 := Lib.hid (LKa.out.put 5 (.slice A6 l6.length c6))
  have LR6 := Lib.hid (LRa.out.other (a := ⟨w.heap.size + 1, 5, none⟩) (Nat.ne_of_lt (Nat.lt_succ_self _)) (.slice A6 l6.length c6))
  have RD6 := Lib.hid (RDa.out.setq (q := w.heap.size + 1) (by have := HP.out; omega) 5 (.slice A6 l6.length c6))
  have GB6 := Lib.hid (grown_high GBa.out (Nat.le_succ w.heap.size) 5 (.slice A6 l6.length c6))
  have OT6b := Lib.hid (OT6.out.lies_put LKa.out (by decide) 5 (.slice A6 l6.length c6))
  have OT5c := Lib.hid (OT5a.out.lies_put LKa.out (by decide) 5 (.slice A6 l6.length c6))
  obtain ⟨a5_0, a5_1, a5_2, a5_3, a5_4, a5_5⟩ := LKa.out.cells6
  obtain ⟨f6_0, f6_1, f6_2, f6_3, f6_4, f6_5⟩ := LKa.out.free6
  have LKb : Hid (Lies (w6.setCell ⟨w.heap.size + 1, 5, none⟩ (.slice A6 l6.length c6)) (w.heap.size + 1) 34 #[.int .u32 (n1 : Int), .int .i64 (n2 : Int), .bool ((n3 : Int) == 1), .slice A5 l5.length c5, .int .i64 (n4 : Int), .slice A6 l6.length c6]) := LK6
  clear LK6 LKa LRa RDa GBa LK5 LR5 RD5 GB5
  have LK6 := LKb
  clear LKb
  go_upto_region 8 with fail
  obtain ⟨z6, hz6⟩ : ∃ z, z = w6.setCell ⟨w.heap.size + 1, 5, none⟩ (.slice A6 l6.length c6) := ⟨_, rfl⟩
  rw [← hz6]
  rw [← hz6] at LK6 LR6 RD6 GB6 OT5c OT6b
  clear hz6
  obtain ⟨k0, k1, k2, k3, k4, k5⟩ := LK6.out.cells6
  obtain ⟨z0, z1, z2, z3, z4, z5⟩ := LR6.out.cells6
  obtain ⟨g0, g1, g2, g3, g4, g5⟩ := LR6.out.free6
  go_wp2
  refine ret_kept w.heap.size 34 _ rfl rfl (LR6.out.put6 _ _ _ _ _ _) rfl rfl ⟨⟨⟨n1, (n2 : Int), ((n3 : Int) == 1), l5, (n4 : Int), l6⟩, .slice A5 l5.length c5, .slice A6 l6.length c6⟩, rfl, rfl, ?_, ?_, HDJ.out, ?_, ?_⟩
  · exact (Own.put6 OT5c.out LR6.out (by decide) _ _ _ _ _ _).mono SZ5.out
  · exact (Own.put6 OT6b.out LR6.out (by decide) _ _ _ _ _ _).mono SZ6.out
  · have h := HP.out
    exact (((((RD6.out.setq h 0 _).setq h 1 _).setq h 2 _).setq h 3 _).setq h 4 _).setq h 5 _
  · have h := Nat.le_refl w.heap.size
    exact grown_high (grown_high (grown_high (grown_high (grown_high (grown_high GB6.out h 0 _) h 1 _) h 2 _) h 3 _) h 4 _) h 5 _

end Go.Proofs.Ytfcfejmammohpaa
