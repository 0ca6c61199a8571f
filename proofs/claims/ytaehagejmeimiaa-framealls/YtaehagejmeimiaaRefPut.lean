/-
  The contract of the document's own Put: for every slice of bytes.
-/
import Derived.Test.YtaehagejmeimiaaRef
namespace Go.Proofs.Ytaehagejmeimiaa
open Go.RowKit

theorem Own.grownOther {w w' : World} {B : Nat} {u : Value} {l : List Nat} {r : Option Nat} (h : Own w B u l) (hg : w.grownBy w' r) (hne : ∀ g, u.ownBlock = some g → r ≠ some g) : Own w' B u l := by
  obtain ⟨⟨h0, h1⟩, h2⟩ := h
  refine ⟨⟨h0, ?_⟩, h2⟩
  rcases h1 with h1 | ⟨g, cap, cur, hv, hg0, hh, hrr⟩
  · exact .inl h1
  · exact .inr ⟨g, cap, cur, hv, hg0, Lies.grown (t := 5) hh hg (fun e => hne g (by rw [hv]; rfl) e.symm), hrr⟩

theorem own_mark (w : World) (B : Nat) (hB : B ≤ w.heap.size) : Own (w.alloc (.cells #[.int .u8 215, .int .u8 166] 5)) B (.slice (some ⟨w.heap.size, 0, none⟩) 2 2) [215, 166] :=
  Own.made (l := [215, 166]) (Lies.made w 5 _) hB (by decide) (by unfold maxLen; simp)

set_option maxHeartbeats 400000 in
theorem refPut_long (a : Option Addr) (n cap : Nat) (w : World) (hn : 2000 < n) (hm : n ≤ maxLen) :
    Calls Try.prog 16 #[.slice a n cap] w fun e w' => e = .returned (.tuple #[.slice none 0 0, .int .i64 3]) ∧ w = w' := by
  unfold maxLen at hm
  go_enter Try.func16, Try.ntmps16
  go_wp2
  go_ret2
  exact ⟨rfl, rfl⟩

set_option maxHeartbeats 1000000 in
theorem refPut_any (a : Option Addr) (n cap : Nat) (l : List Nat) (w : World) (hB : Bys w a n l) (hA : a = none → cap = 0) (hn : n ≤ 2000) :
    Calls Try.prog 16 #[.slice a n cap] w (DonePost w (Frm.frm l)) := by
  have HB := Lib.hid hB
  have HA := Lib.hid hA
  have hlen := hB.1
  have HLEN := Lib.hid hlen
  have hck := Frm.chk_lt l hB.2.1
  clear hB hA hlen
  have c2 := num_any n 2 w (by omega) (by omega)
  rw [show ((2 : Nat) : Int) = 2 from rfl] at c2
  have C2 := Lib.hid c2
  clear c2
  go_enter Try.func16, Try.ntmps16
  go_wp2_with fail
  with_reducible refine C2.out.mono ?_
  rintro e w1 ⟨v1, rfl, hO1, hb1⟩
  obtain ⟨A1, c1, rfl, hB1, hc1, hm1, hA1⟩ := hO1.slice
  rw [Frm.be_len] at hO1 hB1 hc1 ⊢
  have hlt1 := hO1.lt
  have HO1 := Lib.hid hO1
  have HB1 := Lib.hid hB1
  have HA1 := Lib.hid hA1
  have HLT1 := Lib.hid hlt1
  clear hO1 hB1 hA1 hlt1
  have e8 : ([215, 166] ++ Frm.be 2 n).length = 4 := by simp [Frm.be_len]
  have e9 : (Frm.be 2 n ++ l).length = n + 2 := by rw [List.length_append, Frm.be_len, HLEN.out]; omega
  have E8 := Lib.hid e8
  have E9 := Lib.hid e9
  clear e8 e9
  go_wp2_with (first
    | ((with_reducible refine wpl_append (some 17) _ _ _ (.tmp 15) (.tmp 16) w1.heap.size _ [215, 166] A1 2 c1 (Frm.be 2 n) ?hs ?hx (own_mark _ _ (Nat.le_refl _)) (HB1.out.alloc _) HA1.out ?hm ?hz ?_); (case hs => rfl); (case hx => rfl); (case hm => simp); (case hz => simp); (intro v2 w2 ho2 hg2 hv2); (have hb12 := (own_mark w1 w1.heap.size (Nat.le_refl _)).grows hg2 ((Below.refl _ _).alloc (Nat.le_refl _) _) (Nat.le_refl _) (by simp)); (have hb02 := hb1.trans (hb12.mono hb1.size)); (have HO2 := Lib.hid ho2); (have HO12 := Lib.hid (HO1.out.belowOwn hb12)); (have HBl2 := Lib.hid (HB.out.below hb02)); (clear ho2 hg2 hv2))
    | ((with_reducible refine wpl_append (some 20) _ _ _ (.tmp 18) (.tmp 19) w.heap.size _ (Frm.be 2 n) a n cap l ?hs ?hx HO12.out HBl2.out HA.out ?hm hb02.size ?_); (case hs => rfl); (case hx => rfl); (case hm => (rw [Frm.be_len]; omega)); (intro v3 w3 ho3 hg3 hv3); (have hb03 := HO12.out.grows hg3 hb02 (Nat.le_refl _) hb02.size); (have HO23 := Lib.hid (HO2.out.grownOther hg3 (fun g hg e => by have h1 := HLT1.out g e; have h2 := HO2.out.block g hg; omega))); (obtain ⟨A3, c3, rfl, hB3, hc3, hm3, hz3⟩ := ho3.slice); (rw [E9.out] at hB3 hc3 ⊢); (have HB3 := Lib.hid hB3); (have hs23 := hg3.size); (clear ho3 hg3 hv3 hB3)))
  with_reducible refine (refOf_any _ _ _ _ _ HB3.out (by omega)).mono ?_
  rintro e w4 ⟨rfl, hb4⟩
  rw [show Crc.crc (Frm.be 2 n ++ l) = Frm.chk l from by rw [Frm.chk, HLEN.out]]
  have hb04 := hb03.trans (hb4.mono hb03.size)
  have HO24 := Lib.hid (HO23.out.belowOwn hb4)
  generalize hs : Frm.chk l = s at *
  have HS := Lib.hid hs
  clear hs
  have c4 := num_any s 4 w4 (by omega) (by omega)
  rw [show ((4 : Nat) : Int) = 4 from rfl] at c4
  have C4 := Lib.hid c4
  clear c4
  go_wp2_with fail
  with_reducible refine C4.out.mono ?_
  rintro e w5 ⟨v5, rfl, hO5, hb5⟩
  obtain ⟨A5, c5, rfl, hB5, hc5, hm5, hA5⟩ := hO5.slice
  rw [Frm.be_len] at hB5 hc5 ⊢
  have hb05 := hb04.trans (hb5.mono hb04.size)
  have HB5 := Lib.hid hB5
  have HA5 := Lib.hid hA5
  have HO25 := Lib.hid (HO24.out.belowOwn hb5)
  clear hO5 hB5 hA5
  have hw15 : w1.heap.size ≤ w5.heap.size := Nat.le_trans hb12.size (Nat.le_trans hs23 (Nat.le_trans hb4.size hb5.size))
  go_wp2_with (first
    | ((with_reducible refine wpl_append (some 27) _ _ _ (.tmp 25) (.tmp 26) w1.heap.size _ ([215, 166] ++ Frm.be 2 n) A5 4 c5 (Frm.be 4 s) ?hs ?hx HO25.out HB5.out HA5.out ?hm hw15 ?_); (case hs => rfl); (case hx => rfl); (case hm => (rw [E8.out]; omega)); (intro v6 w6 ho6 hg6 hv6); (have hb06 := HO25.out.grows hg6 hb05 hb1.size hb05.size); (have HO6 := Lib.hid ho6); (have HBl6 := Lib.hid (HB.out.below hb06)); (have hw16 := Nat.le_trans hw15 hg6.size); (clear ho6 hg6 hv6))
    | ((with_reducible refine wpl_append (some 30) _ _ _ (.tmp 28) (.tmp 29) w1.heap.size _ ([215, 166] ++ Frm.be 2 n ++ Frm.be 4 s) a n cap l ?hs ?hx HO6.out HBl6.out HA.out ?hm hw16 ?_); (case hs => rfl); (case hx => rfl); (case hm => (rw [List.length_append, E8.out, Frm.be_len]; omega)); (intro v7 w7 ho7 hg7 hv7); (have hb07 := HO6.out.grows hg7 hb06 hb1.size hb06.size)))
  go_ret2
  have hfr : Frm.frm l = ([215, 166] ++ Frm.be 2 n ++ Frm.be 4 s) ++ l := by
    rw [Frm.frm, Frm.head, HLEN.out, HS.out]; simp
  refine ⟨v7, rfl, ?_, hb07⟩
  rw [hfr]
  exact ho7.mono hb1.size

end Go.Proofs.Ytaehagejmeimiaa
