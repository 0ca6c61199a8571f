/-
  The contracts of frame.Put and of what it calls: for every slice of bytes.
-/
import Derived.Test.YtaehagejmeimiaaField
namespace Go.Proofs.Ytaehagejmeimiaa
open Go.RowKit

set_option maxHeartbeats 400000 in
theorem wu16_any (p B n : Nat) (l : List Nat) (w : World) (hW : Wr w p B l) (hn : n < 65536) (hl : l.length ≤ 1000) :
    Calls Try.prog 28 #[.pointer (some ⟨p, 0, none⟩), .int .u16 n] w (WrPost w p B (l ++ Frm.be 2 n)) := by
  have HW := Lib.hid hW
  clear hW
  have c2 := wnumber_any p B n 2 l w HW.out (by omega) hl
  rw [show ((2 : Nat) : Int) = 2 from rfl] at c2
  have C2 := Lib.hid c2
  clear c2
  go_enter Try.func28, Try.ntmps28
  go_wp2_with fail
  with_reducible refine C2.out.mono ?_
  rintro e w2 ⟨rfl, hW2, hb2⟩
  go_wp2
  go_ret
  exact ⟨rfl, hW2, hb2⟩

set_option maxHeartbeats 400000 in
theorem wu32_any (p B n : Nat) (l : List Nat) (w : World) (hW : Wr w p B l) (hn : n < 4294967296) (hl : l.length ≤ 1000) :
    Calls Try.prog 29 #[.pointer (some ⟨p, 0, none⟩), .int .u32 n] w (WrPost w p B (l ++ Frm.be 4 n)) := by
  have HW := Lib.hid hW
  clear hW
  have c2 := wnumber_any p B n 4 l w HW.out (by omega) hl
  rw [show ((4 : Nat) : Int) = 4 from rfl] at c2
  have C2 := Lib.hid c2
  clear c2
  go_enter Try.func29, Try.ntmps29
  go_wp2_with fail
  with_reducible refine C2.out.mono ?_
  rintro e w2 ⟨rfl, hW2, hb2⟩
  go_wp2
  go_ret
  exact ⟨rfl, hW2, hb2⟩

def DonePost (w : World) (l : List Nat) (e : Ending) (w' : World) : Prop :=
  ∃ v, e = .returned (.tuple #[v, .int .i64 0]) ∧ Own w' w.heap.size v l ∧ Below w.heap.size w w'

set_option maxHeartbeats 400000 in
theorem wdone_any (p B : Nat) (l : List Nat) (w : World) (hW : Wr w p B l) (hl : l.length ≤ 1000) :
    Calls Try.prog 31 #[.pointer (some ⟨p, 0, none⟩)] w (DonePost w l) := by
  obtain ⟨_, v, hL, hO⟩ := hW
  obtain ⟨A, c, rfl, hB, _, _, _⟩ := hO.slice
  have hc0 := hL.cell 0
  have hc1 := hL.cell 1
  have HB := Lib.hid hB
  clear hL hO hB
  go_enter Try.func31, Try.ntmps31
  go_wp2_with fail
  with_reducible refine (fresh_any _ _ _ _ _ HB.out (by omega)).mono ?_
  rintro e w2 ⟨rfl, hO2, hb2⟩
  have HO2 := Lib.hid hO2
  clear hO2
  go_wp2
  go_ret2
  exact ⟨_, rfl, HO2.out, hb2⟩

theorem bys_be2 (w : World) (n : Nat) (fr : Nat × Nat) : Bys (w.alloc (.cells #[.int .u8 ((n : Int) / 256 % 256), .int .u8 ((n : Int) % 256)] 5 fr)) (some ⟨w.heap.size, 0, none⟩) 2 (Frm.be 2 n) :=
  Bys.const w _ (Frm.be 2 n) fr 2 (by rw [Frm.be_two]; simp) (Frm.be_len _ _) (Frm.be_small _ _)

set_option maxHeartbeats 400000 in
theorem checksum_any (a : Option Addr) (n cap : Nat) (l : List Nat) (w : World) (hB : Bys w a n l) (hn : n ≤ maxLen) :
    Calls Try.prog 30 #[.slice a n cap] w fun e w' => e = .returned (.int .u32 (Frm.chk l : Nat)) ∧ Below w.heap.size w w' := by
  have HB := Lib.hid hB
  have HN := Lib.hid hn
  clear hB
  unfold maxLen at hn
  go_enter Try.func30, Try.ntmps30
  go_wp2_with fail
  with_reducible refine (of_bytes _ _ _ _ _ (bys_be2 _ _ _) (small_len _ (by omega))).mono ?_
  rintro e w2 ⟨rfl, rfl⟩
  go_wp2_with fail
  with_reducible refine (more_any _ _ _ _ _ _ (Crc.crc_lt _ (Frm.be_small _ _)) (HB.out.alloc _) HN.out).mono ?_
  rintro e w3 ⟨rfl, rfl⟩
  go_wp2
  go_ret
  exact ⟨ret_int (by rw [Crc.more_crc, Frm.chk, HB.out.1]), (Below.refl _ _).alloc (Nat.le_refl _) _⟩

theorem size_yes (n : Nat) (w : World) (hn : n ≤ 2000) : Calls Try.prog 18 #[.int .i64 n] w fun e w' => e = .returned (.int .i64 (8 + n : Nat)) ∧ w = w' := by
  go_enter Try.func18, Try.ntmps18
  go_wp2
  go_ret
  exact ⟨ret_int (by omega), rfl⟩
theorem size_no (n : Int) (w : World) (hn : n < 0 ∨ 2000 < n) : Calls Try.prog 18 #[.int .i64 n] w fun e w' => e = .returned (.int .i64 0) ∧ w = w' := by
  rcases hn with hn | hn
  · go_enter Try.func18, Try.ntmps18
    go_wp2
    go_ret
    exact ⟨rfl, rfl⟩
  · have h0 : ¬ n < 0 := by omega
    go_enter Try.func18, Try.ntmps18
    go_wp2
    go_ret
    exact ⟨rfl, rfl⟩

set_option maxHeartbeats 400000 in
theorem put_long (a : Option Addr) (n cap : Nat) (w : World) (hn : 2000 < n) (hm : n ≤ maxLen) :
    Calls Try.prog 13 #[.slice a n cap] w fun e w' => e = .returned (.tuple #[.slice none 0 0, .int .i64 3]) ∧ w = w' := by
  unfold maxLen at hm
  go_enter Try.func13, Try.ntmps13
  go_wp2
  go_ret2
  exact ⟨rfl, rfl⟩

theorem Own.mono {w : World} {B B' : Nat} {v : Value} {l : List Nat} (h : Own w B v l) (hb : B' ≤ B) : Own w B' v l := by
  obtain ⟨⟨h0, h1⟩, h2⟩ := h
  refine ⟨⟨h0, ?_⟩, h2⟩
  rcases h1 with h1 | ⟨g, cap, cur, hv, hg, hr⟩
  · exact .inl h1
  · exact .inr ⟨g, cap, cur, hv, Nat.le_trans hb hg, hr⟩
theorem Wr.below {w w' : World} {p B : Nat} {l : List Nat} (h : Wr w p B l) (hb : Below w.heap.size w w') : Wr w' p B l := by
  obtain ⟨h1, v, h2, h3⟩ := h
  exact ⟨h1, v, h2.below hb h2.lt, h3.belowOwn hb⟩

set_option maxHeartbeats 400000 in
theorem put_any (a : Option Addr) (n cap : Nat) (l : List Nat) (w : World) (hB : Bys w a n l) (hA : a = none → cap = 0) (hn : n ≤ 2000) :
    Calls Try.prog 13 #[.slice a n cap] w (DonePost w (Frm.frm l)) := by
  have HB := Lib.hid hB
  have HA := Lib.hid hA
  have hlen := hB.1
  have HLEN := Lib.hid hlen
  clear hB hA hlen
  go_enter Try.func13, Try.ntmps13
  go_wp2_with fail
  with_reducible refine (newWriter_any _).mono ?_
  rintro e w1 ⟨rfl, hW1, hb1⟩
  have HW1 := Lib.hid hW1
  clear hW1
  go_wp2_with fail
  have c2 := wu16_any w.heap.size w.heap.size 55206 _ w1 HW1.out (by omega) (by simp)
  rw [show ((55206 : Nat) : Int) = 55206 from rfl] at c2
  with_reducible refine c2.mono ?_
  clear c2 HW1
  rintro e w2 ⟨rfl, hW2, hb2⟩
  have HW2 := Lib.hid hW2
  clear hW2
  go_wp2_with fail
  with_reducible refine (wu16_any _ _ _ _ _ HW2.out (by omega) (by simp [Frm.be_len])).mono ?_
  rintro e w3 ⟨rfl, hW3, hb3⟩
  have hb03 : Below w.heap.size w w3 := (hb1.trans (hb2.trans hb3))
  have HW3 := Lib.hid hW3
  have HB3 := Lib.hid (HB.out.below hb03)
  clear hW3 HW2
  go_wp2_with fail
  with_reducible refine (checksum_any _ _ _ _ _ HB3.out (small_len _ (by omega))).mono ?_
  rintro e w4 ⟨rfl, hb4⟩
  have HW4 := Lib.hid (HW3.out.below hb4)
  have hck := Frm.chk_lt l HB.out.2.1
  clear HW3
  go_wp2_with fail
  with_reducible refine (wu32_any _ _ _ _ _ HW4.out hck (by simp [Frm.be_len])).mono ?_
  rintro e w5 ⟨rfl, hW5, hb5⟩
  have hb05 : Below w.heap.size w w5 := (hb03.trans (hb4.mono hb03.size)).trans hb5
  have HW5 := Lib.hid hW5
  clear hW5 HW4
  go_wp2_with fail
  with_reducible refine (wdone_any _ _ _ _ HW5.out (by simp [Frm.be_len])).mono ?_
  rintro e w6 ⟨v, rfl, hO6, hb6⟩
  have hb06 : Below w.heap.size w w6 := hb05.trans (hb6.mono hb05.size)
  have HO6 := Lib.hid hO6
  have HB6 := Lib.hid (HB.out.below hb06)
  clear hO6
  go_wp2_with (first
    | ((with_reducible refine wpl_append (some 27) _ _ _ (.tmp 25) (.tmp 26) w5.heap.size v _ a n cap l ?hs ?hx HO6.out HB6.out HA.out ?hm hb6.size ?_); (case hs => rfl); (case hx => rfl); (case hm => (simp [Frm.be_len]; omega)); (intro v' w' ho hg hv)))
  go_ret2
  have hfr : Frm.frm l = ([] ++ Frm.be 2 55206 ++ Frm.be 2 n ++ Frm.be 4 (Frm.chk l)) ++ l := by
    rw [Frm.frm, Frm.head, HLEN.out, Frm.be_two 55206]; simp
  refine ⟨v', rfl, ?_, HO6.out.grows hg hb06 hb05.size hb06.size⟩
  rw [hfr]
  exact ho.mono hb05.size

end Go.Proofs.Ytaehagejmeimiaa
