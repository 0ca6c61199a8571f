/-
  The contracts of write: for each letter.
-/
import Derived.Test.YtjjkjppaiejajaaNChk
import Derived.Test.YtjjkjppaiejajaaWrite
import Derived.Deep.RegionHeld3
namespace Go.Proofs.Ytjjkjppaiejajaa
open Go.RowKit
attribute [local go_sem ↓] Go.wp_at_zero Go.wp_at_succ
set_option linter.unusedVariables false

theorem Wr.drew {w : World} {p B : Nat} {l : List Nat} (h : Wr w p B l) : Wr w.drew p B l := h
theorem Wr.size {w : World} {p B : Nat} {l : List Nat} (h : Wr w p B l) : B ≤ w.heap.size := by
  obtain ⟨h1, v, hL, _⟩ := h
  exact Nat.le_trans h1 (Nat.le_of_lt hL.lt)
def WritePost (w : World) (p B : Nat) (l : List Nat) (e : Ending) (w' : World) : Prop := e = .returned (.tuple #[]) ∧ Wr w' p B l ∧ Below B w w' ∧ Keep w w'
theorem flag_any (u : Bool) (w : World) : Calls Try.prog 46 #[.bool u] w fun x w' => x = .returned (.int .u8 (Ent.b2n u : Nat)) ∧ w = w' := by
  cases u
  · go_enter Try.func46, Try.ntmps46
    go_wp2
    go_ret
    exact ⟨rfl, rfl⟩
  · go_enter Try.func46, Try.ntmps46
    go_wp2
    go_ret
    exact ⟨rfl, rfl⟩

/-- A note's texts lie there, below B. -/
structure Txt (w : World) (B : Nat) (e : Note) (A1 A2 : Option Addr) (c1 c2 : Nat) : Prop where
  k : Bys w A1 e.key.length e.key
  kl : Low B A1 e.key.length
  ka : A1 = none → c1 = 0
  d : Bys w A2 e.data.length e.data
  dl : Low B A2 e.data.length
  da : A2 = none → c2 = 0
theorem Txt.below {w w' : World} {B : Nat} {e : Note} {A1 A2 : Option Addr} {c1 c2 : Nat} (h : Txt w B e A1 A2 c1 c2) (hb : Below B w w') : Txt w' B e A1 A2 c1 c2 :=
  ⟨h.k.belowB h.kl hb, h.kl, h.ka, h.d.belowB h.dl hb, h.dl, h.da⟩
theorem Low.mono {B B' : Nat} {A : Option Addr} {n : Nat} (h : Low B A n) (hb : B ≤ B') : Low B' A n := fun h0 => by
  obtain ⟨b, off, h1, h2⟩ := h h0
  exact ⟨b, off, h1, by omega⟩
theorem Txt.mono {w : World} {B B' : Nat} {e : Note} {A1 A2 : Option Addr} {c1 c2 : Nat} (h : Txt w B e A1 A2 c1 c2) (hb : B ≤ B') : Txt w B' e A1 A2 c1 c2 :=
  ⟨h.k, h.kl.mono hb, h.ka, h.d, h.dl.mono hb, h.da⟩

set_option maxRecDepth 100000 in
set_option maxHeartbeats 1000000 in
theorem write_69 (p B : Nat) (l : List Nat) (e : Note) (A1 A2 : Option Addr) (c1 c2 : Nat) (w : World) (hW : Wr w p B l) (hl : l.length ≤ 2000) (ho : e.epoch < 4294967296) :
    Calls Try.prog 29 #[.pointer (some ⟨p, 0, none⟩), .agg (evs e (.slice A1 e.key.length c1) (.slice A2 e.data.length c2)), .int .i32 69] w (WritePost w p B (l ++ Ent.be 4 e.epoch)) := by
  have hBw := hW.size
  have b0 := below1 w (.cells (evs e (.slice A1 e.key.length c1) (.slice A2 e.data.length c2)) 26)
  have HW0 := Lib.hid (hW.below b0)
  have BB0 := Lib.hid (b0.mono hBw)
  have KK0 := Lib.hid ((Keep.refl w).alloc (.cells (evs e (.slice A1 e.key.length c1) (.slice A2 e.data.length c2)) 26))
  have C := Lib.hid (wu32_any p B e.epoch l _ HW0.out ho hl)
  unfold WrPost at C
  generalize e.key.length = n1 at *
  generalize e.data.length = n2 at *
  clear b0 hW
  go_enter Try.func29, Try.ntmps29
  go_wp2_with fail
  with_reducible refine C.out.mono ?_
  rintro x w1 ⟨rfl, hW1, hb1, hk1⟩
  have HW1 := Lib.hid hW1
  clear hW1
  go_wp2
  go_end0
  exact ⟨rfl, HW1.out, BB0.out.trans hb1, KK0.out.trans hk1⟩

set_option maxRecDepth 100000 in
set_option maxHeartbeats 1000000 in
theorem write_80 (p B : Nat) (l : List Nat) (e : Note) (A1 A2 : Option Addr) (c1 c2 : Nat) (w : World) (hW : Wr w p B l) (hl : l.length ≤ 2000) (ho : e.old < 4294967296) :
    Calls Try.prog 29 #[.pointer (some ⟨p, 0, none⟩), .agg (evs e (.slice A1 e.key.length c1) (.slice A2 e.data.length c2)), .int .i32 80] w (WritePost w p B (l ++ Ent.be 4 e.old)) := by
  have hBw := hW.size
  have b0 := below1 w (.cells (evs e (.slice A1 e.key.length c1) (.slice A2 e.data.length c2)) 26)
  have HW0 := Lib.hid (hW.below b0)
  have BB0 := Lib.hid (b0.mono hBw)
  have KK0 := Lib.hid ((Keep.refl w).alloc (.cells (evs e (.slice A1 e.key.length c1) (.slice A2 e.data.length c2)) 26))
  have C := Lib.hid (wu32_any p B e.old l _ HW0.out ho hl)
  unfold WrPost at C
  generalize e.key.length = n1 at *
  generalize e.data.length = n2 at *
  clear b0 hW
  go_enter Try.func29, Try.ntmps29
  go_wp2_with fail
  with_reducible refine C.out.mono ?_
  rintro x w1 ⟨rfl, hW1, hb1, hk1⟩
  have HW1 := Lib.hid hW1
  clear hW1
  go_wp2
  go_end0
  exact ⟨rfl, HW1.out, BB0.out.trans hb1, KK0.out.trans hk1⟩

set_option maxRecDepth 100000 in
set_option maxHeartbeats 1000000 in
theorem write_76 (p B : Nat) (l : List Nat) (e : Note) (A1 A2 : Option Addr) (c1 c2 : Nat) (w : World) (hW : Wr w p B l) (hl : l.length ≤ 2000) :
    Calls Try.prog 29 #[.pointer (some ⟨p, 0, none⟩), .agg (evs e (.slice A1 e.key.length c1) (.slice A2 e.data.length c2)), .int .i32 76] w (WritePost w p B (l ++ Ent.be 8 e.lsn)) := by
  have hBw := hW.size
  have b0 := below1 w (.cells (evs e (.slice A1 e.key.length c1) (.slice A2 e.data.length c2)) 26)
  have HW0 := Lib.hid (hW.below b0)
  have BB0 := Lib.hid (b0.mono hBw)
  have KK0 := Lib.hid ((Keep.refl w).alloc (.cells (evs e (.slice A1 e.key.length c1) (.slice A2 e.data.length c2)) 26))
  have C := Lib.hid (wu64_any p B e.lsn l _ HW0.out hl)
  unfold WrPost at C
  generalize e.key.length = n1 at *
  generalize e.data.length = n2 at *
  clear b0 hW
  go_enter Try.func29, Try.ntmps29
  go_wp2_with fail
  with_reducible refine C.out.mono ?_
  rintro x w1 ⟨rfl, hW1, hb1, hk1⟩
  have HW1 := Lib.hid hW1
  clear hW1
  go_wp2
  go_end0
  exact ⟨rfl, HW1.out, BB0.out.trans hb1, KK0.out.trans hk1⟩

set_option maxRecDepth 100000 in
set_option maxHeartbeats 1000000 in
theorem write_84 (p B : Nat) (l : List Nat) (e : Note) (A1 A2 : Option Addr) (c1 c2 : Nat) (w : World) (hW : Wr w p B l) (hl : l.length ≤ 2000) :
    Calls Try.prog 29 #[.pointer (some ⟨p, 0, none⟩), .agg (evs e (.slice A1 e.key.length c1) (.slice A2 e.data.length c2)), .int .i32 84] w (WritePost w p B (l ++ Ent.be 8 e.tick)) := by
  have hBw := hW.size
  have b0 := below1 w (.cells (evs e (.slice A1 e.key.length c1) (.slice A2 e.data.length c2)) 26)
  have HW0 := Lib.hid (hW.below b0)
  have BB0 := Lib.hid (b0.mono hBw)
  have KK0 := Lib.hid ((Keep.refl w).alloc (.cells (evs e (.slice A1 e.key.length c1) (.slice A2 e.data.length c2)) 26))
  have C := Lib.hid (wu64_any p B e.tick l _ HW0.out hl)
  unfold WrPost at C
  generalize e.key.length = n1 at *
  generalize e.data.length = n2 at *
  clear b0 hW
  go_enter Try.func29, Try.ntmps29
  go_wp2_with fail
  with_reducible refine C.out.mono ?_
  rintro x w1 ⟨rfl, hW1, hb1, hk1⟩
  have HW1 := Lib.hid hW1
  clear hW1
  go_wp2
  go_end0
  exact ⟨rfl, HW1.out, BB0.out.trans hb1, KK0.out.trans hk1⟩

set_option maxRecDepth 100000 in
set_option maxHeartbeats 1000000 in
theorem write_79 (p B : Nat) (l : List Nat) (e : Note) (A1 A2 : Option Addr) (c1 c2 : Nat) (w : World) (hW : Wr w p B l) (hl : l.length ≤ 2000) (ho : e.order < 4294967296) :
    Calls Try.prog 29 #[.pointer (some ⟨p, 0, none⟩), .agg (evs e (.slice A1 e.key.length c1) (.slice A2 e.data.length c2)), .int .i32 79] w (WritePost w p B (l ++ Ent.be 4 e.order)) := by
  have hBw := hW.size
  have b0 := below1 w (.cells (evs e (.slice A1 e.key.length c1) (.slice A2 e.data.length c2)) 26)
  have HW0 := Lib.hid (hW.below b0)
  have BB0 := Lib.hid (b0.mono hBw)
  have KK0 := Lib.hid ((Keep.refl w).alloc (.cells (evs e (.slice A1 e.key.length c1) (.slice A2 e.data.length c2)) 26))
  have C := Lib.hid (wu32_any p B e.order l _ HW0.out ho hl)
  unfold WrPost at C
  generalize e.key.length = n1 at *
  generalize e.data.length = n2 at *
  clear b0 hW
  go_enter Try.func29, Try.ntmps29
  go_wp2_with fail
  with_reducible refine C.out.mono ?_
  rintro x w1 ⟨rfl, hW1, hb1, hk1⟩
  have HW1 := Lib.hid hW1
  clear hW1
  go_wp2
  go_end0
  exact ⟨rfl, HW1.out, BB0.out.trans hb1, KK0.out.trans hk1⟩

set_option maxRecDepth 100000 in
set_option maxHeartbeats 1000000 in
theorem write_83 (p B : Nat) (l : List Nat) (e : Note) (A1 A2 : Option Addr) (c1 c2 : Nat) (w : World) (hW : Wr w p B l) (hl : l.length ≤ 2000) (q : Nat) (hq : e.step = (q : Int)) (hq2 : q < 256) :
    Calls Try.prog 29 #[.pointer (some ⟨p, 0, none⟩), .agg (evs e (.slice A1 e.key.length c1) (.slice A2 e.data.length c2)), .int .i32 83] w (WritePost w p B (l ++ Ent.be 1 q)) := by
  have hBw := hW.size
  have b0 := below1 w (.cells (evs e (.slice A1 e.key.length c1) (.slice A2 e.data.length c2)) 26)
  have HW0 := Lib.hid (hW.below b0)
  have BB0 := Lib.hid (b0.mono hBw)
  have KK0 := Lib.hid ((Keep.refl w).alloc (.cells (evs e (.slice A1 e.key.length c1) (.slice A2 e.data.length c2)) 26))
  have C := Lib.hid (wu8_any p B q l _ HW0.out hq2 hl)
  have hx := wrap_u8 q hq2
  unfold evs at *
  rw [hq] at C HW0 BB0 KK0 ⊢
  unfold WrPost at C
  generalize e.key.length = n1 at *
  generalize e.data.length = n2 at *
  clear b0 hW
  go_enter Try.func29, Try.ntmps29
  go_wp2_with fail
  with_reducible refine C.out.mono ?_
  rintro x w1 ⟨rfl, hW1, hb1, hk1⟩
  have HW1 := Lib.hid hW1
  clear hW1
  go_wp2
  go_end0
  exact ⟨rfl, HW1.out, BB0.out.trans hb1, KK0.out.trans hk1⟩

set_option maxRecDepth 100000 in
set_option maxHeartbeats 1000000 in
theorem write_85 (p B : Nat) (l : List Nat) (e : Note) (A1 A2 : Option Addr) (c1 c2 : Nat) (w : World) (hW : Wr w p B l) (hl : l.length ≤ 2000) :
    Calls Try.prog 29 #[.pointer (some ⟨p, 0, none⟩), .agg (evs e (.slice A1 e.key.length c1) (.slice A2 e.data.length c2)), .int .i32 85] w (WritePost w p B (l ++ Ent.be 1 (Ent.b2n e.undo))) := by
  have hBw := hW.size
  have b0 := below1 w (.cells (evs e (.slice A1 e.key.length c1) (.slice A2 e.data.length c2)) 26)
  have HW0 := Lib.hid (hW.below b0)
  have BB0 := Lib.hid (b0.mono hBw)
  have KK0 := Lib.hid ((Keep.refl w).alloc (.cells (evs e (.slice A1 e.key.length c1) (.slice A2 e.data.length c2)) 26))
  have C := Lib.hid (wu8_any p B (Ent.b2n e.undo) l _ HW0.out (by unfold Ent.b2n; split <;> decide) hl)
  unfold WrPost at C
  generalize e.key.length = n1 at *
  generalize e.data.length = n2 at *
  clear b0 hW
  go_enter Try.func29, Try.ntmps29
  go_wp2_with fail
  with_reducible refine (flag_any _ _).mono ?_
  rintro x w0 ⟨rfl, rfl⟩
  go_wp2_with fail
  with_reducible refine C.out.mono ?_
  rintro x w1 ⟨rfl, hW1, hb1, hk1⟩
  have HW1 := Lib.hid hW1
  clear hW1
  go_wp2
  go_end0
  exact ⟨rfl, HW1.out, BB0.out.trans hb1, KK0.out.trans hk1⟩

set_option maxRecDepth 100000 in
set_option maxHeartbeats 1000000 in
theorem write_67 (p B : Nat) (l : List Nat) (e : Note) (A1 A2 : Option Addr) (c1 c2 : Nat) (w : World) (hW : Wr w p B l) (hl : l.length ≤ 2000) (q : Nat) (hq : e.code = (q : Int)) (hq2 : q < 256) :
    Calls Try.prog 29 #[.pointer (some ⟨p, 0, none⟩), .agg (evs e (.slice A1 e.key.length c1) (.slice A2 e.data.length c2)), .int .i32 67] w (WritePost w p B (l ++ Ent.be 1 q)) := by
  have hBw := hW.size
  have b0 := below1 w (.cells (evs e (.slice A1 e.key.length c1) (.slice A2 e.data.length c2)) 26)
  have HW0 := Lib.hid (hW.below b0)
  have BB0 := Lib.hid (b0.mono hBw)
  have KK0 := Lib.hid ((Keep.refl w).alloc (.cells (evs e (.slice A1 e.key.length c1) (.slice A2 e.data.length c2)) 26))
  have C := Lib.hid (wu8_any p B q l _ HW0.out hq2 hl)
  have hx := wrap_u8 q hq2
  unfold evs at *
  rw [hq] at C HW0 BB0 KK0 ⊢
  unfold WrPost at C
  generalize e.key.length = n1 at *
  generalize e.data.length = n2 at *
  clear b0 hW
  go_enter Try.func29, Try.ntmps29
  go_wp2_with fail
  with_reducible refine C.out.mono ?_
  rintro x w1 ⟨rfl, hW1, hb1, hk1⟩
  have HW1 := Lib.hid hW1
  clear hW1
  go_wp2
  go_end0
  exact ⟨rfl, HW1.out, BB0.out.trans hb1, KK0.out.trans hk1⟩

set_option maxRecDepth 100000 in
set_option maxHeartbeats 1000000 in
theorem write_75 (p B : Nat) (l : List Nat) (e : Note) (A1 A2 : Option Addr) (c1 c2 : Nat) (w : World) (hW : Wr w p B l) (hl : l.length ≤ 2000) (hK : Bys w A1 e.key.length e.key) (hKl : Low B A1 e.key.length) (hKA : A1 = none → c1 = 0) (hK1 : e.key.length ≤ 255) :
    Calls Try.prog 29 #[.pointer (some ⟨p, 0, none⟩), .agg (evs e (.slice A1 e.key.length c1) (.slice A2 e.data.length c2)), .int .i32 75] w (WritePost w p B (l ++ Ent.txt e.key)) := by
  have hBw := hW.size
  have b0 := below1 w (.cells (evs e (.slice A1 e.key.length c1) (.slice A2 e.data.length c2)) 26)
  have HW0 := Lib.hid (hW.below b0)
  have BB0 := Lib.hid (b0.mono hBw)
  have KK0 := Lib.hid ((Keep.refl w).alloc (.cells (evs e (.slice A1 e.key.length c1) (.slice A2 e.data.length c2)) 26))
  have C := Lib.hid (wtext_any p B l e.key A1 e.key.length c1 _ HW0.out (hK.alloc _) hKl hKA hK1 hl)
  unfold WrPost at C
  have hf := Lib.hid hK
  clear hK hKl hKA
  generalize e.key.length = n1 at *
  generalize e.data.length = n2 at *
  clear b0 hW
  go_enter Try.func29, Try.ntmps29
  go_wp2_with fail
  with_reducible refine C.out.mono ?_
  rintro x w1 ⟨rfl, hW1, hb1, hk1⟩
  have HW1 := Lib.hid hW1
  clear hW1
  go_wp2
  go_end0
  exact ⟨rfl, HW1.out, BB0.out.trans hb1, KK0.out.trans hk1⟩

set_option maxRecDepth 100000 in
set_option maxHeartbeats 1000000 in
theorem write_68 (p B : Nat) (l : List Nat) (e : Note) (A1 A2 : Option Addr) (c1 c2 : Nat) (w : World) (hW : Wr w p B l) (hl : l.length ≤ 2000) (hK : Bys w A2 e.data.length e.data) (hKl : Low B A2 e.data.length) (hKA : A2 = none → c2 = 0) (hK1 : e.data.length ≤ 255) :
    Calls Try.prog 29 #[.pointer (some ⟨p, 0, none⟩), .agg (evs e (.slice A1 e.key.length c1) (.slice A2 e.data.length c2)), .int .i32 68] w (WritePost w p B (l ++ Ent.txt e.data)) := by
  have hBw := hW.size
  have b0 := below1 w (.cells (evs e (.slice A1 e.key.length c1) (.slice A2 e.data.length c2)) 26)
  have HW0 := Lib.hid (hW.below b0)
  have BB0 := Lib.hid (b0.mono hBw)
  have KK0 := Lib.hid ((Keep.refl w).alloc (.cells (evs e (.slice A1 e.key.length c1) (.slice A2 e.data.length c2)) 26))
  have C := Lib.hid (wtext_any p B l e.data A2 e.data.length c2 _ HW0.out (hK.alloc _) hKl hKA hK1 hl)
  unfold WrPost at C
  have hf := Lib.hid hK
  clear hK hKl hKA
  generalize e.key.length = n1 at *
  generalize e.data.length = n2 at *
  clear b0 hW
  go_enter Try.func29, Try.ntmps29
  go_wp2_with fail
  with_reducible refine C.out.mono ?_
  rintro x w1 ⟨rfl, hW1, hb1, hk1⟩
  have HW1 := Lib.hid hW1
  clear hW1
  go_wp2
  go_end0
  exact ⟨rfl, HW1.out, BB0.out.trans hb1, KK0.out.trans hk1⟩

theorem write_any (p B : Nat) (l : List Nat) (e : Note) (A1 A2 : Option Addr) (c1 c2 : Nat) (c : Nat) (hc : c ∈ Ent.alpha) (w : World) (hW : Wr w p B l) (hl : l.length ≤ 2000) (hb : Ent.Bnd e) (hi : Ent.inB e = true) (hT : Txt w B e A1 A2 c1 c2) :
    Calls Try.prog 29 #[.pointer (some ⟨p, 0, none⟩), .agg (evs e (.slice A1 e.key.length c1) (.slice A2 e.data.length c2)), .int .i32 (c : Nat)] w (WritePost w p B (l ++ Ent.encL e c)) := by
  have hi := (Ent.inB_iff e).1 hi
  rcases Ent.alpha_cases hc with rfl | rfl | rfl | rfl | rfl | rfl | rfl | rfl | rfl | rfl
  · exact write_69 p B l e A1 A2 c1 c2 w hW hl hb.epoch
  · exact write_80 p B l e A1 A2 c1 c2 w hW hl hb.old
  · exact write_76 p B l e A1 A2 c1 c2 w hW hl
  · exact write_84 p B l e A1 A2 c1 c2 w hW hl
  · exact write_79 p B l e A1 A2 c1 c2 w hW hl hb.order
  · exact write_83 p B l e A1 A2 c1 c2 w hW hl e.step.toNat (by omega) (by omega)
  · exact write_85 p B l e A1 A2 c1 c2 w hW hl
  · exact write_67 p B l e A1 A2 c1 c2 w hW hl e.code.toNat (by omega) (by omega)
  · exact write_75 p B l e A1 A2 c1 c2 w hW hl hT.k hT.kl hT.ka (by omega)
  · exact write_68 p B l e A1 A2 c1 c2 w hW hl hT.d hT.dl hT.da (by omega)

end Go.Proofs.Ytjjkjppaiejajaa
