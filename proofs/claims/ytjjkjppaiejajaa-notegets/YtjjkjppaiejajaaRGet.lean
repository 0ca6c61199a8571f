/-
  The contract of the document's Get: for every slice of bytes; and both Gets' answers in one form.
-/
import Derived.Test.YtjjkjppaiejajaaRfRd
import Derived.Test.YtjjkjppaiejajaaRPut
import Derived.Test.YtjjkjppaiejajaaNGet
namespace Go.Proofs.Ytjjkjppaiejajaa
open Go.RowKit
set_option linter.unusedVariables false

abbrev zc : Array Value := #[.int .i64 0, .int .u32 0, .int .u32 0, .int .u64 0, .int .u64 0, .int .u32 0, .int .i64 0, .bool false, .int .i64 0, .slice none 0 0, .slice none 0 0]
def fpos : Nat → Bool := fun n => decide (0 < n)
/-- What the document's Get answers. -/
def RGetPost (l : List Nat) (w : World) (x : Ending) (w' : World) : Prop :=
  Below w.heap.size w w' ∧
  ((∃ e K D, Ent.get fpos l = some e ∧ x = .returned (.tuple #[.agg (evs e K D), .int .i64 0]) ∧ Tx w' w.heap.size K e.key ∧ Tx w' w.heap.size D e.data) ∨
   (Ent.get fpos l = none ∧ x = .returned (.tuple #[.agg (evs Ent.zero nilV nilV), .int .i64 50])))
theorem Tx.puts {w : World} {B : Nat} {v : Value} {l : List Nat} {b : Nat} (h : Tx w B v l) (hb : b < B) (vs : List Value) (o : Nat) : Tx (w.setCells b o vs) B v l := by
  induction vs generalizing w o with
  | nil => exact h
  | cons u r ih => exact ih (h.put (o := o) hb u) (o + 1)
theorem EntV.tx {w : World} {B : Nat} {e : Note} {K D : Value} (hK : Tx w B K e.key) (hD : Tx w B D e.data) (hb : Ent.Bnd e) : ∃ A1 A2 c1 c2, K = .slice A1 e.key.length c1 ∧ D = .slice A2 e.data.length c2 ∧ EntV w e A1 A2 c1 c2 := by
  obtain ⟨A1, c1, h1, h2, h3, h4, h5, _⟩ := hK
  obtain ⟨A2, c2, k1, k2, k3, k4, k5, _⟩ := hD
  exact ⟨A1, A2, c1, c2, h1, k1, h2, h3, h4, h5, k2, k3, k4, k5, hb⟩

/-- A note lies at q, its texts behind it, the document's reader is at its place. -/
def NoteRf (w : World) (p q : Nat) (l : List Nat) (x : Note × Ent.St) : Prop :=
  ∃ K D, Lies w q 26 (evs x.1 K D) ∧ Tx w (q + 1) K x.1.key ∧ Tx w (q + 1) D x.1.data ∧ Rf w p x.2 l
theorem rf_close {w w1 : World} {p q i : Nat} {l : List Nat} {s1 : Ent.St} {e e' : Note} {K D K' D' v : Value} (hR1 : Rf w1 p s1 l) (hg1 : w.grownBy w1 (some p)) (hE : Lies w q 26 (evs e K D)) (hpq : p < q)
    (hput : (evs e K D).setIfInBounds i v = evs e' K' D') (hK : Tx w1 (q + 1) K' e'.key) (hD : Tx w1 (q + 1) D' e'.data) :
    NoteRf (w1.setCell ⟨q, i, none⟩ v) p q l (e', s1) ∧ Still p q w (w1.setCell ⟨q, i, none⟩ v) := by
  have hL := hE.grown hg1 (fun h => by injection h; omega)
  refine ⟨⟨K', D', ?_, hK.put (by omega) v, hD.put (by omega) v, hR1.setq hpq i v⟩, Still.of hg1 v⟩
  show Lies _ q 26 (evs e' K' D')
  rw [← hput]
  exact hL.put i v
def GfR (w : World) (p q n : Nat) (l s : List Nat) (x0 : Note × Ent.St) (i : Value) (wr : World) : Prop :=
  ∃ j : Nat, j ≤ n ∧ i = .int .i64 (j : Nat) ∧ NoteRf wr p q l (Ent.rds fpos l (s.take j) x0) ∧ Lies wr w.heap.size 26 (evs Ent.zero nilV nilV) ∧ Below w.heap.size w wr

set_option maxRecDepth 100000 in
set_option maxHeartbeats 8000000 in
theorem refGet_any (a : Option Addr) (n0 cap : Nat) (l : List Nat) (w : World) (hB : Bys w a n0 l) (hn : n0 ≤ 100000) (hnc : n0 ≤ cap) (hcm : cap ≤ maxLen) :
    Calls Try.prog 23 #[.slice a n0 cap] w (RGetPost l w) := by
  have hlen := hB.1
  have hl : l.length ≤ 100000 := by omega
  have hsm := hB.2.1
  obtain ⟨k1, s1, h1⟩ : ∃ x s, Ent.rnum l 1 (0, false) = (x, s) := ⟨_, _, rfl⟩
  have hk1 : k1 < 256 := by have := Ent.rnum_lt l hsm 1 (0, false); rw [h1] at this; exact this
  have hrd : Ent.rd fpos l = (Ent.rds fpos l (Ent.lets (k1 : Nat)) (Ent.bare (k1 : Nat), s1)).1 := by unfold Ent.rd; rw [h1]
  have hbnd := Ent.rd_bnd fpos l hsm
  have cnm := fun W => rnames_any ((k1 : Nat) : Int) W
  unfold RNamesPost at cnm
  have HSUB := Lib.hid (Ent.lets_sub (k1 : Nat))
  have hsz := str_size (Ent.lets (k1 : Nat))
  have HGET0 := Lib.hid (str_get (Ent.lets (k1 : Nat)) (fun c hc => Ent.alpha_small c (Ent.lets_sub _ c hc)))
  have hn6 := Ent.lets_len (k1 : Nat)
  generalize str (Ent.lets (k1 : Nat)) = S at *
  generalize Ent.lets (k1 : Nat) = s at *
  generalize hn9 : s.length = n at *
  have HN := Lib.hid hn9
  have CN := Lib.hid cnm
  have HB := Lib.hid hB
  have HRD := Lib.hid hrd
  have HBND := Lib.hid hbnd
  have HLEN := Lib.hid hlen
  have HSM := Lib.hid hsm
  have hR0 : Rf ((w.alloc (.cells zc 26)).alloc (.cells #[.slice a n0 cap, .int .i64 0, .bool false] 73)) (w.heap.size + 1) (0, false) l := by
    refine ⟨a, cap, ?_, by rw [hlen]; exact (hB.alloc _).alloc _, ?_, Nat.zero_le _, by omega, hcm⟩
    · rw [hlen]; exact Lies.made2 w _ 73 _
    · intro h0 ad e
      obtain ⟨b, off, e2, hc⟩ := hB.2.2 (by omega)
      have := block_lt_of_cell (hc 0 (by omega))
      rw [e2] at e; injection e with e; subst e; show b < _; simp at this; omega
  have BB0 := Lib.hid (below2 w (.cells zc 26) (.cells #[.slice a n0 cap, .int .i64 0, .bool false] 73))
  have Z0 := Lib.hid ((Lies.made w 26 zc).alloc (.cells #[.slice a n0 cap, .int .i64 0, .bool false] 73))
  have cc := rfnum_any (w.heap.size + 1) 1 (0, false) l _ hR0 (by omega) (by omega) hl
  unfold RfnPost at cc
  rw [h1] at cc
  simp only at cc
  rw [show ((1 : Nat) : Int) = 1 from rfl] at cc
  have C1 := Lib.hid cc
  clear hB hrd hbnd hlen cnm cc hR0 h1 hn9 hsm
  go_enter Try.func23, Try.ntmps23
  go_wp2_with fail
  with_reducible refine C1.out.mono ?_
  rintro x w1 ⟨rfl, hR1, hg1⟩
  have hz1 : Lies w1 w.heap.size 26 (evs Ent.zero nilV nilV) := Z0.out.grown hg1 (fun e => by injection e; omega)
  have Z1 := Lib.hid hz1
  have BB1 := Lib.hid (BB0.out.grown hg1 BB0.out.size (fun k hk => by injection hk with hk; omega))
  obtain ⟨q, hq⟩ : ∃ q, w1.heap.size = q := ⟨_, rfl⟩
  obtain ⟨p, hp0⟩ : ∃ p, w.heap.size + 1 = p := ⟨_, rfl⟩
  rw [hp0] at hR1
  have hpq : p < q := by rw [← hq]; exact hR1.lt
  have HR1 := Lib.hid hR1
  clear hR1 hg1 C1 Z0 BB0 hz1
  go_wp2_with fail
  with_reducible refine (CN.out _).mono ?_
  rintro x w2 ⟨rfl, hb2⟩
  have na0 : NoteRf w2 p q l (Ent.bare (k1 : Nat), s1) := by
    refine ⟨nilV, nilV, ?_, Tx.nil _ _, Tx.nil _ _, (HR1.out.below (below1 w1 _)).below hb2⟩
    rw [← hq]
    exact (Lies.made w1 26 _).below hb2 (by simp)
  have NA0 := Lib.hid na0
  have ZZ0 := Lib.hid ((Z1.out.alloc _).below hb2 (Nat.lt_of_lt_of_le Z1.out.lt (by simp)))
  have BL0 := Lib.hid ((BB1.out.alloc BB1.out.size _).trans (hb2.mono (Nat.le_trans BB1.out.size (by simp))))
  have hwp : w.heap.size < p := by omega
  clear na0 hb2 HR1 Z1 BB1
  clear hp0
  go_wp2_with fail
  clear hq
  go_loopw [7] (GfR w p q n l s (Ent.bare (k1 : Nat), s1)) (fun i _ => n - (intOf i).toNat)
  case atStart => exact ⟨0, by omega, rfl, NA0.out, ZZ0.out, BL0.out⟩
  case round =>
    obtain ⟨j, hj, rfl, hN, hZ, hbel⟩ := hrel
    have HZ := Lib.hid hZ
    have HBE := Lib.hid hbel
    have hws := hbel.size
    clear hZ hbel NA0 ZZ0 BL0
    by_cases hp : j < n
    · have hj2 : (j : Int) < (n : Int) := by omega
      have hvp := HGET0.out j
      have hca := HSUB.out _ (getD_mem s j (by rw [HN.out]; exact hp))
      have hro := rds_one fpos l s j (by rw [HN.out]; exact hp) (Ent.bare (k1 : Nat), s1)
      obtain ⟨c, hcc⟩ : ∃ c, s.getD j 0 = c := ⟨_, rfl⟩
      rw [hcc] at hvp hca hro
      obtain ⟨X, hX⟩ : ∃ X, Ent.rds fpos l (s.take j) (Ent.bare (k1 : Nat), s1) = X := ⟨_, rfl⟩
      rw [hX] at hN hro
      obtain ⟨e, st⟩ := X
      obtain ⟨K, D, hE, hK, hD, hR⟩ := hN
      simp only at hE hK hD hR
      have HRO := Lib.hid hro
      have HE := Lib.hid hE
      have HK := Lib.hid hK
      have HD := Lib.hid hD
      have HR := Lib.hid hR
      have hqw := hE.lt
      clear hro hX hcc hE hK hD hR
      rcases Ent.alpha_cases hca with h | h | h | h | h | h | h | h | h | h
      · subst h
        obtain ⟨x1, s2, h1⟩ : ∃ x s', Ent.rnum l 4 st = (x, s') := ⟨_, _, rfl⟩
        have hr : Ent.rdL fpos l (e, st) 69 = ({ e with epoch := x1 }, s2) := by simp [Ent.rdL, h1]
        have cc := rfnum_any p 4 st l wr HR.out (by omega) (by omega) hl
        unfold RfnPost at cc
        rw [h1] at cc
        simp only at cc
        rw [show ((4 : Nat) : Int) = 4 from rfl] at cc
        have by1 : x1 < 4294967296 := by have hq := Ent.rnum_lt l HSM.out 4 st; rw [h1] at hq; exact hq
        have hw1 : IntKind.u32.wrap ((x1 : Nat) : Int) = ((x1 : Nat) : Int) := by rw [IntKind.wrap_u32]; omega
        have C := Lib.hid cc
        have HRR := Lib.hid (HRO.out.trans hr)
        clear hr cc h1
        go_wp2_with fail
        with_reducible refine C.out.mono ?_
        rintro x w3 ⟨rfl, hR1, hg1⟩
        have LE := HE.out.grown hg1 (fun e => by injection e; omega)
        have f1 : w3.cell? ⟨q, 1, none⟩ = some (.int .u32 (e.epoch : Nat)) := LE.cell 1
        have g1 : w3.frozen? ⟨q, 1, none⟩ = false := LE.free 1
        have HR1 := Lib.hid hR1
        have HG1 := Lib.hid hg1
        have HK1 := Lib.hid (HK.out.grown (show p < q + 1 by omega) hg1)
        have HD1 := Lib.hid (HD.out.grown (show p < q + 1 by omega) hg1)
        clear LE hR1 hg1 C
        go_wp2
        go_roundw
        case rel =>
          have cl := rf_close (e' := { e with epoch := x1 }) (i := 1) HR1.out HG1.out HE.out hpq rfl HK1.out HD1.out
          exact ⟨j + 1, by omega, by go_num, by rw [HRR.out]; exact cl.1, cl.2.lies (by omega) (by omega) HZ.out, HBE.out.trans (cl.2.below (by omega) (by omega) hws)⟩
        case measure => simp [intOf]; omega
      · subst h
        obtain ⟨x1, s2, h1⟩ : ∃ x s', Ent.rnum l 4 st = (x, s') := ⟨_, _, rfl⟩
        have hr : Ent.rdL fpos l (e, st) 80 = ({ e with old := x1 }, s2) := by simp [Ent.rdL, h1]
        have cc := rfnum_any p 4 st l wr HR.out (by omega) (by omega) hl
        unfold RfnPost at cc
        rw [h1] at cc
        simp only at cc
        rw [show ((4 : Nat) : Int) = 4 from rfl] at cc
        have by1 : x1 < 4294967296 := by have hq := Ent.rnum_lt l HSM.out 4 st; rw [h1] at hq; exact hq
        have hw1 : IntKind.u32.wrap ((x1 : Nat) : Int) = ((x1 : Nat) : Int) := by rw [IntKind.wrap_u32]; omega
        have C := Lib.hid cc
        have HRR := Lib.hid (HRO.out.trans hr)
        clear hr cc h1
        go_wp2_with fail
        with_reducible refine C.out.mono ?_
        rintro x w3 ⟨rfl, hR1, hg1⟩
        have LE := HE.out.grown hg1 (fun e => by injection e; omega)
        have f1 : w3.cell? ⟨q, 2, none⟩ = some (.int .u32 (e.old : Nat)) := LE.cell 2
        have g1 : w3.frozen? ⟨q, 2, none⟩ = false := LE.free 2
        have HR1 := Lib.hid hR1
        have HG1 := Lib.hid hg1
        have HK1 := Lib.hid (HK.out.grown (show p < q + 1 by omega) hg1)
        have HD1 := Lib.hid (HD.out.grown (show p < q + 1 by omega) hg1)
        clear LE hR1 hg1 C
        go_wp2
        go_roundw
        case rel =>
          have cl := rf_close (e' := { e with old := x1 }) (i := 2) HR1.out HG1.out HE.out hpq rfl HK1.out HD1.out
          exact ⟨j + 1, by omega, by go_num, by rw [HRR.out]; exact cl.1, cl.2.lies (by omega) (by omega) HZ.out, HBE.out.trans (cl.2.below (by omega) (by omega) hws)⟩
        case measure => simp [intOf]; omega
      · subst h
        obtain ⟨x1, s2, h1⟩ : ∃ x s', Ent.rnum l 8 st = (x, s') := ⟨_, _, rfl⟩
        have hr : Ent.rdL fpos l (e, st) 76 = ({ e with lsn := x1 }, s2) := by simp [Ent.rdL, h1]
        have cc := rfnum_any p 8 st l wr HR.out (by omega) (by omega) hl
        unfold RfnPost at cc
        rw [h1] at cc
        simp only at cc
        rw [show ((8 : Nat) : Int) = 8 from rfl] at cc
        have C := Lib.hid cc
        have HRR := Lib.hid (HRO.out.trans hr)
        clear hr cc h1
        go_wp2_with fail
        with_reducible refine C.out.mono ?_
        rintro x w3 ⟨rfl, hR1, hg1⟩
        have LE := HE.out.grown hg1 (fun e => by injection e; omega)
        have f1 : w3.cell? ⟨q, 3, none⟩ = some (.int .u64 (e.lsn : Nat)) := LE.cell 3
        have g1 : w3.frozen? ⟨q, 3, none⟩ = false := LE.free 3
        have HR1 := Lib.hid hR1
        have HG1 := Lib.hid hg1
        have HK1 := Lib.hid (HK.out.grown (show p < q + 1 by omega) hg1)
        have HD1 := Lib.hid (HD.out.grown (show p < q + 1 by omega) hg1)
        clear LE hR1 hg1 C
        go_wp2
        go_roundw
        case rel =>
          have cl := rf_close (e' := { e with lsn := x1 }) (i := 3) HR1.out HG1.out HE.out hpq rfl HK1.out HD1.out
          exact ⟨j + 1, by omega, by go_num, by rw [HRR.out]; exact cl.1, cl.2.lies (by omega) (by omega) HZ.out, HBE.out.trans (cl.2.below (by omega) (by omega) hws)⟩
        case measure => simp [intOf]; omega
      · subst h
        obtain ⟨x1, s2, h1⟩ : ∃ x s', Ent.rnum l 8 st = (x, s') := ⟨_, _, rfl⟩
        have hr : Ent.rdL fpos l (e, st) 84 = ({ e with tick := x1 }, s2) := by simp [Ent.rdL, h1]
        have cc := rfnum_any p 8 st l wr HR.out (by omega) (by omega) hl
        unfold RfnPost at cc
        rw [h1] at cc
        simp only at cc
        rw [show ((8 : Nat) : Int) = 8 from rfl] at cc
        have C := Lib.hid cc
        have HRR := Lib.hid (HRO.out.trans hr)
        clear hr cc h1
        go_wp2_with fail
        with_reducible refine C.out.mono ?_
        rintro x w3 ⟨rfl, hR1, hg1⟩
        have LE := HE.out.grown hg1 (fun e => by injection e; omega)
        have f1 : w3.cell? ⟨q, 4, none⟩ = some (.int .u64 (e.tick : Nat)) := LE.cell 4
        have g1 : w3.frozen? ⟨q, 4, none⟩ = false := LE.free 4
        have HR1 := Lib.hid hR1
        have HG1 := Lib.hid hg1
        have HK1 := Lib.hid (HK.out.grown (show p < q + 1 by omega) hg1)
        have HD1 := Lib.hid (HD.out.grown (show p < q + 1 by omega) hg1)
        clear LE hR1 hg1 C
        go_wp2
        go_roundw
        case rel =>
          have cl := rf_close (e' := { e with tick := x1 }) (i := 4) HR1.out HG1.out HE.out hpq rfl HK1.out HD1.out
          exact ⟨j + 1, by omega, by go_num, by rw [HRR.out]; exact cl.1, cl.2.lies (by omega) (by omega) HZ.out, HBE.out.trans (cl.2.below (by omega) (by omega) hws)⟩
        case measure => simp [intOf]; omega
      · subst h
        obtain ⟨x1, s2, h1⟩ : ∃ x s', Ent.rnum l 4 st = (x, s') := ⟨_, _, rfl⟩
        have hr : Ent.rdL fpos l (e, st) 79 = ({ e with order := x1 }, s2) := by simp [Ent.rdL, h1]
        have cc := rfnum_any p 4 st l wr HR.out (by omega) (by omega) hl
        unfold RfnPost at cc
        rw [h1] at cc
        simp only at cc
        rw [show ((4 : Nat) : Int) = 4 from rfl] at cc
        have by1 : x1 < 4294967296 := by have hq := Ent.rnum_lt l HSM.out 4 st; rw [h1] at hq; exact hq
        have hw1 : IntKind.u32.wrap ((x1 : Nat) : Int) = ((x1 : Nat) : Int) := by rw [IntKind.wrap_u32]; omega
        have C := Lib.hid cc
        have HRR := Lib.hid (HRO.out.trans hr)
        clear hr cc h1
        go_wp2_with fail
        with_reducible refine C.out.mono ?_
        rintro x w3 ⟨rfl, hR1, hg1⟩
        have LE := HE.out.grown hg1 (fun e => by injection e; omega)
        have f1 : w3.cell? ⟨q, 5, none⟩ = some (.int .u32 (e.order : Nat)) := LE.cell 5
        have g1 : w3.frozen? ⟨q, 5, none⟩ = false := LE.free 5
        have HR1 := Lib.hid hR1
        have HG1 := Lib.hid hg1
        have HK1 := Lib.hid (HK.out.grown (show p < q + 1 by omega) hg1)
        have HD1 := Lib.hid (HD.out.grown (show p < q + 1 by omega) hg1)
        clear LE hR1 hg1 C
        go_wp2
        go_roundw
        case rel =>
          have cl := rf_close (e' := { e with order := x1 }) (i := 5) HR1.out HG1.out HE.out hpq rfl HK1.out HD1.out
          exact ⟨j + 1, by omega, by go_num, by rw [HRR.out]; exact cl.1, cl.2.lies (by omega) (by omega) HZ.out, HBE.out.trans (cl.2.below (by omega) (by omega) hws)⟩
        case measure => simp [intOf]; omega
      · subst h
        obtain ⟨x1, s2, h1⟩ : ∃ x s', Ent.rnum l 1 st = (x, s') := ⟨_, _, rfl⟩
        have hr : Ent.rdL fpos l (e, st) 83 = ({ e with step := ((x1 : Nat) : Int) }, s2) := by simp [Ent.rdL, h1]
        have cc := rfnum_any p 1 st l wr HR.out (by omega) (by omega) hl
        unfold RfnPost at cc
        rw [h1] at cc
        simp only at cc
        rw [show ((1 : Nat) : Int) = 1 from rfl] at cc
        have by1 : x1 < 256 := by have hq := Ent.rnum_lt l HSM.out 1 st; rw [h1] at hq; exact hq
        have hw1 : IntKind.i64.wrap ((x1 : Nat) : Int) = ((x1 : Nat) : Int) := IntWalk.i64_in _ (by omega)
        have C := Lib.hid cc
        have HRR := Lib.hid (HRO.out.trans hr)
        clear hr cc h1
        go_wp2_with fail
        with_reducible refine C.out.mono ?_
        rintro x w3 ⟨rfl, hR1, hg1⟩
        have LE := HE.out.grown hg1 (fun e => by injection e; omega)
        have f1 : w3.cell? ⟨q, 6, none⟩ = some (.int .i64 e.step) := LE.cell 6
        have g1 : w3.frozen? ⟨q, 6, none⟩ = false := LE.free 6
        have HR1 := Lib.hid hR1
        have HG1 := Lib.hid hg1
        have HK1 := Lib.hid (HK.out.grown (show p < q + 1 by omega) hg1)
        have HD1 := Lib.hid (HD.out.grown (show p < q + 1 by omega) hg1)
        clear LE hR1 hg1 C
        go_wp2
        go_roundw
        case rel =>
          have cl := rf_close (e' := { e with step := ((x1 : Nat) : Int) }) (i := 6) HR1.out HG1.out HE.out hpq rfl HK1.out HD1.out
          exact ⟨j + 1, by omega, by go_num, by rw [HRR.out]; exact cl.1, cl.2.lies (by omega) (by omega) HZ.out, HBE.out.trans (cl.2.below (by omega) (by omega) hws)⟩
        case measure => simp [intOf]; omega
      · subst h
        obtain ⟨x1, s2, h1⟩ : ∃ x s', Ent.rnum l 1 st = (x, s') := ⟨_, _, rfl⟩
        have hr : Ent.rdL fpos l (e, st) 85 = ({ e with undo := fpos x1 }, s2) := by simp [Ent.rdL, h1]
        have cc := rfnum_any p 1 st l wr HR.out (by omega) (by omega) hl
        unfold RfnPost at cc
        rw [h1] at cc
        simp only at cc
        rw [show ((1 : Nat) : Int) = 1 from rfl] at cc
        have by1 : x1 < 256 := by have hq := Ent.rnum_lt l HSM.out 1 st; rw [h1] at hq; exact hq
        have hw1 : IntKind.i64.wrap ((x1 : Nat) : Int) = ((x1 : Nat) : Int) := IntWalk.i64_in _ (by omega)
        have C := Lib.hid cc
        have HRR := Lib.hid (HRO.out.trans hr)
        clear hr cc h1
        go_wp2_with fail
        with_reducible refine C.out.mono ?_
        rintro x w3 ⟨rfl, hR1, hg1⟩
        have LE := HE.out.grown hg1 (fun e => by injection e; omega)
        have f1 : w3.cell? ⟨q, 7, none⟩ = some (.bool e.undo) := LE.cell 7
        have g1 : w3.frozen? ⟨q, 7, none⟩ = false := LE.free 7
        have HR1 := Lib.hid hR1
        have HG1 := Lib.hid hg1
        have HK1 := Lib.hid (HK.out.grown (show p < q + 1 by omega) hg1)
        have HD1 := Lib.hid (HD.out.grown (show p < q + 1 by omega) hg1)
        clear LE hR1 hg1 C
        go_wp2
        go_roundw
        case rel =>
          have cl := rf_close (e' := { e with undo := fpos x1 }) (i := 7) HR1.out HG1.out HE.out hpq (by first | rfl | (simp [fpos]; done) | (congr 1; simp [fpos])) HK1.out HD1.out
          exact ⟨j + 1, by omega, by go_num, by rw [HRR.out]; exact cl.1, cl.2.lies (by omega) (by omega) HZ.out, HBE.out.trans (cl.2.below (by omega) (by omega) hws)⟩
        case measure => simp [intOf]; omega
      · subst h
        obtain ⟨x1, s2, h1⟩ : ∃ x s', Ent.rnum l 1 st = (x, s') := ⟨_, _, rfl⟩
        have hr : Ent.rdL fpos l (e, st) 67 = ({ e with code := ((x1 : Nat) : Int) }, s2) := by simp [Ent.rdL, h1]
        have cc := rfnum_any p 1 st l wr HR.out (by omega) (by omega) hl
        unfold RfnPost at cc
        rw [h1] at cc
        simp only at cc
        rw [show ((1 : Nat) : Int) = 1 from rfl] at cc
        have by1 : x1 < 256 := by have hq := Ent.rnum_lt l HSM.out 1 st; rw [h1] at hq; exact hq
        have hw1 : IntKind.i64.wrap ((x1 : Nat) : Int) = ((x1 : Nat) : Int) := IntWalk.i64_in _ (by omega)
        have C := Lib.hid cc
        have HRR := Lib.hid (HRO.out.trans hr)
        clear hr cc h1
        go_wp2_with fail
        with_reducible refine C.out.mono ?_
        rintro x w3 ⟨rfl, hR1, hg1⟩
        have LE := HE.out.grown hg1 (fun e => by injection e; omega)
        have f1 : w3.cell? ⟨q, 8, none⟩ = some (.int .i64 e.code) := LE.cell 8
        have g1 : w3.frozen? ⟨q, 8, none⟩ = false := LE.free 8
        have HR1 := Lib.hid hR1
        have HG1 := Lib.hid hg1
        have HK1 := Lib.hid (HK.out.grown (show p < q + 1 by omega) hg1)
        have HD1 := Lib.hid (HD.out.grown (show p < q + 1 by omega) hg1)
        clear LE hR1 hg1 C
        go_wp2
        go_roundw
        case rel =>
          have cl := rf_close (e' := { e with code := ((x1 : Nat) : Int) }) (i := 8) HR1.out HG1.out HE.out hpq rfl HK1.out HD1.out
          exact ⟨j + 1, by omega, by go_num, by rw [HRR.out]; exact cl.1, cl.2.lies (by omega) (by omega) HZ.out, HBE.out.trans (cl.2.below (by omega) (by omega) hws)⟩
        case measure => simp [intOf]; omega
      · subst h
        obtain ⟨x1, s2, h1⟩ : ∃ x s', Ent.rtxt l st = (x, s') := ⟨_, _, rfl⟩
        have hr : Ent.rdL fpos l (e, st) 75 = ({ e with key := x1 }, s2) := by simp [Ent.rdL, h1]
        have cc := rftext_any p st l wr HR.out hl
        unfold RftPost at cc
        rw [h1] at cc
        simp only at cc
        have C := Lib.hid cc
        have HRR := Lib.hid (HRO.out.trans hr)
        clear hr cc h1
        go_wp2_with fail
        with_reducible refine C.out.mono ?_
        rintro x w3 ⟨v1, rfl, hO1, hR1, hg1⟩
        have hO1m := hO1.mono (Nat.succ_le_of_lt hqw)
        obtain ⟨A1, d1, hv1, _⟩ := hO1m
        obtain ⟨n1, hn1⟩ : ∃ n, x1.length = n := ⟨_, rfl⟩
        rw [hn1] at hv1
        subst hv1
        have HO1 := Lib.hid (hO1.mono (Nat.succ_le_of_lt hqw))
        clear hO1 hn1
        have LE := HE.out.grown hg1 (fun e => by injection e; omega)
        have f1 : w3.cell? ⟨q, 9, none⟩ = some (K) := LE.cell 9
        have g1 : w3.frozen? ⟨q, 9, none⟩ = false := LE.free 9
        have HR1 := Lib.hid hR1
        have HG1 := Lib.hid hg1
        have HK1 := Lib.hid (HK.out.grown (show p < q + 1 by omega) hg1)
        have HD1 := Lib.hid (HD.out.grown (show p < q + 1 by omega) hg1)
        clear LE hR1 hg1 C
        go_wp2
        go_roundw
        case rel =>
          have cl := rf_close (e' := { e with key := x1 }) (i := 9) HR1.out HG1.out HE.out hpq rfl HO1.out HD1.out
          exact ⟨j + 1, by omega, by go_num, by rw [HRR.out]; exact cl.1, cl.2.lies (by omega) (by omega) HZ.out, HBE.out.trans (cl.2.below (by omega) (by omega) hws)⟩
        case measure => simp [intOf]; omega
      · subst h
        obtain ⟨x1, s2, h1⟩ : ∃ x s', Ent.rtxt l st = (x, s') := ⟨_, _, rfl⟩
        have hr : Ent.rdL fpos l (e, st) 68 = ({ e with data := x1 }, s2) := by simp [Ent.rdL, h1]
        have cc := rftext_any p st l wr HR.out hl
        unfold RftPost at cc
        rw [h1] at cc
        simp only at cc
        have C := Lib.hid cc
        have HRR := Lib.hid (HRO.out.trans hr)
        clear hr cc h1
        go_wp2_with fail
        with_reducible refine C.out.mono ?_
        rintro x w3 ⟨v1, rfl, hO1, hR1, hg1⟩
        have hO1m := hO1.mono (Nat.succ_le_of_lt hqw)
        obtain ⟨A1, d1, hv1, _⟩ := hO1m
        obtain ⟨n1, hn1⟩ : ∃ n, x1.length = n := ⟨_, rfl⟩
        rw [hn1] at hv1
        subst hv1
        have HO1 := Lib.hid (hO1.mono (Nat.succ_le_of_lt hqw))
        clear hO1 hn1
        have LE := HE.out.grown hg1 (fun e => by injection e; omega)
        have f1 : w3.cell? ⟨q, 10, none⟩ = some (D) := LE.cell 10
        have g1 : w3.frozen? ⟨q, 10, none⟩ = false := LE.free 10
        have HR1 := Lib.hid hR1
        have HG1 := Lib.hid hg1
        have HK1 := Lib.hid (HK.out.grown (show p < q + 1 by omega) hg1)
        have HD1 := Lib.hid (HD.out.grown (show p < q + 1 by omega) hg1)
        clear LE hR1 hg1 C
        go_wp2
        go_roundw
        case rel =>
          have cl := rf_close (e' := { e with data := x1 }) (i := 10) HR1.out HG1.out HE.out hpq rfl HK1.out HO1.out
          exact ⟨j + 1, by omega, by go_num, by rw [HRR.out]; exact cl.1, cl.2.lies (by omega) (by omega) HZ.out, HBE.out.trans (cl.2.below (by omega) (by omega) hws)⟩
        case measure => simp [intOf]; omega
    · have hjl : s.take j = s := List.take_of_length_le (by rw [HN.out]; omega)
      rw [hjl] at hN
      obtain ⟨er, her⟩ : ∃ e, Ent.rd fpos l = e := ⟨_, rfl⟩
      have her2 : (Ent.rds fpos l s (Ent.bare (k1 : Nat), s1)).1 = er := by rw [← HRD.out]; exact her
      obtain ⟨K, D, hL6, hK6, hD6, _⟩ := hN
      rw [her2] at hL6 hK6 hD6
      have hget : Ent.get fpos l = if Ent.ok er = true ∧ Ent.enc er = l then some er else none := by unfold Ent.get; rw [her]
      have hbnd2 : Ent.Bnd er := her ▸ HBND.out
      have HGET := Lib.hid hget
      obtain ⟨A1, A2, c1, c2, rfl, rfl, hV⟩ := EntV.tx hK6 hD6 hbnd2
      have HK6 := Lib.hid hK6
      have HD6 := Lib.hid hD6
      have cp := refPut_any er A1 A2 c1 c2 wr hV
      have CPUT := Lib.hid cp
      have L6 := Lib.hid hL6
      obtain ⟨e0, e1, e2, e3, e4, e5, e6, e7, e8, e9, e10⟩ := L6.out.cellsE
      clear cp hK6 hD6 hL6 hget her her2 hjl HRD HBND hV hbnd2
      go_wp2_with fail
      with_reducible refine CPUT.out.mono ?_
      rintro x w7 ⟨v7, rfl, hO7, hb7⟩
      clear e0 e1 e2 e3 e4 e5 e6 e7 e8 e9 e10
      have Z7 := Lib.hid (HZ.out.below hb7 HZ.out.lt)
      have L7 := Lib.hid (L6.out.below hb7 L6.out.lt)
      have BB7 := Lib.hid (HBE.out.trans (hb7.mono HBE.out.size))
      have HK7 := Lib.hid (HK6.out.below hb7)
      have HD7 := Lib.hid (HD6.out.below hb7)
      obtain ⟨A7, c7, rfl, hB7, _, _, _⟩ := hO7.slice
      have HB7 := Lib.hid hB7
      have HBW := Lib.hid (HB.out.below BB7.out)
      clear hO7 hb7 hB7 HZ L6 HBE HK6 HD6 CPUT
      have hzp : Lies (w7.setCells w.heap.size 0 (evs Ent.zero nilV nilV).toList) w.heap.size 26 (evs Ent.zero nilV nilV) ∧ Below w.heap.size w (w7.setCells w.heap.size 0 (evs Ent.zero nilV nilV).toList) := ⟨Z7.out.puts _ rfl, below_puts BB7.out (Nat.le_refl _) _ _⟩
      rw [setCells_zero] at hzp
      have HZP := Lib.hid hzp
      have hep : Lies (w7.setCells w.heap.size 0 (evs er (.slice A1 er.key.length c1) (.slice A2 er.data.length c2)).toList) w.heap.size 26 (evs er (.slice A1 er.key.length c1) (.slice A2 er.data.length c2)) ∧ Below w.heap.size w (w7.setCells w.heap.size 0 (evs er (.slice A1 er.key.length c1) (.slice A2 er.data.length c2)).toList) ∧ Tx (w7.setCells w.heap.size 0 (evs er (.slice A1 er.key.length c1) (.slice A2 er.data.length c2)).toList) (q + 1) (.slice A1 er.key.length c1) er.key ∧ Tx (w7.setCells w.heap.size 0 (evs er (.slice A1 er.key.length c1) (.slice A2 er.data.length c2)).toList) (q + 1) (.slice A2 er.data.length c2) er.data := ⟨Z7.out.puts _ rfl, below_puts BB7.out (Nat.le_refl _) _ _, HK7.out.puts (by omega) _ _, HD7.out.puts (by omega) _ _⟩
      rw [setCells_evs] at hep
      have HEP := Lib.hid hep
      clear hzp hep
      obtain ⟨n7, hn7⟩ : ∃ n, (putB er).length = n := ⟨_, rfl⟩
      rw [hn7] at HB7 ⊢
      have r2 := run_str HBW.out cap
      by_cases hok : Ent.ok er = true
      · have hc : chkN er = 0 := by unfold chkN; rw [if_pos hok]
        have hpb : putB er = Ent.enc er := by unfold putB; rw [if_pos hok]
        rw [hc]
        rw [hpb] at HB7
        have r1 := run_str HB7.out c7
        have r3 := str_eq (Ent.enc er) l HB7.out.2.1 HBW.out.2.1
        clear hn7 hpb
        by_cases heq : Ent.enc er = l
        · rw [show sameB (Ent.enc er) l = true from by rw [heq]; exact sameB_self l] at r3
          have HEQ := Lib.hid heq
          have HOK := Lib.hid hok
          clear heq hok hc
          generalize str (Ent.enc er) = S1 at *
          generalize str l = S2 at *
          obtain ⟨e0, e1, e2, e3, e4, e5, e6, e7, e8, e9, e10⟩ := L7.out.cellsE
          obtain ⟨z0, z1, z2, z3, z4, z5, z6, z7, z8, z9, z10⟩ := Z7.out.cellsE
          have hfz := Z7.out.free
          go_wp2
          refine ret_E w.heap.size 26 (evs er (.slice A1 er.key.length c1) (.slice A2 er.data.length c2)) rfl rfl HEP.out.1 rfl rfl ⟨HEP.out.2.1, .inl ⟨er, _, _, ?_, rfl, HEP.out.2.2.1.mono (by omega), HEP.out.2.2.2.mono (by omega)⟩⟩
          rw [HGET.out, if_pos ⟨HOK.out, HEQ.out⟩]
        · rw [show sameB (Ent.enc er) l = false from sameB_ne heq] at r3
          have HEQ := Lib.hid heq
          clear heq hok hc
          generalize str (Ent.enc er) = S1 at *
          generalize str l = S2 at *
          obtain ⟨z0, z1, z2, z3, z4, z5, z6, z7, z8, z9, z10⟩ := Z7.out.cellsE
          have hfz := Z7.out.free
          go_wp2
          refine ret_E w.heap.size 26 (evs Ent.zero nilV nilV) rfl rfl HZP.out.1 rfl rfl ⟨HZP.out.2, .inr ⟨?_, rfl⟩⟩
          rw [HGET.out, if_neg (fun h => HEQ.out h.2)]
      · have hc : chkN er = 50 := by unfold chkN; rw [if_neg hok]
        rw [hc]
        have HOK := Lib.hid hok
        clear hok hc hn7 r2
        obtain ⟨z0, z1, z2, z3, z4, z5, z6, z7, z8, z9, z10⟩ := Z7.out.cellsE
        have hfz := Z7.out.free
        go_wp2
        refine ret_E w.heap.size 26 (evs Ent.zero nilV nilV) rfl rfl HZP.out.1 rfl rfl ⟨HZP.out.2, .inr ⟨?_, rfl⟩⟩
        rw [HGET.out, if_neg (fun h => HOK.out h.1)]

/-- What both answer: the note, and the number. -/
def gotE (l : List Nat) : Note := (Ent.get one l).getD Ent.zero
def gotC (l : List Nat) : Int := if (Ent.get one l).isSome then 0 else 50
theorem gotE_bnd (l : List Nat) (hl : ∀ c ∈ l, c < 256) : Ent.Bnd (gotE l) ∧ (gotE l).key.length ≤ 10000 ∧ (gotE l).data.length ≤ 10000 := by
  unfold gotE
  cases h : Ent.get one l with
  | none => exact ⟨Ent.bare_bnd 0, by simp [Ent.zero], by simp [Ent.zero]⟩
  | some e =>
    obtain ⟨h1, h2, h3⟩ := Ent.get_some hl h
    have hi := (Ent.inB_iff e).1 ((Ent.ok_iff e).1 h1).i
    simp only [Option.getD_some]
    exact ⟨h3, by omega, by omega⟩
theorem get_fpos (l : List Nat) (hl : ∀ c ∈ l, c < 256) : Ent.get fpos l = Ent.get one l := Ent.get_eq fpos one rfl rfl rfl rfl l hl
def GotPost (l : List Nat) (w : World) (x : Ending) (w' : World) : Prop :=
  ∃ K D, x = .returned (.tuple #[.agg (evs (gotE l) K D), .int .i64 (gotC l)]) ∧ Own w' w.heap.size K (gotE l).key ∧ Own w' w.heap.size D (gotE l).data ∧ (∀ g, K.ownBlock = some g → D.ownBlock ≠ some g) ∧ Below w.heap.size w w'
theorem GetPost.got {l : List Nat} {w w' : World} {x : Ending} (h : GetPost l w x w') : GotPost l w x w' := by
  obtain ⟨hb, ⟨e, K, D, h1, h2, h3, h4, h5⟩ | ⟨h1, h2⟩⟩ := h
  · unfold GotPost gotE gotC
    rw [h1]
    exact ⟨K, D, h2, h3, h4, h5, hb⟩
  · unfold GotPost gotE gotC
    rw [h1]
    exact ⟨nilV, nilV, h2, Own.nil _ _, Own.nil _ _, (fun g h => by cases h), hb⟩
def RGotPost (l : List Nat) (w : World) (x : Ending) (w' : World) : Prop :=
  ∃ K D, x = .returned (.tuple #[.agg (evs (gotE l) K D), .int .i64 (gotC l)]) ∧ Tx w' w.heap.size K (gotE l).key ∧ Tx w' w.heap.size D (gotE l).data ∧ Below w.heap.size w w'
theorem RGetPost.got {l : List Nat} {w w' : World} {x : Ending} (h : RGetPost l w x w') (hl : ∀ c ∈ l, c < 256) : RGotPost l w x w' := by
  obtain ⟨hb, ⟨e, K, D, h1, h2, h3, h4⟩ | ⟨h1, h2⟩⟩ := h
  · rw [get_fpos l hl] at h1
    unfold RGotPost gotE gotC
    rw [h1]
    exact ⟨K, D, h2, h3, h4, hb⟩
  · rw [get_fpos l hl] at h1
    unfold RGotPost gotE gotC
    rw [h1]
    exact ⟨nilV, nilV, h2, Tx.nil _ _, Tx.nil _ _, hb⟩
theorem got_any (a : Option Addr) (n cap : Nat) (l : List Nat) (w : World) (hB : Bys w a n l) (hn : n ≤ 100000) :
    Calls Try.prog 22 #[.slice a n cap] w (GotPost l w) := (get_any a n cap l w hB hn).mono fun _ _ h => h.got
theorem rgot_any (a : Option Addr) (n cap : Nat) (l : List Nat) (w : World) (hB : Bys w a n l) (hn : n ≤ 100000) (hnc : n ≤ cap) (hcm : cap ≤ maxLen) :
    Calls Try.prog 23 #[.slice a n cap] w (RGotPost l w) := (refGet_any a n cap l w hB hn hnc hcm).mono fun _ _ h => h.got hB.2.1

end Go.Proofs.Ytjjkjppaiejajaa
