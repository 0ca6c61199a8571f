/-
  The contracts of read: for each letter.
-/
import Derived.Test.YtjjkjppaiejajaaNIter
namespace Go.Proofs.Ytjjkjppaiejajaa
open Go.RowKit
set_option linter.unusedVariables false

def one : Nat → Bool := fun n => n == 1
abbrev nilV : Value := .slice none 0 0
/-- All blocks but two are as they were. -/
structure Still (p q : Nat) (w w' : World) : Prop where
  os : w'.os = w.os
  tape : w'.tape = w.tape
  output : w'.output = w.output
  size : w.heap.size ≤ w'.heap.size
  block : ∀ k, k < w.heap.size → k ≠ p → k ≠ q → w'.heap[k]? = w.heap[k]?
theorem Still.below {p q B : Nat} {w w' : World} (h : Still p q w w') (hp : B ≤ p) (hq : B ≤ q) (hB : B ≤ w.heap.size) : Below B w w' :=
  ⟨h.os, h.tape, h.output, h.size, fun k hk => h.block k (by omega) (by omega) (by omega)⟩
theorem Still.lies {p q : Nat} {w w' : World} (h : Still p q w w') {g : Nat} {t : TypeId} {cs : Array Value} (hp : g ≠ p) (hq : g ≠ q) (hL : Lies w g t cs) : Lies w' g t cs := (h.block g hL.lt hp hq).trans hL
theorem Still.it {p q : Nat} {w w' : World} (h : Still p q w w') {k : Nat} {s : List Nat} {j : Nat} (hp : k ≠ p) (hq : k ≠ q) (hI : It w k s j) : It w' k s j := (h.block k hI.lt hp hq).trans hI
theorem Still.of {p q o : Nat} {w w' : World} (h : w.grownBy w' (some p)) (v : Value) : Still p q w (w'.setCell ⟨q, o, none⟩ v) :=
  ⟨h.os, h.tape, h.output, by simpa [World.setCell] using h.size, fun k hk hp hq => (heap_setCell_other w' ⟨q, o, none⟩ k v hq).trans (h.block k hk (fun e => hp (by injection e)))⟩
theorem Rd.setq {T : TypeId} {w : World} {p q : Nat} {s : Ent.St} {l : List Nat} (h : Rd T w p s l) (hpq : p < q) (o : Nat) (u : Value) : Rd T (w.setCell ⟨q, o, none⟩ u) p s l := by
  obtain ⟨A, c, hL, hB, h3, h4⟩ := h
  exact ⟨A, c, hL.other (a := ⟨q, o, none⟩) (by show p ≠ q; omega) u, hB.setOther (fun ad e => by have := h3 ad e; omega) u, h3, h4⟩
/-- A note lies at q, its texts are the call's own, the reader is at its place. -/
def NoteAt (w : World) (p q B0 : Nat) (l : List Nat) (x : Note × Ent.St) : Prop :=
  ∃ K D, Lies w q 26 (evs x.1 K D) ∧ Own w B0 K x.1.key ∧ Own w B0 D x.1.data ∧ (∀ g, K.ownBlock = some g → D.ownBlock ≠ some g) ∧ Rd 88 w p x.2 l
def ReadPost (w : World) (p q B0 : Nat) (l : List Nat) (x : Note × Ent.St) (y : Ending) (w' : World) : Prop :=
  y = .returned (.tuple #[]) ∧ NoteAt w' p q B0 l x ∧ Still p q w w'
theorem read_close {w w1 : World} {p q B0 i : Nat} {l : List Nat} {s1 : Ent.St} {e e' : Note} {K D K' D' v : Value} (hR1 : Rd 88 w1 p s1 l) (hg1 : w.grownBy w1 (some p)) (hE : Lies w q 26 (evs e K D)) (hpq : p < q)
    (hput : (evs e K D).setIfInBounds i v = evs e' K' D') (hK : Own w1 B0 K' e'.key) (hD : Own w1 B0 D' e'.data) (hne : ∀ g, K'.ownBlock = some g → D'.ownBlock ≠ some g) :
    ReadPost w p q B0 l (e', s1) (.returned (.tuple #[])) (w1.setCell ⟨q, i, none⟩ v) := by
  have hL := hE.grown hg1 (fun h => by injection h; omega)
  refine ⟨rfl, ⟨K', D', ?_, hK.setOther (a := ⟨q, i, none⟩) (hK.ne hL (by decide)) v, hD.setOther (a := ⟨q, i, none⟩) (hD.ne hL (by decide)) v, hne, hR1.setq hpq i v⟩, Still.of hg1 v⟩
  show Lies _ q 26 (evs e' K' D')
  rw [← hput]
  exact hL.put i v
theorem Rd.own_ne {w : World} {p B0 : Nat} {s : Ent.St} {l : List Nat} {v : Value} {x : List Nat} (h : Rd 88 w p s l) (hO : Own w B0 v x) : ∀ g, v.ownBlock = some g → some p ≠ some g := fun g hg e => by
  obtain ⟨A, c, hL, _⟩ := h
  exact hO.ne hL (by decide) (e.trans hg.symm)

set_option maxRecDepth 100000 in
set_option maxHeartbeats 1000000 in
theorem read_69 (p q B0 : Nat) (l : List Nat) (s : Ent.St) (e : Note) (w : World) (hN : NoteAt w p q B0 l (e, s)) (hpq : p < q) (hl : l.length ≤ 100000) (hB : B0 ≤ w.heap.size) :
    Calls Try.prog 39 #[.pointer (some ⟨p, 0, none⟩), .pointer (some ⟨q, 0, none⟩), .int .i32 69] w (ReadPost w p q B0 l (Ent.rdL one l (e, s) 69)) := by
  obtain ⟨K, D, hE, hK, hD, hne, hR⟩ := hN
  simp only at hE hK hD hR
  obtain ⟨x1, s1, h1⟩ : ∃ x s', Ent.rnum l 4 s = (x, s') := ⟨_, _, rfl⟩
  have hr : Ent.rdL one l (e, s) 69 = ({ e with epoch := x1 }, s1) := by simp [Ent.rdL, h1]
  rw [hr]
  have cc := ru32_any p s l w hR hl
  unfold Ru32Post at cc
  rw [h1] at cc
  have by1 : x1 < 4294967296 := by have hq := Ent.rnum_lt l hR.small 4 s; rw [h1] at hq; exact hq
  have C := Lib.hid cc
  have HE := Lib.hid hE
  have HK := Lib.hid hK
  have HD := Lib.hid hD
  have HNE := Lib.hid hne
  have HR := Lib.hid hR
  clear hr cc hE hK hD hne hR h1
  go_enter Try.func39, Try.ntmps39
  go_wp2_with fail
  with_reducible refine C.out.mono ?_
  rintro x w1 ⟨rfl, hR1, hg1⟩
  have LE := HE.out.grown hg1 (fun e => by injection e; omega)
  have f1 : w1.cell? ⟨q, 1, none⟩ = some (.int .u32 (e.epoch : Nat)) := LE.cell 1
  have g1 : w1.frozen? ⟨q, 1, none⟩ = false := LE.free 1
  have HR1 := Lib.hid hR1
  have HG1 := Lib.hid hg1
  have HK1 := Lib.hid (HK.out.grownOther hg1 (HR.out.own_ne HK.out))
  have HD1 := Lib.hid (HD.out.grownOther hg1 (HR.out.own_ne HD.out))
  clear LE hR1 hg1 C
  go_wp2
  go_end0
  exact read_close HR1.out HG1.out HE.out hpq rfl HK1.out HD1.out HNE.out

set_option maxRecDepth 100000 in
set_option maxHeartbeats 1000000 in
theorem read_80 (p q B0 : Nat) (l : List Nat) (s : Ent.St) (e : Note) (w : World) (hN : NoteAt w p q B0 l (e, s)) (hpq : p < q) (hl : l.length ≤ 100000) (hB : B0 ≤ w.heap.size) :
    Calls Try.prog 39 #[.pointer (some ⟨p, 0, none⟩), .pointer (some ⟨q, 0, none⟩), .int .i32 80] w (ReadPost w p q B0 l (Ent.rdL one l (e, s) 80)) := by
  obtain ⟨K, D, hE, hK, hD, hne, hR⟩ := hN
  simp only at hE hK hD hR
  obtain ⟨x1, s1, h1⟩ : ∃ x s', Ent.rnum l 4 s = (x, s') := ⟨_, _, rfl⟩
  have hr : Ent.rdL one l (e, s) 80 = ({ e with old := x1 }, s1) := by simp [Ent.rdL, h1]
  rw [hr]
  have cc := ru32_any p s l w hR hl
  unfold Ru32Post at cc
  rw [h1] at cc
  have by1 : x1 < 4294967296 := by have hq := Ent.rnum_lt l hR.small 4 s; rw [h1] at hq; exact hq
  have C := Lib.hid cc
  have HE := Lib.hid hE
  have HK := Lib.hid hK
  have HD := Lib.hid hD
  have HNE := Lib.hid hne
  have HR := Lib.hid hR
  clear hr cc hE hK hD hne hR h1
  go_enter Try.func39, Try.ntmps39
  go_wp2_with fail
  with_reducible refine C.out.mono ?_
  rintro x w1 ⟨rfl, hR1, hg1⟩
  have LE := HE.out.grown hg1 (fun e => by injection e; omega)
  have f1 : w1.cell? ⟨q, 2, none⟩ = some (.int .u32 (e.old : Nat)) := LE.cell 2
  have g1 : w1.frozen? ⟨q, 2, none⟩ = false := LE.free 2
  have HR1 := Lib.hid hR1
  have HG1 := Lib.hid hg1
  have HK1 := Lib.hid (HK.out.grownOther hg1 (HR.out.own_ne HK.out))
  have HD1 := Lib.hid (HD.out.grownOther hg1 (HR.out.own_ne HD.out))
  clear LE hR1 hg1 C
  go_wp2
  go_end0
  exact read_close HR1.out HG1.out HE.out hpq rfl HK1.out HD1.out HNE.out

set_option maxRecDepth 100000 in
set_option maxHeartbeats 1000000 in
theorem read_76 (p q B0 : Nat) (l : List Nat) (s : Ent.St) (e : Note) (w : World) (hN : NoteAt w p q B0 l (e, s)) (hpq : p < q) (hl : l.length ≤ 100000) (hB : B0 ≤ w.heap.size) :
    Calls Try.prog 39 #[.pointer (some ⟨p, 0, none⟩), .pointer (some ⟨q, 0, none⟩), .int .i32 76] w (ReadPost w p q B0 l (Ent.rdL one l (e, s) 76)) := by
  obtain ⟨K, D, hE, hK, hD, hne, hR⟩ := hN
  simp only at hE hK hD hR
  obtain ⟨x1, s1, h1⟩ : ∃ x s', Ent.rnum l 8 s = (x, s') := ⟨_, _, rfl⟩
  have hr : Ent.rdL one l (e, s) 76 = ({ e with lsn := x1 }, s1) := by simp [Ent.rdL, h1]
  rw [hr]
  have cc := ru64_any p s l w hR hl
  unfold Ru64Post at cc
  rw [h1] at cc
  have C := Lib.hid cc
  have HE := Lib.hid hE
  have HK := Lib.hid hK
  have HD := Lib.hid hD
  have HNE := Lib.hid hne
  have HR := Lib.hid hR
  clear hr cc hE hK hD hne hR h1
  go_enter Try.func39, Try.ntmps39
  go_wp2_with fail
  with_reducible refine C.out.mono ?_
  rintro x w1 ⟨rfl, hR1, hg1⟩
  have LE := HE.out.grown hg1 (fun e => by injection e; omega)
  have f1 : w1.cell? ⟨q, 3, none⟩ = some (.int .u64 (e.lsn : Nat)) := LE.cell 3
  have g1 : w1.frozen? ⟨q, 3, none⟩ = false := LE.free 3
  have HR1 := Lib.hid hR1
  have HG1 := Lib.hid hg1
  have HK1 := Lib.hid (HK.out.grownOther hg1 (HR.out.own_ne HK.out))
  have HD1 := Lib.hid (HD.out.grownOther hg1 (HR.out.own_ne HD.out))
  clear LE hR1 hg1 C
  go_wp2
  go_end0
  exact read_close HR1.out HG1.out HE.out hpq rfl HK1.out HD1.out HNE.out

set_option maxRecDepth 100000 in
set_option maxHeartbeats 1000000 in
theorem read_84 (p q B0 : Nat) (l : List Nat) (s : Ent.St) (e : Note) (w : World) (hN : NoteAt w p q B0 l (e, s)) (hpq : p < q) (hl : l.length ≤ 100000) (hB : B0 ≤ w.heap.size) :
    Calls Try.prog 39 #[.pointer (some ⟨p, 0, none⟩), .pointer (some ⟨q, 0, none⟩), .int .i32 84] w (ReadPost w p q B0 l (Ent.rdL one l (e, s) 84)) := by
  obtain ⟨K, D, hE, hK, hD, hne, hR⟩ := hN
  simp only at hE hK hD hR
  obtain ⟨x1, s1, h1⟩ : ∃ x s', Ent.rnum l 8 s = (x, s') := ⟨_, _, rfl⟩
  have hr : Ent.rdL one l (e, s) 84 = ({ e with tick := x1 }, s1) := by simp [Ent.rdL, h1]
  rw [hr]
  have cc := ru64_any p s l w hR hl
  unfold Ru64Post at cc
  rw [h1] at cc
  have C := Lib.hid cc
  have HE := Lib.hid hE
  have HK := Lib.hid hK
  have HD := Lib.hid hD
  have HNE := Lib.hid hne
  have HR := Lib.hid hR
  clear hr cc hE hK hD hne hR h1
  go_enter Try.func39, Try.ntmps39
  go_wp2_with fail
  with_reducible refine C.out.mono ?_
  rintro x w1 ⟨rfl, hR1, hg1⟩
  have LE := HE.out.grown hg1 (fun e => by injection e; omega)
  have f1 : w1.cell? ⟨q, 4, none⟩ = some (.int .u64 (e.tick : Nat)) := LE.cell 4
  have g1 : w1.frozen? ⟨q, 4, none⟩ = false := LE.free 4
  have HR1 := Lib.hid hR1
  have HG1 := Lib.hid hg1
  have HK1 := Lib.hid (HK.out.grownOther hg1 (HR.out.own_ne HK.out))
  have HD1 := Lib.hid (HD.out.grownOther hg1 (HR.out.own_ne HD.out))
  clear LE hR1 hg1 C
  go_wp2
  go_end0
  exact read_close HR1.out HG1.out HE.out hpq rfl HK1.out HD1.out HNE.out

set_option maxRecDepth 100000 in
set_option maxHeartbeats 1000000 in
theorem read_79 (p q B0 : Nat) (l : List Nat) (s : Ent.St) (e : Note) (w : World) (hN : NoteAt w p q B0 l (e, s)) (hpq : p < q) (hl : l.length ≤ 100000) (hB : B0 ≤ w.heap.size) :
    Calls Try.prog 39 #[.pointer (some ⟨p, 0, none⟩), .pointer (some ⟨q, 0, none⟩), .int .i32 79] w (ReadPost w p q B0 l (Ent.rdL one l (e, s) 79)) := by
  obtain ⟨K, D, hE, hK, hD, hne, hR⟩ := hN
  simp only at hE hK hD hR
  obtain ⟨x1, s1, h1⟩ : ∃ x s', Ent.rnum l 4 s = (x, s') := ⟨_, _, rfl⟩
  have hr : Ent.rdL one l (e, s) 79 = ({ e with order := x1 }, s1) := by simp [Ent.rdL, h1]
  rw [hr]
  have cc := ru32_any p s l w hR hl
  unfold Ru32Post at cc
  rw [h1] at cc
  have by1 : x1 < 4294967296 := by have hq := Ent.rnum_lt l hR.small 4 s; rw [h1] at hq; exact hq
  have C := Lib.hid cc
  have HE := Lib.hid hE
  have HK := Lib.hid hK
  have HD := Lib.hid hD
  have HNE := Lib.hid hne
  have HR := Lib.hid hR
  clear hr cc hE hK hD hne hR h1
  go_enter Try.func39, Try.ntmps39
  go_wp2_with fail
  with_reducible refine C.out.mono ?_
  rintro x w1 ⟨rfl, hR1, hg1⟩
  have LE := HE.out.grown hg1 (fun e => by injection e; omega)
  have f1 : w1.cell? ⟨q, 5, none⟩ = some (.int .u32 (e.order : Nat)) := LE.cell 5
  have g1 : w1.frozen? ⟨q, 5, none⟩ = false := LE.free 5
  have HR1 := Lib.hid hR1
  have HG1 := Lib.hid hg1
  have HK1 := Lib.hid (HK.out.grownOther hg1 (HR.out.own_ne HK.out))
  have HD1 := Lib.hid (HD.out.grownOther hg1 (HR.out.own_ne HD.out))
  clear LE hR1 hg1 C
  go_wp2
  go_end0
  exact read_close HR1.out HG1.out HE.out hpq rfl HK1.out HD1.out HNE.out

set_option maxRecDepth 100000 in
set_option maxHeartbeats 1000000 in
theorem read_83 (p q B0 : Nat) (l : List Nat) (s : Ent.St) (e : Note) (w : World) (hN : NoteAt w p q B0 l (e, s)) (hpq : p < q) (hl : l.length ≤ 100000) (hB : B0 ≤ w.heap.size) :
    Calls Try.prog 39 #[.pointer (some ⟨p, 0, none⟩), .pointer (some ⟨q, 0, none⟩), .int .i32 83] w (ReadPost w p q B0 l (Ent.rdL one l (e, s) 83)) := by
  obtain ⟨K, D, hE, hK, hD, hne, hR⟩ := hN
  simp only at hE hK hD hR
  obtain ⟨x1, s1, h1⟩ : ∃ x s', Ent.rnum l 1 s = (x, s') := ⟨_, _, rfl⟩
  have hr : Ent.rdL one l (e, s) 83 = ({ e with step := ((x1 : Nat) : Int) }, s1) := by simp [Ent.rdL, h1]
  rw [hr]
  have cc := ru8_any p s l w hR hl
  unfold Ru8Post at cc
  rw [h1] at cc
  have by1 : x1 < 256 := by have hq := Ent.rnum_lt l hR.small 1 s; rw [h1] at hq; exact hq
  have C := Lib.hid cc
  have HE := Lib.hid hE
  have HK := Lib.hid hK
  have HD := Lib.hid hD
  have HNE := Lib.hid hne
  have HR := Lib.hid hR
  clear hr cc hE hK hD hne hR h1
  go_enter Try.func39, Try.ntmps39
  go_wp2_with fail
  with_reducible refine C.out.mono ?_
  rintro x w1 ⟨rfl, hR1, hg1⟩
  have LE := HE.out.grown hg1 (fun e => by injection e; omega)
  have f1 : w1.cell? ⟨q, 6, none⟩ = some (.int .i64 e.step) := LE.cell 6
  have g1 : w1.frozen? ⟨q, 6, none⟩ = false := LE.free 6
  have HR1 := Lib.hid hR1
  have HG1 := Lib.hid hg1
  have HK1 := Lib.hid (HK.out.grownOther hg1 (HR.out.own_ne HK.out))
  have HD1 := Lib.hid (HD.out.grownOther hg1 (HR.out.own_ne HD.out))
  clear LE hR1 hg1 C
  go_wp2
  go_end0
  exact read_close HR1.out HG1.out HE.out hpq rfl HK1.out HD1.out HNE.out

set_option maxRecDepth 100000 in
set_option maxHeartbeats 1000000 in
theorem read_85 (p q B0 : Nat) (l : List Nat) (s : Ent.St) (e : Note) (w : World) (hN : NoteAt w p q B0 l (e, s)) (hpq : p < q) (hl : l.length ≤ 100000) (hB : B0 ≤ w.heap.size) :
    Calls Try.prog 39 #[.pointer (some ⟨p, 0, none⟩), .pointer (some ⟨q, 0, none⟩), .int .i32 85] w (ReadPost w p q B0 l (Ent.rdL one l (e, s) 85)) := by
  obtain ⟨K, D, hE, hK, hD, hne, hR⟩ := hN
  simp only at hE hK hD hR
  obtain ⟨x1, s1, h1⟩ : ∃ x s', Ent.rnum l 1 s = (x, s') := ⟨_, _, rfl⟩
  have hr : Ent.rdL one l (e, s) 85 = ({ e with undo := one x1 }, s1) := by simp [Ent.rdL, h1]
  rw [hr]
  have cc := ru8_any p s l w hR hl
  unfold Ru8Post at cc
  rw [h1] at cc
  have by1 : x1 < 256 := by have hq := Ent.rnum_lt l hR.small 1 s; rw [h1] at hq; exact hq
  have C := Lib.hid cc
  have HE := Lib.hid hE
  have HK := Lib.hid hK
  have HD := Lib.hid hD
  have HNE := Lib.hid hne
  have HR := Lib.hid hR
  clear hr cc hE hK hD hne hR h1
  go_enter Try.func39, Try.ntmps39
  go_wp2_with fail
  with_reducible refine C.out.mono ?_
  rintro x w1 ⟨rfl, hR1, hg1⟩
  have LE := HE.out.grown hg1 (fun e => by injection e; omega)
  have f1 : w1.cell? ⟨q, 7, none⟩ = some (.bool e.undo) := LE.cell 7
  have g1 : w1.frozen? ⟨q, 7, none⟩ = false := LE.free 7
  have HR1 := Lib.hid hR1
  have HG1 := Lib.hid hg1
  have HK1 := Lib.hid (HK.out.grownOther hg1 (HR.out.own_ne HK.out))
  have HD1 := Lib.hid (HD.out.grownOther hg1 (HR.out.own_ne HD.out))
  clear LE hR1 hg1 C
  go_wp2
  go_end0
  have hu : (((x1 : Nat) : Int) == 1) = one x1 := by rw [Bool.eq_iff_iff]; simp [one]; omega
  rw [hu]
  exact read_close HR1.out HG1.out HE.out hpq rfl HK1.out HD1.out HNE.out

set_option maxRecDepth 100000 in
set_option maxHeartbeats 1000000 in
theorem read_67 (p q B0 : Nat) (l : List Nat) (s : Ent.St) (e : Note) (w : World) (hN : NoteAt w p q B0 l (e, s)) (hpq : p < q) (hl : l.length ≤ 100000) (hB : B0 ≤ w.heap.size) :
    Calls Try.prog 39 #[.pointer (some ⟨p, 0, none⟩), .pointer (some ⟨q, 0, none⟩), .int .i32 67] w (ReadPost w p q B0 l (Ent.rdL one l (e, s) 67)) := by
  obtain ⟨K, D, hE, hK, hD, hne, hR⟩ := hN
  simp only at hE hK hD hR
  obtain ⟨x1, s1, h1⟩ : ∃ x s', Ent.rnum l 1 s = (x, s') := ⟨_, _, rfl⟩
  have hr : Ent.rdL one l (e, s) 67 = ({ e with code := ((x1 : Nat) : Int) }, s1) := by simp [Ent.rdL, h1]
  rw [hr]
  have cc := ru8_any p s l w hR hl
  unfold Ru8Post at cc
  rw [h1] at cc
  have by1 : x1 < 256 := by have hq := Ent.rnum_lt l hR.small 1 s; rw [h1] at hq; exact hq
  have C := Lib.hid cc
  have HE := Lib.hid hE
  have HK := Lib.hid hK
  have HD := Lib.hid hD
  have HNE := Lib.hid hne
  have HR := Lib.hid hR
  clear hr cc hE hK hD hne hR h1
  go_enter Try.func39, Try.ntmps39
  go_wp2_with fail
  with_reducible refine C.out.mono ?_
  rintro x w1 ⟨rfl, hR1, hg1⟩
  have LE := HE.out.grown hg1 (fun e => by injection e; omega)
  have f1 : w1.cell? ⟨q, 8, none⟩ = some (.int .i64 e.code) := LE.cell 8
  have g1 : w1.frozen? ⟨q, 8, none⟩ = false := LE.free 8
  have HR1 := Lib.hid hR1
  have HG1 := Lib.hid hg1
  have HK1 := Lib.hid (HK.out.grownOther hg1 (HR.out.own_ne HK.out))
  have HD1 := Lib.hid (HD.out.grownOther hg1 (HR.out.own_ne HD.out))
  clear LE hR1 hg1 C
  go_wp2
  go_end0
  exact read_close HR1.out HG1.out HE.out hpq rfl HK1.out HD1.out HNE.out

set_option maxRecDepth 100000 in
set_option maxHeartbeats 1000000 in
theorem read_75 (p q B0 : Nat) (l : List Nat) (s : Ent.St) (e : Note) (w : World) (hN : NoteAt w p q B0 l (e, s)) (hpq : p < q) (hl : l.length ≤ 100000) (hB : B0 ≤ w.heap.size) :
    Calls Try.prog 39 #[.pointer (some ⟨p, 0, none⟩), .pointer (some ⟨q, 0, none⟩), .int .i32 75] w (ReadPost w p q B0 l (Ent.rdL one l (e, s) 75)) := by
  obtain ⟨K, D, hE, hK, hD, hne, hR⟩ := hN
  simp only at hE hK hD hR
  obtain ⟨x1, s1, h1⟩ : ∃ x s', Ent.rtxt l s = (x, s') := ⟨_, _, rfl⟩
  have hr : Ent.rdL one l (e, s) 75 = ({ e with key := x1 }, s1) := by simp [Ent.rdL, h1]
  rw [hr]
  have cc := rtext_any p s l w hR hl
  unfold RtPost at cc
  rw [h1] at cc
  have C := Lib.hid cc
  have HE := Lib.hid hE
  have HK := Lib.hid hK
  have HD := Lib.hid hD
  have HNE := Lib.hid hne
  have HR := Lib.hid hR
  clear hr cc hE hK hD hne hR h1
  go_enter Try.func39, Try.ntmps39
  go_wp2_with fail
  with_reducible refine C.out.mono ?_
  rintro x w1 ⟨v1, rfl, hO1, hR1, hg1⟩
  obtain ⟨A1, d1, hv1, _, _, _, _⟩ := hO1.slice
  obtain ⟨n1, hn1⟩ : ∃ n, x1.length = n := ⟨_, rfl⟩
  rw [hn1] at hv1
  subst hv1
  have HO1 := Lib.hid hO1
  clear hO1 hn1
  have LE := HE.out.grown hg1 (fun e => by injection e; omega)
  have f1 : w1.cell? ⟨q, 9, none⟩ = some (K) := LE.cell 9
  have g1 : w1.frozen? ⟨q, 9, none⟩ = false := LE.free 9
  have HR1 := Lib.hid hR1
  have HG1 := Lib.hid hg1
  have HK1 := Lib.hid (HK.out.grownOther hg1 (HR.out.own_ne HK.out))
  have HD1 := Lib.hid (HD.out.grownOther hg1 (HR.out.own_ne HD.out))
  clear LE hR1 hg1 C
  go_wp2
  go_end0
  refine read_close HR1.out HG1.out HE.out hpq rfl (HO1.out.mono hB) HD1.out (fun g hg hg2 => ?_)
  have h2 := HO1.out.block g hg
  have h3 := HD.out.lt g hg2
  omega

set_option maxRecDepth 100000 in
set_option maxHeartbeats 1000000 in
theorem read_68 (p q B0 : Nat) (l : List Nat) (s : Ent.St) (e : Note) (w : World) (hN : NoteAt w p q B0 l (e, s)) (hpq : p < q) (hl : l.length ≤ 100000) (hB : B0 ≤ w.heap.size) :
    Calls Try.prog 39 #[.pointer (some ⟨p, 0, none⟩), .pointer (some ⟨q, 0, none⟩), .int .i32 68] w (ReadPost w p q B0 l (Ent.rdL one l (e, s) 68)) := by
  obtain ⟨K, D, hE, hK, hD, hne, hR⟩ := hN
  simp only at hE hK hD hR
  obtain ⟨x1, s1, h1⟩ : ∃ x s', Ent.rtxt l s = (x, s') := ⟨_, _, rfl⟩
  have hr : Ent.rdL one l (e, s) 68 = ({ e with data := x1 }, s1) := by simp [Ent.rdL, h1]
  rw [hr]
  have cc := rtext_any p s l w hR hl
  unfold RtPost at cc
  rw [h1] at cc
  have C := Lib.hid cc
  have HE := Lib.hid hE
  have HK := Lib.hid hK
  have HD := Lib.hid hD
  have HNE := Lib.hid hne
  have HR := Lib.hid hR
  clear hr cc hE hK hD hne hR h1
  go_enter Try.func39, Try.ntmps39
  go_wp2_with fail
  with_reducible refine C.out.mono ?_
  rintro x w1 ⟨v1, rfl, hO1, hR1, hg1⟩
  obtain ⟨A1, d1, hv1, _, _, _, _⟩ := hO1.slice
  obtain ⟨n1, hn1⟩ : ∃ n, x1.length = n := ⟨_, rfl⟩
  rw [hn1] at hv1
  subst hv1
  have HO1 := Lib.hid hO1
  clear hO1 hn1
  have LE := HE.out.grown hg1 (fun e => by injection e; omega)
  have f1 : w1.cell? ⟨q, 10, none⟩ = some (D) := LE.cell 10
  have g1 : w1.frozen? ⟨q, 10, none⟩ = false := LE.free 10
  have HR1 := Lib.hid hR1
  have HG1 := Lib.hid hg1
  have HK1 := Lib.hid (HK.out.grownOther hg1 (HR.out.own_ne HK.out))
  have HD1 := Lib.hid (HD.out.grownOther hg1 (HR.out.own_ne HD.out))
  clear LE hR1 hg1 C
  go_wp2
  go_end0
  refine read_close HR1.out HG1.out HE.out hpq rfl HK1.out (HO1.out.mono hB) (fun g hg hg2 => ?_)
  have h2 := HO1.out.block g hg2
  have h3 := HK.out.lt g hg
  omega

theorem read_any (p q B0 : Nat) (l : List Nat) (x : Note × Ent.St) (c : Nat) (hc : c ∈ Ent.alpha) (w : World) (hN : NoteAt w p q B0 l x) (hpq : p < q) (hl : l.length ≤ 100000) (hB : B0 ≤ w.heap.size) :
    Calls Try.prog 39 #[.pointer (some ⟨p, 0, none⟩), .pointer (some ⟨q, 0, none⟩), .int .i32 (c : Nat)] w (ReadPost w p q B0 l (Ent.rdL one l x c)) := by
  obtain ⟨e, s⟩ := x
  rcases Ent.alpha_cases hc with rfl | rfl | rfl | rfl | rfl | rfl | rfl | rfl | rfl | rfl
  · exact read_69 p q B0 l s e w hN hpq hl hB
  · exact read_80 p q B0 l s e w hN hpq hl hB
  · exact read_76 p q B0 l s e w hN hpq hl hB
  · exact read_84 p q B0 l s e w hN hpq hl hB
  · exact read_79 p q B0 l s e w hN hpq hl hB
  · exact read_83 p q B0 l s e w hN hpq hl hB
  · exact read_85 p q B0 l s e w hN hpq hl hB
  · exact read_67 p q B0 l s e w hN hpq hl hB
  · exact read_75 p q B0 l s e w hN hpq hl hB
  · exact read_68 p q B0 l s e w hN hpq hl hB

end Go.Proofs.Ytjjkjppaiejajaa
