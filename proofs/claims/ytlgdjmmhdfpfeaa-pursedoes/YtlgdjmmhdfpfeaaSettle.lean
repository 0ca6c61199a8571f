/-
  The contracts of what settles a payment with its account.
-/
import Derived.Test.YtlgdjmmhdfpfeaaHasP
import Derived.Test.YtlgdjmmhdfpfeaaPutS
namespace Go.Proofs.Ytlgdjmmhdfpfeaa
open Go.RowKit
set_option maxRecDepth 100000
set_option linter.unusedVariables false
set_option linter.unusedSimpArgs false

def MovPost (w : World) (b : SB) (q : Ss) (o c : Nat) (e : Ending) (w' : World) : Prop :=
  e = .returned (.int .i64 (verd (movV q o c))) ∧ At w' b (movS q o c) ∧ Frm w w' b
theorem mov_no {q : Ss} (hI : Inv q) {o c : Nat} (h : findH (stH q.H (frS c)) o = none) : movV q o c = false := by
  rw [← Bool.not_eq_true, movV_iff]
  rintro ⟨y, h1, h2⟩
  rw [findH_st hI.hs, h1] at h
  dsimp only at h
  rw [if_pos h2] at h
  cases h
theorem PutW.trans {w w' w'' : World} {g : Nat} {t : TypeId} {cs ds : Array Value} (h : PutW w w' g t cs) (h' : PutW w' w'' g t ds) : PutW w w'' g t ds :=
  ⟨h'.lies, ⟨h'.grown.os.trans h.grown.os, h'.grown.tape.trans h.grown.tape, h'.grown.output.trans h.grown.output, Nat.le_trans h.grown.size h'.grown.size, fun i hi hn => (h'.grown.block i (by rw [h.size]; exact hi) hn).trans (h.grown.block i hi hn)⟩, h'.size.trans h.size⟩
theorem PutW.other {w w' : World} {g : Nat} {t : TypeId} {cs : Array Value} (h : PutW w w' g t cs) {i : Nat} (hi : i < w.heap.size) (hn : i ≠ g) : w'.heap[i]? = w.heap[i]? := h.grown.block i hi (fun e => hn (Option.some.inj e))
theorem PutW.lies_other {w w' : World} {g : Nat} {t : TypeId} {cs : Array Value} (h : PutW w w' g t cs) {i : Nat} {u : TypeId} {ds : Array Value} (hL : Lies w i u ds) (hn : i ≠ g) : Lies w' i u ds := hL.same (h.other hL.lt hn)
theorem AtM.put {w w' : World} {b : SB} {K : List Kd} {P1 P2 P3 : List Hd} (h : AtM w b K P1 P2 P3) {g : Nat} {t : TypeId} {cs ds : Array Value} {u : TypeId} (hp : PutW w w' g t cs) (hL : Lies w g u ds) (hn : g ≠ b.s) : AtM w' b K P1 P2 P3 :=
  h.same (hp.other h.c.lt (Ne.symm hn)) fun j hj => hp.other (h.map_lt hj) (fun e => h.map_ne hL (by rw [← e]; exact hj))
theorem Frm.put {w w' w'' : World} {b : SB} (h : Frm w w' b) {g : Nat} {t : TypeId} {cs : Array Value} (hp : PutW w' w'' g t cs) (hg : w.heap.size ≤ g) : Frm w w'' b :=
  ⟨hp.grown.os.trans h.os, hp.grown.tape.trans h.tape, hp.grown.output.trans h.output, by rw [hp.size]; exact h.size, fun i hi h1 => (hp.other (Nat.lt_of_lt_of_le hi h.size) (by omega)).trans (h.block i hi h1)⟩

theorem settle0_any (g : Nat) (k : Kd) (m : Int) (w : World) (hL : Lies w g 46 #[encStr k.n, .int .i64 k.m, .int .i64 k.h]) (hk : 0 ≤ k.h ∧ k.h ≤ k.m ∧ k.m ≤ 1000000000) (hm : 1 ≤ m ∧ m ≤ 1000000000) :
    Calls Try.prog 42 #[.pointer (some ⟨g, 0, none⟩), .int .i64 m] w fun e w' => e = .returned (.tuple #[]) ∧ PutW w w' g 46 #[encStr k.n, .int .i64 (k.m - m), .int .i64 (k.h - m)] := by
  have HL := Lib.hid hL
  obtain ⟨c0, c1, c2⟩ := hL.cells3
  obtain ⟨f0, f1, f2⟩ := hL.free3
  have e1 : IntKind.i64.wrap (k.h - m) = k.h - m := IntWalk.i64_in _ (by omega)
  have e2 : IntKind.i64.wrap (k.m - m) = k.m - m := IntWalk.i64_in _ (by omega)
  clear hL
  go_enter Try.func42, Try.ntmps42
  go_wp2
  go_end0
  exact ⟨rfl, (putW (i := 2) HL.out (.int .i64 (k.h - m))).trans (putW (i := 1) (HL.out.put 2 (.int .i64 (k.h - m))) (.int .i64 (k.m - m)))⟩
theorem settle1_any (g : Nat) (k : Kd) (m : Int) (w : World) (hL : Lies w g 46 #[encStr k.n, .int .i64 k.m, .int .i64 k.h]) (hk : 0 ≤ k.h ∧ k.h ≤ k.m ∧ k.m ≤ 1000000000) (hm : 1 ≤ m ∧ m ≤ 1000000000) :
    Calls Try.prog 43 #[.pointer (some ⟨g, 0, none⟩), .int .i64 m] w fun e w' => e = .returned (.tuple #[]) ∧ PutW w w' g 46 #[encStr k.n, .int .i64 k.m, .int .i64 (k.h - m)] := by
  have HL := Lib.hid hL
  obtain ⟨c0, c1, c2⟩ := hL.cells3
  obtain ⟨f0, f1, f2⟩ := hL.free3
  have e1 : IntKind.i64.wrap (k.h - m) = k.h - m := IntWalk.i64_in _ (by omega)
  clear hL
  go_enter Try.func43, Try.ntmps43
  go_wp2
  go_end0
  exact ⟨rfl, putW (i := 2) HL.out (.int .i64 (k.h - m))⟩
theorem settle2_any (g : Nat) (k : Kd) (m : Int) (w : World) (hL : Lies w g 46 #[encStr k.n, .int .i64 k.m, .int .i64 k.h]) (hk : 0 ≤ k.h ∧ k.h ≤ k.m ∧ k.m ≤ 1000000000) (hm : 1 ≤ m ∧ m ≤ 1000000000) :
    Calls Try.prog 41 #[.pointer (some ⟨g, 0, none⟩), .int .i64 m] w fun e w' => e = .returned (.tuple #[]) ∧ PutW w w' g 46 #[encStr k.n, .int .i64 (k.m + m), .int .i64 k.h] := by
  have HL := Lib.hid hL
  obtain ⟨c0, c1, c2⟩ := hL.cells3
  obtain ⟨f0, f1, f2⟩ := hL.free3
  have e1 : IntKind.i64.wrap (k.m + m) = k.m + m := IntWalk.i64_in _ (by omega)
  clear hL
  go_enter Try.func41, Try.ntmps41
  go_wp2
  go_end0
  exact ⟨rfl, putW (i := 1) HL.out (.int .i64 (k.m + m))⟩

end Go.Proofs.Ytlgdjmmhdfpfeaa
