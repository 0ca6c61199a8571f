/-
  Texts of one proof, in their order: StStk, StEndF, StEndS, StHold, StSmall, StCmp, StRowE, StSortE, StAppE, StStillS, StPutS.
-/
import Derived.Lib.Bytealg
import Derived.Lib.Walk
import Derived.Maps.AppendAt
import Derived.Laws.MakeOwn
import Derived.Sort.OwnSorted
import Derived.StillTailTactics
import Derived.Test.YtpbclmnhkmcknaaGreatB08
namespace Go.Proofs.YtpbclmnhkmcknaaGreat.St
open Go.RowKit Go.Maps
set_option maxRecDepth 100000
set_option linter.unusedVariables false
set_option linter.unusedSimpArgs false

theorem Lies.cells2 {w : World} {g : Nat} {t : TypeId} {a b : Value} (h : Lies w g t #[a, b]) : w.cell? ⟨g, 0, none⟩ = some a ∧ w.cell? ⟨g, 1, none⟩ = some b := ⟨h.cell 0, h.cell 1⟩
theorem Lies.cells3 {w : World} {g : Nat} {t : TypeId} {a b c : Value} (h : Lies w g t #[a, b, c]) : w.cell? ⟨g, 0, none⟩ = some a ∧ w.cell? ⟨g, 1, none⟩ = some b ∧ w.cell? ⟨g, 2, none⟩ = some c := ⟨h.cell 0, h.cell 1, h.cell 2⟩
theorem Lies.free3 {w : World} {g : Nat} {t : TypeId} {cs : Array Value} (h : Lies w g t cs) : w.frozen? ⟨g, 0, none⟩ = false ∧ w.frozen? ⟨g, 1, none⟩ = false ∧ w.frozen? ⟨g, 2, none⟩ = false := ⟨h.free 0, h.free 1, h.free 2⟩
theorem Lies.same {w w' : World} {g : Nat} {t : TypeId} {cs : Array Value} (h : Lies w g t cs) (e : w'.heap[g]? = w.heap[g]?) : Lies w' g t cs := e.trans h

/-- The blocks of a stock. -/
structure SB where
  s : Nat
  k : Nat
  h : Nat
structure At (w : World) (b : SB) (q : Ss) : Prop where
  c : Lies w b.s 175 #[.map (some b.k), .map (some b.h)]
  ok : OwnK w b.k q.K
  oh : OwnH w b.h q.H
  n : b.k ≠ b.h
theorem At.nk {w : World} {b : SB} {q : Ss} (h : At w b q) : b.k ≠ b.s := fun e => by
  obtain ⟨D, ⟨es, clock, hb, -⟩, -⟩ := h.ok
  have := h.c
  unfold Lies at this
  rw [← e, hb] at this
  cases this
theorem At.nh {w : World} {b : SB} {q : Ss} (h : At w b q) : b.h ≠ b.s := fun e => by
  obtain ⟨D, ⟨es, clock, hb, -⟩, -⟩ := h.oh
  have := h.c
  unfold Lies at this
  rw [← e, hb] at this
  cases this

/-- Nothing but the two maps, and what is new, has turned. -/
structure Frm (w w' : World) (b : SB) : Prop where
  os : w'.os = w.os
  tape : w'.tape = w.tape
  output : w'.output = w.output
  size : w.heap.size ≤ w'.heap.size
  block : ∀ i, i < w.heap.size → i ≠ b.k → i ≠ b.h → w'.heap[i]? = w.heap[i]?
theorem Frm.trans {w w' w'' : World} {b : SB} (h : Frm w w' b) (h' : Frm w' w'' b) : Frm w w'' b :=
  ⟨h'.os.trans h.os, h'.tape.trans h.tape, h'.output.trans h.output, Nat.le_trans h.size h'.size, fun i hi h1 h2 => (h'.block i (Nat.lt_of_lt_of_le hi h.size) h1 h2).trans (h.block i hi h1 h2)⟩
theorem Frm.of_below {w w' : World} (b : SB) (h : Below w.heap.size w w') : Frm w w' b := ⟨h.os, h.tape, h.output, h.size, fun i hi _ _ => h.block i hi⟩
theorem Frm.of_grown {w w' : World} {b : SB} {r : Nat} (h : w.grownBy w' (some r)) (hr : r = b.k ∨ r = b.h) : Frm w w' b :=
  ⟨h.os, h.tape, h.output, h.size, fun i hi h1 h2 => h.block i hi (fun e => by injection e with e; subst e; rcases hr with hr | hr <;> contradiction)⟩
theorem Frm.drew {w w' : World} {b : SB} (h : Frm w w' b) : Frm w w'.drew b := ⟨h.os, h.tape, h.output, h.size, h.block⟩
theorem Frm.alloc {w w' : World} {b : SB} (h : Frm w w' b) (o : Obj) : Frm w (w'.alloc o) b := h.trans (Frm.of_below b (below1 w' o))
theorem Frm.lies {w w' : World} {b : SB} (h : Frm w w' b) {g : Nat} {t : TypeId} {cs : Array Value} (hL : Lies w g t cs) (h1 : g ≠ b.k) (h2 : g ≠ b.h) : Lies w' g t cs := hL.same (h.block g hL.lt h1 h2)
theorem Frm.below {w w' a : World} {b : SB} {B : Nat} (h : Frm w w' b) (hb : Below B a w) (hB : B ≤ w.heap.size) (h1 : B ≤ b.k) (h2 : B ≤ b.h) : Below B a w' :=
  ⟨h.os.trans hb.os, h.tape.trans hb.tape, h.output.trans hb.output, Nat.le_trans hb.size h.size, fun k hk => (h.block k (by omega) (by omega) (by omega)).trans (hb.block k hk)⟩

theorem At.below {w w' : World} {b : SB} {q : Ss} (h : At w b q) (hb : Below w.heap.size w w') : At w' b q :=
  ⟨h.c.same (hb.block _ h.c.lt), h.ok.same (hb.block _ h.ok.lt), h.oh.same (hb.block _ h.oh.lt), h.n⟩
theorem At.alloc {w : World} {b : SB} {q : Ss} (h : At w b q) (o : Obj) : At (w.alloc o) b q := h.below (below1 w o)
theorem At.drew {w : World} {b : SB} {q : Ss} (h : At w b q) : At w.drew b q := ⟨h.c, h.ok, h.oh, h.n⟩
theorem At.setCell {w : World} {b : SB} {q : Ss} (h : At w b q) {g : Nat} {t : TypeId} {cs : Array Value} (hL : Lies w g t cs) (hn : g ≠ b.s) (i : Nat) (v : Value) : At (w.setCell ⟨g, i, none⟩ v) b q := by
  have hk : b.k ≠ g := fun e => by
    obtain ⟨D, ⟨es, clock, hb, -⟩, -⟩ := h.ok
    unfold Lies at hL
    rw [← e, hb] at hL
    cases hL
  have hh : b.h ≠ g := fun e => by
    obtain ⟨D, ⟨es, clock, hb, -⟩, -⟩ := h.oh
    unfold Lies at hL
    rw [← e, hb] at hL
    cases hL
  exact ⟨h.c.other (Ne.symm hn) v, h.ok.same (heap_setCell_other w _ _ v hk), h.oh.same (heap_setCell_other w _ _ v hh), h.n⟩
theorem At.turnK {w w' : World} {b : SB} {q : Ss} {K' : List Kd} (h : At w b q) (ho : OwnK w' b.k K') (ht : w.mapTurned w' b.k) : At w' b ⟨K', q.H⟩ ∧ Frm w w' b := by
  have hF := Frm.of_grown (b := b) ht.grown (.inl rfl)
  have hg := ht.grown
  exact ⟨⟨h.c.same (hg.block _ h.c.lt (fun e => h.nk (by injection e with e; exact e.symm))), ho, h.oh.same (hg.block _ h.oh.lt (fun e => h.n (by injection e with e; exact e.symm))), h.n⟩, hF⟩
theorem At.turnH {w w' : World} {b : SB} {q : Ss} {H' : List Hd} (h : At w b q) (ho : OwnH w' b.h H') (ht : w.mapTurned w' b.h) : At w' b ⟨q.K, H'⟩ ∧ Frm w w' b := by
  have hF := Frm.of_grown (b := b) ht.grown (.inr rfl)
  have hg := ht.grown
  exact ⟨⟨h.c.same (hg.block _ h.c.lt (fun e => h.nh (by injection e with e; exact e.symm))), h.ok.same (hg.block _ h.ok.lt (fun e => h.n (by injection e with e))), ho, h.n⟩, hF⟩

/-- A store into a map, where the order is open. -/
theorem stp_upd {ops : Array Oper} {a : Act} {w : World} {K : Act → World → Prop} {Q : Exit → Act → World → Prop} {E : Prop} (dst : Option Tmp) (ty : TypeId) (pos : String) (aft : Array Edge) (t : TypeId) (m k v : Operand)
    (mv kv vv : Value) (w' : World) (hm : a.eval m = mv) (hk : a.eval k = kv) (hv : a.eval v = vv) (hrun : (Instr.mapUpdate t mv kv vv).run Tryz.prog w = .ok () w') (h : K (a.put dst undef) w') :
    if Region.wanted ⟨dst, .mapUpdate t m k v, ty, pos, aft, none⟩ (yielded ops a.tmps) = true then Oper.wp Tryz.prog ⟨dst, .mapUpdate t m k v, ty, pos, aft, none⟩ a w K Q else E := by
  rw [if_pos (by simp [Region.wanted])]
  unfold Oper.wp
  simp [execOp, hm, hk, hv, hrun, Result.andThen]
  exact h
end Go.Proofs.YtpbclmnhkmcknaaGreat.St

namespace Go.Proofs.YtpbclmnhkmcknaaGreat.St
open Go.RowKit
set_option maxRecDepth 100000
set_option linter.unusedVariables false
set_option linter.unusedSimpArgs false

def EndPost (w : World) (b : SB) (q : Ss) (o : Nat) (t : Bool) (e : Ending) (w' : World) : Prop :=
  e = .returned (.int .i64 (verd (endV q o))) ∧ At w' b (endS q o t) ∧ Frm w w' b
theorem frm_set {w w' : World} {b : SB} (h : Frm w w' b) {g : Nat} (hg : w.heap.size ≤ g) (i : Nat) (v : Value) : Frm w (w'.setCell ⟨g, i, none⟩ v) b :=
  ⟨by rw [← h.os]; rfl, by rw [← h.tape]; rfl, by rw [← h.output]; rfl, by simpa using h.size, fun k hk h1 h2 => (heap_setCell_other w' ⟨g, i, none⟩ k v (by show k ≠ g; omega)).trans (h.block k hk h1 h2)⟩
set_option maxHeartbeats 4000000 in
theorem free_end (b : SB) (q : Ss) (o : Nat) (w : World) (hA : At w b q) (hI : Inv q) (ho : o < 4294967296) :
    Calls Tryz.prog 190 #[.pointer (some ⟨b.s, 0, none⟩), .int .u32 (o : Int), .int .i64 0] w (EndPost w b q o false) := by
  have HA := Lib.hid hA
  have HI := Lib.hid hI
  obtain ⟨c0, c1⟩ := hA.c.cells2
  have r1 := hA.oh.look_ok o ho
  cases hf : findH q.H o with
  | none =>
    have HF := Lib.hid hf
    rw [hf] at r1
    dsimp only [Option.getD_none, Option.isSome_none] at r1
    clear hA hI hf c0
    go_enter Tryz.func190, Tryz.ntmps190
    go_wp2
    go_ret
    refine ⟨by unfold endV; rw [HF.out]; rfl, ?_, Frm.of_below b (below1 _ _)⟩
    rw [endS_no HF.out]
    exact HA.out.alloc _
  | some y =>
    rw [hf] at r1
    dsimp only [Option.getD_some, Option.isSome_some] at r1
    obtain ⟨hy, rfl⟩ := findH_some hf
    obtain ⟨k, hk, hm, hkn⟩ := hI.kn hy
    have HFO := Lib.hid hf
    have HK := Lib.hid hk
    have HM := Lib.hid (And.intro hm hkn)
    have HEV : Hid (endV q y.o = true) := Lib.hid (by unfold endV; rw [hf]; rfl)
    have HYL : Hid (y.n.length ≤ maxLen) := Lib.hid (by have := (hI.kb hy).2; unfold maxLen; omega)
    have hb1 : 1 ≤ y.k := (hI.hh y hy).1
    have hb2 : y.k ≤ 1000000 := (hI.kb hy).1
    have hb3 : 0 ≤ k.f ∧ 0 ≤ k.g ∧ k.f ≤ 1000000 ∧ k.g ≤ 1000000 := by
      have h1 := hI.kf k hm
      have h2 := held_nonneg (fun z hz => (hI.hh z hz).1) k.n
      omega
    obtain ⟨hb4, hb5, hb6, hb7⟩ := hb3
    have HA1 := Lib.hid (hA.alloc (.cells #[encStr y.n, .int .i64 y.k] 279))
    obtain ⟨w2, hd1, hd2, hd3⟩ := HA1.out.oh.del hI.hs y hy ho 0
    obtain ⟨d0, d1⟩ := HA1.out.c.cells2
    obtain ⟨hA2, hF2⟩ := HA1.out.turnH hd2 hd3
    have HA2 := Lib.hid hA2
    have HF2 := Lib.hid ((Frm.of_below b (below1 w (.cells #[encStr y.n, .int .i64 y.k] 279))).trans hF2)
    have L2 := Lib.hid (hF2.lies (Lies.made w 279 #[encStr y.n, .int .i64 y.k]) (Nat.ne_of_gt hA.ok.lt) (Nat.ne_of_gt hA.oh.lt))
    have HNE : Hid (w.heap.size ≠ w2.heap.size ∧ b.s ≠ w2.heap.size) := Lib.hid ⟨Nat.ne_of_lt L2.out.lt, Nat.ne_of_lt hA2.c.lt⟩
    have HNK : Hid (w.heap.size ≠ b.k ∧ w.heap.size ≠ b.h ∧ w2.heap.size ≠ b.k ∧ w2.heap.size ≠ b.h) := Lib.hid ⟨Nat.ne_of_gt hA.ok.lt, Nat.ne_of_gt hA.oh.lt, Nat.ne_of_gt hA2.ok.lt, Nat.ne_of_gt hA2.oh.lt⟩
    clear hA hI hf hk hm hkn hy hA2 hF2 hd2 hd3 c0
    go_enter Tryz.func190, Tryz.ntmps190
    go_wp2_with fail
    clear r1 hd1 c1 d0 d1
    refine wp_region_noPanic ?_
    refine wp_region_held_drew (S := fun W => (Lies W b.s 175 #[.map (some b.k), .map (some b.h)] ∧ Lies W w.heap.size 279 #[encStr y.n, .int .i64 y.k]) ∧ OwnK W b.k q.K) (by kernel_rfl) ⟨⟨HA2.out.c, L2.out⟩, HA2.out.ok⟩ (fun hH0 => ?_)
    refine any_take 0 28 ?va0 rfl rfl (by kernel_rfl) (by kernel_rfl) (by kernel_rfl) (fun _ _ _ h => h) (by rfl) ?hya0 hH0 ?resta0
    case hya0 => ((intro W hSw); obtain ⟨o0, o1⟩ := Lies.cells2 hSw.1.1; obtain ⟨p0, p1⟩ := Lies.cells2 hSw.1.2; have lk := hSw.2.look y.n HYL.out; rw [HK.out] at lk; dsimp only [Option.getD_some] at lk; go_simp; (try with_reducible rfl))
    try simp only [Act.put, List.setIfInBounds_toArray, List.set_cons_zero, List.set_cons_succ]
    refine any_take 1 29 ?va1 rfl rfl (by kernel_rfl) (by kernel_rfl) (by kernel_rfl) (fun _ _ _ h => h) (by rfl) ?hya1 hH0 ?resta1
    case hya1 => ((intro W hSw); obtain ⟨o0, o1⟩ := Lies.cells2 hSw.1.1; obtain ⟨p0, p1⟩ := Lies.cells2 hSw.1.2; have lk := hSw.2.look y.n HYL.out; rw [HK.out] at lk; dsimp only [Option.getD_some] at lk; go_simp; (try with_reducible rfl))
    try simp only [Act.put, List.setIfInBounds_toArray, List.set_cons_zero, List.set_cons_succ]
    refine any_take 2 30 ?va2 rfl rfl (by kernel_rfl) (by kernel_rfl) (by kernel_rfl) (fun _ _ _ h => h) (by rfl) ?hya2 hH0 ?resta2
    case hya2 => ((intro W hSw); obtain ⟨o0, o1⟩ := Lies.cells2 hSw.1.1; obtain ⟨p0, p1⟩ := Lies.cells2 hSw.1.2; have lk := hSw.2.look y.n HYL.out; rw [HK.out] at lk; dsimp only [Option.getD_some] at lk; go_simp; (try with_reducible rfl))
    try simp only [Act.put, List.setIfInBounds_toArray, List.set_cons_zero, List.set_cons_succ]
    refine any_take 3 31 ?va3 rfl rfl (by kernel_rfl) (by kernel_rfl) (by kernel_rfl) (fun _ _ _ h => h) (by rfl) ?hya3 hH0 ?resta3
    case hya3 => ((intro W hSw); obtain ⟨o0, o1⟩ := Lies.cells2 hSw.1.1; obtain ⟨p0, p1⟩ := Lies.cells2 hSw.1.2; have lk := hSw.2.look y.n HYL.out; rw [HK.out] at lk; dsimp only [Option.getD_some] at lk; go_simp; (try with_reducible rfl))
    try simp only [Act.put, List.setIfInBounds_toArray, List.set_cons_zero, List.set_cons_succ]
    refine any_take 4 32 ?va4 rfl rfl (by kernel_rfl) (by kernel_rfl) (by kernel_rfl) (fun _ _ _ h => h) (by rfl) ?hya4 hH0 ?resta4
    case hya4 => ((intro W hSw); obtain ⟨o0, o1⟩ := Lies.cells2 hSw.1.1; obtain ⟨p0, p1⟩ := Lies.cells2 hSw.1.2; have lk := hSw.2.look y.n HYL.out; rw [HK.out] at lk; dsimp only [Option.getD_some] at lk; go_simp; (try with_reducible rfl))
    try simp only [Act.put, List.setIfInBounds_toArray, List.set_cons_zero, List.set_cons_succ]
    refine any_take 5 33 ?va5 rfl rfl (by kernel_rfl) (by kernel_rfl) (by kernel_rfl) (fun _ _ _ h => h) (by rfl) ?hya5 hH0 ?resta5
    case hya5 => ((intro W hSw); obtain ⟨o0, o1⟩ := Lies.cells2 hSw.1.1; obtain ⟨p0, p1⟩ := Lies.cells2 hSw.1.2; have lk := hSw.2.look y.n HYL.out; rw [HK.out] at lk; dsimp only [Option.getD_some] at lk; go_simp; (try with_reducible rfl))
    try simp only [Act.put, List.setIfInBounds_toArray, List.set_cons_zero, List.set_cons_succ]
    refine any_take 6 34 ?va6 rfl rfl (by kernel_rfl) (by kernel_rfl) (by kernel_rfl) (fun _ _ _ h => h) (by rfl) ?hya6 hH0 ?resta6
    case hya6 => ((intro W hSw); obtain ⟨o0, o1⟩ := Lies.cells2 hSw.1.1; obtain ⟨p0, p1⟩ := Lies.cells2 hSw.1.2; have lk := hSw.2.look y.n HYL.out; rw [HK.out] at lk; dsimp only [Option.getD_some] at lk; go_simp; (try with_reducible rfl))
    try simp only [Act.put, List.setIfInBounds_toArray, List.set_cons_zero, List.set_cons_succ]
    refine wpAnyH_ready (rs := [7]) (by kernel_rfl) (by simp) ?_
    refine AllReadyH.cons rfl (fun K hK => ?_) AllReadyH.nil
    go_simp
    refine hK.out _ _ ⟨⟨(HA2.out.drew.alloc _).c, Lies.alloc (w := w2.drew) L2.out _⟩, (HA2.out.drew.alloc _).ok⟩ (fun hH1 => ?_)
    clear hK K hH0
    try simp only [Act.put, List.setIfInBounds_toArray, List.set_cons_zero, List.set_cons_succ]
    refine wpAnyH_ready (rs := [8]) (by kernel_rfl) (by simp) ?_
    refine AllReadyH.cons rfl (fun K hK => ?_) AllReadyH.nil
    go_simp
    refine hK.out _ _ ⟨⟨(HA2.out.drew.alloc _).c, Lies.alloc (w := w2.drew) L2.out _⟩, (HA2.out.drew.alloc _).ok⟩ (fun hH2 => ?_)
    clear hK K hH1
    try simp only [Act.put, List.setIfInBounds_toArray, List.set_cons_zero, List.set_cons_succ]
    clear hH2
    refine wpAnyH_done (by kernel_rfl) ?_ _
    refine NoPanic.normal ?_
    obtain ⟨W3, hW3⟩ : ∃ W3, W3 = (w2.alloc (.cells #[encStr k.n, .int .i64 k.f, .int .i64 k.g] 178)).drew := ⟨_, rfl⟩
    rw [← hW3]
    have HA3 : Hid (At W3 b ⟨q.K, delH q.H y.o⟩) := Lib.hid (by rw [hW3]; exact (HA2.out.alloc _).drew)
    have L3 : Hid (Lies W3 w.heap.size 279 #[encStr y.n, .int .i64 y.k]) := Lib.hid (by rw [hW3]; exact Lies.alloc (w := w2) L2.out _)
    have M3 : Hid (Lies W3 w2.heap.size 178 #[encStr k.n, .int .i64 k.f, .int .i64 k.g]) := Lib.hid (by rw [hW3]; exact Lies.made w2 _ _)
    have HF3 : Hid (Frm w W3 b) := Lib.hid (by rw [hW3]; exact (HF2.out.alloc _).drew)
    clear hW3
    go_wp2_with fail
    have ew : IntKind.i64.wrap (k.f + y.k) = k.f + y.k := IntWalk.i64_in _ (by omega)
    obtain ⟨m0, m1, m2⟩ := Lies.cells3 M3.out
    obtain ⟨mf0, mf1, mf2⟩ := Lies.free3 M3.out
    refine wp_region_noPanic ?_
    refine wp_region_held_drew (S := fun W => Lies W b.s 175 #[.map (some b.k), .map (some b.h)] ∧ Lies W w.heap.size 279 #[encStr y.n, .int .i64 y.k]) (by kernel_rfl) ⟨HA3.out.c, L3.out⟩ (fun hH0 => ?_)
    refine any_take 0 35 ?vb0 rfl rfl (by kernel_rfl) (by kernel_rfl) (by kernel_rfl) (fun _ _ _ h => h) (by rfl) ?hyb0 hH0 ?restb0
    case hyb0 => ((intro W hSw); obtain ⟨o0, o1⟩ := Lies.cells2 hSw.1; obtain ⟨p0, p1⟩ := Lies.cells2 hSw.2; go_simp; (try with_reducible rfl))
    try simp only [Act.put, List.setIfInBounds_toArray, List.set_cons_zero, List.set_cons_succ]
    refine any_take 1 36 ?vb1 rfl rfl (by kernel_rfl) (by kernel_rfl) (by kernel_rfl) (fun _ _ _ h => h) (by rfl) ?hyb1 hH0 ?restb1
    case hyb1 => ((intro W hSw); obtain ⟨o0, o1⟩ := Lies.cells2 hSw.1; obtain ⟨p0, p1⟩ := Lies.cells2 hSw.2; go_simp; (try with_reducible rfl))
    try simp only [Act.put, List.setIfInBounds_toArray, List.set_cons_zero, List.set_cons_succ]
    refine any_take 2 37 ?vb2 rfl rfl (by kernel_rfl) (by kernel_rfl) (by kernel_rfl) (fun _ _ _ h => h) (by rfl) ?hyb2 hH0 ?restb2
    case hyb2 => ((intro W hSw); obtain ⟨o0, o1⟩ := Lies.cells2 hSw.1; obtain ⟨p0, p1⟩ := Lies.cells2 hSw.2; go_simp; (try with_reducible rfl))
    try simp only [Act.put, List.setIfInBounds_toArray, List.set_cons_zero, List.set_cons_succ]
    refine any_take 4 39 ?vb4 rfl rfl (by kernel_rfl) (by kernel_rfl) (by kernel_rfl) (fun _ _ _ h => h) (by rfl) ?hyb4 hH0 ?restb4
    case hyb4 => ((intro W hSw); obtain ⟨o0, o1⟩ := Lies.cells2 hSw.1; obtain ⟨p0, p1⟩ := Lies.cells2 hSw.2; go_simp; (try with_reducible rfl))
    try simp only [Act.put, List.setIfInBounds_toArray, List.set_cons_zero, List.set_cons_succ]
    refine any_take 5 40 ?vb5 rfl rfl (by kernel_rfl) (by kernel_rfl) (by kernel_rfl) (fun _ _ _ h => h) (by rfl) ?hyb5 hH0 ?restb5
    case hyb5 => ((intro W hSw); obtain ⟨o0, o1⟩ := Lies.cells2 hSw.1; obtain ⟨p0, p1⟩ := Lies.cells2 hSw.2; go_simp; (try with_reducible rfl))
    try simp only [Act.put, List.setIfInBounds_toArray, List.set_cons_zero, List.set_cons_succ]
    refine any_take 7 42 ?vb7 rfl rfl (by kernel_rfl) (by kernel_rfl) (by kernel_rfl) (fun _ _ _ h => h) (by rfl) ?hyb7 hH0 ?restb7
    case hyb7 => ((intro W hSw); obtain ⟨o0, o1⟩ := Lies.cells2 hSw.1; obtain ⟨p0, p1⟩ := Lies.cells2 hSw.2; go_simp; (try with_reducible rfl))
    try simp only [Act.put, List.setIfInBounds_toArray, List.set_cons_zero, List.set_cons_succ]
    refine wpAnyH_ready (rs := [3]) (by kernel_rfl) (by simp) ?_
    refine AllReadyH.cons rfl (fun K hK => ?_) AllReadyH.nil
    go_simp
    refine hK.out _ _ ⟨HA3.out.drew.c, L3.out⟩ (fun hH1 => ?_)
    clear hK K hH0
    try simp only [Act.put, List.setIfInBounds_toArray, List.set_cons_zero, List.set_cons_succ]
    refine any_take 6 41 ?vb6 rfl rfl (by kernel_rfl) (by kernel_rfl) (by kernel_rfl) (fun _ _ _ h => h) (by rfl) ?hyb6 hH1 ?restb6
    case hyb6 => ((intro W hSw); obtain ⟨o0, o1⟩ := Lies.cells2 hSw.1; obtain ⟨p0, p1⟩ := Lies.cells2 hSw.2; go_simp; (try with_reducible rfl))
    try simp only [Act.put, List.setIfInBounds_toArray, List.set_cons_zero, List.set_cons_succ]
    refine any_take 8 43 ?vb8 rfl rfl (by kernel_rfl) (by kernel_rfl) (by kernel_rfl) (fun _ _ _ h => h) (by rfl) ?hyb8 hH1 ?restb8
    case hyb8 => ((intro W hSw); obtain ⟨o0, o1⟩ := Lies.cells2 hSw.1; obtain ⟨p0, p1⟩ := Lies.cells2 hSw.2; go_simp; (try with_reducible rfl))
    try simp only [Act.put, List.setIfInBounds_toArray, List.set_cons_zero, List.set_cons_succ]
    refine wpAnyH_ready (rs := [9]) (by kernel_rfl) (by simp) ?_
    refine AllReadyH.cons rfl (fun K hK => ?_) AllReadyH.nil
    go_simp
    refine hK.out _ _ ⟨HA3.out.c.other (a := ⟨w2.heap.size, 1, none⟩) HNE.out.2 (.int .i64 (k.f + y.k)), L3.out.other (a := ⟨w2.heap.size, 1, none⟩) HNE.out.1 (.int .i64 (k.f + y.k))⟩ (fun hH2 => ?_)
    clear hK K hH1
    try simp only [Act.put, List.setIfInBounds_toArray, List.set_cons_zero, List.set_cons_succ]
    clear hH2
    refine wpAnyH_done (by kernel_rfl) ?_ _
    refine NoPanic.normal ?_
    obtain ⟨W4, hW4⟩ : ∃ W4, W4 = (W3.setCell ⟨w2.heap.size, 1, none⟩ (.int .i64 (k.f + y.k))).drew := ⟨_, rfl⟩
    rw [← hW4]
    have HA4 : Hid (At W4 b ⟨q.K, delH q.H y.o⟩) := Lib.hid (by rw [hW4]; exact (HA3.out.setCell (w := W3) M3.out (Ne.symm HNE.out.2) _ _).drew)
    have L4 : Hid (Lies W4 w.heap.size 279 #[encStr y.n, .int .i64 y.k]) := Lib.hid (by rw [hW4]; exact Lies.other (w := W3) L3.out HNE.out.1 _)
    have M4 : Hid (Lies W4 w2.heap.size 178 #[encStr k.n, .int .i64 (k.f + y.k), .int .i64 k.g]) := Lib.hid (by rw [hW4]; exact Lies.put (w := W3) M3.out 1 _)
    have HF4 : Hid (Frm w W4 b) := Lib.hid (by rw [hW4]; exact (frm_set HF3.out (by have := HF2.out.size; omega) _ _).drew)
    clear hW4 ew m0 m1 m2 mf0 mf1 mf2
    go_wp2_with fail
    obtain ⟨w5, hu1, hu2, hu3⟩ := HA4.out.drew.ok.upd HI.out.ks ⟨k.n, k.f + y.k, k.g⟩ k HM.out.1 rfl (by show k.n.length ≤ _; rw [HM.out.2]; exact HYL.out) (by have := HI.out.kz; show q.K.length ≤ _; omega)
    have HU := Lib.hid (And.intro hu1 (And.intro hu2 hu3))
    clear hu1 hu2 hu3
    refine wp_region_noPanic ?_
    refine wp_region_held_drew (S := fun W => (Lies W b.s 175 #[.map (some b.k), .map (some b.h)] ∧ Lies W w.heap.size 279 #[encStr y.n, .int .i64 y.k]) ∧ Lies W w2.heap.size 178 #[encStr k.n, .int .i64 (k.f + y.k), .int .i64 k.g]) (by kernel_rfl) ⟨⟨HA4.out.c, L4.out⟩, M4.out⟩ (fun hH0 => ?_)
    refine any_take 0 44 ?vc0 rfl rfl (by kernel_rfl) (by kernel_rfl) (by kernel_rfl) (fun _ _ _ h => h) (by rfl) ?hyc0 hH0 ?restc0
    case hyc0 => ((intro W hSw); obtain ⟨o0, o1⟩ := Lies.cells2 hSw.1.1; obtain ⟨p0, p1⟩ := Lies.cells2 hSw.1.2; obtain ⟨m0, m1, m2⟩ := Lies.cells3 hSw.2; go_simp; (try with_reducible rfl))
    try simp only [Act.put, List.setIfInBounds_toArray, List.set_cons_zero, List.set_cons_succ]
    refine any_take 1 45 ?vc1 rfl rfl (by kernel_rfl) (by kernel_rfl) (by kernel_rfl) (fun _ _ _ h => h) (by rfl) ?hyc1 hH0 ?restc1
    case hyc1 => ((intro W hSw); obtain ⟨o0, o1⟩ := Lies.cells2 hSw.1.1; obtain ⟨p0, p1⟩ := Lies.cells2 hSw.1.2; obtain ⟨m0, m1, m2⟩ := Lies.cells3 hSw.2; go_simp; (try with_reducible rfl))
    try simp only [Act.put, List.setIfInBounds_toArray, List.set_cons_zero, List.set_cons_succ]
    refine any_take 2 46 ?vc2 rfl rfl (by kernel_rfl) (by kernel_rfl) (by kernel_rfl) (fun _ _ _ h => h) (by rfl) ?hyc2 hH0 ?restc2
    case hyc2 => ((intro W hSw); obtain ⟨o0, o1⟩ := Lies.cells2 hSw.1.1; obtain ⟨p0, p1⟩ := Lies.cells2 hSw.1.2; obtain ⟨m0, m1, m2⟩ := Lies.cells3 hSw.2; go_simp; (try with_reducible rfl))
    try simp only [Act.put, List.setIfInBounds_toArray, List.set_cons_zero, List.set_cons_succ]
    refine any_take 3 47 ?vc3 rfl rfl (by kernel_rfl) (by kernel_rfl) (by kernel_rfl) (fun _ _ _ h => h) (by rfl) ?hyc3 hH0 ?restc3
    case hyc3 => ((intro W hSw); obtain ⟨o0, o1⟩ := Lies.cells2 hSw.1.1; obtain ⟨p0, p1⟩ := Lies.cells2 hSw.1.2; obtain ⟨m0, m1, m2⟩ := Lies.cells3 hSw.2; go_simp; (try with_reducible rfl))
    try simp only [Act.put, List.setIfInBounds_toArray, List.set_cons_zero, List.set_cons_succ]
    refine any_take 4 48 ?vc4 rfl rfl (by kernel_rfl) (by kernel_rfl) (by kernel_rfl) (fun _ _ _ h => h) (by rfl) ?hyc4 hH0 ?restc4
    case hyc4 => ((intro W hSw); obtain ⟨o0, o1⟩ := Lies.cells2 hSw.1.1; obtain ⟨p0, p1⟩ := Lies.cells2 hSw.1.2; obtain ⟨m0, m1, m2⟩ := Lies.cells3 hSw.2; go_simp; (try with_reducible rfl))
    try simp only [Act.put, List.setIfInBounds_toArray, List.set_cons_zero, List.set_cons_succ]
    refine any_take 5 49 ?vc5 rfl rfl (by kernel_rfl) (by kernel_rfl) (by kernel_rfl) (fun _ _ _ h => h) (by rfl) ?hyc5 hH0 ?restc5
    case hyc5 => ((intro W hSw); obtain ⟨o0, o1⟩ := Lies.cells2 hSw.1.1; obtain ⟨p0, p1⟩ := Lies.cells2 hSw.1.2; obtain ⟨m0, m1, m2⟩ := Lies.cells3 hSw.2; go_simp; (try with_reducible rfl))
    try simp only [Act.put, List.setIfInBounds_toArray, List.set_cons_zero, List.set_cons_succ]
    refine any_take 6 50 ?vc6 rfl rfl (by kernel_rfl) (by kernel_rfl) (by kernel_rfl) (fun _ _ _ h => h) (by rfl) ?hyc6 hH0 ?restc6
    case hyc6 => ((intro W hSw); obtain ⟨o0, o1⟩ := Lies.cells2 hSw.1.1; obtain ⟨p0, p1⟩ := Lies.cells2 hSw.1.2; obtain ⟨m0, m1, m2⟩ := Lies.cells3 hSw.2; go_simp; (try with_reducible rfl))
    try simp only [Act.put, List.setIfInBounds_toArray, List.set_cons_zero, List.set_cons_succ]
    refine wpAnyH_ready (rs := [7]) (by kernel_rfl) (by simp) ?_
    refine AllReadyH.cons rfl (fun K hK => ?_) AllReadyH.nil
    refine stp_upd none _ _ _ 172 (.tmp 47) (.tmp 49) (.tmp 50) (.map (some b.k)) (encStr y.n) (vK ⟨k.n, k.f + y.k, k.g⟩) w5 rfl rfl rfl (by rw [← HM.out.2]; exact HU.out.1) ?_
    obtain ⟨hA5, hF5⟩ := HA4.out.drew.turnK HU.out.2.1 HU.out.2.2
    have HA5 := Lib.hid hA5
    have HF5 := Lib.hid (HF4.out.drew.trans hF5)
    refine hK.out _ _ ⟨⟨hA5.c, hF5.lies (w := W4.drew) L4.out HNK.out.1 HNK.out.2.1⟩, hF5.lies (w := W4.drew) M4.out HNK.out.2.2.1 HNK.out.2.2.2⟩ (fun hH1 => ?_)
    clear hA5 hF5 hK K hH0
    try simp only [Act.put, List.setIfInBounds_toArray, List.set_cons_zero, List.set_cons_succ]
    clear hH1
    refine wpAnyH_done (by kernel_rfl) ?_ _
    refine NoPanic.normal ?_
    go_wp2
    go_ret
    refine ⟨by rw [HEV.out]; rfl, ?_, HF5.out⟩
    rw [endS_yes HFO.out HK.out]
    exact HA5.out

end Go.Proofs.YtpbclmnhkmcknaaGreat.St

namespace Go.Proofs.YtpbclmnhkmcknaaGreat.St
open Go.RowKit
set_option maxRecDepth 100000
set_option linter.unusedVariables false
set_option linter.unusedSimpArgs false

set_option maxHeartbeats 4000000 in
theorem ship_end (b : SB) (q : Ss) (o : Nat) (w : World) (hA : At w b q) (hI : Inv q) (ho : o < 4294967296) :
    Calls Tryz.prog 190 #[.pointer (some ⟨b.s, 0, none⟩), .int .u32 (o : Int), .int .i64 1] w (EndPost w b q o true) := by
  have HA := Lib.hid hA
  have HI := Lib.hid hI
  obtain ⟨c0, c1⟩ := hA.c.cells2
  have r1 := hA.oh.look_ok o ho
  cases hf : findH q.H o with
  | none =>
    have HF := Lib.hid hf
    rw [hf] at r1
    dsimp only [Option.getD_none, Option.isSome_none] at r1
    clear hA hI hf c0
    go_enter Tryz.func190, Tryz.ntmps190
    go_wp2
    go_ret
    refine ⟨by unfold endV; rw [HF.out]; rfl, ?_, Frm.of_below b (below1 _ _)⟩
    rw [endS_no HF.out]
    exact HA.out.alloc _
  | some y =>
    rw [hf] at r1
    dsimp only [Option.getD_some, Option.isSome_some] at r1
    obtain ⟨hy, rfl⟩ := findH_some hf
    obtain ⟨k, hk, hm, hkn⟩ := hI.kn hy
    have HFO := Lib.hid hf
    have HK := Lib.hid hk
    have HM := Lib.hid (And.intro hm hkn)
    have HEV : Hid (endV q y.o = true) := Lib.hid (by unfold endV; rw [hf]; rfl)
    have HYL : Hid (y.n.length ≤ maxLen) := Lib.hid (by have := (hI.kb hy).2; unfold maxLen; omega)
    have hb1 : 1 ≤ y.k := (hI.hh y hy).1
    have hb2 : y.k ≤ 1000000 := (hI.kb hy).1
    have hb3 : 0 ≤ k.f ∧ 0 ≤ k.g ∧ k.f ≤ 1000000 ∧ k.g ≤ 1000000 := by
      have h1 := hI.kf k hm
      have h2 := held_nonneg (fun z hz => (hI.hh z hz).1) k.n
      omega
    obtain ⟨hb4, hb5, hb6, hb7⟩ := hb3
    have HA1 := Lib.hid (hA.alloc (.cells #[encStr y.n, .int .i64 y.k] 279))
    obtain ⟨w2, hd1, hd2, hd3⟩ := HA1.out.oh.del hI.hs y hy ho 0
    obtain ⟨d0, d1⟩ := HA1.out.c.cells2
    obtain ⟨hA2, hF2⟩ := HA1.out.turnH hd2 hd3
    have HA2 := Lib.hid hA2
    have HF2 := Lib.hid ((Frm.of_below b (below1 w (.cells #[encStr y.n, .int .i64 y.k] 279))).trans hF2)
    have L2 := Lib.hid (hF2.lies (Lies.made w 279 #[encStr y.n, .int .i64 y.k]) (Nat.ne_of_gt hA.ok.lt) (Nat.ne_of_gt hA.oh.lt))
    have HNE : Hid (w.heap.size ≠ w2.heap.size ∧ b.s ≠ w2.heap.size) := Lib.hid ⟨Nat.ne_of_lt L2.out.lt, Nat.ne_of_lt hA2.c.lt⟩
    have HNK : Hid (w.heap.size ≠ b.k ∧ w.heap.size ≠ b.h ∧ w2.heap.size ≠ b.k ∧ w2.heap.size ≠ b.h) := Lib.hid ⟨Nat.ne_of_gt hA.ok.lt, Nat.ne_of_gt hA.oh.lt, Nat.ne_of_gt hA2.ok.lt, Nat.ne_of_gt hA2.oh.lt⟩
    clear hA hI hf hk hm hkn hy hA2 hF2 hd2 hd3 c0
    go_enter Tryz.func190, Tryz.ntmps190
    go_wp2_with fail
    clear r1 hd1 c1 d0 d1
    refine wp_region_noPanic ?_
    refine wp_region_held_drew (S := fun W => (Lies W b.s 175 #[.map (some b.k), .map (some b.h)] ∧ Lies W w.heap.size 279 #[encStr y.n, .int .i64 y.k]) ∧ OwnK W b.k q.K) (by kernel_rfl) ⟨⟨HA2.out.c, L2.out⟩, HA2.out.ok⟩ (fun hH0 => ?_)
    refine any_take 0 28 ?va0 rfl rfl (by kernel_rfl) (by kernel_rfl) (by kernel_rfl) (fun _ _ _ h => h) (by rfl) ?hya0 hH0 ?resta0
    case hya0 => ((intro W hSw); obtain ⟨o0, o1⟩ := Lies.cells2 hSw.1.1; obtain ⟨p0, p1⟩ := Lies.cells2 hSw.1.2; have lk := hSw.2.look y.n HYL.out; rw [HK.out] at lk; dsimp only [Option.getD_some] at lk; go_simp; (try with_reducible rfl))
    try simp only [Act.put, List.setIfInBounds_toArray, List.set_cons_zero, List.set_cons_succ]
    refine any_take 1 29 ?va1 rfl rfl (by kernel_rfl) (by kernel_rfl) (by kernel_rfl) (fun _ _ _ h => h) (by rfl) ?hya1 hH0 ?resta1
    case hya1 => ((intro W hSw); obtain ⟨o0, o1⟩ := Lies.cells2 hSw.1.1; obtain ⟨p0, p1⟩ := Lies.cells2 hSw.1.2; have lk := hSw.2.look y.n HYL.out; rw [HK.out] at lk; dsimp only [Option.getD_some] at lk; go_simp; (try with_reducible rfl))
    try simp only [Act.put, List.setIfInBounds_toArray, List.set_cons_zero, List.set_cons_succ]
    refine any_take 2 30 ?va2 rfl rfl (by kernel_rfl) (by kernel_rfl) (by kernel_rfl) (fun _ _ _ h => h) (by rfl) ?hya2 hH0 ?resta2
    case hya2 => ((intro W hSw); obtain ⟨o0, o1⟩ := Lies.cells2 hSw.1.1; obtain ⟨p0, p1⟩ := Lies.cells2 hSw.1.2; have lk := hSw.2.look y.n HYL.out; rw [HK.out] at lk; dsimp only [Option.getD_some] at lk; go_simp; (try with_reducible rfl))
    try simp only [Act.put, List.setIfInBounds_toArray, List.set_cons_zero, List.set_cons_succ]
    refine any_take 3 31 ?va3 rfl rfl (by kernel_rfl) (by kernel_rfl) (by kernel_rfl) (fun _ _ _ h => h) (by rfl) ?hya3 hH0 ?resta3
    case hya3 => ((intro W hSw); obtain ⟨o0, o1⟩ := Lies.cells2 hSw.1.1; obtain ⟨p0, p1⟩ := Lies.cells2 hSw.1.2; have lk := hSw.2.look y.n HYL.out; rw [HK.out] at lk; dsimp only [Option.getD_some] at lk; go_simp; (try with_reducible rfl))
    try simp only [Act.put, List.setIfInBounds_toArray, List.set_cons_zero, List.set_cons_succ]
    refine any_take 4 32 ?va4 rfl rfl (by kernel_rfl) (by kernel_rfl) (by kernel_rfl) (fun _ _ _ h => h) (by rfl) ?hya4 hH0 ?resta4
    case hya4 => ((intro W hSw); obtain ⟨o0, o1⟩ := Lies.cells2 hSw.1.1; obtain ⟨p0, p1⟩ := Lies.cells2 hSw.1.2; have lk := hSw.2.look y.n HYL.out; rw [HK.out] at lk; dsimp only [Option.getD_some] at lk; go_simp; (try with_reducible rfl))
    try simp only [Act.put, List.setIfInBounds_toArray, List.set_cons_zero, List.set_cons_succ]
    refine any_take 5 33 ?va5 rfl rfl (by kernel_rfl) (by kernel_rfl) (by kernel_rfl) (fun _ _ _ h => h) (by rfl) ?hya5 hH0 ?resta5
    case hya5 => ((intro W hSw); obtain ⟨o0, o1⟩ := Lies.cells2 hSw.1.1; obtain ⟨p0, p1⟩ := Lies.cells2 hSw.1.2; have lk := hSw.2.look y.n HYL.out; rw [HK.out] at lk; dsimp only [Option.getD_some] at lk; go_simp; (try with_reducible rfl))
    try simp only [Act.put, List.setIfInBounds_toArray, List.set_cons_zero, List.set_cons_succ]
    refine any_take 6 34 ?va6 rfl rfl (by kernel_rfl) (by kernel_rfl) (by kernel_rfl) (fun _ _ _ h => h) (by rfl) ?hya6 hH0 ?resta6
    case hya6 => ((intro W hSw); obtain ⟨o0, o1⟩ := Lies.cells2 hSw.1.1; obtain ⟨p0, p1⟩ := Lies.cells2 hSw.1.2; have lk := hSw.2.look y.n HYL.out; rw [HK.out] at lk; dsimp only [Option.getD_some] at lk; go_simp; (try with_reducible rfl))
    try simp only [Act.put, List.setIfInBounds_toArray, List.set_cons_zero, List.set_cons_succ]
    refine wpAnyH_ready (rs := [7]) (by kernel_rfl) (by simp) ?_
    refine AllReadyH.cons rfl (fun K hK => ?_) AllReadyH.nil
    go_simp
    refine hK.out _ _ ⟨⟨(HA2.out.drew.alloc _).c, Lies.alloc (w := w2.drew) L2.out _⟩, (HA2.out.drew.alloc _).ok⟩ (fun hH1 => ?_)
    clear hK K hH0
    try simp only [Act.put, List.setIfInBounds_toArray, List.set_cons_zero, List.set_cons_succ]
    refine wpAnyH_ready (rs := [8]) (by kernel_rfl) (by simp) ?_
    refine AllReadyH.cons rfl (fun K hK => ?_) AllReadyH.nil
    go_simp
    refine hK.out _ _ ⟨⟨(HA2.out.drew.alloc _).c, Lies.alloc (w := w2.drew) L2.out _⟩, (HA2.out.drew.alloc _).ok⟩ (fun hH2 => ?_)
    clear hK K hH1
    try simp only [Act.put, List.setIfInBounds_toArray, List.set_cons_zero, List.set_cons_succ]
    clear hH2
    refine wpAnyH_done (by kernel_rfl) ?_ _
    refine NoPanic.normal ?_
    obtain ⟨W3, hW3⟩ : ∃ W3, W3 = (w2.alloc (.cells #[encStr k.n, .int .i64 k.f, .int .i64 k.g] 178)).drew := ⟨_, rfl⟩
    rw [← hW3]
    have HA3 : Hid (At W3 b ⟨q.K, delH q.H y.o⟩) := Lib.hid (by rw [hW3]; exact (HA2.out.alloc _).drew)
    have L3 : Hid (Lies W3 w.heap.size 279 #[encStr y.n, .int .i64 y.k]) := Lib.hid (by rw [hW3]; exact Lies.alloc (w := w2) L2.out _)
    have M3 : Hid (Lies W3 w2.heap.size 178 #[encStr k.n, .int .i64 k.f, .int .i64 k.g]) := Lib.hid (by rw [hW3]; exact Lies.made w2 _ _)
    have HF3 : Hid (Frm w W3 b) := Lib.hid (by rw [hW3]; exact (HF2.out.alloc _).drew)
    clear hW3
    go_wp2_with fail
    have ew : IntKind.i64.wrap (k.g + y.k) = k.g + y.k := IntWalk.i64_in _ (by omega)
    obtain ⟨m0, m1, m2⟩ := Lies.cells3 M3.out
    obtain ⟨mf0, mf1, mf2⟩ := Lies.free3 M3.out
    refine wp_region_noPanic ?_
    refine wp_region_held_drew (S := fun W => Lies W b.s 175 #[.map (some b.k), .map (some b.h)] ∧ Lies W w.heap.size 279 #[encStr y.n, .int .i64 y.k]) (by kernel_rfl) ⟨HA3.out.c, L3.out⟩ (fun hH0 => ?_)
    refine any_take 0 35 ?vb0 rfl rfl (by kernel_rfl) (by kernel_rfl) (by kernel_rfl) (fun _ _ _ h => h) (by rfl) ?hyb0 hH0 ?restb0
    case hyb0 => ((intro W hSw); obtain ⟨o0, o1⟩ := Lies.cells2 hSw.1; obtain ⟨p0, p1⟩ := Lies.cells2 hSw.2; go_simp; (try with_reducible rfl))
    try simp only [Act.put, List.setIfInBounds_toArray, List.set_cons_zero, List.set_cons_succ]
    refine any_take 1 36 ?vb1 rfl rfl (by kernel_rfl) (by kernel_rfl) (by kernel_rfl) (fun _ _ _ h => h) (by rfl) ?hyb1 hH0 ?restb1
    case hyb1 => ((intro W hSw); obtain ⟨o0, o1⟩ := Lies.cells2 hSw.1; obtain ⟨p0, p1⟩ := Lies.cells2 hSw.2; go_simp; (try with_reducible rfl))
    try simp only [Act.put, List.setIfInBounds_toArray, List.set_cons_zero, List.set_cons_succ]
    refine any_take 2 37 ?vb2 rfl rfl (by kernel_rfl) (by kernel_rfl) (by kernel_rfl) (fun _ _ _ h => h) (by rfl) ?hyb2 hH0 ?restb2
    case hyb2 => ((intro W hSw); obtain ⟨o0, o1⟩ := Lies.cells2 hSw.1; obtain ⟨p0, p1⟩ := Lies.cells2 hSw.2; go_simp; (try with_reducible rfl))
    try simp only [Act.put, List.setIfInBounds_toArray, List.set_cons_zero, List.set_cons_succ]
    refine any_take 4 39 ?vb4 rfl rfl (by kernel_rfl) (by kernel_rfl) (by kernel_rfl) (fun _ _ _ h => h) (by rfl) ?hyb4 hH0 ?restb4
    case hyb4 => ((intro W hSw); obtain ⟨o0, o1⟩ := Lies.cells2 hSw.1; obtain ⟨p0, p1⟩ := Lies.cells2 hSw.2; go_simp; (try with_reducible rfl))
    try simp only [Act.put, List.setIfInBounds_toArray, List.set_cons_zero, List.set_cons_succ]
    refine any_take 5 40 ?vb5 rfl rfl (by kernel_rfl) (by kernel_rfl) (by kernel_rfl) (fun _ _ _ h => h) (by rfl) ?hyb5 hH0 ?restb5
    case hyb5 => ((intro W hSw); obtain ⟨o0, o1⟩ := Lies.cells2 hSw.1; obtain ⟨p0, p1⟩ := Lies.cells2 hSw.2; go_simp; (try with_reducible rfl))
    try simp only [Act.put, List.setIfInBounds_toArray, List.set_cons_zero, List.set_cons_succ]
    refine any_take 7 42 ?vb7 rfl rfl (by kernel_rfl) (by kernel_rfl) (by kernel_rfl) (fun _ _ _ h => h) (by rfl) ?hyb7 hH0 ?restb7
    case hyb7 => ((intro W hSw); obtain ⟨o0, o1⟩ := Lies.cells2 hSw.1; obtain ⟨p0, p1⟩ := Lies.cells2 hSw.2; go_simp; (try with_reducible rfl))
    try simp only [Act.put, List.setIfInBounds_toArray, List.set_cons_zero, List.set_cons_succ]
    refine wpAnyH_ready (rs := [3]) (by kernel_rfl) (by simp) ?_
    refine AllReadyH.cons rfl (fun K hK => ?_) AllReadyH.nil
    go_simp
    refine hK.out _ _ ⟨HA3.out.drew.c, L3.out⟩ (fun hH1 => ?_)
    clear hK K hH0
    try simp only [Act.put, List.setIfInBounds_toArray, List.set_cons_zero, List.set_cons_succ]
    refine any_take 6 41 ?vb6 rfl rfl (by kernel_rfl) (by kernel_rfl) (by kernel_rfl) (fun _ _ _ h => h) (by rfl) ?hyb6 hH1 ?restb6
    case hyb6 => ((intro W hSw); obtain ⟨o0, o1⟩ := Lies.cells2 hSw.1; obtain ⟨p0, p1⟩ := Lies.cells2 hSw.2; go_simp; (try with_reducible rfl))
    try simp only [Act.put, List.setIfInBounds_toArray, List.set_cons_zero, List.set_cons_succ]
    refine any_take 8 43 ?vb8 rfl rfl (by kernel_rfl) (by kernel_rfl) (by kernel_rfl) (fun _ _ _ h => h) (by rfl) ?hyb8 hH1 ?restb8
    case hyb8 => ((intro W hSw); obtain ⟨o0, o1⟩ := Lies.cells2 hSw.1; obtain ⟨p0, p1⟩ := Lies.cells2 hSw.2; go_simp; (try with_reducible rfl))
    try simp only [Act.put, List.setIfInBounds_toArray, List.set_cons_zero, List.set_cons_succ]
    refine wpAnyH_ready (rs := [9]) (by kernel_rfl) (by simp) ?_
    refine AllReadyH.cons rfl (fun K hK => ?_) AllReadyH.nil
    go_simp
    refine hK.out _ _ ⟨HA3.out.c.other (a := ⟨w2.heap.size, 2, none⟩) HNE.out.2 (.int .i64 (k.g + y.k)), L3.out.other (a := ⟨w2.heap.size, 2, none⟩) HNE.out.1 (.int .i64 (k.g + y.k))⟩ (fun hH2 => ?_)
    clear hK K hH1
    try simp only [Act.put, List.setIfInBounds_toArray, List.set_cons_zero, List.set_cons_succ]
    clear hH2
    refine wpAnyH_done (by kernel_rfl) ?_ _
    refine NoPanic.normal ?_
    obtain ⟨W4, hW4⟩ : ∃ W4, W4 = (W3.setCell ⟨w2.heap.size, 2, none⟩ (.int .i64 (k.g + y.k))).drew := ⟨_, rfl⟩
    rw [← hW4]
    have HA4 : Hid (At W4 b ⟨q.K, delH q.H y.o⟩) := Lib.hid (by rw [hW4]; exact (HA3.out.setCell (w := W3) M3.out (Ne.symm HNE.out.2) _ _).drew)
    have L4 : Hid (Lies W4 w.heap.size 279 #[encStr y.n, .int .i64 y.k]) := Lib.hid (by rw [hW4]; exact Lies.other (w := W3) L3.out HNE.out.1 _)
    have M4 : Hid (Lies W4 w2.heap.size 178 #[encStr k.n, .int .i64 k.f, .int .i64 (k.g + y.k)]) := Lib.hid (by rw [hW4]; exact Lies.put (w := W3) M3.out 2 _)
    have HF4 : Hid (Frm w W4 b) := Lib.hid (by rw [hW4]; exact (frm_set HF3.out (by have := HF2.out.size; omega) _ _).drew)
    clear hW4 ew m0 m1 m2 mf0 mf1 mf2
    go_wp2_with fail
    obtain ⟨w5, hu1, hu2, hu3⟩ := HA4.out.drew.ok.upd HI.out.ks ⟨k.n, k.f, k.g + y.k⟩ k HM.out.1 rfl (by show k.n.length ≤ _; rw [HM.out.2]; exact HYL.out) (by have := HI.out.kz; show q.K.length ≤ _; omega)
    have HU := Lib.hid (And.intro hu1 (And.intro hu2 hu3))
    clear hu1 hu2 hu3
    refine wp_region_noPanic ?_
    refine wp_region_held_drew (S := fun W => (Lies W b.s 175 #[.map (some b.k), .map (some b.h)] ∧ Lies W w.heap.size 279 #[encStr y.n, .int .i64 y.k]) ∧ Lies W w2.heap.size 178 #[encStr k.n, .int .i64 k.f, .int .i64 (k.g + y.k)]) (by kernel_rfl) ⟨⟨HA4.out.c, L4.out⟩, M4.out⟩ (fun hH0 => ?_)
    refine any_take 0 44 ?vc0 rfl rfl (by kernel_rfl) (by kernel_rfl) (by kernel_rfl) (fun _ _ _ h => h) (by rfl) ?hyc0 hH0 ?restc0
    case hyc0 => ((intro W hSw); obtain ⟨o0, o1⟩ := Lies.cells2 hSw.1.1; obtain ⟨p0, p1⟩ := Lies.cells2 hSw.1.2; obtain ⟨m0, m1, m2⟩ := Lies.cells3 hSw.2; go_simp; (try with_reducible rfl))
    try simp only [Act.put, List.setIfInBounds_toArray, List.set_cons_zero, List.set_cons_succ]
    refine any_take 1 45 ?vc1 rfl rfl (by kernel_rfl) (by kernel_rfl) (by kernel_rfl) (fun _ _ _ h => h) (by rfl) ?hyc1 hH0 ?restc1
    case hyc1 => ((intro W hSw); obtain ⟨o0, o1⟩ := Lies.cells2 hSw.1.1; obtain ⟨p0, p1⟩ := Lies.cells2 hSw.1.2; obtain ⟨m0, m1, m2⟩ := Lies.cells3 hSw.2; go_simp; (try with_reducible rfl))
    try simp only [Act.put, List.setIfInBounds_toArray, List.set_cons_zero, List.set_cons_succ]
    refine any_take 2 46 ?vc2 rfl rfl (by kernel_rfl) (by kernel_rfl) (by kernel_rfl) (fun _ _ _ h => h) (by rfl) ?hyc2 hH0 ?restc2
    case hyc2 => ((intro W hSw); obtain ⟨o0, o1⟩ := Lies.cells2 hSw.1.1; obtain ⟨p0, p1⟩ := Lies.cells2 hSw.1.2; obtain ⟨m0, m1, m2⟩ := Lies.cells3 hSw.2; go_simp; (try with_reducible rfl))
    try simp only [Act.put, List.setIfInBounds_toArray, List.set_cons_zero, List.set_cons_succ]
    refine any_take 3 47 ?vc3 rfl rfl (by kernel_rfl) (by kernel_rfl) (by kernel_rfl) (fun _ _ _ h => h) (by rfl) ?hyc3 hH0 ?restc3
    case hyc3 => ((intro W hSw); obtain ⟨o0, o1⟩ := Lies.cells2 hSw.1.1; obtain ⟨p0, p1⟩ := Lies.cells2 hSw.1.2; obtain ⟨m0, m1, m2⟩ := Lies.cells3 hSw.2; go_simp; (try with_reducible rfl))
    try simp only [Act.put, List.setIfInBounds_toArray, List.set_cons_zero, List.set_cons_succ]
    refine any_take 4 48 ?vc4 rfl rfl (by kernel_rfl) (by kernel_rfl) (by kernel_rfl) (fun _ _ _ h => h) (by rfl) ?hyc4 hH0 ?restc4
    case hyc4 => ((intro W hSw); obtain ⟨o0, o1⟩ := Lies.cells2 hSw.1.1; obtain ⟨p0, p1⟩ := Lies.cells2 hSw.1.2; obtain ⟨m0, m1, m2⟩ := Lies.cells3 hSw.2; go_simp; (try with_reducible rfl))
    try simp only [Act.put, List.setIfInBounds_toArray, List.set_cons_zero, List.set_cons_succ]
    refine any_take 5 49 ?vc5 rfl rfl (by kernel_rfl) (by kernel_rfl) (by kernel_rfl) (fun _ _ _ h => h) (by rfl) ?hyc5 hH0 ?restc5
    case hyc5 => ((intro W hSw); obtain ⟨o0, o1⟩ := Lies.cells2 hSw.1.1; obtain ⟨p0, p1⟩ := Lies.cells2 hSw.1.2; obtain ⟨m0, m1, m2⟩ := Lies.cells3 hSw.2; go_simp; (try with_reducible rfl))
    try simp only [Act.put, List.setIfInBounds_toArray, List.set_cons_zero, List.set_cons_succ]
    refine any_take 6 50 ?vc6 rfl rfl (by kernel_rfl) (by kernel_rfl) (by kernel_rfl) (fun _ _ _ h => h) (by rfl) ?hyc6 hH0 ?restc6
    case hyc6 => ((intro W hSw); obtain ⟨o0, o1⟩ := Lies.cells2 hSw.1.1; obtain ⟨p0, p1⟩ := Lies.cells2 hSw.1.2; obtain ⟨m0, m1, m2⟩ := Lies.cells3 hSw.2; go_simp; (try with_reducible rfl))
    try simp only [Act.put, List.setIfInBounds_toArray, List.set_cons_zero, List.set_cons_succ]
    refine wpAnyH_ready (rs := [7]) (by kernel_rfl) (by simp) ?_
    refine AllReadyH.cons rfl (fun K hK => ?_) AllReadyH.nil
    refine stp_upd none _ _ _ 172 (.tmp 47) (.tmp 49) (.tmp 50) (.map (some b.k)) (encStr y.n) (vK ⟨k.n, k.f, k.g + y.k⟩) w5 rfl rfl rfl (by rw [← HM.out.2]; exact HU.out.1) ?_
    obtain ⟨hA5, hF5⟩ := HA4.out.drew.turnK HU.out.2.1 HU.out.2.2
    have HA5 := Lib.hid hA5
    have HF5 := Lib.hid (HF4.out.drew.trans hF5)
    refine hK.out _ _ ⟨⟨hA5.c, hF5.lies (w := W4.drew) L4.out HNK.out.1 HNK.out.2.1⟩, hF5.lies (w := W4.drew) M4.out HNK.out.2.2.1 HNK.out.2.2.2⟩ (fun hH1 => ?_)
    clear hA5 hF5 hK K hH0
    try simp only [Act.put, List.setIfInBounds_toArray, List.set_cons_zero, List.set_cons_succ]
    clear hH1
    refine wpAnyH_done (by kernel_rfl) ?_ _
    refine NoPanic.normal ?_
    go_wp2
    go_ret
    refine ⟨by rw [HEV.out]; rfl, ?_, HF5.out⟩
    rw [endS_yes HFO.out HK.out]
    exact HA5.out

end Go.Proofs.YtpbclmnhkmcknaaGreat.St

namespace Go.Proofs.YtpbclmnhkmcknaaGreat.St
open Go.RowKit
set_option maxRecDepth 100000
set_option linter.unusedVariables false
set_option linter.unusedSimpArgs false

def HoldPost (w : World) (b : SB) (q : Ss) (o : Nat) (x : List UInt8) (n : Int) (e : Ending) (w' : World) : Prop :=
  e = .returned (.int .i64 (verd (holdV q o x n))) ∧ At w' b (holdS q o x n) ∧ Frm w w' b

theorem hold_same {w w' : World} {b : SB} {q : Ss} {o : Nat} {x : List UInt8} {n : Int} (h : holdV q o x n = false) (hA : At w b q) (hb : Below w.heap.size w w') : HoldPost w b q o x n (.returned (.int .i64 2)) w' := by
  refine ⟨by rw [h]; rfl, ?_, Frm.of_below b hb⟩
  rw [holdS_no h]
  exact hA.below hb

set_option maxHeartbeats 4000000 in
theorem hold_any (b : SB) (q : Ss) (o : Nat) (x : List UInt8) (n : Int) (w : World) (hA : At w b q) (hI : Inv q) (ho : o < 4294967296) (hx : x.length ≤ maxLen) (hn : -9223372036854775808 ≤ n ∧ n ≤ 9223372036854775807) (hl : q.H.length ≤ 1000) :
    Calls Tryz.prog 160 #[.pointer (some ⟨b.s, 0, none⟩), .int .u32 (o : Int), encStr x, .int .i64 n] w (HoldPost w b q o x n) := by
  have HA := Lib.hid hA
  have HI := Lib.hid hI
  obtain ⟨c0, c1⟩ := hA.c.cells2
  have lk1 := fun W (h : OwnH W b.h q.H) => h.look_ok o ho
  have r1 := lk1 w hA.oh
  by_cases h0 : o = 0
  · have hv : holdV q o x n = false := by rw [← Bool.not_eq_true, holdV_iff]; exact fun h => h.1 h0
    have HV := Lib.hid hv
    subst h0
    clear hA hI lk1 r1 hv c0 c1
    go_enter Tryz.func160, Tryz.ntmps160
    go_wp2
    go_ret
    exact hold_same HV.out HA.out (Below.refl _ _)
  by_cases h1 : n < 1
  · have hv : holdV q o x n = false := by rw [← Bool.not_eq_true, holdV_iff]; exact fun h => by have := h.2.1; omega
    have HV := Lib.hid hv
    have e0 : (((o : Int) == 0) : Bool) = false := beq_eq_false_iff_ne.2 (by omega)
    clear hA hI lk1 r1 hv c0 c1
    go_enter Tryz.func160, Tryz.ntmps160
    go_wp2
    go_ret
    exact hold_same HV.out HA.out (Below.refl _ _)
  have e0 : (((o : Int) == 0) : Bool) = false := beq_eq_false_iff_ne.2 (by omega)
  have e1 : decide (n < 1) = false := by simpa using h1
  cases hf : findH q.H o with
  | some y =>
    have hv : holdV q o x n = false := by rw [← Bool.not_eq_true, holdV_iff]; exact fun h => by rw [hf] at h; cases h.2.2.1
    have HV := Lib.hid hv
    rw [hf] at r1
    dsimp only [Option.getD_some, Option.isSome_some] at r1
    clear hA hI lk1 hv hf c0
    go_enter Tryz.func160, Tryz.ntmps160
    go_wp2
    go_ret
    exact hold_same HV.out HA.out (below1 _ _)
  | none =>
    rw [hf] at r1
    dsimp only [Option.getD_none, Option.isSome_none] at r1
    have HF := Lib.hid hf
    clear hf
    have HA1 := Lib.hid (hA.alloc (.cells #[encStr zH.n, .int .i64 zH.k] 279))
    have r2 := HA1.out.ok.look_ok x hx
    obtain ⟨d0, d1⟩ := HA1.out.c.cells2
    cases hk : findK q.K x with
    | none =>
      have hv : holdV q o x n = false := by rw [← Bool.not_eq_true, holdV_iff]; exact fun h => by obtain ⟨k, h', _⟩ := h.2.2.2; rw [hk] at h'; cases h'
      have HV := Lib.hid hv
      rw [hk] at r2
      dsimp only [Option.getD_none, Option.isSome_none] at r2
      clear hA hI lk1 hv hk
      go_enter Tryz.func160, Tryz.ntmps160
      go_wp2
      go_ret
      exact hold_same HV.out HA.out (below2 _ _ _)
    | some k =>
      rw [hk] at r2
      dsimp only [Option.getD_some, Option.isSome_some] at r2
      obtain ⟨hm, rfl⟩ := findK_some hk
      have hkf := hI.kf k hm
      have HK := Lib.hid hk
      by_cases h3 : n ≤ k.f
      · have e3 : decide (k.f < n) = false := by simpa using h3
        have hv : holdV q o k.n n = true := holdV_iff.2 ⟨h0, by omega, HF.out, k, hk, h3⟩
        have HV := Lib.hid hv
        have hb1 : 0 ≤ k.f := hkf.1
        have hb2 : k.f ≤ 1000000 := by have := held_nonneg (fun z hz => (hI.hh z hz).1) k.n; omega
        have hb3 : 1 ≤ n := by omega
        clear hA hI lk1 hv hk hkf
        go_enter Tryz.func160, Tryz.ntmps160
        go_wp2_with fail
        obtain ⟨W2, hW2⟩ : ∃ W2, W2 = (w.alloc (.cells #[encStr zH.n, .int .i64 zH.k] 279)).alloc (.cells #[encStr k.n, .int .i64 (k.f - n), .int .i64 k.g] 178) := ⟨_, rfl⟩
        rw [← hW2]
        have HA2 : Hid (At W2 b q) := Lib.hid (by rw [hW2]; exact HA1.out.alloc _)
        have L2 : Hid (Lies W2 (w.heap.size + 1) 178 #[encStr k.n, .int .i64 (k.f - n), .int .i64 k.g]) := Lib.hid (by rw [hW2]; exact Lies.made2 _ _ _ _)
        have BW2 : Hid (Below w.heap.size w W2) := Lib.hid (by rw [hW2]; exact below2 _ _ _)
        clear hW2 c0 c1 d0 d1 r1 r2 HA1
        have hu := HA2.out.drew.ok.upd HI.out.ks ⟨k.n, k.f - n, k.g⟩ k hm rfl (by have := (HI.out.kl k hm).2; unfold maxLen; show k.n.length ≤ _; omega) (by have := HI.out.kz; omega)
        obtain ⟨w3, hu1, hu2, hu3⟩ := hu
        have HU := Lib.hid (And.intro hu1 (And.intro hu2 hu3))
        clear hu1 hu2 hu3
        refine wp_region_noPanic ?_
        refine wp_region_held_drew (S := fun W => Lies W b.s 175 #[.map (some b.k), .map (some b.h)] ∧ Lies W (w.heap.size + 1) 178 #[encStr k.n, .int .i64 (k.f - n), .int .i64 k.g]) (by kernel_rfl) ⟨HA2.out.c, L2.out⟩ (fun hH0 => ?_)
        refine any_take 0 58 ?va0 rfl rfl (by kernel_rfl) (by kernel_rfl) (by kernel_rfl) (fun _ _ _ h => h) (by rfl) ?hya0 hH0 ?resta0
        case hya0 => ((intro W hSw); obtain ⟨o0, o1⟩ := Lies.cells2 hSw.1; obtain ⟨p0, p1, p2⟩ := Lies.cells3 hSw.2; go_simp; (try with_reducible rfl))
        try simp only [Act.put, List.setIfInBounds_toArray, List.set_cons_zero, List.set_cons_succ]
        refine any_take 1 59 ?va1 rfl rfl (by kernel_rfl) (by kernel_rfl) (by kernel_rfl) (fun _ _ _ h => h) (by rfl) ?hya1 hH0 ?resta1
        case hya1 => ((intro W hSw); obtain ⟨o0, o1⟩ := Lies.cells2 hSw.1; obtain ⟨p0, p1, p2⟩ := Lies.cells3 hSw.2; go_simp; (try with_reducible rfl))
        try simp only [Act.put, List.setIfInBounds_toArray, List.set_cons_zero, List.set_cons_succ]
        refine any_take 2 60 ?va2 rfl rfl (by kernel_rfl) (by kernel_rfl) (by kernel_rfl) (fun _ _ _ h => h) (by rfl) ?hya2 hH0 ?resta2
        case hya2 => ((intro W hSw); obtain ⟨o0, o1⟩ := Lies.cells2 hSw.1; obtain ⟨p0, p1, p2⟩ := Lies.cells3 hSw.2; go_simp; (try with_reducible rfl))
        try simp only [Act.put, List.setIfInBounds_toArray, List.set_cons_zero, List.set_cons_succ]
        refine any_take 3 61 ?va3 rfl rfl (by kernel_rfl) (by kernel_rfl) (by kernel_rfl) (fun _ _ _ h => h) (by rfl) ?hya3 hH0 ?resta3
        case hya3 => ((intro W hSw); obtain ⟨o0, o1⟩ := Lies.cells2 hSw.1; obtain ⟨p0, p1, p2⟩ := Lies.cells3 hSw.2; go_simp; (try with_reducible rfl))
        try simp only [Act.put, List.setIfInBounds_toArray, List.set_cons_zero, List.set_cons_succ]
        refine any_take 4 62 ?va4 rfl rfl (by kernel_rfl) (by kernel_rfl) (by kernel_rfl) (fun _ _ _ h => h) (by rfl) ?hya4 hH0 ?resta4
        case hya4 => ((intro W hSw); obtain ⟨o0, o1⟩ := Lies.cells2 hSw.1; obtain ⟨p0, p1, p2⟩ := Lies.cells3 hSw.2; go_simp; (try with_reducible rfl))
        try simp only [Act.put, List.setIfInBounds_toArray, List.set_cons_zero, List.set_cons_succ]
        refine any_take 5 63 ?va5 rfl rfl (by kernel_rfl) (by kernel_rfl) (by kernel_rfl) (fun _ _ _ h => h) (by rfl) ?hya5 hH0 ?resta5
        case hya5 => ((intro W hSw); obtain ⟨o0, o1⟩ := Lies.cells2 hSw.1; obtain ⟨p0, p1, p2⟩ := Lies.cells3 hSw.2; go_simp; (try with_reducible rfl))
        try simp only [Act.put, List.setIfInBounds_toArray, List.set_cons_zero, List.set_cons_succ]
        refine any_take 6 64 ?va6 rfl rfl (by kernel_rfl) (by kernel_rfl) (by kernel_rfl) (fun _ _ _ h => h) (by rfl) ?hya6 hH0 ?resta6
        case hya6 => ((intro W hSw); obtain ⟨o0, o1⟩ := Lies.cells2 hSw.1; obtain ⟨p0, p1, p2⟩ := Lies.cells3 hSw.2; go_simp; (try with_reducible rfl))
        try simp only [Act.put, List.setIfInBounds_toArray, List.set_cons_zero, List.set_cons_succ]
        refine wpAnyH_ready (rs := [7]) (by kernel_rfl) (by simp) ?_
        refine AllReadyH.cons rfl (fun K hK => ?_) AllReadyH.nil
        refine stp_upd none _ _ _ 172 (.tmp 61) (.tmp 63) (.tmp 64) (.map (some b.k)) (encStr k.n) (vK ⟨k.n, k.f - n, k.g⟩) w3 rfl rfl rfl HU.out.1 ?_
        obtain ⟨hA3, hF3⟩ := HA2.out.drew.turnK HU.out.2.1 HU.out.2.2
        have HA3 := Lib.hid hA3
        have HF3 := Lib.hid ((Frm.of_below b BW2.out).drew.trans hF3)
        have L3 := Lib.hid (hF3.lies (g := w.heap.size + 1) (t := 178) (w := W2.drew) L2.out (by have := HA.out.ok.lt; omega) (by have := HA.out.oh.lt; omega))
        clear hA3 hF3
        refine hK.out _ _ ⟨HA3.out.c, L3.out⟩ (fun hH1 => ?_)
        clear hK K hH0
        try simp only [Act.put, List.setIfInBounds_toArray, List.set_cons_zero, List.set_cons_succ]
        clear hH1
        refine wpAnyH_done (by kernel_rfl) ?_ _
        refine NoPanic.normal ?_
        go_wp2_with fail
        obtain ⟨w4, hu1, hu2, hu3⟩ := HA3.out.drew.oh.add ⟨o, k.n, n⟩ (findH_none HF.out) ho (by show q.H.length ≤ _; omega)
        have HU4 := Lib.hid (And.intro hu1 (And.intro hu2 hu3))
        clear hu1 hu2 hu3
        refine wp_region_noPanic ?_
        refine wp_region_held_drew (S := fun W => Lies W b.s 175 #[.map (some b.k), .map (some b.h)] ∧ Lies W (w.heap.size + 1) 178 #[encStr k.n, .int .i64 (k.f - n), .int .i64 k.g]) (by kernel_rfl) ⟨HA3.out.c, L3.out⟩ (fun hH0 => ?_)
        refine any_take 0 65 ?vb0 rfl rfl (by kernel_rfl) (by kernel_rfl) (by kernel_rfl) (fun _ _ _ h => h) (by rfl) ?hyb0 hH0 ?restb0
        case hyb0 => ((intro W hSw); obtain ⟨o0, o1⟩ := Lies.cells2 hSw.1; obtain ⟨p0, p1, p2⟩ := Lies.cells3 hSw.2; go_simp; (try with_reducible rfl))
        try simp only [Act.put, List.setIfInBounds_toArray, List.set_cons_zero, List.set_cons_succ]
        refine any_take 1 66 ?vb1 rfl rfl (by kernel_rfl) (by kernel_rfl) (by kernel_rfl) (fun _ _ _ h => h) (by rfl) ?hyb1 hH0 ?restb1
        case hyb1 => ((intro W hSw); obtain ⟨o0, o1⟩ := Lies.cells2 hSw.1; obtain ⟨p0, p1, p2⟩ := Lies.cells3 hSw.2; go_simp; (try with_reducible rfl))
        try simp only [Act.put, List.setIfInBounds_toArray, List.set_cons_zero, List.set_cons_succ]
        refine any_take 2 67 ?vb2 rfl rfl (by kernel_rfl) (by kernel_rfl) (by kernel_rfl) (fun _ _ _ h => h) (by rfl) ?hyb2 hH0 ?restb2
        case hyb2 => ((intro W hSw); obtain ⟨o0, o1⟩ := Lies.cells2 hSw.1; obtain ⟨p0, p1, p2⟩ := Lies.cells3 hSw.2; go_simp; (try with_reducible rfl))
        try simp only [Act.put, List.setIfInBounds_toArray, List.set_cons_zero, List.set_cons_succ]
        refine any_take 3 68 ?vb3 rfl rfl (by kernel_rfl) (by kernel_rfl) (by kernel_rfl) (fun _ _ _ h => h) (by rfl) ?hyb3 hH0 ?restb3
        case hyb3 => ((intro W hSw); obtain ⟨o0, o1⟩ := Lies.cells2 hSw.1; obtain ⟨p0, p1, p2⟩ := Lies.cells3 hSw.2; go_simp; (try with_reducible rfl))
        try simp only [Act.put, List.setIfInBounds_toArray, List.set_cons_zero, List.set_cons_succ]
        refine any_take 4 69 ?vb4 rfl rfl (by kernel_rfl) (by kernel_rfl) (by kernel_rfl) (fun _ _ _ h => h) (by rfl) ?hyb4 hH0 ?restb4
        case hyb4 => ((intro W hSw); obtain ⟨o0, o1⟩ := Lies.cells2 hSw.1; obtain ⟨p0, p1, p2⟩ := Lies.cells3 hSw.2; go_simp; (try with_reducible rfl))
        try simp only [Act.put, List.setIfInBounds_toArray, List.set_cons_zero, List.set_cons_succ]
        refine any_take 5 70 ?vb5 rfl rfl (by kernel_rfl) (by kernel_rfl) (by kernel_rfl) (fun _ _ _ h => h) (by rfl) ?hyb5 hH0 ?restb5
        case hyb5 => ((intro W hSw); obtain ⟨o0, o1⟩ := Lies.cells2 hSw.1; obtain ⟨p0, p1, p2⟩ := Lies.cells3 hSw.2; go_simp; (try with_reducible rfl))
        try simp only [Act.put, List.setIfInBounds_toArray, List.set_cons_zero, List.set_cons_succ]
        refine any_take 6 71 ?vb6 rfl rfl (by kernel_rfl) (by kernel_rfl) (by kernel_rfl) (fun _ _ _ h => h) (by rfl) ?hyb6 hH0 ?restb6
        case hyb6 => ((intro W hSw); obtain ⟨o0, o1⟩ := Lies.cells2 hSw.1; obtain ⟨p0, p1, p2⟩ := Lies.cells3 hSw.2; go_simp; (try with_reducible rfl))
        try simp only [Act.put, List.setIfInBounds_toArray, List.set_cons_zero, List.set_cons_succ]
        refine any_take 7 72 ?vb7 rfl rfl (by kernel_rfl) (by kernel_rfl) (by kernel_rfl) (fun _ _ _ h => h) (by rfl) ?hyb7 hH0 ?restb7
        case hyb7 => ((intro W hSw); obtain ⟨o0, o1⟩ := Lies.cells2 hSw.1; obtain ⟨p0, p1, p2⟩ := Lies.cells3 hSw.2; go_simp; (try with_reducible rfl))
        try simp only [Act.put, List.setIfInBounds_toArray, List.set_cons_zero, List.set_cons_succ]
        refine any_take 8 73 ?vb8 rfl rfl (by kernel_rfl) (by kernel_rfl) (by kernel_rfl) (fun _ _ _ h => h) (by rfl) ?hyb8 hH0 ?restb8
        case hyb8 => ((intro W hSw); obtain ⟨o0, o1⟩ := Lies.cells2 hSw.1; obtain ⟨p0, p1, p2⟩ := Lies.cells3 hSw.2; go_simp; (try with_reducible rfl))
        try simp only [Act.put, List.setIfInBounds_toArray, List.set_cons_zero, List.set_cons_succ]
        refine wpAnyH_ready (rs := [9]) (by kernel_rfl) (by simp) ?_
        refine AllReadyH.cons rfl (fun K hK => ?_) AllReadyH.nil
        refine stp_upd none _ _ _ 173 (.tmp 68) (.tmp 69) (.tmp 73) (.map (some b.h)) (.int .u32 (o : Int)) (vH ⟨o, k.n, n⟩) w4 rfl rfl rfl HU4.out.1 ?_
        obtain ⟨hA4, hF4⟩ := HA3.out.drew.turnH HU4.out.2.1 HU4.out.2.2
        have HA4 := Lib.hid hA4
        have HF4 := Lib.hid (HF3.out.drew.trans hF4)
        refine hK.out _ _ ⟨hA4.c, hF4.lies (g := w.heap.size + 1) (t := 178) (w := w3.drew) L3.out (by have := HA.out.ok.lt; omega) (by have := HA.out.oh.lt; omega)⟩ (fun hH1 => ?_)
        clear hA4 hF4 hK K hH0
        try simp only [Act.put, List.setIfInBounds_toArray, List.set_cons_zero, List.set_cons_succ]
        clear hH1
        refine wpAnyH_done (by kernel_rfl) ?_ _
        refine NoPanic.normal ?_
        go_wp2
        go_ret
        refine ⟨by rw [HV.out]; rfl, ?_, HF4.out⟩
        rw [holdS_yes HV.out HK.out]
        exact HA4.out
      · have e3 : decide (k.f < n) = true := by simpa using h3
        have hv : holdV q o k.n n = false := by
          rw [← Bool.not_eq_true, holdV_iff]
          exact fun h => by obtain ⟨k', h', h2⟩ := h.2.2.2; rw [hk] at h'; injection h' with h'; subst h'; exact h3 h2
        have HV := Lib.hid hv
        clear hA hI lk1 hv hk
        go_enter Tryz.func160, Tryz.ntmps160
        go_wp2
        go_ret
        exact hold_same HV.out HA.out (below2 _ _ _)

end Go.Proofs.YtpbclmnhkmcknaaGreat.St

namespace Go.Proofs.YtpbclmnhkmcknaaGreat.St
open Go.RowKit
set_option maxRecDepth 100000
set_option linter.unusedVariables false
set_option linter.unusedSimpArgs false

theorem free_any (b : SB) (q : Ss) (o : Nat) (w : World) (hA : At w b q) (hI : Inv q) (ho : o < 4294967296) :
    Calls Tryz.prog 156 #[.pointer (some ⟨b.s, 0, none⟩), .int .u32 (o : Int)] w (EndPost w b q o false) := by
  have C := Lib.hid (free_end b q o w hA hI ho)
  clear hA hI
  go_enter Tryz.func156, Tryz.ntmps156
  go_wp2_with fail
  with_reducible refine C.out.mono ?_
  rintro e w' ⟨rfl, h⟩
  have HH := Lib.hid h
  clear h
  go_wp2
  go_ret
  exact ⟨rfl, HH.out⟩
theorem ship_any (b : SB) (q : Ss) (o : Nat) (w : World) (hA : At w b q) (hI : Inv q) (ho : o < 4294967296) :
    Calls Tryz.prog 161 #[.pointer (some ⟨b.s, 0, none⟩), .int .u32 (o : Int)] w (EndPost w b q o true) := by
  have C := Lib.hid (ship_end b q o w hA hI ho)
  clear hA hI
  go_enter Tryz.func161, Tryz.ntmps161
  go_wp2_with fail
  with_reducible refine C.out.mono ?_
  rintro e w' ⟨rfl, h⟩
  have HH := Lib.hid h
  clear h
  go_wp2
  go_ret
  exact ⟨rfl, HH.out⟩

/-! ### a stock that is not there -/
end Go.Proofs.YtpbclmnhkmcknaaGreat.St

namespace Go.Proofs.YtpbclmnhkmcknaaGreat.St
open Go.Proofs Go.Shelf Go.RowKit Go.Lib Go.Sort
set_option maxRecDepth 100000
set_option linter.unusedVariables false
set_option linter.unusedSimpArgs false

theorem cmpB_lt : ∀ a b : List UInt8, Lib.compareBytes a b < 0 ↔ a < b
  | [], [] => by simp [Lib.compareBytes]
  | [], _ :: _ => by simp [Lib.compareBytes]
  | _ :: _, [] => by simp [Lib.compareBytes]
  | a :: ra, b :: rb => by
    unfold Lib.compareBytes
    rw [List.cons_lt_cons_iff]
    by_cases h : a < b
    · simp [h]
    · rw [if_neg h]
      by_cases h2 : b < a
      · rw [if_pos h2]
        simp only [h, false_or]
        constructor
        · intro h3; omega
        · rintro ⟨rfl, _⟩; exact absurd h2 (UInt8.lt_irrefl _)
      · rw [if_neg h2, cmpB_lt ra rb]
        have : a = b := UInt8.le_antisymm (UInt8.not_lt.1 h2) (UInt8.not_lt.1 h)
        simp [h, this]

theorem cmp41 (a b : List UInt8) (w : World) :
    Calls Tryz.prog 145 #[encStr a, encStr b] w fun e w' => e = .returned (.int .i64 (Lib.compareBytes a b)) ∧ w = w' := by
  go_enter Tryz.func145, Tryz.ntmps145
  go_wp2
  rw [run_callFunc_extern Tryz.func176 (by kernel_rfl) (by kernel_rfl) (by kernel_rfl) (e := Extern.BytealgCompare.compare) (by kernel_rfl), Lib.run_compareString]
  simp only [Result.andThen]
  rw [Oper.upon_value]
  go_wp2
  go_ret
  exact ⟨rfl, rfl⟩
theorem cmp32 (a b : List UInt8) (w : World) :
    Calls Tryz.prog 119 #[encStr a, encStr b] w fun e w' => e = .returned (.int .i64 (Lib.compareBytes a b)) ∧ w = w' := by
  have C := cmp41 a b w
  generalize Lib.compareBytes a b = r at *
  go_enter Tryz.func119, Tryz.ntmps119
  go_wp2_with fail
  with_reducible refine C.mono ?_
  rintro e w' ⟨rfl, rfl⟩
  go_wp2
  go_ret
  exact ⟨rfl, rfl⟩
/-- A good as it comes out: name, how many are free. -/
structure Gd where
  n : List UInt8
  f : Int
instance : Inhabited Gd := ⟨⟨[], 0⟩⟩
def encG (x : Gd) : List Value := [encStr x.n, .int .i64 x.f]
def cfG (x y : Gd) : Int := Lib.compareBytes x.n y.n
theorem close31 (x y : Gd) (W : World) : Calls Tryz.prog 118 #[.agg #[encStr x.n, .int .i64 x.f], .agg #[encStr y.n, .int .i64 y.f]] W fun e w' => e = .returned (.int .i64 (cfG x y)) ∧ ∃ q os', w' = grow (W.drewN q) os' := by
  have C := fun W => cmp32 x.n y.n W
  unfold cfG
  generalize Lib.compareBytes x.n y.n = r at *
  go_enter Tryz.func118, Tryz.ntmps118
  go_wp2_with (go_at_call 119; refine (C _).mono ?_; rintro e w' ⟨rfl, rfl⟩)
  go_ret
  exact ⟨rfl, 0, _, by rw [alloc_eq_grow, alloc_eq_grow, grow_grow]; rfl⟩
theorem ltG (x y : Gd) : ltOf cfG x y = decide (x.n < y.n) := by
  unfold ltOf cfG
  by_cases h : x.n < y.n
  · have := (cmpB_lt _ _).2 h; simp [h, this]
  · have : ¬ Lib.compareBytes x.n y.n < 0 := fun h' => h ((cmpB_lt x.n y.n).1 h'); simp only [h, this, decide_false]
theorem swoG : SWO (ltOf cfG) where
  irrefl x := by rw [ltG]; exact decide_eq_false (nm_irrefl x.n)
  trans x y z h1 h2 := by rw [ltG] at *; simp at *; exact nm_trans h1 h2
  ntrans x y z h1 h2 := by
    rw [ltG] at *
    simp at *
    exact List.le_trans h2 h1
end Go.Proofs.YtpbclmnhkmcknaaGreat.St

namespace Go.Proofs.YtpbclmnhkmcknaaGreat.St
open Go.Proofs Go.Shelf Go.RowKit Go.Lib Go.Sort
set_option maxRecDepth 100000
set_option linter.unusedVariables false
set_option linter.unusedSimpArgs false

section
variable {α : Type} (enc : α → List Value) (e : TypeId) (k : Nat)

/-- The cells of these elements. -/
def flat (l : List α) : List Value := l.flatMap enc
variable {enc} {k}
theorem flat_len (hk : ∀ x, (enc x).length = k) : ∀ l : List α, (flat enc l).length = l.length * k
  | [] => by simp [flat]
  | x :: r => by
    have := flat_len hk r
    unfold flat at this ⊢
    rw [List.flatMap_cons, List.length_append, this, hk, List.length_cons, Nat.add_mul]; omega
theorem flat_get (hk : ∀ x, (enc x).length = k) : ∀ (l : List α) (i : Nat) (hi : i < l.length) (j : Nat), j < k → (flat enc l)[i * k + j]? = (enc (l[i]'hi))[j]?
  | [], i, hi, _, _ => absurd hi (by simp)
  | x :: r, 0, hi, j, hj => by
    unfold flat
    rw [List.flatMap_cons, List.getElem?_append_left (by rw [hk]; omega)]
    simp
  | x :: r, i + 1, hi, j, hj => by
    have := flat_get hk r i (by simpa using hi) j hj
    unfold flat at this ⊢
    rw [List.flatMap_cons, List.getElem?_append_right (by rw [hk, Nat.add_mul]; omega), hk]
    rw [show (i + 1) * k + j - k = i * k + j from by rw [Nat.add_mul]; omega, this]
    simp
theorem flat_flatK [Inhabited α] (hk : ∀ x, (enc x).length = k) (hk0 : 0 < k) (l : List α) : flatK enc k l.toArray = (flat enc l).toArray := by
  have hl := flat_len hk l
  refine ext_get! (by rw [size_flatK]; simp [hl]) fun t ht => ?_
  have ht' : t < l.length * k := by simpa using ht
  rw [get_flatK _ _ _ t (by simpa using ht')]
  have hq : t / k < l.length := Nat.div_lt_of_lt_mul (by rw [Nat.mul_comm]; exact ht')
  have hm : t % k < k := Nat.mod_lt _ hk0
  have h := flat_get hk l (t / k) hq (t % k) hm
  rw [show t / k * k + t % k = t from by rw [Nat.mul_comm]; exact Nat.div_add_mod t k] at h
  have e1 : l.toArray[t / k]! = l[t / k] := by simp [hq]
  rw [e1]
  have h2 : t < (flat enc l).length := by rw [hl]; exact ht'
  have e2 : (flat enc l).toArray[t]! = (flat enc l)[t] := by simp [h2]
  rw [e2]
  have h3 : t % k < (enc l[t / k]).length := by rw [hk]; exact hm
  rw [List.getElem?_eq_getElem h2, List.getElem?_eq_getElem h3] at h
  have e3 : (enc l[t / k])[t % k]! = (enc l[t / k])[t % k] := by simp [h3]
  rw [e3]
  exact (Option.some.inj h).symm

variable (enc) (k)
/-- The slice v owns a row, not below B, that reads as l. -/
def OwnE (w : World) (B : Nat) (v : Value) (l : List α) : Prop := w.ownsRow B e k v l.length (flat enc l)
variable {enc} {e} {k}

theorem OwnE.form {w : World} {B : Nat} {v : Value} {l : List α} (h : OwnE enc e k w B v l) :
    (v = .slice none 0 0 ∧ l = []) ∨ ∃ g cap cur, v = .slice (some ⟨g, 0, none⟩) l.length cap ∧ B ≤ g ∧ Lies w g e cur ∧ l.length ≤ cap ∧ cap ≤ maxLen ∧ cur.size = cap * k ∧ cur.toList.take (l.length * k) = flat enc l := by
  obtain ⟨_, h1 | ⟨g, cap, cur, hv, hb, hg, hn, hm, hs, ht⟩⟩ := h
  · exact .inl ⟨h1.1, List.eq_nil_of_length_eq_zero h1.2⟩
  · exact .inr ⟨g, cap, cur, hv, hb, hg, hn, hm, hs, ht⟩
theorem OwnE.nil (w : World) (B : Nat) : OwnE enc e k w B (.slice none 0 0) [] := ⟨by simp [flat], .inl ⟨rfl, rfl⟩⟩
theorem OwnE.made (w : World) (B n : Nat) (z : Array Value) (hB : B ≤ w.heap.size) (hn : n ≤ maxLen) : OwnE enc e k (w.alloc (.cells (madeCells z (n * k)) e)) B (.slice (some ⟨w.heap.size, 0, none⟩) 0 n) [] :=
  World.ownsRow_made w _ n hB hn (size_madeCells _ _)
theorem OwnE.block {w : World} {B : Nat} {v : Value} {l : List α} (h : OwnE enc e k w B v l) : ∀ b, v.ownBlock = some b → B ≤ b ∧ b < w.heap.size := by
  intro b hb
  rcases h.form with ⟨rfl, _⟩ | ⟨g, cap, cur, rfl, h1, h2, _⟩
  · cases hb
  · have : g = b := by simpa [Value.ownBlock] using hb
    subst this
    exact ⟨h1, h2.lt⟩
theorem OwnE.same {w w' : World} {B : Nat} {v : Value} {l : List α} (h : OwnE enc e k w B v l) (hb : ∀ b, v.ownBlock = some b → w'.heap[b]? = w.heap[b]?) : OwnE enc e k w' B v l := by
  obtain ⟨h0, h1⟩ := h
  refine ⟨h0, ?_⟩
  rcases h1 with h1 | ⟨g, cap, cur, rfl, r1, r2, r3⟩
  · exact .inl h1
  · exact .inr ⟨g, cap, cur, rfl, r1, (hb g rfl).trans r2, r3⟩
theorem OwnE.grown {w w' : World} {B : Nat} {v : Value} {l : List α} {row : Option Nat} (h : OwnE enc e k w B v l) (hg : w.grownBy w' row) (hne : ∀ b, v.ownBlock = some b → some b ≠ row) : OwnE enc e k w' B v l :=
  h.same fun b hb => hg.block b (h.block b hb).2 (hne b hb)
theorem OwnE.below {w w' : World} {B : Nat} {v : Value} {l : List α} (h : OwnE enc e k w B v l) (hb : Below w.heap.size w w') : OwnE enc e k w' B v l :=
  h.same fun b hv => hb.block b (h.block b hv).2
theorem OwnE.alloc {w : World} {B : Nat} {v : Value} {l : List α} (h : OwnE enc e k w B v l) (o : Obj) : OwnE enc e k (w.alloc o) B v l := h.below (below1 w o)
/-- Element i's cell j. -/
theorem OwnE.cell {w : World} {B : Nat} {A : Option Addr} {n c : Nat} {l : List α} (h : OwnE enc e k w B (.slice A n c) l) (hk : ∀ x, (enc x).length = k) : n = l.length ∧ n ≤ c ∧ c ≤ maxLen ∧ (A = none → n = 0) ∧
    ∀ (i : Nat) (hi : i < l.length), ∃ g, A = some ⟨g, 0, none⟩ ∧ B ≤ g ∧ g < w.heap.size ∧ ∀ j, j < k → w.cell? ⟨g, i * k + j, none⟩ = (enc (l[i]'hi))[j]? ∧ w.frozen? ⟨g, i * k + j, none⟩ = false := by
  rcases h.form with ⟨hv, hl⟩ | ⟨g, cap, cur, hv, h1, h2, h3, h4, h5, h6⟩
  · injection hv with q1 q2 q3
    subst q1 q2 q3 hl
    exact ⟨rfl, Nat.le_refl _, by unfold maxLen; omega, fun _ => rfl, fun i hi => absurd hi (by simp)⟩
  · injection hv with q1 q2 q3
    subst q1 q2 q3
    refine ⟨rfl, h3, h4, (fun h => by cases h), fun i hi => ⟨g, rfl, h1, h2.lt, fun j hj => ⟨?_, h2.free _⟩⟩⟩
    rw [h2.cell, ← flat_get hk l i hi j hj, ← h6, List.getElem?_take_of_lt, Array.getElem?_toList]
    have := Nat.mul_le_mul_right k (show i + 1 ≤ l.length from hi)
    rw [Nat.add_mul] at this
    omega

/-- 'append' of one element. -/
theorem wpl_app1 (t : TypeId) (inf : TypeInfo) (z : Value) (by_ : Nat) (ht : Tryz.prog.underlying t = some (.slice e)) (hi : Tryz.prog.info? e = some inf) (hz : inf.zero = some z) (hsz : inf.size = k) (hby : inf.bytes = by_) (hzs : z.cells.size = k) (hk0 : 0 < k) (hb48 : by_ ≤ 1000)
    (hk : ∀ x, (enc x).length = k) (h1c : ∀ x, ∀ v ∈ enc x, v.oneCell' = true)
    {ops : Array Oper} {rest : List Oper} {a : Act} {w : World} {Q : Exit → Act → World → Prop} (dst : Option Tmp) (ty : TypeId) (pos : String) (aft : Array Edge) (s x : Operand)
    (B : Nat) (v : Value) (l : List α) (g : Nat) (y : α)
    (hs : a.eval s = v) (hx : a.eval x = .slice (some ⟨g, 0, none⟩) 1 1) (hown : OwnE enc e k w B v l) (hsrc : Lies w g e (enc y).toArray) (hsm : l.length ≤ 100000) (hB : B ≤ w.heap.size)
    (h : ∀ v' w', OwnE enc e k w' B v' (l ++ [y]) → w.grownBy w' v.ownBlock → (v'.ownBlock = v.ownBlock ∨ v'.ownBlock = some w.heap.size) → wpList Tryz.prog ops Q rest (a.put dst v') w') :
    wpList Tryz.prog ops Q (⟨dst, .call { callee := .builtin .append, args := #[s, x], argTypes := #[t, t] }, ty, pos, aft, none⟩ :: rest) a w := by
  refine wpList_append_own_at (w := w) (o := ⟨dst, .call { callee := .builtin .append, args := #[s, x], argTypes := #[t, t] }, ty, pos, aft, none⟩) rfl s x t rfl B e inf z k by_ ht hi hz hsz hby hzs hk0 v l.length (flat enc l) hs hown
    ⟨g, 0, none⟩ 1 1 (enc y) hx (by rw [hk]; omega) (fun j u hu => ?_) (h1c y) (by unfold maxLen; omega) ?_ hB ?_
  · rw [Addr.add_mid, Nat.zero_add, hsrc.cell]
    simpa using hu
  · have : (l.length + 1) * by_ ≤ 100001 * 1000 := Nat.mul_le_mul (by omega) hb48
    omega
  · intro v' w' r1 r2 _ r4
    refine h v' w' ?_ r2 r4
    show w'.ownsRow B e k v' (l ++ [y]).length (flat enc (l ++ [y]))
    rw [List.length_append, show flat enc (l ++ [y]) = flat enc l ++ enc y from by simp [flat]]
    exact r1

/-- What a sort leaves. -/
theorem sorted_form [Inhabited α] {w : World} {g n : Nat} {os : Array Obj} {cur : Array Value} (d : List α) (hk : ∀ x, (enc x).length = k) (hk0 : 0 < k) (hb : Lies w g e cur) (hn : d.length * k ≤ cur.size) :
    ∃ cur', Lies (grow (putRowK enc k (Sort.ahead w n) g 0 d.toArray) os) g e cur' ∧ cur'.size = cur.size ∧ cur'.toList.take (d.length * k) = flat enc d := by
  have hg : g < w.heap.size := hb.lt
  refine ⟨putCells id 0 (flat enc d).toArray cur, ?_, by simp [putCells], ?_⟩
  · unfold Lies at hb ⊢
    rw [heap_grow_old _ _ (by simpa [putRowK] using hg)]
    unfold putRowK
    rw [flat_flatK hk hk0]
    simp [putRow, mapBlock, Sort.ahead, Array.getElem?_modify, hb, onCells]
  · have hl := flat_len hk d
    rw [← hl] at hn ⊢
    apply List.ext_getElem?
    intro j
    by_cases hj : j < (flat enc d).length
    · rw [List.getElem?_take_of_lt hj, Array.getElem?_toList]
      simp [putCells, hj, show j < cur.size by omega]
    · rw [List.getElem?_take_eq_none (by omega), List.getElem?_eq_none (by omega)]
theorem grownBy_sortK [Inhabited α] {w : World} {g n : Nat} {os : Array Obj} (d : Array α) : w.grownBy (grow (putRowK enc k (Sort.ahead w n) g 0 d) os) (some g) := by
  refine ⟨rfl, rfl, rfl, by simp [putRowK], fun i hi hne => ?_⟩
  rw [heap_grow_old _ _ (by simpa [putRowK] using hi)]
  have : g ≠ i := fun e => hne (by rw [e])
  simp [putRowK, putRow, mapBlock, Sort.ahead, Array.getElem?_modify, this]
theorem holdsK_of [Inhabited α] {w : World} {g : Nat} {cur : Array Value} {l : List α} (hk : ∀ x, (enc x).length = k) (hk0 : 0 < k) (hb : Lies w g e cur) (ht : cur.toList.take (l.length * k) = flat enc l) : HoldsK enc k w g 0 l.toArray := by
  unfold HoldsK
  rw [flat_flatK hk hk0]
  have hl := flat_len hk l
  intro j hj
  have hj' : j < (flat enc l).length := by simpa using hj
  refine ⟨?_, hb.free _⟩
  rw [Nat.zero_add, hb.cell]
  have h1 : (cur.toList.take (l.length * k))[j]? = (flat enc l)[j]? := by rw [ht]
  rw [List.getElem?_take_of_lt (by omega), Array.getElem?_toList] at h1
  rw [h1, List.getElem?_eq_getElem hj']
  simp [hj']

theorem perm_sorted [Inhabited α] {lt : α → α → Bool} {l : List α} {d' : Array α} (hp : PermIn 0 l.toArray.size l.toArray d') (hs : SortedIn lt 0 l.toArray.size d') :
    d'.toList.Perm l ∧ d'.toList.Pairwise (fun x y => lt y x = false) := by
  obtain ⟨hsz, _, hperm⟩ := hp
  have e1 : d'.extract 0 l.toArray.size = d' := by rw [← hsz]; exact Array.extract_size
  rw [e1, Array.extract_size] at hperm
  refine ⟨by simpa using hperm, ?_⟩
  rw [List.pairwise_iff_getElem]
  intro i j hi hj hij
  have hi' : i < d'.size := by simpa using hi
  have hj' : j < d'.size := by simpa using hj
  have := hs i j (Nat.zero_le _) hij (by omega)
  rw [getElem!_pos d' j hj', getElem!_pos d' i hi'] at this
  simpa using this
end

end Go.Proofs.YtpbclmnhkmcknaaGreat.St

namespace Go.Proofs.YtpbclmnhkmcknaaGreat.St
open Go.Proofs Go.Shelf Go.RowKit Go.Lib Go.Sort
set_option maxRecDepth 100000
set_option linter.unusedVariables false
set_option linter.unusedSimpArgs false

theorem encG_len (x : Gd) : (encG x).length = 2 := rfl
theorem encG_one (x : Gd) : ∀ v ∈ encG x, v.oneCell' = true := by
  intro v hv
  simp [encG] at hv
  rcases hv with rfl | rfl <;> rfl
abbrev OwnG (w : World) (B : Nat) (v : Value) (l : List Gd) : Prop := OwnE encG 90 2 w B v l
def SortPost {α : Type} (lt : α → α → Bool) (own : World → Value → List α → Prop) (w : World) (v : Value) (l : List α) (e : Ending) (w' : World) : Prop :=
  e = .returned (.tuple #[]) ∧ ∃ l', l'.Perm l ∧ l'.Pairwise (fun x y => lt y x = false) ∧ own w' v l' ∧ w.grownBy w' v.ownBlock

theorem sortG_any (B : Nat) (v : Value) (l : List Gd) (w : World) (h : OwnG w B v l) (hl : l.length ≤ 1000000) :
    Calls Tryz.prog 117 #[v, .func (.func 118) #[] #[]] w (SortPost (ltOf cfG) (fun w' v l' => OwnG w' B v l') w v l) := by
  rcases h.form with ⟨rfl, rfl⟩ | ⟨g, cap, cur, rfl, h1, h2, h3, h4, h5, h6⟩
  · have hcon := AnyF.slices_SortFunc_none { sortGoodL with } none 0 (.func (.func 118) #[] #[]) w
    change Calls Tryz.prog 117 _ _ _ at hcon
    refine hcon.mono ?_
    rintro e w' ⟨rfl, rfl⟩
    exact ⟨rfl, [], List.Perm.refl _, List.Pairwise.nil, h, World.grownBy.refl _ _⟩
  · have eg : ∀ args w, (callFunc 118 args).run Tryz.prog w = .ok (.enter 118 args) w := enters_of Tryz.func118 (by kernel_rfl) rfl
    have hcon := AnyQ.slices_SortFunc sortGoodL 2 Tryz.isAgg90 Tryz.sizeOf90 encG encG_len encG_one cfG swoG 118 #[] g 0 cap l.toArray w eg (fun _ _ _ _ x y => close31 x y _) (holdsK_of encG_len (by decide) h2 h6) h2.lt (by simp; omega)
    change Calls Tryz.prog 117 _ _ _ at hcon
    rw [show l.toArray.size = l.length from by simp] at hcon
    refine hcon.mono ?_
    rintro e w' ⟨rfl, d', n, os, hp, hs, rfl⟩
    obtain ⟨p1, p2⟩ := perm_sorted (l := l) (by simpa using hp) (by simpa using hs)
    obtain ⟨cur', c1, c2, c3⟩ := sorted_form (enc := encG) (k := 2) (n := n) (os := os) d'.toList encG_len (by decide) h2 (by rw [p1.length_eq]; omega)
    rw [Array.toArray_toList] at c1
    refine ⟨rfl, d'.toList, p1, p2, ⟨by rw [flat_len encG_len], .inr ⟨g, cap, cur', by rw [p1.length_eq], h1, c1, by rw [p1.length_eq]; exact h3, h4, by rw [c2]; exact h5, c3⟩⟩, grownBy_sortK d'⟩

/-! ### what was met in a range over a map -/
def goodsL (K : List Kd) : List Gd := K.map (fun k => ⟨k.n, k.f⟩)
def MetK (K : List Kd) (left : Lit → Bool) (L : List Kd) : Prop := (L.map (·.n)).Nodup ∧ (∀ k ∈ L, k ∈ K ∧ left (.string k.n) = false) ∧ ∀ k ∈ K, left (.string k.n) = false → k ∈ L
theorem MetK.start {D : DataW Unit} {K : List Kd} (h : KT D K) (hs : KSort K) : MetK K (Maps.has D) [] :=
  ⟨List.nodup_nil, (fun k hk => absurd hk (by simp)), fun k hk hf => by rw [h.has, hs.find hk] at hf; cases hf⟩
theorem KT.entry {D : DataW Unit} {K : List Kd} (h : KT D K) {x : List UInt8} {c : Kd} (hat : ∀ z, D.atKey (.string x) z = dK c) : c ∈ K ∧ c.n = x := by
  have h1 := h.find x
  cases hf : findK K x with
  | none =>
    rw [hf] at h1
    have := (h1 .nil).symm.trans (hat .nil)
    cases this
  | some k =>
    rw [hf] at h1
    have := dK_inj ((h1 .nil).symm.trans (hat .nil))
    subst this
    exact findK_some hf
theorem MetK.step {K : List Kd} {left : Lit → Bool} {L : List Kd} (h : MetK K left L) (hs : KSort K) {c : Kd} (hc : c ∈ K) (hl : left (.string c.n) = true) : MetK K (fun z => left z && !z.sameKey (.string c.n)) (L ++ [c]) := by
  refine ⟨?_, ?_, ?_⟩
  · rw [List.map_append]
    refine List.nodup_append.2 ⟨h.1, by simp, fun a ha b hb => ?_⟩
    simp at hb
    subst hb
    obtain ⟨k, hk, rfl⟩ := List.mem_map.1 ha
    intro e
    have := (h.2.1 k hk).2
    rw [e, hl] at this
    cases this
  · intro k hk
    rcases List.mem_append.1 hk with hk | hk
    · exact ⟨(h.2.1 k hk).1, by simp only [(h.2.1 k hk).2, Bool.false_and]⟩
    · simp at hk; subst hk; exact ⟨hc, by simp [Lit.sameKey]⟩
  · intro k hk hf
    by_cases e : k.n = c.n
    · rw [hs.uniq hk hc e]; simp
    · refine List.mem_append_left _ (h.2.2 k hk ?_)
      simpa [Lit.sameKey, e] using hf
theorem nodup_of_map {α β : Type} (f : α → β) : ∀ {l : List α}, (l.map f).Nodup → l.Nodup
  | [], _ => List.nodup_nil
  | x :: r, h => by
    rw [List.map_cons, List.nodup_cons] at h
    exact List.nodup_cons.2 ⟨fun hx => h.1 (List.mem_map_of_mem hx), nodup_of_map f h.2⟩
theorem MetK.perm {K : List Kd} {left : Lit → Bool} {L : List Kd} (h : MetK K left L) (hs : KSort K) (hl : ∀ kl, left kl = false) : L.Perm K := by
  have hn : K.Nodup := List.Pairwise.imp (fun {a b} hlt e => by subst e; exact nm_irrefl _ hlt) hs
  refine (List.perm_ext_iff_of_nodup (nodup_of_map _ h.1) hn).2 fun k => ⟨fun hk => (h.2.1 k hk).1, fun hk => h.2.2 k hk (hl _)⟩
theorem goods_eq {K L : List Kd} {l' : List Gd} (hs : KSort K) (hp : L.Perm K) (h1 : l'.Perm (goodsL L)) (h2 : l'.Pairwise (fun x y => ltOf cfG y x = false)) : l' = goodsL K := by
  have hp2 : l'.Perm (goodsL K) := h1.trans (hp.map _)
  refine List.Perm.eq_of_pairwise (le := fun x y => ltOf cfG y x = false) (fun a b ha hb q1 q2 => ?_) h2 ?_ hp2
  · rw [ltG] at q1 q2
    simp only [decide_eq_false_iff_not] at q1 q2
    obtain ⟨x, hx, rfl⟩ := List.mem_map.1 (hp2.mem_iff.1 ha)
    obtain ⟨y, hy, rfl⟩ := List.mem_map.1 hb
    have e : x.n = y.n := by
      refine Classical.byContradiction fun hne => q1 ?_
      exact nm_tri q2 hne
    rw [hs.uniq hx hy e]
  · unfold goodsL
    rw [List.pairwise_map]
    refine hs.imp fun hlt => ?_
    rw [ltG]
    exact decide_eq_false (nm_asymm hlt)
end Go.Proofs.YtpbclmnhkmcknaaGreat.St

namespace Go.Proofs.YtpbclmnhkmcknaaGreat.St
open Go.Proofs Go.RowKit Go.Maps
set_option maxRecDepth 100000
set_option linter.unusedVariables false

theorem wpl_appG {ops : Array Oper} {rest : List Oper} {a : Act} {w : World} {Q : Exit → Act → World → Prop} (dst : Option Tmp) (ty : TypeId) (pos : String) (aft : Array Edge) (s x : Operand)
    (B : Nat) (v : Value) (l : List Gd) (g : Nat) (n : List UInt8) (f : Int)
    (hs : a.eval s = v) (hx : a.eval x = .slice (some ⟨g, 0, none⟩) 1 1) (hown : OwnG w B v l) (hsrc : Lies w g 90 #[encStr n, .int .i64 f]) (hsm : l.length ≤ 100000) (hB : B ≤ w.heap.size)
    (h : ∀ v' w', OwnG w' B v' (l ++ [⟨n, f⟩]) → w.grownBy w' v.ownBlock → (v'.ownBlock = v.ownBlock ∨ v'.ownBlock = some w.heap.size) → wpList Tryz.prog ops Q rest (a.put dst v') w') :
    wpList Tryz.prog ops Q (⟨dst, .call { callee := .builtin .append, args := #[s, x], argTypes := #[39, 39] }, ty, pos, aft, none⟩ :: rest) a w :=
  wpl_app1 39 _ _ 24 Tryz.underlying39 Tryz.type90 rfl rfl rfl rfl (by decide) (by decide) encG_len encG_one dst ty pos aft s x B v l g ⟨n, f⟩ hs hx hown hsrc hsm hB h
end Go.Proofs.YtpbclmnhkmcknaaGreat.St

namespace Go.Proofs.YtpbclmnhkmcknaaGreat.St
open Go.RowKit
set_option maxRecDepth 100000
set_option linter.unusedVariables false
section
variable {P : Program} {ops : Array Oper} {Q : Act → Prop} {w : World}
end

end Go.Proofs.YtpbclmnhkmcknaaGreat.St

namespace Go.Proofs.YtpbclmnhkmcknaaGreat.St
open Go.RowKit
set_option maxRecDepth 100000
set_option linter.unusedVariables false

/-- Block g is now these cells, all else as before. -/
structure PutW (w w' : World) (g : Nat) (t : TypeId) (cs : Array Value) : Prop where
  lies : Lies w' g t cs
  grown : w.grownBy w' (some g)
  size : w'.heap.size = w.heap.size
theorem putW {w : World} {g i : Nat} {t : TypeId} {cs : Array Value} (hL : Lies w g t cs) (v : Value) : PutW w (w.setCell ⟨g, i, none⟩ v) g t (cs.setIfInBounds i v) :=
  ⟨hL.put i v, ⟨rfl, rfl, rfl, by simp, fun k hk hne => heap_setCell_other w ⟨g, i, none⟩ k v (fun e => hne (by rw [e]))⟩, by simp⟩

end Go.Proofs.YtpbclmnhkmcknaaGreat.St
