/-
  Texts of one proof, in their order: PuPutS, PuSettle, PuMov0, PuMov1.
-/
import Derived.Test.YtpbclmnhkmcknaaGreatZ11
namespace Go.Proofs.YtpbclmnhkmcknaaGreat.Pu
open Go.RowKit
set_option maxRecDepth 100000
set_option linter.unusedVariables false

/-- Block g is now these cells, all else as before. -/
structure PutW (w w' : World) (g : Nat) (t : TypeId) (cs : Array Value) : Prop where
  lies : Lies w' g t cs
  grown : w.grownBy w' (some g)
  size : w'.heap.size = w.heap.size
theorem putW {w : World} {g i : Nat} {t : TypeId} {cs : Array Value} (hL : Lies w g t cs) (v : Value) : PutW w (w.setCell ⟨g, i, none⟩ v) g t (cs.setIfInBounds i v) :=
  ⟨hL.put i v, ⟨rfl, rfl, rfl, by simp, fun k hk hne => heap_setCell_other w ⟨g, i, none⟩ k v (fun e => hne (by rw [e]))⟩, by simp⟩

theorem wpl_putC {ops : Array Oper} {rest : List Oper} {a : Act} {w : World} {Q : Exit → Act → World → Prop} (dst : Option Tmp) (rty : TypeId) (pos : String) (aft : Array Edge) (ty : TypeId) (x y : Operand)
    (g i : Nat) (t : TypeId) (cs : Array Value) (v : Value) (hx : a.eval x = .pointer (some ⟨g, i, none⟩)) (hy : a.eval y = v) (hL : Lies w g t cs) (hi : i < cs.size)
    (hsz : (Tryz.prog.info? ty).map (·.size) = some 1) (h1 : v.oneCell' = true)
    (h : ∀ w', PutW w w' g t (cs.setIfInBounds i v) → wpList Tryz.prog ops Q rest (a.put dst undef) w') :
    wpList Tryz.prog ops Q (⟨dst, .store ty x y, rty, pos, aft, none⟩ :: rest) a w := by
  refine wpList_plain rfl fun K' hK' => ?_
  have f0 := hL.cell i
  rw [Array.getElem?_eq_getElem hi] at f0
  have f1 := hL.free i
  have hc : v.cells = #[v] := by cases v <;> first | rfl | cases h1
  unfold Oper.wp
  cases hq : Tryz.prog.info? ty with
  | none => simp [hq] at hsz
  | some inf =>
    have hs : inf.size = 1 := by simpa [hq] using hsz
    have hr : ((Instr.storeAt ty (.pointer (some ⟨g, i, none⟩)) v).run Tryz.prog w) = .ok () (w.setCell ⟨g, i, none⟩ v) := by
      simp [Instr.storeAt, Instr.sureAddr, storeVar, sizeOf, typeInfo, hq, hs, hc, Result.andThen, storeCells, Addr.add]
      rw [run_store _ _ _ _ _ h1]
      simp [f0, f1]
    simp [execOp, hx, hy, hr, Result.andThen]
    exact hK' _ _ (h _ (putW hL v))

end Go.Proofs.YtpbclmnhkmcknaaGreat.Pu

namespace Go.Proofs.YtpbclmnhkmcknaaGreat.Pu
open Go.RowKit
set_option maxRecDepth 100000
set_option linter.unusedVariables false
set_option linter.unusedSimpArgs false

def MovPost (w : World) (b : SB) (q : Ss) (o c : Nat) (e : Ending) (w' : World) : Prop :=
  e = .returned (.int .i64 (verd (movV q o c))) ∧ At w' b (movS q o c) ∧ Frm w w' b
theorem mov_no {q : Ss} (hI : Inv q) {o c : Nat} (h : findH (stH q.H (frS c)) o = none) : movV q o c = false := by
  rw [← Bool.not_eq_true, movV_iff]
  rintro ⟨y, h1, h2⟩
  rw [findH_st hI.hs, h1] at h
  dsimp only at h
  rw [if_pos h2] at h
  cases h
theorem PutW.trans {w w' w'' : World} {g : Nat} {t : TypeId} {cs ds : Array Value} (h : PutW w w' g t cs) (h' : PutW w' w'' g t ds) : PutW w w'' g t ds :=
  ⟨h'.lies, ⟨h'.grown.os.trans h.grown.os, h'.grown.tape.trans h.grown.tape, h'.grown.output.trans h.grown.output, Nat.le_trans h.grown.size h'.grown.size, fun i hi hn => (h'.grown.block i (by rw [h.size]; exact hi) hn).trans (h.grown.block i hi hn)⟩, h'.size.trans h.size⟩
theorem PutW.other {w w' : World} {g : Nat} {t : TypeId} {cs : Array Value} (h : PutW w w' g t cs) {i : Nat} (hi : i < w.heap.size) (hn : i ≠ g) : w'.heap[i]? = w.heap[i]? := h.grown.block i hi (fun e => hn (Option.some.inj e))
theorem PutW.lies_other {w w' : World} {g : Nat} {t : TypeId} {cs : Array Value} (h : PutW w w' g t cs) {i : Nat} {u : TypeId} {ds : Array Value} (hL : Lies w i u ds) (hn : i ≠ g) : Lies w' i u ds := hL.same (h.other hL.lt hn)
theorem AtM.put {w w' : World} {b : SB} {K : List Kd} {P1 P2 P3 : List Hd} (h : AtM w b K P1 P2 P3) {g : Nat} {t : TypeId} {cs ds : Array Value} {u : TypeId} (hp : PutW w w' g t cs) (hL : Lies w g u ds) (hn : g ≠ b.s) : AtM w' b K P1 P2 P3 :=
  h.same (hp.other h.c.lt (Ne.symm hn)) fun j hj => hp.other (h.map_lt hj) (fun e => h.map_ne hL (by rw [← e]; exact hj))
theorem Frm.put {w w' w'' : World} {b : SB} (h : Frm w w' b) {g : Nat} {t : TypeId} {cs : Array Value} (hp : PutW w' w'' g t cs) (hg : w.heap.size ≤ g) : Frm w w'' b :=
  ⟨hp.grown.os.trans h.os, hp.grown.tape.trans h.tape, hp.grown.output.trans h.output, by rw [hp.size]; exact h.size, fun i hi h1 => (hp.other (Nat.lt_of_lt_of_le hi h.size) (by omega)).trans (h.block i hi h1)⟩

theorem settle0_any (g : Nat) (k : Kd) (m : Int) (w : World) (hL : Lies w g 87 #[encStr k.n, .int .i64 k.m, .int .i64 k.h]) (hk : 0 ≤ k.h ∧ k.h ≤ k.m ∧ k.m ≤ 1000000000) (hm : 1 ≤ m ∧ m ≤ 1000000000) :
    Calls Tryz.prog 195 #[.pointer (some ⟨g, 0, none⟩), .int .i64 m] w fun e w' => e = .returned (.tuple #[]) ∧ PutW w w' g 87 #[encStr k.n, .int .i64 (k.m - m), .int .i64 (k.h - m)] := by
  have HL := Lib.hid hL
  obtain ⟨c0, c1, c2⟩ := hL.cells3
  obtain ⟨f0, f1, f2⟩ := hL.free3
  have e1 : IntKind.i64.wrap (k.h - m) = k.h - m := IntWalk.i64_in _ (by omega)
  have e2 : IntKind.i64.wrap (k.m - m) = k.m - m := IntWalk.i64_in _ (by omega)
  clear hL
  go_enter Tryz.func195, Tryz.ntmps195
  go_wp2
  go_end0
  exact ⟨rfl, (putW (i := 2) HL.out (.int .i64 (k.h - m))).trans (putW (i := 1) (HL.out.put 2 (.int .i64 (k.h - m))) (.int .i64 (k.m - m)))⟩
theorem settle1_any (g : Nat) (k : Kd) (m : Int) (w : World) (hL : Lies w g 87 #[encStr k.n, .int .i64 k.m, .int .i64 k.h]) (hk : 0 ≤ k.h ∧ k.h ≤ k.m ∧ k.m ≤ 1000000000) (hm : 1 ≤ m ∧ m ≤ 1000000000) :
    Calls Tryz.prog 192 #[.pointer (some ⟨g, 0, none⟩), .int .i64 m] w fun e w' => e = .returned (.tuple #[]) ∧ PutW w w' g 87 #[encStr k.n, .int .i64 k.m, .int .i64 (k.h - m)] := by
  have HL := Lib.hid hL
  obtain ⟨c0, c1, c2⟩ := hL.cells3
  obtain ⟨f0, f1, f2⟩ := hL.free3
  have e1 : IntKind.i64.wrap (k.h - m) = k.h - m := IntWalk.i64_in _ (by omega)
  clear hL
  go_enter Tryz.func192, Tryz.ntmps192
  go_wp2
  go_end0
  exact ⟨rfl, putW (i := 2) HL.out (.int .i64 (k.h - m))⟩
theorem settle2_any (g : Nat) (k : Kd) (m : Int) (w : World) (hL : Lies w g 87 #[encStr k.n, .int .i64 k.m, .int .i64 k.h]) (hk : 0 ≤ k.h ∧ k.h ≤ k.m ∧ k.m ≤ 1000000000) (hm : 1 ≤ m ∧ m ≤ 1000000000) :
    Calls Tryz.prog 193 #[.pointer (some ⟨g, 0, none⟩), .int .i64 m] w fun e w' => e = .returned (.tuple #[]) ∧ PutW w w' g 87 #[encStr k.n, .int .i64 (k.m + m), .int .i64 k.h] := by
  have HL := Lib.hid hL
  obtain ⟨c0, c1, c2⟩ := hL.cells3
  obtain ⟨f0, f1, f2⟩ := hL.free3
  have e1 : IntKind.i64.wrap (k.m + m) = k.m + m := IntWalk.i64_in _ (by omega)
  clear hL
  go_enter Tryz.func193, Tryz.ntmps193
  go_wp2
  go_end0
  exact ⟨rfl, putW (i := 1) HL.out (.int .i64 (k.m + m))⟩

end Go.Proofs.YtpbclmnhkmcknaaGreat.Pu

namespace Go.Proofs.YtpbclmnhkmcknaaGreat.Pu
open Go.RowKit
set_option maxRecDepth 100000
set_option linter.unusedVariables false
set_option linter.unusedSimpArgs false

set_option maxHeartbeats 4000000 in
theorem capture_mov (b : SB) (q : Ss) (o : Nat) (w : World) (hA : At w b q) (hI : Inv q) (ho : o < 4294967296) (hl : q.H.length ≤ 1000) :
    Calls Tryz.prog 191 #[.pointer (some ⟨b.s, 0, none⟩), .int .u32 (o : Int), .int .i64 1, .int .i64 2, .func (.func 195) #[] #[]] w (MovPost w b q o 0) := by
  have HA := Lib.hid hA.m
  have HAQ := Lib.hid hA
  have HI := Lib.hid hI
  obtain ⟨c0, c1, c2, c3, c4⟩ := hA.c.cells5
  have r1 := hA.o1.look_ok o ho
  cases hf : findH (stH q.H 1) o with
  | none =>
    have HV : Hid (movV q o 0 = false) := Lib.hid (mov_no hI hf)
    rw [hf] at r1
    dsimp only [Option.getD_none, Option.isSome_none] at r1
    clear hA hI hf
    go_enter Tryz.func191, Tryz.ntmps191
    go_wp2
    go_ret
    refine ⟨by rw [HV.out]; rfl, ?_, Frm.of_below b (below1 _ _)⟩
    rw [movS_no HV.out]
    exact HAQ.out.alloc _
  | some y =>
    rw [hf] at r1
    dsimp only [Option.getD_some, Option.isSome_some] at r1
    have hfo := st_some hI hf
    obtain ⟨hys, rfl⟩ := findH_some hf
    obtain ⟨hy, hyt⟩ := mem_stH.1 hys
    obtain ⟨k, hk, hm, hkn⟩ := hI.kn hy
    have HT : Hid (y.t = 1) := Lib.hid hyt
    have HY := Lib.hid hy
    have HFO := Lib.hid hfo
    have HK := Lib.hid hk
    have HM := Lib.hid (And.intro hm hkn)
    have HO := Lib.hid ho
    have HEV : Hid (movV q y.o 0 = true) := Lib.hid (movV_iff.2 ⟨y, hfo, hyt⟩)
    have HYL : Hid (y.n.length ≤ maxLen) := Lib.hid (by have := (hI.kb hy).2; unfold maxLen; omega)
    have HNO : Hid (∀ x ∈ stH q.H 2, x.o ≠ y.o) := Lib.hid (fun x hx e => by
      obtain ⟨h1, h2⟩ := mem_stH.1 hx
      rw [hI.hs.uniq h1 hy e, hyt] at h2
      cases h2)
    have HLN : Hid ((stH q.H 2).length ≤ 1000000) := Lib.hid (by have : (stH q.H 2).length ≤ q.H.length := List.length_filter_le _ _; omega)
    have KB := Lib.hid (hI.kbs hm)
    have YB : Hid (1 ≤ y.k ∧ y.k ≤ 1000000000) := Lib.hid ⟨(hI.hh y hy).1, (hI.kb hy).1⟩
    have HA1 := Lib.hid (HA.out.alloc (.cells #[encStr y.n, .int .i64 y.k] 282))
    obtain ⟨w2, hd1, hd2, hd3⟩ := HA1.out.o1.del (hI.hs.st _) y hys ho 0
    obtain ⟨d0, d1, d2, d3, d4⟩ := HA1.out.c.cells5
    obtain ⟨hA2, hF2⟩ := HA1.out.turn1 hd2 hd3
    have HNM : Hid (¬ b.isMap w.heap.size) := Lib.hid (fun hm => Nat.lt_irrefl _ (HA.out.map_lt hm))
    have HA2 := Lib.hid hA2
    have HF2 := Lib.hid ((Frm.of_below b (below1 w (.cells #[encStr y.n, .int .i64 y.k] 282))).trans hF2)
    have L2 := Lib.hid (hF2.lies (Lies.made w 282 #[encStr y.n, .int .i64 y.k]) HNM.out)
    clear hA hI hf hfo hk hm hkn hy hys hyt hA2 hF2 hd2 hd3 hl HAQ
    go_enter Tryz.func191, Tryz.ntmps191
    go_wp2_with fail
    clear r1 hd1 c0 c1 c2 c3 c4 d0 d1 d2 d3 d4
    obtain ⟨w3, hu1, hu2, hu3⟩ := HA2.out.drew.o2.add ⟨y.o, y.n, y.k, 2⟩ HNO.out HO.out HLN.out
    have HU := Lib.hid (And.intro hu1 (And.intro hu2 hu3))
    clear hu1 hu2 hu3
    refine wp_region_noPanic ?_
    refine wp_region_held_drew (S := fun W => Lies W b.s 186 (pcs b) ∧ Lies W w.heap.size 282 #[encStr y.n, .int .i64 y.k]) (by kernel_rfl) ⟨HA2.out.c, L2.out⟩ (fun hH0 => ?_)
    refine any_take 0 36 ?va0 rfl rfl (by kernel_rfl) (by kernel_rfl) (by kernel_rfl) (fun _ _ _ h => h) (by rfl) ?hya0 hH0 ?resta0
    case hya0 => ((intro W hSw); obtain ⟨o0, o1, o2, o3, o4⟩ := Lies.cells5 hSw.1; obtain ⟨p0, p1⟩ := Lies.cells2 hSw.2; go_simp; (try with_reducible rfl))
    try simp only [Act.put, List.setIfInBounds_toArray, List.set_cons_zero, List.set_cons_succ]
    refine any_take 1 37 ?va1 rfl rfl (by kernel_rfl) (by kernel_rfl) (by kernel_rfl) (fun _ _ _ h => h) (by rfl) ?hya1 hH0 ?resta1
    case hya1 => ((intro W hSw); obtain ⟨o0, o1, o2, o3, o4⟩ := Lies.cells5 hSw.1; obtain ⟨p0, p1⟩ := Lies.cells2 hSw.2; go_simp; (try with_reducible rfl))
    try simp only [Act.put, List.setIfInBounds_toArray, List.set_cons_zero, List.set_cons_succ]
    refine any_take 2 38 ?va2 rfl rfl (by kernel_rfl) (by kernel_rfl) (by kernel_rfl) (fun _ _ _ h => h) (by rfl) ?hya2 hH0 ?resta2
    case hya2 => ((intro W hSw); obtain ⟨o0, o1, o2, o3, o4⟩ := Lies.cells5 hSw.1; obtain ⟨p0, p1⟩ := Lies.cells2 hSw.2; go_simp; (try with_reducible rfl))
    try simp only [Act.put, List.setIfInBounds_toArray, List.set_cons_zero, List.set_cons_succ]
    refine any_take 3 39 ?va3 rfl rfl (by kernel_rfl) (by kernel_rfl) (by kernel_rfl) (fun _ _ _ h => h) (by rfl) ?hya3 hH0 ?resta3
    case hya3 => ((intro W hSw); obtain ⟨o0, o1, o2, o3, o4⟩ := Lies.cells5 hSw.1; obtain ⟨p0, p1⟩ := Lies.cells2 hSw.2; go_simp; (try with_reducible rfl))
    try simp only [Act.put, List.setIfInBounds_toArray, List.set_cons_zero, List.set_cons_succ]
    refine any_take 4 40 ?va4 rfl rfl (by kernel_rfl) (by kernel_rfl) (by kernel_rfl) (fun _ _ _ h => h) (by rfl) ?hya4 hH0 ?resta4
    case hya4 => ((intro W hSw); obtain ⟨o0, o1, o2, o3, o4⟩ := Lies.cells5 hSw.1; obtain ⟨p0, p1⟩ := Lies.cells2 hSw.2; go_simp; (try with_reducible rfl))
    try simp only [Act.put, List.setIfInBounds_toArray, List.set_cons_zero, List.set_cons_succ]
    refine any_take 5 41 ?va5 rfl rfl (by kernel_rfl) (by kernel_rfl) (by kernel_rfl) (fun _ _ _ h => h) (by rfl) ?hya5 hH0 ?resta5
    case hya5 => ((intro W hSw); obtain ⟨o0, o1, o2, o3, o4⟩ := Lies.cells5 hSw.1; obtain ⟨p0, p1⟩ := Lies.cells2 hSw.2; go_simp; (try with_reducible rfl))
    try simp only [Act.put, List.setIfInBounds_toArray, List.set_cons_zero, List.set_cons_succ]
    refine any_take 6 42 ?va6 rfl rfl (by kernel_rfl) (by kernel_rfl) (by kernel_rfl) (fun _ _ _ h => h) (by rfl) ?hya6 hH0 ?resta6
    case hya6 => ((intro W hSw); obtain ⟨o0, o1, o2, o3, o4⟩ := Lies.cells5 hSw.1; obtain ⟨p0, p1⟩ := Lies.cells2 hSw.2; go_simp; (try with_reducible rfl))
    try simp only [Act.put, List.setIfInBounds_toArray, List.set_cons_zero, List.set_cons_succ]
    refine any_take 7 43 ?va7 rfl rfl (by kernel_rfl) (by kernel_rfl) (by kernel_rfl) (fun _ _ _ h => h) (by rfl) ?hya7 hH0 ?resta7
    case hya7 => ((intro W hSw); obtain ⟨o0, o1, o2, o3, o4⟩ := Lies.cells5 hSw.1; obtain ⟨p0, p1⟩ := Lies.cells2 hSw.2; go_simp; (try with_reducible rfl))
    try simp only [Act.put, List.setIfInBounds_toArray, List.set_cons_zero, List.set_cons_succ]
    refine wpAnyH_ready (rs := [8]) (by kernel_rfl) (by simp) ?_
    refine AllReadyH.cons rfl (fun K hK => ?_) AllReadyH.nil
    refine stp_upd none _ _ _ 183 (.tmp 41) (.tmp 42) (.tmp 43) (.map (some b.p2)) (.int .u32 (y.o : Int)) (vH ⟨y.o, y.n, y.k, 2⟩) w3 rfl rfl rfl HU.out.1 ?_
    obtain ⟨hA3, hF3⟩ := HA2.out.drew.turn2 HU.out.2.1 HU.out.2.2
    have L3 := Lib.hid (hF3.lies (g := w.heap.size) (t := 282) (w := w2.drew) L2.out HNM.out)
    have HA3 := Lib.hid hA3
    have HF3 := Lib.hid (HF2.out.drew.trans hF3)
    clear hA3 hF3
    refine hK.out _ _ ⟨HA3.out.c, L3.out⟩ (fun hH1 => ?_)
    clear hK K hH0
    try simp only [Act.put, List.setIfInBounds_toArray, List.set_cons_zero, List.set_cons_succ]
    clear hH1
    refine wpAnyH_done (by kernel_rfl) ?_ _
    refine NoPanic.normal ?_
    go_wp2_with fail
    refine wp_region_noPanic ?_
    refine wp_region_held_drew (S := fun W => (Lies W b.s 186 (pcs b) ∧ Lies W w.heap.size 282 #[encStr y.n, .int .i64 y.k]) ∧ OwnK W b.k q.K) (by kernel_rfl) ⟨⟨HA3.out.c, L3.out⟩, HA3.out.ok⟩ (fun hH0 => ?_)
    refine any_take 0 44 ?vb0 rfl rfl (by kernel_rfl) (by kernel_rfl) (by kernel_rfl) (fun _ _ _ h => h) (by rfl) ?hyb0 hH0 ?restb0
    case hyb0 => ((intro W hSw); obtain ⟨o0, o1, o2, o3, o4⟩ := Lies.cells5 hSw.1.1; obtain ⟨p0, p1⟩ := Lies.cells2 hSw.1.2; have lk := hSw.2.look y.n HYL.out; rw [HK.out] at lk; dsimp only [Option.getD_some] at lk; go_simp; (try with_reducible rfl))
    try simp only [Act.put, List.setIfInBounds_toArray, List.set_cons_zero, List.set_cons_succ]
    refine any_take 1 45 ?vb1 rfl rfl (by kernel_rfl) (by kernel_rfl) (by kernel_rfl) (fun _ _ _ h => h) (by rfl) ?hyb1 hH0 ?restb1
    case hyb1 => ((intro W hSw); obtain ⟨o0, o1, o2, o3, o4⟩ := Lies.cells5 hSw.1.1; obtain ⟨p0, p1⟩ := Lies.cells2 hSw.1.2; have lk := hSw.2.look y.n HYL.out; rw [HK.out] at lk; dsimp only [Option.getD_some] at lk; go_simp; (try with_reducible rfl))
    try simp only [Act.put, List.setIfInBounds_toArray, List.set_cons_zero, List.set_cons_succ]
    refine any_take 2 46 ?vb2 rfl rfl (by kernel_rfl) (by kernel_rfl) (by kernel_rfl) (fun _ _ _ h => h) (by rfl) ?hyb2 hH0 ?restb2
    case hyb2 => ((intro W hSw); obtain ⟨o0, o1, o2, o3, o4⟩ := Lies.cells5 hSw.1.1; obtain ⟨p0, p1⟩ := Lies.cells2 hSw.1.2; have lk := hSw.2.look y.n HYL.out; rw [HK.out] at lk; dsimp only [Option.getD_some] at lk; go_simp; (try with_reducible rfl))
    try simp only [Act.put, List.setIfInBounds_toArray, List.set_cons_zero, List.set_cons_succ]
    refine any_take 3 47 ?vb3 rfl rfl (by kernel_rfl) (by kernel_rfl) (by kernel_rfl) (fun _ _ _ h => h) (by rfl) ?hyb3 hH0 ?restb3
    case hyb3 => ((intro W hSw); obtain ⟨o0, o1, o2, o3, o4⟩ := Lies.cells5 hSw.1.1; obtain ⟨p0, p1⟩ := Lies.cells2 hSw.1.2; have lk := hSw.2.look y.n HYL.out; rw [HK.out] at lk; dsimp only [Option.getD_some] at lk; go_simp; (try with_reducible rfl))
    try simp only [Act.put, List.setIfInBounds_toArray, List.set_cons_zero, List.set_cons_succ]
    refine any_take 4 48 ?vb4 rfl rfl (by kernel_rfl) (by kernel_rfl) (by kernel_rfl) (fun _ _ _ h => h) (by rfl) ?hyb4 hH0 ?restb4
    case hyb4 => ((intro W hSw); obtain ⟨o0, o1, o2, o3, o4⟩ := Lies.cells5 hSw.1.1; obtain ⟨p0, p1⟩ := Lies.cells2 hSw.1.2; have lk := hSw.2.look y.n HYL.out; rw [HK.out] at lk; dsimp only [Option.getD_some] at lk; go_simp; (try with_reducible rfl))
    try simp only [Act.put, List.setIfInBounds_toArray, List.set_cons_zero, List.set_cons_succ]
    refine any_take 5 49 ?vb5 rfl rfl (by kernel_rfl) (by kernel_rfl) (by kernel_rfl) (fun _ _ _ h => h) (by rfl) ?hyb5 hH0 ?restb5
    case hyb5 => ((intro W hSw); obtain ⟨o0, o1, o2, o3, o4⟩ := Lies.cells5 hSw.1.1; obtain ⟨p0, p1⟩ := Lies.cells2 hSw.1.2; have lk := hSw.2.look y.n HYL.out; rw [HK.out] at lk; dsimp only [Option.getD_some] at lk; go_simp; (try with_reducible rfl))
    try simp only [Act.put, List.setIfInBounds_toArray, List.set_cons_zero, List.set_cons_succ]
    refine any_take 6 50 ?vb6 rfl rfl (by kernel_rfl) (by kernel_rfl) (by kernel_rfl) (fun _ _ _ h => h) (by rfl) ?hyb6 hH0 ?restb6
    case hyb6 => ((intro W hSw); obtain ⟨o0, o1, o2, o3, o4⟩ := Lies.cells5 hSw.1.1; obtain ⟨p0, p1⟩ := Lies.cells2 hSw.1.2; have lk := hSw.2.look y.n HYL.out; rw [HK.out] at lk; dsimp only [Option.getD_some] at lk; go_simp; (try with_reducible rfl))
    try simp only [Act.put, List.setIfInBounds_toArray, List.set_cons_zero, List.set_cons_succ]
    refine wpAnyH_ready (rs := [7]) (by kernel_rfl) (by simp) ?_
    refine AllReadyH.cons rfl (fun K hK => ?_) AllReadyH.nil
    go_simp
    refine hK.out _ _ ⟨⟨(HA3.out.drew.alloc _).c, Lies.alloc (w := w3.drew) L3.out _⟩, (HA3.out.drew.alloc _).ok⟩ (fun hH1 => ?_)
    clear hK K hH0
    try simp only [Act.put, List.setIfInBounds_toArray, List.set_cons_zero, List.set_cons_succ]
    refine wpAnyH_ready (rs := [8]) (by kernel_rfl) (by simp) ?_
    refine AllReadyH.cons rfl (fun K hK => ?_) AllReadyH.nil
    go_simp
    refine hK.out _ _ ⟨⟨(HA3.out.drew.alloc _).c, Lies.alloc (w := w3.drew) L3.out _⟩, (HA3.out.drew.alloc _).ok⟩ (fun hH2 => ?_)
    clear hK K hH1
    try simp only [Act.put, List.setIfInBounds_toArray, List.set_cons_zero, List.set_cons_succ]
    clear hH2
    refine wpAnyH_done (by kernel_rfl) ?_ _
    refine NoPanic.normal ?_
    obtain ⟨W4, hW4⟩ : ∃ W4, W4 = (w3.alloc (.cells #[encStr k.n, .int .i64 k.m, .int .i64 k.h] 87)).drew := ⟨_, rfl⟩
    rw [← hW4]
    have HA4 : Hid (AtM W4 b q.K (delH (stH q.H 1) y.o) (insH ⟨y.o, y.n, y.k, 2⟩ (stH q.H 2)) (stH q.H 3)) := Lib.hid (by rw [hW4]; exact (HA3.out.alloc _).drew)
    have L4 : Hid (Lies W4 w.heap.size 282 #[encStr y.n, .int .i64 y.k]) := Lib.hid (by rw [hW4]; exact Lies.alloc (w := w3) L3.out _)
    have M4 : Hid (Lies W4 w3.heap.size 87 #[encStr k.n, .int .i64 k.m, .int .i64 k.h]) := Lib.hid (by rw [hW4]; exact Lies.made w3 _ _)
    have HF4 : Hid (Frm w W4 b) := Lib.hid (by rw [hW4]; exact (HF3.out.alloc _).drew)
    have HNE : Hid (w3.heap.size ≠ w.heap.size ∧ w3.heap.size ≠ b.s ∧ w.heap.size ≤ w3.heap.size) := Lib.hid ⟨Nat.ne_of_gt L3.out.lt, Nat.ne_of_gt HA3.out.c.lt, HF3.out.size⟩
    have HNM2 : Hid (¬ b.isMap w3.heap.size) := Lib.hid (fun hm => Nat.lt_irrefl _ (HA3.out.map_lt hm))
    clear hW4
    obtain ⟨q0, q1⟩ := L4.out.cells2
    go_wp2_with fail
    with_reducible refine (settle0_any w3.heap.size k y.k W4 M4.out KB.out YB.out).mono ?_
    rintro e w5 ⟨rfl, hp⟩
    have HA5 := Lib.hid (HA4.out.put hp M4.out HNE.out.2.1)
    have L5 := Lib.hid (hp.lies_other L4.out (Ne.symm HNE.out.1))
    have M5 := Lib.hid hp.lies
    have HF5 := Lib.hid (HF4.out.put hp HNE.out.2.2)
    clear hp q0 q1
    go_wp2_with fail
    obtain ⟨w6, hu1, hu2, hu3⟩ := HA5.out.drew.ok.upd HI.out.ks ⟨k.n, k.m - y.k, k.h - y.k⟩ k HM.out.1 rfl (by show k.n.length ≤ _; rw [HM.out.2]; exact HYL.out) (by have := HI.out.kz; show q.K.length ≤ _; omega)
    have HU2 := Lib.hid (And.intro hu1 (And.intro hu2 hu3))
    clear hu1 hu2 hu3
    refine wp_region_noPanic ?_
    refine wp_region_held_drew (S := fun W => (Lies W b.s 186 (pcs b) ∧ Lies W w.heap.size 282 #[encStr y.n, .int .i64 y.k]) ∧ Lies W w3.heap.size 87 #[encStr k.n, .int .i64 (k.m - y.k), .int .i64 (k.h - y.k)]) (by kernel_rfl) ⟨⟨HA5.out.c, L5.out⟩, M5.out⟩ (fun hH0 => ?_)
    refine any_take 0 55 ?vc0 rfl rfl (by kernel_rfl) (by kernel_rfl) (by kernel_rfl) (fun _ _ _ h => h) (by rfl) ?hyc0 hH0 ?restc0
    case hyc0 => ((intro W hSw); obtain ⟨o0, o1, o2, o3, o4⟩ := Lies.cells5 hSw.1.1; obtain ⟨p0, p1⟩ := Lies.cells2 hSw.1.2; obtain ⟨m0, m1, m2⟩ := Lies.cells3 hSw.2; go_simp; (try with_reducible rfl))
    try simp only [Act.put, List.setIfInBounds_toArray, List.set_cons_zero, List.set_cons_succ]
    refine any_take 1 56 ?vc1 rfl rfl (by kernel_rfl) (by kernel_rfl) (by kernel_rfl) (fun _ _ _ h => h) (by rfl) ?hyc1 hH0 ?restc1
    case hyc1 => ((intro W hSw); obtain ⟨o0, o1, o2, o3, o4⟩ := Lies.cells5 hSw.1.1; obtain ⟨p0, p1⟩ := Lies.cells2 hSw.1.2; obtain ⟨m0, m1, m2⟩ := Lies.cells3 hSw.2; go_simp; (try with_reducible rfl))
    try simp only [Act.put, List.setIfInBounds_toArray, List.set_cons_zero, List.set_cons_succ]
    refine any_take 2 57 ?vc2 rfl rfl (by kernel_rfl) (by kernel_rfl) (by kernel_rfl) (fun _ _ _ h => h) (by rfl) ?hyc2 hH0 ?restc2
    case hyc2 => ((intro W hSw); obtain ⟨o0, o1, o2, o3, o4⟩ := Lies.cells5 hSw.1.1; obtain ⟨p0, p1⟩ := Lies.cells2 hSw.1.2; obtain ⟨m0, m1, m2⟩ := Lies.cells3 hSw.2; go_simp; (try with_reducible rfl))
    try simp only [Act.put, List.setIfInBounds_toArray, List.set_cons_zero, List.set_cons_succ]
    refine any_take 3 58 ?vc3 rfl rfl (by kernel_rfl) (by kernel_rfl) (by kernel_rfl) (fun _ _ _ h => h) (by rfl) ?hyc3 hH0 ?restc3
    case hyc3 => ((intro W hSw); obtain ⟨o0, o1, o2, o3, o4⟩ := Lies.cells5 hSw.1.1; obtain ⟨p0, p1⟩ := Lies.cells2 hSw.1.2; obtain ⟨m0, m1, m2⟩ := Lies.cells3 hSw.2; go_simp; (try with_reducible rfl))
    try simp only [Act.put, List.setIfInBounds_toArray, List.set_cons_zero, List.set_cons_succ]
    refine any_take 4 59 ?vc4 rfl rfl (by kernel_rfl) (by kernel_rfl) (by kernel_rfl) (fun _ _ _ h => h) (by rfl) ?hyc4 hH0 ?restc4
    case hyc4 => ((intro W hSw); obtain ⟨o0, o1, o2, o3, o4⟩ := Lies.cells5 hSw.1.1; obtain ⟨p0, p1⟩ := Lies.cells2 hSw.1.2; obtain ⟨m0, m1, m2⟩ := Lies.cells3 hSw.2; go_simp; (try with_reducible rfl))
    try simp only [Act.put, List.setIfInBounds_toArray, List.set_cons_zero, List.set_cons_succ]
    refine any_take 5 60 ?vc5 rfl rfl (by kernel_rfl) (by kernel_rfl) (by kernel_rfl) (fun _ _ _ h => h) (by rfl) ?hyc5 hH0 ?restc5
    case hyc5 => ((intro W hSw); obtain ⟨o0, o1, o2, o3, o4⟩ := Lies.cells5 hSw.1.1; obtain ⟨p0, p1⟩ := Lies.cells2 hSw.1.2; obtain ⟨m0, m1, m2⟩ := Lies.cells3 hSw.2; go_simp; (try with_reducible rfl))
    try simp only [Act.put, List.setIfInBounds_toArray, List.set_cons_zero, List.set_cons_succ]
    refine any_take 6 61 ?vc6 rfl rfl (by kernel_rfl) (by kernel_rfl) (by kernel_rfl) (fun _ _ _ h => h) (by rfl) ?hyc6 hH0 ?restc6
    case hyc6 => ((intro W hSw); obtain ⟨o0, o1, o2, o3, o4⟩ := Lies.cells5 hSw.1.1; obtain ⟨p0, p1⟩ := Lies.cells2 hSw.1.2; obtain ⟨m0, m1, m2⟩ := Lies.cells3 hSw.2; go_simp; (try with_reducible rfl))
    try simp only [Act.put, List.setIfInBounds_toArray, List.set_cons_zero, List.set_cons_succ]
    refine wpAnyH_ready (rs := [7]) (by kernel_rfl) (by simp) ?_
    refine AllReadyH.cons rfl (fun K hK => ?_) AllReadyH.nil
    refine stp_upd none _ _ _ 182 (.tmp 58) (.tmp 60) (.tmp 61) (.map (some b.k)) (encStr y.n) (vK ⟨k.n, k.m - y.k, k.h - y.k⟩) w6 rfl rfl rfl (by rw [← HM.out.2]; exact HU2.out.1) ?_
    obtain ⟨hA6, hF6⟩ := HA5.out.drew.turnK HU2.out.2.1 HU2.out.2.2
    have L6 := hF6.lies (w := w5.drew) L5.out HNM.out
    have M6 := hF6.lies (w := w5.drew) M5.out HNM2.out
    have HA6 := Lib.hid hA6
    have HF6 := Lib.hid (HF5.out.drew.trans hF6)
    refine hK.out _ _ ⟨⟨hA6.c, L6⟩, M6⟩ (fun hH1 => ?_)
    clear hA6 hF6 L6 M6 hK K hH0
    try simp only [Act.put, List.setIfInBounds_toArray, List.set_cons_zero, List.set_cons_succ]
    clear hH1
    refine wpAnyH_done (by kernel_rfl) ?_ _
    refine NoPanic.normal ?_
    go_wp2
    go_ret
    refine ⟨by rw [HEV.out]; rfl, ?_, HF6.out⟩
    rw [movS_yes (c := 0) HFO.out HT.out HK.out]
    exact HA6.out.at (by rw [← HT.out]; exact stH_set_from HI.out.hs HY.out (by rw [HT.out]; decide)) (stH_set_to HI.out.hs HY.out (by rw [HT.out]; decide)) (stH_set_other HI.out.hs HY.out (by decide) (by rw [HT.out]; decide))

end Go.Proofs.YtpbclmnhkmcknaaGreat.Pu

namespace Go.Proofs.YtpbclmnhkmcknaaGreat.Pu
open Go.RowKit
set_option maxRecDepth 100000
set_option linter.unusedVariables false
set_option linter.unusedSimpArgs false

set_option maxHeartbeats 4000000 in
theorem void_mov (b : SB) (q : Ss) (o : Nat) (w : World) (hA : At w b q) (hI : Inv q) (ho : o < 4294967296) (hl : q.H.length ≤ 1000) :
    Calls Tryz.prog 191 #[.pointer (some ⟨b.s, 0, none⟩), .int .u32 (o : Int), .int .i64 1, .int .i64 3, .func (.func 192) #[] #[]] w (MovPost w b q o 1) := by
  have HA := Lib.hid hA.m
  have HAQ := Lib.hid hA
  have HI := Lib.hid hI
  obtain ⟨c0, c1, c2, c3, c4⟩ := hA.c.cells5
  have r1 := hA.o1.look_ok o ho
  cases hf : findH (stH q.H 1) o with
  | none =>
    have HV : Hid (movV q o 1 = false) := Lib.hid (mov_no hI hf)
    rw [hf] at r1
    dsimp only [Option.getD_none, Option.isSome_none] at r1
    clear hA hI hf
    go_enter Tryz.func191, Tryz.ntmps191
    go_wp2
    go_ret
    refine ⟨by rw [HV.out]; rfl, ?_, Frm.of_below b (below1 _ _)⟩
    rw [movS_no HV.out]
    exact HAQ.out.alloc _
  | some y =>
    rw [hf] at r1
    dsimp only [Option.getD_some, Option.isSome_some] at r1
    have hfo := st_some hI hf
    obtain ⟨hys, rfl⟩ := findH_some hf
    obtain ⟨hy, hyt⟩ := mem_stH.1 hys
    obtain ⟨k, hk, hm, hkn⟩ := hI.kn hy
    have HT : Hid (y.t = 1) := Lib.hid hyt
    have HY := Lib.hid hy
    have HFO := Lib.hid hfo
    have HK := Lib.hid hk
    have HM := Lib.hid (And.intro hm hkn)
    have HO := Lib.hid ho
    have HEV : Hid (movV q y.o 1 = true) := Lib.hid (movV_iff.2 ⟨y, hfo, hyt⟩)
    have HYL : Hid (y.n.length ≤ maxLen) := Lib.hid (by have := (hI.kb hy).2; unfold maxLen; omega)
    have HNO : Hid (∀ x ∈ stH q.H 3, x.o ≠ y.o) := Lib.hid (fun x hx e => by
      obtain ⟨h1, h2⟩ := mem_stH.1 hx
      rw [hI.hs.uniq h1 hy e, hyt] at h2
      cases h2)
    have HLN : Hid ((stH q.H 3).length ≤ 1000000) := Lib.hid (by have : (stH q.H 3).length ≤ q.H.length := List.length_filter_le _ _; omega)
    have KB := Lib.hid (hI.kbs hm)
    have YB : Hid (1 ≤ y.k ∧ y.k ≤ 1000000000) := Lib.hid ⟨(hI.hh y hy).1, (hI.kb hy).1⟩
    have HA1 := Lib.hid (HA.out.alloc (.cells #[encStr y.n, .int .i64 y.k] 282))
    obtain ⟨w2, hd1, hd2, hd3⟩ := HA1.out.o1.del (hI.hs.st _) y hys ho 0
    obtain ⟨d0, d1, d2, d3, d4⟩ := HA1.out.c.cells5
    obtain ⟨hA2, hF2⟩ := HA1.out.turn1 hd2 hd3
    have HNM : Hid (¬ b.isMap w.heap.size) := Lib.hid (fun hm => Nat.lt_irrefl _ (HA.out.map_lt hm))
    have HA2 := Lib.hid hA2
    have HF2 := Lib.hid ((Frm.of_below b (below1 w (.cells #[encStr y.n, .int .i64 y.k] 282))).trans hF2)
    have L2 := Lib.hid (hF2.lies (Lies.made w 282 #[encStr y.n, .int .i64 y.k]) HNM.out)
    clear hA hI hf hfo hk hm hkn hy hys hyt hA2 hF2 hd2 hd3 hl HAQ
    go_enter Tryz.func191, Tryz.ntmps191
    go_wp2_with fail
    clear r1 hd1 c0 c1 c2 c3 c4 d0 d1 d2 d3 d4
    obtain ⟨w3, hu1, hu2, hu3⟩ := HA2.out.drew.o3.add ⟨y.o, y.n, y.k, 3⟩ HNO.out HO.out HLN.out
    have HU := Lib.hid (And.intro hu1 (And.intro hu2 hu3))
    clear hu1 hu2 hu3
    refine wp_region_noPanic ?_
    refine wp_region_held_drew (S := fun W => Lies W b.s 186 (pcs b) ∧ Lies W w.heap.size 282 #[encStr y.n, .int .i64 y.k]) (by kernel_rfl) ⟨HA2.out.c, L2.out⟩ (fun hH0 => ?_)
    refine any_take 0 36 ?va0 rfl rfl (by kernel_rfl) (by kernel_rfl) (by kernel_rfl) (fun _ _ _ h => h) (by rfl) ?hya0 hH0 ?resta0
    case hya0 => ((intro W hSw); obtain ⟨o0, o1, o2, o3, o4⟩ := Lies.cells5 hSw.1; obtain ⟨p0, p1⟩ := Lies.cells2 hSw.2; go_simp; (try with_reducible rfl))
    try simp only [Act.put, List.setIfInBounds_toArray, List.set_cons_zero, List.set_cons_succ]
    refine any_take 1 37 ?va1 rfl rfl (by kernel_rfl) (by kernel_rfl) (by kernel_rfl) (fun _ _ _ h => h) (by rfl) ?hya1 hH0 ?resta1
    case hya1 => ((intro W hSw); obtain ⟨o0, o1, o2, o3, o4⟩ := Lies.cells5 hSw.1; obtain ⟨p0, p1⟩ := Lies.cells2 hSw.2; go_simp; (try with_reducible rfl))
    try simp only [Act.put, List.setIfInBounds_toArray, List.set_cons_zero, List.set_cons_succ]
    refine any_take 2 38 ?va2 rfl rfl (by kernel_rfl) (by kernel_rfl) (by kernel_rfl) (fun _ _ _ h => h) (by rfl) ?hya2 hH0 ?resta2
    case hya2 => ((intro W hSw); obtain ⟨o0, o1, o2, o3, o4⟩ := Lies.cells5 hSw.1; obtain ⟨p0, p1⟩ := Lies.cells2 hSw.2; go_simp; (try with_reducible rfl))
    try simp only [Act.put, List.setIfInBounds_toArray, List.set_cons_zero, List.set_cons_succ]
    refine any_take 3 39 ?va3 rfl rfl (by kernel_rfl) (by kernel_rfl) (by kernel_rfl) (fun _ _ _ h => h) (by rfl) ?hya3 hH0 ?resta3
    case hya3 => ((intro W hSw); obtain ⟨o0, o1, o2, o3, o4⟩ := Lies.cells5 hSw.1; obtain ⟨p0, p1⟩ := Lies.cells2 hSw.2; go_simp; (try with_reducible rfl))
    try simp only [Act.put, List.setIfInBounds_toArray, List.set_cons_zero, List.set_cons_succ]
    refine any_take 4 40 ?va4 rfl rfl (by kernel_rfl) (by kernel_rfl) (by kernel_rfl) (fun _ _ _ h => h) (by rfl) ?hya4 hH0 ?resta4
    case hya4 => ((intro W hSw); obtain ⟨o0, o1, o2, o3, o4⟩ := Lies.cells5 hSw.1; obtain ⟨p0, p1⟩ := Lies.cells2 hSw.2; go_simp; (try with_reducible rfl))
    try simp only [Act.put, List.setIfInBounds_toArray, List.set_cons_zero, List.set_cons_succ]
    refine any_take 5 41 ?va5 rfl rfl (by kernel_rfl) (by kernel_rfl) (by kernel_rfl) (fun _ _ _ h => h) (by rfl) ?hya5 hH0 ?resta5
    case hya5 => ((intro W hSw); obtain ⟨o0, o1, o2, o3, o4⟩ := Lies.cells5 hSw.1; obtain ⟨p0, p1⟩ := Lies.cells2 hSw.2; go_simp; (try with_reducible rfl))
    try simp only [Act.put, List.setIfInBounds_toArray, List.set_cons_zero, List.set_cons_succ]
    refine any_take 6 42 ?va6 rfl rfl (by kernel_rfl) (by kernel_rfl) (by kernel_rfl) (fun _ _ _ h => h) (by rfl) ?hya6 hH0 ?resta6
    case hya6 => ((intro W hSw); obtain ⟨o0, o1, o2, o3, o4⟩ := Lies.cells5 hSw.1; obtain ⟨p0, p1⟩ := Lies.cells2 hSw.2; go_simp; (try with_reducible rfl))
    try simp only [Act.put, List.setIfInBounds_toArray, List.set_cons_zero, List.set_cons_succ]
    refine any_take 7 43 ?va7 rfl rfl (by kernel_rfl) (by kernel_rfl) (by kernel_rfl) (fun _ _ _ h => h) (by rfl) ?hya7 hH0 ?resta7
    case hya7 => ((intro W hSw); obtain ⟨o0, o1, o2, o3, o4⟩ := Lies.cells5 hSw.1; obtain ⟨p0, p1⟩ := Lies.cells2 hSw.2; go_simp; (try with_reducible rfl))
    try simp only [Act.put, List.setIfInBounds_toArray, List.set_cons_zero, List.set_cons_succ]
    refine wpAnyH_ready (rs := [8]) (by kernel_rfl) (by simp) ?_
    refine AllReadyH.cons rfl (fun K hK => ?_) AllReadyH.nil
    refine stp_upd none _ _ _ 183 (.tmp 41) (.tmp 42) (.tmp 43) (.map (some b.p3)) (.int .u32 (y.o : Int)) (vH ⟨y.o, y.n, y.k, 3⟩) w3 rfl rfl rfl HU.out.1 ?_
    obtain ⟨hA3, hF3⟩ := HA2.out.drew.turn3 HU.out.2.1 HU.out.2.2
    have L3 := Lib.hid (hF3.lies (g := w.heap.size) (t := 282) (w := w2.drew) L2.out HNM.out)
    have HA3 := Lib.hid hA3
    have HF3 := Lib.hid (HF2.out.drew.trans hF3)
    clear hA3 hF3
    refine hK.out _ _ ⟨HA3.out.c, L3.out⟩ (fun hH1 => ?_)
    clear hK K hH0
    try simp only [Act.put, List.setIfInBounds_toArray, List.set_cons_zero, List.set_cons_succ]
    clear hH1
    refine wpAnyH_done (by kernel_rfl) ?_ _
    refine NoPanic.normal ?_
    go_wp2_with fail
    refine wp_region_noPanic ?_
    refine wp_region_held_drew (S := fun W => (Lies W b.s 186 (pcs b) ∧ Lies W w.heap.size 282 #[encStr y.n, .int .i64 y.k]) ∧ OwnK W b.k q.K) (by kernel_rfl) ⟨⟨HA3.out.c, L3.out⟩, HA3.out.ok⟩ (fun hH0 => ?_)
    refine any_take 0 44 ?vb0 rfl rfl (by kernel_rfl) (by kernel_rfl) (by kernel_rfl) (fun _ _ _ h => h) (by rfl) ?hyb0 hH0 ?restb0
    case hyb0 => ((intro W hSw); obtain ⟨o0, o1, o2, o3, o4⟩ := Lies.cells5 hSw.1.1; obtain ⟨p0, p1⟩ := Lies.cells2 hSw.1.2; have lk := hSw.2.look y.n HYL.out; rw [HK.out] at lk; dsimp only [Option.getD_some] at lk; go_simp; (try with_reducible rfl))
    try simp only [Act.put, List.setIfInBounds_toArray, List.set_cons_zero, List.set_cons_succ]
    refine any_take 1 45 ?vb1 rfl rfl (by kernel_rfl) (by kernel_rfl) (by kernel_rfl) (fun _ _ _ h => h) (by rfl) ?hyb1 hH0 ?restb1
    case hyb1 => ((intro W hSw); obtain ⟨o0, o1, o2, o3, o4⟩ := Lies.cells5 hSw.1.1; obtain ⟨p0, p1⟩ := Lies.cells2 hSw.1.2; have lk := hSw.2.look y.n HYL.out; rw [HK.out] at lk; dsimp only [Option.getD_some] at lk; go_simp; (try with_reducible rfl))
    try simp only [Act.put, List.setIfInBounds_toArray, List.set_cons_zero, List.set_cons_succ]
    refine any_take 2 46 ?vb2 rfl rfl (by kernel_rfl) (by kernel_rfl) (by kernel_rfl) (fun _ _ _ h => h) (by rfl) ?hyb2 hH0 ?restb2
    case hyb2 => ((intro W hSw); obtain ⟨o0, o1, o2, o3, o4⟩ := Lies.cells5 hSw.1.1; obtain ⟨p0, p1⟩ := Lies.cells2 hSw.1.2; have lk := hSw.2.look y.n HYL.out; rw [HK.out] at lk; dsimp only [Option.getD_some] at lk; go_simp; (try with_reducible rfl))
    try simp only [Act.put, List.setIfInBounds_toArray, List.set_cons_zero, List.set_cons_succ]
    refine any_take 3 47 ?vb3 rfl rfl (by kernel_rfl) (by kernel_rfl) (by kernel_rfl) (fun _ _ _ h => h) (by rfl) ?hyb3 hH0 ?restb3
    case hyb3 => ((intro W hSw); obtain ⟨o0, o1, o2, o3, o4⟩ := Lies.cells5 hSw.1.1; obtain ⟨p0, p1⟩ := Lies.cells2 hSw.1.2; have lk := hSw.2.look y.n HYL.out; rw [HK.out] at lk; dsimp only [Option.getD_some] at lk; go_simp; (try with_reducible rfl))
    try simp only [Act.put, List.setIfInBounds_toArray, List.set_cons_zero, List.set_cons_succ]
    refine any_take 4 48 ?vb4 rfl rfl (by kernel_rfl) (by kernel_rfl) (by kernel_rfl) (fun _ _ _ h => h) (by rfl) ?hyb4 hH0 ?restb4
    case hyb4 => ((intro W hSw); obtain ⟨o0, o1, o2, o3, o4⟩ := Lies.cells5 hSw.1.1; obtain ⟨p0, p1⟩ := Lies.cells2 hSw.1.2; have lk := hSw.2.look y.n HYL.out; rw [HK.out] at lk; dsimp only [Option.getD_some] at lk; go_simp; (try with_reducible rfl))
    try simp only [Act.put, List.setIfInBounds_toArray, List.set_cons_zero, List.set_cons_succ]
    refine any_take 5 49 ?vb5 rfl rfl (by kernel_rfl) (by kernel_rfl) (by kernel_rfl) (fun _ _ _ h => h) (by rfl) ?hyb5 hH0 ?restb5
    case hyb5 => ((intro W hSw); obtain ⟨o0, o1, o2, o3, o4⟩ := Lies.cells5 hSw.1.1; obtain ⟨p0, p1⟩ := Lies.cells2 hSw.1.2; have lk := hSw.2.look y.n HYL.out; rw [HK.out] at lk; dsimp only [Option.getD_some] at lk; go_simp; (try with_reducible rfl))
    try simp only [Act.put, List.setIfInBounds_toArray, List.set_cons_zero, List.set_cons_succ]
    refine any_take 6 50 ?vb6 rfl rfl (by kernel_rfl) (by kernel_rfl) (by kernel_rfl) (fun _ _ _ h => h) (by rfl) ?hyb6 hH0 ?restb6
    case hyb6 => ((intro W hSw); obtain ⟨o0, o1, o2, o3, o4⟩ := Lies.cells5 hSw.1.1; obtain ⟨p0, p1⟩ := Lies.cells2 hSw.1.2; have lk := hSw.2.look y.n HYL.out; rw [HK.out] at lk; dsimp only [Option.getD_some] at lk; go_simp; (try with_reducible rfl))
    try simp only [Act.put, List.setIfInBounds_toArray, List.set_cons_zero, List.set_cons_succ]
    refine wpAnyH_ready (rs := [7]) (by kernel_rfl) (by simp) ?_
    refine AllReadyH.cons rfl (fun K hK => ?_) AllReadyH.nil
    go_simp
    refine hK.out _ _ ⟨⟨(HA3.out.drew.alloc _).c, Lies.alloc (w := w3.drew) L3.out _⟩, (HA3.out.drew.alloc _).ok⟩ (fun hH1 => ?_)
    clear hK K hH0
    try simp only [Act.put, List.setIfInBounds_toArray, List.set_cons_zero, List.set_cons_succ]
    refine wpAnyH_ready (rs := [8]) (by kernel_rfl) (by simp) ?_
    refine AllReadyH.cons rfl (fun K hK => ?_) AllReadyH.nil
    go_simp
    refine hK.out _ _ ⟨⟨(HA3.out.drew.alloc _).c, Lies.alloc (w := w3.drew) L3.out _⟩, (HA3.out.drew.alloc _).ok⟩ (fun hH2 => ?_)
    clear hK K hH1
    try simp only [Act.put, List.setIfInBounds_toArray, List.set_cons_zero, List.set_cons_succ]
    clear hH2
    refine wpAnyH_done (by kernel_rfl) ?_ _
    refine NoPanic.normal ?_
    obtain ⟨W4, hW4⟩ : ∃ W4, W4 = (w3.alloc (.cells #[encStr k.n, .int .i64 k.m, .int .i64 k.h] 87)).drew := ⟨_, rfl⟩
    rw [← hW4]
    have HA4 : Hid (AtM W4 b q.K (delH (stH q.H 1) y.o) (stH q.H 2) (insH ⟨y.o, y.n, y.k, 3⟩ (stH q.H 3))) := Lib.hid (by rw [hW4]; exact (HA3.out.alloc _).drew)
    have L4 : Hid (Lies W4 w.heap.size 282 #[encStr y.n, .int .i64 y.k]) := Lib.hid (by rw [hW4]; exact Lies.alloc (w := w3) L3.out _)
    have M4 : Hid (Lies W4 w3.heap.size 87 #[encStr k.n, .int .i64 k.m, .int .i64 k.h]) := Lib.hid (by rw [hW4]; exact Lies.made w3 _ _)
    have HF4 : Hid (Frm w W4 b) := Lib.hid (by rw [hW4]; exact (HF3.out.alloc _).drew)
    have HNE : Hid (w3.heap.size ≠ w.heap.size ∧ w3.heap.size ≠ b.s ∧ w.heap.size ≤ w3.heap.size) := Lib.hid ⟨Nat.ne_of_gt L3.out.lt, Nat.ne_of_gt HA3.out.c.lt, HF3.out.size⟩
    have HNM2 : Hid (¬ b.isMap w3.heap.size) := Lib.hid (fun hm => Nat.lt_irrefl _ (HA3.out.map_lt hm))
    clear hW4
    obtain ⟨q0, q1⟩ := L4.out.cells2
    go_wp2_with fail
    with_reducible refine (settle1_any w3.heap.size k y.k W4 M4.out KB.out YB.out).mono ?_
    rintro e w5 ⟨rfl, hp⟩
    have HA5 := Lib.hid (HA4.out.put hp M4.out HNE.out.2.1)
    have L5 := Lib.hid (hp.lies_other L4.out (Ne.symm HNE.out.1))
    have M5 := Lib.hid hp.lies
    have HF5 := Lib.hid (HF4.out.put hp HNE.out.2.2)
    clear hp q0 q1
    go_wp2_with fail
    obtain ⟨w6, hu1, hu2, hu3⟩ := HA5.out.drew.ok.upd HI.out.ks ⟨k.n, k.m, k.h - y.k⟩ k HM.out.1 rfl (by show k.n.length ≤ _; rw [HM.out.2]; exact HYL.out) (by have := HI.out.kz; show q.K.length ≤ _; omega)
    have HU2 := Lib.hid (And.intro hu1 (And.intro hu2 hu3))
    clear hu1 hu2 hu3
    refine wp_region_noPanic ?_
    refine wp_region_held_drew (S := fun W => (Lies W b.s 186 (pcs b) ∧ Lies W w.heap.size 282 #[encStr y.n, .int .i64 y.k]) ∧ Lies W w3.heap.size 87 #[encStr k.n, .int .i64 k.m, .int .i64 (k.h - y.k)]) (by kernel_rfl) ⟨⟨HA5.out.c, L5.out⟩, M5.out⟩ (fun hH0 => ?_)
    refine any_take 0 55 ?vc0 rfl rfl (by kernel_rfl) (by kernel_rfl) (by kernel_rfl) (fun _ _ _ h => h) (by rfl) ?hyc0 hH0 ?restc0
    case hyc0 => ((intro W hSw); obtain ⟨o0, o1, o2, o3, o4⟩ := Lies.cells5 hSw.1.1; obtain ⟨p0, p1⟩ := Lies.cells2 hSw.1.2; obtain ⟨m0, m1, m2⟩ := Lies.cells3 hSw.2; go_simp; (try with_reducible rfl))
    try simp only [Act.put, List.setIfInBounds_toArray, List.set_cons_zero, List.set_cons_succ]
    refine any_take 1 56 ?vc1 rfl rfl (by kernel_rfl) (by kernel_rfl) (by kernel_rfl) (fun _ _ _ h => h) (by rfl) ?hyc1 hH0 ?restc1
    case hyc1 => ((intro W hSw); obtain ⟨o0, o1, o2, o3, o4⟩ := Lies.cells5 hSw.1.1; obtain ⟨p0, p1⟩ := Lies.cells2 hSw.1.2; obtain ⟨m0, m1, m2⟩ := Lies.cells3 hSw.2; go_simp; (try with_reducible rfl))
    try simp only [Act.put, List.setIfInBounds_toArray, List.set_cons_zero, List.set_cons_succ]
    refine any_take 2 57 ?vc2 rfl rfl (by kernel_rfl) (by kernel_rfl) (by kernel_rfl) (fun _ _ _ h => h) (by rfl) ?hyc2 hH0 ?restc2
    case hyc2 => ((intro W hSw); obtain ⟨o0, o1, o2, o3, o4⟩ := Lies.cells5 hSw.1.1; obtain ⟨p0, p1⟩ := Lies.cells2 hSw.1.2; obtain ⟨m0, m1, m2⟩ := Lies.cells3 hSw.2; go_simp; (try with_reducible rfl))
    try simp only [Act.put, List.setIfInBounds_toArray, List.set_cons_zero, List.set_cons_succ]
    refine any_take 3 58 ?vc3 rfl rfl (by kernel_rfl) (by kernel_rfl) (by kernel_rfl) (fun _ _ _ h => h) (by rfl) ?hyc3 hH0 ?restc3
    case hyc3 => ((intro W hSw); obtain ⟨o0, o1, o2, o3, o4⟩ := Lies.cells5 hSw.1.1; obtain ⟨p0, p1⟩ := Lies.cells2 hSw.1.2; obtain ⟨m0, m1, m2⟩ := Lies.cells3 hSw.2; go_simp; (try with_reducible rfl))
    try simp only [Act.put, List.setIfInBounds_toArray, List.set_cons_zero, List.set_cons_succ]
    refine any_take 4 59 ?vc4 rfl rfl (by kernel_rfl) (by kernel_rfl) (by kernel_rfl) (fun _ _ _ h => h) (by rfl) ?hyc4 hH0 ?restc4
    case hyc4 => ((intro W hSw); obtain ⟨o0, o1, o2, o3, o4⟩ := Lies.cells5 hSw.1.1; obtain ⟨p0, p1⟩ := Lies.cells2 hSw.1.2; obtain ⟨m0, m1, m2⟩ := Lies.cells3 hSw.2; go_simp; (try with_reducible rfl))
    try simp only [Act.put, List.setIfInBounds_toArray, List.set_cons_zero, List.set_cons_succ]
    refine any_take 5 60 ?vc5 rfl rfl (by kernel_rfl) (by kernel_rfl) (by kernel_rfl) (fun _ _ _ h => h) (by rfl) ?hyc5 hH0 ?restc5
    case hyc5 => ((intro W hSw); obtain ⟨o0, o1, o2, o3, o4⟩ := Lies.cells5 hSw.1.1; obtain ⟨p0, p1⟩ := Lies.cells2 hSw.1.2; obtain ⟨m0, m1, m2⟩ := Lies.cells3 hSw.2; go_simp; (try with_reducible rfl))
    try simp only [Act.put, List.setIfInBounds_toArray, List.set_cons_zero, List.set_cons_succ]
    refine any_take 6 61 ?vc6 rfl rfl (by kernel_rfl) (by kernel_rfl) (by kernel_rfl) (fun _ _ _ h => h) (by rfl) ?hyc6 hH0 ?restc6
    case hyc6 => ((intro W hSw); obtain ⟨o0, o1, o2, o3, o4⟩ := Lies.cells5 hSw.1.1; obtain ⟨p0, p1⟩ := Lies.cells2 hSw.1.2; obtain ⟨m0, m1, m2⟩ := Lies.cells3 hSw.2; go_simp; (try with_reducible rfl))
    try simp only [Act.put, List.setIfInBounds_toArray, List.set_cons_zero, List.set_cons_succ]
    refine wpAnyH_ready (rs := [7]) (by kernel_rfl) (by simp) ?_
    refine AllReadyH.cons rfl (fun K hK => ?_) AllReadyH.nil
    refine stp_upd none _ _ _ 182 (.tmp 58) (.tmp 60) (.tmp 61) (.map (some b.k)) (encStr y.n) (vK ⟨k.n, k.m, k.h - y.k⟩) w6 rfl rfl rfl (by rw [← HM.out.2]; exact HU2.out.1) ?_
    obtain ⟨hA6, hF6⟩ := HA5.out.drew.turnK HU2.out.2.1 HU2.out.2.2
    have L6 := hF6.lies (w := w5.drew) L5.out HNM.out
    have M6 := hF6.lies (w := w5.drew) M5.out HNM2.out
    have HA6 := Lib.hid hA6
    have HF6 := Lib.hid (HF5.out.drew.trans hF6)
    refine hK.out _ _ ⟨⟨hA6.c, L6⟩, M6⟩ (fun hH1 => ?_)
    clear hA6 hF6 L6 M6 hK K hH0
    try simp only [Act.put, List.setIfInBounds_toArray, List.set_cons_zero, List.set_cons_succ]
    clear hH1
    refine wpAnyH_done (by kernel_rfl) ?_ _
    refine NoPanic.normal ?_
    go_wp2
    go_ret
    refine ⟨by rw [HEV.out]; rfl, ?_, HF6.out⟩
    rw [movS_yes (c := 1) HFO.out HT.out HK.out]
    exact HA6.out.at (by rw [← HT.out]; exact stH_set_from HI.out.hs HY.out (by rw [HT.out]; decide)) (stH_set_other HI.out.hs HY.out (by decide) (by rw [HT.out]; decide)) (stH_set_to HI.out.hs HY.out (by rw [HT.out]; decide))

end Go.Proofs.YtpbclmnhkmcknaaGreat.Pu
