/-
  Texts of one proof, in their order: StCloneS, StNewM, StNewF, PuCloneS, PuNewM.
-/
import Derived.Lib.Strings
import Derived.Lib.Walk
import Derived.Lib.BufferWrite
import Derived.Lib.UnsafeStr
import Derived.Laws.MakeOwn
import Derived.Test.YtpbclmnhkmcknaaGreatB18
namespace Go.Proofs.YtpbclmnhkmcknaaGreat.St
open Go.RowKit
set_option maxRecDepth 100000
set_option linter.unusedVariables false
set_option linter.unusedSimpArgs false

set_option maxHeartbeats 4000000 in
theorem clone38 (s : ByteArray) (w : World) (hlim : s.size ≤ 281474976710656) :
    Calls Tryz.prog 123 #[.string s] w fun e w' => e = .returned (.string s) ∧ Below w.heap.size w w' := by
  by_cases h0 : s.size = 0
  · have hs : s = ⟨#[]⟩ := by
      apply ByteArray.ext
      exact Array.eq_empty_of_size_eq_zero h0
    subst hs
    go_enter Tryz.func123, Tryz.ntmps123
    go_wp2
    go_ret
    exact ⟨rfl, Below.refl _ _⟩
  · have hinfo : (Tryz.prog.info? 5).map (·.size) = some 1 := by kernel_rfl
    have hco : Tryz.prog.cellsOf 5 = 1 := by kernel_rfl
    obtain ⟨M, hM⟩ : ∃ M, M = madeCells (Value.int .u8 0).cells (((s.size : Nat) : Int).toNat * 1) := ⟨_, rfl⟩
    have hMs : M.size = s.size := by rw [hM, size_madeCells]; simp
    have hmk : ∀ W : World, (Instr.makeSlice 22 (.int .i64 (s.size : Int)) (.int .i64 (s.size : Int))).run Tryz.prog W = .ok (.slice (some ⟨W.heap.size, 0, none⟩) s.size s.size) (W.alloc (.cells M 5)) := fun W => by
      have h := run_make (P := Tryz.prog) W 22 5 _ (.int .u8 0) Tryz.underlying22 Tryz.type5 rfl .i64 .i64 (s.size : Int) (s.size : Int) (by omega) (by omega) (by show (1 : Int) * (s.size : Int) ≤ _; omega) (by omega)
      rw [h, hM]
      rfl
    clear hM
    have hcp := Lib.run_copy_row_string (P := Tryz.prog) (w.alloc (.cells M 5)) 22 9 3 5 w.heap.size 0 s.size s.size s M 5 Tryz.underlying22 hinfo (heap_alloc_new w _) (Nat.le_refl _) (by omega)
    obtain ⟨Y, hY⟩ : ∃ Y, Y = (M.toList.take 0 ++ Lib.byteCells s.data.toList ++ M.toList.drop (0 + s.size)).toArray := ⟨_, rfl⟩
    rw [← hY] at hcp
    have hYl : Y.toList = Lib.byteCells s.data.toList := by
      rw [hY, List.toList_toArray, List.take_zero, List.nil_append, List.drop_of_length_le (by rw [Array.length_toList]; omega), List.append_nil]
    have hYs : Y.size = s.size := by rw [← Array.length_toList, hYl, Lib.byteCells_length, ← Lib.size_eq]
    have hgY : ((w.alloc (.cells M 5)).setRow w.heap.size Y).heap[w.heap.size]? = some (.cells Y 5 (0, 0)) := setRow_heap _ _ M _ 5 (0, 0) (heap_alloc_new w _)
    have hne : s.data.toList ≠ [] := fun e => h0 (by rw [Lib.size_eq, e]; rfl)
    have hUS := Lib.run_unsafeString_row (P := Tryz.prog) ((w.alloc (.cells M 5)).setRow w.heap.size Y) 246 3 9 5 Tryz.underlying246 hco w.heap.size Y.size (by unfold World.shape?; rw [hgY]) s.data.toList hne (by rw [← Lib.size_eq]; omega) (by rw [← Lib.size_eq]; omega)
      (fun j x hx => Lib.cells_of_row hgY Y.size j _ (by rw [List.take_of_length_le (by rw [Array.length_toList]; exact Nat.le_refl _), hYl]; simp [Lib.byteCells, hx]))
    rw [← Lib.size_eq] at hUS
    clear hY
    go_enter Tryz.func123, Tryz.ntmps123
    go_wp2
    go_ret
    have hb1 : Below w.heap.size w (w.alloc (.cells M 5)) := (Below.refl _ w).alloc (Nat.le_refl _) _
    have hb2 : Below w.heap.size (w.alloc (.cells M 5)) ((w.alloc (.cells M 5)).setRow w.heap.size Y) := ⟨rfl, rfl, rfl, by simp, fun k hk => setRow_other _ _ _ _ (by omega)⟩
    exact ⟨rfl, Lib.below_freeze (hb1.trans hb2) (p := ⟨w.heap.size, 0, none⟩) (Nat.le_refl _) _⟩
theorem clone_any (x : List UInt8) (w : World) (hx : x.length ≤ 1000000) :
    Calls Tryz.prog 90 #[encStr x] w fun e w' => e = .returned (encStr x) ∧ Below w.heap.size w w' := by
  have C := clone38 ⟨x.toArray⟩ w (by simp [ByteArray.size]; omega)
  go_enter Tryz.func90, Tryz.ntmps90
  go_wp2_with fail
  with_reducible refine C.mono ?_
  rintro e w' ⟨rfl, hb⟩
  have HB := Lib.hid hb
  clear hb
  go_wp2
  go_ret
  exact ⟨rfl, HB.out⟩

/-- May such a kind be? -/
def goodB (x : List UInt8) (f : Int) : Bool := decide (1 ≤ x.length) && decide (x.length ≤ 32) && decide (0 ≤ f) && decide (f ≤ 1000000)
theorem goodB_iff {x : List UInt8} {f : Int} : goodB x f = true ↔ 1 ≤ x.length ∧ x.length ≤ 32 ∧ 0 ≤ f ∧ f ≤ 1000000 := by
  unfold goodB; simp [and_assoc]
set_option maxHeartbeats 1000000 in
theorem isGood_any (x : List UInt8) (f : Int) (w : World) (hx : x.length ≤ 281474976710656) :
    Calls Tryz.prog 89 #[.agg #[encStr x, .int .i64 f]] w fun e w' => e = .returned (.bool (goodB x f)) ∧ Below w.heap.size w w' := by
  have e1 : goodB x f = (decide ((1 : Int) ≤ (x.length : Int)) && decide ((x.length : Int) ≤ 32) && decide (0 ≤ f) && decide (f ≤ 1000000)) := by
    unfold goodB
    rw [show decide (1 ≤ x.length) = decide ((1 : Int) ≤ (x.length : Int)) from decide_eq_decide.2 (by omega), show decide (x.length ≤ 32) = decide ((x.length : Int) ≤ 32) from decide_eq_decide.2 (by omega)]
  rw [e1]
  clear e1
  obtain ⟨b1, h1⟩ : ∃ b, decide ((1 : Int) ≤ (x.length : Int)) = b := ⟨_, rfl⟩
  obtain ⟨b2, h2⟩ : ∃ b, decide ((x.length : Int) ≤ 32) = b := ⟨_, rfl⟩
  obtain ⟨b3, h3⟩ : ∃ b, decide (0 ≤ f) = b := ⟨_, rfl⟩
  obtain ⟨b4, h4⟩ : ∃ b, decide (f ≤ 1000000) = b := ⟨_, rfl⟩
  rw [h1, h2, h3, h4]
  cases b1 <;> cases b2 <;> cases b3 <;> cases b4
  all_goals
    go_enter Tryz.func89, Tryz.ntmps89
    go_wp2
    go_ret
    exact ⟨rfl, below1 _ _⟩

end Go.Proofs.YtpbclmnhkmcknaaGreat.St

namespace Go.Proofs.YtpbclmnhkmcknaaGreat.St
open Go.Proofs Go.RowKit
set_option maxRecDepth 100000
set_option linter.unusedVariables false

/-- One good more. -/
def addG (K : List Kd) (g : Gd) : Option (List Kd) := if (findK K g.n).isSome || !goodB g.n g.f then none else some (insK ⟨g.n, g.f, 0⟩ K)
def newGo : List Kd → List Gd → Option (List Kd)
  | K, [] => some K
  | K, g :: r => match addG K g with
    | none => none
    | some K' => newGo K' r
def newOf (l : List Gd) : Option (List Kd) := if 50 < l.length then none else newGo [] l

theorem newGo_cons (K : List Kd) (g : Gd) (r : List Gd) : newGo K (g :: r) = (addG K g).bind (fun K' => newGo K' r) := by
  conv => lhs; unfold newGo
  cases addG K g <;> rfl
theorem newGo_append : ∀ (a b : List Gd) (K : List Kd), newGo K (a ++ b) = (newGo K a).bind (fun K' => newGo K' b)
  | [], b, K => rfl
  | g :: r, b, K => by
    rw [List.cons_append, newGo_cons, newGo_cons]
    cases h : addG K g with
    | none => rfl
    | some K' => exact newGo_append r b K'
theorem newGo_step {l : List Gd} {j : Nat} (hj : j < l.length) {K : List Kd} (h : newGo [] (l.take j) = some K) : newGo [] (l.take (j + 1)) = addG K l[j] := by
  rw [List.take_succ_eq_append_getElem hj, newGo_append, h]
  show newGo K [l[j]] = _
  unfold newGo
  cases addG K l[j] <;> rfl
theorem newGo_none {l : List Gd} {j : Nat} (h : newGo [] (l.take j) = none) : newGo [] l = none := by
  have := newGo_append (l.take j) (l.drop j) []
  rw [List.take_append_drop, h] at this
  exact this
theorem addG_some {K K' : List Kd} {g : Gd} (h : addG K g = some K') : findK K g.n = none ∧ goodB g.n g.f = true ∧ K' = insK ⟨g.n, g.f, 0⟩ K := by
  unfold addG at h
  split at h
  · cases h
  · rename_i hc
    simp only [Bool.or_eq_true, Bool.not_eq_true', not_or, Bool.not_eq_false, Bool.not_eq_true, Option.isSome_eq_false_iff, Option.isNone_iff_eq_none] at hc
    exact ⟨hc.1, hc.2, by injection h with h; exact h.symm⟩
/-- What the kinds of a new stock are like. -/
structure NewK (K : List Kd) (l : List Gd) : Prop where
  ks : KSort K
  len : K.length = l.length
  good : ∀ k ∈ K, goodB k.n k.f = true ∧ k.g = 0
  mem : ∀ k ∈ K, (⟨k.n, k.f⟩ : Gd) ∈ l
theorem NewK.add {K K' : List Kd} {l : List Gd} {g : Gd} (h : NewK K l) (ha : addG K g = some K') : NewK K' (l ++ [g]) := by
  obtain ⟨h1, h2, rfl⟩ := addG_some ha
  refine ⟨h.ks.ins (findK_none h1), by rw [insK_length, h.len]; simp, fun k hk => ?_, fun k hk => ?_⟩
  · rcases mem_insK.1 hk with rfl | hk
    · exact ⟨h2, rfl⟩
    · exact h.good k hk
  · rcases mem_insK.1 hk with rfl | hk
    · simp
    · exact List.mem_append_left _ (h.mem k hk)
theorem NewK.of : ∀ (l2 l : List Gd) (K K' : List Kd), NewK K l → newGo K l2 = some K' → NewK K' (l ++ l2)
  | [], l, K, K', h, e => by
    simp [newGo] at e
    subst e
    simpa using h
  | g :: r, l, K, K', h, e => by
    unfold newGo at e
    cases ha : addG K g with
    | none => rw [ha] at e; cases e
    | some K2 =>
      rw [ha] at e
      have := NewK.of r (l ++ [g]) K2 K' (h.add ha) e
      simpa using this
theorem NewK.go {l : List Gd} {K : List Kd} (h : newGo [] l = some K) : NewK K l := by
  have := NewK.of l [] [] K ⟨List.Pairwise.nil, rfl, (fun k hk => absurd hk (by simp)), fun k hk => absurd hk (by simp)⟩ h
  simpa using this
theorem newOf_some {l : List Gd} {K : List Kd} (h : newOf l = some K) : l.length ≤ 50 ∧ newGo [] l = some K ∧ NewK K l := by
  unfold newOf at h
  split at h
  · cases h
  · exact ⟨by omega, h, NewK.go h⟩
theorem newInv {l : List Gd} {K : List Kd} (h : newOf l = some K) : Inv ⟨K, []⟩ := by
  obtain ⟨h1, h2, h3⟩ := newOf_some h
  refine ⟨h3.ks, List.Pairwise.nil, fun k hk => ?_, fun k hk => ?_, (fun y hy => absurd hy (by simp)), by show K.length ≤ 50; rw [h3.len]; exact h1⟩
  · have := goodB_iff.1 (h3.good k hk).1
    exact ⟨this.1, this.2.1⟩
  · have := goodB_iff.1 (h3.good k hk).1
    have h0 := (h3.good k hk).2
    show 0 ≤ k.f ∧ 0 ≤ k.g ∧ k.f + k.g + 0 ≤ 1000000
    omega

/-- A slice of n goods that reads as l. -/
def Gin (w : World) (A : Option Addr) (n : Nat) (l : List Gd) : Prop :=
  l.length = n ∧ (0 < n → ∃ b off, A = some ⟨b, off, none⟩ ∧ b < w.heap.size ∧ ∀ (i : Nat) (hi : i < l.length), w.cell? ⟨b, off + i * 2, none⟩ = some (encStr l[i].n) ∧ w.cell? ⟨b, off + i * 2 + 1, none⟩ = some (.int .i64 l[i].f))
theorem Gin.below {w w' : World} {A : Option Addr} {n : Nat} {l : List Gd} (h : Gin w A n l) (hb : Below w.heap.size w w') : Gin w' A n l := by
  obtain ⟨h1, h2⟩ := h
  refine ⟨h1, fun h0 => ?_⟩
  obtain ⟨b, off, e, hlt, hc⟩ := h2 h0
  refine ⟨b, off, e, Nat.lt_of_lt_of_le hlt hb.size, fun i hi => ?_⟩
  obtain ⟨c1, c2⟩ := hc i hi
  exact ⟨by rw [hb.cell (p := ⟨b, off + i * 2, none⟩) hlt]; exact c1, by rw [hb.cell (p := ⟨b, off + i * 2 + 1, none⟩) hlt]; exact c2⟩
theorem run_mk54 (n : Nat) (w : World) : (Instr.makeMap 172 (some (.int .i64 (n : Int)))).run Tryz.prog w = .ok (.map (some w.heap.size)) (w.alloc (.map #[] 0)) := by
  simp [Instr.makeMap, asInt, asIntOf, Result.andThen]

end Go.Proofs.YtpbclmnhkmcknaaGreat.St

namespace Go.Proofs.YtpbclmnhkmcknaaGreat.St
open Go.Proofs Go.RowKit
set_option maxRecDepth 100000
set_option linter.unusedVariables false
set_option linter.unusedSimpArgs false

def NewPost (w : World) (l : List Gd) (e : Ending) (w' : World) : Prop :=
  Below w.heap.size w w' ∧ ((newOf l = none ∧ e = .returned (.tuple #[.pointer none, .int .i64 2])) ∨
    ∃ K b, newOf l = some K ∧ e = .returned (.tuple #[.pointer (some ⟨b.s, 0, none⟩), .int .i64 0]) ∧ At w' b ⟨K, []⟩ ∧ w.heap.size ≤ b.s ∧ w.heap.size ≤ b.k ∧ w.heap.size ≤ b.h)

def NwR (w : World) (l : List Gd) (b : SB) (i : Value) (wr : World) : Prop :=
  ∃ (j : Nat) (K : List Kd), j ≤ l.length ∧ i = .int .i64 (j : Int) ∧ newGo [] (l.take j) = some K ∧ At wr b ⟨K, []⟩ ∧ Below w.heap.size w wr

set_option maxHeartbeats 8000000 in
theorem new_any (A : Option Addr) (n c : Nat) (l : List Gd) (w : World) (hG : Gin w A n l) (hn : n ≤ 1000) (hL : ∀ g ∈ l, g.n.length ≤ 1000000) :
    Calls Tryz.prog 56 #[.slice A n c] w (NewPost w l) := by
  have HG := Lib.hid hG
  have HL := Lib.hid hL
  have HLN := Lib.hid hG.1
  clear hG hL
  by_cases h50 : 50 < n
  · have hno : newOf l = none := by unfold newOf; rw [if_pos (by rw [HLN.out]; exact h50)]
    have HNO := Lib.hid hno
    have e0 : (50 : Int) < (n : Int) := by omega
    clear hno
    go_enter Tryz.func56, Tryz.ntmps56
    go_wp2
    go_ret2
    exact ⟨Below.refl _ _, .inl ⟨HNO.out, rfl⟩⟩
  · have e0 : (n : Int) ≤ 50 := by omega
    have hmk := fun W => run_mk54 n W
    have hmm := @run_makeMap Tryz.prog
    go_enter Tryz.func56, Tryz.ntmps56
    go_wp2_with fail
    obtain ⟨y, hy⟩ : ∃ y, y = ((w.alloc (.map #[] 0)).alloc (.map #[] 0)).alloc (.cells #[.map (some w.heap.size), .map (some (w.heap.size + 1))] 175) := ⟨_, rfl⟩
    rw [← hy]
    have hK0 := (OwnK.made w)
    have hH0 := (OwnH.made (w.alloc (.map #[] 0)))
    rw [size_one] at hH0
    have HAy : Hid (At y ⟨w.heap.size + 1 + 1, w.heap.size, w.heap.size + 1⟩ ⟨[], []⟩) := Lib.hid (by
      rw [hy]
      refine ⟨Lies.made3 w _ _ _ _, ?_, ?_, by show w.heap.size ≠ w.heap.size + 1; omega⟩
      · exact hK0.same ((Below.heap_alloc _ _ _ (by simp; omega)).trans (Below.heap_alloc _ _ _ (by simp)))
      · exact hH0.same (Below.heap_alloc _ _ _ (by simp)))
    have BY : Hid (Below w.heap.size w y) := Lib.hid (by rw [hy]; exact (below2 w _ _).alloc (by simp; omega) _)
    clear hy hK0 hH0 hmk hmm
    obtain ⟨gs, e1⟩ : ∃ gs, gs = w.heap.size + 1 + 1 := ⟨_, rfl⟩
    obtain ⟨gh, e2⟩ : ∃ gh, gh = w.heap.size + 1 := ⟨_, rfl⟩
    obtain ⟨gk, e3⟩ : ∃ gk, gk = w.heap.size := ⟨_, rfl⟩
    have HB0 : Hid (Below gk w y ∧ gk = w.heap.size) := Lib.hid ⟨by rw [e3]; exact BY.out, e3⟩
    have HGS : Hid (w.heap.size ≤ gs ∧ w.heap.size ≤ gk ∧ w.heap.size ≤ gh) := Lib.hid ⟨by omega, by omega, by omega⟩
    rw [← e1, ← e2, ← e3] at HAy
    rw [← e1, ← e2, ← e3]
    clear e1 e2 e3
    go_loopw [21] (fun i wr => NwR w l ⟨gs, gk, gh⟩ i wr) (fun i _ => n - (intOf i).toNat)
    case atStart => exact ⟨0, [], by omega, rfl, rfl, HAy.out, BY.out⟩
    case round =>
      clear HAy BY HB0
      obtain ⟨j, K, hj, rfl, hgo, hA, hB⟩ := hrel
      have HA := Lib.hid hA
      have HB := Lib.hid hB
      have HGO := Lib.hid hgo
      clear hA hB hgo
      have hjn : j ≤ n := by have := HLN.out; omega
      by_cases hlt : j < n
      · have hlt2 : (j : Int) < (n : Int) := by omega
        have hlt3 : j < l.length := by have := HLN.out; omega
        obtain ⟨b0, off, hA0, hbl, hcell⟩ := HG.out.2 (by omega)
        obtain ⟨x0, x1⟩ := hcell j hlt3
        obtain ⟨xx, hxx⟩ : ∃ q, l[j] = q := ⟨_, rfl⟩
        have HST := Lib.hid (newGo_step hlt3 HGO.out)
        have HXL : Hid (xx.n.length ≤ maxLen) := Lib.hid (by have := HL.out l[j] (List.getElem_mem hlt3); rw [hxx] at this; unfold maxLen; omega)
        have HXM : Hid (xx.n.length ≤ 1000000) := Lib.hid (by have := HL.out l[j] (List.getElem_mem hlt3); rw [hxx] at this; exact this)
        rw [hxx] at x0 x1 HST
        rw [← HB.out.cell (p := ⟨b0, off + j * 2, none⟩) hbl] at x0
        rw [← HB.out.cell (p := ⟨b0, off + j * 2 + 1, none⟩) hbl] at x1
        clear hcell hxx
        subst hA0
        obtain ⟨xn, xf⟩ := xx
        dsimp only at x0 x1 HXL HXM
        have HKZ : Hid (K.length ≤ 1000000) := Lib.hid (by
          have := (NewK.go HGO.out).len
          rw [this, List.length_take]; omega)
        have HSO := Lib.hid (NewK.go HGO.out).ks
        go_wp2_with fail
        obtain ⟨y6, hy6⟩ : ∃ y6, y6 = wr.alloc (.cells #[encStr xn, .int .i64 xf] 90) := ⟨_, rfl⟩
        rw [← hy6]
        have HA6 : Hid (At y6 ⟨gs, gk, gh⟩ ⟨K, []⟩) := Lib.hid (by rw [hy6]; exact HA.out.alloc _)
        have L6 : Hid (Lies y6 wr.heap.size 90 #[encStr xn, .int .i64 xf]) := Lib.hid (by rw [hy6]; exact Lies.made _ _ _)
        have HB6 : Hid (Below w.heap.size w y6) := Lib.hid (by rw [hy6]; exact HB.out.alloc HB.out.size _)
        clear hy6 x0 x1
        cases hf : findK K xn with
        | some k =>
          have HFK := Lib.hid hf
          have hno : newOf l = none := by
            unfold newOf
            rw [if_neg (by rw [HLN.out]; omega)]
            refine newGo_none (j := j + 1) ?_
            rw [HST.out]
            unfold addG
            rw [if_pos (by rw [hf]; rfl)]
          have HNO := Lib.hid hno
          clear hf hno
          refine wp_region_noPanic ?_
          refine wp_region_held_drew (S := fun W => (Lies W gs 175 #[.map (some gk), .map (some gh)] ∧ Lies W wr.heap.size 90 #[encStr xn, .int .i64 xf]) ∧ OwnK W gk K) (by kernel_rfl) ⟨⟨HA6.out.c, L6.out⟩, HA6.out.ok⟩ (fun hH0 => ?_)
          refine any_take 0 26 ?va0 rfl rfl (by kernel_rfl) (by kernel_rfl) (by kernel_rfl) (fun _ _ _ h => h) (by rfl) ?hya0 hH0 ?resta0
          case hya0 => ((intro W hSw); obtain ⟨o0, o1⟩ := Lies.cells2 hSw.1.1; obtain ⟨p0, p1⟩ := Lies.cells2 hSw.1.2; have lk := hSw.2.look_ok xn HXL.out; rw [HFK.out] at lk; dsimp only [Option.getD_some, Option.getD_none, Option.isSome_some, Option.isSome_none] at lk; go_simp; (try with_reducible rfl))
          try simp only [Act.put, List.setIfInBounds_toArray, List.set_cons_zero, List.set_cons_succ]
          refine any_take 1 27 ?va1 rfl rfl (by kernel_rfl) (by kernel_rfl) (by kernel_rfl) (fun _ _ _ h => h) (by rfl) ?hya1 hH0 ?resta1
          case hya1 => ((intro W hSw); obtain ⟨o0, o1⟩ := Lies.cells2 hSw.1.1; obtain ⟨p0, p1⟩ := Lies.cells2 hSw.1.2; have lk := hSw.2.look_ok xn HXL.out; rw [HFK.out] at lk; dsimp only [Option.getD_some, Option.getD_none, Option.isSome_some, Option.isSome_none] at lk; go_simp; (try with_reducible rfl))
          try simp only [Act.put, List.setIfInBounds_toArray, List.set_cons_zero, List.set_cons_succ]
          refine any_take 2 28 ?va2 rfl rfl (by kernel_rfl) (by kernel_rfl) (by kernel_rfl) (fun _ _ _ h => h) (by rfl) ?hya2 hH0 ?resta2
          case hya2 => ((intro W hSw); obtain ⟨o0, o1⟩ := Lies.cells2 hSw.1.1; obtain ⟨p0, p1⟩ := Lies.cells2 hSw.1.2; have lk := hSw.2.look_ok xn HXL.out; rw [HFK.out] at lk; dsimp only [Option.getD_some, Option.getD_none, Option.isSome_some, Option.isSome_none] at lk; go_simp; (try with_reducible rfl))
          try simp only [Act.put, List.setIfInBounds_toArray, List.set_cons_zero, List.set_cons_succ]
          refine any_take 3 29 ?va3 rfl rfl (by kernel_rfl) (by kernel_rfl) (by kernel_rfl) (fun _ _ _ h => h) (by rfl) ?hya3 hH0 ?resta3
          case hya3 => ((intro W hSw); obtain ⟨o0, o1⟩ := Lies.cells2 hSw.1.1; obtain ⟨p0, p1⟩ := Lies.cells2 hSw.1.2; have lk := hSw.2.look_ok xn HXL.out; rw [HFK.out] at lk; dsimp only [Option.getD_some, Option.getD_none, Option.isSome_some, Option.isSome_none] at lk; go_simp; (try with_reducible rfl))
          try simp only [Act.put, List.setIfInBounds_toArray, List.set_cons_zero, List.set_cons_succ]
          refine any_take 4 30 ?va4 rfl rfl (by kernel_rfl) (by kernel_rfl) (by kernel_rfl) (fun _ _ _ h => h) (by rfl) ?hya4 hH0 ?resta4
          case hya4 => ((intro W hSw); obtain ⟨o0, o1⟩ := Lies.cells2 hSw.1.1; obtain ⟨p0, p1⟩ := Lies.cells2 hSw.1.2; have lk := hSw.2.look_ok xn HXL.out; rw [HFK.out] at lk; dsimp only [Option.getD_some, Option.getD_none, Option.isSome_some, Option.isSome_none] at lk; go_simp; (try with_reducible rfl))
          try simp only [Act.put, List.setIfInBounds_toArray, List.set_cons_zero, List.set_cons_succ]
          refine any_take 5 31 ?va5 rfl rfl (by kernel_rfl) (by kernel_rfl) (by kernel_rfl) (fun _ _ _ h => h) (by rfl) ?hya5 hH0 ?resta5
          case hya5 => ((intro W hSw); obtain ⟨o0, o1⟩ := Lies.cells2 hSw.1.1; obtain ⟨p0, p1⟩ := Lies.cells2 hSw.1.2; have lk := hSw.2.look_ok xn HXL.out; rw [HFK.out] at lk; dsimp only [Option.getD_some, Option.getD_none, Option.isSome_some, Option.isSome_none] at lk; go_simp; (try with_reducible rfl))
          try simp only [Act.put, List.setIfInBounds_toArray, List.set_cons_zero, List.set_cons_succ]
          refine any_take 6 32 ?va6 rfl rfl (by kernel_rfl) (by kernel_rfl) (by kernel_rfl) (fun _ _ _ h => h) (by rfl) ?hya6 hH0 ?resta6
          case hya6 => ((intro W hSw); obtain ⟨o0, o1⟩ := Lies.cells2 hSw.1.1; obtain ⟨p0, p1⟩ := Lies.cells2 hSw.1.2; have lk := hSw.2.look_ok xn HXL.out; rw [HFK.out] at lk; dsimp only [Option.getD_some, Option.getD_none, Option.isSome_some, Option.isSome_none] at lk; go_simp; (try with_reducible rfl))
          try simp only [Act.put, List.setIfInBounds_toArray, List.set_cons_zero, List.set_cons_succ]
          refine any_take 7 25 ?va7 rfl rfl (by kernel_rfl) (by kernel_rfl) (by kernel_rfl) (fun _ _ _ h => h) (by rfl) ?hya7 hH0 ?resta7
          case hya7 => ((intro W hSw); obtain ⟨o0, o1⟩ := Lies.cells2 hSw.1.1; obtain ⟨p0, p1⟩ := Lies.cells2 hSw.1.2; have lk := hSw.2.look_ok xn HXL.out; rw [HFK.out] at lk; dsimp only [Option.getD_some, Option.getD_none, Option.isSome_some, Option.isSome_none] at lk; go_simp; (try with_reducible rfl))
          try simp only [Act.put, List.setIfInBounds_toArray, List.set_cons_zero, List.set_cons_succ]
          refine any_take 8 33 ?va8 rfl rfl (by kernel_rfl) (by kernel_rfl) (by kernel_rfl) (fun _ _ _ h => h) (by rfl) ?hya8 hH0 ?resta8
          case hya8 => ((intro W hSw); obtain ⟨o0, o1⟩ := Lies.cells2 hSw.1.1; obtain ⟨p0, p1⟩ := Lies.cells2 hSw.1.2; have lk := hSw.2.look_ok xn HXL.out; rw [HFK.out] at lk; dsimp only [Option.getD_some, Option.getD_none, Option.isSome_some, Option.isSome_none] at lk; go_simp; (try with_reducible rfl))
          try simp only [Act.put, List.setIfInBounds_toArray, List.set_cons_zero, List.set_cons_succ]
          refine any_take 9 34 ?va9 rfl rfl (by kernel_rfl) (by kernel_rfl) (by kernel_rfl) (fun _ _ _ h => h) (by rfl) ?hya9 hH0 ?resta9
          case hya9 => ((intro W hSw); obtain ⟨o0, o1⟩ := Lies.cells2 hSw.1.1; obtain ⟨p0, p1⟩ := Lies.cells2 hSw.1.2; have lk := hSw.2.look_ok xn HXL.out; rw [HFK.out] at lk; dsimp only [Option.getD_some, Option.getD_none, Option.isSome_some, Option.isSome_none] at lk; go_simp; (try with_reducible rfl))
          try simp only [Act.put, List.setIfInBounds_toArray, List.set_cons_zero, List.set_cons_succ]
          refine wpAnyH_ready (rs := [10]) (by kernel_rfl) (by simp) ?_
          refine AllReadyH.cons rfl (fun K' hK => ?_) AllReadyH.nil
          go_simp
          refine hK.out _ _ ⟨⟨(HA6.out.drew.alloc _).c, Lies.alloc (w := y6.drew) L6.out _⟩, (HA6.out.drew.alloc _).ok⟩ (fun hH1 => ?_)
          clear hK K' hH0
          try simp only [Act.put, List.setIfInBounds_toArray, List.set_cons_zero, List.set_cons_succ]
          refine wpAnyH_ready (rs := [11]) (by kernel_rfl) (by simp) ?_
          refine AllReadyH.cons rfl (fun K' hK => ?_) AllReadyH.nil
          go_simp
          refine hK.out _ _ ⟨⟨(HA6.out.drew.alloc _).c, Lies.alloc (w := y6.drew) L6.out _⟩, (HA6.out.drew.alloc _).ok⟩ (fun hH2 => ?_)
          clear hK K' hH1
          try simp only [Act.put, List.setIfInBounds_toArray, List.set_cons_zero, List.set_cons_succ]
          refine any_take 12 8 ?va12 rfl rfl (by kernel_rfl) (by kernel_rfl) (by kernel_rfl) (fun _ _ _ h => h) (by rfl) ?hya12 hH2 ?resta12
          case hya12 => ((intro W hSw); obtain ⟨o0, o1⟩ := Lies.cells2 hSw.1.1; obtain ⟨p0, p1⟩ := Lies.cells2 hSw.1.2; have lk := hSw.2.look_ok xn HXL.out; rw [HFK.out] at lk; dsimp only [Option.getD_some, Option.getD_none, Option.isSome_some, Option.isSome_none] at lk; go_simp; (try with_reducible rfl))
          try simp only [Act.put, List.setIfInBounds_toArray, List.set_cons_zero, List.set_cons_succ]
          clear hH2
          refine wpAnyH_done (by kernel_rfl) ?_ _
          refine NoPanic.normal ?_
          obtain ⟨y7, hy7⟩ : ∃ y7, y7 = (y6.alloc (.cells #[encStr k.n, .int .i64 k.f, .int .i64 k.g] 178)).drew := ⟨_, rfl⟩
          rw [← hy7]
          have HA7 : Hid (At y7 ⟨gs, gk, gh⟩ ⟨K, []⟩) := Lib.hid (by rw [hy7]; exact (HA6.out.alloc _).drew)
          have L7 : Hid (Lies y7 wr.heap.size 90 #[encStr xn, .int .i64 xf]) := Lib.hid (by rw [hy7]; exact Lies.alloc (w := y6) L6.out _)
          have HB7 : Hid (Below w.heap.size w y7) := Lib.hid (by rw [hy7]; exact ((HB6.out.alloc HB6.out.size _).drew))
          clear hy7
          go_wp2
          go_ret2
          exact ⟨HB7.out, .inl ⟨HNO.out, rfl⟩⟩
        | none =>
          have HFK := Lib.hid hf
          clear hf
          refine wp_region_noPanic ?_
          refine wp_region_held_drew (S := fun W => (Lies W gs 175 #[.map (some gk), .map (some gh)] ∧ Lies W wr.heap.size 90 #[encStr xn, .int .i64 xf]) ∧ OwnK W gk K) (by kernel_rfl) ⟨⟨HA6.out.c, L6.out⟩, HA6.out.ok⟩ (fun hH0 => ?_)
          refine any_take 0 26 ?vb0 rfl rfl (by kernel_rfl) (by kernel_rfl) (by kernel_rfl) (fun _ _ _ h => h) (by rfl) ?hyb0 hH0 ?restb0
          case hyb0 => ((intro W hSw); obtain ⟨o0, o1⟩ := Lies.cells2 hSw.1.1; obtain ⟨p0, p1⟩ := Lies.cells2 hSw.1.2; have lk := hSw.2.look_ok xn HXL.out; rw [HFK.out] at lk; dsimp only [Option.getD_some, Option.getD_none, Option.isSome_some, Option.isSome_none] at lk; go_simp; (try with_reducible rfl))
          try simp only [Act.put, List.setIfInBounds_toArray, List.set_cons_zero, List.set_cons_succ]
          refine any_take 1 27 ?vb1 rfl rfl (by kernel_rfl) (by kernel_rfl) (by kernel_rfl) (fun _ _ _ h => h) (by rfl) ?hyb1 hH0 ?restb1
          case hyb1 => ((intro W hSw); obtain ⟨o0, o1⟩ := Lies.cells2 hSw.1.1; obtain ⟨p0, p1⟩ := Lies.cells2 hSw.1.2; have lk := hSw.2.look_ok xn HXL.out; rw [HFK.out] at lk; dsimp only [Option.getD_some, Option.getD_none, Option.isSome_some, Option.isSome_none] at lk; go_simp; (try with_reducible rfl))
          try simp only [Act.put, List.setIfInBounds_toArray, List.set_cons_zero, List.set_cons_succ]
          refine any_take 2 28 ?vb2 rfl rfl (by kernel_rfl) (by kernel_rfl) (by kernel_rfl) (fun _ _ _ h => h) (by rfl) ?hyb2 hH0 ?restb2
          case hyb2 => ((intro W hSw); obtain ⟨o0, o1⟩ := Lies.cells2 hSw.1.1; obtain ⟨p0, p1⟩ := Lies.cells2 hSw.1.2; have lk := hSw.2.look_ok xn HXL.out; rw [HFK.out] at lk; dsimp only [Option.getD_some, Option.getD_none, Option.isSome_some, Option.isSome_none] at lk; go_simp; (try with_reducible rfl))
          try simp only [Act.put, List.setIfInBounds_toArray, List.set_cons_zero, List.set_cons_succ]
          refine any_take 3 29 ?vb3 rfl rfl (by kernel_rfl) (by kernel_rfl) (by kernel_rfl) (fun _ _ _ h => h) (by rfl) ?hyb3 hH0 ?restb3
          case hyb3 => ((intro W hSw); obtain ⟨o0, o1⟩ := Lies.cells2 hSw.1.1; obtain ⟨p0, p1⟩ := Lies.cells2 hSw.1.2; have lk := hSw.2.look_ok xn HXL.out; rw [HFK.out] at lk; dsimp only [Option.getD_some, Option.getD_none, Option.isSome_some, Option.isSome_none] at lk; go_simp; (try with_reducible rfl))
          try simp only [Act.put, List.setIfInBounds_toArray, List.set_cons_zero, List.set_cons_succ]
          refine any_take 4 30 ?vb4 rfl rfl (by kernel_rfl) (by kernel_rfl) (by kernel_rfl) (fun _ _ _ h => h) (by rfl) ?hyb4 hH0 ?restb4
          case hyb4 => ((intro W hSw); obtain ⟨o0, o1⟩ := Lies.cells2 hSw.1.1; obtain ⟨p0, p1⟩ := Lies.cells2 hSw.1.2; have lk := hSw.2.look_ok xn HXL.out; rw [HFK.out] at lk; dsimp only [Option.getD_some, Option.getD_none, Option.isSome_some, Option.isSome_none] at lk; go_simp; (try with_reducible rfl))
          try simp only [Act.put, List.setIfInBounds_toArray, List.set_cons_zero, List.set_cons_succ]
          refine any_take 5 31 ?vb5 rfl rfl (by kernel_rfl) (by kernel_rfl) (by kernel_rfl) (fun _ _ _ h => h) (by rfl) ?hyb5 hH0 ?restb5
          case hyb5 => ((intro W hSw); obtain ⟨o0, o1⟩ := Lies.cells2 hSw.1.1; obtain ⟨p0, p1⟩ := Lies.cells2 hSw.1.2; have lk := hSw.2.look_ok xn HXL.out; rw [HFK.out] at lk; dsimp only [Option.getD_some, Option.getD_none, Option.isSome_some, Option.isSome_none] at lk; go_simp; (try with_reducible rfl))
          try simp only [Act.put, List.setIfInBounds_toArray, List.set_cons_zero, List.set_cons_succ]
          refine any_take 6 32 ?vb6 rfl rfl (by kernel_rfl) (by kernel_rfl) (by kernel_rfl) (fun _ _ _ h => h) (by rfl) ?hyb6 hH0 ?restb6
          case hyb6 => ((intro W hSw); obtain ⟨o0, o1⟩ := Lies.cells2 hSw.1.1; obtain ⟨p0, p1⟩ := Lies.cells2 hSw.1.2; have lk := hSw.2.look_ok xn HXL.out; rw [HFK.out] at lk; dsimp only [Option.getD_some, Option.getD_none, Option.isSome_some, Option.isSome_none] at lk; go_simp; (try with_reducible rfl))
          try simp only [Act.put, List.setIfInBounds_toArray, List.set_cons_zero, List.set_cons_succ]
          refine any_take 7 25 ?vb7 rfl rfl (by kernel_rfl) (by kernel_rfl) (by kernel_rfl) (fun _ _ _ h => h) (by rfl) ?hyb7 hH0 ?restb7
          case hyb7 => ((intro W hSw); obtain ⟨o0, o1⟩ := Lies.cells2 hSw.1.1; obtain ⟨p0, p1⟩ := Lies.cells2 hSw.1.2; have lk := hSw.2.look_ok xn HXL.out; rw [HFK.out] at lk; dsimp only [Option.getD_some, Option.getD_none, Option.isSome_some, Option.isSome_none] at lk; go_simp; (try with_reducible rfl))
          try simp only [Act.put, List.setIfInBounds_toArray, List.set_cons_zero, List.set_cons_succ]
          refine any_take 8 33 ?vb8 rfl rfl (by kernel_rfl) (by kernel_rfl) (by kernel_rfl) (fun _ _ _ h => h) (by rfl) ?hyb8 hH0 ?restb8
          case hyb8 => ((intro W hSw); obtain ⟨o0, o1⟩ := Lies.cells2 hSw.1.1; obtain ⟨p0, p1⟩ := Lies.cells2 hSw.1.2; have lk := hSw.2.look_ok xn HXL.out; rw [HFK.out] at lk; dsimp only [Option.getD_some, Option.getD_none, Option.isSome_some, Option.isSome_none] at lk; go_simp; (try with_reducible rfl))
          try simp only [Act.put, List.setIfInBounds_toArray, List.set_cons_zero, List.set_cons_succ]
          refine any_take 9 34 ?vb9 rfl rfl (by kernel_rfl) (by kernel_rfl) (by kernel_rfl) (fun _ _ _ h => h) (by rfl) ?hyb9 hH0 ?restb9
          case hyb9 => ((intro W hSw); obtain ⟨o0, o1⟩ := Lies.cells2 hSw.1.1; obtain ⟨p0, p1⟩ := Lies.cells2 hSw.1.2; have lk := hSw.2.look_ok xn HXL.out; rw [HFK.out] at lk; dsimp only [Option.getD_some, Option.getD_none, Option.isSome_some, Option.isSome_none] at lk; go_simp; (try with_reducible rfl))
          try simp only [Act.put, List.setIfInBounds_toArray, List.set_cons_zero, List.set_cons_succ]
          refine wpAnyH_ready (rs := [10]) (by kernel_rfl) (by simp) ?_
          refine AllReadyH.cons rfl (fun K' hK => ?_) AllReadyH.nil
          go_simp
          refine hK.out _ _ ⟨⟨(HA6.out.drew.alloc _).c, Lies.alloc (w := y6.drew) L6.out _⟩, (HA6.out.drew.alloc _).ok⟩ (fun hH1 => ?_)
          clear hK K' hH0
          try simp only [Act.put, List.setIfInBounds_toArray, List.set_cons_zero, List.set_cons_succ]
          refine wpAnyH_ready (rs := [11]) (by kernel_rfl) (by simp) ?_
          refine AllReadyH.cons rfl (fun K' hK => ?_) AllReadyH.nil
          go_simp
          refine hK.out _ _ ⟨⟨(HA6.out.drew.alloc _).c, Lies.alloc (w := y6.drew) L6.out _⟩, (HA6.out.drew.alloc _).ok⟩ (fun hH2 => ?_)
          clear hK K' hH1
          try simp only [Act.put, List.setIfInBounds_toArray, List.set_cons_zero, List.set_cons_succ]
          refine any_take 12 8 ?vb12 rfl rfl (by kernel_rfl) (by kernel_rfl) (by kernel_rfl) (fun _ _ _ h => h) (by rfl) ?hyb12 hH2 ?restb12
          case hyb12 => ((intro W hSw); obtain ⟨o0, o1⟩ := Lies.cells2 hSw.1.1; obtain ⟨p0, p1⟩ := Lies.cells2 hSw.1.2; have lk := hSw.2.look_ok xn HXL.out; rw [HFK.out] at lk; dsimp only [Option.getD_some, Option.getD_none, Option.isSome_some, Option.isSome_none] at lk; go_simp; (try with_reducible rfl))
          try simp only [Act.put, List.setIfInBounds_toArray, List.set_cons_zero, List.set_cons_succ]
          clear hH2
          refine wpAnyH_done (by kernel_rfl) ?_ _
          refine NoPanic.normal ?_
          obtain ⟨y7, hy7⟩ : ∃ y7, y7 = (y6.alloc (.cells #[encStr zK.n, .int .i64 zK.f, .int .i64 zK.g] 178)).drew := ⟨_, rfl⟩
          rw [← hy7]
          have HA7 : Hid (At y7 ⟨gs, gk, gh⟩ ⟨K, []⟩) := Lib.hid (by rw [hy7]; exact (HA6.out.alloc _).drew)
          have L7 : Hid (Lies y7 wr.heap.size 90 #[encStr xn, .int .i64 xf]) := Lib.hid (by rw [hy7]; exact Lies.alloc (w := y6) L6.out _)
          have HB7 : Hid (Below w.heap.size w y7) := Lib.hid (by rw [hy7]; exact ((HB6.out.alloc HB6.out.size _).drew))
          clear hy7
          obtain ⟨p0, p1⟩ := L7.out.cells2
          go_wp2_with fail
          with_reducible refine (isGood_any xn xf _ (by have := HXM.out; omega)).mono ?_
          rintro e y8 ⟨rfl, hb8⟩
          have HA8 := Lib.hid (HA7.out.below hb8)
          have L8 := Lib.hid (Lies.below L7.out hb8 L7.out.lt)
          have HB8 := Lib.hid (HB7.out.trans (hb8.mono HB7.out.size))
          clear hb8 p0 p1
          obtain ⟨p0, p1⟩ := L8.out.cells2
          cases hgb : goodB xn xf
          · have hno : newOf l = none := by
              unfold newOf
              rw [if_neg (by rw [HLN.out]; omega)]
              refine newGo_none (j := j + 1) ?_
              rw [HST.out]
              unfold addG
              rw [if_pos (by dsimp only; rw [hgb]; simp)]
            have HNO := Lib.hid hno
            clear hgb hno
            go_wp2
            go_ret2
            exact ⟨HB8.out, .inl ⟨HNO.out, rfl⟩⟩
          · have hst : newGo [] (l.take (j + 1)) = some (insK ⟨xn, xf, 0⟩ K) := by
              rw [HST.out]
              unfold addG
              rw [if_neg (by dsimp only; rw [hgb, HFK.out]; simp)]
            have HS2 := Lib.hid hst
            clear hgb hst
            go_wp2_with fail
            with_reducible refine (clone_any xn _ HXM.out).mono ?_
            rintro e y9 ⟨rfl, hb9⟩
            have HA9 := Lib.hid (HA8.out.below hb9)
            have L9 := Lib.hid (Lies.below L8.out hb9 L8.out.lt)
            have HB9 := Lib.hid (HB8.out.trans (hb9.mono HB8.out.size))
            clear hb9 p0 p1
            go_wp2_with fail
            obtain ⟨w3, hu1, hu2, hu3⟩ := HA9.out.drew.ok.add ⟨xn, xf, 0⟩ (findK_none HFK.out) HXL.out HKZ.out
            have HU := Lib.hid (And.intro hu1 (And.intro hu2 hu3))
            clear hu1 hu2 hu3
            refine wp_region_noPanic ?_
            refine wp_region_held_drew (S := fun W => Lies W gs 175 #[.map (some gk), .map (some gh)] ∧ Lies W wr.heap.size 90 #[encStr xn, .int .i64 xf]) (by kernel_rfl) ⟨HA9.out.c, L9.out⟩ (fun hH0 => ?_)
            refine any_take 0 44 ?vc0 rfl rfl (by kernel_rfl) (by kernel_rfl) (by kernel_rfl) (fun _ _ _ h => h) (by rfl) ?hyc0 hH0 ?restc0
            case hyc0 => ((intro W hSw); obtain ⟨o0, o1⟩ := Lies.cells2 hSw.1; obtain ⟨p0, p1⟩ := Lies.cells2 hSw.2; go_simp; (try with_reducible rfl))
            try simp only [Act.put, List.setIfInBounds_toArray, List.set_cons_zero, List.set_cons_succ]
            refine any_take 1 45 ?vc1 rfl rfl (by kernel_rfl) (by kernel_rfl) (by kernel_rfl) (fun _ _ _ h => h) (by rfl) ?hyc1 hH0 ?restc1
            case hyc1 => ((intro W hSw); obtain ⟨o0, o1⟩ := Lies.cells2 hSw.1; obtain ⟨p0, p1⟩ := Lies.cells2 hSw.2; go_simp; (try with_reducible rfl))
            try simp only [Act.put, List.setIfInBounds_toArray, List.set_cons_zero, List.set_cons_succ]
            refine any_take 2 46 ?vc2 rfl rfl (by kernel_rfl) (by kernel_rfl) (by kernel_rfl) (fun _ _ _ h => h) (by rfl) ?hyc2 hH0 ?restc2
            case hyc2 => ((intro W hSw); obtain ⟨o0, o1⟩ := Lies.cells2 hSw.1; obtain ⟨p0, p1⟩ := Lies.cells2 hSw.2; go_simp; (try with_reducible rfl))
            try simp only [Act.put, List.setIfInBounds_toArray, List.set_cons_zero, List.set_cons_succ]
            refine any_take 3 47 ?vc3 rfl rfl (by kernel_rfl) (by kernel_rfl) (by kernel_rfl) (fun _ _ _ h => h) (by rfl) ?hyc3 hH0 ?restc3
            case hyc3 => ((intro W hSw); obtain ⟨o0, o1⟩ := Lies.cells2 hSw.1; obtain ⟨p0, p1⟩ := Lies.cells2 hSw.2; go_simp; (try with_reducible rfl))
            try simp only [Act.put, List.setIfInBounds_toArray, List.set_cons_zero, List.set_cons_succ]
            refine any_take 4 48 ?vc4 rfl rfl (by kernel_rfl) (by kernel_rfl) (by kernel_rfl) (fun _ _ _ h => h) (by rfl) ?hyc4 hH0 ?restc4
            case hyc4 => ((intro W hSw); obtain ⟨o0, o1⟩ := Lies.cells2 hSw.1; obtain ⟨p0, p1⟩ := Lies.cells2 hSw.2; go_simp; (try with_reducible rfl))
            try simp only [Act.put, List.setIfInBounds_toArray, List.set_cons_zero, List.set_cons_succ]
            refine any_take 5 49 ?vc5 rfl rfl (by kernel_rfl) (by kernel_rfl) (by kernel_rfl) (fun _ _ _ h => h) (by rfl) ?hyc5 hH0 ?restc5
            case hyc5 => ((intro W hSw); obtain ⟨o0, o1⟩ := Lies.cells2 hSw.1; obtain ⟨p0, p1⟩ := Lies.cells2 hSw.2; go_simp; (try with_reducible rfl))
            try simp only [Act.put, List.setIfInBounds_toArray, List.set_cons_zero, List.set_cons_succ]
            refine any_take 6 50 ?vc6 rfl rfl (by kernel_rfl) (by kernel_rfl) (by kernel_rfl) (fun _ _ _ h => h) (by rfl) ?hyc6 hH0 ?restc6
            case hyc6 => ((intro W hSw); obtain ⟨o0, o1⟩ := Lies.cells2 hSw.1; obtain ⟨p0, p1⟩ := Lies.cells2 hSw.2; go_simp; (try with_reducible rfl))
            try simp only [Act.put, List.setIfInBounds_toArray, List.set_cons_zero, List.set_cons_succ]
            refine any_take 7 51 ?vc7 rfl rfl (by kernel_rfl) (by kernel_rfl) (by kernel_rfl) (fun _ _ _ h => h) (by rfl) ?hyc7 hH0 ?restc7
            case hyc7 => ((intro W hSw); obtain ⟨o0, o1⟩ := Lies.cells2 hSw.1; obtain ⟨p0, p1⟩ := Lies.cells2 hSw.2; go_simp; (try with_reducible rfl))
            try simp only [Act.put, List.setIfInBounds_toArray, List.set_cons_zero, List.set_cons_succ]
            refine any_take 8 52 ?vc8 rfl rfl (by kernel_rfl) (by kernel_rfl) (by kernel_rfl) (fun _ _ _ h => h) (by rfl) ?hyc8 hH0 ?restc8
            case hyc8 => ((intro W hSw); obtain ⟨o0, o1⟩ := Lies.cells2 hSw.1; obtain ⟨p0, p1⟩ := Lies.cells2 hSw.2; go_simp; (try with_reducible rfl))
            try simp only [Act.put, List.setIfInBounds_toArray, List.set_cons_zero, List.set_cons_succ]
            refine any_take 9 53 ?vc9 rfl rfl (by kernel_rfl) (by kernel_rfl) (by kernel_rfl) (fun _ _ _ h => h) (by rfl) ?hyc9 hH0 ?restc9
            case hyc9 => ((intro W hSw); obtain ⟨o0, o1⟩ := Lies.cells2 hSw.1; obtain ⟨p0, p1⟩ := Lies.cells2 hSw.2; go_simp; (try with_reducible rfl))
            try simp only [Act.put, List.setIfInBounds_toArray, List.set_cons_zero, List.set_cons_succ]
            refine wpAnyH_ready (rs := [10]) (by kernel_rfl) (by simp) ?_
            refine AllReadyH.cons rfl (fun K' hK => ?_) AllReadyH.nil
            refine stp_upd none _ _ _ 172 (.tmp 47) (.tmp 48) (.tmp 53) (.map (some gk)) (encStr xn) (vK ⟨xn, xf, 0⟩) w3 rfl rfl rfl HU.out.1 ?_
            obtain ⟨hA3, hF3⟩ := HA9.out.drew.turnK HU.out.2.1 HU.out.2.2
            have HA3 := Lib.hid hA3
            have HB3 : Hid (Below w.heap.size w w3) := Lib.hid (hF3.below (w := y9.drew) HB9.out.drew HB9.out.size HGS.out.2.1 HGS.out.2.2)
            refine hK.out _ _ ⟨hA3.c, hF3.lies (w := y9.drew) L9.out (Nat.ne_of_gt HA.out.ok.lt) (Nat.ne_of_gt HA.out.oh.lt)⟩ (fun hH1 => ?_)
            clear hA3 hF3 hK K' hH0
            try simp only [Act.put, List.setIfInBounds_toArray, List.set_cons_zero, List.set_cons_succ]
            clear hH1
            refine wpAnyH_done (by kernel_rfl) ?_ _
            refine NoPanic.normal ?_
            go_wp2
            go_roundw
            case rel => exact ⟨j + 1, insK ⟨xn, xf, 0⟩ K, by omega, by go_num, HS2.out, HA3.out, HB3.out⟩
            case measure => simp [intOf]; omega
      · have hj2 : j = l.length := by have := HLN.out; omega
        have HNW : Hid (newOf l = some K) := Lib.hid (by
          unfold newOf
          rw [if_neg (by rw [HLN.out]; omega)]
          have := HGO.out
          rw [hj2, List.take_length] at this
          exact this)
        have hnl : decide ((j : Int) < (n : Int)) = false := by simp; omega
        clear hj2
        go_wp2
        go_ret2
        exact ⟨HB.out, .inr ⟨K, ⟨gs, gk, gh⟩, HNW.out, rfl, HA.out, HGS.out⟩⟩

end Go.Proofs.YtpbclmnhkmcknaaGreat.St

namespace Go.Proofs.YtpbclmnhkmcknaaGreat.Pu
open Go.RowKit
set_option maxRecDepth 100000
set_option linter.unusedVariables false
set_option linter.unusedSimpArgs false

set_option maxHeartbeats 4000000 in
theorem clone38 (s : ByteArray) (w : World) (hlim : s.size ≤ 281474976710656) :
    Calls Tryz.prog 123 #[.string s] w fun e w' => e = .returned (.string s) ∧ Below w.heap.size w w' := by
  by_cases h0 : s.size = 0
  · have hs : s = ⟨#[]⟩ := by
      apply ByteArray.ext
      exact Array.eq_empty_of_size_eq_zero h0
    subst hs
    go_enter Tryz.func123, Tryz.ntmps123
    go_wp2
    go_ret
    exact ⟨rfl, Below.refl _ _⟩
  · have hinfo : (Tryz.prog.info? 5).map (·.size) = some 1 := by kernel_rfl
    have hco : Tryz.prog.cellsOf 5 = 1 := by kernel_rfl
    obtain ⟨M, hM⟩ : ∃ M, M = madeCells (Value.int .u8 0).cells (((s.size : Nat) : Int).toNat * 1) := ⟨_, rfl⟩
    have hMs : M.size = s.size := by rw [hM, size_madeCells]; simp
    have hmk : ∀ W : World, (Instr.makeSlice 22 (.int .i64 (s.size : Int)) (.int .i64 (s.size : Int))).run Tryz.prog W = .ok (.slice (some ⟨W.heap.size, 0, none⟩) s.size s.size) (W.alloc (.cells M 5)) := fun W => by
      have h := run_make (P := Tryz.prog) W 22 5 _ (.int .u8 0) Tryz.underlying22 Tryz.type5 rfl .i64 .i64 (s.size : Int) (s.size : Int) (by omega) (by omega) (by show (1 : Int) * (s.size : Int) ≤ _; omega) (by omega)
      rw [h, hM]
      rfl
    clear hM
    have hcp := Lib.run_copy_row_string (P := Tryz.prog) (w.alloc (.cells M 5)) 22 9 3 5 w.heap.size 0 s.size s.size s M 5 Tryz.underlying22 hinfo (heap_alloc_new w _) (Nat.le_refl _) (by omega)
    obtain ⟨Y, hY⟩ : ∃ Y, Y = (M.toList.take 0 ++ Lib.byteCells s.data.toList ++ M.toList.drop (0 + s.size)).toArray := ⟨_, rfl⟩
    rw [← hY] at hcp
    have hYl : Y.toList = Lib.byteCells s.data.toList := by
      rw [hY, List.toList_toArray, List.take_zero, List.nil_append, List.drop_of_length_le (by rw [Array.length_toList]; omega), List.append_nil]
    have hYs : Y.size = s.size := by rw [← Array.length_toList, hYl, Lib.byteCells_length, ← Lib.size_eq]
    have hgY : ((w.alloc (.cells M 5)).setRow w.heap.size Y).heap[w.heap.size]? = some (.cells Y 5 (0, 0)) := setRow_heap _ _ M _ 5 (0, 0) (heap_alloc_new w _)
    have hne : s.data.toList ≠ [] := fun e => h0 (by rw [Lib.size_eq, e]; rfl)
    have hUS := Lib.run_unsafeString_row (P := Tryz.prog) ((w.alloc (.cells M 5)).setRow w.heap.size Y) 246 3 9 5 Tryz.underlying246 hco w.heap.size Y.size (by unfold World.shape?; rw [hgY]) s.data.toList hne (by rw [← Lib.size_eq]; omega) (by rw [← Lib.size_eq]; omega)
      (fun j x hx => Lib.cells_of_row hgY Y.size j _ (by rw [List.take_of_length_le (by rw [Array.length_toList]; exact Nat.le_refl _), hYl]; simp [Lib.byteCells, hx]))
    rw [← Lib.size_eq] at hUS
    clear hY
    go_enter Tryz.func123, Tryz.ntmps123
    go_wp2
    go_ret
    have hb1 : Below w.heap.size w (w.alloc (.cells M 5)) := (Below.refl _ w).alloc (Nat.le_refl _) _
    have hb2 : Below w.heap.size (w.alloc (.cells M 5)) ((w.alloc (.cells M 5)).setRow w.heap.size Y) := ⟨rfl, rfl, rfl, by simp, fun k hk => setRow_other _ _ _ _ (by omega)⟩
    exact ⟨rfl, Lib.below_freeze (hb1.trans hb2) (p := ⟨w.heap.size, 0, none⟩) (Nat.le_refl _) _⟩
theorem clone_any (x : List UInt8) (w : World) (hx : x.length ≤ 1000000) :
    Calls Tryz.prog 90 #[encStr x] w fun e w' => e = .returned (encStr x) ∧ Below w.heap.size w w' := by
  have C := clone38 ⟨x.toArray⟩ w (by simp [ByteArray.size]; omega)
  go_enter Tryz.func90, Tryz.ntmps90
  go_wp2_with fail
  with_reducible refine C.mono ?_
  rintro e w' ⟨rfl, hb⟩
  have HB := Lib.hid hb
  clear hb
  go_wp2
  go_ret
  exact ⟨rfl, HB.out⟩

/-- May such an account be at first? -/
def goodB (x : List UInt8) (m h : Int) : Bool := decide (1 ≤ x.length) && decide (x.length ≤ 32) && decide (0 ≤ m) && decide (m ≤ 1000000000) && decide (h = 0)
theorem goodB_iff {x : List UInt8} {m h : Int} : goodB x m h = true ↔ 1 ≤ x.length ∧ x.length ≤ 32 ∧ 0 ≤ m ∧ m ≤ 1000000000 ∧ h = 0 := by
  unfold goodB; simp [and_assoc]
set_option maxHeartbeats 1000000 in
theorem isGood_any (x : List UInt8) (m h : Int) (w : World) (hx : x.length ≤ 281474976710656) :
    Calls Tryz.prog 91 #[.agg #[encStr x, .int .i64 m, .int .i64 h]] w fun e w' => e = .returned (.bool (goodB x m h)) ∧ Below w.heap.size w w' := by
  have e1 : goodB x m h = (decide ((1 : Int) ≤ (x.length : Int)) && decide ((x.length : Int) ≤ 32) && decide (0 ≤ m) && decide (m ≤ 1000000000) && (h == 0)) := by
    unfold goodB
    rw [show decide (1 ≤ x.length) = decide ((1 : Int) ≤ (x.length : Int)) from decide_eq_decide.2 (by omega), show decide (x.length ≤ 32) = decide ((x.length : Int) ≤ 32) from decide_eq_decide.2 (by omega)]
    rfl
  rw [e1]
  clear e1
  obtain ⟨b1, h1⟩ : ∃ b, decide ((1 : Int) ≤ (x.length : Int)) = b := ⟨_, rfl⟩
  obtain ⟨b2, h2⟩ : ∃ b, decide ((x.length : Int) ≤ 32) = b := ⟨_, rfl⟩
  obtain ⟨b3, h3⟩ : ∃ b, decide (0 ≤ m) = b := ⟨_, rfl⟩
  obtain ⟨b4, h4⟩ : ∃ b, decide (m ≤ 1000000000) = b := ⟨_, rfl⟩
  obtain ⟨b5, h5⟩ : ∃ b, (h == 0) = b := ⟨_, rfl⟩
  rw [h1, h2, h3, h4, h5]
  cases b1 <;> cases b2 <;> cases b3 <;> cases b4 <;> cases b5
  all_goals
    go_enter Tryz.func91, Tryz.ntmps91
    go_wp2
    go_ret
    exact ⟨rfl, below1 _ _⟩

end Go.Proofs.YtpbclmnhkmcknaaGreat.Pu

namespace Go.Proofs.YtpbclmnhkmcknaaGreat.Pu
open Go.Proofs Go.RowKit
set_option maxRecDepth 100000
set_option linter.unusedVariables false

/-- One good more. -/
def addG (K : List Kd) (g : Kd) : Option (List Kd) := if (findK K g.n).isSome || !goodB g.n g.m g.h then none else some (insK g K)
def newGo : List Kd → List Kd → Option (List Kd)
  | K, [] => some K
  | K, g :: r => match addG K g with
    | none => none
    | some K' => newGo K' r
def newOf (l : List Kd) : Option (List Kd) := if 50 < l.length then none else newGo [] l

theorem newGo_cons (K : List Kd) (g : Kd) (r : List Kd) : newGo K (g :: r) = (addG K g).bind (fun K' => newGo K' r) := by
  conv => lhs; unfold newGo
  cases addG K g <;> rfl
theorem newGo_append : ∀ (a b : List Kd) (K : List Kd), newGo K (a ++ b) = (newGo K a).bind (fun K' => newGo K' b)
  | [], b, K => rfl
  | g :: r, b, K => by
    rw [List.cons_append, newGo_cons, newGo_cons]
    cases h : addG K g with
    | none => rfl
    | some K' => exact newGo_append r b K'
theorem newGo_step {l : List Kd} {j : Nat} (hj : j < l.length) {K : List Kd} (h : newGo [] (l.take j) = some K) : newGo [] (l.take (j + 1)) = addG K l[j] := by
  rw [List.take_succ_eq_append_getElem hj, newGo_append, h]
  show newGo K [l[j]] = _
  unfold newGo
  cases addG K l[j] <;> rfl
theorem newGo_none {l : List Kd} {j : Nat} (h : newGo [] (l.take j) = none) : newGo [] l = none := by
  have := newGo_append (l.take j) (l.drop j) []
  rw [List.take_append_drop, h] at this
  exact this
theorem addG_some {K K' : List Kd} {g : Kd} (h : addG K g = some K') : findK K g.n = none ∧ goodB g.n g.m g.h = true ∧ K' = insK g K := by
  unfold addG at h
  split at h
  · cases h
  · rename_i hc
    simp only [Bool.or_eq_true, Bool.not_eq_true', not_or, Bool.not_eq_false, Bool.not_eq_true, Option.isSome_eq_false_iff, Option.isNone_iff_eq_none] at hc
    exact ⟨hc.1, hc.2, by injection h with h; exact h.symm⟩
/-- What the kinds of a new stock are like. -/
structure NewK (K : List Kd) (l : List Kd) : Prop where
  ks : KSort K
  len : K.length = l.length
  good : ∀ k ∈ K, goodB k.n k.m k.h = true
  mem : ∀ k ∈ K, k ∈ l
theorem NewK.add {K K' : List Kd} {l : List Kd} {g : Kd} (h : NewK K l) (ha : addG K g = some K') : NewK K' (l ++ [g]) := by
  obtain ⟨h1, h2, rfl⟩ := addG_some ha
  refine ⟨h.ks.ins (findK_none h1), by rw [insK_length, h.len]; simp, fun k hk => ?_, fun k hk => ?_⟩
  · rcases mem_insK.1 hk with rfl | hk
    · exact h2
    · exact h.good k hk
  · rcases mem_insK.1 hk with rfl | hk
    · simp
    · exact List.mem_append_left _ (h.mem k hk)
theorem NewK.of : ∀ (l2 l : List Kd) (K K' : List Kd), NewK K l → newGo K l2 = some K' → NewK K' (l ++ l2)
  | [], l, K, K', h, e => by
    simp [newGo] at e
    subst e
    simpa using h
  | g :: r, l, K, K', h, e => by
    unfold newGo at e
    cases ha : addG K g with
    | none => rw [ha] at e; cases e
    | some K2 =>
      rw [ha] at e
      have := NewK.of r (l ++ [g]) K2 K' (h.add ha) e
      simpa using this
theorem NewK.go {l : List Kd} {K : List Kd} (h : newGo [] l = some K) : NewK K l := by
  have := NewK.of l [] [] K ⟨List.Pairwise.nil, rfl, (fun k hk => absurd hk (by simp)), fun k hk => absurd hk (by simp)⟩ h
  simpa using this
theorem newOf_some {l : List Kd} {K : List Kd} (h : newOf l = some K) : l.length ≤ 50 ∧ newGo [] l = some K ∧ NewK K l := by
  unfold newOf at h
  split at h
  · cases h
  · exact ⟨by omega, h, NewK.go h⟩
theorem newInv {l : List Kd} {K : List Kd} (h : newOf l = some K) : Inv ⟨K, []⟩ := by
  obtain ⟨h1, h2, h3⟩ := newOf_some h
  refine ⟨h3.ks, List.Pairwise.nil, fun k hk => ?_, fun k hk => ?_, (fun y hy => absurd hy (by simp)), by show K.length ≤ 50; rw [h3.len]; exact h1⟩
  · have := goodB_iff.1 (h3.good k hk)
    exact ⟨this.1, this.2.1⟩
  · have := goodB_iff.1 (h3.good k hk)
    show 0 ≤ k.h ∧ k.h ≤ k.m ∧ k.h = 0 ∧ k.m + 0 ≤ 1000000000
    omega

/-- A slice of n accounts that reads as l. -/
def Gin (w : World) (A : Option Addr) (n : Nat) (l : List Kd) : Prop :=
  l.length = n ∧ (0 < n → ∃ b off, A = some ⟨b, off, none⟩ ∧ b < w.heap.size ∧ ∀ (i : Nat) (hi : i < l.length), w.cell? ⟨b, off + i * 3, none⟩ = some (encStr l[i].n) ∧ w.cell? ⟨b, off + i * 3 + 1, none⟩ = some (.int .i64 l[i].m) ∧ w.cell? ⟨b, off + i * 3 + 2, none⟩ = some (.int .i64 l[i].h))
theorem Gin.below {w w' : World} {A : Option Addr} {n : Nat} {l : List Kd} (h : Gin w A n l) (hb : Below w.heap.size w w') : Gin w' A n l := by
  obtain ⟨h1, h2⟩ := h
  refine ⟨h1, fun h0 => ?_⟩
  obtain ⟨b, off, e, hlt, hc⟩ := h2 h0
  refine ⟨b, off, e, Nat.lt_of_lt_of_le hlt hb.size, fun i hi => ?_⟩
  obtain ⟨c1, c2, c3⟩ := hc i hi
  exact ⟨by rw [hb.cell (p := ⟨b, off + i * 3, none⟩) hlt]; exact c1, by rw [hb.cell (p := ⟨b, off + i * 3 + 1, none⟩) hlt]; exact c2, by rw [hb.cell (p := ⟨b, off + i * 3 + 2, none⟩) hlt]; exact c3⟩
theorem run_mk54 (n : Nat) (w : World) : (Instr.makeMap 182 (some (.int .i64 (n : Int)))).run Tryz.prog w = .ok (.map (some w.heap.size)) (w.alloc (.map #[] 0)) := by
  simp [Instr.makeMap, asInt, asIntOf, Result.andThen]

end Go.Proofs.YtpbclmnhkmcknaaGreat.Pu
