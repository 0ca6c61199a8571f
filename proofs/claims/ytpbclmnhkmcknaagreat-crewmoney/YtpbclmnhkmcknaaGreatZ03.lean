/-
  Texts of one proof, in their order: FeOwnMem, FeNIter, FeNZero, FeNChk.
-/
import Derived.ArgAppend
import Derived.Test.YtpbclmnhkmcknaaGreatZ02
namespace Go.Proofs.YtpbclmnhkmcknaaGreat.Fe
open Go.RowKit
set_option maxRecDepth 100000

theorem Own.grownOther {w w' : World} {B : Nat} {u : Value} {l : List Nat} {r : Option Nat} (h : Own w B u l) (hg : w.grownBy w' r) (hne : ∀ g, u.ownBlock = some g → r ≠ some g) : Own w' B u l := by
  obtain ⟨⟨h0, h1⟩, h2⟩ := h
  refine ⟨⟨h0, ?_⟩, h2⟩
  rcases h1 with h1 | ⟨g, cap, cur, hv, hg0, hh, hrr⟩
  · exact .inl h1
  · exact .inr ⟨g, cap, cur, hv, hg0, Lies.grown (t := 5) hh hg (fun e => hne g (by rw [hv]; rfl) e.symm), hrr⟩



theorem take_set_succ (x : List Nat) (k y : Nat) (h : k < x.length) : (x.set k y).take (k + 1) = x.take k ++ [y] := by
  rw [take_one _ _ (by rw [List.length_set]; exact h), List.take_set_of_le (Nat.le_refl _)]
  congr 1
  simp [List.getD, h]

/-- A byte of a row of the call's own is written over. -/
theorem Own.write {w : World} {B : Nat} {u : Value} {l : List Nat} (h : Own w B u l) (k : Nat) (hk : k < l.length) :
    ∃ g c, u = .slice (some ⟨g, 0, none⟩) l.length c ∧ (∃ z, w.cell? ⟨g, k, none⟩ = some z) ∧ w.frozen? ⟨g, k, none⟩ = false ∧ ∀ y : Nat, y < 256 → Own (w.setCell ⟨g, k, none⟩ (.int .u8 (y : Nat))) B u (l.set k y) := by
  rcases h.form with ⟨_, h0⟩ | ⟨g, cap, cur, rfl, hb, hL, hn, hm, hs, hc⟩
  · subst h0; simp at hk
  · refine ⟨g, cap, rfl, ⟨_, (hL.cell k).trans (hc k hk)⟩, hL.free k, fun y hy => ⟨⟨by simp [vals], .inr ⟨g, cap, cur.setIfInBounds k (.int .u8 (y : Nat)), by rw [List.length_set], hb, hL.put k _, by rw [List.length_set]; exact hn, hm, by rw [Array.size_setIfInBounds]; simpa using hs, ?_⟩⟩, ?_⟩⟩
    · apply List.ext_getElem?
      intro i
      rw [List.getElem?_take, List.length_set, Nat.mul_one, Array.getElem?_toList]
      by_cases hi : i < l.length
      · rw [if_pos hi, Array.getElem?_setIfInBounds]
        by_cases hki : k = i
        · subst hki
          rw [if_pos rfl, if_pos (by rw [hs]; omega)]
          simp [vals, hi]
        · rw [if_neg hki, hc i hi]
          simp [vals, hi, List.getD, List.getElem_set_ne hki]
      · rw [if_neg hi, List.getElem?_eq_none (by simp [vals]; omega)]
    · intro c hcm
      rcases List.mem_or_eq_of_mem_set hcm with h1 | h1
      · exact h.2 c h1
      · rw [h1]; exact hy

/-- Behind an append of one byte: the new row, and what was there. -/
structure App (w : World) (B : Nat) (v : Value) (l : List Nat) (y : Nat) (v' : Value) (w' : World) : Prop where
  own : Own w' B v' (l ++ [y])
  grown : w.grownBy w' v.ownBlock
  block : ∀ g, v'.ownBlock = some g → v.ownBlock = some g ∨ w.heap.size ≤ g
  keep : ∀ g j, v.ownBlock = some g → j < l.length → w'.cell? ⟨g, j, none⟩ = w.cell? ⟨g, j, none⟩

theorem wpl_append1 {ops : Array Oper} {rest : List Oper} {a : Act} {w : World} {Q : Exit → Act → World → Prop} (dst : Option Tmp) (ty : TypeId) (pos : String) (aft : Array Edge) (s x : Operand)
    (B : Nat) (v : Value) (l : List Nat) (g0 y : Nat)
    (hs : a.eval s = v) (hx : a.eval x = .slice (some ⟨g0, 0, none⟩) 1 1) (hown : Own w B v l) (hsrc : w.cell? ⟨g0, 0, none⟩ = some (.int .u8 (y : Nat))) (hy : y < 256) (hsm : l.length ≤ 1000000) (hB : B ≤ w.heap.size)
    (h : ∀ v' w', App w B v l y v' w' → wpList Tryz.prog ops Q rest (a.put dst v') w') :
    wpList Tryz.prog ops Q (⟨dst, .call { callee := .builtin .append, args := #[s, x], argTypes := #[22, 22] }, ty, pos, aft, none⟩ :: rest) a w := by
  have hnews : ∀ j u, [Value.int .u8 (y : Nat)][j]? = some u → w.cell? ((⟨g0, 0, none⟩ : Addr).add j) = some u := by
    intro j u hu
    rcases j with _ | j
    · simp at hu; subst hu; rw [add_off]; exact hsrc
    · simp at hu
  have hone : ∀ u ∈ [Value.int .u8 (y : Nat)], u.oneCell' = true := by intro u hu; simp at hu; subst hu; rfl
  have hbs : ∀ c ∈ l ++ [y], c < 256 := by
    intro c hc
    rcases List.mem_append.1 hc with h1 | h1
    · exact hown.2 c h1
    · simp at h1; subst h1; exact hy
  have hvl : vals (l ++ [y]) = vals l ++ [.int .u8 (y : Nat)] := by simp [vals]
  have grows : ∀ v' w', w'.ownsRow w.heap.size 5 1 v' (l.length + 1) (vals l ++ [.int .u8 (y : Nat)]) → w.grownBy w' none → App w B v l y v' w' := by
    intro v' w' ho hg
    have hO : Own w' w.heap.size v' (l ++ [y]) := ⟨by rw [List.length_append, hvl]; exact ho, hbs⟩
    refine ⟨hO.mono hB, ⟨hg.os, hg.tape, hg.output, hg.size, fun i hi _ => hg.block i hi (by simp)⟩, fun g hgg => .inr (hO.block g hgg), fun g j hgg hj => ?_⟩
    exact World.cell?_of_block (hg.block g (hown.lt g hgg) (by simp))
  rcases hown.form with ⟨rfl, rfl⟩ | ⟨g, cap, cur, rfl, hb, hL, hn, hm, hss, hc⟩
  · exact wpList_append_grows w (o := ⟨dst, .call { callee := .builtin .append, args := #[s, x], argTypes := #[22, 22] }, ty, pos, aft, none⟩) rfl s x 22 rfl 5 _ (.int .u8 0) 1 1 Tryz.underlying22 Tryz.type5 rfl rfl rfl rfl (by decide)
      none 0 0 [] hs (fun _ => ⟨rfl, rfl⟩) rfl (fun b hb => by cases hb) ⟨g0, 0, none⟩ 1 1 _ hx rfl hnews hone (by omega) (by unfold maxLen; omega) (by omega) (fun v' w' ho hg => h v' w' (grows v' w' ho hg))
  · refine wpList_append_arg w (o := ⟨dst, .call { callee := .builtin .append, args := #[s, x], argTypes := #[22, 22] }, ty, pos, aft, none⟩) rfl s x 22 rfl 5 _ (.int .u8 0) 1 1 Tryz.underlying22 Tryz.type5 rfl rfl rfl rfl (by decide)
      g 0 l.length cap (vals l) hs (by simp [vals]) ?_ ⟨g0, 0, none⟩ 1 1 [.int .u8 (y : Nat)] hx rfl hnews hone ?_ (by unfold maxLen; omega) (by omega) ?_ (fun _ v' w' ho hg => h v' w' (grows v' w' ho hg))
    · intro j u hu
      have hj : j < l.length := by simpa [vals] using (List.getElem?_eq_some_iff.1 hu).1
      rw [Nat.zero_add, hL.cell, hc j hj, ← hu]
      simp [vals, List.getD, hj]
    · intro hroom j hj
      have : j = 0 := by simpa using hj
      subst this
      rw [Nat.zero_add, Nat.mul_one, Nat.add_zero]
      exact ⟨by rw [hL.cell, Array.getElem?_eq_getElem (by omega)]; rfl, hL.free _⟩
    · intro hroom
      refine h _ _ ⟨?_, ?_, fun g' hg' => .inl hg', fun g' j hg' hj => ?_⟩
      · refine ⟨⟨by simp [vals], .inr ⟨g, cap, cur.setIfInBounds l.length (.int .u8 (y : Nat)), by rw [List.length_append]; rfl, hb, ?_, by rw [List.length_append]; exact hroom, hm, by rw [Array.size_setIfInBounds]; simpa using hss, ?_⟩⟩, hbs⟩
        · have := hL.put l.length (.int .u8 (y : Nat))
          rw [Nat.zero_add, Nat.mul_one]
          exact this
        · apply List.ext_getElem?
          intro i
          rw [List.getElem?_take, Nat.mul_one, Array.getElem?_toList, Array.getElem?_setIfInBounds]
          by_cases hi : i < (l ++ [y]).length
          · rw [if_pos hi]
            rw [List.length_append, List.length_singleton] at hi
            by_cases hil : l.length = i
            · subst hil
              rw [if_pos rfl, if_pos (by omega)]
              simp [vals]
            · have hil2 : i < l.length := by omega
              rw [if_neg hil, hc i hil2, hvl, List.getElem?_append_left (by simpa [vals] using hil2)]
              simp [vals, List.getD, hil2]
          · rw [if_neg hi, List.getElem?_eq_none (by simpa [vals] using hi)]
      · rw [Nat.zero_add, Nat.mul_one]
        exact grown_set (World.grownBy.refl w _) _ _
      · have hgg : g' = g := by simpa [Value.ownBlock] using hg'.symm
        subst hgg
        rw [Nat.zero_add, Nat.mul_one]
        show (w.setCell ⟨g', l.length, none⟩ (.int .u8 (y : Nat))).cell? ⟨g', j, none⟩ = _
        rw [(hL.put l.length _).cell, hL.cell, Array.getElem?_setIfInBounds, if_neg (by omega)]


end Go.Proofs.YtpbclmnhkmcknaaGreat.Fe

namespace Go.Proofs.YtpbclmnhkmcknaaGreat.Fe
open Go.RowKit
set_option maxRecDepth 100000

theorem str_size (l : List Nat) : (str l).size = l.length := by
  have := congrArg List.length (str_data l)
  simpa using this
theorem str_at (l : List Nat) (hl : ∀ c ∈ l, c < 128) (i : Nat) (h : i < (str l).size) : ((str l)[i]'h).toNat = l.getD i 0 := by
  have hi : i < l.length := by rw [← str_size]; exact h
  have e : (str l)[i]'h = UInt8.ofNat l[i] := by
    show (str l).data[i] = _
    have h2 : (str l).data.toList[i]'(by rw [str_data]; simpa using hi) = UInt8.ofNat l[i] := by
      simp only [str_data, List.getElem_map]
    rw [← h2, Array.getElem_toList]
  rw [e]
  have : l[i] < 128 := hl _ (List.getElem_mem hi)
  simp [List.getD, hi]
  omega
/-- The iterator at block k, over the text of these letters, ahead of letter j. -/
def It (w : World) (k : Nat) (s : List Nat) (j : Nat) : Prop := w.heap[k]? = some (.stringIter (str s) j)
abbrev mv (w : World) (k : Nat) (s : List Nat) (j : Nat) : World := w.iterAt k (str s) j
theorem next_str {w : World} {k : Nat} {s : List Nat} {j : Nat} (h : It w k s j) (hj : j < s.length) (hs : ∀ c ∈ s, c < 128) (ty : TypeId) :
    (Instr.next (.pointer (some ⟨k, 0, none⟩)) true ty).run Tryz.prog w = .ok (.tuple #[.bool true, .int .i64 (j : Nat), .int .i32 ((s.getD j 0 : Nat) : Int)]) (mv w k s (j + 1)) := by
  have hsz : j < (str s).size := by rw [str_size]; exact hj
  have hb := str_at s hs j hsz
  have hl : s.getD j 0 < 128 := by
    rw [List.getD_eq_getElem?_getD, List.getElem?_eq_getElem hj]; exact hs _ (List.getElem_mem hj)
  rw [Lib.run_next_ascii_at w k (str s) j ty h hsz (by rw [hb]; exact hl), hb]
theorem next_fin {w : World} {k : Nat} {s : List Nat} {j : Nat} (h : It w k s j) (hj : ¬ j < s.length) (ty : TypeId) :
    (Instr.next (.pointer (some ⟨k, 0, none⟩)) true ty).run Tryz.prog w = .ok (.tuple #[.bool false]) w :=
  Lib.run_next_end_at w k (str s) j ty h (by rw [str_size]; exact hj)
theorem It.made (w : World) (s : List Nat) : It (w.iter (str s) 0) w.heap.size s 0 := World.iter_heap w (str s) 0
theorem It.mv {w : World} {k : Nat} {s : List Nat} {j : Nat} (h : It w k s j) (j' : Nat) : It (mv w k s j') k s j' := Lib.iterAt_heap w k (str s) j j' h
theorem It.lt {w : World} {k : Nat} {s : List Nat} {j : Nat} (h : It w k s j) : k < w.heap.size := heap_lt h
theorem It.below {w w' : World} {k B : Nat} {s : List Nat} {j : Nat} (h : It w k s j) (hb : Below B w w') (hk : k < B) : It w' k s j := (hb.block k hk).trans h
theorem It.keep {w w' : World} {k : Nat} {s : List Nat} {j : Nat} (h : It w k s j) (hk : Keep w w') : It w' k s j := hk.iter h
theorem It.pos {w : World} {k : Nat} {s : List Nat} {j : Nat} (h : It w k s j) : w.iterPos k = j := by
  unfold World.iterPos
  unfold It at h
  rw [h]
theorem It.grown {w w' : World} {k : Nat} {s : List Nat} {j : Nat} {r : Option Nat} (h : It w k s j) (hg : w.grownBy w' r) (hr : some k ≠ r) : It w' k s j := (hg.block k h.lt hr).trans h
/-- Nothing else changes. -/
theorem mv_grown (w : World) (k : Nat) (s : List Nat) (j : Nat) : w.grownBy (mv w k s j) (some k) :=
  ⟨rfl, rfl, rfl, by rw [Lib.iterAt_size]; exact Nat.le_refl _, fun i _ hne => Lib.iterAt_other w k i (str s) j (fun e => hne (by rw [e]))⟩
theorem It.ne {w : World} {k : Nat} {s : List Nat} {j g : Nat} {t : TypeId} {cs : Array Value} (h : It w k s j) (hL : Lies w g t cs) : g ≠ k := by
  intro e
  subst e
  unfold Lies at hL
  unfold It at h
  rw [h] at hL
  cases hL
theorem Lies.mv {w : World} {g : Nat} {t : TypeId} {cs : Array Value} (h : Lies w g t cs) {k : Nat} {s : List Nat} {j : Nat} (hk : It w k s j) (j' : Nat) : Lies (mv w k s j') g t cs :=
  h.grown (mv_grown w k s j') (fun e => hk.ne h (by injection e))
theorem Own.mv {w : World} {B : Nat} {v : Value} {l : List Nat} (h : Own w B v l) {k : Nat} {s : List Nat} {j : Nat} (hk : It w k s j) (j' : Nat) : Own (mv w k s j') B v l := by
  refine h.grownOther (mv_grown w k s j') (fun g hg e => ?_)
  injection e with e
  subst e
  rcases h.1.2 with ⟨rfl, _⟩ | ⟨g', cap, cur, rfl, _, hgg, _⟩
  · cases hg
  · have : g' = k := by simpa [Value.ownBlock] using hg
    subst this
    exact hk.ne (t := 5) hgg rfl
theorem Wr.mv {w : World} {p B : Nat} {l : List Nat} (h : Wr w p B l) {k : Nat} {s : List Nat} {j : Nat} (hk : It w k s j) (j' : Nat) : Wr (mv w k s j') p B l := by
  obtain ⟨h1, v, h2, h3⟩ := h
  exact ⟨h1, v, h2.mv hk j', h3.mv hk j'⟩
theorem below_mv {B : Nat} {a w : World} (h : Below B a w) {k : Nat} (hk : B ≤ k) (s : List Nat) (j : Nat) : Below B a (mv w k s j) := Lib.below_iterAt h hk (str s) j
theorem Bys.grownOther {w w' : World} {a : Option Addr} {n : Nat} {l : List Nat} {r : Option Nat} (h : Bys w a n l) (hg : w.grownBy w' r) (hne : ∀ ad, a = some ad → 0 < n → r ≠ some ad.block) : Bys w' a n l := by
  obtain ⟨h1, h2, h3⟩ := h
  refine ⟨h1, h2, fun h0 => ?_⟩
  obtain ⟨b, off, e, hc⟩ := h3 h0
  refine ⟨b, off, e, fun i hi => ?_⟩
  have hcell := hc i hi
  rw [← hcell]
  unfold World.cell?
  rw [hg.block b (by have := block_lt_of_cell hcell; simpa using this) (fun e2 => hne _ e h0 e2.symm)]
theorem Bys.mv {w : World} {a : Option Addr} {n : Nat} {l : List Nat} (h : Bys w a n l) {k : Nat} {s : List Nat} {j : Nat} (hk : It w k s j) (j' : Nat) : Bys (mv w k s j') a n l := by
  refine h.grownOther (mv_grown w k s j') (fun ad e h0 e2 => ?_)
  obtain ⟨b, off, e3, hc⟩ := h.2.2 h0
  rw [e] at e3
  injection e3 with e3
  subst e3
  injection e2 with e2
  have hcell := hc 0 h0
  unfold World.cell? at hcell
  have e2 : k = b := e2
  subst e2
  unfold It at hk
  rw [hk] at hcell
  cases hcell
theorem Rd.mv {T : TypeId} {w : World} {p : Nat} {s : Ent.St} {l : List Nat} (h : Rd T w p s l) {k : Nat} {c : List Nat} {j : Nat} (hk : It w k c j) (j' : Nat) : Rd T (mv w k c j') p s l := by
  obtain ⟨A, c', hL, hB, h3⟩ := h
  exact ⟨A, c', hL.mv hk j', hB.mv hk j', h3⟩
theorem Keep.mv {a w : World} {k : Nat} {s : List Nat} {j : Nat} (h : Keep a w) (hk : It w k s j) (hn : ∀ o, a.heap[k]? = some o → ¬ Aside o) (j' : Nat) : Keep a (mv w k s j') := fun g o h1 h3 => by
  have hh := h g o h1 h3
  refine ((mv_grown w k s j').block g (heap_lt hh) (fun e => ?_)).trans hh
  injection e with e
  subst e
  exact hn _ h3 h1

end Go.Proofs.YtpbclmnhkmcknaaGreat.Fe

namespace Go.Proofs.YtpbclmnhkmcknaaGreat.Fe
open Go.RowKit
set_option maxRecDepth 100000
set_option linter.unusedSimpArgs false

def BoolPost (b : Bool) (w : World) (x : Ending) (w' : World) : Prop := x = .returned (.bool b) ∧ Below w.heap.size w w'

set_option maxHeartbeats 400000 in
theorem isZero_69 (e : Note) (A1 A2 : Option Addr) (c1 c2 : Nat) (w : World) :
    Calls Tryz.prog 189 #[.agg (evs e (.slice A1 e.key.length c1) (.slice A2 e.data.length c2)), .int .i32 69] w (BoolPost (Ent.isZ 69 e) w) := by
  have b1 := fun o => below1 w o
  unfold BoolPost
  rw [show Ent.isZ 69 e = decide (e.epoch = 0) from rfl]
  generalize e.key.length = n1
  generalize e.data.length = n2
  go_enter Tryz.func189, Tryz.ntmps189
  go_wp2
  go_ret
  refine ⟨ret_bool ?_, b1 _⟩
  first | rfl | (rw [Bool.eq_iff_iff]; simp; done) | (rw [Bool.eq_iff_iff]; simp; omega)

set_option maxHeartbeats 400000 in
theorem isZero_80 (e : Note) (A1 A2 : Option Addr) (c1 c2 : Nat) (w : World) :
    Calls Tryz.prog 189 #[.agg (evs e (.slice A1 e.key.length c1) (.slice A2 e.data.length c2)), .int .i32 80] w (BoolPost (Ent.isZ 80 e) w) := by
  have b1 := fun o => below1 w o
  unfold BoolPost
  rw [show Ent.isZ 80 e = decide (e.old = 0) from rfl]
  generalize e.key.length = n1
  generalize e.data.length = n2
  go_enter Tryz.func189, Tryz.ntmps189
  go_wp2
  go_ret
  refine ⟨ret_bool ?_, b1 _⟩
  first | rfl | (rw [Bool.eq_iff_iff]; simp; done) | (rw [Bool.eq_iff_iff]; simp; omega)

set_option maxHeartbeats 400000 in
theorem isZero_76 (e : Note) (A1 A2 : Option Addr) (c1 c2 : Nat) (w : World) :
    Calls Tryz.prog 189 #[.agg (evs e (.slice A1 e.key.length c1) (.slice A2 e.data.length c2)), .int .i32 76] w (BoolPost (Ent.isZ 76 e) w) := by
  have b1 := fun o => below1 w o
  unfold BoolPost
  rw [show Ent.isZ 76 e = decide (e.lsn = 0) from rfl]
  generalize e.key.length = n1
  generalize e.data.length = n2
  go_enter Tryz.func189, Tryz.ntmps189
  go_wp2
  go_ret
  refine ⟨ret_bool ?_, b1 _⟩
  first | rfl | (rw [Bool.eq_iff_iff]; simp; done) | (rw [Bool.eq_iff_iff]; simp; omega)

set_option maxHeartbeats 400000 in
theorem isZero_84 (e : Note) (A1 A2 : Option Addr) (c1 c2 : Nat) (w : World) :
    Calls Tryz.prog 189 #[.agg (evs e (.slice A1 e.key.length c1) (.slice A2 e.data.length c2)), .int .i32 84] w (BoolPost (Ent.isZ 84 e) w) := by
  have b1 := fun o => below1 w o
  unfold BoolPost
  rw [show Ent.isZ 84 e = decide (e.tick = 0) from rfl]
  generalize e.key.length = n1
  generalize e.data.length = n2
  go_enter Tryz.func189, Tryz.ntmps189
  go_wp2
  go_ret
  refine ⟨ret_bool ?_, b1 _⟩
  first | rfl | (rw [Bool.eq_iff_iff]; simp; done) | (rw [Bool.eq_iff_iff]; simp; omega)

set_option maxHeartbeats 400000 in
theorem isZero_79 (e : Note) (A1 A2 : Option Addr) (c1 c2 : Nat) (w : World) :
    Calls Tryz.prog 189 #[.agg (evs e (.slice A1 e.key.length c1) (.slice A2 e.data.length c2)), .int .i32 79] w (BoolPost (Ent.isZ 79 e) w) := by
  have b1 := fun o => below1 w o
  unfold BoolPost
  rw [show Ent.isZ 79 e = decide (e.order = 0) from rfl]
  generalize e.key.length = n1
  generalize e.data.length = n2
  go_enter Tryz.func189, Tryz.ntmps189
  go_wp2
  go_ret
  refine ⟨ret_bool ?_, b1 _⟩
  first | rfl | (rw [Bool.eq_iff_iff]; simp; done) | (rw [Bool.eq_iff_iff]; simp; omega)

set_option maxHeartbeats 400000 in
theorem isZero_83 (e : Note) (A1 A2 : Option Addr) (c1 c2 : Nat) (w : World) :
    Calls Tryz.prog 189 #[.agg (evs e (.slice A1 e.key.length c1) (.slice A2 e.data.length c2)), .int .i32 83] w (BoolPost (Ent.isZ 83 e) w) := by
  have b1 := fun o => below1 w o
  unfold BoolPost
  rw [show Ent.isZ 83 e = decide (e.step = 0) from rfl]
  generalize e.key.length = n1
  generalize e.data.length = n2
  go_enter Tryz.func189, Tryz.ntmps189
  go_wp2
  go_ret
  refine ⟨ret_bool ?_, b1 _⟩
  first | rfl | (rw [Bool.eq_iff_iff]; simp; done) | (rw [Bool.eq_iff_iff]; simp; omega)

set_option maxHeartbeats 400000 in
theorem isZero_85 (e : Note) (A1 A2 : Option Addr) (c1 c2 : Nat) (w : World) :
    Calls Tryz.prog 189 #[.agg (evs e (.slice A1 e.key.length c1) (.slice A2 e.data.length c2)), .int .i32 85] w (BoolPost (Ent.isZ 85 e) w) := by
  have b1 := fun o => below1 w o
  unfold BoolPost
  rw [show Ent.isZ 85 e = !e.undo from rfl]
  generalize e.key.length = n1
  generalize e.data.length = n2
  go_enter Tryz.func189, Tryz.ntmps189
  go_wp2
  go_ret
  refine ⟨ret_bool ?_, b1 _⟩
  rfl

set_option maxHeartbeats 400000 in
theorem isZero_67 (e : Note) (A1 A2 : Option Addr) (c1 c2 : Nat) (w : World) :
    Calls Tryz.prog 189 #[.agg (evs e (.slice A1 e.key.length c1) (.slice A2 e.data.length c2)), .int .i32 67] w (BoolPost (Ent.isZ 67 e) w) := by
  have b1 := fun o => below1 w o
  unfold BoolPost
  rw [show Ent.isZ 67 e = decide (e.code = 0) from rfl]
  generalize e.key.length = n1
  generalize e.data.length = n2
  go_enter Tryz.func189, Tryz.ntmps189
  go_wp2
  go_ret
  refine ⟨ret_bool ?_, b1 _⟩
  first | rfl | (rw [Bool.eq_iff_iff]; simp; done) | (rw [Bool.eq_iff_iff]; simp; omega)

set_option maxHeartbeats 400000 in
theorem isZero_75 (e : Note) (A1 A2 : Option Addr) (c1 c2 : Nat) (w : World) :
    Calls Tryz.prog 189 #[.agg (evs e (.slice A1 e.key.length c1) (.slice A2 e.data.length c2)), .int .i32 75] w (BoolPost (Ent.isZ 75 e) w) := by
  have b1 := fun o => below1 w o
  unfold BoolPost
  rw [show Ent.isZ 75 e = decide (e.key.length = 0) from rfl]
  generalize e.key.length = n1
  generalize e.data.length = n2
  go_enter Tryz.func189, Tryz.ntmps189
  go_wp2
  go_ret
  refine ⟨ret_bool ?_, b1 _⟩
  first | rfl | (rw [Bool.eq_iff_iff]; simp; done) | (rw [Bool.eq_iff_iff]; simp; omega)

set_option maxHeartbeats 400000 in
theorem isZero_68 (e : Note) (A1 A2 : Option Addr) (c1 c2 : Nat) (w : World) :
    Calls Tryz.prog 189 #[.agg (evs e (.slice A1 e.key.length c1) (.slice A2 e.data.length c2)), .int .i32 68] w (BoolPost (Ent.isZ 68 e) w) := by
  have b1 := fun o => below1 w o
  unfold BoolPost
  rw [show Ent.isZ 68 e = decide (e.data.length = 0) from rfl]
  generalize e.key.length = n1
  generalize e.data.length = n2
  go_enter Tryz.func189, Tryz.ntmps189
  go_wp2
  go_ret
  refine ⟨ret_bool ?_, b1 _⟩
  first | rfl | (rw [Bool.eq_iff_iff]; simp; done) | (rw [Bool.eq_iff_iff]; simp; omega)

theorem isZero_any (e : Note) (A1 A2 : Option Addr) (c1 c2 : Nat) (c : Nat) (hc : c ∈ Ent.alpha) (w : World) :
    Calls Tryz.prog 189 #[.agg (evs e (.slice A1 e.key.length c1) (.slice A2 e.data.length c2)), .int .i32 (c : Nat)] w (BoolPost (Ent.isZ c e) w) := by
  rcases Ent.alpha_cases hc with rfl | rfl | rfl | rfl | rfl | rfl | rfl | rfl | rfl | rfl
  · exact isZero_69 e A1 A2 c1 c2 w
  · exact isZero_80 e A1 A2 c1 c2 w
  · exact isZero_76 e A1 A2 c1 c2 w
  · exact isZero_84 e A1 A2 c1 c2 w
  · exact isZero_79 e A1 A2 c1 c2 w
  · exact isZero_83 e A1 A2 c1 c2 w
  · exact isZero_85 e A1 A2 c1 c2 w
  · exact isZero_67 e A1 A2 c1 c2 w
  · exact isZero_75 e A1 A2 c1 c2 w
  · exact isZero_68 e A1 A2 c1 c2 w

set_option maxHeartbeats 400000 in
theorem inBounds_any (e : Note) (A1 A2 : Option Addr) (c1 c2 : Nat) (w : World) :
    Calls Tryz.prog 154 #[.agg (evs e (.slice A1 e.key.length c1) (.slice A2 e.data.length c2))] w (BoolPost (Ent.inB e) w) := by
  have b1 := fun o => below1 w o
  unfold BoolPost Ent.inB evs
  generalize e.key.length = n1
  generalize e.data.length = n2
  generalize e.step = st
  generalize e.code = cd
  by_cases h1 : 0 ≤ st
  · by_cases h2 : st < 16
    · by_cases h3 : 0 ≤ cd
      · by_cases h4 : cd ≤ 255
        · by_cases h5 : n1 ≤ 32
          · go_enter Tryz.func154, Tryz.ntmps154
            go_wp2
            go_ret
            exact ⟨ret_bool (by first | rfl | (rw [Bool.eq_iff_iff]; done) | (rw [Bool.eq_iff_iff]; simp; done) | (rw [Bool.eq_iff_iff]; simp; omega)), b1 _⟩
          · go_enter Tryz.func154, Tryz.ntmps154
            go_wp2
            go_ret
            exact ⟨ret_bool (by first | rfl | (rw [Bool.eq_iff_iff]; done) | (rw [Bool.eq_iff_iff]; simp; done) | (rw [Bool.eq_iff_iff]; simp; omega)), b1 _⟩
        · go_enter Tryz.func154, Tryz.ntmps154
          go_wp2
          go_ret
          exact ⟨ret_bool (by first | rfl | (rw [Bool.eq_iff_iff]; done) | (rw [Bool.eq_iff_iff]; simp; done) | (rw [Bool.eq_iff_iff]; simp; omega)), b1 _⟩
      · go_enter Tryz.func154, Tryz.ntmps154
        go_wp2
        go_ret
        exact ⟨ret_bool (by first | rfl | (rw [Bool.eq_iff_iff]; done) | (rw [Bool.eq_iff_iff]; simp; done) | (rw [Bool.eq_iff_iff]; simp; omega)), b1 _⟩
    · go_enter Tryz.func154, Tryz.ntmps154
      go_wp2
      go_ret
      exact ⟨ret_bool (by first | rfl | (rw [Bool.eq_iff_iff]; done) | (rw [Bool.eq_iff_iff]; simp; done) | (rw [Bool.eq_iff_iff]; simp; omega)), b1 _⟩
  · go_enter Tryz.func154, Tryz.ntmps154
    go_wp2
    go_ret
    exact ⟨ret_bool (by first | rfl | (rw [Bool.eq_iff_iff]; done) | (rw [Bool.eq_iff_iff]; simp; done) | (rw [Bool.eq_iff_iff]; simp; omega)), b1 _⟩

set_option maxHeartbeats 400000 in
theorem lacksKey_any (e : Note) (A1 A2 : Option Addr) (c1 c2 : Nat) (w : World) :
    Calls Tryz.prog 155 #[.agg (evs e (.slice A1 e.key.length c1) (.slice A2 e.data.length c2))] w (BoolPost (Ent.lackK e) w) := by
  have b1 := fun o => below1 w o
  unfold BoolPost Ent.lackK evs
  generalize e.key.length = n1
  generalize e.data.length = n2
  generalize e.kind = k
  by_cases h1 : k = 10
  · subst h1
    go_enter Tryz.func155, Tryz.ntmps155
    go_wp2
    go_ret
    exact ⟨ret_bool (by first | rfl | (rw [Bool.eq_iff_iff]; done) | (rw [Bool.eq_iff_iff]; simp; done) | (rw [Bool.eq_iff_iff]; simp; omega)), b1 _⟩
  · by_cases h2 : k = 11
    · subst h2
      go_enter Tryz.func155, Tryz.ntmps155
      go_wp2
      go_ret
      exact ⟨ret_bool (by first | rfl | (rw [Bool.eq_iff_iff]; done) | (rw [Bool.eq_iff_iff]; simp; done) | (rw [Bool.eq_iff_iff]; simp; omega)), b1 _⟩
    · by_cases h3 : k = 12
      · subst h3
        go_enter Tryz.func155, Tryz.ntmps155
        go_wp2
        go_ret
        exact ⟨ret_bool (by first | rfl | (rw [Bool.eq_iff_iff]; done) | (rw [Bool.eq_iff_iff]; simp; done) | (rw [Bool.eq_iff_iff]; simp; omega)), b1 _⟩
      · have g1 : (k == 10) = false := by rw [beq_eq_false_iff_ne]; omega
        have g2 : (k == 11) = false := by rw [beq_eq_false_iff_ne]; omega
        have g3 : (k == 12) = false := by rw [beq_eq_false_iff_ne]; omega
        go_enter Tryz.func155, Tryz.ntmps155
        go_wp2
        go_ret
        exact ⟨ret_bool (by first | rfl | (rw [Bool.eq_iff_iff]; done) | (rw [Bool.eq_iff_iff]; simp; done) | (rw [Bool.eq_iff_iff]; simp; omega)), b1 _⟩

end Go.Proofs.YtpbclmnhkmcknaaGreat.Fe

namespace Go.Proofs.YtpbclmnhkmcknaaGreat.Fe
open Go.RowKit
set_option maxRecDepth 100000

def OhR (w : World) (s : List Nat) (e : Note) (K D : Value) (_ : Value) (wr : World) : Prop :=
  ∃ j : Nat, j ≤ 10 ∧ It wr (w.heap.size + 1) Ent.alpha j ∧ Lies wr w.heap.size 55 (evs e K D) ∧ Below w.heap.size w wr ∧ ∀ i, i < j → Ent.fine s e (Ent.alpha.getD i 0) = true
theorem only_of (s : List Nat) (e : Note) (h : ∀ i, i < 10 → Ent.fine s e (Ent.alpha.getD i 0) = true) : Ent.only s e = true := by
  unfold Ent.only
  rw [List.all_eq_true]
  intro c hc
  obtain ⟨i, hi, rfl⟩ := List.mem_iff_getElem.1 hc
  have := h i hi
  simpa [List.getD, hi] using this
theorem only_not (s : List Nat) (e : Note) (j : Nat) (hj : j < 10) (h : Ent.fine s e (Ent.alpha.getD j 0) = false) : Ent.only s e = false := by
  unfold Ent.only
  rw [List.all_eq_false]
  have hj' : j < Ent.alpha.length := hj
  refine ⟨Ent.alpha[j], List.getElem_mem hj', ?_⟩
  rw [show Ent.alpha.getD j 0 = Ent.alpha[j] from by simp [List.getD, hj']] at h
  rw [h]; decide
theorem alpha_at (j : Nat) (hj : j < 10) : Ent.alpha.getD j 0 ∈ Ent.alpha := by
  have hj' : j < Ent.alpha.length := hj
  rw [show Ent.alpha.getD j 0 = Ent.alpha[j] from by simp [List.getD, hj']]
  exact List.getElem_mem hj'

set_option maxRecDepth 100000 in
set_option maxHeartbeats 1000000 in
theorem onlyHas_any (s : List Nat) (hs : ∀ x ∈ s, x < 128) (e : Note) (A1 A2 : Option Addr) (c1 c2 : Nat) (w : World) :
    Calls Tryz.prog 153 #[.agg (evs e (.slice A1 e.key.length c1) (.slice A2 e.data.length c2)), .string (str s)] w (BoolPost (Ent.only s e) w) := by
  have C1 := Lib.hid (fun c (hc : c < 128) W => contains_any s c (fun x hx => by have := hs x hx; omega) hc W)
  have C2 := Lib.hid (fun c (hc : c ∈ Ent.alpha) W => isZero_any e A1 A2 c1 c2 c hc W)
  unfold BoolPost at *
  generalize Value.slice A1 e.key.length c1 = K at *
  generalize Value.slice A2 e.data.length c2 = D at *
  go_enter Tryz.func153, Tryz.ntmps153
  go_wp2_with fail
  go_loopw [6] (OhR w s e K D) (fun _ wr => 10 - wr.iterPos (w.heap.size + 1))
  case atStart => exact ⟨0, by omega, by have := It.made (w.alloc (.cells (evs e K D) 55)) Ent.alpha; rw [size_one] at this; exact this, (Lies.made w 55 _).alloc _, (below1 w _).alloc (by simp) _, fun i hi => by omega⟩
  case round =>
    obtain ⟨j, hj, hit, hL, hbel, hf⟩ := hrel
    have hpos := hit.pos
    have HF := Lib.hid hf
    have HBE := Lib.hid hbel
    have HL := Lib.hid hL
    have HIT := Lib.hid hit
    clear hf hbel hL hit
    by_cases hp : j < 10
    · have hnx := next_str HIT.out hp Ent.alpha_small
      have hca := alpha_at j hp
      have hc := Ent.alpha_small _ hca
      have hL2 := HL.out.mv HIT.out (j + 1)
      have HL2 := Lib.hid hL2
      have HIT2 := Lib.hid (HIT.out.mv (j + 1))
      have HBE2 := Lib.hid (below_mv HBE.out (k := w.heap.size + 1) (by omega) Ent.alpha (j + 1))
      obtain ⟨W, hW⟩ : ∃ W, mv wr (w.heap.size + 1) Ent.alpha (j + 1) = W := ⟨_, rfl⟩
      rw [hW] at hL2 HL2 HIT2 HBE2
      simp only [hW] at hnx
      obtain ⟨e0, e1, e2, e3, e4, e5, e6, e7, e8, e9, e10⟩ := hL2.cellsE
      obtain ⟨c, hcc⟩ : ∃ c, Ent.alpha.getD j 0 = c := ⟨_, rfl⟩
      rw [hcc] at hca hc
      simp only [hcc] at hnx
      have HCC := Lib.hid hcc
      clear hcc hL2 hW HL HIT HBE
      have hfc : Ent.fine s e c = (s.contains c || Ent.isZ c e) := rfl
      have HFC := Lib.hid hfc
      have D1 := Lib.hid (C1.out c hc)
      have D2 := Lib.hid (C2.out c hca)
      clear hfc C1 C2
      generalize s.contains c = r1 at *
      generalize Ent.isZ c e = r2 at *
      go_wp2_with fail
      with_reducible refine (D1.out _).mono ?_
      rintro x w1 ⟨rfl, rfl⟩
      cases r1
      · go_wp2_with fail
        with_reducible refine (D2.out _).mono ?_
        rintro x w2 ⟨rfl, hb2⟩
        cases r2
        · go_wp2
          go_ret
          rw [only_not s e j hp (by rw [HCC.out, HFC.out]; rfl)]
          exact ⟨rfl, HBE2.out.trans (hb2.mono HBE2.out.size)⟩
        · go_wp2
          go_roundw
          case rel =>
            refine ⟨j + 1, by omega, HIT2.out.below hb2 HIT2.out.lt, HL2.out.below hb2 HL2.out.lt, HBE2.out.trans (hb2.mono HBE2.out.size), fun i hi => ?_⟩
            by_cases h : i < j
            · exact HF.out i h
            · have : i = j := by omega
              subst this
              rw [HCC.out, HFC.out]; rfl
          case measure =>
            rw [(HIT2.out.below hb2 HIT2.out.lt).pos, hpos]; omega
      · go_wp2
        go_roundw
        case rel =>
          refine ⟨j + 1, by omega, HIT2.out, HL2.out, HBE2.out, fun i hi => ?_⟩
          by_cases h : i < j
          · exact HF.out i h
          · have : i = j := by omega
            subst this
            rw [HCC.out, HFC.out]; rfl
        case measure =>
          rw [HIT2.out.pos, hpos]; omega
    · have hnx := next_fin HIT.out hp
      have hj10 : j = 10 := by omega
      have HJ := Lib.hid hj10
      clear hj10
      go_wp2
      go_ret
      rw [only_of s e (fun i hi => HF.out i (by rw [HJ.out]; exact hi))]
      exact ⟨rfl, HBE.out⟩

/-- The error's number. -/
def chkN (e : Note) : Nat := if Ent.ok e = true then 0 else 50
def ChkPost (e : Note) (w : World) (x : Ending) (w' : World) : Prop := x = .returned (.int .i64 (chkN e : Nat)) ∧ Below w.heap.size w w'
theorem chkN_of {e : Note} {b : Bool} (h : Ent.ok e = b) : chkN e = if b = true then 0 else 50 := by unfold chkN; rw [h]
theorem str_nil (s : List Nat) : ((str s).toList == ([] : List UInt8)) = decide (s = []) := by
  rw [str_toList]
  cases s <;> rfl

set_option maxRecDepth 100000 in
set_option maxHeartbeats 1000000 in
theorem check_any (e : Note) (A1 A2 : Option Addr) (c1 c2 : Nat) (w : World) :
    Calls Tryz.prog 128 #[.agg (evs e (.slice A1 e.key.length c1) (.slice A2 e.data.length c2))] w (ChkPost e w) := by
  have hf : Ent.ok e = (!decide (Ent.lets e.kind = []) && (Ent.only (Ent.lets e.kind) e && (Ent.inB e && !Ent.lackK e))) := rfl
  have C0 := fun W => Lib.hid (names_any e.kind W)
  have C1 := fun W => Lib.hid (onlyHas_any (Ent.lets e.kind) (fun x hx => Ent.alpha_small x (Ent.lets_sub _ x hx)) e A1 A2 c1 c2 W)
  have C2 := fun W => Lib.hid (inBounds_any e A1 A2 c1 c2 W)
  have C3 := fun W => Lib.hid (lacksKey_any e A1 A2 c1 c2 W)
  have hnil := str_nil (Ent.lets e.kind)
  generalize hK : Value.slice A1 e.key.length c1 = K at *
  generalize hD : Value.slice A2 e.data.length c2 = D at *
  clear hK hD
  unfold BoolPost at C1 C2 C3
  unfold NamesPost at C0
  unfold ChkPost
  generalize decide (Ent.lets e.kind = []) = r0 at *
  generalize Ent.only (Ent.lets e.kind) e = r1 at *
  generalize Ent.inB e = r2 at *
  generalize Ent.lackK e = r3 at *
  generalize str (Ent.lets e.kind) = S at *
  have HF := Lib.hid hf
  clear hf
  go_enter Tryz.func128, Tryz.ntmps128
  go_wp2_with fail
  with_reducible refine (C0 _).out.mono ?_
  rintro x w0 ⟨rfl, rfl⟩
  have b0 := below1 w (.cells (evs e K D) 55)
  have L0 := Lib.hid (Lies.made w 55 (evs e K D))
  cases r0
  · go_wp2_with fail
    with_reducible refine (C1 _).out.mono ?_
    rintro x w1 ⟨rfl, hb1⟩
    have b1 : Below w.heap.size w w1 := b0.trans (hb1.mono b0.size)
    have L1 := Lib.hid (L0.out.below hb1 L0.out.lt)
    obtain ⟨e0, e1, e2, e3, e4, e5, e6, e7, e8, e9, e10⟩ := L1.out.cellsE
    cases r1
    · go_wp2
      go_ret
      rw [chkN_of (b := false) (by rw [HF.out]; rfl)]
      exact ⟨rfl, b1⟩
    · go_wp2_with fail
      with_reducible refine (C2 _).out.mono ?_
      rintro x w2 ⟨rfl, hb2⟩
      have b2 : Below w.heap.size w w2 := b1.trans (hb2.mono b1.size)
      have L2 := Lib.hid (L1.out.below hb2 L1.out.lt)
      clear e0 e1 e2 e3 e4 e5 e6 e7 e8 e9 e10
      obtain ⟨e0, e1, e2, e3, e4, e5, e6, e7, e8, e9, e10⟩ := L2.out.cellsE
      cases r2
      · go_wp2
        go_ret
        rw [chkN_of (b := false) (by rw [HF.out]; rfl)]
        exact ⟨rfl, b2⟩
      · go_wp2_with fail
        with_reducible refine (C3 _).out.mono ?_
        rintro x w3 ⟨rfl, hb3⟩
        have b3 : Below w.heap.size w w3 := b2.trans (hb3.mono b2.size)
        clear e0 e1 e2 e3 e4 e5 e6 e7 e8 e9 e10
        cases r3
        · go_wp2
          go_ret
          rw [chkN_of (b := true) (by rw [HF.out]; rfl)]
          exact ⟨rfl, b3⟩
        · go_wp2
          go_ret
          rw [chkN_of (b := false) (by rw [HF.out]; rfl)]
          exact ⟨rfl, b3⟩
  · go_wp2
    go_ret
    rw [chkN_of (b := false) (by rw [HF.out]; rfl)]
    exact ⟨rfl, b0⟩

end Go.Proofs.YtpbclmnhkmcknaaGreat.Fe
