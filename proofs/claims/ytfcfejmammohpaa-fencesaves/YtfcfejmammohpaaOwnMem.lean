/-
  Rows of bytes, each in a block of its own, that are written over and appended to.
-/
import Derived.Test.YtfcfejmammohpaaLend
import Derived.ArgAppend
namespace Go.Proofs.Ytfcfejmammohpaa
open Go.RowKit
set_option maxRecDepth 100000

theorem Own.grownOther {w w' : World} {B : Nat} {u : Value} {l : List Nat} {r : Option Nat} (h : Own w B u l) (hg : w.grownBy w' r) (hne : ∀ g, u.ownBlock = some g → r ≠ some g) : Own w' B u l := by
  obtain ⟨⟨h0, h1⟩, h2⟩ := h
  refine ⟨⟨h0, ?_⟩, h2⟩
  rcases h1 with h1 | ⟨g, cap, cur, hv, hg0, hh, hrr⟩
  · exact .inl h1
  · exact .inr ⟨g, cap, cur, hv, hg0, Lies.grown (t := 5) hh hg (fun e => hne g (by rw [hv]; rfl) e.symm), hrr⟩



theorem take_set_succ (x : List Nat) (k y : Nat) (h : k < x.length) : (x.set k y).take (k + 1) = x.take k ++ [y] := by
  rw [take_one _ _ (by rw [List.length_set]; exact h), List.take_set_of_le (Nat.le_refl _)]
  congr 1
  simp [List.getD, h]

/-- A byte of a row of the call's own is written over. -/
theorem Own.write {w : World} {B : Nat} {u : Value} {l : List Nat} (h : Own w B u l) (k : Nat) (hk : k < l.length) :
    ∃ g c, u = .slice (some ⟨g, 0, none⟩) l.length c ∧ (∃ z, w.cell? ⟨g, k, none⟩ = some z) ∧ w.frozen? ⟨g, k, none⟩ = false ∧ ∀ y : Nat, y < 256 → Own (w.setCell ⟨g, k, none⟩ (.int .u8 (y : Nat))) B u (l.set k y) := by
  rcases h.form with ⟨_, h0⟩ | ⟨g, cap, cur, rfl, hb, hL, hn, hm, hs, hc⟩
  · subst h0; simp at hk
  · refine ⟨g, cap, rfl, ⟨_, (hL.cell k).trans (hc k hk)⟩, hL.free k, fun y hy => ⟨⟨by simp [vals], .inr ⟨g, cap, cur.setIfInBounds k (.int .u8 (y : Nat)), by rw [List.length_set], hb, hL.put k _, by rw [List.length_set]; exact hn, hm, by rw [Array.size_setIfInBounds]; simpa using hs, ?_⟩⟩, ?_⟩⟩
    · apply List.ext_getElem?
      intro i
      rw [List.getElem?_take, List.length_set, Nat.mul_one, Array.getElem?_toList]
      by_cases hi : i < l.length
      · rw [if_pos hi, Array.getElem?_setIfInBounds]
        by_cases hki : k = i
        · subst hki
          rw [if_pos rfl, if_pos (by rw [hs]; omega)]
          simp [vals, hi]
        · rw [if_neg hki, hc i hi]
          simp [vals, hi, List.getD, List.getElem_set_ne hki]
      · rw [if_neg hi, List.getElem?_eq_none (by simp [vals]; omega)]
    · intro c hcm
      rcases List.mem_or_eq_of_mem_set hcm with h1 | h1
      · exact h.2 c h1
      · rw [h1]; exact hy

/-- Behind an append of one byte: the new row, and what was there. -/
structure App (w : World) (B : Nat) (v : Value) (l : List Nat) (y : Nat) (v' : Value) (w' : World) : Prop where
  own : Own w' B v' (l ++ [y])
  grown : w.grownBy w' v.ownBlock
  block : ∀ g, v'.ownBlock = some g → v.ownBlock = some g ∨ w.heap.size ≤ g
  keep : ∀ g j, v.ownBlock = some g → j < l.length → w'.cell? ⟨g, j, none⟩ = w.cell? ⟨g, j, none⟩

theorem wpl_append1 {ops : Array Oper} {rest : List Oper} {a : Act} {w : World} {Q : Exit → Act → World → Prop} (dst : Option Tmp) (ty : TypeId) (pos : String) (aft : Array Edge) (s x : Operand)
    (B : Nat) (v : Value) (l : List Nat) (g0 y : Nat)
    (hs : a.eval s = v) (hx : a.eval x = .slice (some ⟨g0, 0, none⟩) 1 1) (hown : Own w B v l) (hsrc : w.cell? ⟨g0, 0, none⟩ = some (.int .u8 (y : Nat))) (hy : y < 256) (hsm : l.length ≤ 1000000) (hB : B ≤ w.heap.size)
    (h : ∀ v' w', App w B v l y v' w' → wpList Try.prog ops Q rest (a.put dst v') w') :
    wpList Try.prog ops Q (⟨dst, .call { callee := .builtin .append, args := #[s, x], argTypes := #[27, 27] }, ty, pos, aft, none⟩ :: rest) a w := by
  have hnews : ∀ j u, [Value.int .u8 (y : Nat)][j]? = some u → w.cell? ((⟨g0, 0, none⟩ : Addr).add j) = some u := by
    intro j u hu
    rcases j with _ | j
    · simp at hu; subst hu; rw [add_off]; exact hsrc
    · simp at hu
  have hone : ∀ u ∈ [Value.int .u8 (y : Nat)], u.oneCell' = true := by intro u hu; simp at hu; subst hu; rfl
  have hbs : ∀ c ∈ l ++ [y], c < 256 := by
    intro c hc
    rcases List.mem_append.1 hc with h1 | h1
    · exact hown.2 c h1
    · simp at h1; subst h1; exact hy
  have hvl : vals (l ++ [y]) = vals l ++ [.int .u8 (y : Nat)] := by simp [vals]
  have grows : ∀ v' w', w'.ownsRow w.heap.size 5 1 v' (l.length + 1) (vals l ++ [.int .u8 (y : Nat)]) → w.grownBy w' none → App w B v l y v' w' := by
    intro v' w' ho hg
    have hO : Own w' w.heap.size v' (l ++ [y]) := ⟨by rw [List.length_append, hvl]; exact ho, hbs⟩
    refine ⟨hO.mono hB, ⟨hg.os, hg.tape, hg.output, hg.size, fun i hi _ => hg.block i hi (by simp)⟩, fun g hgg => .inr (hO.block g hgg), fun g j hgg hj => ?_⟩
    exact World.cell?_of_block (hg.block g (hown.lt g hgg) (by simp))
  rcases hown.form with ⟨rfl, rfl⟩ | ⟨g, cap, cur, rfl, hb, hL, hn, hm, hss, hc⟩
  · exact wpList_append_grows w (o := ⟨dst, .call { callee := .builtin .append, args := #[s, x], argTypes := #[27, 27] }, ty, pos, aft, none⟩) rfl s x 27 rfl 5 _ (.int .u8 0) 1 1 Try.underlying27 Try.type5 rfl rfl rfl rfl (by decide)
      none 0 0 [] hs (fun _ => ⟨rfl, rfl⟩) rfl (fun b hb => by cases hb) ⟨g0, 0, none⟩ 1 1 _ hx rfl hnews hone (by omega) (by unfold maxLen; omega) (by omega) (fun v' w' ho hg => h v' w' (grows v' w' ho hg))
  · refine wpList_append_arg w (o := ⟨dst, .call { callee := .builtin .append, args := #[s, x], argTypes := #[27, 27] }, ty, pos, aft, none⟩) rfl s x 27 rfl 5 _ (.int .u8 0) 1 1 Try.underlying27 Try.type5 rfl rfl rfl rfl (by decide)
      g 0 l.length cap (vals l) hs (by simp [vals]) ?_ ⟨g0, 0, none⟩ 1 1 [.int .u8 (y : Nat)] hx rfl hnews hone ?_ (by unfold maxLen; omega) (by omega) ?_ (fun _ v' w' ho hg => h v' w' (grows v' w' ho hg))
    · intro j u hu
      have hj : j < l.length := by simpa [vals] using (List.getElem?_eq_some_iff.1 hu).1
      rw [Nat.zero_add, hL.cell, hc j hj, ← hu]
      simp [vals, List.getD, hj]
    · intro hroom j hj
      have : j = 0 := by simpa using hj
      subst this
      rw [Nat.zero_add, Nat.mul_one, Nat.add_zero]
      exact ⟨by rw [hL.cell, Array.getElem?_eq_getElem (by omega)]; rfl, hL.free _⟩
    · intro hroom
      refine h _ _ ⟨?_, ?_, fun g' hg' => .inl hg', fun g' j hg' hj => ?_⟩
      · refine ⟨⟨by simp [vals], .inr ⟨g, cap, cur.setIfInBounds l.length (.int .u8 (y : Nat)), by rw [List.length_append]; rfl, hb, ?_, by rw [List.length_append]; exact hroom, hm, by rw [Array.size_setIfInBounds]; simpa using hss, ?_⟩⟩, hbs⟩
        · have := hL.put l.length (.int .u8 (y : Nat))
          rw [Nat.zero_add, Nat.mul_one]
          exact this
        · apply List.ext_getElem?
          intro i
          rw [List.getElem?_take, Nat.mul_one, Array.getElem?_toList, Array.getElem?_setIfInBounds]
          by_cases hi : i < (l ++ [y]).length
          · rw [if_pos hi]
            rw [List.length_append, List.length_singleton] at hi
            by_cases hil : l.length = i
            · subst hil
              rw [if_pos rfl, if_pos (by omega)]
              simp [vals]
            · have hil2 : i < l.length := by omega
              rw [if_neg hil, hc i hil2, hvl, List.getElem?_append_left (by simpa [vals] using hil2)]
              simp [vals, List.getD, hil2]
          · rw [if_neg hi, List.getElem?_eq_none (by simpa [vals] using hi)]
      · rw [Nat.zero_add, Nat.mul_one]
        exact grown_set (World.grownBy.refl w _) _ _
      · have hgg : g' = g := by simpa [Value.ownBlock] using hg'.symm
        subst hgg
        rw [Nat.zero_add, Nat.mul_one]
        show (w.setCell ⟨g', l.length, none⟩ (.int .u8 (y : Nat))).cell? ⟨g', j, none⟩ = _
        rw [(hL.put l.length _).cell, hL.cell, Array.getElem?_setIfInBounds, if_neg (by omega)]


end Go.Proofs.Ytfcfejmammohpaa
