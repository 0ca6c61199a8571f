/-
  The contracts of the two sorts.
-/
import Derived.Test.YtlgdjmmhdfpfeaaRowE
import Derived.Test.YtlgdjmmhdfpfeaaMet
namespace Go.Proofs.Ytlgdjmmhdfpfeaa
open Go.Proofs Go.Shelf Go.RowKit Go.Lib Go.Sort
set_option maxRecDepth 100000
set_option linter.unusedVariables false
set_option linter.unusedSimpArgs false

theorem encG_len (x : Kd) : (encG x).length = 3 := rfl
theorem encH_len (x : Hd) : (encH x).length = 4 := rfl
theorem encG_one (x : Kd) : ∀ v ∈ encG x, v.oneCell' = true := by
  intro v hv
  simp [encG] at hv
  rcases hv with rfl | rfl | rfl <;> rfl
theorem encH_one (x : Hd) : ∀ v ∈ encH x, v.oneCell' = true := by
  intro v hv
  simp [encH] at hv
  rcases hv with rfl | rfl | rfl | rfl <;> rfl
abbrev OwnG (w : World) (B : Nat) (v : Value) (l : List Kd) : Prop := OwnE encG 46 3 w B v l
abbrev OwnR (w : World) (B : Nat) (v : Value) (l : List Hd) : Prop := OwnE encH 48 4 w B v l

def SortPost {α : Type} (lt : α → α → Bool) (own : World → Value → List α → Prop) (w : World) (v : Value) (l : List α) (e : Ending) (w' : World) : Prop :=
  e = .returned (.tuple #[]) ∧ ∃ l', l'.Perm l ∧ l'.Pairwise (fun x y => lt y x = false) ∧ own w' v l' ∧ w.grownBy w' v.ownBlock

theorem sortG_any (B : Nat) (v : Value) (l : List Kd) (w : World) (h : OwnG w B v l) (hl : l.length ≤ 1000000) :
    Calls Try.prog 32 #[v, .func (.func 33) #[] #[]] w (SortPost (ltOf cfG) (fun w' v l' => OwnG w' B v l') w v l) := by
  rcases h.form with ⟨rfl, rfl⟩ | ⟨g, cap, cur, rfl, h1, h2, h3, h4, h5, h6⟩
  · have hcon := AnyF.slices_SortFunc_none { sortGoodL with } none 0 (.func (.func 33) #[] #[]) w
    change Calls Try.prog 32 _ _ _ at hcon
    refine hcon.mono ?_
    rintro e w' ⟨rfl, rfl⟩
    exact ⟨rfl, [], List.Perm.refl _, List.Pairwise.nil, h, World.grownBy.refl _ _⟩
  · have eg : ∀ args w, (callFunc 33 args).run Try.prog w = .ok (.enter 33 args) w := enters_of Try.func33 (by kernel_rfl) rfl
    have hcon := AnyQ.slices_SortFunc sortGoodL 3 Try.isAgg46 Try.sizeOf46 encG encG_len encG_one cfG swoG 33 #[] g 0 cap l.toArray w eg (fun _ _ _ _ x y => close33 x y _) (holdsK_of encG_len (by decide) h2 h6) h2.lt (by simp; omega)
    change Calls Try.prog 32 _ _ _ at hcon
    rw [show l.toArray.size = l.length from by simp] at hcon
    refine hcon.mono ?_
    rintro e w' ⟨rfl, d', n, os, hp, hs, rfl⟩
    obtain ⟨p1, p2⟩ := perm_sorted (l := l) (by simpa using hp) (by simpa using hs)
    obtain ⟨cur', c1, c2, c3⟩ := sorted_form (enc := encG) (k := 3) (n := n) (os := os) d'.toList encG_len (by decide) h2 (by rw [p1.length_eq]; omega)
    rw [Array.toArray_toList] at c1
    refine ⟨rfl, d'.toList, p1, p2, ⟨by rw [flat_len encG_len], .inr ⟨g, cap, cur', by rw [p1.length_eq], h1, c1, by rw [p1.length_eq]; exact h3, h4, by rw [c2]; exact h5, c3⟩⟩, grownBy_sortK d'⟩

theorem sortH_any (B : Nat) (v : Value) (l : List Hd) (w : World) (h : OwnR w B v l) (hl : l.length ≤ 1000000) :
    Calls Try.prog 35 #[v, .func (.func 36) #[] #[]] w (SortPost (ltOf cfH) (fun w' v l' => OwnR w' B v l') w v l) := by
  rcases h.form with ⟨rfl, rfl⟩ | ⟨g, cap, cur, rfl, h1, h2, h3, h4, h5, h6⟩
  · have hcon := AnyF.slices_SortFunc_none { sortHoldL with } none 0 (.func (.func 36) #[] #[]) w
    change Calls Try.prog 35 _ _ _ at hcon
    refine hcon.mono ?_
    rintro e w' ⟨rfl, rfl⟩
    exact ⟨rfl, [], List.Perm.refl _, List.Pairwise.nil, h, World.grownBy.refl _ _⟩
  · have eg : ∀ args w, (callFunc 36 args).run Try.prog w = .ok (.enter 36 args) w := enters_of Try.func36 (by kernel_rfl) rfl
    have hcon := AnyQ.slices_SortFunc sortHoldL 4 Try.isAgg48 Try.sizeOf48 encH encH_len encH_one cfH swoH 36 #[] g 0 cap l.toArray w eg (fun _ _ _ _ x y => close36 x y _) (holdsK_of encH_len (by decide) h2 h6) h2.lt (by simp; omega)
    change Calls Try.prog 35 _ _ _ at hcon
    rw [show l.toArray.size = l.length from by simp] at hcon
    refine hcon.mono ?_
    rintro e w' ⟨rfl, d', n, os, hp, hs, rfl⟩
    obtain ⟨p1, p2⟩ := perm_sorted (l := l) (by simpa using hp) (by simpa using hs)
    obtain ⟨cur', c1, c2, c3⟩ := sorted_form (enc := encH) (k := 4) (n := n) (os := os) d'.toList encH_len (by decide) h2 (by rw [p1.length_eq]; omega)
    rw [Array.toArray_toList] at c1
    refine ⟨rfl, d'.toList, p1, p2, ⟨by rw [flat_len encH_len], .inr ⟨g, cap, cur', by rw [p1.length_eq], h1, c1, by rw [p1.length_eq]; exact h3, h4, by rw [c2]; exact h5, c3⟩⟩, grownBy_sortK d'⟩

theorem goods_eq {K L : List Kd} {l' : List Kd} (hs : KSort K) (hp : L.Perm K) (h1 : l'.Perm L) (h2 : l'.Pairwise (fun x y => ltOf cfG y x = false)) : l' = K := by
  have hp2 : l'.Perm K := h1.trans hp
  refine List.Perm.eq_of_pairwise (le := fun x y => ltOf cfG y x = false) (fun a b ha hb q1 q2 => ?_) h2 ?_ hp2
  · rw [ltG] at q1 q2
    simp only [decide_eq_false_iff_not] at q1 q2
    refine hs.uniq (hp2.mem_iff.1 ha) hb ?_
    refine Classical.byContradiction fun hne => q1 ?_
    exact nm_tri q2 hne
  · refine hs.imp fun hlt => ?_
    rw [ltG]
    exact decide_eq_false (nm_asymm hlt)
theorem holds_eq {H L : List Hd} {l' : List Hd} (hs : HSort H) (hp : L.Perm H) (h1 : l'.Perm L) (h2 : l'.Pairwise (fun x y => ltOf cfH y x = false)) : l' = H := by
  have hp2 : l'.Perm H := h1.trans hp
  refine List.Perm.eq_of_pairwise (le := fun x y => ltOf cfH y x = false) (fun a b ha hb q1 q2 => ?_) h2 ?_ hp2
  · rw [ltH] at q1 q2
    simp only [decide_eq_false_iff_not] at q1 q2
    exact hs.uniq (hp2.mem_iff.1 ha) hb (by omega)
  · refine hs.imp fun hlt => ?_
    rw [ltH]
    exact decide_eq_false (by omega)
end Go.Proofs.Ytlgdjmmhdfpfeaa
