/-
  The contract of the sort.
-/
import Derived.Test.YtnajombhlmbopaaRowE
import Derived.Test.YtnajombhlmbopaaStk
namespace Go.Proofs.Ytnajombhlmbopaa
open Go.Proofs Go.Shelf Go.RowKit Go.Lib Go.Sort
set_option maxRecDepth 100000
set_option linter.unusedVariables false
set_option linter.unusedSimpArgs false

def encI (z : Int) : List Value := [.int .i64 z]
theorem encI_len (x : Int) : (encI x).length = 1 := rfl
theorem encI_one (x : Int) : ∀ v ∈ encI x, v.oneCell' = true := by
  intro v hv
  simp [encI] at hv
  subst hv
  rfl
theorem encH_len (x : Hd) : (encH x).length = 3 := rfl
theorem encH_one (x : Hd) : ∀ v ∈ encH x, v.oneCell' = true := by
  intro v hv
  simp [encH] at hv
  rcases hv with rfl | rfl | rfl <;> rfl
abbrev OwnI (w : World) (B : Nat) (v : Value) (l : List Int) : Prop := OwnE encI 3 1 w B v l
abbrev OwnR (w : World) (B : Nat) (v : Value) (l : List Hd) : Prop := OwnE encH 44 3 w B v l

def SortPost {α : Type} (lt : α → α → Bool) (own : World → Value → List α → Prop) (w : World) (v : Value) (l : List α) (e : Ending) (w' : World) : Prop :=
  e = .returned (.tuple #[]) ∧ ∃ l', l'.Perm l ∧ l'.Pairwise (fun x y => lt y x = false) ∧ own w' v l' ∧ w.grownBy w' v.ownBlock

theorem sortH_any (B : Nat) (v : Value) (l : List Hd) (w : World) (h : OwnR w B v l) (hl : l.length ≤ 1000000) :
    Calls Try.prog 28 #[v, .func (.func 29) #[] #[]] w (SortPost (ltOf cfH) (fun w' v l' => OwnR w' B v l') w v l) := by
  rcases h.form with ⟨rfl, rfl⟩ | ⟨g, cap, cur, rfl, h1, h2, h3, h4, h5, h6⟩
  · have hcon := AnyF.slices_SortFunc_none { sortHoldL with } none 0 (.func (.func 29) #[] #[]) w
    change Calls Try.prog 28 _ _ _ at hcon
    refine hcon.mono ?_
    rintro e w' ⟨rfl, rfl⟩
    exact ⟨rfl, [], List.Perm.refl _, List.Pairwise.nil, h, World.grownBy.refl _ _⟩
  · have eg : ∀ args w, (callFunc 29 args).run Try.prog w = .ok (.enter 29 args) w := enters_of Try.func29 (by kernel_rfl) rfl
    have hcon := AnyQ.slices_SortFunc sortHoldL 3 Try.isAgg44 Try.sizeOf44 encH encH_len encH_one cfH swoH 29 #[] g 0 cap l.toArray w eg (fun _ _ _ _ x y => close29 x y _) (holdsK_of encH_len (by decide) h2 h6) h2.lt (by simp; omega)
    change Calls Try.prog 28 _ _ _ at hcon
    rw [show l.toArray.size = l.length from by simp] at hcon
    refine hcon.mono ?_
    rintro e w' ⟨rfl, d', n, os, hp, hs, rfl⟩
    obtain ⟨p1, p2⟩ := perm_sorted (l := l) (by simpa using hp) (by simpa using hs)
    obtain ⟨cur', c1, c2, c3⟩ := sorted_form (enc := encH) (k := 3) (n := n) (os := os) d'.toList encH_len (by decide) h2 (by rw [p1.length_eq]; omega)
    rw [Array.toArray_toList] at c1
    refine ⟨rfl, d'.toList, p1, p2, ⟨by rw [flat_len encH_len], .inr ⟨g, cap, cur', by rw [p1.length_eq], h1, c1, by rw [p1.length_eq]; exact h3, h4, by rw [c2]; exact h5, c3⟩⟩, grownBy_sortK d'⟩

theorem holds_eq {H L : List Hd} {l' : List Hd} (hs : HSort H) (hp : L.Perm H) (h1 : l'.Perm L) (h2 : l'.Pairwise (fun x y => ltOf cfH y x = false)) : l' = H := by
  have hp2 : l'.Perm H := h1.trans hp
  refine List.Perm.eq_of_pairwise (le := fun x y => ltOf cfH y x = false) (fun a b ha hb q1 q2 => ?_) h2 ?_ hp2
  · rw [ltH] at q1 q2
    simp only [decide_eq_false_iff_not] at q1 q2
    refine hs.uniq (hp2.mem_iff.1 ha) hb ?_
    unfold Go.Proofs.Ytnajombhlmbopaa.ahead at q1 q2
    omega
  · refine hs.p.imp fun hlt => ?_
    rw [ltH]
    exact decide_eq_false (ahead_asymm hlt)
end Go.Proofs.Ytnajombhlmbopaa
