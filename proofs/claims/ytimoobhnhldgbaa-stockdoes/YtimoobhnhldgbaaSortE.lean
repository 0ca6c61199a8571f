/-
  The contracts of the two sorts.
-/
import Derived.Test.YtimoobhnhldgbaaRowE
namespace Go.Proofs.Ytimoobhnhldgbaa
open Go.Proofs Go.Shelf Go.RowKit Go.Lib Go.Sort
set_option maxRecDepth 100000
set_option linter.unusedVariables false
set_option linter.unusedSimpArgs false

theorem encG_len (x : Gd) : (encG x).length = 2 := rfl
theorem encH_len (x : Hd) : (encH x).length = 3 := rfl
theorem encG_one (x : Gd) : ∀ v ∈ encG x, v.oneCell' = true := by
  intro v hv
  simp [encG] at hv
  rcases hv with rfl | rfl <;> rfl
theorem encH_one (x : Hd) : ∀ v ∈ encH x, v.oneCell' = true := by
  intro v hv
  simp [encH] at hv
  rcases hv with rfl | rfl | rfl <;> rfl
abbrev OwnG (w : World) (B : Nat) (v : Value) (l : List Gd) : Prop := OwnE encG 46 2 w B v l
abbrev OwnR (w : World) (B : Nat) (v : Value) (l : List Hd) : Prop := OwnE encH 48 3 w B v l

def SortPost {α : Type} (lt : α → α → Bool) (own : World → Value → List α → Prop) (w : World) (v : Value) (l : List α) (e : Ending) (w' : World) : Prop :=
  e = .returned (.tuple #[]) ∧ ∃ l', l'.Perm l ∧ l'.Pairwise (fun x y => lt y x = false) ∧ own w' v l' ∧ w.grownBy w' v.ownBlock

theorem sortG_any (B : Nat) (v : Value) (l : List Gd) (w : World) (h : OwnG w B v l) (hl : l.length ≤ 1000000) :
    Calls Try.prog 30 #[v, .func (.func 31) #[] #[]] w (SortPost (ltOf cfG) (fun w' v l' => OwnG w' B v l') w v l) := by
  rcases h.form with ⟨rfl, rfl⟩ | ⟨g, cap, cur, rfl, h1, h2, h3, h4, h5, h6⟩
  · have hcon := AnyF.slices_SortFunc_none { sortGoodL with } none 0 (.func (.func 31) #[] #[]) w
    change Calls Try.prog 30 _ _ _ at hcon
    refine hcon.mono ?_
    rintro e w' ⟨rfl, rfl⟩
    exact ⟨rfl, [], List.Perm.refl _, List.Pairwise.nil, h, World.grownBy.refl _ _⟩
  · have eg : ∀ args w, (callFunc 31 args).run Try.prog w = .ok (.enter 31 args) w := enters_of Try.func31 (by kernel_rfl) rfl
    have hcon := AnyQ.slices_SortFunc sortGoodL 2 Try.isAgg46 Try.sizeOf46 encG encG_len encG_one cfG swoG 31 #[] g 0 cap l.toArray w eg (fun _ _ _ _ x y => close31 x y _) (holdsK_of encG_len (by decide) h2 h6) h2.lt (by simp; omega)
    change Calls Try.prog 30 _ _ _ at hcon
    rw [show l.toArray.size = l.length from by simp] at hcon
    refine hcon.mono ?_
    rintro e w' ⟨rfl, d', n, os, hp, hs, rfl⟩
    obtain ⟨p1, p2⟩ := perm_sorted (l := l) (by simpa using hp) (by simpa using hs)
    obtain ⟨cur', c1, c2, c3⟩ := sorted_form (enc := encG) (k := 2) (n := n) (os := os) d'.toList encG_len (by decide) h2 (by rw [p1.length_eq]; omega)
    rw [Array.toArray_toList] at c1
    refine ⟨rfl, d'.toList, p1, p2, ⟨by rw [flat_len encG_len], .inr ⟨g, cap, cur', by rw [p1.length_eq], h1, c1, by rw [p1.length_eq]; exact h3, h4, by rw [c2]; exact h5, c3⟩⟩, grownBy_sortK d'⟩

theorem sortH_any (B : Nat) (v : Value) (l : List Hd) (w : World) (h : OwnR w B v l) (hl : l.length ≤ 1000000) :
    Calls Try.prog 33 #[v, .func (.func 34) #[] #[]] w (SortPost (ltOf cfH) (fun w' v l' => OwnR w' B v l') w v l) := by
  rcases h.form with ⟨rfl, rfl⟩ | ⟨g, cap, cur, rfl, h1, h2, h3, h4, h5, h6⟩
  · have hcon := AnyF.slices_SortFunc_none { sortHoldL with } none 0 (.func (.func 34) #[] #[]) w
    change Calls Try.prog 33 _ _ _ at hcon
    refine hcon.mono ?_
    rintro e w' ⟨rfl, rfl⟩
    exact ⟨rfl, [], List.Perm.refl _, List.Pairwise.nil, h, World.grownBy.refl _ _⟩
  · have eg : ∀ args w, (callFunc 34 args).run Try.prog w = .ok (.enter 34 args) w := enters_of Try.func34 (by kernel_rfl) rfl
    have hcon := AnyQ.slices_SortFunc sortHoldL 3 Try.isAgg48 Try.sizeOf48 encH encH_len encH_one cfH swoH 34 #[] g 0 cap l.toArray w eg (fun _ _ _ _ x y => close34 x y _) (holdsK_of encH_len (by decide) h2 h6) h2.lt (by simp; omega)
    change Calls Try.prog 33 _ _ _ at hcon
    rw [show l.toArray.size = l.length from by simp] at hcon
    refine hcon.mono ?_
    rintro e w' ⟨rfl, d', n, os, hp, hs, rfl⟩
    obtain ⟨p1, p2⟩ := perm_sorted (l := l) (by simpa using hp) (by simpa using hs)
    obtain ⟨cur', c1, c2, c3⟩ := sorted_form (enc := encH) (k := 3) (n := n) (os := os) d'.toList encH_len (by decide) h2 (by rw [p1.length_eq]; omega)
    rw [Array.toArray_toList] at c1
    refine ⟨rfl, d'.toList, p1, p2, ⟨by rw [flat_len encH_len], .inr ⟨g, cap, cur', by rw [p1.length_eq], h1, c1, by rw [p1.length_eq]; exact h3, h4, by rw [c2]; exact h5, c3⟩⟩, grownBy_sortK d'⟩

/-! ### what was met in a range over a map -/
def goodsL (K : List Kd) : List Gd := K.map (fun k => ⟨k.n, k.f⟩)
def MetK (K : List Kd) (left : Lit → Bool) (L : List Kd) : Prop := (L.map (·.n)).Nodup ∧ (∀ k ∈ L, k ∈ K ∧ left (.string k.n) = false) ∧ ∀ k ∈ K, left (.string k.n) = false → k ∈ L
def MetH (H : List Hd) (left : Lit → Bool) (L : List Hd) : Prop := (L.map (·.o)).Nodup ∧ (∀ k ∈ L, k ∈ H ∧ left (.int .u32 (k.o : Int)) = false) ∧ ∀ k ∈ H, left (.int .u32 (k.o : Int)) = false → k ∈ L

theorem MetK.start {D : DataW Unit} {K : List Kd} (h : KT D K) (hs : KSort K) : MetK K (Maps.has D) [] :=
  ⟨List.nodup_nil, (fun k hk => absurd hk (by simp)), fun k hk hf => by rw [h.has, hs.find hk] at hf; cases hf⟩
theorem MetH.start {D : DataW Unit} {H : List Hd} (h : HT D H) (hs : HSort H) : MetH H (Maps.has D) [] :=
  ⟨List.nodup_nil, (fun k hk => absurd hk (by simp)), fun k hk hf => by rw [h.has, hs.find hk] at hf; cases hf⟩
theorem KT.entry {D : DataW Unit} {K : List Kd} (h : KT D K) {x : List UInt8} {c : Kd} (hat : ∀ z, D.atKey (.string x) z = dK c) : c ∈ K ∧ c.n = x := by
  have h1 := h.find x
  cases hf : findK K x with
  | none =>
    rw [hf] at h1
    have := (h1 .nil).symm.trans (hat .nil)
    cases this
  | some k =>
    rw [hf] at h1
    have := dK_inj ((h1 .nil).symm.trans (hat .nil))
    subst this
    exact findK_some hf
theorem HT.entry {D : DataW Unit} {H : List Hd} (h : HT D H) {o : Nat} {c : Hd} (hat : ∀ z, D.atKey (.int .u32 (o : Int)) z = dH c) : (⟨o, c.n, c.k⟩ : Hd) ∈ H := by
  have h1 := h.find o
  cases hf : findH H o with
  | none =>
    rw [hf] at h1
    have := (h1 .nil).symm.trans (hat .nil)
    cases this
  | some k =>
    rw [hf] at h1
    have := dH_inj ((h1 .nil).symm.trans (hat .nil))
    obtain ⟨hk, rfl⟩ := findH_some hf
    cases k; cases c
    simp at this ⊢
    obtain ⟨rfl, rfl⟩ := this
    exact hk
theorem MetK.step {K : List Kd} {left : Lit → Bool} {L : List Kd} (h : MetK K left L) (hs : KSort K) {c : Kd} (hc : c ∈ K) (hl : left (.string c.n) = true) : MetK K (fun z => left z && !z.sameKey (.string c.n)) (L ++ [c]) := by
  refine ⟨?_, ?_, ?_⟩
  · rw [List.map_append]
    refine List.nodup_append.2 ⟨h.1, by simp, fun a ha b hb => ?_⟩
    simp at hb
    subst hb
    obtain ⟨k, hk, rfl⟩ := List.mem_map.1 ha
    intro e
    have := (h.2.1 k hk).2
    rw [e, hl] at this
    cases this
  · intro k hk
    rcases List.mem_append.1 hk with hk | hk
    · exact ⟨(h.2.1 k hk).1, by simp only [(h.2.1 k hk).2, Bool.false_and]⟩
    · simp at hk; subst hk; exact ⟨hc, by simp [Lit.sameKey]⟩
  · intro k hk hf
    by_cases e : k.n = c.n
    · rw [hs.uniq hk hc e]; simp
    · refine List.mem_append_left _ (h.2.2 k hk ?_)
      simpa [Lit.sameKey, e] using hf
theorem MetH.step {H : List Hd} {left : Lit → Bool} {L : List Hd} (h : MetH H left L) (hs : HSort H) {c : Hd} (hc : c ∈ H) (hl : left (.int .u32 (c.o : Int)) = true) : MetH H (fun z => left z && !z.sameKey (.int .u32 (c.o : Int))) (L ++ [c]) := by
  refine ⟨?_, ?_, ?_⟩
  · rw [List.map_append]
    refine List.nodup_append.2 ⟨h.1, by simp, fun a ha b hb => ?_⟩
    simp at hb
    subst hb
    obtain ⟨k, hk, rfl⟩ := List.mem_map.1 ha
    intro e
    have := (h.2.1 k hk).2
    rw [e, hl] at this
    cases this
  · intro k hk
    rcases List.mem_append.1 hk with hk | hk
    · exact ⟨(h.2.1 k hk).1, by simp only [(h.2.1 k hk).2, Bool.false_and]⟩
    · simp at hk; subst hk; exact ⟨hc, by simp [Lit.sameKey]⟩
  · intro k hk hf
    by_cases e : k.o = c.o
    · rw [hs.uniq hk hc e]; simp
    · refine List.mem_append_left _ (h.2.2 k hk ?_)
      have e' : ¬ (k.o : Int) = (c.o : Int) := by omega
      simpa [Lit.sameKey, e, e'] using hf
theorem nodup_of_map {α β : Type} (f : α → β) : ∀ {l : List α}, (l.map f).Nodup → l.Nodup
  | [], _ => List.nodup_nil
  | x :: r, h => by
    rw [List.map_cons, List.nodup_cons] at h
    exact List.nodup_cons.2 ⟨fun hx => h.1 (List.mem_map_of_mem hx), nodup_of_map f h.2⟩
theorem MetK.perm {K : List Kd} {left : Lit → Bool} {L : List Kd} (h : MetK K left L) (hs : KSort K) (hl : ∀ kl, left kl = false) : L.Perm K := by
  have hn : K.Nodup := List.Pairwise.imp (fun {a b} hlt e => by subst e; exact nm_irrefl _ hlt) hs
  refine (List.perm_ext_iff_of_nodup (nodup_of_map _ h.1) hn).2 fun k => ⟨fun hk => (h.2.1 k hk).1, fun hk => h.2.2 k hk (hl _)⟩
theorem MetH.perm {H : List Hd} {left : Lit → Bool} {L : List Hd} (h : MetH H left L) (hs : HSort H) (hl : ∀ kl, left kl = false) : L.Perm H := by
  have hn : H.Nodup := List.Pairwise.imp (fun {a b} hlt e => by subst e; omega) hs
  refine (List.perm_ext_iff_of_nodup (nodup_of_map _ h.1) hn).2 fun k => ⟨fun hk => (h.2.1 k hk).1, fun hk => h.2.2 k hk (hl _)⟩
theorem goods_eq {K L : List Kd} {l' : List Gd} (hs : KSort K) (hp : L.Perm K) (h1 : l'.Perm (goodsL L)) (h2 : l'.Pairwise (fun x y => ltOf cfG y x = false)) : l' = goodsL K := by
  have hp2 : l'.Perm (goodsL K) := h1.trans (hp.map _)
  refine List.Perm.eq_of_pairwise (le := fun x y => ltOf cfG y x = false) (fun a b ha hb q1 q2 => ?_) h2 ?_ hp2
  · rw [ltG] at q1 q2
    simp only [decide_eq_false_iff_not] at q1 q2
    obtain ⟨x, hx, rfl⟩ := List.mem_map.1 (hp2.mem_iff.1 ha)
    obtain ⟨y, hy, rfl⟩ := List.mem_map.1 hb
    have e : x.n = y.n := by
      refine Classical.byContradiction fun hne => q1 ?_
      exact nm_tri q2 hne
    rw [hs.uniq hx hy e]
  · unfold goodsL
    rw [List.pairwise_map]
    refine hs.imp fun hlt => ?_
    rw [ltG]
    exact decide_eq_false (nm_asymm hlt)
theorem holds_eq {H L : List Hd} {l' : List Hd} (hs : HSort H) (hp : L.Perm H) (h1 : l'.Perm L) (h2 : l'.Pairwise (fun x y => ltOf cfH y x = false)) : l' = H := by
  have hp2 : l'.Perm H := h1.trans hp
  refine List.Perm.eq_of_pairwise (le := fun x y => ltOf cfH y x = false) (fun a b ha hb q1 q2 => ?_) h2 ?_ hp2
  · rw [ltH] at q1 q2
    simp only [decide_eq_false_iff_not] at q1 q2
    exact hs.uniq (hp2.mem_iff.1 ha) hb (by omega)
  · refine hs.imp fun hlt => ?_
    rw [ltH]
    exact decide_eq_false (by omega)

end Go.Proofs.Ytimoobhnhldgbaa
