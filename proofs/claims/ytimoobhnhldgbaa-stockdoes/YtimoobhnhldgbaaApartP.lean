/-
  What an act does to kinds of other names; two stocks side by side.
-/
import Derived.Test.YtimoobhnhldgbaaOnceP
namespace Go.Proofs.Ytimoobhnhldgbaa
open Go.Proofs Go.RowKit
set_option maxRecDepth 100000
set_option linter.unusedVariables false

/-- The kind that an act is about. -/
def nameOf (q : Ss) (a : Ac) : List UInt8 := if a.t = 0 ∨ a.t = 1 then a.x else match findH q.H a.o with
  | none => a.x
  | some y => y.n
def nmF (o : Nat) (x : List UInt8) (h : Hd) : List UInt8 := if h.o = o then h.n else x
def lastN (o : Nat) (x : List UInt8) (L : List Hd) : List UInt8 := L.foldl (nmF o) x
theorem lastN_snoc (o : Nat) (x : List UInt8) (L : List Hd) (h : Hd) : lastN o x (L ++ [h]) = nmF o (lastN o x L) h := by
  unfold lastN; rw [List.foldl_append]; rfl
theorem lastN_none {o : Nat} : ∀ (L : List Hd) (x : List UInt8), (∀ h ∈ L, h.o ≠ o) → L.foldl (nmF o) x = x
  | [], x, _ => rfl
  | h :: r, x, hn => by
    rw [List.foldl_cons, show nmF o x h = x from if_neg (hn h (List.mem_cons_self ..))]
    exact lastN_none r x fun y hy => hn y (List.mem_cons_of_mem _ hy)
theorem lastN_all {o : Nat} : ∀ (H : List Hd) (x : List UInt8), HSort H → H.foldl (nmF o) x = match findH H o with | none => x | some y => y.n
  | [], x, _ => rfl
  | h :: r, x, hs => by
    obtain ⟨h1, h2⟩ := List.pairwise_cons.1 hs
    rw [List.foldl_cons]
    by_cases e : h.o = o
    · have hf : findH (h :: r) o = some h := by unfold findH; rw [List.find?_cons, show (h.o == o) = true from by simpa using e]
      rw [hf, lastN_none r _ (fun y hy => by have := h1 y hy; omega), show nmF o x h = h.n from if_pos e]
    · have hf : findH (h :: r) o = findH r o := by unfold findH; rw [List.find?_cons, show (h.o == o) = false from by simpa using e]
      rw [hf, show nmF o x h = x from if_neg e]
      exact lastN_all r x h2
theorem lastN_of {q : Ss} (hI : Inv q) (a : Ac) (h : ¬ (a.t = 0 ∨ a.t = 1)) : lastN a.o a.x q.H = nameOf q a := by
  unfold nameOf lastN
  rw [if_neg h]
  exact lastN_all q.H a.x hI.hs
theorem nmF_len {q : Ss} (hI : Inv q) (a : Ac) (ha : a.x.length ≤ maxLen) (i : Nat) : (lastN a.o a.x (q.H.take i)).length ≤ maxLen := by
  have : ∀ (L : List Hd) (x : List UInt8), (∀ y ∈ L, y.n.length ≤ maxLen) → x.length ≤ maxLen → (L.foldl (nmF a.o) x).length ≤ maxLen := by
    intro L
    induction L with
    | nil => intro x _ h; exact h
    | cons y r ih =>
      intro x hL hx
      rw [List.foldl_cons]
      refine ih _ (fun z hz => hL z (List.mem_cons_of_mem _ hz)) ?_
      unfold nmF
      split
      · exact hL y (List.mem_cons_self ..)
      · exact hx
  exact this _ _ (fun y hy => by have := (hI.kb (List.mem_of_mem_take hy)).2; unfold maxLen; omega) ha

theorem updK_at (K : List Kd) (k' : Kd) (i : Nat) (h : i < (updK K k').length) (h' : i < K.length) : (updK K k')[i] = if K[i].n = k'.n then k' else K[i] := by
  have e1 : (updK K k')[i]? = some (if K[i].n = k'.n then k' else K[i]) := by
    unfold updK
    rw [List.getElem?_map, List.getElem?_eq_getElem h']
    by_cases e : K[i].n = k'.n <;> simp [e]
  rw [List.getElem?_eq_getElem h] at e1
  exact Option.some.inj e1
theorem apart_upd (K : List Kd) (k' : Kd) (i : Nat) (h : i < (goodsL (updK K k')).length) (h' : i < (goodsL K).length) (hn : (goodsL (updK K k'))[i].n ≠ k'.n) : (goodsL (updK K k'))[i] = (goodsL K)[i] := by
  have h1 : i < K.length := by rw [goods_len] at h'; exact h'
  have h2 : i < (updK K k').length := by rw [updK_length]; exact h1
  rw [goods_at _ i h2] at hn ⊢
  rw [goods_at _ i h1]
  rw [updK_at K k' i h2 h1] at hn ⊢
  by_cases e : K[i].n = k'.n
  · rw [if_pos e] at hn; exact absurd rfl hn
  · rw [if_neg e]
theorem act_apart {q : Ss} (hI : Inv q) (a : Ac) (hv : actV q a = true) (i : Nat) (h : i < (goodsL (actS q a).K).length) (h' : i < (goodsL q.K).length) (hn : (goodsL (actS q a).K)[i].n ≠ nameOf q a) : (goodsL (actS q a).K)[i] = (goodsL q.K)[i] := by
  by_cases h1 : a.t = 0 ∨ a.t = 1
  · have ev : holdV q a.o a.x a.n = true := by unfold actV at hv; rwa [if_pos h1] at hv
    obtain ⟨-, -, -, k, hk, -⟩ := holdV_iff.1 ev
    obtain ⟨hm, hkx⟩ := findK_some hk
    have es : (actS q a).K = updK q.K ⟨k.n, k.f - a.n, k.g⟩ := by unfold actS; rw [if_pos h1, holdS_yes ev hk]
    have en : nameOf q a = k.n := by unfold nameOf; rw [if_pos h1, hkx]
    revert h hn
    rw [es, en]
    intro h hn
    exact apart_upd q.K ⟨k.n, k.f - a.n, k.g⟩ i h h' hn
  · have ev : endV q a.o = true := by unfold actV at hv; rwa [if_neg h1] at hv
    cases hf : findH q.H a.o with
    | none => unfold endV at ev; rw [hf] at ev; cases ev
    | some y =>
      obtain ⟨hy, -⟩ := findH_some hf
      obtain ⟨k, hk, hm, e⟩ := hI.kn hy
      have en : nameOf q a = y.n := by unfold nameOf; rw [if_neg h1, hf]
      have es : ∃ b, (actS q a).K = updK q.K (backK k y.k b) := by
        unfold actS
        rw [if_neg h1]
        split
        · exact ⟨false, by rw [endS_yes hf hk]⟩
        · exact ⟨true, by rw [endS_yes hf hk]⟩
      obtain ⟨b, es⟩ := es
      revert h hn
      rw [es, en, ← e, ← backK_n k y.k b]
      intro h hn
      exact apart_upd q.K (backK k y.k b) i h h' hn

/-- Two stocks whose memory is apart. -/
def Far (b t : SB) : Prop := (t.s ≠ b.k ∧ t.s ≠ b.h) ∧ (t.k ≠ b.k ∧ t.k ≠ b.h) ∧ (t.h ≠ b.k ∧ t.h ≠ b.h)
theorem SW.other {w0 w w' : World} {b t : SB} {q p : Ss} (h : SW w0 w t p) (hb : SW w0 w b q) (hF : Frm w w' b) (hf : Far b t) : SW w0 w' t p :=
  ⟨hF.at_other h.ok hf.1 hf.2.1 hf.2.2, h.inv, hF.below h.bel h.bel.size hb.lo.2.1 hb.lo.2.2, h.lo⟩
/-- The goods of the one, in a row that the other leaves alone. -/
def SwG2 (w0 w : World) (b t : SB) (q p : Ss) (e : Ending) (w' : World) : Prop := ∃ v, e = .returned v ∧ RG w' b v (goodsL p.K) ∧ SW w0 w' t p ∧ Below w.heap.size w w'
theorem sw_goods2 {w0 w : World} {b t : SB} {q p : Ss} (h : SW w0 w t p) (hb : SW w0 w b q) : Calls Try.prog 16 #[.pointer (some ⟨t.s, 0, none⟩)] w (SwG2 w0 w b t q p) :=
  (goods_any t p w h.ok h.inv.ks (by have := h.inv.kz; omega)).mono fun e w' ⟨v, h1, h2, h3⟩ => ⟨v, h1, ⟨_, h2, hb.ok.ok.lt, hb.ok.oh.lt⟩, h.below h3, h3⟩
theorem far_of {w : World} {b t : SB} {q : Ss} (h : At w b q) (h1 : w.heap.size ≤ t.s) (h2 : w.heap.size ≤ t.k) (h3 : w.heap.size ≤ t.h) : Far b t := by
  have a1 := h.ok.lt
  have a2 := h.oh.lt
  exact ⟨⟨by omega, by omega⟩, ⟨by omega, by omega⟩, ⟨by omega, by omega⟩⟩

end Go.Proofs.Ytimoobhnhldgbaa
