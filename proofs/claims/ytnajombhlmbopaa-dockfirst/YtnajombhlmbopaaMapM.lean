/-
  The map of a dock's bookings in memory: how a booking lies in it, and what look-up, store, delete and len come to.
-/
import Derived.Test.YtnajombhlmbopaaSMath
import Derived.Sort.KeysCollected
namespace Go.Proofs.Ytnajombhlmbopaa
open Go.RowKit Go.Maps
set_option maxRecDepth 100000
set_option linter.unusedVariables false
set_option linter.unusedSimpArgs false

/-- What lies in the map: a day, a number. -/
structure Pd where
  d : Int
  k : Int
def Hd.p (h : Hd) : Pd := ⟨(h.d : Int), h.k⟩
abbrev vH (p : Pd) : Value := .agg #[.int .i64 p.d, .int .i64 p.k]
def dH (p : Pd) : DataW Unit := .agg [.lit (.int .i64 p.d), .lit (.int .i64 p.k)]
def zH : Pd := ⟨0, 0⟩
def rH : Value → Option (DataW Unit × List MemPlace)
  | .agg cs => match cs.toList with
    | [.int .i64 d, .int .i64 k] => some (dH ⟨d, k⟩, [])
    | _ => none
  | _ => none
theorem rH_mk (p : Pd) : rH (vH p) = some (dH p, []) := by simp [rH, vH, dH]
theorem rH_inv {v : Value} {y : DataW Unit × List MemPlace} (h : rH v = some y) : ∃ p, v = vH p ∧ y = (dH p, []) := by
  unfold rH at h
  split at h
  · rename_i cs
    split at h
    · rename_i d k e
      refine ⟨⟨d, k⟩, ?_, by simpa using h.symm⟩
      have : cs = #[.int .i64 d, .int .i64 k] := by rw [← Array.toList_inj, e]
      rw [this]
    · cases h
  · cases h
theorem dH_inj {a b : Pd} (h : dH a = dH b) : a = b := by
  unfold dH at h
  simp only [DataW.agg.injEq, List.cons.injEq, DataW.lit.injEq, Lit.int.injEq, true_and, and_true] at h
  cases a; cases b; simp_all

theorem lawH : Keyed Try.prog 32 := int_keyed Try.underlying32
theorem keyH (o : Nat) (ho : o < 4294967296) : keyOf Try.prog 32 (.int .u32 (o : Int)) = some (.int .u32 (o : Int)) :=
  keyOf_int_mk Try.underlying32 (WalkArith.wf_u32 (by omega))

/-- The map's datum holds just these bookings. -/
def HT (D : DataW Unit) (H : List Hd) : Prop := (∀ h ∈ H, ∀ z, D.atKey (.int .u32 (h.o : Int)) z = dH h.p) ∧ ∀ o : Nat, (∀ h ∈ H, h.o ≠ o) → ∀ z, D.atKey (.int .u32 (o : Int)) z = z
def OwnH (w : World) (b : Nat) (H : List Hd) : Prop := ∃ D, w.ownsMap Try.prog 32 rH b (Maps.size D) D ∧ HT D H ∧ Maps.size D = H.length

theorem tight {w : World} {k : TypeId} {R : Value → Option (DataW Unit × List MemPlace)} {b n : Nat} {D : DataW Unit} (h : w.ownsMap Try.prog k R b n D) : w.ownsMap Try.prog k R b (Maps.size D) D := by
  obtain ⟨es, clock, hb, F, hs, rfl⟩ := h
  refine ⟨es, clock, hb, F, ?_, rfl⟩
  simp [Maps.size, length_sorted]

theorem OwnH.lt {w : World} {b : Nat} {H : List Hd} (h : OwnH w b H) : b < w.heap.size := by obtain ⟨D, h, -⟩ := h; exact h.lt
theorem OwnH.same {w w' : World} {b : Nat} {H : List Hd} (h : OwnH w b H) (e : w'.heap[b]? = w.heap[b]?) : OwnH w' b H := by
  obtain ⟨D, ⟨es, clock, hb, r⟩, h2⟩ := h
  exact ⟨D, ⟨es, clock, e.trans hb, r⟩, h2⟩
theorem OwnH.made (w : World) : OwnH (w.alloc (.map #[] 0)) w.heap.size [] :=
  ⟨.map [], World.ownsMap_made w Try.prog 32 rH, ⟨(fun k hk => absurd hk (by simp)), fun x _ z => rfl⟩, rfl⟩

/-! ### what is looked up -/
theorem HT.find {D : DataW Unit} {H : List Hd} (h : HT D H) (o : Nat) (z : DataW Unit) : D.atKey (.int .u32 (o : Int)) z = match findH H o with | none => z | some k => dH k.p := by
  cases hf : findH H o with
  | none => exact h.2 o (findH_none hf) z
  | some k => obtain ⟨hk, rfl⟩ := findH_some hf; exact h.1 k hk z
theorem HT.has {D : DataW Unit} {H : List Hd} (h : HT D H) (o : Nat) : Maps.has D (.int .u32 (o : Int)) = (findH H o).isSome := by
  cases hf : findH H o with
  | none => exact has_false_of_atKey (h.2 o (findH_none hf))
  | some k => obtain ⟨hk, rfl⟩ := findH_some hf; exact has_true_of_atKey (h.1 k hk)
/-- What a look-up finds. -/
def foundP (H : List Hd) (o : Nat) : Pd := match findH H o with
  | none => zH
  | some h => h.p
theorem OwnH.look_ok {w : World} {b : Nat} {H : List Hd} (h : OwnH w b H) (o : Nat) (ho : o < 4294967296) :
    (Instr.lookup 53 (.map (some b)) (.int .u32 (o : Int)) true).run Try.prog w = .ok (.tuple #[vH (foundP H o), .bool (findH H o).isSome]) w := by
  obtain ⟨D, hown, hT, -⟩ := h
  obtain ⟨v, ps, hrun, hv⟩ := hown.look_ok lawH Try.underlying53 (Try.zeroValue59 w) (zd := dH zH) (zp := []) (rH_mk zH) (keyH o ho)
  rw [hT.find] at hv
  rw [hrun, hT.has]
  obtain ⟨k, rfl, e⟩ := rH_inv hv
  have e1 : (match findH H o with | none => dH zH | some k => dH k.p) = dH k := congrArg Prod.fst e
  have : foundP H o = k := by
    unfold foundP
    cases hf : findH H o with
    | none => rw [hf] at e1; exact dH_inj e1
    | some k' => rw [hf] at e1; exact dH_inj e1
  rw [this]
theorem OwnH.len {w : World} {b : Nat} {H : List Hd} (h : OwnH w b H) (ty : TypeId) : (Builtin.len_ #[53] ty #[.map (some b)]).run Try.prog w = .ok (.int .i64 H.length) w := by
  obtain ⟨D, hown, hT, hz⟩ := h
  rw [hown.len Try.underlying53 ty, hz]

/-! ### what is stored and deleted -/
theorem isKeyI (o : Int) : WideAt.IsKeyLit (.int .u32 o) := by simp [WideAt.IsKeyLit]
theorem keyNe {a b : Nat} (h : a ≠ b) : (Lit.int .u32 (a : Int)) ≠ .int .u32 (b : Int) := fun e => h (by injection e with _ e; omega)
theorem OwnH.add {w : World} {b : Nat} {H : List Hd} (h : OwnH w b H) (k : Hd) (hn : ∀ y ∈ H, y.o ≠ k.o) (hx : k.o < 4294967296) (hK : H.length ≤ 1000000) :
    ∃ w', (Instr.mapUpdate 53 (.map (some b)) (.int .u32 (k.o : Int)) (vH k.p)).run Try.prog w = .ok () w' ∧ OwnH w' b (insH k H) ∧ w.mapTurned w' b := by
  obtain ⟨D, hown, hT, hz⟩ := h
  obtain ⟨w', hrun, hown', ht⟩ := hown.store lawH Try.underlying53 (by unfold maxLen; omega) (keyH k.o hx) (rH_mk k.p)
  refine ⟨w', hrun, ⟨_, tight hown', ⟨?_, ?_⟩, ?_⟩, ht⟩
  · intro y hy z
    rcases mem_insH.1 hy with rfl | hy
    · exact atKey_put_same hown.isMap (isKeyI _) _ _
    · rw [atKey_put_other (keyNe (hn y hy))]; exact hT.1 y hy z
  · intro x hx z
    have hne : x ≠ k.o := fun e => hx k (mem_insH.2 (.inl rfl)) e.symm
    rw [atKey_put_other (keyNe hne)]
    exact hT.2 x (fun y hy e => hx y (mem_insH.2 (.inr hy)) e) z
  · have hh : Maps.has D (.int .u32 (k.o : Int)) = false := has_false_of_atKey (hT.2 k.o hn)
    rw [size_put (hown.tidy lawH), if_neg (by rw [hh]; decide), hz, insH_length]
theorem OwnH.del {w : World} {b : Nat} {H : List Hd} (h : OwnH w b H) (hs : HSort H) (k : Hd) (hk : k ∈ H) (hx : k.o < 4294967296) (ty : TypeId) :
    ∃ w', (Builtin.delete_ #[53, 32] ty #[.map (some b), .int .u32 (k.o : Int)]).run Try.prog w = .ok (.tuple #[]) w' ∧ OwnH w' b (delH H k.o) ∧ w.mapTurned w' b := by
  obtain ⟨D, hown, hT, hz⟩ := h
  obtain ⟨w', hrun, hown', ht⟩ := hown.drop lawH Try.underlying53 (keyH k.o hx) ty
  refine ⟨w', hrun, ⟨_, tight hown', ⟨?_, ?_⟩, ?_⟩, ht⟩
  · intro y hy z
    obtain ⟨hy, hne⟩ := mem_delH.1 hy
    rw [atKey_del_other (keyNe hne)]; exact hT.1 y hy z
  · intro x hx z
    by_cases e : x = k.o
    · subst e; exact atKey_del_same z
    · rw [atKey_del_other (keyNe e)]
      exact hT.2 x (fun y hy e' => hx y (mem_delH.2 ⟨hy, fun e2 => e (e'.symm.trans e2)⟩) e') z
  · have hh : Maps.has D (.int .u32 (k.o : Int)) = true := by rw [hT.has, hs.find hk]; rfl
    have h1 := size_del (k := .int .u32 (k.o : Int)) (hown.tidy lawH)
    rw [if_pos hh] at h1
    have h2 := delH_length hs hk
    omega


/-! ### what was met in a range over the map -/
def MetH (H : List Hd) (left : Lit → Bool) (L : List Hd) : Prop := (L.map (·.o)).Nodup ∧ (∀ k ∈ L, k ∈ H ∧ left (.int .u32 (k.o : Int)) = false) ∧ ∀ k ∈ H, left (.int .u32 (k.o : Int)) = false → k ∈ L
theorem MetH.start {D : DataW Unit} {H : List Hd} (h : HT D H) (hs : HSort H) : MetH H (Maps.has D) [] :=
  ⟨List.nodup_nil, (fun k hk => absurd hk (by simp)), fun k hk hf => by rw [h.has, hs.find hk] at hf; cases hf⟩
theorem HT.entry {D : DataW Unit} {H : List Hd} (h : HT D H) {o : Nat} {c : Pd} (hat : ∀ z, D.atKey (.int .u32 (o : Int)) z = dH c) : ∃ y ∈ H, y.o = o ∧ y.p = c := by
  have h1 := h.find o
  cases hf : findH H o with
  | none =>
    rw [hf] at h1
    have := (h1 .nil).symm.trans (hat .nil)
    cases this
  | some k =>
    rw [hf] at h1
    have := dH_inj ((h1 .nil).symm.trans (hat .nil))
    obtain ⟨hk, rfl⟩ := findH_some hf
    exact ⟨k, hk, rfl, this⟩
theorem MetH.step {H : List Hd} {left : Lit → Bool} {L : List Hd} (h : MetH H left L) (hs : HSort H) {c : Hd} (hc : c ∈ H) (hl : left (.int .u32 (c.o : Int)) = true) : MetH H (fun z => left z && !z.sameKey (.int .u32 (c.o : Int))) (L ++ [c]) := by
  refine ⟨?_, ?_, ?_⟩
  · rw [List.map_append]
    refine List.nodup_append.2 ⟨h.1, by simp, fun a ha b hb => ?_⟩
    simp at hb
    subst hb
    obtain ⟨k, hk, rfl⟩ := List.mem_map.1 ha
    intro e
    have := (h.2.1 k hk).2
    rw [e, hl] at this
    cases this
  · intro k hk
    rcases List.mem_append.1 hk with hk | hk
    · exact ⟨(h.2.1 k hk).1, by simp only [(h.2.1 k hk).2, Bool.false_and]⟩
    · simp at hk; subst hk; exact ⟨hc, by simp [Lit.sameKey]⟩
  · intro k hk hf
    by_cases e : k.o = c.o
    · rw [hs.uniq hk hc e]; simp
    · refine List.mem_append_left _ (h.2.2 k hk ?_)
      have e' : ¬ (k.o : Int) = (c.o : Int) := by omega
      simpa [Lit.sameKey, e, e'] using hf
theorem nodup_of_map {α β : Type} (f : α → β) : ∀ {l : List α}, (l.map f).Nodup → l.Nodup
  | [], _ => List.nodup_nil
  | x :: r, h => by
    rw [List.map_cons, List.nodup_cons] at h
    exact List.nodup_cons.2 ⟨fun hx => h.1 (List.mem_map_of_mem hx), nodup_of_map f h.2⟩
theorem MetH.perm {H : List Hd} {left : Lit → Bool} {L : List Hd} (h : MetH H left L) (hs : HSort H) (hl : ∀ kl, left kl = false) : L.Perm H := by
  refine (List.perm_ext_iff_of_nodup (nodup_of_map _ h.1) (nodup_of_sort hs)).2 fun k => ⟨fun hk => (h.2.1 k hk).1, fun hk => h.2.2 k hk (hl _)⟩

end Go.Proofs.Ytnajombhlmbopaa
