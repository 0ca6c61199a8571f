/-
  The two maps of a stock in memory: how a kind and a hold lie in them, and what look-up, store, delete and len come to.
-/
import Derived.Test.YtlgdjmmhdfpfeaaSMath
import Derived.Sort.KeysCollected
namespace Go.Proofs.Ytlgdjmmhdfpfeaa
open Go.RowKit Go.Maps
open Go.WideMaps (keyOf_string_mk)
set_option maxRecDepth 100000
set_option linter.unusedVariables false
set_option linter.unusedSimpArgs false

abbrev vK (k : Kd) : Value := .agg #[encStr k.n, .int .i64 k.m, .int .i64 k.h]
abbrev vH (h : Hd) : Value := .agg #[encStr h.n, .int .i64 h.k]
def dK (k : Kd) : DataW Unit := .agg [.lit (.string k.n), .lit (.int .i64 k.m), .lit (.int .i64 k.h)]
def dH (h : Hd) : DataW Unit := .agg [.lit (.string h.n), .lit (.int .i64 h.k)]
def zK : Kd := ⟨[], 0, 0⟩
def zH : Hd := ⟨0, [], 0, 0⟩
def rK : Value → Option (DataW Unit × List MemPlace)
  | .agg cs => match cs.toList with
    | [.string s, .int .i64 f, .int .i64 g] => some (dK ⟨s.data.toList, f, g⟩, [])
    | _ => none
  | _ => none
def rH : Value → Option (DataW Unit × List MemPlace)
  | .agg cs => match cs.toList with
    | [.string s, .int .i64 f] => some (dH ⟨0, s.data.toList, f, 0⟩, [])
    | _ => none
  | _ => none
theorem rK_mk (k : Kd) : rK (vK k) = some (dK k, []) := by simp [rK, vK, encStr, dK]
theorem rH_mk (h : Hd) : rH (vH h) = some (dH h, []) := by simp [rH, vH, encStr, dH]
theorem rK_inv {v : Value} {y : DataW Unit × List MemPlace} (h : rK v = some y) : ∃ k, v = vK k ∧ y = (dK k, []) := by
  unfold rK at h
  split at h
  · rename_i cs
    split at h
    · rename_i s f g e
      refine ⟨⟨s.data.toList, f, g⟩, ?_, by simpa using h.symm⟩
      have : cs = #[.string s, .int .i64 f, .int .i64 g] := by rw [← Array.toList_inj, e]
      rw [this]
    · cases h
  · cases h
theorem rH_inv {v : Value} {y : DataW Unit × List MemPlace} (h : rH v = some y) : ∃ k, v = vH k ∧ y = (dH k, []) := by
  unfold rH at h
  split at h
  · rename_i cs
    split at h
    · rename_i s f e
      refine ⟨⟨0, s.data.toList, f, 0⟩, ?_, by simpa using h.symm⟩
      have : cs = #[.string s, .int .i64 f] := by rw [← Array.toList_inj, e]
      rw [this]
    · cases h
  · cases h
theorem dK_inj {a b : Kd} (h : dK a = dK b) : a = b := by
  unfold dK at h
  simp only [DataW.agg.injEq, List.cons.injEq, DataW.lit.injEq, Lit.string.injEq, Lit.int.injEq, true_and, and_true] at h
  cases a; cases b; simp_all
theorem dH_inj {a b : Hd} (h : dH a = dH b) : a.n = b.n ∧ a.k = b.k := by
  unfold dH at h
  simp only [DataW.agg.injEq, List.cons.injEq, DataW.lit.injEq, Lit.string.injEq, Lit.int.injEq, true_and, and_true] at h
  exact h

theorem lawK : Keyed Try.prog 9 := string_keyed Try.underlying9
theorem lawH : Keyed Try.prog 33 := int_keyed Try.underlying33
theorem keyK (x : List UInt8) (hx : x.length ≤ maxLen) : keyOf Try.prog 9 (encStr x) = some (.string x) := by
  have := keyOf_string_mk (P := Try.prog) (s := ⟨x.toArray⟩) Try.underlying9 (by simpa [ByteArray.size] using hx)
  simpa using this
theorem keyH (o : Nat) (ho : o < 4294967296) : keyOf Try.prog 33 (.int .u32 (o : Int)) = some (.int .u32 (o : Int)) :=
  keyOf_int_mk Try.underlying33 (WalkArith.wf_u32 (by omega))

/-- The map's datum holds just these kinds. -/
def KT (D : DataW Unit) (K : List Kd) : Prop := (∀ k ∈ K, ∀ z, D.atKey (.string k.n) z = dK k) ∧ ∀ x, (∀ k ∈ K, k.n ≠ x) → ∀ z, D.atKey (.string x) z = z
def HT (D : DataW Unit) (H : List Hd) : Prop := (∀ h ∈ H, ∀ z, D.atKey (.int .u32 (h.o : Int)) z = dH h) ∧ ∀ o : Nat, (∀ h ∈ H, h.o ≠ o) → ∀ z, D.atKey (.int .u32 (o : Int)) z = z
def OwnK (w : World) (b : Nat) (K : List Kd) : Prop := ∃ D, w.ownsMap Try.prog 9 rK b (Maps.size D) D ∧ KT D K ∧ Maps.size D = K.length
def OwnH (w : World) (b : Nat) (H : List Hd) : Prop := ∃ D, w.ownsMap Try.prog 33 rH b (Maps.size D) D ∧ HT D H ∧ Maps.size D = H.length

theorem tight {w : World} {k : TypeId} {R : Value → Option (DataW Unit × List MemPlace)} {b n : Nat} {D : DataW Unit} (h : w.ownsMap Try.prog k R b n D) : w.ownsMap Try.prog k R b (Maps.size D) D := by
  obtain ⟨es, clock, hb, F, hs, rfl⟩ := h
  refine ⟨es, clock, hb, F, ?_, rfl⟩
  simp [Maps.size, length_sorted]

theorem OwnK.lt {w : World} {b : Nat} {K : List Kd} (h : OwnK w b K) : b < w.heap.size := by obtain ⟨D, h, -⟩ := h; exact h.lt
theorem OwnH.lt {w : World} {b : Nat} {H : List Hd} (h : OwnH w b H) : b < w.heap.size := by obtain ⟨D, h, -⟩ := h; exact h.lt
theorem OwnK.same {w w' : World} {b : Nat} {K : List Kd} (h : OwnK w b K) (e : w'.heap[b]? = w.heap[b]?) : OwnK w' b K := by
  obtain ⟨D, ⟨es, clock, hb, r⟩, h2⟩ := h
  exact ⟨D, ⟨es, clock, e.trans hb, r⟩, h2⟩
theorem OwnH.same {w w' : World} {b : Nat} {H : List Hd} (h : OwnH w b H) (e : w'.heap[b]? = w.heap[b]?) : OwnH w' b H := by
  obtain ⟨D, ⟨es, clock, hb, r⟩, h2⟩ := h
  exact ⟨D, ⟨es, clock, e.trans hb, r⟩, h2⟩

theorem OwnK.made (w : World) : OwnK (w.alloc (.map #[] 0)) w.heap.size [] :=
  ⟨.map [], World.ownsMap_made w Try.prog 9 rK, ⟨(fun k hk => absurd hk (by simp)), fun x _ z => rfl⟩, rfl⟩
theorem OwnH.made (w : World) : OwnH (w.alloc (.map #[] 0)) w.heap.size [] :=
  ⟨.map [], World.ownsMap_made w Try.prog 33 rH, ⟨(fun k hk => absurd hk (by simp)), fun x _ z => rfl⟩, rfl⟩

/-! ### what is looked up -/
theorem KT.find {D : DataW Unit} {K : List Kd} (h : KT D K) (x : List UInt8) (z : DataW Unit) : D.atKey (.string x) z = match findK K x with | none => z | some k => dK k := by
  cases hf : findK K x with
  | none => exact h.2 x (findK_none hf) z
  | some k => obtain ⟨hk, rfl⟩ := findK_some hf; exact h.1 k hk z
theorem KT.has {D : DataW Unit} {K : List Kd} (h : KT D K) (x : List UInt8) : Maps.has D (.string x) = (findK K x).isSome := by
  cases hf : findK K x with
  | none => exact has_false_of_atKey (h.2 x (findK_none hf))
  | some k => obtain ⟨hk, rfl⟩ := findK_some hf; exact has_true_of_atKey (h.1 k hk)
theorem HT.find {D : DataW Unit} {H : List Hd} (h : HT D H) (o : Nat) (z : DataW Unit) : D.atKey (.int .u32 (o : Int)) z = match findH H o with | none => z | some k => dH k := by
  cases hf : findH H o with
  | none => exact h.2 o (findH_none hf) z
  | some k => obtain ⟨hk, rfl⟩ := findH_some hf; exact h.1 k hk z
theorem HT.has {D : DataW Unit} {H : List Hd} (h : HT D H) (o : Nat) : Maps.has D (.int .u32 (o : Int)) = (findH H o).isSome := by
  cases hf : findH H o with
  | none => exact has_false_of_atKey (h.2 o (findH_none hf))
  | some k => obtain ⟨hk, rfl⟩ := findH_some hf; exact has_true_of_atKey (h.1 k hk)

theorem OwnK.look_ok {w : World} {b : Nat} {K : List Kd} (h : OwnK w b K) (x : List UInt8) (hx : x.length ≤ maxLen) :
    (Instr.lookup 54 (.map (some b)) (encStr x) true).run Try.prog w = .ok (.tuple #[vK ((findK K x).getD zK), .bool (findK K x).isSome]) w := by
  obtain ⟨D, hown, hT, -⟩ := h
  obtain ⟨v, ps, hrun, hv⟩ := hown.look_ok lawK Try.underlying54 (Try.zeroValue46 w) (zd := dK zK) (zp := []) (rK_mk zK) (keyK x hx)
  rw [hT.find] at hv
  rw [hrun, hT.has]
  obtain ⟨k, rfl, e⟩ := rK_inv hv
  have e1 : (match findK K x with | none => dK zK | some k => dK k) = dK k := congrArg Prod.fst e
  have : (findK K x).getD zK = k := by
    cases hf : findK K x with
    | none => rw [hf] at e1; exact dK_inj e1
    | some k' => rw [hf] at e1; exact dK_inj e1
  rw [this]
theorem OwnK.look {w : World} {b : Nat} {K : List Kd} (h : OwnK w b K) (x : List UInt8) (hx : x.length ≤ maxLen) :
    (Instr.lookup 54 (.map (some b)) (encStr x) false).run Try.prog w = .ok (vK ((findK K x).getD zK)) w := by
  obtain ⟨D, hown, hT, -⟩ := h
  obtain ⟨v, ps, hrun, hv⟩ := hown.lookup lawK Try.underlying54 (Try.zeroValue46 w) (zd := dK zK) (zp := []) (rK_mk zK) (keyK x hx)
  rw [hT.find] at hv
  rw [hrun]
  obtain ⟨k, rfl, e⟩ := rK_inv hv
  have e1 : (match findK K x with | none => dK zK | some k => dK k) = dK k := congrArg Prod.fst e
  have : (findK K x).getD zK = k := by
    cases hf : findK K x with
    | none => rw [hf] at e1; exact dK_inj e1
    | some k' => rw [hf] at e1; exact dK_inj e1
  rw [this]
theorem OwnH.look_ok {w : World} {b : Nat} {H : List Hd} (h : OwnH w b H) (o : Nat) (ho : o < 4294967296) :
    (Instr.lookup 55 (.map (some b)) (.int .u32 (o : Int)) true).run Try.prog w = .ok (.tuple #[vH ((findH H o).getD zH), .bool (findH H o).isSome]) w := by
  obtain ⟨D, hown, hT, -⟩ := h
  obtain ⟨v, ps, hrun, hv⟩ := hown.look_ok lawH Try.underlying55 (Try.zeroValue68 w) (zd := dH zH) (zp := []) (rH_mk zH) (keyH o ho)
  rw [hT.find] at hv
  rw [hrun, hT.has]
  obtain ⟨k, rfl, e⟩ := rH_inv hv
  have e1 : (match findH H o with | none => dH zH | some k => dH k) = dH k := congrArg Prod.fst e
  have : ((findH H o).getD zH).n = k.n ∧ ((findH H o).getD zH).k = k.k := by
    cases hf : findH H o with
    | none => rw [hf] at e1; exact dH_inj e1
    | some k' => rw [hf] at e1; exact dH_inj e1
  unfold vH
  rw [this.1, this.2]
theorem OwnK.len {w : World} {b : Nat} {K : List Kd} (h : OwnK w b K) (ty : TypeId) : (Builtin.len_ #[54] ty #[.map (some b)]).run Try.prog w = .ok (.int .i64 K.length) w := by
  obtain ⟨D, hown, hT, hz⟩ := h
  rw [hown.len Try.underlying54 ty, hz]
theorem OwnH.len {w : World} {b : Nat} {H : List Hd} (h : OwnH w b H) (ty : TypeId) : (Builtin.len_ #[55] ty #[.map (some b)]).run Try.prog w = .ok (.int .i64 H.length) w := by
  obtain ⟨D, hown, hT, hz⟩ := h
  rw [hown.len Try.underlying55 ty, hz]

/-! ### what is stored and deleted -/
theorem isKeyS (x : List UInt8) : WideAt.IsKeyLit (.string x) := by simp [WideAt.IsKeyLit]
theorem isKeyI (o : Int) : WideAt.IsKeyLit (.int .u32 o) := by simp [WideAt.IsKeyLit]
theorem keyNe {a b : Nat} (h : a ≠ b) : (Lit.int .u32 (a : Int)) ≠ .int .u32 (b : Int) := fun e => h (by injection e with _ e; omega)
theorem OwnK.upd {w : World} {b : Nat} {K : List Kd} (h : OwnK w b K) (hs : KSort K) (k k0 : Kd) (h0 : k0 ∈ K) (e0 : k0.n = k.n) (hx : k.n.length ≤ maxLen) (hK : K.length ≤ 1000000) :
    ∃ w', (Instr.mapUpdate 54 (.map (some b)) (encStr k.n) (vK k)).run Try.prog w = .ok () w' ∧ OwnK w' b (updK K k) ∧ w.mapTurned w' b := by
  obtain ⟨D, hown, hT, hz⟩ := h
  obtain ⟨w', hrun, hown', ht⟩ := hown.store lawK Try.underlying54 (by unfold maxLen; omega) (keyK k.n hx) (rK_mk k)
  refine ⟨w', hrun, ⟨_, tight hown', ⟨?_, ?_⟩, ?_⟩, ht⟩
  · intro y hy z
    rcases mem_updK.1 hy with ⟨rfl, _⟩ | ⟨hy, hne⟩
    · exact atKey_put_same hown.isMap (isKeyS _) _ _
    · rw [atKey_put_other (by simpa using hne)]; exact hT.1 y hy z
  · intro x hx z
    have hne : x ≠ k.n := fun e => hx k (mem_updK.2 (.inl ⟨rfl, k0, h0, e0⟩)) e.symm
    rw [atKey_put_other (by simpa using hne)]
    refine hT.2 x (fun y hy e => ?_) z
    exact hx y (mem_updK.2 (.inr ⟨hy, fun e' => hne (e.symm.trans e')⟩)) e
  · have hh : Maps.has D (.string k.n) = true := by rw [hT.has, ← e0, hs.find h0]; rfl
    rw [size_put (hown.tidy lawK), if_pos hh, hz, updK_length]
theorem mem_insK {h y : Kd} : ∀ {H : List Kd}, y ∈ insK h H ↔ y = h ∨ y ∈ H
  | [] => by simp [insK]
  | x :: r => by
    unfold insK
    split
    · simp
    · simp only [List.mem_cons, mem_insK (H := r)]
      constructor
      · rintro (h | h | h) <;> simp [h]
      · rintro (h | h | h) <;> simp [h]
theorem insK_length (h : Kd) : ∀ H : List Kd, (insK h H).length = H.length + 1
  | [] => rfl
  | x :: r => by unfold insK; split <;> simp [insK_length h r]
theorem KSort.ins {K : List Kd} {k : Kd} (hs : KSort K) (hn : ∀ x ∈ K, x.n ≠ k.n) : KSort (insK k K) := by
  induction K with
  | nil => exact List.pairwise_singleton _ _
  | cons x r ih =>
    obtain ⟨h1, h2⟩ := List.pairwise_cons.1 hs
    unfold insK
    split
    · rename_i e
      refine List.pairwise_cons.2 ⟨fun y hy => ?_, hs⟩
      rcases List.mem_cons.1 hy with rfl | hy
      · exact e
      · exact nm_trans e (h1 y hy)
    · rename_i e
      refine List.pairwise_cons.2 ⟨fun y hy => ?_, ih h2 fun y hy => hn y (List.mem_cons_of_mem _ hy)⟩
      rcases mem_insK.1 hy with rfl | hy
      · exact nm_tri e (hn x (List.mem_cons_self ..)).symm
      · exact h1 y hy
theorem OwnK.add {w : World} {b : Nat} {K : List Kd} (h : OwnK w b K) (k : Kd) (hn : ∀ y ∈ K, y.n ≠ k.n) (hx : k.n.length ≤ maxLen) (hK : K.length ≤ 1000000) :
    ∃ w', (Instr.mapUpdate 54 (.map (some b)) (encStr k.n) (vK k)).run Try.prog w = .ok () w' ∧ OwnK w' b (insK k K) ∧ w.mapTurned w' b := by
  obtain ⟨D, hown, hT, hz⟩ := h
  obtain ⟨w', hrun, hown', ht⟩ := hown.store lawK Try.underlying54 (by unfold maxLen; omega) (keyK k.n hx) (rK_mk k)
  refine ⟨w', hrun, ⟨_, tight hown', ⟨?_, ?_⟩, ?_⟩, ht⟩
  · intro y hy z
    rcases mem_insK.1 hy with rfl | hy
    · exact atKey_put_same hown.isMap (isKeyS _) _ _
    · rw [atKey_put_other (by simpa using hn y hy)]; exact hT.1 y hy z
  · intro x hx z
    have hne : x ≠ k.n := fun e => hx k (mem_insK.2 (.inl rfl)) e.symm
    rw [atKey_put_other (by simpa using hne)]
    exact hT.2 x (fun y hy e => hx y (mem_insK.2 (.inr hy)) e) z
  · have hh : Maps.has D (.string k.n) = false := has_false_of_atKey (hT.2 k.n hn)
    rw [size_put (hown.tidy lawK), if_neg (by rw [hh]; decide), hz, insK_length]
theorem OwnH.add {w : World} {b : Nat} {H : List Hd} (h : OwnH w b H) (k : Hd) (hn : ∀ y ∈ H, y.o ≠ k.o) (hx : k.o < 4294967296) (hK : H.length ≤ 1000000) :
    ∃ w', (Instr.mapUpdate 55 (.map (some b)) (.int .u32 (k.o : Int)) (vH k)).run Try.prog w = .ok () w' ∧ OwnH w' b (insH k H) ∧ w.mapTurned w' b := by
  obtain ⟨D, hown, hT, hz⟩ := h
  obtain ⟨w', hrun, hown', ht⟩ := hown.store lawH Try.underlying55 (by unfold maxLen; omega) (keyH k.o hx) (rH_mk k)
  refine ⟨w', hrun, ⟨_, tight hown', ⟨?_, ?_⟩, ?_⟩, ht⟩
  · intro y hy z
    rcases mem_insH.1 hy with rfl | hy
    · exact atKey_put_same hown.isMap (isKeyI _) _ _
    · rw [atKey_put_other (keyNe (hn y hy))]; exact hT.1 y hy z
  · intro x hx z
    have hne : x ≠ k.o := fun e => hx k (mem_insH.2 (.inl rfl)) e.symm
    rw [atKey_put_other (keyNe hne)]
    exact hT.2 x (fun y hy e => hx y (mem_insH.2 (.inr hy)) e) z
  · have hh : Maps.has D (.int .u32 (k.o : Int)) = false := has_false_of_atKey (hT.2 k.o hn)
    rw [size_put (hown.tidy lawH), if_neg (by rw [hh]; decide), hz, insH_length]
theorem OwnH.del {w : World} {b : Nat} {H : List Hd} (h : OwnH w b H) (hs : HSort H) (k : Hd) (hk : k ∈ H) (hx : k.o < 4294967296) (ty : TypeId) :
    ∃ w', (Builtin.delete_ #[55, 33] ty #[.map (some b), .int .u32 (k.o : Int)]).run Try.prog w = .ok (.tuple #[]) w' ∧ OwnH w' b (delH H k.o) ∧ w.mapTurned w' b := by
  obtain ⟨D, hown, hT, hz⟩ := h
  obtain ⟨w', hrun, hown', ht⟩ := hown.drop lawH Try.underlying55 (keyH k.o hx) ty
  refine ⟨w', hrun, ⟨_, tight hown', ⟨?_, ?_⟩, ?_⟩, ht⟩
  · intro y hy z
    obtain ⟨hy, hne⟩ := mem_delH.1 hy
    rw [atKey_del_other (keyNe hne)]; exact hT.1 y hy z
  · intro x hx z
    by_cases e : x = k.o
    · subst e; exact atKey_del_same z
    · rw [atKey_del_other (keyNe e)]
      exact hT.2 x (fun y hy e' => hx y (mem_delH.2 ⟨hy, fun e2 => e (e'.symm.trans e2)⟩) e') z
  · have hh : Maps.has D (.int .u32 (k.o : Int)) = true := by rw [hT.has, hs.find hk]; rfl
    have h1 := size_del (k := .int .u32 (k.o : Int)) (hown.tidy lawH)
    rw [if_pos hh] at h1
    have h2 := delH_length hs hk
    omega

end Go.Proofs.Ytlgdjmmhdfpfeaa
