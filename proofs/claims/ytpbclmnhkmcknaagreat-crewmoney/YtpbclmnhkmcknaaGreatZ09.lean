/-
  Texts of one proof, in their order: StMapM, StStk, StEndF, StEndS.
-/
import Derived.Sort.KeysCollected
import Derived.Test.YtpbclmnhkmcknaaGreatZ08
namespace Go.Proofs.YtpbclmnhkmcknaaGreat.St
open Go.RowKit Go.Maps
open Go.WideMaps (keyOf_string_mk)
set_option maxRecDepth 100000
set_option linter.unusedVariables false
set_option linter.unusedSimpArgs false

abbrev vK (k : Kd) : Value := .agg #[encStr k.n, .int .i64 k.f, .int .i64 k.g]
abbrev vH (h : Hd) : Value := .agg #[encStr h.n, .int .i64 h.k]
def dK (k : Kd) : DataW Unit := .agg [.lit (.string k.n), .lit (.int .i64 k.f), .lit (.int .i64 k.g)]
def dH (h : Hd) : DataW Unit := .agg [.lit (.string h.n), .lit (.int .i64 h.k)]
def zK : Kd := ⟨[], 0, 0⟩
def zH : Hd := ⟨0, [], 0⟩
def rK : Value → Option (DataW Unit × List MemPlace)
  | .agg cs => match cs.toList with
    | [.string s, .int .i64 f, .int .i64 g] => some (dK ⟨s.data.toList, f, g⟩, [])
    | _ => none
  | _ => none
def rH : Value → Option (DataW Unit × List MemPlace)
  | .agg cs => match cs.toList with
    | [.string s, .int .i64 f] => some (dH ⟨0, s.data.toList, f⟩, [])
    | _ => none
  | _ => none
theorem rK_mk (k : Kd) : rK (vK k) = some (dK k, []) := by simp [rK, vK, encStr, dK]
theorem rH_mk (h : Hd) : rH (vH h) = some (dH h, []) := by simp [rH, vH, encStr, dH]
theorem rK_inv {v : Value} {y : DataW Unit × List MemPlace} (h : rK v = some y) : ∃ k, v = vK k ∧ y = (dK k, []) := by
  unfold rK at h
  split at h
  · rename_i cs
    split at h
    · rename_i s f g e
      refine ⟨⟨s.data.toList, f, g⟩, ?_, by simpa using h.symm⟩
      have : cs = #[.string s, .int .i64 f, .int .i64 g] := by rw [← Array.toList_inj, e]
      rw [this]
    · cases h
  · cases h
theorem rH_inv {v : Value} {y : DataW Unit × List MemPlace} (h : rH v = some y) : ∃ k, v = vH k ∧ y = (dH k, []) := by
  unfold rH at h
  split at h
  · rename_i cs
    split at h
    · rename_i s f e
      refine ⟨⟨0, s.data.toList, f⟩, ?_, by simpa using h.symm⟩
      have : cs = #[.string s, .int .i64 f] := by rw [← Array.toList_inj, e]
      rw [this]
    · cases h
  · cases h
theorem dK_inj {a b : Kd} (h : dK a = dK b) : a = b := by
  unfold dK at h
  simp only [DataW.agg.injEq, List.cons.injEq, DataW.lit.injEq, Lit.string.injEq, Lit.int.injEq, true_and, and_true] at h
  cases a; cases b; simp_all
theorem dH_inj {a b : Hd} (h : dH a = dH b) : a.n = b.n ∧ a.k = b.k := by
  unfold dH at h
  simp only [DataW.agg.injEq, List.cons.injEq, DataW.lit.injEq, Lit.string.injEq, Lit.int.injEq, true_and, and_true] at h
  exact h

theorem lawK : Keyed Tryz.prog 9 := string_keyed Tryz.underlying9
theorem lawH : Keyed Tryz.prog 52 := int_keyed Tryz.underlying52
theorem keyK (x : List UInt8) (hx : x.length ≤ maxLen) : keyOf Tryz.prog 9 (encStr x) = some (.string x) := by
  have := keyOf_string_mk (P := Tryz.prog) (s := ⟨x.toArray⟩) Tryz.underlying9 (by simpa [ByteArray.size] using hx)
  simpa using this
theorem keyH (o : Nat) (ho : o < 4294967296) : keyOf Tryz.prog 52 (.int .u32 (o : Int)) = some (.int .u32 (o : Int)) :=
  keyOf_int_mk Tryz.underlying52 (WalkArith.wf_u32 (by omega))

/-- The map's datum holds just these kinds. -/
def KT (D : DataW Unit) (K : List Kd) : Prop := (∀ k ∈ K, ∀ z, D.atKey (.string k.n) z = dK k) ∧ ∀ x, (∀ k ∈ K, k.n ≠ x) → ∀ z, D.atKey (.string x) z = z
def HT (D : DataW Unit) (H : List Hd) : Prop := (∀ h ∈ H, ∀ z, D.atKey (.int .u32 (h.o : Int)) z = dH h) ∧ ∀ o : Nat, (∀ h ∈ H, h.o ≠ o) → ∀ z, D.atKey (.int .u32 (o : Int)) z = z
def OwnK (w : World) (b : Nat) (K : List Kd) : Prop := ∃ D, w.ownsMap Tryz.prog 9 rK b (Maps.size D) D ∧ KT D K ∧ Maps.size D = K.length
def OwnH (w : World) (b : Nat) (H : List Hd) : Prop := ∃ D, w.ownsMap Tryz.prog 52 rH b (Maps.size D) D ∧ HT D H ∧ Maps.size D = H.length

theorem tight {w : World} {k : TypeId} {R : Value → Option (DataW Unit × List MemPlace)} {b n : Nat} {D : DataW Unit} (h : w.ownsMap Tryz.prog k R b n D) : w.ownsMap Tryz.prog k R b (Maps.size D) D := by
  obtain ⟨es, clock, hb, F, hs, rfl⟩ := h
  refine ⟨es, clock, hb, F, ?_, rfl⟩
  simp [Maps.size, length_sorted]

theorem OwnK.lt {w : World} {b : Nat} {K : List Kd} (h : OwnK w b K) : b < w.heap.size := by obtain ⟨D, h, -⟩ := h; exact h.lt
theorem OwnH.lt {w : World} {b : Nat} {H : List Hd} (h : OwnH w b H) : b < w.heap.size := by obtain ⟨D, h, -⟩ := h; exact h.lt
theorem OwnK.same {w w' : World} {b : Nat} {K : List Kd} (h : OwnK w b K) (e : w'.heap[b]? = w.heap[b]?) : OwnK w' b K := by
  obtain ⟨D, ⟨es, clock, hb, r⟩, h2⟩ := h
  exact ⟨D, ⟨es, clock, e.trans hb, r⟩, h2⟩
theorem OwnH.same {w w' : World} {b : Nat} {H : List Hd} (h : OwnH w b H) (e : w'.heap[b]? = w.heap[b]?) : OwnH w' b H := by
  obtain ⟨D, ⟨es, clock, hb, r⟩, h2⟩ := h
  exact ⟨D, ⟨es, clock, e.trans hb, r⟩, h2⟩

theorem OwnK.made (w : World) : OwnK (w.alloc (.map #[] 0)) w.heap.size [] :=
  ⟨.map [], World.ownsMap_made w Tryz.prog 9 rK, ⟨(fun k hk => absurd hk (by simp)), fun x _ z => rfl⟩, rfl⟩
theorem OwnH.made (w : World) : OwnH (w.alloc (.map #[] 0)) w.heap.size [] :=
  ⟨.map [], World.ownsMap_made w Tryz.prog 52 rH, ⟨(fun k hk => absurd hk (by simp)), fun x _ z => rfl⟩, rfl⟩

/-! ### what is looked up -/
theorem KT.find {D : DataW Unit} {K : List Kd} (h : KT D K) (x : List UInt8) (z : DataW Unit) : D.atKey (.string x) z = match findK K x with | none => z | some k => dK k := by
  cases hf : findK K x with
  | none => exact h.2 x (findK_none hf) z
  | some k => obtain ⟨hk, rfl⟩ := findK_some hf; exact h.1 k hk z
theorem KT.has {D : DataW Unit} {K : List Kd} (h : KT D K) (x : List UInt8) : Maps.has D (.string x) = (findK K x).isSome := by
  cases hf : findK K x with
  | none => exact has_false_of_atKey (h.2 x (findK_none hf))
  | some k => obtain ⟨hk, rfl⟩ := findK_some hf; exact has_true_of_atKey (h.1 k hk)
theorem HT.find {D : DataW Unit} {H : List Hd} (h : HT D H) (o : Nat) (z : DataW Unit) : D.atKey (.int .u32 (o : Int)) z = match findH H o with | none => z | some k => dH k := by
  cases hf : findH H o with
  | none => exact h.2 o (findH_none hf) z
  | some k => obtain ⟨hk, rfl⟩ := findH_some hf; exact h.1 k hk z
theorem HT.has {D : DataW Unit} {H : List Hd} (h : HT D H) (o : Nat) : Maps.has D (.int .u32 (o : Int)) = (findH H o).isSome := by
  cases hf : findH H o with
  | none => exact has_false_of_atKey (h.2 o (findH_none hf))
  | some k => obtain ⟨hk, rfl⟩ := findH_some hf; exact has_true_of_atKey (h.1 k hk)

theorem OwnK.look_ok {w : World} {b : Nat} {K : List Kd} (h : OwnK w b K) (x : List UInt8) (hx : x.length ≤ maxLen) :
    (Instr.lookup 172 (.map (some b)) (encStr x) true).run Tryz.prog w = .ok (.tuple #[vK ((findK K x).getD zK), .bool (findK K x).isSome]) w := by
  obtain ⟨D, hown, hT, -⟩ := h
  obtain ⟨v, ps, hrun, hv⟩ := hown.look_ok lawK Tryz.underlying172 (Tryz.zeroValue178 w) (zd := dK zK) (zp := []) (rK_mk zK) (keyK x hx)
  rw [hT.find] at hv
  rw [hrun, hT.has]
  obtain ⟨k, rfl, e⟩ := rK_inv hv
  have e1 : (match findK K x with | none => dK zK | some k => dK k) = dK k := congrArg Prod.fst e
  have : (findK K x).getD zK = k := by
    cases hf : findK K x with
    | none => rw [hf] at e1; exact dK_inj e1
    | some k' => rw [hf] at e1; exact dK_inj e1
  rw [this]
theorem OwnK.look {w : World} {b : Nat} {K : List Kd} (h : OwnK w b K) (x : List UInt8) (hx : x.length ≤ maxLen) :
    (Instr.lookup 172 (.map (some b)) (encStr x) false).run Tryz.prog w = .ok (vK ((findK K x).getD zK)) w := by
  obtain ⟨D, hown, hT, -⟩ := h
  obtain ⟨v, ps, hrun, hv⟩ := hown.lookup lawK Tryz.underlying172 (Tryz.zeroValue178 w) (zd := dK zK) (zp := []) (rK_mk zK) (keyK x hx)
  rw [hT.find] at hv
  rw [hrun]
  obtain ⟨k, rfl, e⟩ := rK_inv hv
  have e1 : (match findK K x with | none => dK zK | some k => dK k) = dK k := congrArg Prod.fst e
  have : (findK K x).getD zK = k := by
    cases hf : findK K x with
    | none => rw [hf] at e1; exact dK_inj e1
    | some k' => rw [hf] at e1; exact dK_inj e1
  rw [this]
theorem OwnH.look_ok {w : World} {b : Nat} {H : List Hd} (h : OwnH w b H) (o : Nat) (ho : o < 4294967296) :
    (Instr.lookup 173 (.map (some b)) (.int .u32 (o : Int)) true).run Tryz.prog w = .ok (.tuple #[vH ((findH H o).getD zH), .bool (findH H o).isSome]) w := by
  obtain ⟨D, hown, hT, -⟩ := h
  obtain ⟨v, ps, hrun, hv⟩ := hown.look_ok lawH Tryz.underlying173 (Tryz.zeroValue279 w) (zd := dH zH) (zp := []) (rH_mk zH) (keyH o ho)
  rw [hT.find] at hv
  rw [hrun, hT.has]
  obtain ⟨k, rfl, e⟩ := rH_inv hv
  have e1 : (match findH H o with | none => dH zH | some k => dH k) = dH k := congrArg Prod.fst e
  have : ((findH H o).getD zH).n = k.n ∧ ((findH H o).getD zH).k = k.k := by
    cases hf : findH H o with
    | none => rw [hf] at e1; exact dH_inj e1
    | some k' => rw [hf] at e1; exact dH_inj e1
  unfold vH
  rw [this.1, this.2]
theorem OwnK.len {w : World} {b : Nat} {K : List Kd} (h : OwnK w b K) (ty : TypeId) : (Builtin.len_ #[172] ty #[.map (some b)]).run Tryz.prog w = .ok (.int .i64 K.length) w := by
  obtain ⟨D, hown, hT, hz⟩ := h
  rw [hown.len Tryz.underlying172 ty, hz]
theorem OwnH.len {w : World} {b : Nat} {H : List Hd} (h : OwnH w b H) (ty : TypeId) : (Builtin.len_ #[173] ty #[.map (some b)]).run Tryz.prog w = .ok (.int .i64 H.length) w := by
  obtain ⟨D, hown, hT, hz⟩ := h
  rw [hown.len Tryz.underlying173 ty, hz]

/-! ### what is stored and deleted -/
theorem isKeyS (x : List UInt8) : WideAt.IsKeyLit (.string x) := by simp [WideAt.IsKeyLit]
theorem isKeyI (o : Int) : WideAt.IsKeyLit (.int .u32 o) := by simp [WideAt.IsKeyLit]
theorem keyNe {a b : Nat} (h : a ≠ b) : (Lit.int .u32 (a : Int)) ≠ .int .u32 (b : Int) := fun e => h (by injection e with _ e; omega)
theorem OwnK.upd {w : World} {b : Nat} {K : List Kd} (h : OwnK w b K) (hs : KSort K) (k k0 : Kd) (h0 : k0 ∈ K) (e0 : k0.n = k.n) (hx : k.n.length ≤ maxLen) (hK : K.length ≤ 1000000) :
    ∃ w', (Instr.mapUpdate 172 (.map (some b)) (encStr k.n) (vK k)).run Tryz.prog w = .ok () w' ∧ OwnK w' b (updK K k) ∧ w.mapTurned w' b := by
  obtain ⟨D, hown, hT, hz⟩ := h
  obtain ⟨w', hrun, hown', ht⟩ := hown.store lawK Tryz.underlying172 (by unfold maxLen; omega) (keyK k.n hx) (rK_mk k)
  refine ⟨w', hrun, ⟨_, tight hown', ⟨?_, ?_⟩, ?_⟩, ht⟩
  · intro y hy z
    rcases mem_updK.1 hy with ⟨rfl, _⟩ | ⟨hy, hne⟩
    · exact atKey_put_same hown.isMap (isKeyS _) _ _
    · rw [atKey_put_other (by simpa using hne)]; exact hT.1 y hy z
  · intro x hx z
    have hne : x ≠ k.n := fun e => hx k (mem_updK.2 (.inl ⟨rfl, k0, h0, e0⟩)) e.symm
    rw [atKey_put_other (by simpa using hne)]
    refine hT.2 x (fun y hy e => ?_) z
    exact hx y (mem_updK.2 (.inr ⟨hy, fun e' => hne (e.symm.trans e')⟩)) e
  · have hh : Maps.has D (.string k.n) = true := by rw [hT.has, ← e0, hs.find h0]; rfl
    rw [size_put (hown.tidy lawK), if_pos hh, hz, updK_length]
theorem mem_insK {h y : Kd} : ∀ {H : List Kd}, y ∈ insK h H ↔ y = h ∨ y ∈ H
  | [] => by simp [insK]
  | x :: r => by
    unfold insK
    split
    · simp
    · simp only [List.mem_cons, mem_insK (H := r)]
      constructor
      · rintro (h | h | h) <;> simp [h]
      · rintro (h | h | h) <;> simp [h]
theorem insK_length (h : Kd) : ∀ H : List Kd, (insK h H).length = H.length + 1
  | [] => rfl
  | x :: r => by unfold insK; split <;> simp [insK_length h r]
theorem KSort.ins {K : List Kd} {k : Kd} (hs : KSort K) (hn : ∀ x ∈ K, x.n ≠ k.n) : KSort (insK k K) := by
  induction K with
  | nil => exact List.pairwise_singleton _ _
  | cons x r ih =>
    obtain ⟨h1, h2⟩ := List.pairwise_cons.1 hs
    unfold insK
    split
    · rename_i e
      refine List.pairwise_cons.2 ⟨fun y hy => ?_, hs⟩
      rcases List.mem_cons.1 hy with rfl | hy
      · exact e
      · exact nm_trans e (h1 y hy)
    · rename_i e
      refine List.pairwise_cons.2 ⟨fun y hy => ?_, ih h2 fun y hy => hn y (List.mem_cons_of_mem _ hy)⟩
      rcases mem_insK.1 hy with rfl | hy
      · exact nm_tri e (hn x (List.mem_cons_self ..)).symm
      · exact h1 y hy
theorem OwnK.add {w : World} {b : Nat} {K : List Kd} (h : OwnK w b K) (k : Kd) (hn : ∀ y ∈ K, y.n ≠ k.n) (hx : k.n.length ≤ maxLen) (hK : K.length ≤ 1000000) :
    ∃ w', (Instr.mapUpdate 172 (.map (some b)) (encStr k.n) (vK k)).run Tryz.prog w = .ok () w' ∧ OwnK w' b (insK k K) ∧ w.mapTurned w' b := by
  obtain ⟨D, hown, hT, hz⟩ := h
  obtain ⟨w', hrun, hown', ht⟩ := hown.store lawK Tryz.underlying172 (by unfold maxLen; omega) (keyK k.n hx) (rK_mk k)
  refine ⟨w', hrun, ⟨_, tight hown', ⟨?_, ?_⟩, ?_⟩, ht⟩
  · intro y hy z
    rcases mem_insK.1 hy with rfl | hy
    · exact atKey_put_same hown.isMap (isKeyS _) _ _
    · rw [atKey_put_other (by simpa using hn y hy)]; exact hT.1 y hy z
  · intro x hx z
    have hne : x ≠ k.n := fun e => hx k (mem_insK.2 (.inl rfl)) e.symm
    rw [atKey_put_other (by simpa using hne)]
    exact hT.2 x (fun y hy e => hx y (mem_insK.2 (.inr hy)) e) z
  · have hh : Maps.has D (.string k.n) = false := has_false_of_atKey (hT.2 k.n hn)
    rw [size_put (hown.tidy lawK), if_neg (by rw [hh]; decide), hz, insK_length]
theorem OwnH.add {w : World} {b : Nat} {H : List Hd} (h : OwnH w b H) (k : Hd) (hn : ∀ y ∈ H, y.o ≠ k.o) (hx : k.o < 4294967296) (hK : H.length ≤ 1000000) :
    ∃ w', (Instr.mapUpdate 173 (.map (some b)) (.int .u32 (k.o : Int)) (vH k)).run Tryz.prog w = .ok () w' ∧ OwnH w' b (insH k H) ∧ w.mapTurned w' b := by
  obtain ⟨D, hown, hT, hz⟩ := h
  obtain ⟨w', hrun, hown', ht⟩ := hown.store lawH Tryz.underlying173 (by unfold maxLen; omega) (keyH k.o hx) (rH_mk k)
  refine ⟨w', hrun, ⟨_, tight hown', ⟨?_, ?_⟩, ?_⟩, ht⟩
  · intro y hy z
    rcases mem_insH.1 hy with rfl | hy
    · exact atKey_put_same hown.isMap (isKeyI _) _ _
    · rw [atKey_put_other (keyNe (hn y hy))]; exact hT.1 y hy z
  · intro x hx z
    have hne : x ≠ k.o := fun e => hx k (mem_insH.2 (.inl rfl)) e.symm
    rw [atKey_put_other (keyNe hne)]
    exact hT.2 x (fun y hy e => hx y (mem_insH.2 (.inr hy)) e) z
  · have hh : Maps.has D (.int .u32 (k.o : Int)) = false := has_false_of_atKey (hT.2 k.o hn)
    rw [size_put (hown.tidy lawH), if_neg (by rw [hh]; decide), hz, insH_length]
theorem OwnH.del {w : World} {b : Nat} {H : List Hd} (h : OwnH w b H) (hs : HSort H) (k : Hd) (hk : k ∈ H) (hx : k.o < 4294967296) (ty : TypeId) :
    ∃ w', (Builtin.delete_ #[173, 52] ty #[.map (some b), .int .u32 (k.o : Int)]).run Tryz.prog w = .ok (.tuple #[]) w' ∧ OwnH w' b (delH H k.o) ∧ w.mapTurned w' b := by
  obtain ⟨D, hown, hT, hz⟩ := h
  obtain ⟨w', hrun, hown', ht⟩ := hown.drop lawH Tryz.underlying173 (keyH k.o hx) ty
  refine ⟨w', hrun, ⟨_, tight hown', ⟨?_, ?_⟩, ?_⟩, ht⟩
  · intro y hy z
    obtain ⟨hy, hne⟩ := mem_delH.1 hy
    rw [atKey_del_other (keyNe hne)]; exact hT.1 y hy z
  · intro x hx z
    by_cases e : x = k.o
    · subst e; exact atKey_del_same z
    · rw [atKey_del_other (keyNe e)]
      exact hT.2 x (fun y hy e' => hx y (mem_delH.2 ⟨hy, fun e2 => e (e'.symm.trans e2)⟩) e') z
  · have hh : Maps.has D (.int .u32 (k.o : Int)) = true := by rw [hT.has, hs.find hk]; rfl
    have h1 := size_del (k := .int .u32 (k.o : Int)) (hown.tidy lawH)
    rw [if_pos hh] at h1
    have h2 := delH_length hs hk
    omega

end Go.Proofs.YtpbclmnhkmcknaaGreat.St

namespace Go.Proofs.YtpbclmnhkmcknaaGreat.St
open Go.RowKit Go.Maps
set_option maxRecDepth 100000
set_option linter.unusedVariables false
set_option linter.unusedSimpArgs false

theorem Lies.cells2 {w : World} {g : Nat} {t : TypeId} {a b : Value} (h : Lies w g t #[a, b]) : w.cell? ⟨g, 0, none⟩ = some a ∧ w.cell? ⟨g, 1, none⟩ = some b := ⟨h.cell 0, h.cell 1⟩
theorem Lies.cells3 {w : World} {g : Nat} {t : TypeId} {a b c : Value} (h : Lies w g t #[a, b, c]) : w.cell? ⟨g, 0, none⟩ = some a ∧ w.cell? ⟨g, 1, none⟩ = some b ∧ w.cell? ⟨g, 2, none⟩ = some c := ⟨h.cell 0, h.cell 1, h.cell 2⟩
theorem Lies.cells4 {w : World} {g : Nat} {t : TypeId} {a b c d : Value} (h : Lies w g t #[a, b, c, d]) : w.cell? ⟨g, 0, none⟩ = some a ∧ w.cell? ⟨g, 1, none⟩ = some b ∧ w.cell? ⟨g, 2, none⟩ = some c ∧ w.cell? ⟨g, 3, none⟩ = some d := ⟨h.cell 0, h.cell 1, h.cell 2, h.cell 3⟩
theorem Lies.free2 {w : World} {g : Nat} {t : TypeId} {cs : Array Value} (h : Lies w g t cs) : w.frozen? ⟨g, 0, none⟩ = false ∧ w.frozen? ⟨g, 1, none⟩ = false := ⟨h.free 0, h.free 1⟩
theorem Lies.free3 {w : World} {g : Nat} {t : TypeId} {cs : Array Value} (h : Lies w g t cs) : w.frozen? ⟨g, 0, none⟩ = false ∧ w.frozen? ⟨g, 1, none⟩ = false ∧ w.frozen? ⟨g, 2, none⟩ = false := ⟨h.free 0, h.free 1, h.free 2⟩
theorem Lies.free4 {w : World} {g : Nat} {t : TypeId} {cs : Array Value} (h : Lies w g t cs) : w.frozen? ⟨g, 0, none⟩ = false ∧ w.frozen? ⟨g, 1, none⟩ = false ∧ w.frozen? ⟨g, 2, none⟩ = false ∧ w.frozen? ⟨g, 3, none⟩ = false := ⟨h.free 0, h.free 1, h.free 2, h.free 3⟩
theorem Lies.same {w w' : World} {g : Nat} {t : TypeId} {cs : Array Value} (h : Lies w g t cs) (e : w'.heap[g]? = w.heap[g]?) : Lies w' g t cs := e.trans h

/-- The blocks of a stock. -/
structure SB where
  s : Nat
  k : Nat
  h : Nat
structure At (w : World) (b : SB) (q : Ss) : Prop where
  c : Lies w b.s 175 #[.map (some b.k), .map (some b.h)]
  ok : OwnK w b.k q.K
  oh : OwnH w b.h q.H
  n : b.k ≠ b.h
theorem At.nk {w : World} {b : SB} {q : Ss} (h : At w b q) : b.k ≠ b.s := fun e => by
  obtain ⟨D, ⟨es, clock, hb, -⟩, -⟩ := h.ok
  have := h.c
  unfold Lies at this
  rw [← e, hb] at this
  cases this
theorem At.nh {w : World} {b : SB} {q : Ss} (h : At w b q) : b.h ≠ b.s := fun e => by
  obtain ⟨D, ⟨es, clock, hb, -⟩, -⟩ := h.oh
  have := h.c
  unfold Lies at this
  rw [← e, hb] at this
  cases this

/-- Nothing but the two maps, and what is new, has turned. -/
structure Frm (w w' : World) (b : SB) : Prop where
  os : w'.os = w.os
  tape : w'.tape = w.tape
  output : w'.output = w.output
  size : w.heap.size ≤ w'.heap.size
  block : ∀ i, i < w.heap.size → i ≠ b.k → i ≠ b.h → w'.heap[i]? = w.heap[i]?
theorem Frm.refl (w : World) (b : SB) : Frm w w b := ⟨rfl, rfl, rfl, Nat.le_refl _, fun _ _ _ _ => rfl⟩
theorem Frm.trans {w w' w'' : World} {b : SB} (h : Frm w w' b) (h' : Frm w' w'' b) : Frm w w'' b :=
  ⟨h'.os.trans h.os, h'.tape.trans h.tape, h'.output.trans h.output, Nat.le_trans h.size h'.size, fun i hi h1 h2 => (h'.block i (Nat.lt_of_lt_of_le hi h.size) h1 h2).trans (h.block i hi h1 h2)⟩
theorem Frm.of_below {w w' : World} (b : SB) (h : Below w.heap.size w w') : Frm w w' b := ⟨h.os, h.tape, h.output, h.size, fun i hi _ _ => h.block i hi⟩
theorem Frm.of_grown {w w' : World} {b : SB} {r : Nat} (h : w.grownBy w' (some r)) (hr : r = b.k ∨ r = b.h) : Frm w w' b :=
  ⟨h.os, h.tape, h.output, h.size, fun i hi h1 h2 => h.block i hi (fun e => by injection e with e; subst e; rcases hr with hr | hr <;> contradiction)⟩
theorem Frm.drew {w w' : World} {b : SB} (h : Frm w w' b) : Frm w w'.drew b := ⟨h.os, h.tape, h.output, h.size, h.block⟩
theorem Frm.alloc {w w' : World} {b : SB} (h : Frm w w' b) (o : Obj) : Frm w (w'.alloc o) b := h.trans (Frm.of_below b (below1 w' o))
theorem Frm.lies {w w' : World} {b : SB} (h : Frm w w' b) {g : Nat} {t : TypeId} {cs : Array Value} (hL : Lies w g t cs) (h1 : g ≠ b.k) (h2 : g ≠ b.h) : Lies w' g t cs := hL.same (h.block g hL.lt h1 h2)
theorem Frm.below {w w' a : World} {b : SB} {B : Nat} (h : Frm w w' b) (hb : Below B a w) (hB : B ≤ w.heap.size) (h1 : B ≤ b.k) (h2 : B ≤ b.h) : Below B a w' :=
  ⟨h.os.trans hb.os, h.tape.trans hb.tape, h.output.trans hb.output, Nat.le_trans hb.size h.size, fun k hk => (h.block k (by omega) (by omega) (by omega)).trans (hb.block k hk)⟩

theorem At.below {w w' : World} {b : SB} {q : Ss} (h : At w b q) (hb : Below w.heap.size w w') : At w' b q :=
  ⟨h.c.same (hb.block _ h.c.lt), h.ok.same (hb.block _ h.ok.lt), h.oh.same (hb.block _ h.oh.lt), h.n⟩
theorem At.alloc {w : World} {b : SB} {q : Ss} (h : At w b q) (o : Obj) : At (w.alloc o) b q := h.below (below1 w o)
theorem At.drew {w : World} {b : SB} {q : Ss} (h : At w b q) : At w.drew b q := ⟨h.c, h.ok, h.oh, h.n⟩
theorem At.setCell {w : World} {b : SB} {q : Ss} (h : At w b q) {g : Nat} {t : TypeId} {cs : Array Value} (hL : Lies w g t cs) (hn : g ≠ b.s) (i : Nat) (v : Value) : At (w.setCell ⟨g, i, none⟩ v) b q := by
  have hk : b.k ≠ g := fun e => by
    obtain ⟨D, ⟨es, clock, hb, -⟩, -⟩ := h.ok
    unfold Lies at hL
    rw [← e, hb] at hL
    cases hL
  have hh : b.h ≠ g := fun e => by
    obtain ⟨D, ⟨es, clock, hb, -⟩, -⟩ := h.oh
    unfold Lies at hL
    rw [← e, hb] at hL
    cases hL
  exact ⟨h.c.other (Ne.symm hn) v, h.ok.same (heap_setCell_other w _ _ v hk), h.oh.same (heap_setCell_other w _ _ v hh), h.n⟩
/-- Another stock is as it was. -/
theorem Frm.at_other {w w' : World} {b c : SB} {q : Ss} (h : Frm w w' b) (hA : At w c q) (h1 : c.s ≠ b.k ∧ c.s ≠ b.h) (h2 : c.k ≠ b.k ∧ c.k ≠ b.h) (h3 : c.h ≠ b.k ∧ c.h ≠ b.h) : At w' c q :=
  ⟨h.lies hA.c h1.1 h1.2, hA.ok.same (h.block _ hA.ok.lt h2.1 h2.2), hA.oh.same (h.block _ hA.oh.lt h3.1 h3.2), hA.n⟩

theorem At.turnK {w w' : World} {b : SB} {q : Ss} {K' : List Kd} (h : At w b q) (ho : OwnK w' b.k K') (ht : w.mapTurned w' b.k) : At w' b ⟨K', q.H⟩ ∧ Frm w w' b := by
  have hF := Frm.of_grown (b := b) ht.grown (.inl rfl)
  have hg := ht.grown
  exact ⟨⟨h.c.same (hg.block _ h.c.lt (fun e => h.nk (by injection e with e; exact e.symm))), ho, h.oh.same (hg.block _ h.oh.lt (fun e => h.n (by injection e with e; exact e.symm))), h.n⟩, hF⟩
theorem At.turnH {w w' : World} {b : SB} {q : Ss} {H' : List Hd} (h : At w b q) (ho : OwnH w' b.h H') (ht : w.mapTurned w' b.h) : At w' b ⟨q.K, H'⟩ ∧ Frm w w' b := by
  have hF := Frm.of_grown (b := b) ht.grown (.inr rfl)
  have hg := ht.grown
  exact ⟨⟨h.c.same (hg.block _ h.c.lt (fun e => h.nh (by injection e with e; exact e.symm))), h.ok.same (hg.block _ h.ok.lt (fun e => h.n (by injection e with e))), ho, h.n⟩, hF⟩

/-- A store into a map, where the order is open. -/
theorem stp_upd {ops : Array Oper} {a : Act} {w : World} {K : Act → World → Prop} {Q : Exit → Act → World → Prop} {E : Prop} (dst : Option Tmp) (ty : TypeId) (pos : String) (aft : Array Edge) (t : TypeId) (m k v : Operand)
    (mv kv vv : Value) (w' : World) (hm : a.eval m = mv) (hk : a.eval k = kv) (hv : a.eval v = vv) (hrun : (Instr.mapUpdate t mv kv vv).run Tryz.prog w = .ok () w') (h : K (a.put dst undef) w') :
    if Region.wanted ⟨dst, .mapUpdate t m k v, ty, pos, aft, none⟩ (yielded ops a.tmps) = true then Oper.wp Tryz.prog ⟨dst, .mapUpdate t m k v, ty, pos, aft, none⟩ a w K Q else E := by
  rw [if_pos (by simp [Region.wanted])]
  unfold Oper.wp
  simp [execOp, hm, hk, hv, hrun, Result.andThen]
  exact h
/-- .. where it is not. -/
theorem wpl_upd {ops : Array Oper} {rest : List Oper} {a : Act} {w : World} {Q : Exit → Act → World → Prop} (dst : Option Tmp) (ty : TypeId) (pos : String) (aft : Array Edge) (t : TypeId) (m k v : Operand)
    (mv kv vv : Value) (w' : World) (hm : a.eval m = mv) (hk : a.eval k = kv) (hv : a.eval v = vv) (hrun : (Instr.mapUpdate t mv kv vv).run Tryz.prog w = .ok () w') (h : wpList Tryz.prog ops Q rest (a.put dst undef) w') :
    wpList Tryz.prog ops Q (⟨dst, .mapUpdate t m k v, ty, pos, aft, none⟩ :: rest) a w := by
  refine wpList_plain rfl fun K' hK' => ?_
  unfold Oper.wp
  simp [execOp, hm, hk, hv, hrun, Result.andThen]
  exact hK' _ _ h

end Go.Proofs.YtpbclmnhkmcknaaGreat.St

namespace Go.Proofs.YtpbclmnhkmcknaaGreat.St
open Go.RowKit
set_option maxRecDepth 100000
set_option linter.unusedVariables false
set_option linter.unusedSimpArgs false

def EndPost (w : World) (b : SB) (q : Ss) (o : Nat) (t : Bool) (e : Ending) (w' : World) : Prop :=
  e = .returned (.int .i64 (verd (endV q o))) ∧ At w' b (endS q o t) ∧ Frm w w' b
theorem frm_set {w w' : World} {b : SB} (h : Frm w w' b) {g : Nat} (hg : w.heap.size ≤ g) (i : Nat) (v : Value) : Frm w (w'.setCell ⟨g, i, none⟩ v) b :=
  ⟨by rw [← h.os]; rfl, by rw [← h.tape]; rfl, by rw [← h.output]; rfl, by simpa using h.size, fun k hk h1 h2 => (heap_setCell_other w' ⟨g, i, none⟩ k v (by show k ≠ g; omega)).trans (h.block k hk h1 h2)⟩
set_option maxHeartbeats 4000000 in
theorem free_end (b : SB) (q : Ss) (o : Nat) (w : World) (hA : At w b q) (hI : Inv q) (ho : o < 4294967296) :
    Calls Tryz.prog 190 #[.pointer (some ⟨b.s, 0, none⟩), .int .u32 (o : Int), .int .i64 0] w (EndPost w b q o false) := by
  have HA := Lib.hid hA
  have HI := Lib.hid hI
  obtain ⟨c0, c1⟩ := hA.c.cells2
  have r1 := hA.oh.look_ok o ho
  cases hf : findH q.H o with
  | none =>
    have HF := Lib.hid hf
    rw [hf] at r1
    dsimp only [Option.getD_none, Option.isSome_none] at r1
    clear hA hI hf c0
    go_enter Tryz.func190, Tryz.ntmps190
    go_wp2
    go_ret
    refine ⟨by unfold endV; rw [HF.out]; rfl, ?_, Frm.of_below b (below1 _ _)⟩
    rw [endS_no HF.out]
    exact HA.out.alloc _
  | some y =>
    rw [hf] at r1
    dsimp only [Option.getD_some, Option.isSome_some] at r1
    obtain ⟨hy, rfl⟩ := findH_some hf
    obtain ⟨k, hk, hm, hkn⟩ := hI.kn hy
    have HFO := Lib.hid hf
    have HK := Lib.hid hk
    have HM := Lib.hid (And.intro hm hkn)
    have HEV : Hid (endV q y.o = true) := Lib.hid (by unfold endV; rw [hf]; rfl)
    have HYL : Hid (y.n.length ≤ maxLen) := Lib.hid (by have := (hI.kb hy).2; unfold maxLen; omega)
    have hb1 : 1 ≤ y.k := (hI.hh y hy).1
    have hb2 : y.k ≤ 1000000 := (hI.kb hy).1
    have hb3 : 0 ≤ k.f ∧ 0 ≤ k.g ∧ k.f ≤ 1000000 ∧ k.g ≤ 1000000 := by
      have h1 := hI.kf k hm
      have h2 := held_nonneg (fun z hz => (hI.hh z hz).1) k.n
      omega
    obtain ⟨hb4, hb5, hb6, hb7⟩ := hb3
    have HA1 := Lib.hid (hA.alloc (.cells #[encStr y.n, .int .i64 y.k] 279))
    obtain ⟨w2, hd1, hd2, hd3⟩ := HA1.out.oh.del hI.hs y hy ho 0
    obtain ⟨d0, d1⟩ := HA1.out.c.cells2
    obtain ⟨hA2, hF2⟩ := HA1.out.turnH hd2 hd3
    have HA2 := Lib.hid hA2
    have HF2 := Lib.hid ((Frm.of_below b (below1 w (.cells #[encStr y.n, .int .i64 y.k] 279))).trans hF2)
    have L2 := Lib.hid (hF2.lies (Lies.made w 279 #[encStr y.n, .int .i64 y.k]) (Nat.ne_of_gt hA.ok.lt) (Nat.ne_of_gt hA.oh.lt))
    have HNE : Hid (w.heap.size ≠ w2.heap.size ∧ b.s ≠ w2.heap.size) := Lib.hid ⟨Nat.ne_of_lt L2.out.lt, Nat.ne_of_lt hA2.c.lt⟩
    have HNK : Hid (w.heap.size ≠ b.k ∧ w.heap.size ≠ b.h ∧ w2.heap.size ≠ b.k ∧ w2.heap.size ≠ b.h) := Lib.hid ⟨Nat.ne_of_gt hA.ok.lt, Nat.ne_of_gt hA.oh.lt, Nat.ne_of_gt hA2.ok.lt, Nat.ne_of_gt hA2.oh.lt⟩
    clear hA hI hf hk hm hkn hy hA2 hF2 hd2 hd3 c0
    go_enter Tryz.func190, Tryz.ntmps190
    go_wp2_with fail
    clear r1 hd1 c1 d0 d1
    refine wp_region_noPanic ?_
    refine wp_region_held_drew (S := fun W => (Lies W b.s 175 #[.map (some b.k), .map (some b.h)] ∧ Lies W w.heap.size 279 #[encStr y.n, .int .i64 y.k]) ∧ OwnK W b.k q.K) (by kernel_rfl) ⟨⟨HA2.out.c, L2.out⟩, HA2.out.ok⟩ (fun hH0 => ?_)
    refine any_take 0 28 ?va0 rfl rfl (by kernel_rfl) (by kernel_rfl) (by kernel_rfl) (fun _ _ _ h => h) (by rfl) ?hya0 hH0 ?resta0
    case hya0 => ((intro W hSw); obtain ⟨o0, o1⟩ := Lies.cells2 hSw.1.1; obtain ⟨p0, p1⟩ := Lies.cells2 hSw.1.2; have lk := hSw.2.look y.n HYL.out; rw [HK.out] at lk; dsimp only [Option.getD_some] at lk; go_simp; (try with_reducible rfl))
    try simp only [Act.put, List.setIfInBounds_toArray, List.set_cons_zero, List.set_cons_succ]
    refine any_take 1 29 ?va1 rfl rfl (by kernel_rfl) (by kernel_rfl) (by kernel_rfl) (fun _ _ _ h => h) (by rfl) ?hya1 hH0 ?resta1
    case hya1 => ((intro W hSw); obtain ⟨o0, o1⟩ := Lies.cells2 hSw.1.1; obtain ⟨p0, p1⟩ := Lies.cells2 hSw.1.2; have lk := hSw.2.look y.n HYL.out; rw [HK.out] at lk; dsimp only [Option.getD_some] at lk; go_simp; (try with_reducible rfl))
    try simp only [Act.put, List.setIfInBounds_toArray, List.set_cons_zero, List.set_cons_succ]
    refine any_take 2 30 ?va2 rfl rfl (by kernel_rfl) (by kernel_rfl) (by kernel_rfl) (fun _ _ _ h => h) (by rfl) ?hya2 hH0 ?resta2
    case hya2 => ((intro W hSw); obtain ⟨o0, o1⟩ := Lies.cells2 hSw.1.1; obtain ⟨p0, p1⟩ := Lies.cells2 hSw.1.2; have lk := hSw.2.look y.n HYL.out; rw [HK.out] at lk; dsimp only [Option.getD_some] at lk; go_simp; (try with_reducible rfl))
    try simp only [Act.put, List.setIfInBounds_toArray, List.set_cons_zero, List.set_cons_succ]
    refine any_take 3 31 ?va3 rfl rfl (by kernel_rfl) (by kernel_rfl) (by kernel_rfl) (fun _ _ _ h => h) (by rfl) ?hya3 hH0 ?resta3
    case hya3 => ((intro W hSw); obtain ⟨o0, o1⟩ := Lies.cells2 hSw.1.1; obtain ⟨p0, p1⟩ := Lies.cells2 hSw.1.2; have lk := hSw.2.look y.n HYL.out; rw [HK.out] at lk; dsimp only [Option.getD_some] at lk; go_simp; (try with_reducible rfl))
    try simp only [Act.put, List.setIfInBounds_toArray, List.set_cons_zero, List.set_cons_succ]
    refine any_take 4 32 ?va4 rfl rfl (by kernel_rfl) (by kernel_rfl) (by kernel_rfl) (fun _ _ _ h => h) (by rfl) ?hya4 hH0 ?resta4
    case hya4 => ((intro W hSw); obtain ⟨o0, o1⟩ := Lies.cells2 hSw.1.1; obtain ⟨p0, p1⟩ := Lies.cells2 hSw.1.2; have lk := hSw.2.look y.n HYL.out; rw [HK.out] at lk; dsimp only [Option.getD_some] at lk; go_simp; (try with_reducible rfl))
    try simp only [Act.put, List.setIfInBounds_toArray, List.set_cons_zero, List.set_cons_succ]
    refine any_take 5 33 ?va5 rfl rfl (by kernel_rfl) (by kernel_rfl) (by kernel_rfl) (fun _ _ _ h => h) (by rfl) ?hya5 hH0 ?resta5
    case hya5 => ((intro W hSw); obtain ⟨o0, o1⟩ := Lies.cells2 hSw.1.1; obtain ⟨p0, p1⟩ := Lies.cells2 hSw.1.2; have lk := hSw.2.look y.n HYL.out; rw [HK.out] at lk; dsimp only [Option.getD_some] at lk; go_simp; (try with_reducible rfl))
    try simp only [Act.put, List.setIfInBounds_toArray, List.set_cons_zero, List.set_cons_succ]
    refine any_take 6 34 ?va6 rfl rfl (by kernel_rfl) (by kernel_rfl) (by kernel_rfl) (fun _ _ _ h => h) (by rfl) ?hya6 hH0 ?resta6
    case hya6 => ((intro W hSw); obtain ⟨o0, o1⟩ := Lies.cells2 hSw.1.1; obtain ⟨p0, p1⟩ := Lies.cells2 hSw.1.2; have lk := hSw.2.look y.n HYL.out; rw [HK.out] at lk; dsimp only [Option.getD_some] at lk; go_simp; (try with_reducible rfl))
    try simp only [Act.put, List.setIfInBounds_toArray, List.set_cons_zero, List.set_cons_succ]
    refine wpAnyH_ready (rs := [7]) (by kernel_rfl) (by simp) ?_
    refine AllReadyH.cons rfl (fun K hK => ?_) AllReadyH.nil
    go_simp
    refine hK.out _ _ ⟨⟨(HA2.out.drew.alloc _).c, Lies.alloc (w := w2.drew) L2.out _⟩, (HA2.out.drew.alloc _).ok⟩ (fun hH1 => ?_)
    clear hK K hH0
    try simp only [Act.put, List.setIfInBounds_toArray, List.set_cons_zero, List.set_cons_succ]
    refine wpAnyH_ready (rs := [8]) (by kernel_rfl) (by simp) ?_
    refine AllReadyH.cons rfl (fun K hK => ?_) AllReadyH.nil
    go_simp
    refine hK.out _ _ ⟨⟨(HA2.out.drew.alloc _).c, Lies.alloc (w := w2.drew) L2.out _⟩, (HA2.out.drew.alloc _).ok⟩ (fun hH2 => ?_)
    clear hK K hH1
    try simp only [Act.put, List.setIfInBounds_toArray, List.set_cons_zero, List.set_cons_succ]
    clear hH2
    refine wpAnyH_done (by kernel_rfl) ?_ _
    refine NoPanic.normal ?_
    obtain ⟨W3, hW3⟩ : ∃ W3, W3 = (w2.alloc (.cells #[encStr k.n, .int .i64 k.f, .int .i64 k.g] 178)).drew := ⟨_, rfl⟩
    rw [← hW3]
    have HA3 : Hid (At W3 b ⟨q.K, delH q.H y.o⟩) := Lib.hid (by rw [hW3]; exact (HA2.out.alloc _).drew)
    have L3 : Hid (Lies W3 w.heap.size 279 #[encStr y.n, .int .i64 y.k]) := Lib.hid (by rw [hW3]; exact Lies.alloc (w := w2) L2.out _)
    have M3 : Hid (Lies W3 w2.heap.size 178 #[encStr k.n, .int .i64 k.f, .int .i64 k.g]) := Lib.hid (by rw [hW3]; exact Lies.made w2 _ _)
    have HF3 : Hid (Frm w W3 b) := Lib.hid (by rw [hW3]; exact (HF2.out.alloc _).drew)
    clear hW3
    go_wp2_with fail
    have ew : IntKind.i64.wrap (k.f + y.k) = k.f + y.k := IntWalk.i64_in _ (by omega)
    obtain ⟨m0, m1, m2⟩ := Lies.cells3 M3.out
    obtain ⟨mf0, mf1, mf2⟩ := Lies.free3 M3.out
    refine wp_region_noPanic ?_
    refine wp_region_held_drew (S := fun W => Lies W b.s 175 #[.map (some b.k), .map (some b.h)] ∧ Lies W w.heap.size 279 #[encStr y.n, .int .i64 y.k]) (by kernel_rfl) ⟨HA3.out.c, L3.out⟩ (fun hH0 => ?_)
    refine any_take 0 35 ?vb0 rfl rfl (by kernel_rfl) (by kernel_rfl) (by kernel_rfl) (fun _ _ _ h => h) (by rfl) ?hyb0 hH0 ?restb0
    case hyb0 => ((intro W hSw); obtain ⟨o0, o1⟩ := Lies.cells2 hSw.1; obtain ⟨p0, p1⟩ := Lies.cells2 hSw.2; go_simp; (try with_reducible rfl))
    try simp only [Act.put, List.setIfInBounds_toArray, List.set_cons_zero, List.set_cons_succ]
    refine any_take 1 36 ?vb1 rfl rfl (by kernel_rfl) (by kernel_rfl) (by kernel_rfl) (fun _ _ _ h => h) (by rfl) ?hyb1 hH0 ?restb1
    case hyb1 => ((intro W hSw); obtain ⟨o0, o1⟩ := Lies.cells2 hSw.1; obtain ⟨p0, p1⟩ := Lies.cells2 hSw.2; go_simp; (try with_reducible rfl))
    try simp only [Act.put, List.setIfInBounds_toArray, List.set_cons_zero, List.set_cons_succ]
    refine any_take 2 37 ?vb2 rfl rfl (by kernel_rfl) (by kernel_rfl) (by kernel_rfl) (fun _ _ _ h => h) (by rfl) ?hyb2 hH0 ?restb2
    case hyb2 => ((intro W hSw); obtain ⟨o0, o1⟩ := Lies.cells2 hSw.1; obtain ⟨p0, p1⟩ := Lies.cells2 hSw.2; go_simp; (try with_reducible rfl))
    try simp only [Act.put, List.setIfInBounds_toArray, List.set_cons_zero, List.set_cons_succ]
    refine any_take 4 39 ?vb4 rfl rfl (by kernel_rfl) (by kernel_rfl) (by kernel_rfl) (fun _ _ _ h => h) (by rfl) ?hyb4 hH0 ?restb4
    case hyb4 => ((intro W hSw); obtain ⟨o0, o1⟩ := Lies.cells2 hSw.1; obtain ⟨p0, p1⟩ := Lies.cells2 hSw.2; go_simp; (try with_reducible rfl))
    try simp only [Act.put, List.setIfInBounds_toArray, List.set_cons_zero, List.set_cons_succ]
    refine any_take 5 40 ?vb5 rfl rfl (by kernel_rfl) (by kernel_rfl) (by kernel_rfl) (fun _ _ _ h => h) (by rfl) ?hyb5 hH0 ?restb5
    case hyb5 => ((intro W hSw); obtain ⟨o0, o1⟩ := Lies.cells2 hSw.1; obtain ⟨p0, p1⟩ := Lies.cells2 hSw.2; go_simp; (try with_reducible rfl))
    try simp only [Act.put, List.setIfInBounds_toArray, List.set_cons_zero, List.set_cons_succ]
    refine any_take 7 42 ?vb7 rfl rfl (by kernel_rfl) (by kernel_rfl) (by kernel_rfl) (fun _ _ _ h => h) (by rfl) ?hyb7 hH0 ?restb7
    case hyb7 => ((intro W hSw); obtain ⟨o0, o1⟩ := Lies.cells2 hSw.1; obtain ⟨p0, p1⟩ := Lies.cells2 hSw.2; go_simp; (try with_reducible rfl))
    try simp only [Act.put, List.setIfInBounds_toArray, List.set_cons_zero, List.set_cons_succ]
    refine wpAnyH_ready (rs := [3]) (by kernel_rfl) (by simp) ?_
    refine AllReadyH.cons rfl (fun K hK => ?_) AllReadyH.nil
    go_simp
    refine hK.out _ _ ⟨HA3.out.drew.c, L3.out⟩ (fun hH1 => ?_)
    clear hK K hH0
    try simp only [Act.put, List.setIfInBounds_toArray, List.set_cons_zero, List.set_cons_succ]
    refine any_take 6 41 ?vb6 rfl rfl (by kernel_rfl) (by kernel_rfl) (by kernel_rfl) (fun _ _ _ h => h) (by rfl) ?hyb6 hH1 ?restb6
    case hyb6 => ((intro W hSw); obtain ⟨o0, o1⟩ := Lies.cells2 hSw.1; obtain ⟨p0, p1⟩ := Lies.cells2 hSw.2; go_simp; (try with_reducible rfl))
    try simp only [Act.put, List.setIfInBounds_toArray, List.set_cons_zero, List.set_cons_succ]
    refine any_take 8 43 ?vb8 rfl rfl (by kernel_rfl) (by kernel_rfl) (by kernel_rfl) (fun _ _ _ h => h) (by rfl) ?hyb8 hH1 ?restb8
    case hyb8 => ((intro W hSw); obtain ⟨o0, o1⟩ := Lies.cells2 hSw.1; obtain ⟨p0, p1⟩ := Lies.cells2 hSw.2; go_simp; (try with_reducible rfl))
    try simp only [Act.put, List.setIfInBounds_toArray, List.set_cons_zero, List.set_cons_succ]
    refine wpAnyH_ready (rs := [9]) (by kernel_rfl) (by simp) ?_
    refine AllReadyH.cons rfl (fun K hK => ?_) AllReadyH.nil
    go_simp
    refine hK.out _ _ ⟨HA3.out.c.other (a := ⟨w2.heap.size, 1, none⟩) HNE.out.2 (.int .i64 (k.f + y.k)), L3.out.other (a := ⟨w2.heap.size, 1, none⟩) HNE.out.1 (.int .i64 (k.f + y.k))⟩ (fun hH2 => ?_)
    clear hK K hH1
    try simp only [Act.put, List.setIfInBounds_toArray, List.set_cons_zero, List.set_cons_succ]
    clear hH2
    refine wpAnyH_done (by kernel_rfl) ?_ _
    refine NoPanic.normal ?_
    obtain ⟨W4, hW4⟩ : ∃ W4, W4 = (W3.setCell ⟨w2.heap.size, 1, none⟩ (.int .i64 (k.f + y.k))).drew := ⟨_, rfl⟩
    rw [← hW4]
    have HA4 : Hid (At W4 b ⟨q.K, delH q.H y.o⟩) := Lib.hid (by rw [hW4]; exact (HA3.out.setCell (w := W3) M3.out (Ne.symm HNE.out.2) _ _).drew)
    have L4 : Hid (Lies W4 w.heap.size 279 #[encStr y.n, .int .i64 y.k]) := Lib.hid (by rw [hW4]; exact Lies.other (w := W3) L3.out HNE.out.1 _)
    have M4 : Hid (Lies W4 w2.heap.size 178 #[encStr k.n, .int .i64 (k.f + y.k), .int .i64 k.g]) := Lib.hid (by rw [hW4]; exact Lies.put (w := W3) M3.out 1 _)
    have HF4 : Hid (Frm w W4 b) := Lib.hid (by rw [hW4]; exact (frm_set HF3.out (by have := HF2.out.size; omega) _ _).drew)
    clear hW4 ew m0 m1 m2 mf0 mf1 mf2
    go_wp2_with fail
    obtain ⟨w5, hu1, hu2, hu3⟩ := HA4.out.drew.ok.upd HI.out.ks ⟨k.n, k.f + y.k, k.g⟩ k HM.out.1 rfl (by show k.n.length ≤ _; rw [HM.out.2]; exact HYL.out) (by have := HI.out.kz; show q.K.length ≤ _; omega)
    have HU := Lib.hid (And.intro hu1 (And.intro hu2 hu3))
    clear hu1 hu2 hu3
    refine wp_region_noPanic ?_
    refine wp_region_held_drew (S := fun W => (Lies W b.s 175 #[.map (some b.k), .map (some b.h)] ∧ Lies W w.heap.size 279 #[encStr y.n, .int .i64 y.k]) ∧ Lies W w2.heap.size 178 #[encStr k.n, .int .i64 (k.f + y.k), .int .i64 k.g]) (by kernel_rfl) ⟨⟨HA4.out.c, L4.out⟩, M4.out⟩ (fun hH0 => ?_)
    refine any_take 0 44 ?vc0 rfl rfl (by kernel_rfl) (by kernel_rfl) (by kernel_rfl) (fun _ _ _ h => h) (by rfl) ?hyc0 hH0 ?restc0
    case hyc0 => ((intro W hSw); obtain ⟨o0, o1⟩ := Lies.cells2 hSw.1.1; obtain ⟨p0, p1⟩ := Lies.cells2 hSw.1.2; obtain ⟨m0, m1, m2⟩ := Lies.cells3 hSw.2; go_simp; (try with_reducible rfl))
    try simp only [Act.put, List.setIfInBounds_toArray, List.set_cons_zero, List.set_cons_succ]
    refine any_take 1 45 ?vc1 rfl rfl (by kernel_rfl) (by kernel_rfl) (by kernel_rfl) (fun _ _ _ h => h) (by rfl) ?hyc1 hH0 ?restc1
    case hyc1 => ((intro W hSw); obtain ⟨o0, o1⟩ := Lies.cells2 hSw.1.1; obtain ⟨p0, p1⟩ := Lies.cells2 hSw.1.2; obtain ⟨m0, m1, m2⟩ := Lies.cells3 hSw.2; go_simp; (try with_reducible rfl))
    try simp only [Act.put, List.setIfInBounds_toArray, List.set_cons_zero, List.set_cons_succ]
    refine any_take 2 46 ?vc2 rfl rfl (by kernel_rfl) (by kernel_rfl) (by kernel_rfl) (fun _ _ _ h => h) (by rfl) ?hyc2 hH0 ?restc2
    case hyc2 => ((intro W hSw); obtain ⟨o0, o1⟩ := Lies.cells2 hSw.1.1; obtain ⟨p0, p1⟩ := Lies.cells2 hSw.1.2; obtain ⟨m0, m1, m2⟩ := Lies.cells3 hSw.2; go_simp; (try with_reducible rfl))
    try simp only [Act.put, List.setIfInBounds_toArray, List.set_cons_zero, List.set_cons_succ]
    refine any_take 3 47 ?vc3 rfl rfl (by kernel_rfl) (by kernel_rfl) (by kernel_rfl) (fun _ _ _ h => h) (by rfl) ?hyc3 hH0 ?restc3
    case hyc3 => ((intro W hSw); obtain ⟨o0, o1⟩ := Lies.cells2 hSw.1.1; obtain ⟨p0, p1⟩ := Lies.cells2 hSw.1.2; obtain ⟨m0, m1, m2⟩ := Lies.cells3 hSw.2; go_simp; (try with_reducible rfl))
    try simp only [Act.put, List.setIfInBounds_toArray, List.set_cons_zero, List.set_cons_succ]
    refine any_take 4 48 ?vc4 rfl rfl (by kernel_rfl) (by kernel_rfl) (by kernel_rfl) (fun _ _ _ h => h) (by rfl) ?hyc4 hH0 ?restc4
    case hyc4 => ((intro W hSw); obtain ⟨o0, o1⟩ := Lies.cells2 hSw.1.1; obtain ⟨p0, p1⟩ := Lies.cells2 hSw.1.2; obtain ⟨m0, m1, m2⟩ := Lies.cells3 hSw.2; go_simp; (try with_reducible rfl))
    try simp only [Act.put, List.setIfInBounds_toArray, List.set_cons_zero, List.set_cons_succ]
    refine any_take 5 49 ?vc5 rfl rfl (by kernel_rfl) (by kernel_rfl) (by kernel_rfl) (fun _ _ _ h => h) (by rfl) ?hyc5 hH0 ?restc5
    case hyc5 => ((intro W hSw); obtain ⟨o0, o1⟩ := Lies.cells2 hSw.1.1; obtain ⟨p0, p1⟩ := Lies.cells2 hSw.1.2; obtain ⟨m0, m1, m2⟩ := Lies.cells3 hSw.2; go_simp; (try with_reducible rfl))
    try simp only [Act.put, List.setIfInBounds_toArray, List.set_cons_zero, List.set_cons_succ]
    refine any_take 6 50 ?vc6 rfl rfl (by kernel_rfl) (by kernel_rfl) (by kernel_rfl) (fun _ _ _ h => h) (by rfl) ?hyc6 hH0 ?restc6
    case hyc6 => ((intro W hSw); obtain ⟨o0, o1⟩ := Lies.cells2 hSw.1.1; obtain ⟨p0, p1⟩ := Lies.cells2 hSw.1.2; obtain ⟨m0, m1, m2⟩ := Lies.cells3 hSw.2; go_simp; (try with_reducible rfl))
    try simp only [Act.put, List.setIfInBounds_toArray, List.set_cons_zero, List.set_cons_succ]
    refine wpAnyH_ready (rs := [7]) (by kernel_rfl) (by simp) ?_
    refine AllReadyH.cons rfl (fun K hK => ?_) AllReadyH.nil
    refine stp_upd none _ _ _ 172 (.tmp 47) (.tmp 49) (.tmp 50) (.map (some b.k)) (encStr y.n) (vK ⟨k.n, k.f + y.k, k.g⟩) w5 rfl rfl rfl (by rw [← HM.out.2]; exact HU.out.1) ?_
    obtain ⟨hA5, hF5⟩ := HA4.out.drew.turnK HU.out.2.1 HU.out.2.2
    have HA5 := Lib.hid hA5
    have HF5 := Lib.hid (HF4.out.drew.trans hF5)
    refine hK.out _ _ ⟨⟨hA5.c, hF5.lies (w := W4.drew) L4.out HNK.out.1 HNK.out.2.1⟩, hF5.lies (w := W4.drew) M4.out HNK.out.2.2.1 HNK.out.2.2.2⟩ (fun hH1 => ?_)
    clear hA5 hF5 hK K hH0
    try simp only [Act.put, List.setIfInBounds_toArray, List.set_cons_zero, List.set_cons_succ]
    clear hH1
    refine wpAnyH_done (by kernel_rfl) ?_ _
    refine NoPanic.normal ?_
    go_wp2
    go_ret
    refine ⟨by rw [HEV.out]; rfl, ?_, HF5.out⟩
    rw [endS_yes HFO.out HK.out]
    exact HA5.out

end Go.Proofs.YtpbclmnhkmcknaaGreat.St

namespace Go.Proofs.YtpbclmnhkmcknaaGreat.St
open Go.RowKit
set_option maxRecDepth 100000
set_option linter.unusedVariables false
set_option linter.unusedSimpArgs false

set_option maxHeartbeats 4000000 in
theorem ship_end (b : SB) (q : Ss) (o : Nat) (w : World) (hA : At w b q) (hI : Inv q) (ho : o < 4294967296) :
    Calls Tryz.prog 190 #[.pointer (some ⟨b.s, 0, none⟩), .int .u32 (o : Int), .int .i64 1] w (EndPost w b q o true) := by
  have HA := Lib.hid hA
  have HI := Lib.hid hI
  obtain ⟨c0, c1⟩ := hA.c.cells2
  have r1 := hA.oh.look_ok o ho
  cases hf : findH q.H o with
  | none =>
    have HF := Lib.hid hf
    rw [hf] at r1
    dsimp only [Option.getD_none, Option.isSome_none] at r1
    clear hA hI hf c0
    go_enter Tryz.func190, Tryz.ntmps190
    go_wp2
    go_ret
    refine ⟨by unfold endV; rw [HF.out]; rfl, ?_, Frm.of_below b (below1 _ _)⟩
    rw [endS_no HF.out]
    exact HA.out.alloc _
  | some y =>
    rw [hf] at r1
    dsimp only [Option.getD_some, Option.isSome_some] at r1
    obtain ⟨hy, rfl⟩ := findH_some hf
    obtain ⟨k, hk, hm, hkn⟩ := hI.kn hy
    have HFO := Lib.hid hf
    have HK := Lib.hid hk
    have HM := Lib.hid (And.intro hm hkn)
    have HEV : Hid (endV q y.o = true) := Lib.hid (by unfold endV; rw [hf]; rfl)
    have HYL : Hid (y.n.length ≤ maxLen) := Lib.hid (by have := (hI.kb hy).2; unfold maxLen; omega)
    have hb1 : 1 ≤ y.k := (hI.hh y hy).1
    have hb2 : y.k ≤ 1000000 := (hI.kb hy).1
    have hb3 : 0 ≤ k.f ∧ 0 ≤ k.g ∧ k.f ≤ 1000000 ∧ k.g ≤ 1000000 := by
      have h1 := hI.kf k hm
      have h2 := held_nonneg (fun z hz => (hI.hh z hz).1) k.n
      omega
    obtain ⟨hb4, hb5, hb6, hb7⟩ := hb3
    have HA1 := Lib.hid (hA.alloc (.cells #[encStr y.n, .int .i64 y.k] 279))
    obtain ⟨w2, hd1, hd2, hd3⟩ := HA1.out.oh.del hI.hs y hy ho 0
    obtain ⟨d0, d1⟩ := HA1.out.c.cells2
    obtain ⟨hA2, hF2⟩ := HA1.out.turnH hd2 hd3
    have HA2 := Lib.hid hA2
    have HF2 := Lib.hid ((Frm.of_below b (below1 w (.cells #[encStr y.n, .int .i64 y.k] 279))).trans hF2)
    have L2 := Lib.hid (hF2.lies (Lies.made w 279 #[encStr y.n, .int .i64 y.k]) (Nat.ne_of_gt hA.ok.lt) (Nat.ne_of_gt hA.oh.lt))
    have HNE : Hid (w.heap.size ≠ w2.heap.size ∧ b.s ≠ w2.heap.size) := Lib.hid ⟨Nat.ne_of_lt L2.out.lt, Nat.ne_of_lt hA2.c.lt⟩
    have HNK : Hid (w.heap.size ≠ b.k ∧ w.heap.size ≠ b.h ∧ w2.heap.size ≠ b.k ∧ w2.heap.size ≠ b.h) := Lib.hid ⟨Nat.ne_of_gt hA.ok.lt, Nat.ne_of_gt hA.oh.lt, Nat.ne_of_gt hA2.ok.lt, Nat.ne_of_gt hA2.oh.lt⟩
    clear hA hI hf hk hm hkn hy hA2 hF2 hd2 hd3 c0
    go_enter Tryz.func190, Tryz.ntmps190
    go_wp2_with fail
    clear r1 hd1 c1 d0 d1
    refine wp_region_noPanic ?_
    refine wp_region_held_drew (S := fun W => (Lies W b.s 175 #[.map (some b.k), .map (some b.h)] ∧ Lies W w.heap.size 279 #[encStr y.n, .int .i64 y.k]) ∧ OwnK W b.k q.K) (by kernel_rfl) ⟨⟨HA2.out.c, L2.out⟩, HA2.out.ok⟩ (fun hH0 => ?_)
    refine any_take 0 28 ?va0 rfl rfl (by kernel_rfl) (by kernel_rfl) (by kernel_rfl) (fun _ _ _ h => h) (by rfl) ?hya0 hH0 ?resta0
    case hya0 => ((intro W hSw); obtain ⟨o0, o1⟩ := Lies.cells2 hSw.1.1; obtain ⟨p0, p1⟩ := Lies.cells2 hSw.1.2; have lk := hSw.2.look y.n HYL.out; rw [HK.out] at lk; dsimp only [Option.getD_some] at lk; go_simp; (try with_reducible rfl))
    try simp only [Act.put, List.setIfInBounds_toArray, List.set_cons_zero, List.set_cons_succ]
    refine any_take 1 29 ?va1 rfl rfl (by kernel_rfl) (by kernel_rfl) (by kernel_rfl) (fun _ _ _ h => h) (by rfl) ?hya1 hH0 ?resta1
    case hya1 => ((intro W hSw); obtain ⟨o0, o1⟩ := Lies.cells2 hSw.1.1; obtain ⟨p0, p1⟩ := Lies.cells2 hSw.1.2; have lk := hSw.2.look y.n HYL.out; rw [HK.out] at lk; dsimp only [Option.getD_some] at lk; go_simp; (try with_reducible rfl))
    try simp only [Act.put, List.setIfInBounds_toArray, List.set_cons_zero, List.set_cons_succ]
    refine any_take 2 30 ?va2 rfl rfl (by kernel_rfl) (by kernel_rfl) (by kernel_rfl) (fun _ _ _ h => h) (by rfl) ?hya2 hH0 ?resta2
    case hya2 => ((intro W hSw); obtain ⟨o0, o1⟩ := Lies.cells2 hSw.1.1; obtain ⟨p0, p1⟩ := Lies.cells2 hSw.1.2; have lk := hSw.2.look y.n HYL.out; rw [HK.out] at lk; dsimp only [Option.getD_some] at lk; go_simp; (try with_reducible rfl))
    try simp only [Act.put, List.setIfInBounds_toArray, List.set_cons_zero, List.set_cons_succ]
    refine any_take 3 31 ?va3 rfl rfl (by kernel_rfl) (by kernel_rfl) (by kernel_rfl) (fun _ _ _ h => h) (by rfl) ?hya3 hH0 ?resta3
    case hya3 => ((intro W hSw); obtain ⟨o0, o1⟩ := Lies.cells2 hSw.1.1; obtain ⟨p0, p1⟩ := Lies.cells2 hSw.1.2; have lk := hSw.2.look y.n HYL.out; rw [HK.out] at lk; dsimp only [Option.getD_some] at lk; go_simp; (try with_reducible rfl))
    try simp only [Act.put, List.setIfInBounds_toArray, List.set_cons_zero, List.set_cons_succ]
    refine any_take 4 32 ?va4 rfl rfl (by kernel_rfl) (by kernel_rfl) (by kernel_rfl) (fun _ _ _ h => h) (by rfl) ?hya4 hH0 ?resta4
    case hya4 => ((intro W hSw); obtain ⟨o0, o1⟩ := Lies.cells2 hSw.1.1; obtain ⟨p0, p1⟩ := Lies.cells2 hSw.1.2; have lk := hSw.2.look y.n HYL.out; rw [HK.out] at lk; dsimp only [Option.getD_some] at lk; go_simp; (try with_reducible rfl))
    try simp only [Act.put, List.setIfInBounds_toArray, List.set_cons_zero, List.set_cons_succ]
    refine any_take 5 33 ?va5 rfl rfl (by kernel_rfl) (by kernel_rfl) (by kernel_rfl) (fun _ _ _ h => h) (by rfl) ?hya5 hH0 ?resta5
    case hya5 => ((intro W hSw); obtain ⟨o0, o1⟩ := Lies.cells2 hSw.1.1; obtain ⟨p0, p1⟩ := Lies.cells2 hSw.1.2; have lk := hSw.2.look y.n HYL.out; rw [HK.out] at lk; dsimp only [Option.getD_some] at lk; go_simp; (try with_reducible rfl))
    try simp only [Act.put, List.setIfInBounds_toArray, List.set_cons_zero, List.set_cons_succ]
    refine any_take 6 34 ?va6 rfl rfl (by kernel_rfl) (by kernel_rfl) (by kernel_rfl) (fun _ _ _ h => h) (by rfl) ?hya6 hH0 ?resta6
    case hya6 => ((intro W hSw); obtain ⟨o0, o1⟩ := Lies.cells2 hSw.1.1; obtain ⟨p0, p1⟩ := Lies.cells2 hSw.1.2; have lk := hSw.2.look y.n HYL.out; rw [HK.out] at lk; dsimp only [Option.getD_some] at lk; go_simp; (try with_reducible rfl))
    try simp only [Act.put, List.setIfInBounds_toArray, List.set_cons_zero, List.set_cons_succ]
    refine wpAnyH_ready (rs := [7]) (by kernel_rfl) (by simp) ?_
    refine AllReadyH.cons rfl (fun K hK => ?_) AllReadyH.nil
    go_simp
    refine hK.out _ _ ⟨⟨(HA2.out.drew.alloc _).c, Lies.alloc (w := w2.drew) L2.out _⟩, (HA2.out.drew.alloc _).ok⟩ (fun hH1 => ?_)
    clear hK K hH0
    try simp only [Act.put, List.setIfInBounds_toArray, List.set_cons_zero, List.set_cons_succ]
    refine wpAnyH_ready (rs := [8]) (by kernel_rfl) (by simp) ?_
    refine AllReadyH.cons rfl (fun K hK => ?_) AllReadyH.nil
    go_simp
    refine hK.out _ _ ⟨⟨(HA2.out.drew.alloc _).c, Lies.alloc (w := w2.drew) L2.out _⟩, (HA2.out.drew.alloc _).ok⟩ (fun hH2 => ?_)
    clear hK K hH1
    try simp only [Act.put, List.setIfInBounds_toArray, List.set_cons_zero, List.set_cons_succ]
    clear hH2
    refine wpAnyH_done (by kernel_rfl) ?_ _
    refine NoPanic.normal ?_
    obtain ⟨W3, hW3⟩ : ∃ W3, W3 = (w2.alloc (.cells #[encStr k.n, .int .i64 k.f, .int .i64 k.g] 178)).drew := ⟨_, rfl⟩
    rw [← hW3]
    have HA3 : Hid (At W3 b ⟨q.K, delH q.H y.o⟩) := Lib.hid (by rw [hW3]; exact (HA2.out.alloc _).drew)
    have L3 : Hid (Lies W3 w.heap.size 279 #[encStr y.n, .int .i64 y.k]) := Lib.hid (by rw [hW3]; exact Lies.alloc (w := w2) L2.out _)
    have M3 : Hid (Lies W3 w2.heap.size 178 #[encStr k.n, .int .i64 k.f, .int .i64 k.g]) := Lib.hid (by rw [hW3]; exact Lies.made w2 _ _)
    have HF3 : Hid (Frm w W3 b) := Lib.hid (by rw [hW3]; exact (HF2.out.alloc _).drew)
    clear hW3
    go_wp2_with fail
    have ew : IntKind.i64.wrap (k.g + y.k) = k.g + y.k := IntWalk.i64_in _ (by omega)
    obtain ⟨m0, m1, m2⟩ := Lies.cells3 M3.out
    obtain ⟨mf0, mf1, mf2⟩ := Lies.free3 M3.out
    refine wp_region_noPanic ?_
    refine wp_region_held_drew (S := fun W => Lies W b.s 175 #[.map (some b.k), .map (some b.h)] ∧ Lies W w.heap.size 279 #[encStr y.n, .int .i64 y.k]) (by kernel_rfl) ⟨HA3.out.c, L3.out⟩ (fun hH0 => ?_)
    refine any_take 0 35 ?vb0 rfl rfl (by kernel_rfl) (by kernel_rfl) (by kernel_rfl) (fun _ _ _ h => h) (by rfl) ?hyb0 hH0 ?restb0
    case hyb0 => ((intro W hSw); obtain ⟨o0, o1⟩ := Lies.cells2 hSw.1; obtain ⟨p0, p1⟩ := Lies.cells2 hSw.2; go_simp; (try with_reducible rfl))
    try simp only [Act.put, List.setIfInBounds_toArray, List.set_cons_zero, List.set_cons_succ]
    refine any_take 1 36 ?vb1 rfl rfl (by kernel_rfl) (by kernel_rfl) (by kernel_rfl) (fun _ _ _ h => h) (by rfl) ?hyb1 hH0 ?restb1
    case hyb1 => ((intro W hSw); obtain ⟨o0, o1⟩ := Lies.cells2 hSw.1; obtain ⟨p0, p1⟩ := Lies.cells2 hSw.2; go_simp; (try with_reducible rfl))
    try simp only [Act.put, List.setIfInBounds_toArray, List.set_cons_zero, List.set_cons_succ]
    refine any_take 2 37 ?vb2 rfl rfl (by kernel_rfl) (by kernel_rfl) (by kernel_rfl) (fun _ _ _ h => h) (by rfl) ?hyb2 hH0 ?restb2
    case hyb2 => ((intro W hSw); obtain ⟨o0, o1⟩ := Lies.cells2 hSw.1; obtain ⟨p0, p1⟩ := Lies.cells2 hSw.2; go_simp; (try with_reducible rfl))
    try simp only [Act.put, List.setIfInBounds_toArray, List.set_cons_zero, List.set_cons_succ]
    refine any_take 4 39 ?vb4 rfl rfl (by kernel_rfl) (by kernel_rfl) (by kernel_rfl) (fun _ _ _ h => h) (by rfl) ?hyb4 hH0 ?restb4
    case hyb4 => ((intro W hSw); obtain ⟨o0, o1⟩ := Lies.cells2 hSw.1; obtain ⟨p0, p1⟩ := Lies.cells2 hSw.2; go_simp; (try with_reducible rfl))
    try simp only [Act.put, List.setIfInBounds_toArray, List.set_cons_zero, List.set_cons_succ]
    refine any_take 5 40 ?vb5 rfl rfl (by kernel_rfl) (by kernel_rfl) (by kernel_rfl) (fun _ _ _ h => h) (by rfl) ?hyb5 hH0 ?restb5
    case hyb5 => ((intro W hSw); obtain ⟨o0, o1⟩ := Lies.cells2 hSw.1; obtain ⟨p0, p1⟩ := Lies.cells2 hSw.2; go_simp; (try with_reducible rfl))
    try simp only [Act.put, List.setIfInBounds_toArray, List.set_cons_zero, List.set_cons_succ]
    refine any_take 7 42 ?vb7 rfl rfl (by kernel_rfl) (by kernel_rfl) (by kernel_rfl) (fun _ _ _ h => h) (by rfl) ?hyb7 hH0 ?restb7
    case hyb7 => ((intro W hSw); obtain ⟨o0, o1⟩ := Lies.cells2 hSw.1; obtain ⟨p0, p1⟩ := Lies.cells2 hSw.2; go_simp; (try with_reducible rfl))
    try simp only [Act.put, List.setIfInBounds_toArray, List.set_cons_zero, List.set_cons_succ]
    refine wpAnyH_ready (rs := [3]) (by kernel_rfl) (by simp) ?_
    refine AllReadyH.cons rfl (fun K hK => ?_) AllReadyH.nil
    go_simp
    refine hK.out _ _ ⟨HA3.out.drew.c, L3.out⟩ (fun hH1 => ?_)
    clear hK K hH0
    try simp only [Act.put, List.setIfInBounds_toArray, List.set_cons_zero, List.set_cons_succ]
    refine any_take 6 41 ?vb6 rfl rfl (by kernel_rfl) (by kernel_rfl) (by kernel_rfl) (fun _ _ _ h => h) (by rfl) ?hyb6 hH1 ?restb6
    case hyb6 => ((intro W hSw); obtain ⟨o0, o1⟩ := Lies.cells2 hSw.1; obtain ⟨p0, p1⟩ := Lies.cells2 hSw.2; go_simp; (try with_reducible rfl))
    try simp only [Act.put, List.setIfInBounds_toArray, List.set_cons_zero, List.set_cons_succ]
    refine any_take 8 43 ?vb8 rfl rfl (by kernel_rfl) (by kernel_rfl) (by kernel_rfl) (fun _ _ _ h => h) (by rfl) ?hyb8 hH1 ?restb8
    case hyb8 => ((intro W hSw); obtain ⟨o0, o1⟩ := Lies.cells2 hSw.1; obtain ⟨p0, p1⟩ := Lies.cells2 hSw.2; go_simp; (try with_reducible rfl))
    try simp only [Act.put, List.setIfInBounds_toArray, List.set_cons_zero, List.set_cons_succ]
    refine wpAnyH_ready (rs := [9]) (by kernel_rfl) (by simp) ?_
    refine AllReadyH.cons rfl (fun K hK => ?_) AllReadyH.nil
    go_simp
    refine hK.out _ _ ⟨HA3.out.c.other (a := ⟨w2.heap.size, 2, none⟩) HNE.out.2 (.int .i64 (k.g + y.k)), L3.out.other (a := ⟨w2.heap.size, 2, none⟩) HNE.out.1 (.int .i64 (k.g + y.k))⟩ (fun hH2 => ?_)
    clear hK K hH1
    try simp only [Act.put, List.setIfInBounds_toArray, List.set_cons_zero, List.set_cons_succ]
    clear hH2
    refine wpAnyH_done (by kernel_rfl) ?_ _
    refine NoPanic.normal ?_
    obtain ⟨W4, hW4⟩ : ∃ W4, W4 = (W3.setCell ⟨w2.heap.size, 2, none⟩ (.int .i64 (k.g + y.k))).drew := ⟨_, rfl⟩
    rw [← hW4]
    have HA4 : Hid (At W4 b ⟨q.K, delH q.H y.o⟩) := Lib.hid (by rw [hW4]; exact (HA3.out.setCell (w := W3) M3.out (Ne.symm HNE.out.2) _ _).drew)
    have L4 : Hid (Lies W4 w.heap.size 279 #[encStr y.n, .int .i64 y.k]) := Lib.hid (by rw [hW4]; exact Lies.other (w := W3) L3.out HNE.out.1 _)
    have M4 : Hid (Lies W4 w2.heap.size 178 #[encStr k.n, .int .i64 k.f, .int .i64 (k.g + y.k)]) := Lib.hid (by rw [hW4]; exact Lies.put (w := W3) M3.out 2 _)
    have HF4 : Hid (Frm w W4 b) := Lib.hid (by rw [hW4]; exact (frm_set HF3.out (by have := HF2.out.size; omega) _ _).drew)
    clear hW4 ew m0 m1 m2 mf0 mf1 mf2
    go_wp2_with fail
    obtain ⟨w5, hu1, hu2, hu3⟩ := HA4.out.drew.ok.upd HI.out.ks ⟨k.n, k.f, k.g + y.k⟩ k HM.out.1 rfl (by show k.n.length ≤ _; rw [HM.out.2]; exact HYL.out) (by have := HI.out.kz; show q.K.length ≤ _; omega)
    have HU := Lib.hid (And.intro hu1 (And.intro hu2 hu3))
    clear hu1 hu2 hu3
    refine wp_region_noPanic ?_
    refine wp_region_held_drew (S := fun W => (Lies W b.s 175 #[.map (some b.k), .map (some b.h)] ∧ Lies W w.heap.size 279 #[encStr y.n, .int .i64 y.k]) ∧ Lies W w2.heap.size 178 #[encStr k.n, .int .i64 k.f, .int .i64 (k.g + y.k)]) (by kernel_rfl) ⟨⟨HA4.out.c, L4.out⟩, M4.out⟩ (fun hH0 => ?_)
    refine any_take 0 44 ?vc0 rfl rfl (by kernel_rfl) (by kernel_rfl) (by kernel_rfl) (fun _ _ _ h => h) (by rfl) ?hyc0 hH0 ?restc0
    case hyc0 => ((intro W hSw); obtain ⟨o0, o1⟩ := Lies.cells2 hSw.1.1; obtain ⟨p0, p1⟩ := Lies.cells2 hSw.1.2; obtain ⟨m0, m1, m2⟩ := Lies.cells3 hSw.2; go_simp; (try with_reducible rfl))
    try simp only [Act.put, List.setIfInBounds_toArray, List.set_cons_zero, List.set_cons_succ]
    refine any_take 1 45 ?vc1 rfl rfl (by kernel_rfl) (by kernel_rfl) (by kernel_rfl) (fun _ _ _ h => h) (by rfl) ?hyc1 hH0 ?restc1
    case hyc1 => ((intro W hSw); obtain ⟨o0, o1⟩ := Lies.cells2 hSw.1.1; obtain ⟨p0, p1⟩ := Lies.cells2 hSw.1.2; obtain ⟨m0, m1, m2⟩ := Lies.cells3 hSw.2; go_simp; (try with_reducible rfl))
    try simp only [Act.put, List.setIfInBounds_toArray, List.set_cons_zero, List.set_cons_succ]
    refine any_take 2 46 ?vc2 rfl rfl (by kernel_rfl) (by kernel_rfl) (by kernel_rfl) (fun _ _ _ h => h) (by rfl) ?hyc2 hH0 ?restc2
    case hyc2 => ((intro W hSw); obtain ⟨o0, o1⟩ := Lies.cells2 hSw.1.1; obtain ⟨p0, p1⟩ := Lies.cells2 hSw.1.2; obtain ⟨m0, m1, m2⟩ := Lies.cells3 hSw.2; go_simp; (try with_reducible rfl))
    try simp only [Act.put, List.setIfInBounds_toArray, List.set_cons_zero, List.set_cons_succ]
    refine any_take 3 47 ?vc3 rfl rfl (by kernel_rfl) (by kernel_rfl) (by kernel_rfl) (fun _ _ _ h => h) (by rfl) ?hyc3 hH0 ?restc3
    case hyc3 => ((intro W hSw); obtain ⟨o0, o1⟩ := Lies.cells2 hSw.1.1; obtain ⟨p0, p1⟩ := Lies.cells2 hSw.1.2; obtain ⟨m0, m1, m2⟩ := Lies.cells3 hSw.2; go_simp; (try with_reducible rfl))
    try simp only [Act.put, List.setIfInBounds_toArray, List.set_cons_zero, List.set_cons_succ]
    refine any_take 4 48 ?vc4 rfl rfl (by kernel_rfl) (by kernel_rfl) (by kernel_rfl) (fun _ _ _ h => h) (by rfl) ?hyc4 hH0 ?restc4
    case hyc4 => ((intro W hSw); obtain ⟨o0, o1⟩ := Lies.cells2 hSw.1.1; obtain ⟨p0, p1⟩ := Lies.cells2 hSw.1.2; obtain ⟨m0, m1, m2⟩ := Lies.cells3 hSw.2; go_simp; (try with_reducible rfl))
    try simp only [Act.put, List.setIfInBounds_toArray, List.set_cons_zero, List.set_cons_succ]
    refine any_take 5 49 ?vc5 rfl rfl (by kernel_rfl) (by kernel_rfl) (by kernel_rfl) (fun _ _ _ h => h) (by rfl) ?hyc5 hH0 ?restc5
    case hyc5 => ((intro W hSw); obtain ⟨o0, o1⟩ := Lies.cells2 hSw.1.1; obtain ⟨p0, p1⟩ := Lies.cells2 hSw.1.2; obtain ⟨m0, m1, m2⟩ := Lies.cells3 hSw.2; go_simp; (try with_reducible rfl))
    try simp only [Act.put, List.setIfInBounds_toArray, List.set_cons_zero, List.set_cons_succ]
    refine any_take 6 50 ?vc6 rfl rfl (by kernel_rfl) (by kernel_rfl) (by kernel_rfl) (fun _ _ _ h => h) (by rfl) ?hyc6 hH0 ?restc6
    case hyc6 => ((intro W hSw); obtain ⟨o0, o1⟩ := Lies.cells2 hSw.1.1; obtain ⟨p0, p1⟩ := Lies.cells2 hSw.1.2; obtain ⟨m0, m1, m2⟩ := Lies.cells3 hSw.2; go_simp; (try with_reducible rfl))
    try simp only [Act.put, List.setIfInBounds_toArray, List.set_cons_zero, List.set_cons_succ]
    refine wpAnyH_ready (rs := [7]) (by kernel_rfl) (by simp) ?_
    refine AllReadyH.cons rfl (fun K hK => ?_) AllReadyH.nil
    refine stp_upd none _ _ _ 172 (.tmp 47) (.tmp 49) (.tmp 50) (.map (some b.k)) (encStr y.n) (vK ⟨k.n, k.f, k.g + y.k⟩) w5 rfl rfl rfl (by rw [← HM.out.2]; exact HU.out.1) ?_
    obtain ⟨hA5, hF5⟩ := HA4.out.drew.turnK HU.out.2.1 HU.out.2.2
    have HA5 := Lib.hid hA5
    have HF5 := Lib.hid (HF4.out.drew.trans hF5)
    refine hK.out _ _ ⟨⟨hA5.c, hF5.lies (w := W4.drew) L4.out HNK.out.1 HNK.out.2.1⟩, hF5.lies (w := W4.drew) M4.out HNK.out.2.2.1 HNK.out.2.2.2⟩ (fun hH1 => ?_)
    clear hA5 hF5 hK K hH0
    try simp only [Act.put, List.setIfInBounds_toArray, List.set_cons_zero, List.set_cons_succ]
    clear hH1
    refine wpAnyH_done (by kernel_rfl) ?_ _
    refine NoPanic.normal ?_
    go_wp2
    go_ret
    refine ⟨by rw [HEV.out]; rfl, ?_, HF5.out⟩
    rw [endS_yes HFO.out HK.out]
    exact HA5.out

end Go.Proofs.YtpbclmnhkmcknaaGreat.St
