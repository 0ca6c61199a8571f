/-
  Texts of one proof, in their order: StRegS, PuMapM, PuStk, PuHasP, PuStillS, PuPutS, PuSettle, PuMov0, PuMov1.
-/
import Derived.Sort.KeysCollected
import Derived.StillTailTactics
import Derived.Test.YtpbclmnhkmcknaaGreatB09
namespace Go.Proofs.YtpbclmnhkmcknaaGreat.St
open Go.Proofs Go.RowKit Go.Maps
set_option maxRecDepth 100000
set_option linter.unusedVariables false

theorem stp_putC {ops : Array Oper} {a : Act} {w : World} {K : Act → World → Prop} {Q : Exit → Act → World → Prop} {E : Prop} (dst : Option Tmp) (rty : TypeId) (pos : String) (aft : Array Edge) (ty : TypeId) (x y : Operand)
    (g i : Nat) (t : TypeId) (cs : Array Value) (v : Value) (hx : a.eval x = .pointer (some ⟨g, i, none⟩)) (hy : a.eval y = v) (hL : Lies w g t cs) (hi : i < cs.size)
    (hsz : (Tryz.prog.info? ty).map (·.size) = some 1) (h1 : v.oneCell' = true)
    (h : ∀ w', PutW w w' g t (cs.setIfInBounds i v) → K (a.put dst undef) w') :
    if Region.wanted ⟨dst, .store ty x y, rty, pos, aft, none⟩ (yielded ops a.tmps) = true then Oper.wp Tryz.prog ⟨dst, .store ty x y, rty, pos, aft, none⟩ a w K Q else E := by
  rw [if_pos (by simp [Region.wanted])]
  have f0 := hL.cell i
  rw [Array.getElem?_eq_getElem hi] at f0
  have f1 := hL.free i
  have hc : v.cells = #[v] := by cases v <;> first | rfl | cases h1
  unfold Oper.wp
  cases hq : Tryz.prog.info? ty with
  | none => simp [hq] at hsz
  | some inf =>
    have hs : inf.size = 1 := by simpa [hq] using hsz
    have hr : ((Instr.storeAt ty (.pointer (some ⟨g, i, none⟩)) v).run Tryz.prog w) = .ok () (w.setCell ⟨g, i, none⟩ v) := by
      simp [Instr.storeAt, Instr.sureAddr, storeVar, sizeOf, typeInfo, hq, hs, hc, Result.andThen, storeCells, Addr.add]
      rw [run_store _ _ _ _ _ h1]
      simp [f0, f1]
    simp [execOp, hx, hy, hr, Result.andThen]
    exact h _ (putW hL v)

end Go.Proofs.YtpbclmnhkmcknaaGreat.St

namespace Go.Proofs.YtpbclmnhkmcknaaGreat.Pu
open Go.RowKit Go.Maps
open Go.WideMaps (keyOf_string_mk)
set_option maxRecDepth 100000
set_option linter.unusedVariables false
set_option linter.unusedSimpArgs false

abbrev vK (k : Kd) : Value := .agg #[encStr k.n, .int .i64 k.m, .int .i64 k.h]
abbrev vH (h : Hd) : Value := .agg #[encStr h.n, .int .i64 h.k]
def dK (k : Kd) : DataW Unit := .agg [.lit (.string k.n), .lit (.int .i64 k.m), .lit (.int .i64 k.h)]
def dH (h : Hd) : DataW Unit := .agg [.lit (.string h.n), .lit (.int .i64 h.k)]
def zK : Kd := ⟨[], 0, 0⟩
def zH : Hd := ⟨0, [], 0, 0⟩
def rK : Value → Option (DataW Unit × List MemPlace)
  | .agg cs => match cs.toList with
    | [.string s, .int .i64 f, .int .i64 g] => some (dK ⟨s.data.toList, f, g⟩, [])
    | _ => none
  | _ => none
def rH : Value → Option (DataW Unit × List MemPlace)
  | .agg cs => match cs.toList with
    | [.string s, .int .i64 f] => some (dH ⟨0, s.data.toList, f, 0⟩, [])
    | _ => none
  | _ => none
theorem rK_mk (k : Kd) : rK (vK k) = some (dK k, []) := by simp [rK, vK, encStr, dK]
theorem rH_mk (h : Hd) : rH (vH h) = some (dH h, []) := by simp [rH, vH, encStr, dH]
theorem rK_inv {v : Value} {y : DataW Unit × List MemPlace} (h : rK v = some y) : ∃ k, v = vK k ∧ y = (dK k, []) := by
  unfold rK at h
  split at h
  · rename_i cs
    split at h
    · rename_i s f g e
      refine ⟨⟨s.data.toList, f, g⟩, ?_, by simpa using h.symm⟩
      have : cs = #[.string s, .int .i64 f, .int .i64 g] := by rw [← Array.toList_inj, e]
      rw [this]
    · cases h
  · cases h
theorem rH_inv {v : Value} {y : DataW Unit × List MemPlace} (h : rH v = some y) : ∃ k, v = vH k ∧ y = (dH k, []) := by
  unfold rH at h
  split at h
  · rename_i cs
    split at h
    · rename_i s f e
      refine ⟨⟨0, s.data.toList, f, 0⟩, ?_, by simpa using h.symm⟩
      have : cs = #[.string s, .int .i64 f] := by rw [← Array.toList_inj, e]
      rw [this]
    · cases h
  · cases h
theorem dK_inj {a b : Kd} (h : dK a = dK b) : a = b := by
  unfold dK at h
  simp only [DataW.agg.injEq, List.cons.injEq, DataW.lit.injEq, Lit.string.injEq, Lit.int.injEq, true_and, and_true] at h
  cases a; cases b; simp_all
theorem dH_inj {a b : Hd} (h : dH a = dH b) : a.n = b.n ∧ a.k = b.k := by
  unfold dH at h
  simp only [DataW.agg.injEq, List.cons.injEq, DataW.lit.injEq, Lit.string.injEq, Lit.int.injEq, true_and, and_true] at h
  exact h

theorem lawK : Keyed Tryz.prog 9 := string_keyed Tryz.underlying9
theorem lawH : Keyed Tryz.prog 52 := int_keyed Tryz.underlying52
theorem keyK (x : List UInt8) (hx : x.length ≤ maxLen) : keyOf Tryz.prog 9 (encStr x) = some (.string x) := by
  have := keyOf_string_mk (P := Tryz.prog) (s := ⟨x.toArray⟩) Tryz.underlying9 (by simpa [ByteArray.size] using hx)
  simpa using this
theorem keyH (o : Nat) (ho : o < 4294967296) : keyOf Tryz.prog 52 (.int .u32 (o : Int)) = some (.int .u32 (o : Int)) :=
  keyOf_int_mk Tryz.underlying52 (WalkArith.wf_u32 (by omega))

/-- The map's datum holds just these kinds. -/
def KT (D : DataW Unit) (K : List Kd) : Prop := (∀ k ∈ K, ∀ z, D.atKey (.string k.n) z = dK k) ∧ ∀ x, (∀ k ∈ K, k.n ≠ x) → ∀ z, D.atKey (.string x) z = z
def HT (D : DataW Unit) (H : List Hd) : Prop := (∀ h ∈ H, ∀ z, D.atKey (.int .u32 (h.o : Int)) z = dH h) ∧ ∀ o : Nat, (∀ h ∈ H, h.o ≠ o) → ∀ z, D.atKey (.int .u32 (o : Int)) z = z
def OwnK (w : World) (b : Nat) (K : List Kd) : Prop := ∃ D, w.ownsMap Tryz.prog 9 rK b (Maps.size D) D ∧ KT D K ∧ Maps.size D = K.length
def OwnH (w : World) (b : Nat) (H : List Hd) : Prop := ∃ D, w.ownsMap Tryz.prog 52 rH b (Maps.size D) D ∧ HT D H ∧ Maps.size D = H.length

theorem tight {w : World} {k : TypeId} {R : Value → Option (DataW Unit × List MemPlace)} {b n : Nat} {D : DataW Unit} (h : w.ownsMap Tryz.prog k R b n D) : w.ownsMap Tryz.prog k R b (Maps.size D) D := by
  obtain ⟨es, clock, hb, F, hs, rfl⟩ := h
  refine ⟨es, clock, hb, F, ?_, rfl⟩
  simp [Maps.size, length_sorted]

theorem OwnK.lt {w : World} {b : Nat} {K : List Kd} (h : OwnK w b K) : b < w.heap.size := by obtain ⟨D, h, -⟩ := h; exact h.lt
theorem OwnH.lt {w : World} {b : Nat} {H : List Hd} (h : OwnH w b H) : b < w.heap.size := by obtain ⟨D, h, -⟩ := h; exact h.lt
theorem OwnK.same {w w' : World} {b : Nat} {K : List Kd} (h : OwnK w b K) (e : w'.heap[b]? = w.heap[b]?) : OwnK w' b K := by
  obtain ⟨D, ⟨es, clock, hb, r⟩, h2⟩ := h
  exact ⟨D, ⟨es, clock, e.trans hb, r⟩, h2⟩
theorem OwnH.same {w w' : World} {b : Nat} {H : List Hd} (h : OwnH w b H) (e : w'.heap[b]? = w.heap[b]?) : OwnH w' b H := by
  obtain ⟨D, ⟨es, clock, hb, r⟩, h2⟩ := h
  exact ⟨D, ⟨es, clock, e.trans hb, r⟩, h2⟩

theorem OwnK.made (w : World) : OwnK (w.alloc (.map #[] 0)) w.heap.size [] :=
  ⟨.map [], World.ownsMap_made w Tryz.prog 9 rK, ⟨(fun k hk => absurd hk (by simp)), fun x _ z => rfl⟩, rfl⟩
theorem OwnH.made (w : World) : OwnH (w.alloc (.map #[] 0)) w.heap.size [] :=
  ⟨.map [], World.ownsMap_made w Tryz.prog 52 rH, ⟨(fun k hk => absurd hk (by simp)), fun x _ z => rfl⟩, rfl⟩

/-! ### what is looked up -/
theorem KT.find {D : DataW Unit} {K : List Kd} (h : KT D K) (x : List UInt8) (z : DataW Unit) : D.atKey (.string x) z = match findK K x with | none => z | some k => dK k := by
  cases hf : findK K x with
  | none => exact h.2 x (findK_none hf) z
  | some k => obtain ⟨hk, rfl⟩ := findK_some hf; exact h.1 k hk z
theorem KT.has {D : DataW Unit} {K : List Kd} (h : KT D K) (x : List UInt8) : Maps.has D (.string x) = (findK K x).isSome := by
  cases hf : findK K x with
  | none => exact has_false_of_atKey (h.2 x (findK_none hf))
  | some k => obtain ⟨hk, rfl⟩ := findK_some hf; exact has_true_of_atKey (h.1 k hk)
theorem HT.find {D : DataW Unit} {H : List Hd} (h : HT D H) (o : Nat) (z : DataW Unit) : D.atKey (.int .u32 (o : Int)) z = match findH H o with | none => z | some k => dH k := by
  cases hf : findH H o with
  | none => exact h.2 o (findH_none hf) z
  | some k => obtain ⟨hk, rfl⟩ := findH_some hf; exact h.1 k hk z
theorem HT.has {D : DataW Unit} {H : List Hd} (h : HT D H) (o : Nat) : Maps.has D (.int .u32 (o : Int)) = (findH H o).isSome := by
  cases hf : findH H o with
  | none => exact has_false_of_atKey (h.2 o (findH_none hf))
  | some k => obtain ⟨hk, rfl⟩ := findH_some hf; exact has_true_of_atKey (h.1 k hk)

theorem OwnK.look_ok {w : World} {b : Nat} {K : List Kd} (h : OwnK w b K) (x : List UInt8) (hx : x.length ≤ maxLen) :
    (Instr.lookup 182 (.map (some b)) (encStr x) true).run Tryz.prog w = .ok (.tuple #[vK ((findK K x).getD zK), .bool (findK K x).isSome]) w := by
  obtain ⟨D, hown, hT, -⟩ := h
  obtain ⟨v, ps, hrun, hv⟩ := hown.look_ok lawK Tryz.underlying182 (Tryz.zeroValue87 w) (zd := dK zK) (zp := []) (rK_mk zK) (keyK x hx)
  rw [hT.find] at hv
  rw [hrun, hT.has]
  obtain ⟨k, rfl, e⟩ := rK_inv hv
  have e1 : (match findK K x with | none => dK zK | some k => dK k) = dK k := congrArg Prod.fst e
  have : (findK K x).getD zK = k := by
    cases hf : findK K x with
    | none => rw [hf] at e1; exact dK_inj e1
    | some k' => rw [hf] at e1; exact dK_inj e1
  rw [this]
theorem OwnK.look {w : World} {b : Nat} {K : List Kd} (h : OwnK w b K) (x : List UInt8) (hx : x.length ≤ maxLen) :
    (Instr.lookup 182 (.map (some b)) (encStr x) false).run Tryz.prog w = .ok (vK ((findK K x).getD zK)) w := by
  obtain ⟨D, hown, hT, -⟩ := h
  obtain ⟨v, ps, hrun, hv⟩ := hown.lookup lawK Tryz.underlying182 (Tryz.zeroValue87 w) (zd := dK zK) (zp := []) (rK_mk zK) (keyK x hx)
  rw [hT.find] at hv
  rw [hrun]
  obtain ⟨k, rfl, e⟩ := rK_inv hv
  have e1 : (match findK K x with | none => dK zK | some k => dK k) = dK k := congrArg Prod.fst e
  have : (findK K x).getD zK = k := by
    cases hf : findK K x with
    | none => rw [hf] at e1; exact dK_inj e1
    | some k' => rw [hf] at e1; exact dK_inj e1
  rw [this]
theorem OwnH.look_ok {w : World} {b : Nat} {H : List Hd} (h : OwnH w b H) (o : Nat) (ho : o < 4294967296) :
    (Instr.lookup 183 (.map (some b)) (.int .u32 (o : Int)) true).run Tryz.prog w = .ok (.tuple #[vH ((findH H o).getD zH), .bool (findH H o).isSome]) w := by
  obtain ⟨D, hown, hT, -⟩ := h
  obtain ⟨v, ps, hrun, hv⟩ := hown.look_ok lawH Tryz.underlying183 (Tryz.zeroValue282 w) (zd := dH zH) (zp := []) (rH_mk zH) (keyH o ho)
  rw [hT.find] at hv
  rw [hrun, hT.has]
  obtain ⟨k, rfl, e⟩ := rH_inv hv
  have e1 : (match findH H o with | none => dH zH | some k => dH k) = dH k := congrArg Prod.fst e
  have : ((findH H o).getD zH).n = k.n ∧ ((findH H o).getD zH).k = k.k := by
    cases hf : findH H o with
    | none => rw [hf] at e1; exact dH_inj e1
    | some k' => rw [hf] at e1; exact dH_inj e1
  unfold vH
  rw [this.1, this.2]
theorem OwnK.len {w : World} {b : Nat} {K : List Kd} (h : OwnK w b K) (ty : TypeId) : (Builtin.len_ #[182] ty #[.map (some b)]).run Tryz.prog w = .ok (.int .i64 K.length) w := by
  obtain ⟨D, hown, hT, hz⟩ := h
  rw [hown.len Tryz.underlying182 ty, hz]
/-! ### what is stored and deleted -/
theorem isKeyS (x : List UInt8) : WideAt.IsKeyLit (.string x) := by simp [WideAt.IsKeyLit]
theorem isKeyI (o : Int) : WideAt.IsKeyLit (.int .u32 o) := by simp [WideAt.IsKeyLit]
theorem keyNe {a b : Nat} (h : a ≠ b) : (Lit.int .u32 (a : Int)) ≠ .int .u32 (b : Int) := fun e => h (by injection e with _ e; omega)
theorem OwnK.upd {w : World} {b : Nat} {K : List Kd} (h : OwnK w b K) (hs : KSort K) (k k0 : Kd) (h0 : k0 ∈ K) (e0 : k0.n = k.n) (hx : k.n.length ≤ maxLen) (hK : K.length ≤ 1000000) :
    ∃ w', (Instr.mapUpdate 182 (.map (some b)) (encStr k.n) (vK k)).run Tryz.prog w = .ok () w' ∧ OwnK w' b (updK K k) ∧ w.mapTurned w' b := by
  obtain ⟨D, hown, hT, hz⟩ := h
  obtain ⟨w', hrun, hown', ht⟩ := hown.store lawK Tryz.underlying182 (by unfold maxLen; omega) (keyK k.n hx) (rK_mk k)
  refine ⟨w', hrun, ⟨_, tight hown', ⟨?_, ?_⟩, ?_⟩, ht⟩
  · intro y hy z
    rcases mem_updK.1 hy with ⟨rfl, _⟩ | ⟨hy, hne⟩
    · exact atKey_put_same hown.isMap (isKeyS _) _ _
    · rw [atKey_put_other (by simpa using hne)]; exact hT.1 y hy z
  · intro x hx z
    have hne : x ≠ k.n := fun e => hx k (mem_updK.2 (.inl ⟨rfl, k0, h0, e0⟩)) e.symm
    rw [atKey_put_other (by simpa using hne)]
    refine hT.2 x (fun y hy e => ?_) z
    exact hx y (mem_updK.2 (.inr ⟨hy, fun e' => hne (e.symm.trans e')⟩)) e
  · have hh : Maps.has D (.string k.n) = true := by rw [hT.has, ← e0, hs.find h0]; rfl
    rw [size_put (hown.tidy lawK), if_pos hh, hz, updK_length]
theorem mem_insK {h y : Kd} : ∀ {H : List Kd}, y ∈ insK h H ↔ y = h ∨ y ∈ H
  | [] => by simp [insK]
  | x :: r => by
    unfold insK
    split
    · simp
    · simp only [List.mem_cons, mem_insK (H := r)]
      constructor
      · rintro (h | h | h) <;> simp [h]
      · rintro (h | h | h) <;> simp [h]
theorem insK_length (h : Kd) : ∀ H : List Kd, (insK h H).length = H.length + 1
  | [] => rfl
  | x :: r => by unfold insK; split <;> simp [insK_length h r]
theorem KSort.ins {K : List Kd} {k : Kd} (hs : KSort K) (hn : ∀ x ∈ K, x.n ≠ k.n) : KSort (insK k K) := by
  induction K with
  | nil => exact List.pairwise_singleton _ _
  | cons x r ih =>
    obtain ⟨h1, h2⟩ := List.pairwise_cons.1 hs
    unfold insK
    split
    · rename_i e
      refine List.pairwise_cons.2 ⟨fun y hy => ?_, hs⟩
      rcases List.mem_cons.1 hy with rfl | hy
      · exact e
      · exact nm_trans e (h1 y hy)
    · rename_i e
      refine List.pairwise_cons.2 ⟨fun y hy => ?_, ih h2 fun y hy => hn y (List.mem_cons_of_mem _ hy)⟩
      rcases mem_insK.1 hy with rfl | hy
      · exact nm_tri e (hn x (List.mem_cons_self ..)).symm
      · exact h1 y hy
theorem OwnK.add {w : World} {b : Nat} {K : List Kd} (h : OwnK w b K) (k : Kd) (hn : ∀ y ∈ K, y.n ≠ k.n) (hx : k.n.length ≤ maxLen) (hK : K.length ≤ 1000000) :
    ∃ w', (Instr.mapUpdate 182 (.map (some b)) (encStr k.n) (vK k)).run Tryz.prog w = .ok () w' ∧ OwnK w' b (insK k K) ∧ w.mapTurned w' b := by
  obtain ⟨D, hown, hT, hz⟩ := h
  obtain ⟨w', hrun, hown', ht⟩ := hown.store lawK Tryz.underlying182 (by unfold maxLen; omega) (keyK k.n hx) (rK_mk k)
  refine ⟨w', hrun, ⟨_, tight hown', ⟨?_, ?_⟩, ?_⟩, ht⟩
  · intro y hy z
    rcases mem_insK.1 hy with rfl | hy
    · exact atKey_put_same hown.isMap (isKeyS _) _ _
    · rw [atKey_put_other (by simpa using hn y hy)]; exact hT.1 y hy z
  · intro x hx z
    have hne : x ≠ k.n := fun e => hx k (mem_insK.2 (.inl rfl)) e.symm
    rw [atKey_put_other (by simpa using hne)]
    exact hT.2 x (fun y hy e => hx y (mem_insK.2 (.inr hy)) e) z
  · have hh : Maps.has D (.string k.n) = false := has_false_of_atKey (hT.2 k.n hn)
    rw [size_put (hown.tidy lawK), if_neg (by rw [hh]; decide), hz, insK_length]
theorem OwnH.add {w : World} {b : Nat} {H : List Hd} (h : OwnH w b H) (k : Hd) (hn : ∀ y ∈ H, y.o ≠ k.o) (hx : k.o < 4294967296) (hK : H.length ≤ 1000000) :
    ∃ w', (Instr.mapUpdate 183 (.map (some b)) (.int .u32 (k.o : Int)) (vH k)).run Tryz.prog w = .ok () w' ∧ OwnH w' b (insH k H) ∧ w.mapTurned w' b := by
  obtain ⟨D, hown, hT, hz⟩ := h
  obtain ⟨w', hrun, hown', ht⟩ := hown.store lawH Tryz.underlying183 (by unfold maxLen; omega) (keyH k.o hx) (rH_mk k)
  refine ⟨w', hrun, ⟨_, tight hown', ⟨?_, ?_⟩, ?_⟩, ht⟩
  · intro y hy z
    rcases mem_insH.1 hy with rfl | hy
    · exact atKey_put_same hown.isMap (isKeyI _) _ _
    · rw [atKey_put_other (keyNe (hn y hy))]; exact hT.1 y hy z
  · intro x hx z
    have hne : x ≠ k.o := fun e => hx k (mem_insH.2 (.inl rfl)) e.symm
    rw [atKey_put_other (keyNe hne)]
    exact hT.2 x (fun y hy e => hx y (mem_insH.2 (.inr hy)) e) z
  · have hh : Maps.has D (.int .u32 (k.o : Int)) = false := has_false_of_atKey (hT.2 k.o hn)
    rw [size_put (hown.tidy lawH), if_neg (by rw [hh]; decide), hz, insH_length]
theorem OwnH.del {w : World} {b : Nat} {H : List Hd} (h : OwnH w b H) (hs : HSort H) (k : Hd) (hk : k ∈ H) (hx : k.o < 4294967296) (ty : TypeId) :
    ∃ w', (Builtin.delete_ #[183, 52] ty #[.map (some b), .int .u32 (k.o : Int)]).run Tryz.prog w = .ok (.tuple #[]) w' ∧ OwnH w' b (delH H k.o) ∧ w.mapTurned w' b := by
  obtain ⟨D, hown, hT, hz⟩ := h
  obtain ⟨w', hrun, hown', ht⟩ := hown.drop lawH Tryz.underlying183 (keyH k.o hx) ty
  refine ⟨w', hrun, ⟨_, tight hown', ⟨?_, ?_⟩, ?_⟩, ht⟩
  · intro y hy z
    obtain ⟨hy, hne⟩ := mem_delH.1 hy
    rw [atKey_del_other (keyNe hne)]; exact hT.1 y hy z
  · intro x hx z
    by_cases e : x = k.o
    · subst e; exact atKey_del_same z
    · rw [atKey_del_other (keyNe e)]
      exact hT.2 x (fun y hy e' => hx y (mem_delH.2 ⟨hy, fun e2 => e (e'.symm.trans e2)⟩) e') z
  · have hh : Maps.has D (.int .u32 (k.o : Int)) = true := by rw [hT.has, hs.find hk]; rfl
    have h1 := size_del (k := .int .u32 (k.o : Int)) (hown.tidy lawH)
    rw [if_pos hh] at h1
    have h2 := delH_length hs hk
    omega

end Go.Proofs.YtpbclmnhkmcknaaGreat.Pu

namespace Go.Proofs.YtpbclmnhkmcknaaGreat.Pu
open Go.RowKit Go.Maps
set_option maxRecDepth 100000
set_option linter.unusedVariables false
set_option linter.unusedSimpArgs false

theorem Lies.cells2 {w : World} {g : Nat} {t : TypeId} {a b : Value} (h : Lies w g t #[a, b]) : w.cell? ⟨g, 0, none⟩ = some a ∧ w.cell? ⟨g, 1, none⟩ = some b := ⟨h.cell 0, h.cell 1⟩
theorem Lies.cells3 {w : World} {g : Nat} {t : TypeId} {a b c : Value} (h : Lies w g t #[a, b, c]) : w.cell? ⟨g, 0, none⟩ = some a ∧ w.cell? ⟨g, 1, none⟩ = some b ∧ w.cell? ⟨g, 2, none⟩ = some c := ⟨h.cell 0, h.cell 1, h.cell 2⟩
theorem Lies.free3 {w : World} {g : Nat} {t : TypeId} {cs : Array Value} (h : Lies w g t cs) : w.frozen? ⟨g, 0, none⟩ = false ∧ w.frozen? ⟨g, 1, none⟩ = false ∧ w.frozen? ⟨g, 2, none⟩ = false := ⟨h.free 0, h.free 1, h.free 2⟩
theorem Lies.same {w w' : World} {g : Nat} {t : TypeId} {cs : Array Value} (h : Lies w g t cs) (e : w'.heap[g]? = w.heap[g]?) : Lies w' g t cs := e.trans h

theorem Lies.cells5 {w : World} {g : Nat} {t : TypeId} {a b c d e : Value} (h : Lies w g t #[a, b, c, d, e]) : w.cell? ⟨g, 0, none⟩ = some a ∧ w.cell? ⟨g, 1, none⟩ = some b ∧ w.cell? ⟨g, 2, none⟩ = some c ∧ w.cell? ⟨g, 3, none⟩ = some d ∧ w.cell? ⟨g, 4, none⟩ = some e := ⟨h.cell 0, h.cell 1, h.cell 2, h.cell 3, h.cell 4⟩
theorem Lies.free5 {w : World} {g : Nat} {t : TypeId} {cs : Array Value} (h : Lies w g t cs) : w.frozen? ⟨g, 0, none⟩ = false ∧ w.frozen? ⟨g, 1, none⟩ = false ∧ w.frozen? ⟨g, 2, none⟩ = false ∧ w.frozen? ⟨g, 3, none⟩ = false ∧ w.frozen? ⟨g, 4, none⟩ = false := ⟨h.free 0, h.free 1, h.free 2, h.free 3, h.free 4⟩

/-- The blocks of a purse: its own, the accounts', and those of the payments in each state. -/
structure SB where
  s : Nat
  k : Nat
  p1 : Nat
  p2 : Nat
  p3 : Nat
def SB.p (b : SB) (t : Nat) : Nat := if t = 1 then b.p1 else if t = 2 then b.p2 else b.p3
/-- The cells of a purse. -/
abbrev pcs (b : SB) : Array Value := #[.map (some b.k), .map none, .map (some b.p1), .map (some b.p2), .map (some b.p3)]
/-- Is it one of its maps? -/
def SB.isMap (b : SB) (i : Nat) : Prop := i = b.k ∨ i = b.p1 ∨ i = b.p2 ∨ i = b.p3
structure At (w : World) (b : SB) (q : Ss) : Prop where
  c : Lies w b.s 186 (pcs b)
  ok : OwnK w b.k q.K
  o1 : OwnH w b.p1 (stH q.H 1)
  o2 : OwnH w b.p2 (stH q.H 2)
  o3 : OwnH w b.p3 (stH q.H 3)
  n : b.k ≠ b.p1 ∧ b.k ≠ b.p2 ∧ b.k ≠ b.p3 ∧ b.p1 ≠ b.p2 ∧ b.p1 ≠ b.p3 ∧ b.p2 ≠ b.p3
theorem OwnK.ne_lies {w : World} {m : Nat} {K : List Kd} (h : OwnK w m K) {g : Nat} {t : TypeId} {cs : Array Value} (hL : Lies w g t cs) : m ≠ g := fun e => by
  obtain ⟨D, ⟨es, clock, hb, -⟩, -⟩ := h
  unfold Lies at hL
  rw [← e, hb] at hL
  cases hL
theorem OwnH.ne_lies {w : World} {m : Nat} {H : List Hd} (h : OwnH w m H) {g : Nat} {t : TypeId} {cs : Array Value} (hL : Lies w g t cs) : m ≠ g := fun e => by
  obtain ⟨D, ⟨es, clock, hb, -⟩, -⟩ := h
  unfold Lies at hL
  rw [← e, hb] at hL
  cases hL
theorem At.op {w : World} {b : SB} {q : Ss} (h : At w b q) (t : Nat) (ht : 1 ≤ t ∧ t ≤ 3) : OwnH w (b.p t) (stH q.H t) := by
  rcases (by omega : t = 1 ∨ t = 2 ∨ t = 3) with rfl | rfl | rfl
  · exact h.o1
  · exact h.o2
  · exact h.o3
theorem SB.k_map (b : SB) : b.isMap b.k := .inl rfl
theorem At.map_lt {w : World} {b : SB} {q : Ss} (h : At w b q) {i : Nat} (hi : b.isMap i) : i < w.heap.size := by
  rcases hi with rfl | rfl | rfl | rfl
  · exact h.ok.lt
  · exact h.o1.lt
  · exact h.o2.lt
  · exact h.o3.lt
/-- Nothing but the maps, and what is new, has turned. -/
structure Frm (w w' : World) (b : SB) : Prop where
  os : w'.os = w.os
  tape : w'.tape = w.tape
  output : w'.output = w.output
  size : w.heap.size ≤ w'.heap.size
  block : ∀ i, i < w.heap.size → ¬ b.isMap i → w'.heap[i]? = w.heap[i]?
theorem Frm.trans {w w' w'' : World} {b : SB} (h : Frm w w' b) (h' : Frm w' w'' b) : Frm w w'' b :=
  ⟨h'.os.trans h.os, h'.tape.trans h.tape, h'.output.trans h.output, Nat.le_trans h.size h'.size, fun i hi h1 => (h'.block i (Nat.lt_of_lt_of_le hi h.size) h1).trans (h.block i hi h1)⟩
theorem Frm.of_below {w w' : World} (b : SB) (h : Below w.heap.size w w') : Frm w w' b := ⟨h.os, h.tape, h.output, h.size, fun i hi _ => h.block i hi⟩
theorem Frm.of_grown {w w' : World} {b : SB} {r : Nat} (h : w.grownBy w' (some r)) (hr : b.isMap r) : Frm w w' b :=
  ⟨h.os, h.tape, h.output, h.size, fun i hi h1 => h.block i hi (fun e => by injection e with e; subst e; exact h1 hr)⟩
theorem Frm.drew {w w' : World} {b : SB} (h : Frm w w' b) : Frm w w'.drew b := ⟨h.os, h.tape, h.output, h.size, h.block⟩
theorem Frm.alloc {w w' : World} {b : SB} (h : Frm w w' b) (o : Obj) : Frm w (w'.alloc o) b := h.trans (Frm.of_below b (below1 w' o))
theorem Frm.lies {w w' : World} {b : SB} (h : Frm w w' b) {g : Nat} {t : TypeId} {cs : Array Value} (hL : Lies w g t cs) (h1 : ¬ b.isMap g) : Lies w' g t cs := hL.same (h.block g hL.lt h1)
theorem At.same {w w' : World} {b : SB} {q : Ss} (h : At w b q) (h0 : w'.heap[b.s]? = w.heap[b.s]?) (hs : ∀ i, b.isMap i → w'.heap[i]? = w.heap[i]?) : At w' b q :=
  ⟨h.c.same h0, h.ok.same (hs _ (.inl rfl)), h.o1.same (hs _ (.inr (.inl rfl))), h.o2.same (hs _ (.inr (.inr (.inl rfl)))), h.o3.same (hs _ (.inr (.inr (.inr rfl)))), h.n⟩
theorem At.below {w w' : World} {b : SB} {q : Ss} (h : At w b q) (hb : Below w.heap.size w w') : At w' b q :=
  h.same (hb.block _ h.c.lt) fun i hi => hb.block _ (h.map_lt hi)
theorem At.alloc {w : World} {b : SB} {q : Ss} (h : At w b q) (o : Obj) : At (w.alloc o) b q := h.below (below1 w o)
/-- A purse in memory whose payments are these, state by state. -/
structure AtM (w : World) (b : SB) (K : List Kd) (P1 P2 P3 : List Hd) : Prop where
  c : Lies w b.s 186 (pcs b)
  ok : OwnK w b.k K
  o1 : OwnH w b.p1 P1
  o2 : OwnH w b.p2 P2
  o3 : OwnH w b.p3 P3
  n : b.k ≠ b.p1 ∧ b.k ≠ b.p2 ∧ b.k ≠ b.p3 ∧ b.p1 ≠ b.p2 ∧ b.p1 ≠ b.p3 ∧ b.p2 ≠ b.p3
theorem At.m {w : World} {b : SB} {q : Ss} (h : At w b q) : AtM w b q.K (stH q.H 1) (stH q.H 2) (stH q.H 3) := ⟨h.c, h.ok, h.o1, h.o2, h.o3, h.n⟩
theorem AtM.at {w : World} {b : SB} {K : List Kd} {P1 P2 P3 H : List Hd} (h : AtM w b K P1 P2 P3) (h1 : stH H 1 = P1) (h2 : stH H 2 = P2) (h3 : stH H 3 = P3) : At w b ⟨K, H⟩ := by
  subst h1 h2 h3
  exact ⟨h.c, h.ok, h.o1, h.o2, h.o3, h.n⟩
section
variable {w w' : World} {b : SB} {K K' : List Kd} {P1 P2 P3 P' : List Hd}
theorem AtM.map_lt (h : AtM w b K P1 P2 P3) {i : Nat} (hi : b.isMap i) : i < w.heap.size := by
  rcases hi with rfl | rfl | rfl | rfl
  · exact h.ok.lt
  · exact h.o1.lt
  · exact h.o2.lt
  · exact h.o3.lt
theorem AtM.map_ne (h : AtM w b K P1 P2 P3) {g : Nat} {t : TypeId} {cs : Array Value} (hL : Lies w g t cs) : ¬ b.isMap g := by
  rintro (e | e | e | e)
  · exact h.ok.ne_lies hL e.symm
  · exact h.o1.ne_lies hL e.symm
  · exact h.o2.ne_lies hL e.symm
  · exact h.o3.ne_lies hL e.symm
theorem AtM.same (h : AtM w b K P1 P2 P3) (h0 : w'.heap[b.s]? = w.heap[b.s]?) (hs : ∀ i, b.isMap i → w'.heap[i]? = w.heap[i]?) : AtM w' b K P1 P2 P3 :=
  ⟨h.c.same h0, h.ok.same (hs _ (.inl rfl)), h.o1.same (hs _ (.inr (.inl rfl))), h.o2.same (hs _ (.inr (.inr (.inl rfl)))), h.o3.same (hs _ (.inr (.inr (.inr rfl)))), h.n⟩
theorem AtM.below (h : AtM w b K P1 P2 P3) (hb : Below w.heap.size w w') : AtM w' b K P1 P2 P3 := h.same (hb.block _ h.c.lt) fun i hi => hb.block _ (h.map_lt hi)
theorem AtM.alloc (h : AtM w b K P1 P2 P3) (o : Obj) : AtM (w.alloc o) b K P1 P2 P3 := h.below (below1 w o)
theorem AtM.drew (h : AtM w b K P1 P2 P3) : AtM w.drew b K P1 P2 P3 := h.same rfl fun _ _ => rfl
theorem AtM.turn (h : AtM w b K P1 P2 P3) {m : Nat} (hm : b.isMap m) (ht : w.mapTurned w' m) : Frm w w' b ∧ Lies w' b.s 186 (pcs b) ∧ ∀ i, b.isMap i → i ≠ m → w'.heap[i]? = w.heap[i]? := by
  have hg := ht.grown
  have hne : ∀ i, i < w.heap.size → i ≠ m → w'.heap[i]? = w.heap[i]? := fun i hi hn => hg.block i hi (fun e => hn (Option.some.inj e))
  exact ⟨Frm.of_grown hg hm, h.c.same (hne _ h.c.lt (fun e => h.map_ne h.c (by rw [e]; exact hm))), fun i hi hn => hne i (h.map_lt hi) hn⟩
theorem AtM.turnK (h : AtM w b K P1 P2 P3) (ho : OwnK w' b.k K') (ht : w.mapTurned w' b.k) : AtM w' b K' P1 P2 P3 ∧ Frm w w' b := by
  obtain ⟨hF, hc, hs⟩ := h.turn b.k_map ht
  obtain ⟨n1, n2, n3, -⟩ := h.n
  exact ⟨⟨hc, ho, h.o1.same (hs _ (.inr (.inl rfl)) (Ne.symm n1)), h.o2.same (hs _ (.inr (.inr (.inl rfl))) (Ne.symm n2)), h.o3.same (hs _ (.inr (.inr (.inr rfl))) (Ne.symm n3)), h.n⟩, hF⟩
theorem AtM.turn1 (h : AtM w b K P1 P2 P3) (ho : OwnH w' b.p1 P') (ht : w.mapTurned w' b.p1) : AtM w' b K P' P2 P3 ∧ Frm w w' b := by
  obtain ⟨hF, hc, hs⟩ := h.turn (.inr (.inl rfl)) ht
  obtain ⟨n1, n2, n3, n4, n5, n6⟩ := h.n
  exact ⟨⟨hc, h.ok.same (hs _ (.inl rfl) n1), ho, h.o2.same (hs _ (.inr (.inr (.inl rfl))) (Ne.symm n4)), h.o3.same (hs _ (.inr (.inr (.inr rfl))) (Ne.symm n5)), h.n⟩, hF⟩
theorem AtM.turn2 (h : AtM w b K P1 P2 P3) (ho : OwnH w' b.p2 P') (ht : w.mapTurned w' b.p2) : AtM w' b K P1 P' P3 ∧ Frm w w' b := by
  obtain ⟨hF, hc, hs⟩ := h.turn (.inr (.inr (.inl rfl))) ht
  obtain ⟨n1, n2, n3, n4, n5, n6⟩ := h.n
  exact ⟨⟨hc, h.ok.same (hs _ (.inl rfl) n2), h.o1.same (hs _ (.inr (.inl rfl)) n4), ho, h.o3.same (hs _ (.inr (.inr (.inr rfl))) (Ne.symm n6)), h.n⟩, hF⟩
theorem AtM.turn3 (h : AtM w b K P1 P2 P3) (ho : OwnH w' b.p3 P') (ht : w.mapTurned w' b.p3) : AtM w' b K P1 P2 P' ∧ Frm w w' b := by
  obtain ⟨hF, hc, hs⟩ := h.turn (.inr (.inr (.inr rfl))) ht
  obtain ⟨n1, n2, n3, n4, n5, n6⟩ := h.n
  exact ⟨⟨hc, h.ok.same (hs _ (.inl rfl) n3), h.o1.same (hs _ (.inr (.inl rfl)) n5), h.o2.same (hs _ (.inr (.inr (.inl rfl))) n6), ho, h.n⟩, hF⟩
end

/-- A store into a map, where the order is open. -/
theorem stp_upd {ops : Array Oper} {a : Act} {w : World} {K : Act → World → Prop} {Q : Exit → Act → World → Prop} {E : Prop} (dst : Option Tmp) (ty : TypeId) (pos : String) (aft : Array Edge) (t : TypeId) (m k v : Operand)
    (mv kv vv : Value) (w' : World) (hm : a.eval m = mv) (hk : a.eval k = kv) (hv : a.eval v = vv) (hrun : (Instr.mapUpdate t mv kv vv).run Tryz.prog w = .ok () w') (h : K (a.put dst undef) w') :
    if Region.wanted ⟨dst, .mapUpdate t m k v, ty, pos, aft, none⟩ (yielded ops a.tmps) = true then Oper.wp Tryz.prog ⟨dst, .mapUpdate t m k v, ty, pos, aft, none⟩ a w K Q else E := by
  rw [if_pos (by simp [Region.wanted])]
  unfold Oper.wp
  simp [execOp, hm, hk, hv, hrun, Result.andThen]
  exact h
end Go.Proofs.YtpbclmnhkmcknaaGreat.Pu

namespace Go.Proofs.YtpbclmnhkmcknaaGreat.Pu
open Go.RowKit Go.Maps
set_option maxRecDepth 100000
set_option linter.unusedVariables false
set_option linter.unusedSimpArgs false

theorem look_nil (o : Nat) (ho : o < 4294967296) (w : World) : (Instr.lookup 183 (.map none) (.int .u32 (o : Int)) true).run Tryz.prog w = .ok (.tuple #[vH zH, .bool false]) w :=
  Maps.look_nil true lawH Tryz.underlying183 (Tryz.zeroValue282 w) (keyH o ho)
theorem run_idx (b : SB) (w : World) : Sem.run Tryz.prog (Instr.index 184 (.agg #[.map none, .map (some b.p1), .map (some b.p2), .map (some b.p3)]) (.int .i64 0)) w = .ok (.map none) w ∧
    Sem.run Tryz.prog (Instr.index 184 (.agg #[.map none, .map (some b.p1), .map (some b.p2), .map (some b.p3)]) (.int .i64 1)) w = .ok (.map (some b.p1)) w ∧
    Sem.run Tryz.prog (Instr.index 184 (.agg #[.map none, .map (some b.p1), .map (some b.p2), .map (some b.p3)]) (.int .i64 2)) w = .ok (.map (some b.p2)) w ∧
    Sem.run Tryz.prog (Instr.index 184 (.agg #[.map none, .map (some b.p1), .map (some b.p2), .map (some b.p3)]) (.int .i64 3)) w = .ok (.map (some b.p3)) w := by
  refine ⟨?_, ?_, ?_, ?_⟩
  all_goals (show (Instr.index 184 _ _).run Tryz.prog w = _; kernel_rfl)
theorem st_find {q : Ss} (hI : Inv q) {o : Nat} (h1 : findH (stH q.H 1) o = none) (h2 : findH (stH q.H 2) o = none) (h3 : findH (stH q.H 3) o = none) : findH q.H o = none := by
  refine findH_none' fun y hy e => ?_
  obtain ⟨-, -, -, a, b, -⟩ := hI.hh y hy
  rcases (by omega : y.t = 1 ∨ y.t = 2 ∨ y.t = 3) with e1 | e1 | e1
  · exact findH_none h1 y (mem_stH.2 ⟨hy, e1⟩) e
  · exact findH_none h2 y (mem_stH.2 ⟨hy, e1⟩) e
  · exact findH_none h3 y (mem_stH.2 ⟨hy, e1⟩) e
theorem st_some {q : Ss} (hI : Inv q) {o t : Nat} {y : Hd} (h : findH (stH q.H t) o = some y) : findH q.H o = some y := by
  obtain ⟨h1, rfl⟩ := findH_some h
  exact hI.hs.find (mem_stH.1 h1).1
def HsR (w : World) (q : Ss) (o : Nat) (i : Value) (wr : World) : Prop := ∃ j : Nat, j ≤ 4 ∧ i = .int .i64 (j : Int) ∧ Below w.heap.size w wr ∧ (1 < j → findH (stH q.H 1) o = none) ∧ (2 < j → findH (stH q.H 2) o = none) ∧ (3 < j → findH (stH q.H 3) o = none)

set_option maxHeartbeats 4000000 in
theorem has_any (b : SB) (q : Ss) (o : Nat) (w : World) (hA : At w b q) (hI : Inv q) (ho : o < 4294967296) : Calls Tryz.prog 194 #[.pointer (some ⟨b.s, 0, none⟩), .int .u32 (o : Int)] w fun e w' => e = .returned (.bool (findH q.H o).isSome) ∧ Below w.heap.size w w' := by
  have HA := Lib.hid hA
  have HI := Lib.hid hI
  obtain ⟨c0, c1, c2, c3, c4⟩ := hA.c.cells5
  clear hA hI
  go_enter Tryz.func194, Tryz.ntmps194
  go_wp2_with fail
  clear c0 c1 c2 c3 c4
  go_loopw [13] (fun v13 wr => HsR w q o v13 wr) (fun i _ => 4 - (intOf i).toNat)
  case atStart => exact ⟨0, by omega, rfl, Below.refl _ _, fun h => by omega, fun h => by omega, fun h => by omega⟩
  case round =>
    obtain ⟨j, hj, rfl, hB, n1, n2, n3⟩ := hrel
    have HB := Lib.hid hB
    have HAr := Lib.hid (HA.out.below hB)
    obtain ⟨i0, i1, i2, i3⟩ := run_idx b wr
    clear hB
    rcases (by omega : j = 0 ∨ j = 1 ∨ j = 2 ∨ j = 3 ∨ j = 4) with rfl | rfl | rfl | rfl | rfl
    · clear i1 i2 i3
      have lk := look_nil o ho wr
      go_wp2
      go_roundw
      case rel => exact ⟨1, by omega, rfl, HB.out.alloc HB.out.size _, fun h => by omega, fun h => by omega, fun h => by omega⟩
      case measure => simp [intOf]
    · clear i0 i2 i3
      have lk := HAr.out.o1.look_ok o ho
      cases hf : findH (stH q.H 1) o with
      | none =>
        have HN := Lib.hid hf
        rw [hf] at lk
        dsimp only [Option.getD_none, Option.isSome_none] at lk
        clear hf
        go_wp2
        go_roundw
        case rel => exact ⟨2, by omega, rfl, HB.out.alloc HB.out.size _, fun h => HN.out, fun h => by omega, fun h => by omega⟩
        case measure => simp [intOf]
      | some y =>
        have HS : Hid ((findH q.H o).isSome = true) := Lib.hid (by rw [st_some HI.out hf]; rfl)
        rw [hf] at lk
        dsimp only [Option.getD_some, Option.isSome_some] at lk
        clear hf n1 n2 n3
        go_wp2
        go_ret
        exact ⟨by rw [HS.out]; rfl, HB.out.alloc HB.out.size _⟩
    · clear i0 i1 i3
      have lk := HAr.out.o2.look_ok o ho
      cases hf : findH (stH q.H 2) o with
      | none =>
        have HN := Lib.hid hf
        rw [hf] at lk
        dsimp only [Option.getD_none, Option.isSome_none] at lk
        clear hf
        go_wp2
        go_roundw
        case rel => exact ⟨3, by omega, rfl, HB.out.alloc HB.out.size _, fun h => n1 (by omega), fun h => HN.out, fun h => by omega⟩
        case measure => simp [intOf]
      | some y =>
        have HS : Hid ((findH q.H o).isSome = true) := Lib.hid (by rw [st_some HI.out hf]; rfl)
        rw [hf] at lk
        dsimp only [Option.getD_some, Option.isSome_some] at lk
        clear hf n1 n2 n3
        go_wp2
        go_ret
        exact ⟨by rw [HS.out]; rfl, HB.out.alloc HB.out.size _⟩
    · clear i0 i1 i2
      have lk := HAr.out.o3.look_ok o ho
      cases hf : findH (stH q.H 3) o with
      | none =>
        have HN := Lib.hid hf
        rw [hf] at lk
        dsimp only [Option.getD_none, Option.isSome_none] at lk
        clear hf
        go_wp2
        go_roundw
        case rel => exact ⟨4, by omega, rfl, HB.out.alloc HB.out.size _, fun h => n1 (by omega), fun h => n2 (by omega), fun h => HN.out⟩
        case measure => simp [intOf]
      | some y =>
        have HS : Hid ((findH q.H o).isSome = true) := Lib.hid (by rw [st_some HI.out hf]; rfl)
        rw [hf] at lk
        dsimp only [Option.getD_some, Option.isSome_some] at lk
        clear hf n1 n2 n3
        go_wp2
        go_ret
        exact ⟨by rw [HS.out]; rfl, HB.out.alloc HB.out.size _⟩
    · clear i0 i1 i2 i3
      have HN : Hid ((findH q.H o).isSome = false) := Lib.hid (by rw [st_find HI.out (n1 (by omega)) (n2 (by omega)) (n3 (by omega))]; rfl)
      clear n1 n2 n3
      go_wp2
      go_ret
      exact ⟨by rw [HN.out]; rfl, HB.out⟩

end Go.Proofs.YtpbclmnhkmcknaaGreat.Pu

namespace Go.Proofs.YtpbclmnhkmcknaaGreat.Pu
open Go.RowKit
set_option maxRecDepth 100000
set_option linter.unusedVariables false
section
variable {P : Program} {ops : Array Oper} {Q : Act → Prop} {w : World}
end

end Go.Proofs.YtpbclmnhkmcknaaGreat.Pu

namespace Go.Proofs.YtpbclmnhkmcknaaGreat.Pu
open Go.RowKit
set_option maxRecDepth 100000
set_option linter.unusedVariables false

/-- Block g is now these cells, all else as before. -/
structure PutW (w w' : World) (g : Nat) (t : TypeId) (cs : Array Value) : Prop where
  lies : Lies w' g t cs
  grown : w.grownBy w' (some g)
  size : w'.heap.size = w.heap.size
theorem putW {w : World} {g i : Nat} {t : TypeId} {cs : Array Value} (hL : Lies w g t cs) (v : Value) : PutW w (w.setCell ⟨g, i, none⟩ v) g t (cs.setIfInBounds i v) :=
  ⟨hL.put i v, ⟨rfl, rfl, rfl, by simp, fun k hk hne => heap_setCell_other w ⟨g, i, none⟩ k v (fun e => hne (by rw [e]))⟩, by simp⟩

end Go.Proofs.YtpbclmnhkmcknaaGreat.Pu

namespace Go.Proofs.YtpbclmnhkmcknaaGreat.Pu
open Go.RowKit
set_option maxRecDepth 100000
set_option linter.unusedVariables false
set_option linter.unusedSimpArgs false

def MovPost (w : World) (b : SB) (q : Ss) (o c : Nat) (e : Ending) (w' : World) : Prop :=
  e = .returned (.int .i64 (verd (movV q o c))) ∧ At w' b (movS q o c) ∧ Frm w w' b
theorem mov_no {q : Ss} (hI : Inv q) {o c : Nat} (h : findH (stH q.H (frS c)) o = none) : movV q o c = false := by
  rw [← Bool.not_eq_true, movV_iff]
  rintro ⟨y, h1, h2⟩
  rw [findH_st hI.hs, h1] at h
  dsimp only at h
  rw [if_pos h2] at h
  cases h
theorem PutW.trans {w w' w'' : World} {g : Nat} {t : TypeId} {cs ds : Array Value} (h : PutW w w' g t cs) (h' : PutW w' w'' g t ds) : PutW w w'' g t ds :=
  ⟨h'.lies, ⟨h'.grown.os.trans h.grown.os, h'.grown.tape.trans h.grown.tape, h'.grown.output.trans h.grown.output, Nat.le_trans h.grown.size h'.grown.size, fun i hi hn => (h'.grown.block i (by rw [h.size]; exact hi) hn).trans (h.grown.block i hi hn)⟩, h'.size.trans h.size⟩
theorem PutW.other {w w' : World} {g : Nat} {t : TypeId} {cs : Array Value} (h : PutW w w' g t cs) {i : Nat} (hi : i < w.heap.size) (hn : i ≠ g) : w'.heap[i]? = w.heap[i]? := h.grown.block i hi (fun e => hn (Option.some.inj e))
theorem PutW.lies_other {w w' : World} {g : Nat} {t : TypeId} {cs : Array Value} (h : PutW w w' g t cs) {i : Nat} {u : TypeId} {ds : Array Value} (hL : Lies w i u ds) (hn : i ≠ g) : Lies w' i u ds := hL.same (h.other hL.lt hn)
theorem AtM.put {w w' : World} {b : SB} {K : List Kd} {P1 P2 P3 : List Hd} (h : AtM w b K P1 P2 P3) {g : Nat} {t : TypeId} {cs ds : Array Value} {u : TypeId} (hp : PutW w w' g t cs) (hL : Lies w g u ds) (hn : g ≠ b.s) : AtM w' b K P1 P2 P3 :=
  h.same (hp.other h.c.lt (Ne.symm hn)) fun j hj => hp.other (h.map_lt hj) (fun e => h.map_ne hL (by rw [← e]; exact hj))
theorem Frm.put {w w' w'' : World} {b : SB} (h : Frm w w' b) {g : Nat} {t : TypeId} {cs : Array Value} (hp : PutW w' w'' g t cs) (hg : w.heap.size ≤ g) : Frm w w'' b :=
  ⟨hp.grown.os.trans h.os, hp.grown.tape.trans h.tape, hp.grown.output.trans h.output, by rw [hp.size]; exact h.size, fun i hi h1 => (hp.other (Nat.lt_of_lt_of_le hi h.size) (by omega)).trans (h.block i hi h1)⟩

theorem settle0_any (g : Nat) (k : Kd) (m : Int) (w : World) (hL : Lies w g 87 #[encStr k.n, .int .i64 k.m, .int .i64 k.h]) (hk : 0 ≤ k.h ∧ k.h ≤ k.m ∧ k.m ≤ 1000000000) (hm : 1 ≤ m ∧ m ≤ 1000000000) :
    Calls Tryz.prog 195 #[.pointer (some ⟨g, 0, none⟩), .int .i64 m] w fun e w' => e = .returned (.tuple #[]) ∧ PutW w w' g 87 #[encStr k.n, .int .i64 (k.m - m), .int .i64 (k.h - m)] := by
  have HL := Lib.hid hL
  obtain ⟨c0, c1, c2⟩ := hL.cells3
  obtain ⟨f0, f1, f2⟩ := hL.free3
  have e1 : IntKind.i64.wrap (k.h - m) = k.h - m := IntWalk.i64_in _ (by omega)
  have e2 : IntKind.i64.wrap (k.m - m) = k.m - m := IntWalk.i64_in _ (by omega)
  clear hL
  go_enter Tryz.func195, Tryz.ntmps195
  go_wp2
  go_end0
  exact ⟨rfl, (putW (i := 2) HL.out (.int .i64 (k.h - m))).trans (putW (i := 1) (HL.out.put 2 (.int .i64 (k.h - m))) (.int .i64 (k.m - m)))⟩
theorem settle1_any (g : Nat) (k : Kd) (m : Int) (w : World) (hL : Lies w g 87 #[encStr k.n, .int .i64 k.m, .int .i64 k.h]) (hk : 0 ≤ k.h ∧ k.h ≤ k.m ∧ k.m ≤ 1000000000) (hm : 1 ≤ m ∧ m ≤ 1000000000) :
    Calls Tryz.prog 192 #[.pointer (some ⟨g, 0, none⟩), .int .i64 m] w fun e w' => e = .returned (.tuple #[]) ∧ PutW w w' g 87 #[encStr k.n, .int .i64 k.m, .int .i64 (k.h - m)] := by
  have HL := Lib.hid hL
  obtain ⟨c0, c1, c2⟩ := hL.cells3
  obtain ⟨f0, f1, f2⟩ := hL.free3
  have e1 : IntKind.i64.wrap (k.h - m) = k.h - m := IntWalk.i64_in _ (by omega)
  clear hL
  go_enter Tryz.func192, Tryz.ntmps192
  go_wp2
  go_end0
  exact ⟨rfl, putW (i := 2) HL.out (.int .i64 (k.h - m))⟩
theorem settle2_any (g : Nat) (k : Kd) (m : Int) (w : World) (hL : Lies w g 87 #[encStr k.n, .int .i64 k.m, .int .i64 k.h]) (hk : 0 ≤ k.h ∧ k.h ≤ k.m ∧ k.m ≤ 1000000000) (hm : 1 ≤ m ∧ m ≤ 1000000000) :
    Calls Tryz.prog 193 #[.pointer (some ⟨g, 0, none⟩), .int .i64 m] w fun e w' => e = .returned (.tuple #[]) ∧ PutW w w' g 87 #[encStr k.n, .int .i64 (k.m + m), .int .i64 k.h] := by
  have HL := Lib.hid hL
  obtain ⟨c0, c1, c2⟩ := hL.cells3
  obtain ⟨f0, f1, f2⟩ := hL.free3
  have e1 : IntKind.i64.wrap (k.m + m) = k.m + m := IntWalk.i64_in _ (by omega)
  clear hL
  go_enter Tryz.func193, Tryz.ntmps193
  go_wp2
  go_end0
  exact ⟨rfl, putW (i := 1) HL.out (.int .i64 (k.m + m))⟩

end Go.Proofs.YtpbclmnhkmcknaaGreat.Pu

namespace Go.Proofs.YtpbclmnhkmcknaaGreat.Pu
open Go.RowKit
set_option maxRecDepth 100000
set_option linter.unusedVariables false
set_option linter.unusedSimpArgs false

set_option maxHeartbeats 4000000 in
theorem capture_mov (b : SB) (q : Ss) (o : Nat) (w : World) (hA : At w b q) (hI : Inv q) (ho : o < 4294967296) (hl : q.H.length ≤ 1000) :
    Calls Tryz.prog 191 #[.pointer (some ⟨b.s, 0, none⟩), .int .u32 (o : Int), .int .i64 1, .int .i64 2, .func (.func 195) #[] #[]] w (MovPost w b q o 0) := by
  have HA := Lib.hid hA.m
  have HAQ := Lib.hid hA
  have HI := Lib.hid hI
  obtain ⟨c0, c1, c2, c3, c4⟩ := hA.c.cells5
  have r1 := hA.o1.look_ok o ho
  cases hf : findH (stH q.H 1) o with
  | none =>
    have HV : Hid (movV q o 0 = false) := Lib.hid (mov_no hI hf)
    rw [hf] at r1
    dsimp only [Option.getD_none, Option.isSome_none] at r1
    clear hA hI hf
    go_enter Tryz.func191, Tryz.ntmps191
    go_wp2
    go_ret
    refine ⟨by rw [HV.out]; rfl, ?_, Frm.of_below b (below1 _ _)⟩
    rw [movS_no HV.out]
    exact HAQ.out.alloc _
  | some y =>
    rw [hf] at r1
    dsimp only [Option.getD_some, Option.isSome_some] at r1
    have hfo := st_some hI hf
    obtain ⟨hys, rfl⟩ := findH_some hf
    obtain ⟨hy, hyt⟩ := mem_stH.1 hys
    obtain ⟨k, hk, hm, hkn⟩ := hI.kn hy
    have HT : Hid (y.t = 1) := Lib.hid hyt
    have HY := Lib.hid hy
    have HFO := Lib.hid hfo
    have HK := Lib.hid hk
    have HM := Lib.hid (And.intro hm hkn)
    have HO := Lib.hid ho
    have HEV : Hid (movV q y.o 0 = true) := Lib.hid (movV_iff.2 ⟨y, hfo, hyt⟩)
    have HYL : Hid (y.n.length ≤ maxLen) := Lib.hid (by have := (hI.kb hy).2; unfold maxLen; omega)
    have HNO : Hid (∀ x ∈ stH q.H 2, x.o ≠ y.o) := Lib.hid (fun x hx e => by
      obtain ⟨h1, h2⟩ := mem_stH.1 hx
      rw [hI.hs.uniq h1 hy e, hyt] at h2
      cases h2)
    have HLN : Hid ((stH q.H 2).length ≤ 1000000) := Lib.hid (by have : (stH q.H 2).length ≤ q.H.length := List.length_filter_le _ _; omega)
    have KB := Lib.hid (hI.kbs hm)
    have YB : Hid (1 ≤ y.k ∧ y.k ≤ 1000000000) := Lib.hid ⟨(hI.hh y hy).1, (hI.kb hy).1⟩
    have HA1 := Lib.hid (HA.out.alloc (.cells #[encStr y.n, .int .i64 y.k] 282))
    obtain ⟨w2, hd1, hd2, hd3⟩ := HA1.out.o1.del (hI.hs.st _) y hys ho 0
    obtain ⟨d0, d1, d2, d3, d4⟩ := HA1.out.c.cells5
    obtain ⟨hA2, hF2⟩ := HA1.out.turn1 hd2 hd3
    have HNM : Hid (¬ b.isMap w.heap.size) := Lib.hid (fun hm => Nat.lt_irrefl _ (HA.out.map_lt hm))
    have HA2 := Lib.hid hA2
    have HF2 := Lib.hid ((Frm.of_below b (below1 w (.cells #[encStr y.n, .int .i64 y.k] 282))).trans hF2)
    have L2 := Lib.hid (hF2.lies (Lies.made w 282 #[encStr y.n, .int .i64 y.k]) HNM.out)
    clear hA hI hf hfo hk hm hkn hy hys hyt hA2 hF2 hd2 hd3 hl HAQ
    go_enter Tryz.func191, Tryz.ntmps191
    go_wp2_with fail
    clear r1 hd1 c0 c1 c2 c3 c4 d0 d1 d2 d3 d4
    obtain ⟨w3, hu1, hu2, hu3⟩ := HA2.out.drew.o2.add ⟨y.o, y.n, y.k, 2⟩ HNO.out HO.out HLN.out
    have HU := Lib.hid (And.intro hu1 (And.intro hu2 hu3))
    clear hu1 hu2 hu3
    refine wp_region_noPanic ?_
    refine wp_region_held_drew (S := fun W => Lies W b.s 186 (pcs b) ∧ Lies W w.heap.size 282 #[encStr y.n, .int .i64 y.k]) (by kernel_rfl) ⟨HA2.out.c, L2.out⟩ (fun hH0 => ?_)
    refine any_take 0 36 ?va0 rfl rfl (by kernel_rfl) (by kernel_rfl) (by kernel_rfl) (fun _ _ _ h => h) (by rfl) ?hya0 hH0 ?resta0
    case hya0 => ((intro W hSw); obtain ⟨o0, o1, o2, o3, o4⟩ := Lies.cells5 hSw.1; obtain ⟨p0, p1⟩ := Lies.cells2 hSw.2; go_simp; (try with_reducible rfl))
    try simp only [Act.put, List.setIfInBounds_toArray, List.set_cons_zero, List.set_cons_succ]
    refine any_take 1 37 ?va1 rfl rfl (by kernel_rfl) (by kernel_rfl) (by kernel_rfl) (fun _ _ _ h => h) (by rfl) ?hya1 hH0 ?resta1
    case hya1 => ((intro W hSw); obtain ⟨o0, o1, o2, o3, o4⟩ := Lies.cells5 hSw.1; obtain ⟨p0, p1⟩ := Lies.cells2 hSw.2; go_simp; (try with_reducible rfl))
    try simp only [Act.put, List.setIfInBounds_toArray, List.set_cons_zero, List.set_cons_succ]
    refine any_take 2 38 ?va2 rfl rfl (by kernel_rfl) (by kernel_rfl) (by kernel_rfl) (fun _ _ _ h => h) (by rfl) ?hya2 hH0 ?resta2
    case hya2 => ((intro W hSw); obtain ⟨o0, o1, o2, o3, o4⟩ := Lies.cells5 hSw.1; obtain ⟨p0, p1⟩ := Lies.cells2 hSw.2; go_simp; (try with_reducible rfl))
    try simp only [Act.put, List.setIfInBounds_toArray, List.set_cons_zero, List.set_cons_succ]
    refine any_take 3 39 ?va3 rfl rfl (by kernel_rfl) (by kernel_rfl) (by kernel_rfl) (fun _ _ _ h => h) (by rfl) ?hya3 hH0 ?resta3
    case hya3 => ((intro W hSw); obtain ⟨o0, o1, o2, o3, o4⟩ := Lies.cells5 hSw.1; obtain ⟨p0, p1⟩ := Lies.cells2 hSw.2; go_simp; (try with_reducible rfl))
    try simp only [Act.put, List.setIfInBounds_toArray, List.set_cons_zero, List.set_cons_succ]
    refine any_take 4 40 ?va4 rfl rfl (by kernel_rfl) (by kernel_rfl) (by kernel_rfl) (fun _ _ _ h => h) (by rfl) ?hya4 hH0 ?resta4
    case hya4 => ((intro W hSw); obtain ⟨o0, o1, o2, o3, o4⟩ := Lies.cells5 hSw.1; obtain ⟨p0, p1⟩ := Lies.cells2 hSw.2; go_simp; (try with_reducible rfl))
    try simp only [Act.put, List.setIfInBounds_toArray, List.set_cons_zero, List.set_cons_succ]
    refine any_take 5 41 ?va5 rfl rfl (by kernel_rfl) (by kernel_rfl) (by kernel_rfl) (fun _ _ _ h => h) (by rfl) ?hya5 hH0 ?resta5
    case hya5 => ((intro W hSw); obtain ⟨o0, o1, o2, o3, o4⟩ := Lies.cells5 hSw.1; obtain ⟨p0, p1⟩ := Lies.cells2 hSw.2; go_simp; (try with_reducible rfl))
    try simp only [Act.put, List.setIfInBounds_toArray, List.set_cons_zero, List.set_cons_succ]
    refine any_take 6 42 ?va6 rfl rfl (by kernel_rfl) (by kernel_rfl) (by kernel_rfl) (fun _ _ _ h => h) (by rfl) ?hya6 hH0 ?resta6
    case hya6 => ((intro W hSw); obtain ⟨o0, o1, o2, o3, o4⟩ := Lies.cells5 hSw.1; obtain ⟨p0, p1⟩ := Lies.cells2 hSw.2; go_simp; (try with_reducible rfl))
    try simp only [Act.put, List.setIfInBounds_toArray, List.set_cons_zero, List.set_cons_succ]
    refine any_take 7 43 ?va7 rfl rfl (by kernel_rfl) (by kernel_rfl) (by kernel_rfl) (fun _ _ _ h => h) (by rfl) ?hya7 hH0 ?resta7
    case hya7 => ((intro W hSw); obtain ⟨o0, o1, o2, o3, o4⟩ := Lies.cells5 hSw.1; obtain ⟨p0, p1⟩ := Lies.cells2 hSw.2; go_simp; (try with_reducible rfl))
    try simp only [Act.put, List.setIfInBounds_toArray, List.set_cons_zero, List.set_cons_succ]
    refine wpAnyH_ready (rs := [8]) (by kernel_rfl) (by simp) ?_
    refine AllReadyH.cons rfl (fun K hK => ?_) AllReadyH.nil
    refine stp_upd none _ _ _ 183 (.tmp 41) (.tmp 42) (.tmp 43) (.map (some b.p2)) (.int .u32 (y.o : Int)) (vH ⟨y.o, y.n, y.k, 2⟩) w3 rfl rfl rfl HU.out.1 ?_
    obtain ⟨hA3, hF3⟩ := HA2.out.drew.turn2 HU.out.2.1 HU.out.2.2
    have L3 := Lib.hid (hF3.lies (g := w.heap.size) (t := 282) (w := w2.drew) L2.out HNM.out)
    have HA3 := Lib.hid hA3
    have HF3 := Lib.hid (HF2.out.drew.trans hF3)
    clear hA3 hF3
    refine hK.out _ _ ⟨HA3.out.c, L3.out⟩ (fun hH1 => ?_)
    clear hK K hH0
    try simp only [Act.put, List.setIfInBounds_toArray, List.set_cons_zero, List.set_cons_succ]
    clear hH1
    refine wpAnyH_done (by kernel_rfl) ?_ _
    refine NoPanic.normal ?_
    go_wp2_with fail
    refine wp_region_noPanic ?_
    refine wp_region_held_drew (S := fun W => (Lies W b.s 186 (pcs b) ∧ Lies W w.heap.size 282 #[encStr y.n, .int .i64 y.k]) ∧ OwnK W b.k q.K) (by kernel_rfl) ⟨⟨HA3.out.c, L3.out⟩, HA3.out.ok⟩ (fun hH0 => ?_)
    refine any_take 0 44 ?vb0 rfl rfl (by kernel_rfl) (by kernel_rfl) (by kernel_rfl) (fun _ _ _ h => h) (by rfl) ?hyb0 hH0 ?restb0
    case hyb0 => ((intro W hSw); obtain ⟨o0, o1, o2, o3, o4⟩ := Lies.cells5 hSw.1.1; obtain ⟨p0, p1⟩ := Lies.cells2 hSw.1.2; have lk := hSw.2.look y.n HYL.out; rw [HK.out] at lk; dsimp only [Option.getD_some] at lk; go_simp; (try with_reducible rfl))
    try simp only [Act.put, List.setIfInBounds_toArray, List.set_cons_zero, List.set_cons_succ]
    refine any_take 1 45 ?vb1 rfl rfl (by kernel_rfl) (by kernel_rfl) (by kernel_rfl) (fun _ _ _ h => h) (by rfl) ?hyb1 hH0 ?restb1
    case hyb1 => ((intro W hSw); obtain ⟨o0, o1, o2, o3, o4⟩ := Lies.cells5 hSw.1.1; obtain ⟨p0, p1⟩ := Lies.cells2 hSw.1.2; have lk := hSw.2.look y.n HYL.out; rw [HK.out] at lk; dsimp only [Option.getD_some] at lk; go_simp; (try with_reducible rfl))
    try simp only [Act.put, List.setIfInBounds_toArray, List.set_cons_zero, List.set_cons_succ]
    refine any_take 2 46 ?vb2 rfl rfl (by kernel_rfl) (by kernel_rfl) (by kernel_rfl) (fun _ _ _ h => h) (by rfl) ?hyb2 hH0 ?restb2
    case hyb2 => ((intro W hSw); obtain ⟨o0, o1, o2, o3, o4⟩ := Lies.cells5 hSw.1.1; obtain ⟨p0, p1⟩ := Lies.cells2 hSw.1.2; have lk := hSw.2.look y.n HYL.out; rw [HK.out] at lk; dsimp only [Option.getD_some] at lk; go_simp; (try with_reducible rfl))
    try simp only [Act.put, List.setIfInBounds_toArray, List.set_cons_zero, List.set_cons_succ]
    refine any_take 3 47 ?vb3 rfl rfl (by kernel_rfl) (by kernel_rfl) (by kernel_rfl) (fun _ _ _ h => h) (by rfl) ?hyb3 hH0 ?restb3
    case hyb3 => ((intro W hSw); obtain ⟨o0, o1, o2, o3, o4⟩ := Lies.cells5 hSw.1.1; obtain ⟨p0, p1⟩ := Lies.cells2 hSw.1.2; have lk := hSw.2.look y.n HYL.out; rw [HK.out] at lk; dsimp only [Option.getD_some] at lk; go_simp; (try with_reducible rfl))
    try simp only [Act.put, List.setIfInBounds_toArray, List.set_cons_zero, List.set_cons_succ]
    refine any_take 4 48 ?vb4 rfl rfl (by kernel_rfl) (by kernel_rfl) (by kernel_rfl) (fun _ _ _ h => h) (by rfl) ?hyb4 hH0 ?restb4
    case hyb4 => ((intro W hSw); obtain ⟨o0, o1, o2, o3, o4⟩ := Lies.cells5 hSw.1.1; obtain ⟨p0, p1⟩ := Lies.cells2 hSw.1.2; have lk := hSw.2.look y.n HYL.out; rw [HK.out] at lk; dsimp only [Option.getD_some] at lk; go_simp; (try with_reducible rfl))
    try simp only [Act.put, List.setIfInBounds_toArray, List.set_cons_zero, List.set_cons_succ]
    refine any_take 5 49 ?vb5 rfl rfl (by kernel_rfl) (by kernel_rfl) (by kernel_rfl) (fun _ _ _ h => h) (by rfl) ?hyb5 hH0 ?restb5
    case hyb5 => ((intro W hSw); obtain ⟨o0, o1, o2, o3, o4⟩ := Lies.cells5 hSw.1.1; obtain ⟨p0, p1⟩ := Lies.cells2 hSw.1.2; have lk := hSw.2.look y.n HYL.out; rw [HK.out] at lk; dsimp only [Option.getD_some] at lk; go_simp; (try with_reducible rfl))
    try simp only [Act.put, List.setIfInBounds_toArray, List.set_cons_zero, List.set_cons_succ]
    refine any_take 6 50 ?vb6 rfl rfl (by kernel_rfl) (by kernel_rfl) (by kernel_rfl) (fun _ _ _ h => h) (by rfl) ?hyb6 hH0 ?restb6
    case hyb6 => ((intro W hSw); obtain ⟨o0, o1, o2, o3, o4⟩ := Lies.cells5 hSw.1.1; obtain ⟨p0, p1⟩ := Lies.cells2 hSw.1.2; have lk := hSw.2.look y.n HYL.out; rw [HK.out] at lk; dsimp only [Option.getD_some] at lk; go_simp; (try with_reducible rfl))
    try simp only [Act.put, List.setIfInBounds_toArray, List.set_cons_zero, List.set_cons_succ]
    refine wpAnyH_ready (rs := [7]) (by kernel_rfl) (by simp) ?_
    refine AllReadyH.cons rfl (fun K hK => ?_) AllReadyH.nil
    go_simp
    refine hK.out _ _ ⟨⟨(HA3.out.drew.alloc _).c, Lies.alloc (w := w3.drew) L3.out _⟩, (HA3.out.drew.alloc _).ok⟩ (fun hH1 => ?_)
    clear hK K hH0
    try simp only [Act.put, List.setIfInBounds_toArray, List.set_cons_zero, List.set_cons_succ]
    refine wpAnyH_ready (rs := [8]) (by kernel_rfl) (by simp) ?_
    refine AllReadyH.cons rfl (fun K hK => ?_) AllReadyH.nil
    go_simp
    refine hK.out _ _ ⟨⟨(HA3.out.drew.alloc _).c, Lies.alloc (w := w3.drew) L3.out _⟩, (HA3.out.drew.alloc _).ok⟩ (fun hH2 => ?_)
    clear hK K hH1
    try simp only [Act.put, List.setIfInBounds_toArray, List.set_cons_zero, List.set_cons_succ]
    clear hH2
    refine wpAnyH_done (by kernel_rfl) ?_ _
    refine NoPanic.normal ?_
    obtain ⟨W4, hW4⟩ : ∃ W4, W4 = (w3.alloc (.cells #[encStr k.n, .int .i64 k.m, .int .i64 k.h] 87)).drew := ⟨_, rfl⟩
    rw [← hW4]
    have HA4 : Hid (AtM W4 b q.K (delH (stH q.H 1) y.o) (insH ⟨y.o, y.n, y.k, 2⟩ (stH q.H 2)) (stH q.H 3)) := Lib.hid (by rw [hW4]; exact (HA3.out.alloc _).drew)
    have L4 : Hid (Lies W4 w.heap.size 282 #[encStr y.n, .int .i64 y.k]) := Lib.hid (by rw [hW4]; exact Lies.alloc (w := w3) L3.out _)
    have M4 : Hid (Lies W4 w3.heap.size 87 #[encStr k.n, .int .i64 k.m, .int .i64 k.h]) := Lib.hid (by rw [hW4]; exact Lies.made w3 _ _)
    have HF4 : Hid (Frm w W4 b) := Lib.hid (by rw [hW4]; exact (HF3.out.alloc _).drew)
    have HNE : Hid (w3.heap.size ≠ w.heap.size ∧ w3.heap.size ≠ b.s ∧ w.heap.size ≤ w3.heap.size) := Lib.hid ⟨Nat.ne_of_gt L3.out.lt, Nat.ne_of_gt HA3.out.c.lt, HF3.out.size⟩
    have HNM2 : Hid (¬ b.isMap w3.heap.size) := Lib.hid (fun hm => Nat.lt_irrefl _ (HA3.out.map_lt hm))
    clear hW4
    obtain ⟨q0, q1⟩ := L4.out.cells2
    go_wp2_with fail
    with_reducible refine (settle0_any w3.heap.size k y.k W4 M4.out KB.out YB.out).mono ?_
    rintro e w5 ⟨rfl, hp⟩
    have HA5 := Lib.hid (HA4.out.put hp M4.out HNE.out.2.1)
    have L5 := Lib.hid (hp.lies_other L4.out (Ne.symm HNE.out.1))
    have M5 := Lib.hid hp.lies
    have HF5 := Lib.hid (HF4.out.put hp HNE.out.2.2)
    clear hp q0 q1
    go_wp2_with fail
    obtain ⟨w6, hu1, hu2, hu3⟩ := HA5.out.drew.ok.upd HI.out.ks ⟨k.n, k.m - y.k, k.h - y.k⟩ k HM.out.1 rfl (by show k.n.length ≤ _; rw [HM.out.2]; exact HYL.out) (by have := HI.out.kz; show q.K.length ≤ _; omega)
    have HU2 := Lib.hid (And.intro hu1 (And.intro hu2 hu3))
    clear hu1 hu2 hu3
    refine wp_region_noPanic ?_
    refine wp_region_held_drew (S := fun W => (Lies W b.s 186 (pcs b) ∧ Lies W w.heap.size 282 #[encStr y.n, .int .i64 y.k]) ∧ Lies W w3.heap.size 87 #[encStr k.n, .int .i64 (k.m - y.k), .int .i64 (k.h - y.k)]) (by kernel_rfl) ⟨⟨HA5.out.c, L5.out⟩, M5.out⟩ (fun hH0 => ?_)
    refine any_take 0 55 ?vc0 rfl rfl (by kernel_rfl) (by kernel_rfl) (by kernel_rfl) (fun _ _ _ h => h) (by rfl) ?hyc0 hH0 ?restc0
    case hyc0 => ((intro W hSw); obtain ⟨o0, o1, o2, o3, o4⟩ := Lies.cells5 hSw.1.1; obtain ⟨p0, p1⟩ := Lies.cells2 hSw.1.2; obtain ⟨m0, m1, m2⟩ := Lies.cells3 hSw.2; go_simp; (try with_reducible rfl))
    try simp only [Act.put, List.setIfInBounds_toArray, List.set_cons_zero, List.set_cons_succ]
    refine any_take 1 56 ?vc1 rfl rfl (by kernel_rfl) (by kernel_rfl) (by kernel_rfl) (fun _ _ _ h => h) (by rfl) ?hyc1 hH0 ?restc1
    case hyc1 => ((intro W hSw); obtain ⟨o0, o1, o2, o3, o4⟩ := Lies.cells5 hSw.1.1; obtain ⟨p0, p1⟩ := Lies.cells2 hSw.1.2; obtain ⟨m0, m1, m2⟩ := Lies.cells3 hSw.2; go_simp; (try with_reducible rfl))
    try simp only [Act.put, List.setIfInBounds_toArray, List.set_cons_zero, List.set_cons_succ]
    refine any_take 2 57 ?vc2 rfl rfl (by kernel_rfl) (by kernel_rfl) (by kernel_rfl) (fun _ _ _ h => h) (by rfl) ?hyc2 hH0 ?restc2
    case hyc2 => ((intro W hSw); obtain ⟨o0, o1, o2, o3, o4⟩ := Lies.cells5 hSw.1.1; obtain ⟨p0, p1⟩ := Lies.cells2 hSw.1.2; obtain ⟨m0, m1, m2⟩ := Lies.cells3 hSw.2; go_simp; (try with_reducible rfl))
    try simp only [Act.put, List.setIfInBounds_toArray, List.set_cons_zero, List.set_cons_succ]
    refine any_take 3 58 ?vc3 rfl rfl (by kernel_rfl) (by kernel_rfl) (by kernel_rfl) (fun _ _ _ h => h) (by rfl) ?hyc3 hH0 ?restc3
    case hyc3 => ((intro W hSw); obtain ⟨o0, o1, o2, o3, o4⟩ := Lies.cells5 hSw.1.1; obtain ⟨p0, p1⟩ := Lies.cells2 hSw.1.2; obtain ⟨m0, m1, m2⟩ := Lies.cells3 hSw.2; go_simp; (try with_reducible rfl))
    try simp only [Act.put, List.setIfInBounds_toArray, List.set_cons_zero, List.set_cons_succ]
    refine any_take 4 59 ?vc4 rfl rfl (by kernel_rfl) (by kernel_rfl) (by kernel_rfl) (fun _ _ _ h => h) (by rfl) ?hyc4 hH0 ?restc4
    case hyc4 => ((intro W hSw); obtain ⟨o0, o1, o2, o3, o4⟩ := Lies.cells5 hSw.1.1; obtain ⟨p0, p1⟩ := Lies.cells2 hSw.1.2; obtain ⟨m0, m1, m2⟩ := Lies.cells3 hSw.2; go_simp; (try with_reducible rfl))
    try simp only [Act.put, List.setIfInBounds_toArray, List.set_cons_zero, List.set_cons_succ]
    refine any_take 5 60 ?vc5 rfl rfl (by kernel_rfl) (by kernel_rfl) (by kernel_rfl) (fun _ _ _ h => h) (by rfl) ?hyc5 hH0 ?restc5
    case hyc5 => ((intro W hSw); obtain ⟨o0, o1, o2, o3, o4⟩ := Lies.cells5 hSw.1.1; obtain ⟨p0, p1⟩ := Lies.cells2 hSw.1.2; obtain ⟨m0, m1, m2⟩ := Lies.cells3 hSw.2; go_simp; (try with_reducible rfl))
    try simp only [Act.put, List.setIfInBounds_toArray, List.set_cons_zero, List.set_cons_succ]
    refine any_take 6 61 ?vc6 rfl rfl (by kernel_rfl) (by kernel_rfl) (by kernel_rfl) (fun _ _ _ h => h) (by rfl) ?hyc6 hH0 ?restc6
    case hyc6 => ((intro W hSw); obtain ⟨o0, o1, o2, o3, o4⟩ := Lies.cells5 hSw.1.1; obtain ⟨p0, p1⟩ := Lies.cells2 hSw.1.2; obtain ⟨m0, m1, m2⟩ := Lies.cells3 hSw.2; go_simp; (try with_reducible rfl))
    try simp only [Act.put, List.setIfInBounds_toArray, List.set_cons_zero, List.set_cons_succ]
    refine wpAnyH_ready (rs := [7]) (by kernel_rfl) (by simp) ?_
    refine AllReadyH.cons rfl (fun K hK => ?_) AllReadyH.nil
    refine stp_upd none _ _ _ 182 (.tmp 58) (.tmp 60) (.tmp 61) (.map (some b.k)) (encStr y.n) (vK ⟨k.n, k.m - y.k, k.h - y.k⟩) w6 rfl rfl rfl (by rw [← HM.out.2]; exact HU2.out.1) ?_
    obtain ⟨hA6, hF6⟩ := HA5.out.drew.turnK HU2.out.2.1 HU2.out.2.2
    have L6 := hF6.lies (w := w5.drew) L5.out HNM.out
    have M6 := hF6.lies (w := w5.drew) M5.out HNM2.out
    have HA6 := Lib.hid hA6
    have HF6 := Lib.hid (HF5.out.drew.trans hF6)
    refine hK.out _ _ ⟨⟨hA6.c, L6⟩, M6⟩ (fun hH1 => ?_)
    clear hA6 hF6 L6 M6 hK K hH0
    try simp only [Act.put, List.setIfInBounds_toArray, List.set_cons_zero, List.set_cons_succ]
    clear hH1
    refine wpAnyH_done (by kernel_rfl) ?_ _
    refine NoPanic.normal ?_
    go_wp2
    go_ret
    refine ⟨by rw [HEV.out]; rfl, ?_, HF6.out⟩
    rw [movS_yes (c := 0) HFO.out HT.out HK.out]
    exact HA6.out.at (by rw [← HT.out]; exact stH_set_from HI.out.hs HY.out (by rw [HT.out]; decide)) (stH_set_to HI.out.hs HY.out (by rw [HT.out]; decide)) (stH_set_other HI.out.hs HY.out (by decide) (by rw [HT.out]; decide))

end Go.Proofs.YtpbclmnhkmcknaaGreat.Pu

namespace Go.Proofs.YtpbclmnhkmcknaaGreat.Pu
open Go.RowKit
set_option maxRecDepth 100000
set_option linter.unusedVariables false
set_option linter.unusedSimpArgs false

set_option maxHeartbeats 4000000 in
theorem void_mov (b : SB) (q : Ss) (o : Nat) (w : World) (hA : At w b q) (hI : Inv q) (ho : o < 4294967296) (hl : q.H.length ≤ 1000) :
    Calls Tryz.prog 191 #[.pointer (some ⟨b.s, 0, none⟩), .int .u32 (o : Int), .int .i64 1, .int .i64 3, .func (.func 192) #[] #[]] w (MovPost w b q o 1) := by
  have HA := Lib.hid hA.m
  have HAQ := Lib.hid hA
  have HI := Lib.hid hI
  obtain ⟨c0, c1, c2, c3, c4⟩ := hA.c.cells5
  have r1 := hA.o1.look_ok o ho
  cases hf : findH (stH q.H 1) o with
  | none =>
    have HV : Hid (movV q o 1 = false) := Lib.hid (mov_no hI hf)
    rw [hf] at r1
    dsimp only [Option.getD_none, Option.isSome_none] at r1
    clear hA hI hf
    go_enter Tryz.func191, Tryz.ntmps191
    go_wp2
    go_ret
    refine ⟨by rw [HV.out]; rfl, ?_, Frm.of_below b (below1 _ _)⟩
    rw [movS_no HV.out]
    exact HAQ.out.alloc _
  | some y =>
    rw [hf] at r1
    dsimp only [Option.getD_some, Option.isSome_some] at r1
    have hfo := st_some hI hf
    obtain ⟨hys, rfl⟩ := findH_some hf
    obtain ⟨hy, hyt⟩ := mem_stH.1 hys
    obtain ⟨k, hk, hm, hkn⟩ := hI.kn hy
    have HT : Hid (y.t = 1) := Lib.hid hyt
    have HY := Lib.hid hy
    have HFO := Lib.hid hfo
    have HK := Lib.hid hk
    have HM := Lib.hid (And.intro hm hkn)
    have HO := Lib.hid ho
    have HEV : Hid (movV q y.o 1 = true) := Lib.hid (movV_iff.2 ⟨y, hfo, hyt⟩)
    have HYL : Hid (y.n.length ≤ maxLen) := Lib.hid (by have := (hI.kb hy).2; unfold maxLen; omega)
    have HNO : Hid (∀ x ∈ stH q.H 3, x.o ≠ y.o) := Lib.hid (fun x hx e => by
      obtain ⟨h1, h2⟩ := mem_stH.1 hx
      rw [hI.hs.uniq h1 hy e, hyt] at h2
      cases h2)
    have HLN : Hid ((stH q.H 3).length ≤ 1000000) := Lib.hid (by have : (stH q.H 3).length ≤ q.H.length := List.length_filter_le _ _; omega)
    have KB := Lib.hid (hI.kbs hm)
    have YB : Hid (1 ≤ y.k ∧ y.k ≤ 1000000000) := Lib.hid ⟨(hI.hh y hy).1, (hI.kb hy).1⟩
    have HA1 := Lib.hid (HA.out.alloc (.cells #[encStr y.n, .int .i64 y.k] 282))
    obtain ⟨w2, hd1, hd2, hd3⟩ := HA1.out.o1.del (hI.hs.st _) y hys ho 0
    obtain ⟨d0, d1, d2, d3, d4⟩ := HA1.out.c.cells5
    obtain ⟨hA2, hF2⟩ := HA1.out.turn1 hd2 hd3
    have HNM : Hid (¬ b.isMap w.heap.size) := Lib.hid (fun hm => Nat.lt_irrefl _ (HA.out.map_lt hm))
    have HA2 := Lib.hid hA2
    have HF2 := Lib.hid ((Frm.of_below b (below1 w (.cells #[encStr y.n, .int .i64 y.k] 282))).trans hF2)
    have L2 := Lib.hid (hF2.lies (Lies.made w 282 #[encStr y.n, .int .i64 y.k]) HNM.out)
    clear hA hI hf hfo hk hm hkn hy hys hyt hA2 hF2 hd2 hd3 hl HAQ
    go_enter Tryz.func191, Tryz.ntmps191
    go_wp2_with fail
    clear r1 hd1 c0 c1 c2 c3 c4 d0 d1 d2 d3 d4
    obtain ⟨w3, hu1, hu2, hu3⟩ := HA2.out.drew.o3.add ⟨y.o, y.n, y.k, 3⟩ HNO.out HO.out HLN.out
    have HU := Lib.hid (And.intro hu1 (And.intro hu2 hu3))
    clear hu1 hu2 hu3
    refine wp_region_noPanic ?_
    refine wp_region_held_drew (S := fun W => Lies W b.s 186 (pcs b) ∧ Lies W w.heap.size 282 #[encStr y.n, .int .i64 y.k]) (by kernel_rfl) ⟨HA2.out.c, L2.out⟩ (fun hH0 => ?_)
    refine any_take 0 36 ?va0 rfl rfl (by kernel_rfl) (by kernel_rfl) (by kernel_rfl) (fun _ _ _ h => h) (by rfl) ?hya0 hH0 ?resta0
    case hya0 => ((intro W hSw); obtain ⟨o0, o1, o2, o3, o4⟩ := Lies.cells5 hSw.1; obtain ⟨p0, p1⟩ := Lies.cells2 hSw.2; go_simp; (try with_reducible rfl))
    try simp only [Act.put, List.setIfInBounds_toArray, List.set_cons_zero, List.set_cons_succ]
    refine any_take 1 37 ?va1 rfl rfl (by kernel_rfl) (by kernel_rfl) (by kernel_rfl) (fun _ _ _ h => h) (by rfl) ?hya1 hH0 ?resta1
    case hya1 => ((intro W hSw); obtain ⟨o0, o1, o2, o3, o4⟩ := Lies.cells5 hSw.1; obtain ⟨p0, p1⟩ := Lies.cells2 hSw.2; go_simp; (try with_reducible rfl))
    try simp only [Act.put, List.setIfInBounds_toArray, List.set_cons_zero, List.set_cons_succ]
    refine any_take 2 38 ?va2 rfl rfl (by kernel_rfl) (by kernel_rfl) (by kernel_rfl) (fun _ _ _ h => h) (by rfl) ?hya2 hH0 ?resta2
    case hya2 => ((intro W hSw); obtain ⟨o0, o1, o2, o3, o4⟩ := Lies.cells5 hSw.1; obtain ⟨p0, p1⟩ := Lies.cells2 hSw.2; go_simp; (try with_reducible rfl))
    try simp only [Act.put, List.setIfInBounds_toArray, List.set_cons_zero, List.set_cons_succ]
    refine any_take 3 39 ?va3 rfl rfl (by kernel_rfl) (by kernel_rfl) (by kernel_rfl) (fun _ _ _ h => h) (by rfl) ?hya3 hH0 ?resta3
    case hya3 => ((intro W hSw); obtain ⟨o0, o1, o2, o3, o4⟩ := Lies.cells5 hSw.1; obtain ⟨p0, p1⟩ := Lies.cells2 hSw.2; go_simp; (try with_reducible rfl))
    try simp only [Act.put, List.setIfInBounds_toArray, List.set_cons_zero, List.set_cons_succ]
    refine any_take 4 40 ?va4 rfl rfl (by kernel_rfl) (by kernel_rfl) (by kernel_rfl) (fun _ _ _ h => h) (by rfl) ?hya4 hH0 ?resta4
    case hya4 => ((intro W hSw); obtain ⟨o0, o1, o2, o3, o4⟩ := Lies.cells5 hSw.1; obtain ⟨p0, p1⟩ := Lies.cells2 hSw.2; go_simp; (try with_reducible rfl))
    try simp only [Act.put, List.setIfInBounds_toArray, List.set_cons_zero, List.set_cons_succ]
    refine any_take 5 41 ?va5 rfl rfl (by kernel_rfl) (by kernel_rfl) (by kernel_rfl) (fun _ _ _ h => h) (by rfl) ?hya5 hH0 ?resta5
    case hya5 => ((intro W hSw); obtain ⟨o0, o1, o2, o3, o4⟩ := Lies.cells5 hSw.1; obtain ⟨p0, p1⟩ := Lies.cells2 hSw.2; go_simp; (try with_reducible rfl))
    try simp only [Act.put, List.setIfInBounds_toArray, List.set_cons_zero, List.set_cons_succ]
    refine any_take 6 42 ?va6 rfl rfl (by kernel_rfl) (by kernel_rfl) (by kernel_rfl) (fun _ _ _ h => h) (by rfl) ?hya6 hH0 ?resta6
    case hya6 => ((intro W hSw); obtain ⟨o0, o1, o2, o3, o4⟩ := Lies.cells5 hSw.1; obtain ⟨p0, p1⟩ := Lies.cells2 hSw.2; go_simp; (try with_reducible rfl))
    try simp only [Act.put, List.setIfInBounds_toArray, List.set_cons_zero, List.set_cons_succ]
    refine any_take 7 43 ?va7 rfl rfl (by kernel_rfl) (by kernel_rfl) (by kernel_rfl) (fun _ _ _ h => h) (by rfl) ?hya7 hH0 ?resta7
    case hya7 => ((intro W hSw); obtain ⟨o0, o1, o2, o3, o4⟩ := Lies.cells5 hSw.1; obtain ⟨p0, p1⟩ := Lies.cells2 hSw.2; go_simp; (try with_reducible rfl))
    try simp only [Act.put, List.setIfInBounds_toArray, List.set_cons_zero, List.set_cons_succ]
    refine wpAnyH_ready (rs := [8]) (by kernel_rfl) (by simp) ?_
    refine AllReadyH.cons rfl (fun K hK => ?_) AllReadyH.nil
    refine stp_upd none _ _ _ 183 (.tmp 41) (.tmp 42) (.tmp 43) (.map (some b.p3)) (.int .u32 (y.o : Int)) (vH ⟨y.o, y.n, y.k, 3⟩) w3 rfl rfl rfl HU.out.1 ?_
    obtain ⟨hA3, hF3⟩ := HA2.out.drew.turn3 HU.out.2.1 HU.out.2.2
    have L3 := Lib.hid (hF3.lies (g := w.heap.size) (t := 282) (w := w2.drew) L2.out HNM.out)
    have HA3 := Lib.hid hA3
    have HF3 := Lib.hid (HF2.out.drew.trans hF3)
    clear hA3 hF3
    refine hK.out _ _ ⟨HA3.out.c, L3.out⟩ (fun hH1 => ?_)
    clear hK K hH0
    try simp only [Act.put, List.setIfInBounds_toArray, List.set_cons_zero, List.set_cons_succ]
    clear hH1
    refine wpAnyH_done (by kernel_rfl) ?_ _
    refine NoPanic.normal ?_
    go_wp2_with fail
    refine wp_region_noPanic ?_
    refine wp_region_held_drew (S := fun W => (Lies W b.s 186 (pcs b) ∧ Lies W w.heap.size 282 #[encStr y.n, .int .i64 y.k]) ∧ OwnK W b.k q.K) (by kernel_rfl) ⟨⟨HA3.out.c, L3.out⟩, HA3.out.ok⟩ (fun hH0 => ?_)
    refine any_take 0 44 ?vb0 rfl rfl (by kernel_rfl) (by kernel_rfl) (by kernel_rfl) (fun _ _ _ h => h) (by rfl) ?hyb0 hH0 ?restb0
    case hyb0 => ((intro W hSw); obtain ⟨o0, o1, o2, o3, o4⟩ := Lies.cells5 hSw.1.1; obtain ⟨p0, p1⟩ := Lies.cells2 hSw.1.2; have lk := hSw.2.look y.n HYL.out; rw [HK.out] at lk; dsimp only [Option.getD_some] at lk; go_simp; (try with_reducible rfl))
    try simp only [Act.put, List.setIfInBounds_toArray, List.set_cons_zero, List.set_cons_succ]
    refine any_take 1 45 ?vb1 rfl rfl (by kernel_rfl) (by kernel_rfl) (by kernel_rfl) (fun _ _ _ h => h) (by rfl) ?hyb1 hH0 ?restb1
    case hyb1 => ((intro W hSw); obtain ⟨o0, o1, o2, o3, o4⟩ := Lies.cells5 hSw.1.1; obtain ⟨p0, p1⟩ := Lies.cells2 hSw.1.2; have lk := hSw.2.look y.n HYL.out; rw [HK.out] at lk; dsimp only [Option.getD_some] at lk; go_simp; (try with_reducible rfl))
    try simp only [Act.put, List.setIfInBounds_toArray, List.set_cons_zero, List.set_cons_succ]
    refine any_take 2 46 ?vb2 rfl rfl (by kernel_rfl) (by kernel_rfl) (by kernel_rfl) (fun _ _ _ h => h) (by rfl) ?hyb2 hH0 ?restb2
    case hyb2 => ((intro W hSw); obtain ⟨o0, o1, o2, o3, o4⟩ := Lies.cells5 hSw.1.1; obtain ⟨p0, p1⟩ := Lies.cells2 hSw.1.2; have lk := hSw.2.look y.n HYL.out; rw [HK.out] at lk; dsimp only [Option.getD_some] at lk; go_simp; (try with_reducible rfl))
    try simp only [Act.put, List.setIfInBounds_toArray, List.set_cons_zero, List.set_cons_succ]
    refine any_take 3 47 ?vb3 rfl rfl (by kernel_rfl) (by kernel_rfl) (by kernel_rfl) (fun _ _ _ h => h) (by rfl) ?hyb3 hH0 ?restb3
    case hyb3 => ((intro W hSw); obtain ⟨o0, o1, o2, o3, o4⟩ := Lies.cells5 hSw.1.1; obtain ⟨p0, p1⟩ := Lies.cells2 hSw.1.2; have lk := hSw.2.look y.n HYL.out; rw [HK.out] at lk; dsimp only [Option.getD_some] at lk; go_simp; (try with_reducible rfl))
    try simp only [Act.put, List.setIfInBounds_toArray, List.set_cons_zero, List.set_cons_succ]
    refine any_take 4 48 ?vb4 rfl rfl (by kernel_rfl) (by kernel_rfl) (by kernel_rfl) (fun _ _ _ h => h) (by rfl) ?hyb4 hH0 ?restb4
    case hyb4 => ((intro W hSw); obtain ⟨o0, o1, o2, o3, o4⟩ := Lies.cells5 hSw.1.1; obtain ⟨p0, p1⟩ := Lies.cells2 hSw.1.2; have lk := hSw.2.look y.n HYL.out; rw [HK.out] at lk; dsimp only [Option.getD_some] at lk; go_simp; (try with_reducible rfl))
    try simp only [Act.put, List.setIfInBounds_toArray, List.set_cons_zero, List.set_cons_succ]
    refine any_take 5 49 ?vb5 rfl rfl (by kernel_rfl) (by kernel_rfl) (by kernel_rfl) (fun _ _ _ h => h) (by rfl) ?hyb5 hH0 ?restb5
    case hyb5 => ((intro W hSw); obtain ⟨o0, o1, o2, o3, o4⟩ := Lies.cells5 hSw.1.1; obtain ⟨p0, p1⟩ := Lies.cells2 hSw.1.2; have lk := hSw.2.look y.n HYL.out; rw [HK.out] at lk; dsimp only [Option.getD_some] at lk; go_simp; (try with_reducible rfl))
    try simp only [Act.put, List.setIfInBounds_toArray, List.set_cons_zero, List.set_cons_succ]
    refine any_take 6 50 ?vb6 rfl rfl (by kernel_rfl) (by kernel_rfl) (by kernel_rfl) (fun _ _ _ h => h) (by rfl) ?hyb6 hH0 ?restb6
    case hyb6 => ((intro W hSw); obtain ⟨o0, o1, o2, o3, o4⟩ := Lies.cells5 hSw.1.1; obtain ⟨p0, p1⟩ := Lies.cells2 hSw.1.2; have lk := hSw.2.look y.n HYL.out; rw [HK.out] at lk; dsimp only [Option.getD_some] at lk; go_simp; (try with_reducible rfl))
    try simp only [Act.put, List.setIfInBounds_toArray, List.set_cons_zero, List.set_cons_succ]
    refine wpAnyH_ready (rs := [7]) (by kernel_rfl) (by simp) ?_
    refine AllReadyH.cons rfl (fun K hK => ?_) AllReadyH.nil
    go_simp
    refine hK.out _ _ ⟨⟨(HA3.out.drew.alloc _).c, Lies.alloc (w := w3.drew) L3.out _⟩, (HA3.out.drew.alloc _).ok⟩ (fun hH1 => ?_)
    clear hK K hH0
    try simp only [Act.put, List.setIfInBounds_toArray, List.set_cons_zero, List.set_cons_succ]
    refine wpAnyH_ready (rs := [8]) (by kernel_rfl) (by simp) ?_
    refine AllReadyH.cons rfl (fun K hK => ?_) AllReadyH.nil
    go_simp
    refine hK.out _ _ ⟨⟨(HA3.out.drew.alloc _).c, Lies.alloc (w := w3.drew) L3.out _⟩, (HA3.out.drew.alloc _).ok⟩ (fun hH2 => ?_)
    clear hK K hH1
    try simp only [Act.put, List.setIfInBounds_toArray, List.set_cons_zero, List.set_cons_succ]
    clear hH2
    refine wpAnyH_done (by kernel_rfl) ?_ _
    refine NoPanic.normal ?_
    obtain ⟨W4, hW4⟩ : ∃ W4, W4 = (w3.alloc (.cells #[encStr k.n, .int .i64 k.m, .int .i64 k.h] 87)).drew := ⟨_, rfl⟩
    rw [← hW4]
    have HA4 : Hid (AtM W4 b q.K (delH (stH q.H 1) y.o) (stH q.H 2) (insH ⟨y.o, y.n, y.k, 3⟩ (stH q.H 3))) := Lib.hid (by rw [hW4]; exact (HA3.out.alloc _).drew)
    have L4 : Hid (Lies W4 w.heap.size 282 #[encStr y.n, .int .i64 y.k]) := Lib.hid (by rw [hW4]; exact Lies.alloc (w := w3) L3.out _)
    have M4 : Hid (Lies W4 w3.heap.size 87 #[encStr k.n, .int .i64 k.m, .int .i64 k.h]) := Lib.hid (by rw [hW4]; exact Lies.made w3 _ _)
    have HF4 : Hid (Frm w W4 b) := Lib.hid (by rw [hW4]; exact (HF3.out.alloc _).drew)
    have HNE : Hid (w3.heap.size ≠ w.heap.size ∧ w3.heap.size ≠ b.s ∧ w.heap.size ≤ w3.heap.size) := Lib.hid ⟨Nat.ne_of_gt L3.out.lt, Nat.ne_of_gt HA3.out.c.lt, HF3.out.size⟩
    have HNM2 : Hid (¬ b.isMap w3.heap.size) := Lib.hid (fun hm => Nat.lt_irrefl _ (HA3.out.map_lt hm))
    clear hW4
    obtain ⟨q0, q1⟩ := L4.out.cells2
    go_wp2_with fail
    with_reducible refine (settle1_any w3.heap.size k y.k W4 M4.out KB.out YB.out).mono ?_
    rintro e w5 ⟨rfl, hp⟩
    have HA5 := Lib.hid (HA4.out.put hp M4.out HNE.out.2.1)
    have L5 := Lib.hid (hp.lies_other L4.out (Ne.symm HNE.out.1))
    have M5 := Lib.hid hp.lies
    have HF5 := Lib.hid (HF4.out.put hp HNE.out.2.2)
    clear hp q0 q1
    go_wp2_with fail
    obtain ⟨w6, hu1, hu2, hu3⟩ := HA5.out.drew.ok.upd HI.out.ks ⟨k.n, k.m, k.h - y.k⟩ k HM.out.1 rfl (by show k.n.length ≤ _; rw [HM.out.2]; exact HYL.out) (by have := HI.out.kz; show q.K.length ≤ _; omega)
    have HU2 := Lib.hid (And.intro hu1 (And.intro hu2 hu3))
    clear hu1 hu2 hu3
    refine wp_region_noPanic ?_
    refine wp_region_held_drew (S := fun W => (Lies W b.s 186 (pcs b) ∧ Lies W w.heap.size 282 #[encStr y.n, .int .i64 y.k]) ∧ Lies W w3.heap.size 87 #[encStr k.n, .int .i64 k.m, .int .i64 (k.h - y.k)]) (by kernel_rfl) ⟨⟨HA5.out.c, L5.out⟩, M5.out⟩ (fun hH0 => ?_)
    refine any_take 0 55 ?vc0 rfl rfl (by kernel_rfl) (by kernel_rfl) (by kernel_rfl) (fun _ _ _ h => h) (by rfl) ?hyc0 hH0 ?restc0
    case hyc0 => ((intro W hSw); obtain ⟨o0, o1, o2, o3, o4⟩ := Lies.cells5 hSw.1.1; obtain ⟨p0, p1⟩ := Lies.cells2 hSw.1.2; obtain ⟨m0, m1, m2⟩ := Lies.cells3 hSw.2; go_simp; (try with_reducible rfl))
    try simp only [Act.put, List.setIfInBounds_toArray, List.set_cons_zero, List.set_cons_succ]
    refine any_take 1 56 ?vc1 rfl rfl (by kernel_rfl) (by kernel_rfl) (by kernel_rfl) (fun _ _ _ h => h) (by rfl) ?hyc1 hH0 ?restc1
    case hyc1 => ((intro W hSw); obtain ⟨o0, o1, o2, o3, o4⟩ := Lies.cells5 hSw.1.1; obtain ⟨p0, p1⟩ := Lies.cells2 hSw.1.2; obtain ⟨m0, m1, m2⟩ := Lies.cells3 hSw.2; go_simp; (try with_reducible rfl))
    try simp only [Act.put, List.setIfInBounds_toArray, List.set_cons_zero, List.set_cons_succ]
    refine any_take 2 57 ?vc2 rfl rfl (by kernel_rfl) (by kernel_rfl) (by kernel_rfl) (fun _ _ _ h => h) (by rfl) ?hyc2 hH0 ?restc2
    case hyc2 => ((intro W hSw); obtain ⟨o0, o1, o2, o3, o4⟩ := Lies.cells5 hSw.1.1; obtain ⟨p0, p1⟩ := Lies.cells2 hSw.1.2; obtain ⟨m0, m1, m2⟩ := Lies.cells3 hSw.2; go_simp; (try with_reducible rfl))
    try simp only [Act.put, List.setIfInBounds_toArray, List.set_cons_zero, List.set_cons_succ]
    refine any_take 3 58 ?vc3 rfl rfl (by kernel_rfl) (by kernel_rfl) (by kernel_rfl) (fun _ _ _ h => h) (by rfl) ?hyc3 hH0 ?restc3
    case hyc3 => ((intro W hSw); obtain ⟨o0, o1, o2, o3, o4⟩ := Lies.cells5 hSw.1.1; obtain ⟨p0, p1⟩ := Lies.cells2 hSw.1.2; obtain ⟨m0, m1, m2⟩ := Lies.cells3 hSw.2; go_simp; (try with_reducible rfl))
    try simp only [Act.put, List.setIfInBounds_toArray, List.set_cons_zero, List.set_cons_succ]
    refine any_take 4 59 ?vc4 rfl rfl (by kernel_rfl) (by kernel_rfl) (by kernel_rfl) (fun _ _ _ h => h) (by rfl) ?hyc4 hH0 ?restc4
    case hyc4 => ((intro W hSw); obtain ⟨o0, o1, o2, o3, o4⟩ := Lies.cells5 hSw.1.1; obtain ⟨p0, p1⟩ := Lies.cells2 hSw.1.2; obtain ⟨m0, m1, m2⟩ := Lies.cells3 hSw.2; go_simp; (try with_reducible rfl))
    try simp only [Act.put, List.setIfInBounds_toArray, List.set_cons_zero, List.set_cons_succ]
    refine any_take 5 60 ?vc5 rfl rfl (by kernel_rfl) (by kernel_rfl) (by kernel_rfl) (fun _ _ _ h => h) (by rfl) ?hyc5 hH0 ?restc5
    case hyc5 => ((intro W hSw); obtain ⟨o0, o1, o2, o3, o4⟩ := Lies.cells5 hSw.1.1; obtain ⟨p0, p1⟩ := Lies.cells2 hSw.1.2; obtain ⟨m0, m1, m2⟩ := Lies.cells3 hSw.2; go_simp; (try with_reducible rfl))
    try simp only [Act.put, List.setIfInBounds_toArray, List.set_cons_zero, List.set_cons_succ]
    refine any_take 6 61 ?vc6 rfl rfl (by kernel_rfl) (by kernel_rfl) (by kernel_rfl) (fun _ _ _ h => h) (by rfl) ?hyc6 hH0 ?restc6
    case hyc6 => ((intro W hSw); obtain ⟨o0, o1, o2, o3, o4⟩ := Lies.cells5 hSw.1.1; obtain ⟨p0, p1⟩ := Lies.cells2 hSw.1.2; obtain ⟨m0, m1, m2⟩ := Lies.cells3 hSw.2; go_simp; (try with_reducible rfl))
    try simp only [Act.put, List.setIfInBounds_toArray, List.set_cons_zero, List.set_cons_succ]
    refine wpAnyH_ready (rs := [7]) (by kernel_rfl) (by simp) ?_
    refine AllReadyH.cons rfl (fun K hK => ?_) AllReadyH.nil
    refine stp_upd none _ _ _ 182 (.tmp 58) (.tmp 60) (.tmp 61) (.map (some b.k)) (encStr y.n) (vK ⟨k.n, k.m, k.h - y.k⟩) w6 rfl rfl rfl (by rw [← HM.out.2]; exact HU2.out.1) ?_
    obtain ⟨hA6, hF6⟩ := HA5.out.drew.turnK HU2.out.2.1 HU2.out.2.2
    have L6 := hF6.lies (w := w5.drew) L5.out HNM.out
    have M6 := hF6.lies (w := w5.drew) M5.out HNM2.out
    have HA6 := Lib.hid hA6
    have HF6 := Lib.hid (HF5.out.drew.trans hF6)
    refine hK.out _ _ ⟨⟨hA6.c, L6⟩, M6⟩ (fun hH1 => ?_)
    clear hA6 hF6 L6 M6 hK K hH0
    try simp only [Act.put, List.setIfInBounds_toArray, List.set_cons_zero, List.set_cons_succ]
    clear hH1
    refine wpAnyH_done (by kernel_rfl) ?_ _
    refine NoPanic.normal ?_
    go_wp2
    go_ret
    refine ⟨by rw [HEV.out]; rfl, ?_, HF6.out⟩
    rw [movS_yes (c := 1) HFO.out HT.out HK.out]
    exact HA6.out.at (by rw [← HT.out]; exact stH_set_from HI.out.hs HY.out (by rw [HT.out]; decide)) (stH_set_other HI.out.hs HY.out (by decide) (by rw [HT.out]; decide)) (stH_set_to HI.out.hs HY.out (by rw [HT.out]; decide))

end Go.Proofs.YtpbclmnhkmcknaaGreat.Pu
