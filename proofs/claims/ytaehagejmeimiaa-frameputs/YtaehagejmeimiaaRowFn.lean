/-
  The contract of 'row': frames of some bodies, one behind the other: for every list of slices of bytes.
-/
import Derived.Test.YtaehagejmeimiaaIn
namespace Go.Proofs.Ytaehagejmeimiaa
open Go.RowKit

theorem owns_grown {w w' : World} {B B' : Nat} {T T' : TypeId} {v v' : Value} {n n' : Nat} {xs xs' : List Value} (h : w.ownsRow B T 1 v n xs) (h' : w.ownsRow B' T' 1 v' n' xs') (hne : T ≠ T') (hg : w.grownBy w' v'.ownBlock) : w'.ownsRow B T 1 v n xs := by
  obtain ⟨h0, h1⟩ := h
  refine ⟨h0, ?_⟩
  rcases h1 with h1 | ⟨g, cap, cur, hv, hg0, hh, hr⟩
  · exact .inl h1
  · refine .inr ⟨g, cap, cur, hv, hg0, Lies.grown (t := T) hh hg ?_, hr⟩
    rcases h'.2 with ⟨rfl, _⟩ | ⟨g', cap', cur', rfl, _, hg', _⟩
    · simp [Value.ownBlock]
    · intro e
      have : g = g' := by simpa [Value.ownBlock] using e
      subst this
      rw [hh] at hg'
      injection hg' with hp
      injection hp with _ h2
      exact hne h2
theorem owns_below {w w' : World} {B : Nat} {T : TypeId} {v : Value} {n : Nat} {xs : List Value} (h : w.ownsRow B T 1 v n xs) (hb : Below w.heap.size w w') : w'.ownsRow B T 1 v n xs := by
  obtain ⟨h0, h1⟩ := h
  refine ⟨h0, ?_⟩
  rcases h1 with h1 | ⟨g, cap, cur, hv, hg0, hg, hr⟩
  · exact .inl h1
  · exact .inr ⟨g, cap, cur, hv, hg0, Lies.below (t := T) hg hb (Lies.lt hg), hr⟩
theorem owns_alloc {w : World} {B : Nat} {T : TypeId} {v : Value} {n : Nat} {xs : List Value} (h : w.ownsRow B T 1 v n xs) (o : Obj) : (w.alloc o).ownsRow B T 1 v n xs := owns_below h ((Below.refl _ _).alloc (Nat.le_refl _) o)
theorem owns_block {w : World} {B : Nat} {T : TypeId} {v : Value} {n : Nat} {xs : List Value} (h : w.ownsRow B T 1 v n xs) : ∀ k, v.ownBlock = some k → B ≤ k := by
  intro k hk
  rcases h.2 with ⟨rfl, _⟩ | ⟨g, cap, cur, rfl, hb, _⟩
  · cases hk
  · simp [Value.ownBlock] at hk; omega

/-- A row of numbers of the call's own. -/
abbrev ivals (ns : List Nat) : List Value := ns.map (fun (n : Nat) => Value.int .i64 (n : Int))
def IRow (w : World) (B : Nat) (v : Value) (ns : List Nat) : Prop := w.ownsRow B 3 1 v ns.length (ivals ns)
theorem IRow.nil (w : World) (B : Nat) : IRow w B (.slice none 0 0) [] := ⟨rfl, .inl ⟨rfl, rfl⟩⟩

theorem IRow.alloc {w : World} {B : Nat} {v : Value} {ns : List Nat} (h : IRow w B v ns) (o : Obj) : IRow (w.alloc o) B v ns := owns_alloc h o

/-- A slice of n numbers. -/
def Nums (w : World) (a : Option Addr) (n : Nat) (ns : List Nat) : Prop :=
  ns.length = n ∧ (0 < n → ∃ b off, a = some ⟨b, off, none⟩ ∧ ∀ i, i < n → w.cell? ⟨b, off + i, none⟩ = some (.int .i64 (ns.getD i 0 : Nat)))
theorem Nums.below {w w' : World} {a : Option Addr} {n : Nat} {ns : List Nat} (h : Nums w a n ns) (hb : Below w.heap.size w w') : Nums w' a n ns := by
  obtain ⟨h1, h2⟩ := h
  refine ⟨h1, fun h0 => ?_⟩
  obtain ⟨b, off, e, hc⟩ := h2 h0
  refine ⟨b, off, e, fun i hi => ?_⟩
  have := hc i hi
  rw [hb.cell (block_lt_of_cell this)]
  exact this
theorem IRow.slice {w : World} {B : Nat} {v : Value} {ns : List Nat} (h : IRow w B v ns) : ∃ A c, v = .slice A ns.length c ∧ Nums w A ns.length ns ∧ ns.length ≤ c ∧ c ≤ maxLen := by
  rcases h.2 with ⟨rfl, h0⟩ | ⟨g, cap, cur, rfl, hb, hg, hn, hm, hs, ht⟩
  · rw [h0]
    exact ⟨none, 0, rfl, ⟨h0, fun h => by omega⟩, Nat.le_refl _, by unfold maxLen; omega⟩
  · refine ⟨_, cap, rfl, ⟨rfl, fun _ => ⟨g, 0, rfl, fun i hi => ?_⟩⟩, hn, hm⟩
    have e : (cur.toList.take (ns.length * 1))[i]? = (ivals ns)[i]? := by rw [ht]
    rw [List.getElem?_take, if_pos (by omega), Array.getElem?_toList] at e
    rw [Nat.zero_add, Lies.cell (t := 3) hg, e]
    simp [ivals, List.getD, hi]

/-- 'append' of one number. -/
theorem wpl_appendI {ops : Array Oper} {rest : List Oper} {a : Act} {w : World} {Q : Exit → Act → World → Prop} (dst : Option Tmp) (ty : TypeId) (pos : String) (aft : Array Edge) (s x : Operand)
    (B : Nat) (v : Value) (ns : List Nat) (g k : Nat)
    (hs : a.eval s = v) (hx : a.eval x = .slice (some ⟨g, 0, none⟩) 1 1) (hown : IRow w B v ns) (hsrc : w.cell? ⟨g, 0, none⟩ = some (.int .i64 (k : Nat))) (hsm : ns.length ≤ 1000000) (hB : B ≤ w.heap.size)
    (h : ∀ v' w', IRow w' B v' (ns ++ [k]) → w.grownBy w' v.ownBlock → wpList Try.prog ops Q rest (a.put dst v') w') :
    wpList Try.prog ops Q (⟨dst, .call { callee := .builtin .append, args := #[s, x], argTypes := #[46, 46] }, ty, pos, aft, none⟩ :: rest) a w := by
  refine wpList_append_own_at (w := w) (o := ⟨dst, .call { callee := .builtin .append, args := #[s, x], argTypes := #[46, 46] }, ty, pos, aft, none⟩) rfl s x 46 rfl B 3 _ (.int .i64 0) 1 8 Try.underlying46 Try.type3 rfl rfl rfl rfl (by decide) v ns.length (ivals ns) hs hown
      ⟨g, 0, none⟩ 1 1 [.int .i64 (k : Nat)] hx rfl ?_ (fun u hu => by simp at hu; rw [hu]; rfl) (by unfold maxLen; omega) (by omega) hB ?_
  · intro j u hu
    rcases j with _ | j
    · simp at hu; subst hu; rw [add_off]; exact hsrc
    · simp at hu
  · intro v' w' h1 h2 _ _
    refine h v' w' ?_ h2
    unfold IRow
    rw [List.length_append]
    show w'.ownsRow B 3 1 v' (ns.length + 1) (ivals (ns ++ [k]))
    rw [show ivals (ns ++ [k]) = ivals ns ++ [.int .i64 (k : Nat)] from by simp [ivals]]
    exact h1

/-- Where the frames end. -/
def endsOf (ls : List (List Nat)) : List Nat := (List.range ls.length).map fun i => (Frm.row (ls.take (i + 1))).length
theorem endsOf_len (ls : List (List Nat)) : (endsOf ls).length = ls.length := by simp [endsOf]
theorem endsOf_snoc (ls : List (List Nat)) (x : List Nat) : endsOf (ls ++ [x]) = endsOf ls ++ [(Frm.row (ls ++ [x])).length] := by
  unfold endsOf
  rw [List.length_append, List.length_singleton, List.range_succ, List.map_append]
  congr 1
  · apply List.map_congr_left
    intro i hi
    have : i < ls.length := by simpa using hi
    rw [List.take_append_of_le_length (by omega)]
  · simp
    rw [List.take_of_length_le (by simp)]
theorem endsOf_at (ls : List (List Nat)) (i : Nat) (h : i < ls.length) : (endsOf ls).getD i 0 = (Frm.row (ls.take (i + 1))).length := by
  simp [endsOf, List.getD, h]

/-- What 'row' returns. -/
def RowPost (w : World) (e : Ending) (w' : World) : Prop :=
  ∃ vb vg ve gvs good, e = .returned (.tuple #[vb, vg, ve]) ∧ Own w' w.heap.size vb (Frm.row good) ∧ LRow w' w.heap.size vg gvs ∧ AllRead w gvs good ∧ IRow w' w.heap.size ve (endsOf good) ∧ Frm.Short good ∧ (Frm.row good).length ≤ 8008 ∧ Below w.heap.size w w'

def RowR (w : World) (n : Nat) (vb vg ve i : Value) (wr : World) : Prop :=
  ∃ k gvs good, k ≤ n ∧ i = .int .i64 (k : Nat) ∧ Own wr w.heap.size vb (Frm.row good) ∧ LRow wr w.heap.size vg gvs ∧ AllRead w gvs good ∧ IRow wr w.heap.size ve (endsOf good) ∧ Frm.Short good ∧ (Frm.row good).length ≤ 8008 ∧ Below w.heap.size w wr

theorem num_cell (w : World) (k : Nat) : (w.alloc (.cells #[.int .i64 (k : Nat)] 3)).cell? ⟨w.heap.size, 0, none⟩ = some (.int .i64 (k : Nat)) := by
  rw [cell_of_row _ _ _ _ 3 (0, 0) (heap_alloc_new w _)]; rfl

set_option maxRecDepth 100000 in
set_option maxHeartbeats 2000000 in
theorem row_any (a : Option Addr) (n cap : Nat) (ls : List (List Nat)) (w : World) (hI : InLists w a n cap ls) :
    Calls Try.prog 25 #[.slice a n cap] w (RowPost w) := by
  obtain ⟨hnc, hcm, _, vs, hC, hR⟩ := hI
  have HC := Lib.hid hC
  have HR := Lib.hid hR
  clear hC hR
  unfold maxLen at hcm
  go_enter Try.func25, Try.ntmps25
  go_wp2_with fail
  go_loopw [5, 6, 7, 8] (RowR w n) (fun _ _ _ i _ => n - (intOf i).toNat)
  case atStart => exact ⟨0, [], [], by omega, rfl, Own.nil _ _, LRow.nil _ _, AllRead.nil _, IRow.nil _ _, short_nil, by simp [Frm.row_nil], Below.refl _ _⟩
  case round =>
    obtain ⟨k, gvs, good, hk, rfl, hO, hL, hA, hI, hS, hlen, hbel⟩ := hrel
    have hcnt := row_count good
    have hgl := hA.1
    have hel := endsOf_len good
    obtain ⟨Ab, cb, rfl, _, _, _, _⟩ := hO.slice
    have HO := Lib.hid hO
    have HL := Lib.hid hL
    have HA := Lib.hid hA
    have HI := Lib.hid hI
    have HS := Lib.hid hS
    have HEL := Lib.hid hel
    clear hO hL hA hI hS hel
    by_cases hlt : k < n
    · have i1 : (k : Int) < (n : Int) := by omega
      by_cases h6 : (Frm.row good).length < 6000
      · have i2 : ((Frm.row good).length : Int) < 6000 := by omega
        obtain ⟨b, off, rfl, hc⟩ := HC.out.2 (by omega)
        have hck := hc k hlt
        rw [List.getElem?_eq_getElem (by rw [HC.out.1]; exact hlt)] at hck
        have hre := HR.out.2 k (by rw [HC.out.1]; exact hlt) (by rw [← HR.out.1, HC.out.1]; exact hlt)
        obtain ⟨A, c, hv, hbx, hxc, hcx, hAx⟩ := hre
        rw [hv] at hck
        generalize ls[k]'(by rw [← HR.out.1, HC.out.1]; exact hlt) = x at *
        have hre : Reads w (.slice A x.length c) x := ⟨A, c, rfl, hbx, hxc, hcx, hAx⟩
        have HCK := Lib.hid hck
        have HBX := Lib.hid hbx
        have HRE := Lib.hid hre
        have HAX := Lib.hid hAx
        have hc1 := (hbel.cell (block_lt_of_cell hck)).trans hck
        clear hc hv hck hbx hre hAx
        unfold maxLen at hcx
        by_cases hx : x.length ≤ 2000
        · go_wp2_with fail
          with_reducible refine (put_any _ _ _ _ _ (HBX.out.below hbel) HAX.out hx).mono ?_
          rintro e w2 ⟨v2, rfl, hO2, hb2⟩
          obtain ⟨A2, c2, rfl, hX2, hc2a, hc2b, hA2⟩ := hO2.slice
          clear hO2
          rw [Frm.frm_len] at hX2 hc2a ⊢
          have hb02 := hbel.trans (hb2.mono hbel.size)
          have hc2 := (hb02.cell (block_lt_of_cell HCK.out)).trans HCK.out
          have HX2 := Lib.hid hX2
          have HA2 := Lib.hid hA2
          have HO2 := Lib.hid (HO.out.belowOwn hb2)
          have hfl : (Frm.frm x).length = x.length + 8 := Frm.frm_len x
          have HFL := Lib.hid hfl
          have hq : (((x.length : Int) + 8) == (8 + (x.length : Int))) = true := by rw [beq_iff_eq]; omega
          clear hX2 hA2 hc1 hfl
          obtain ⟨L3, hL3⟩ : ∃ L3, (Frm.row good ++ Frm.frm x).length = L3 := ⟨_, rfl⟩
          have hL3b : L3 = (Frm.row good).length + (x.length + 8) := by rw [← hL3, List.length_append, HFL.out]
          have hL3c : L3 ≤ 8008 := by omega
          have HL3 := Lib.hid hL3
          have HL3B := Lib.hid hL3b
          have HL2 := Lib.hid (owns_below HL.out hb2)
          have HI2 := Lib.hid (owns_below HI.out hb2)
          clear hL3 hL3b
          go_wp2_with (first
            | ((with_reducible refine wpl_append (some 45) _ _ _ (.tmp 43) (.tmp 44) w.heap.size _ (Frm.row good) A2 (x.length + 8) c2 (Frm.frm x) ?hs ?hx HO2.out HX2.out HA2.out ?hm hb02.size ?_); (case hs => rfl); (case hx => rfl); (case hm => omega); (intro v3 w3 ho3 hg3 hv3); (obtain ⟨A3, c3, rfl, hB3, hc3, hm3, hz3⟩ := ho3.slice); (rw [HL3.out] at ho3 hc3 ⊢); (have hb03 := HO2.out.grows hg3 hb02 (Nat.le_refl _) hb02.size); (have hc3x := (hb03.cell (block_lt_of_cell HCK.out)).trans HCK.out); (have H3 := Lib.hid ho3); (have HL4 := Lib.hid (show LRow w3 w.heap.size _ gvs from owns_grown HL2.out HO2.out.1 (by decide) hg3)); (have HI4 := Lib.hid (show IRow w3 w.heap.size _ (endsOf good) from owns_grown HI2.out HO2.out.1 (by decide) hg3)); (clear ho3 hg3 hv3 hB3 hz3))
            | ((with_reducible refine wpl_appendL (some 52) _ _ _ (.tmp 46) (.tmp 51) w.heap.size _ gvs (some ⟨w3.heap.size, 0, none⟩) 1 1 [.slice A x.length c] ?hs ?hx (LRow.alloc HL4.out _) (cells_one _ _ _) ?h1 ?ha ?hm ?hz ?_); (case hs => rfl); (case hx => rfl); (case h1 => (intro q hq; simp at hq; subst hq; rfl)); (case ha => (intro h; cases h)); (case hm => omega); (case hz => exact Nat.le_trans hb03.size (by simp)); (intro v5 w5 ho5 hg5 hv5); (have hb05 := LRow.grows (LRow.alloc HL4.out _) hg5 (hb03.alloc hb03.size _) (Nat.le_refl _) (Nat.le_trans hb03.size (by simp))); (have H5 := Lib.hid ho5); (have HI6 := Lib.hid (show IRow w5 w.heap.size _ (endsOf good) from owns_grown (IRow.alloc HI4.out _) (LRow.alloc HL4.out _) (by decide) hg5)); (have HO6 := Lib.hid ((H3.out.alloc _).grownL (LRow.alloc HL4.out _) hg5)); (clear ho5 hg5 hv5))
            | ((with_reducible refine wpl_appendI (some 57) _ _ _ (.tmp 53) (.tmp 56) w.heap.size _ (endsOf good) w5.heap.size L3 ?hs ?hx (IRow.alloc HI6.out _) (num_cell _ _) ?hm ?hz ?_); (case hs => rfl); (case hx => rfl); (case hm => (rw [HEL.out]; omega)); (case hz => exact Nat.le_trans hb05.size (by simp)); (intro v7 w7 ho7 hg7)))
          have hb07 := (hb05.alloc hb05.size (.cells #[.int .i64 (L3 : Nat)] 3)).grown hg7 (Nat.le_trans hb05.size (by simp)) (fun q hq => owns_block HI6.out q hq)
          have hrow : Frm.row (good ++ [x]) = Frm.row good ++ Frm.frm x := Frm.row_snoc good x
          have hends : endsOf (good ++ [x]) = endsOf good ++ [L3] := by rw [endsOf_snoc, hrow, HL3.out]
          have hO7 : Own w7 w.heap.size (.slice A3 L3 c3) (Frm.row (good ++ [x])) := by
            rw [hrow]
            exact ⟨owns_grown (HO6.out.alloc _).1 (IRow.alloc HI6.out _) (by decide) hg7, HO6.out.2⟩
          have hL7 : LRow w7 w.heap.size v5 (gvs ++ [.slice A x.length c]) := owns_grown (LRow.alloc H5.out _) (IRow.alloc HI6.out _) (by decide) hg7
          have hS7 : Frm.Short (good ++ [x]) := fun y hy => by
            rcases List.mem_append.1 hy with h | h
            · exact HS.out y h
            · simp at h; subst h; exact hx
          have hI7 : IRow w7 w.heap.size v7 (endsOf (good ++ [x])) := by rw [hends]; exact ho7
          go_roundw
          case rel => exact ⟨k + 1, _, good ++ [x], by omega, by go_num, hO7, hL7, HA.out.append (AllRead.one HRE.out), hI7, hS7, by rw [hrow, HL3.out]; exact hL3c, hb07⟩
          case measure => simp [intOf]; omega
        · go_wp2_with fail
          with_reducible refine (put_long _ _ _ _ (by omega) (by unfold maxLen; omega)).mono ?_
          rintro e w2 ⟨rfl, rfl⟩
          go_wp2
          go_roundw
          case rel => exact ⟨k + 1, gvs, good, by omega, by go_num, HO.out, HL.out, HA.out, HI.out, HS.out, hlen, hbel⟩
          case measure => simp [intOf]; omega
      · have i2 : decide (((Frm.row good).length : Int) < 6000) = false := by simp; omega
        go_wp2
        go_ret3
        exact ⟨_, _, _, gvs, good, rfl, HO.out, HL.out, HA.out, HI.out, HS.out, hlen, hbel⟩
    · have hkn : k = n := by omega
      subst hkn
      go_wp2
      go_ret3
      exact ⟨_, _, _, gvs, good, rfl, HO.out, HL.out, HA.out, HI.out, HS.out, hlen, hbel⟩

end Go.Proofs.Ytaehagejmeimiaa
