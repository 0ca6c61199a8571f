/-
  The contracts of IndexFunc, ContainsFunc, isOutOfBounds, slices.Clone and New.
-/
import Derived.Test.YtnajombhlmbopaaAppE
import Derived.Laws.Cover3
namespace Go.Proofs.Ytnajombhlmbopaa
open Go.Proofs Go.RowKit Go.Maps
set_option maxRecDepth 100000
set_option linter.unusedVariables false
set_option linter.unusedSimpArgs false

/-- A slice of n numbers that reads as l. -/
def Iin (w : World) (A : Option Addr) (n : Nat) (l : List Int) : Prop :=
  l.length = n ∧ (0 < n → ∃ b off, A = some ⟨b, off, none⟩ ∧ b < w.heap.size ∧ ∀ (i : Nat) (hi : i < l.length), w.cell? ⟨b, off + i, none⟩ = some (.int .i64 l[i]))
theorem Iin.below {w w' : World} {A : Option Addr} {n : Nat} {l : List Int} (h : Iin w A n l) (hb : Below w.heap.size w w') : Iin w' A n l := by
  obtain ⟨h1, h2⟩ := h
  refine ⟨h1, fun h0 => ?_⟩
  obtain ⟨b, off, e, hlt, hc⟩ := h2 h0
  exact ⟨b, off, e, Nat.lt_of_lt_of_le hlt hb.size, fun i hi => by rw [hb.cell (p := ⟨b, off + i, none⟩) hlt]; exact hc i hi⟩
/-- May a day have no such room? -/
def badI (n : Int) : Bool := decide (n < 0) || decide (1000000 < n)
theorem bad_any (n : Int) (w : World) : Calls Try.prog 25 #[.int .i64 n] w fun e w' => e = .returned (.bool (badI n)) ∧ w = w' := by
  unfold badI
  by_cases h1 : n < 0
  · have e1 : decide (n < 0) = true := by simpa using h1
    rw [e1]
    go_enter Try.func25, Try.ntmps25
    go_wp2
    go_ret
    exact ⟨rfl, rfl⟩
  · have e1 : decide (n < 0) = false := by simpa using h1
    rw [e1]
    by_cases h2 : 1000000 < n
    · have e2 : decide (1000000 < n) = true := by simpa using h2
      rw [e2]
      go_enter Try.func25, Try.ntmps25
      go_wp2
      go_ret
      exact ⟨rfl, rfl⟩
    · have e2 : decide (1000000 < n) = false := by simpa using h2
      rw [e2]
      go_enter Try.func25, Try.ntmps25
      go_wp2
      go_ret
      exact ⟨rfl, rfl⟩
/-- The first that is out of bounds. -/
def idx (l : List Int) : Int := match l.findIdx? badI with
  | some i => (i : Int)
  | none => -1
theorem idx_hit {l : List Int} {i : Nat} (hi : i < l.length) (h : badI l[i] = true) (hn : ∀ (k : Nat) (hk : k < l.length), k < i → badI l[k] = false) : idx l = (i : Int) := by
  unfold idx
  have : l.findIdx? badI = some i := by
    rw [List.findIdx?_eq_some_iff_getElem]
    exact ⟨hi, h, fun j hj => by simpa using hn j (by omega) hj⟩
  rw [this]
theorem idx_miss {l : List Int} (hn : ∀ (k : Nat) (hk : k < l.length), badI l[k] = false) : idx l = -1 := by
  unfold idx
  have : l.findIdx? badI = none := by
    rw [List.findIdx?_eq_none_iff]
    intro h hh
    obtain ⟨k, hk, rfl⟩ := List.getElem_of_mem hh
    exact hn k hk
  rw [this]
theorem idx_pos (l : List Int) : decide (0 ≤ idx l) = l.any badI := by
  unfold idx
  cases h : l.findIdx? badI with
  | none =>
    have h1 := List.findIdx?_eq_none_iff.1 h
    have : l.any badI = false := by rw [List.any_eq_false]; intro x hx; rw [h1 x hx]; decide
    rw [this]; rfl
  | some i =>
    obtain ⟨hi, h1, -⟩ := List.findIdx?_eq_some_iff_getElem.1 h
    have : l.any badI = true := by rw [List.any_eq_true]; exact ⟨_, List.getElem_mem hi, h1⟩
    rw [this]; simp
def IxR (l : List Int) (v : Value) : Prop := ∃ i : Nat, i ≤ l.length ∧ v = .int .i64 (i : Int) ∧ ∀ (k : Nat) (hk : k < l.length), k < i → badI l[k] = false
set_option maxHeartbeats 1000000 in
theorem idx_any (A : Option Addr) (n c : Nat) (l : List Int) (w : World) (hG : Iin w A n l) (hn : n ≤ 1000) : Calls Try.prog 33 #[.slice A n c, .func (.func 25) #[] #[]] w fun e w' => e = .returned (.int .i64 (idx l)) ∧ w = w' := by
  have HG := Lib.hid hG
  have HN := Lib.hid hG.1
  have CB := Lib.hid (fun x => bad_any x w)
  clear hG
  go_enter Try.func33, Try.ntmps33
  go_wp2_with fail
  go_loop [8] (fun v => IxR l v) (fun i => n - (intOf i).toNat)
  case atStart => exact ⟨0, by omega, rfl, fun k hk h => by omega⟩
  case round =>
    obtain ⟨j, hj, rfl, hall⟩ := hrel
    have HALL := Lib.hid hall
    clear hall
    have hjn : j ≤ n := by have := HN.out; omega
    by_cases hlt : j < n
    · have hlt2 : (j : Int) < (n : Int) := by omega
      have hlt3 : j < l.length := by have := HN.out; omega
      obtain ⟨b0, off, rfl, hbl, hcell⟩ := HG.out.2 (by omega)
      have x0 := hcell j hlt3
      obtain ⟨xx, hxx⟩ : ∃ q, l[j] = q := ⟨_, rfl⟩
      rw [hxx] at x0
      have HXX := Lib.hid hxx
      clear hcell hxx
      have C := CB.out xx
      cases hb : badI xx with
      | true =>
        rw [hb] at C
        have HR : Hid (idx l = (j : Int)) := Lib.hid (idx_hit hlt3 (by rw [HXX.out]; exact hb) HALL.out)
        have HC := Lib.hid C
        clear hb C
        go_wp2_with fail
        with_reducible refine HC.out.mono ?_
        rintro e w' ⟨rfl, rfl⟩
        go_wp2
        go_ret
        exact ⟨by rw [HR.out]; rfl, rfl⟩
      | false =>
        rw [hb] at C
        have HB := Lib.hid hb
        have HC := Lib.hid C
        clear hb C
        go_wp2_with fail
        with_reducible refine HC.out.mono ?_
        rintro e w' ⟨rfl, rfl⟩
        go_wp2
        go_round
        case rel =>
          refine ⟨j + 1, by omega, by go_num, fun k hk h => ?_⟩
          by_cases e : k = j
          · subst e; rw [HXX.out]; exact HB.out
          · exact HALL.out k hk (by omega)
        case measure => simp [intOf]; omega
    · have hlt2 : decide ((j : Int) < (n : Int)) = false := by simp; omega
      have HR : Hid (idx l = -1) := Lib.hid (idx_miss fun k hk => HALL.out k hk (by have := HN.out; omega))
      go_wp2
      go_ret
      exact ⟨by rw [HR.out]; rfl, rfl⟩
theorem cont_any (A : Option Addr) (n c : Nat) (l : List Int) (w : World) (hG : Iin w A n l) (hn : n ≤ 1000) : Calls Try.prog 24 #[.slice A n c, .func (.func 25) #[] #[]] w fun e w' => e = .returned (.bool (l.any badI)) ∧ w = w' := by
  have C := Lib.hid (idx_any A n c l w hG hn)
  rw [← idx_pos]
  obtain ⟨i, hi⟩ : ∃ i, idx l = i := ⟨_, rfl⟩
  rw [hi] at C ⊢
  clear hi hG
  go_enter Try.func24, Try.ntmps24
  go_wp2_with fail
  with_reducible refine C.out.mono ?_
  rintro e w' ⟨rfl, rfl⟩
  go_wp2
  go_ret
  exact ⟨rfl, rfl⟩

theorem run_nil22 (a : Option Addr) (n c : Nat) (w : World) : (binOp .eql 22 (.slice a n c) (.slice none 0 0)).run Try.prog w = .ok (.bool a.isNone) w := by
  have h := run_equal_slice_nil (P := Try.prog) w 22 3 a n c Try.underlying22
  simp only [binOp, Sem.run_bind, h, Result.andThen_ok, Sem.run_pure]
def ClPost (w : World) (l : List Int) (e : Ending) (w' : World) : Prop := ∃ v, e = .returned v ∧ OwnI w' w.heap.size v l ∧ Below w.heap.size w w'
theorem OwnI.made0 (w : World) : OwnI (w.alloc (.cells #[] 3)) w.heap.size (.slice (some ⟨w.heap.size, 0, none⟩) 0 0) [] :=
  World.ownsRow_made w #[] 0 (Nat.le_refl _) (by unfold maxLen; omega) rfl
/-- A slice without elements that is not nil, of whatever address. -/
theorem wpl_appI0 {ops : Array Oper} {rest : List Oper} {a : Act} {w : World} {Q : Exit → Act → World → Prop} (dst : Option Tmp) (ty : TypeId) (pos : String) (aft : Array Edge) (s x : Operand)
    (B c : Nat) (A : Option Addr) (v : Value) (l : List Int) (hs : a.eval s = v) (hx : a.eval x = .slice A 0 c) (hown : OwnI w B v l)
    (h : wpList Try.prog ops Q rest (a.put dst v) w) :
    wpList Try.prog ops Q (⟨dst, .call { callee := .builtin .append, args := #[s, x], argTypes := #[22, 22] }, ty, pos, aft, none⟩ :: rest) a w := by
  refine wpList_plain rfl fun K' hK' => ?_
  unfold Oper.wp execOp
  simp only [resolve, invoke, builtin, Sem.run_bind, Sem.run_pure, Result.andThen_ok, List.map_toArray, List.map_cons, List.map_nil, hs, hx]
  have hr : (Builtin.append_ #[22, 22] ty #[v, .slice A 0 c]).run Try.prog w = .ok v w := by
    have hu := Try.underlying22
    rcases hown.form with ⟨rfl, _⟩ | ⟨g', cap, cur, rfl, h1, h2, h3, _⟩ <;> cases A
    all_goals simp [Builtin.append_, hu, *, Builtin.lenOf, Builtin.firstCells, storeCells, loadCells, loadCellsFrom]
  rw [hr]
  exact hK' _ _ h

set_option maxHeartbeats 1000000 in
theorem clone_any (A : Option Addr) (n c : Nat) (l : List Int) (w : World) (hG : Iin w A n l) (hn : n ≤ 1000) :
    Calls Try.prog 26 #[.slice A n c] w (ClPost w l) := by
  rcases A with _ | ad
  · have h0 : n = 0 := by
      refine Classical.byContradiction fun h0 => ?_
      obtain ⟨b, off, e, _⟩ := hG.2 (by omega)
      cases e
    subst h0
    have HL : Hid (l = []) := Lib.hid (List.eq_nil_of_length_eq_zero hG.1)
    clear hG
    have hq := run_nil22 none 0 c
    rw [show (none : Option Addr).isNone = true from rfl] at hq
    go_enter Try.func26, Try.ntmps26
    go_wp2
    go_ret
    exact ⟨_, rfl, by rw [HL.out]; exact OwnE.nil _ _, Below.refl _ _⟩
  · have hq := run_nil22 (some ad) n c
    rw [show (some ad : Option Addr).isNone = false from rfl] at hq
    have HO := Lib.hid (OwnI.made0 w)
    have HB := Lib.hid (below1 w (.cells #[] 3))
    have HBZ : Hid (w.heap.size ≤ (w.alloc (.cells #[] 3)).heap.size) := Lib.hid (by simp)
    have HN := Lib.hid hG.1
    by_cases h0 : n = 0
    · subst h0
      have HL : Hid (l = []) := Lib.hid (List.eq_nil_of_length_eq_zero hG.1)
      clear hG
      go_enter Try.func26, Try.ntmps26
      go_wp2_with (first
        | ((with_reducible refine wpl_appI0 (some 7) _ _ _ (.tmp 5) (.tmp 6) w.heap.size c (some ad) (.slice (some ⟨w.heap.size, 0, none⟩) 0 0) [] ?hs ?hx HO.out ?_); (case hs => rfl); (case hx => rfl)))
      go_ret
      exact ⟨_, rfl, by rw [HL.out]; exact HO.out, HB.out⟩
    · obtain ⟨b, off, e, hbl, hcell⟩ := hG.2 (by omega)
      injection e with e
      subst e
      have HSRC : Hid (∀ (i : Nat) (hi : i < l.length) (j : Nat), j < 1 → (w.alloc (.cells #[] 3)).cell? ⟨b, off + i * 1 + j, none⟩ = (encI l[i])[j]?) := Lib.hid (fun i hi j hj => by
        have e0 : j = 0 := by omega
        subst e0
        have := HB.out.cell (p := ⟨b, off + i, none⟩) hbl
        rw [Nat.mul_one, Nat.add_zero, this, hcell i hi]
        rfl)
      have HSM : Hid (([] : List Int).length + l.length ≤ 100000) := Lib.hid (by simp; have := HN.out; omega)
      clear hG hcell
      go_enter Try.func26, Try.ntmps26
      go_wp2_with (first
        | ((with_reducible refine wpl_appIs (some 7) _ _ _ (.tmp 5) (.tmp 6) w.heap.size (.slice (some ⟨w.heap.size, 0, none⟩) 0 0) [] l b off c n HN.out ?hs ?hx HO.out HSRC.out HSM.out HBZ.out ?_); (case hs => rfl); (case hx => rfl); (intro v4 w4 ho4 hg4 hb4)))
      go_ret
      exact ⟨_, rfl, ho4, HB.out.grown hg4 HBZ.out (fun k hk => by
        have e : w.heap.size = k := by simpa [Value.ownBlock] using hk
        exact Nat.le_of_eq e)⟩

/-- A new dock, or none. -/
def newOf (l : List Int) : Option (List Int) := if 60 < l.length ∨ l.any badI = true then none else some l
theorem newOf_some {l R : List Int} (h : newOf l = some R) : R = l ∧ l.length ≤ 60 ∧ l.any badI = false := by
  unfold newOf at h
  split at h
  · cases h
  · rename_i hn
    injection h with h
    refine ⟨h.symm, by omega, ?_⟩
    cases hb : l.any badI with
    | false => rfl
    | true => exact absurd (.inr hb) hn
theorem newInv {l R : List Int} (h : newOf l = some R) : Inv R ⟨R, []⟩ := by
  obtain ⟨rfl, h1, h2⟩ := newOf_some h
  have hb : ∀ d, d < R.length → 0 ≤ fr R d ∧ fr R d ≤ 1000000 := by
    intro d hd
    rw [List.any_eq_false] at h2
    have := h2 R[d] (List.getElem_mem hd)
    rw [fr_get hd] at this
    unfold badI at this
    simp at this
    exact this
  exact ⟨HSort.nil, rfl, h1, hb, fun d hd => ⟨(hb d hd).1, by show fr R d + 0 = fr R d; omega⟩, fun h hh => absurd hh (by simp)⟩
def NewPost (w : World) (l : List Int) (e : Ending) (w' : World) : Prop :=
  Below w.heap.size w w' ∧ ((newOf l = none ∧ e = .returned (.tuple #[.pointer none, .int .i64 2])) ∨
    ∃ R b, newOf l = some R ∧ e = .returned (.tuple #[.pointer (some ⟨b.s, 0, none⟩), .int .i64 0]) ∧ At w' b ⟨R, []⟩ ∧ w.heap.size ≤ b.s ∧ ∀ i, b.isMap i → w.heap.size ≤ i)

theorem new_at {w w1 : World} {v : Value} {l : List Int} (hO : OwnI w1 w.heap.size v l) (hB : Below w.heap.size w w1) :
    ∃ b : SB, b.s = w1.heap.size + 1 ∧ At ((w1.alloc (.map #[] 0)).alloc (.cells #[v, .map (some w1.heap.size)] 55)) b ⟨l, []⟩ ∧ Below w.heap.size w ((w1.alloc (.map #[] 0)).alloc (.cells #[v, .map (some w1.heap.size)] 55)) ∧ w.heap.size ≤ b.s ∧ ∀ i, b.isMap i → w.heap.size ≤ i := by
  have hz := hB.size
  have hM : OwnH ((w1.alloc (.map #[] 0)).alloc (.cells #[v, .map (some w1.heap.size)] 55)) w1.heap.size [] := (OwnH.made w1).same (Below.heap_alloc _ _ _ (by simp))
  have hC := Lies.made2 w1 (.map #[] 0) 55 #[v, .map (some w1.heap.size)]
  have hBB : Below w.heap.size w ((w1.alloc (.map #[] 0)).alloc (.cells #[v, .map (some w1.heap.size)] 55)) := (hB.alloc hz _).alloc (by rw [size_one]; omega) _
  have hO2 := (hO.alloc (.map #[] 0)).alloc (.cells #[v, .map (some w1.heap.size)] 55)
  rcases hO2.form with ⟨rfl, rfl⟩ | ⟨g, cap, cur, rfl, h1, h2, h3, h4, h5, h6⟩
  · refine ⟨⟨w1.heap.size + 1, .slice none 0 0, w1.heap.size, w1.heap.size⟩, rfl, ⟨hC, .inl ⟨rfl, rfl, none, 0, rfl⟩, hM⟩, hBB, by show _ ≤ w1.heap.size + 1; omega, fun i hi => ?_⟩
    rcases hi with rfl | rfl <;> exact hz
  · have hcur : ∀ i, i < l.length → cur[i]? = some (.int .i64 (fr l i)) := by
      intro i hi
      have := flat_get encI_len l i hi 0 (by omega)
      rw [← h6, Nat.mul_one, Nat.mul_one, Nat.add_zero, List.getElem?_take_of_lt hi, Array.getElem?_toList] at this
      rw [this, fr_get hi]
      rfl
    refine ⟨⟨w1.heap.size + 1, .slice (some ⟨g, 0, none⟩) l.length cap, g, w1.heap.size⟩, rfl, ⟨hC, .inr ⟨cap, cur, rfl, h2, by show l.length ≤ cur.size; omega, h3, h4, hcur⟩, hM⟩, hBB, by show _ ≤ w1.heap.size + 1; omega, fun i hi => ?_⟩
    rcases hi with rfl | rfl
    · exact h1
    · exact hz
theorem new_fin {w w1 : World} {v : Value} {l : List Int} (hO : OwnI w1 w.heap.size v l) (hB : Below w.heap.size w w1) (hN : newOf l = some l) :
    NewPost w l (.returned (.tuple #[.pointer (some ⟨w1.heap.size + 1, 0, none⟩), .int .i64 0])) ((w1.alloc (.map #[] 0)).alloc (.cells #[v, .map (some w1.heap.size)] 55)) := by
  obtain ⟨b, h1, h2, h3, h4, h5⟩ := new_at hO hB
  exact ⟨h3, .inr ⟨l, b, hN, by rw [h1], h2, h4, h5⟩⟩

set_option maxHeartbeats 4000000 in
theorem new_any (A : Option Addr) (n c : Nat) (l : List Int) (w : World) (hG : Iin w A n l) (hn : n ≤ 1000) : Calls Try.prog 10 #[.slice A n c] w (NewPost w l) := by
  have HN := Lib.hid hG.1
  have CC := Lib.hid (cont_any A n c l w hG hn)
  have CL := Lib.hid (clone_any A n c l w hG hn)
  clear hG
  by_cases h60 : 60 < n
  · have e0 : decide ((60 : Int) < (n : Int)) = true := by simp; omega
    have HNO : Hid (newOf l = none) := Lib.hid (by unfold newOf; rw [if_pos (.inl (by rw [HN.out]; exact h60))])
    go_enter Try.func10, Try.ntmps10
    go_wp2
    go_ret2
    exact ⟨Below.refl _ _, .inl ⟨HNO.out, rfl⟩⟩
  · have e0 : decide ((60 : Int) < (n : Int)) = false := by simp; omega
    cases hb : l.any badI with
    | true =>
      have HNO : Hid (newOf l = none) := Lib.hid (by unfold newOf; rw [if_pos (.inr hb)])
      rw [hb] at CC
      clear hb
      go_enter Try.func10, Try.ntmps10
      go_wp2_with fail
      with_reducible refine CC.out.mono ?_
      rintro e w' ⟨rfl, rfl⟩
      go_wp2
      go_ret2
      exact ⟨Below.refl _ _, .inl ⟨HNO.out, rfl⟩⟩
    | false =>
      have HNO : Hid (newOf l = some l) := Lib.hid (by unfold newOf; rw [if_neg]; rintro (h | h); exact absurd h (by have := HN.out; omega); rw [hb] at h; cases h)
      rw [hb] at CC
      clear hb
      go_enter Try.func10, Try.ntmps10
      go_wp2_with fail
      with_reducible refine CC.out.mono ?_
      rintro e w' ⟨rfl, rfl⟩
      go_wp2_with fail
      with_reducible refine CL.out.mono ?_
      rintro e w1 ⟨v, rfl, hO, hB⟩
      have HO := Lib.hid hO
      have HB := Lib.hid hB
      clear hO hB CC CL
      have HF := Lib.hid (new_fin HO.out HB.out HNO.out)
      have hmm := @run_makeMap Try.prog
      rcases HO.out.form with ⟨hv, -⟩ | ⟨g, cap, cur, hv, -⟩
      · subst hv
        go_wp2
        go_ret2
        exact HF.out
      · subst hv
        go_wp2
        go_ret2
        exact HF.out


end Go.Proofs.Ytnajombhlmbopaa
