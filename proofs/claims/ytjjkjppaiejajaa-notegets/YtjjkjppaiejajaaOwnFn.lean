/-
  The contract of Own.
-/
import Derived.Test.YtjjkjppaiejajaaOwnMem
namespace Go.Proofs.Ytjjkjppaiejajaa
open Go.RowKit


theorem owns_grown {w w' : World} {B B' : Nat} {T T' : TypeId} {v v' : Value} {n n' : Nat} {xs xs' : List Value} (h : w.ownsRow B T 1 v n xs) (h' : w.ownsRow B' T' 1 v' n' xs') (hne : T ≠ T') (hg : w.grownBy w' v'.ownBlock) : w'.ownsRow B T 1 v n xs := by
  obtain ⟨h0, h1⟩ := h
  refine ⟨h0, ?_⟩
  rcases h1 with h1 | ⟨g, cap, cur, hv, hg0, hh, hr⟩
  · exact .inl h1
  · refine .inr ⟨g, cap, cur, hv, hg0, Lies.grown (t := T) hh hg ?_, hr⟩
    rcases h'.2 with ⟨rfl, _⟩ | ⟨g', cap', cur', rfl, _, hg', _⟩
    · simp [Value.ownBlock]
    · intro e
      have : g = g' := by simpa [Value.ownBlock] using e
      subst this
      rw [hh] at hg'
      injection hg' with hp
      injection hp with _ h2
      exact hne h2
theorem owns_below {w w' : World} {B : Nat} {T : TypeId} {v : Value} {n : Nat} {xs : List Value} (h : w.ownsRow B T 1 v n xs) (hb : Below w.heap.size w w') : w'.ownsRow B T 1 v n xs := by
  obtain ⟨h0, h1⟩ := h
  refine ⟨h0, ?_⟩
  rcases h1 with h1 | ⟨g, cap, cur, hv, hg0, hg, hr⟩
  · exact .inl h1
  · exact .inr ⟨g, cap, cur, hv, hg0, Lies.below (t := T) hg hb (Lies.lt hg), hr⟩
theorem owns_alloc {w : World} {B : Nat} {T : TypeId} {v : Value} {n : Nat} {xs : List Value} (h : w.ownsRow B T 1 v n xs) (o : Obj) : (w.alloc o).ownsRow B T 1 v n xs := owns_below h ((Below.refl _ _).alloc (Nat.le_refl _) o)
theorem owns_block {w : World} {B : Nat} {T : TypeId} {v : Value} {n : Nat} {xs : List Value} (h : w.ownsRow B T 1 v n xs) : ∀ k, v.ownBlock = some k → B ≤ k := by
  intro k hk
  rcases h.2 with ⟨rfl, _⟩ | ⟨g, cap, cur, rfl, hb, _⟩
  · cases hk
  · simp [Value.ownBlock] at hk; omega

/-- A row of numbers of the call's own. -/


def pat (i k : Nat) : Nat := (i * 31 + k % 7) % 256
def patRow (i m : Nat) : List Nat := (List.range m).map (pat i)
def tl (i k : Nat) : Nat := (200 + i * 5 + k) % 256
def tlRow (i k : Nat) : List Nat := (List.range k).map (tl i)
theorem patRow_len (i m : Nat) : (patRow i m).length = m := by simp [patRow]
theorem tlRow_len (i m : Nat) : (tlRow i m).length = m := by simp [tlRow]
theorem patRow_at (i m k : Nat) (h : k < m) : (patRow i m).getD k 0 = pat i k := by simp [patRow, List.getD, h]
theorem tlRow_at (i m k : Nat) (h : k < m) : (tlRow i m).getD k 0 = tl i k := by simp [tlRow, List.getD, h]
theorem patRow_take (i m k : Nat) (h : k < m) : (patRow i m).take (k + 1) = (patRow i m).take k ++ [pat i k] := by
  rw [take_one _ _ (by rw [patRow_len]; exact h), patRow_at i m k h]
theorem tlRow_succ (i k : Nat) : tlRow i (k + 1) = tlRow i k ++ [tl i k] := by
  unfold tlRow; rw [List.range_succ, List.map_append]; rfl
theorem pat_lt (i k : Nat) : pat i k < 256 := Nat.mod_lt _ (by decide)
theorem tl_lt (i k : Nat) : tl i k < 256 := Nat.mod_lt _ (by decide)

/-- No two of the rows share a block. -/
def Apart (n : Nat) (V : Nat → Value) : Prop := ∀ i j, i < n → j < n → i ≠ j → ∀ g, (V i).ownBlock = some g → (V j).ownBlock ≠ some g

/-- While the rows are written over: those ahead of i are done. -/
structure P1 (w0 w : World) (B n : Nat) (V : Nat → Value) (A : Option Addr) (c : Nat) (vs : List Value) (len : Nat → Nat) (M : Nat → List Nat) (i : Nat) : Prop where
  outer : LRow w B (.slice A n c) vs
  own : ∀ j, j < n → Own w B (V j) (M j)
  lens : ∀ j, j < n → (M j).length = len j
  done : ∀ j, j < i → M j = patRow j (len j)
  bel : Below B w0 w

def Q1R (w0 : World) (B n : Nat) (V : Nat → Value) (A : Option Addr) (c : Nat) (vs : List Value) (len : Nat → Nat) (x : Value) (wr : World) : Prop :=
  ∃ i M, i ≤ n ∧ x = .int .i64 (i : Nat) ∧ P1 w0 wr B n V A c vs len M i
def Q2R (w0 : World) (B n : Nat) (V : Nat → Value) (A : Option Addr) (c : Nat) (vs : List Value) (len : Nat → Nat) (i : Nat) (x : Value) (wr : World) : Prop :=
  ∃ k M, k ≤ len i ∧ x = .int .i64 (k : Nat) ∧ P1 w0 wr B n V A c vs len M i ∧ (M i).take k = (patRow i (len i)).take k

theorem P1.write {w0 w : World} {B n : Nat} {V : Nat → Value} {A : Option Addr} {c : Nat} {vs : List Value} {len : Nat → Nat} {M : Nat → List Nat} {i k : Nat} (h : P1 w0 w B n V A c vs len M i) (hV : Apart n V) (hi : i < n) (hk : k < len i) (ht : (M i).take k = (patRow i (len i)).take k)
    {g : Nat} (hg : (V i).ownBlock = some g) (ho : Own (w.setCell ⟨g, k, none⟩ (.int .u8 (pat i k : Nat))) B (V i) ((M i).set k (pat i k))) :
    Q2R w0 B n V A c vs len i (.int .i64 ((k : Int) + 1)) (w.setCell ⟨g, k, none⟩ (.int .u8 (pat i k : Nat))) := by
  have hB : B ≤ g := (h.own i hi).block g hg
  have hgr : w.grownBy (w.setCell ⟨g, k, none⟩ (.int .u8 (pat i k : Nat))) (V i).ownBlock := by rw [hg]; exact grown_set (World.grownBy.refl w _) _ _
  refine ⟨k + 1, fun j => if j = i then (M i).set k (pat i k) else M j, by omega, by go_num, ⟨?_, fun j hj => ?_, fun j hj => ?_, fun j hj => ?_, h.bel.setCell hB _⟩, ?_⟩
  · exact owns_grown h.outer (h.own i hi).1 (by decide) hgr
  · by_cases hji : j = i
    · subst hji; simp only [if_true]; exact ho
    · simp only [if_neg hji]
      exact (h.own j hj).grownOther hgr (fun q hq e => hV j i hj hi hji q hq e)
  · by_cases hji : j = i
    · subst hji; simp only [if_true]; rw [List.length_set]; exact h.lens j hj
    · simp only [if_neg hji]; exact h.lens j hj
  · have hji : j ≠ i := by omega
    simp only [if_neg hji]; exact h.done j hj
  · simp only [if_true]
    rw [take_set_succ _ _ _ (by rw [h.lens i hi]; exact hk), ht, patRow_take i (len i) k hk]

/-- A slice that is nil, or lies at a block's beginning. -/
def AtHead (u : Value) : Prop := u = .slice none 0 0 ∨ ∃ g n c, u = .slice (some ⟨g, 0, none⟩) n c
theorem Own.atHead {w : World} {B : Nat} {u : Value} {l : List Nat} (h : Own w B u l) : AtHead u := by
  rcases h.form with ⟨h1, _⟩ | ⟨g, cap, cur, h1, _⟩
  · exact .inl h1
  · exact .inr ⟨g, _, cap, h1⟩
theorem Reads.keep {w w' : World} {u : Value} {l : List Nat} (h : Reads w u l) (hu : AtHead u) (hk : ∀ g j, u.ownBlock = some g → j < l.length → w'.cell? ⟨g, j, none⟩ = w.cell? ⟨g, j, none⟩) : Reads w' u l := by
  obtain ⟨A, c, rfl, ⟨h1, h2, h3⟩, h4⟩ := h
  refine ⟨A, c, rfl, ⟨h1, h2, fun h0 => ?_⟩, h4⟩
  obtain ⟨b, off, e, hc⟩ := h3 h0
  subst e
  rcases hu with hu | ⟨g, n, c', hu⟩
  · cases hu
  · injection hu with e1 _ _
    injection e1 with e1
    injection e1 with e1 e2 _
    subst e1 e2
    refine ⟨b, 0, rfl, fun i hi => ?_⟩
    have := hk b i rfl hi
    rw [Nat.zero_add, this, ← hc i hi, Nat.zero_add]
theorem Reads.lt {w : World} {u : Value} {l : List Nat} (h : Reads w u l) (hu : AtHead u) (g j : Nat) (hg : u.ownBlock = some g) (hj : j < l.length) : g < w.heap.size := by
  obtain ⟨A, c, rfl, ⟨h1, h2, h3⟩, h4⟩ := h
  obtain ⟨b, off, e, hc⟩ := h3 (by omega)
  subst e
  have : b = g := by simpa [Value.ownBlock] using hg
  subst this
  exact block_lt_of_cell (hc j hj)
theorem Reads.kept {w w' : World} {u : Value} {l : List Nat} {r : Option Nat} (h : Reads w u l) (hu : AtHead u) (hg : w.grownBy w' r) (hne : ∀ g, u.ownBlock = some g → r ≠ some g) : Reads w' u l :=
  h.keep hu fun g j h1 h2 => World.cell?_of_block (hg.block g (h.lt hu g j h1 h2) (fun e => hne g h1 e.symm))
theorem Reads.alloc {w : World} {u : Value} {l : List Nat} (h : Reads w u l) (o : Obj) : Reads (w.alloc o) u l := h.below ((Below.refl _ _).alloc (Nat.le_refl _) o)
theorem Reads.app {w w' : World} {B : Nat} {u x v' : Value} {l l0 : List Nat} {y : Nat} (h : Reads w u l0) (hu : AtHead u) (hA : App w B x l y v' w') (hl : l0.length ≤ l.length) : Reads w' u l0 :=
  h.keep hu fun g j h1 h2 => by
    by_cases hx : x.ownBlock = some g
    · exact hA.keep g j hx (by omega)
    · exact World.cell?_of_block (hA.grown.block g (h.lt hu g j h1 h2) (fun e => hx e.symm))

theorem grown_alloc {a w : World} {r : Option Nat} (h : a.grownBy w r) (o : Obj) : a.grownBy (w.alloc o) r :=
  ⟨h.os, h.tape, h.output, Nat.le_trans h.size (by simp), fun i hi hne => (Below.heap_alloc w o i (Nat.lt_of_lt_of_le hi h.size)).trans (h.block i hi hne)⟩
theorem grown_app {a w w' : World} {r s : Option Nat} (h : a.grownBy w r) (k : w.grownBy w' s) (hs : ∀ g, s = some g → r = some g ∨ a.heap.size ≤ g) : a.grownBy w' r :=
  ⟨k.os.trans h.os, k.tape.trans h.tape, k.output.trans h.output, Nat.le_trans h.size k.size, fun i hi hne => (k.block i (Nat.lt_of_lt_of_le hi h.size) (fun e => by
    rcases hs i e.symm with h1 | h1
    · exact hne h1.symm
    · omega)).trans (h.block i hi hne)⟩

/-- While the rows are appended to: those ahead of k have four bytes more. -/
structure P2 (w2 wr : World) (B n : Nat) (V : Nat → Value) (A : Option Addr) (c : Nat) (vs : List Value) (len : Nat → Nat) (vl : Value) (us : List Value) (k : Nat) : Prop where
  outer : LRow wr B (.slice A n c) vs
  long : LRow wr w2.heap.size vl us
  cnt : us.length = k
  rest : ∀ j, k ≤ j → j < n → Own wr B (V j) (patRow j (len j))
  old : ∀ j, j < k → Reads wr (V j) (patRow j (len j))
  new : ∀ j (h : j < us.length), Own wr B us[j] (patRow j (len j) ++ tlRow j 4) ∧ ∀ g, us[j].ownBlock = some g → (V j).ownBlock = some g ∨ w2.heap.size ≤ g
  bel : Below B w2 wr

def Q3R (w2 : World) (B n : Nat) (V : Nat → Value) (A : Option Addr) (c : Nat) (vs : List Value) (len : Nat → Nat) (x y : Value) (wr : World) : Prop :=
  ∃ us k, k ≤ n ∧ y = .int .i64 (k : Nat) ∧ P2 w2 wr B n V A c vs len x us k
structure P4 (wi wr : World) (B : Nat) (V : Nat → Value) (len : Nat → Nat) (i : Nat) (x : Value) (k : Nat) : Prop where
  own : Own wr B x (patRow i (len i) ++ tlRow i k)
  block : ∀ g, x.ownBlock = some g → (V i).ownBlock = some g ∨ wi.heap.size ≤ g
  old : Reads wr (V i) (patRow i (len i))
  grown : wi.grownBy wr (V i).ownBlock
def Q4R (wi : World) (B : Nat) (V : Nat → Value) (len : Nat → Nat) (i : Nat) (x y : Value) (wr : World) : Prop :=
  ∃ k, k ≤ 4 ∧ y = .int .i64 (k : Nat) ∧ P4 wi wr B V len i x k

theorem P4.step {wi wr w' : World} {B : Nat} {V : Nat → Value} {len : Nat → Nat} {i k : Nat} {x v' : Value} {o : Obj} (h : P4 wi wr B V len i x k) (hh : AtHead (V i)) (hA : App (wr.alloc o) B x (patRow i (len i) ++ tlRow i k) (tl i k) v' w') : P4 wi w' B V len i v' (k + 1) := by
  refine ⟨?_, fun g hg => ?_, (h.old.alloc o).app hh hA (by simp), grown_app (grown_alloc h.grown o) hA.grown h.block⟩
  · rw [tlRow_succ, ← List.append_assoc]; exact hA.own
  · rcases hA.block g hg with h1 | h1
    · exact h.block g h1
    · exact .inr (Nat.le_trans h.grown.size (Nat.le_trans (by simp) h1))

theorem P2.step {w2 wi wr w' : World} {B n : Nat} {V : Nat → Value} {A : Option Addr} {c : Nat} {vs : List Value} {len : Nat → Nat} {vl v' x : Value} {us : List Value} {i : Nat} {o : Obj} (h : P2 w2 wi B n V A c vs len vl us i) (hi : i < n) (hV : Apart n V) (hH : ∀ j, j < n → AtHead (V j)) (hlt : ∀ j, j < n → ∀ g, (V j).ownBlock = some g → g < w2.heap.size) (hol : ∀ g, (Value.slice A n c).ownBlock = some g → g < w2.heap.size) (hB2 : B ≤ w2.heap.size)
    (h4 : P4 wi wr B V len i x 4) (hL : LRow w' w2.heap.size v' (us ++ [x])) (hg : (wr.alloc o).grownBy w' vl.ownBlock) : P2 w2 w' B n V A c vs len v' (us ++ [x]) (i + 1) := by
  have hlw : LRow wr w2.heap.size vl us := owns_grown h.long (h.rest i (Nat.le_refl _) hi).1 (by decide) h4.grown
  have hvl := hlw.block
  have hcnt := h.cnt
  have keepV : ∀ j, j < n → ∀ g, (V j).ownBlock = some g → vl.ownBlock ≠ some g := fun j hj g hg' e => by
    have h1 := hlt j hj g hg'
    have h2 := hvl g e
    omega
  have hBi : B ≤ wi.heap.size := Nat.le_trans hB2 h.bel.size
  have hBr : B ≤ wr.heap.size := Nat.le_trans hBi h4.grown.size
  have h1 : Below B w2 wr := h.bel.grown h4.grown hBi (fun q hq => (h.rest i (Nat.le_refl _) hi).block q hq)
  have hBw : Below B w2 w' := (h1.alloc hBr o).grown hg (Nat.le_trans hBr (by simp)) (fun q hq => Nat.le_trans hB2 (hvl q hq))
  have hlw1 := hlw.alloc o
  have apartV : ∀ j, j < n → j ≠ i → ∀ g, (V j).ownBlock = some g → (V i).ownBlock ≠ some g := fun j hj hji g hg' => hV j i hj hi hji g hg'
  refine ⟨?_, hL, by rw [List.length_append, hcnt]; rfl, fun j hj hjn => ?_, fun j hj => ?_, fun j hj => ?_, hBw⟩
  · have ho : LRow wr B (.slice A n c) vs := owns_grown h.outer (h.rest i (Nat.le_refl _) hi).1 (by decide) h4.grown
    refine World.ownsRow.kept (ho.alloc o) hg ?_
    cases hob : (Value.slice A n c).ownBlock with
    | none => exact .inl rfl
    | some g =>
      refine .inr fun e => ?_
      have h2 := hol g hob
      have h3 := hvl g e.symm
      omega
  · exact (((h.rest j (by omega) hjn).grownOther h4.grown (apartV j hjn (by omega))).alloc o).grownL hlw1 hg
  · by_cases hji : j = i
    · subst hji
      exact (h4.old.alloc o).kept (hH j hi) hg (keepV j hi)
    · exact (((h.old j (by omega)).kept (hH j (by omega)) h4.grown (apartV j (by omega) hji)).alloc o).kept (hH j (by omega)) hg (keepV j (by omega))
  · by_cases hji : j < us.length
    · rw [List.getElem_append_left hji]
      obtain ⟨n1, n2⟩ := h.new j hji
      refine ⟨((n1.grownOther h4.grown (fun g hg' e => ?_)).alloc o).grownL hlw1 hg, n2⟩
      rcases n2 g hg' with h5 | h5
      · exact apartV j (by omega) (by omega) g h5 e
      · have := hlt i hi g e
        omega
    · have hje : j = i := by simp at hj; omega
      subst hje
      have e1 : (us ++ [x])[j] = x := by simp [← hcnt]
      rw [e1]
      refine ⟨(h4.own.alloc o).grownL hlw1 hg, fun g hg' => ?_⟩
      rcases h4.block g hg' with h5 | h5
      · exact .inl h5
      · exact .inr (Nat.le_trans h.bel.size h5)

theorem pat_int (i k : Nat) : ((i : Int) * 31 + (k : Int) % 7) % 256 = ((pat i k : Nat) : Int) := by unfold pat; omega
theorem tl_int (i k : Nat) : (200 + (i : Int) * 5 + (k : Int)) % 256 = ((tl i k : Nat) : Int) := by unfold tl; omega

set_option maxRecDepth 100000 in
set_option maxHeartbeats 4000000 in
theorem own_any (A : Option Addr) (n c : Nat) (vs : List Value) (V : Nat → Value) (len : Nat → Nat) (M0 : Nat → List Nat) (B : Nat) (w : World) (h0 : P1 w w B n V A c vs len M0 0) (hV : Apart n V) (hvs : ∀ j, j < n → vs[j]? = some (V j)) (hn : n ≤ 40) (hlen : ∀ j, j < n → len j ≤ 10000) (hBw : B ≤ w.heap.size) :
    Calls Try.prog 21 #[.slice A n c] w fun e w' => e = .returned (.bool true) ∧ Below B w w' := by
  have H0 := Lib.hid h0
  have HV := Lib.hid hV
  have HVS := Lib.hid hvs
  have HLEN := Lib.hid hlen
  clear h0 hV hvs hlen
  go_enter Try.func21, Try.ntmps21
  go_wp2_with fail
  go_loopw [4] (Q1R w B n V A c vs len) (fun i _ => n - (intOf i).toNat)
  case atStart => exact ⟨0, M0, by omega, rfl, H0.out⟩
  case round =>
    obtain ⟨i, M, hi, rfl, hP⟩ := hrel
    have HP := Lib.hid hP
    clear hP
    by_cases hlt : i < n
    · obtain ⟨Ai, ci, hVi, _, _, _, _⟩ := (HP.out.own i hlt).slice
      rw [HP.out.lens i hlt] at hVi
      have hll := HLEN.out i hlt
      obtain ⟨li, hli⟩ : ∃ li, li = len i := ⟨_, rfl⟩
      rw [← hli] at hVi hll
      have HVI := Lib.hid hVi
      have HLI := Lib.hid hli
      clear hVi hli
      go_wp2_with fail
      go_loopw [5] (Q2R w B n V A c vs len i) (fun i _ => li - (intOf i).toNat)
      case atStart => exact ⟨0, M, by omega, rfl, HP.out, by rw [List.take_zero, List.take_zero]⟩
      case round =>
        clear HP
        obtain ⟨k, M, hk, rfl, hP, ht⟩ := hrel
        rw [← HLI.out] at hk
        have HP := Lib.hid hP
        have HT := Lib.hid ht
        clear hP ht
        obtain ⟨Ao, co, hvo, hCo, _⟩ := HP.out.outer.slice
        injection hvo with eA eN eC
        rw [← eN] at hCo
        obtain ⟨b, off, e1, hc⟩ := hCo.2 (by omega)
        rw [← eA] at e1
        subst e1
        have hci := hc i hlt
        rw [HVS.out i hlt, HVI.out] at hci
        clear hc hCo eA eN eC
        have i1 : (i : Int) < (n : Int) := by omega
        by_cases hlt2 : k < li
        · obtain ⟨g, c', hv2, ⟨z, hz⟩, hf, hset⟩ := (HP.out.own i hlt).write k (by rw [HP.out.lens i hlt, ← HLI.out]; exact hlt2)
          rw [HVI.out] at hv2
          injection hv2 with e2 _ _
          subst e2
          have hpi := pat_int i k
          have hst := hset (pat i k) (pat_lt i k)
          have hwr := fun h1 => HP.out.write HV.out hlt (by rw [← HLI.out]; exact hlt2) HT.out (g := g) h1 hst
          have HWR := Lib.hid hwr
          have HST := Lib.hid hst
          clear hset hst hwr
          generalize pat i k = y at *
          have i2 : (k : Int) < (li : Int) := by omega
          go_wp2
          exact ⟨HWR.out (by rw [HVI.out]; rfl), by simp [intOf]; omega⟩
        · have hkl : k = li := by omega
          have hnext : P1 w wr B n V (some ⟨b, off, none⟩) c vs len M (i + 1) := by
            refine ⟨HP.out.outer, HP.out.own, HP.out.lens, fun j hj => ?_, HP.out.bel⟩
            by_cases hji : j = i
            · subst hji
              have h1 := HT.out
              rw [hkl, HLI.out, List.take_of_length_le (by rw [HP.out.lens j hlt]; exact Nat.le_refl _), List.take_of_length_le (by rw [patRow_len]; exact Nat.le_refl _)] at h1
              exact h1
            · exact HP.out.done j (by omega)
          have HNX := Lib.hid hnext
          clear hnext
          go_wp2
          exact ⟨⟨i + 1, M, by omega, by go_num, HNX.out⟩, by simp [intOf]; omega⟩
    · obtain rfl : n = i := by omega
      obtain ⟨w2, hw2⟩ : ∃ w2, w2 = wr := ⟨wr, rfl⟩
      subst hw2
      have hM : ∀ j, j < n → Own w2 B (V j) (patRow j (len j)) := fun j hj => by
        have := HP.out.own j hj
        rwa [HP.out.done j hj] at this
      have hout := HP.out.outer
      have hb2 := HP.out.bel
      have hB2 : B ≤ w2.heap.size := Nat.le_trans hBw hb2.size
      have hH : ∀ j, j < n → AtHead (V j) := fun j hj => (hM j hj).atHead
      have hVlt : ∀ j, j < n → ∀ g, (V j).ownBlock = some g → g < w2.heap.size := fun j hj g hg => (hM j hj).lt g hg
      have hol : ∀ g, (Value.slice A n c).ownBlock = some g → g < w2.heap.size := fun g hg => (World.ownsRow.lt hout g hg).2
      have HM := Lib.hid hM
      have HOUT := Lib.hid hout
      have HH := Lib.hid hH
      have HVLT := Lib.hid hVlt
      have HOL := Lib.hid hol
      clear hM hout HP hH hVlt hol
      go_wp2_with fail
      go_loopw [3, 6] (Q3R w2 B n V A c vs len) (fun _ i _ => n - (intOf i).toNat)
      case atStart => exact ⟨[], 0, by omega, rfl, HOUT.out, LRow.nil _ _, rfl, fun j _ hj => HM.out j hj, fun j hj => by omega, fun j hj => by simp at hj, Below.refl _ _⟩
      case round =>
        obtain ⟨us, i, hi, rfl, hP⟩ := hrel
        have hcnt := hP.cnt
        have HP := Lib.hid hP
        have HCNT := Lib.hid hcnt
        clear hP hcnt
        by_cases hlt3 : i < n
        · have hOi := HP.out.rest i (Nat.le_refl _) hlt3
          obtain ⟨Ai, ci, hVi, _, _, _, _⟩ := hOi.slice
          rw [patRow_len] at hVi
          have hll := HLEN.out i hlt3
          obtain ⟨li, hli⟩ : ∃ li, li = len i := ⟨_, rfl⟩
          rw [← hli] at hVi hll
          obtain ⟨Ao, co, hvo, hCo, _⟩ := HP.out.outer.slice
          injection hvo with eA eN eC
          rw [← eN] at hCo
          obtain ⟨b, off, e1, hc⟩ := hCo.2 (by omega)
          rw [← eA] at e1
          subst e1
          have hci := hc i hlt3
          rw [HVS.out i hlt3, hVi] at hci
          have i1 : (i : Int) < (n : Int) := by omega
          have hst4 : P4 wr wr B V len i (.slice Ai li ci) 0 := ⟨by rw [← hVi]; simpa [tlRow] using hOi, fun g hg => .inl (by rw [hVi]; exact hg), hOi.reads, World.grownBy.refl _ _⟩
          have HST4 := Lib.hid hst4
          have HVI := Lib.hid hVi
          have HLI := Lib.hid hli
          clear hc hCo eA eN eC hVi hli hOi hst4
          obtain ⟨wi, hwi⟩ : ∃ wi, wi = wr := ⟨wr, rfl⟩
          subst hwi
          have hBi : B ≤ wi.heap.size := Nat.le_trans hB2 HP.out.bel.size
          go_wp2_with fail
          go_loopw [7, 8] (Q4R wi B V len i) (fun _ i _ => 4 - (intOf i).toNat)
          case atStart => exact ⟨0, by omega, rfl, HST4.out⟩
          case round =>
            clear hci HST4
            obtain ⟨k, hk, rfl, h4⟩ := hrel
            have H4 := Lib.hid h4
            have hBr : B ≤ wr.heap.size := Nat.le_trans hBi h4.grown.size
            have hrl : (patRow i (len i) ++ tlRow i k).length ≤ 1000000 := by rw [List.length_append, patRow_len, tlRow_len, ← HLI.out]; omega
            clear h4
            by_cases hlt4 : k < 4
            · have hti := tl_int i k
              have htl := tl_lt i k
              have hstp := fun v' w' (hA : App (wr.alloc (.cells #[.int .u8 (tl i k : Nat)] 5)) B _ (patRow i (len i) ++ tlRow i k) (tl i k) v' w') => H4.out.step (HH.out i hlt3) hA
              have HSTP := Lib.hid hstp
              clear hstp
              generalize tl i k = y at *
              go_wp2_with (first
                | ((with_reducible refine wpl_append1 (some 62) _ _ _ (.tmp 54) (.tmp 61) B _ (patRow i (len i) ++ tlRow i k) wr.heap.size y ?hs ?hx (H4.out.own.alloc _) ?hc htl hrl ?hz ?_); (case hs => rfl); (case hx => rfl); (case hc => (rw [cell_of_row _ _ _ _ 5 (0, 0) (heap_alloc_new wr _)]; rfl)); (case hz => exact Nat.le_trans hBr (by simp)); (intro v' w' hA); (have HA := Lib.hid hA); (clear hA)))
              go_roundw
              case rel => exact ⟨k + 1, by omega, by go_num, HSTP.out _ _ HA.out⟩
              case measure => simp [intOf]; omega
            · have hk4 : k = 4 := by omega
              subst hk4
              rw [show ((4 : Nat) : Int) = 4 from rfl]
              obtain ⟨Ax, cx, hx, _, _, _, _⟩ := H4.out.own.slice
              rw [List.length_append, patRow_len, tlRow_len, ← HLI.out] at hx
              subst hx
              have hlw : LRow wr w2.heap.size _ us := owns_grown HP.out.long (HP.out.rest i (Nat.le_refl _) hlt3).1 (by decide) H4.out.grown
              have HLW := Lib.hid hlw
              have hus : us.length ≤ 40 := by rw [HCNT.out]; omega
              have h2r : w2.heap.size ≤ wr.heap.size := Nat.le_trans HP.out.bel.size H4.out.grown.size
              have hstep := fun v' w' o (hL : LRow w' w2.heap.size v' (us ++ [.slice Ax (li + 4) cx])) (hg : (wr.alloc o).grownBy w' _) => HP.out.step hlt3 HV.out HH.out HVLT.out HOL.out hB2 H4.out hL hg
              have HSTEP := Lib.hid hstep
              clear hlw hstep hrl
              go_wp2_with (first
                | ((with_reducible refine wpl_appendL (some 66) _ _ _ (.tmp 63) (.tmp 65) w2.heap.size _ us (some ⟨wr.heap.size, 0, none⟩) 1 1 [.slice Ax (li + 4) cx] ?hs ?hx (LRow.alloc HLW.out _) (cells_one _ _ _) ?h1 ?ha ?hm ?hz ?_); (case hs => rfl); (case hx => rfl); (case h1 => (intro q hq; simp at hq; subst hq; rfl)); (case ha => (intro h; cases h)); (case hm => omega); (case hz => exact Nat.le_trans h2r (by simp)); (intro v' w' ho hg hv); (have HO := Lib.hid ho); (have HG := Lib.hid hg); (clear ho hg hv)))
              go_roundw
              case rel => exact ⟨us ++ [.slice Ax (li + 4) cx], i + 1, by omega, by go_num, HSTEP.out _ _ _ HO.out HG.out⟩
              case measure => simp [intOf]; omega
        · obtain rfl : n = i := by omega
          obtain ⟨w3, hw3⟩ : ∃ w3, w3 = wr := ⟨wr, rfl⟩
          subst hw3
          have hb3 := hb2.trans HP.out.bel
          obtain ⟨Al, cl, rfl, hCl, hcl, hclm, _⟩ := HP.out.long.slice
          rw [HCNT.out] at hCl hcl ⊢
          obtain ⟨Ao, co, hvo, hCo, _⟩ := HP.out.outer.slice
          injection hvo with eA eN eC
          rw [← eN, ← eA] at hCo
          have HCL := Lib.hid hCl
          have HCO := Lib.hid hCo
          clear hCl hCo eA eN eC
          go_wp2_with fail
          go_loop [9] (fun x => ∃ i : Nat, i ≤ n ∧ x = .int .i64 i) (fun x => n - (intOf x).toNat)
          case atStart => exact ⟨0, by omega, rfl⟩
          case round =>
            obtain ⟨i, hi, rfl⟩ := hrel
            by_cases hlt5 : i < n
            · have hius : i < us.length := by rw [HCNT.out]; exact hlt5
              obtain ⟨b, off, rfl, hc⟩ := HCO.out.2 (by omega)
              obtain ⟨bl, ol, rfl, hcl2⟩ := HCL.out.2 (by omega)
              obtain ⟨Ai, ci, hVi, hBi, _⟩ := HP.out.old i hlt5
              obtain ⟨Ax, cx, hXi, hBx, _⟩ := (HP.out.new i hius).1.slice
              rw [patRow_len] at hVi hBi
              rw [List.length_append, patRow_len, tlRow_len] at hXi hBx
              have hci := hc i hlt5
              rw [HVS.out i hlt5, hVi] at hci
              have hxi := hcl2 i hlt5
              rw [List.getElem?_eq_getElem hius, hXi] at hxi
              have hll := HLEN.out i hlt5
              generalize len i = li at *
              have HBI := Lib.hid hBi
              have HBX := Lib.hid hBx
              have i1 : (i : Int) < (n : Int) := by omega
              clear hc hcl2 hVi hXi hBi hBx
              go_wp2_with fail
              go_loop [11] (fun x => ∃ k : Nat, k ≤ li ∧ x = .int .i64 k) (fun x => li - (intOf x).toNat)
              case atStart => exact ⟨0, by omega, rfl⟩
              case round =>
                obtain ⟨k, hk, rfl⟩ := hrel
                by_cases hlt6 : k < li
                · obtain ⟨b2, o2, rfl, hc2⟩ := HBI.out.2.2 (by omega)
                  have hck := hc2 k hlt6
                  rw [patRow_at i li k hlt6] at hck
                  have hpi := pat_int i k
                  clear hc2
                  generalize pat i k = y at *
                  have i2 : (k : Int) < (li : Int) := by omega
                  go_wp2
                  go_round
                  case rel => exact ⟨k + 1, by omega, by go_num⟩
                  case measure => simp [intOf]; omega
                · go_wp2_with fail
                  go_loop [12] (fun x => ∃ k : Nat, k ≤ 4 ∧ x = .int .i64 k) (fun x => 4 - (intOf x).toNat)
                  case atStart => exact ⟨0, by omega, rfl⟩
                  case round =>
                    obtain ⟨q, hq, rfl⟩ := hrel
                    by_cases hlt7 : q < 4
                    · obtain ⟨b2, o2, rfl, hc2⟩ := HBX.out.2.2 (by omega)
                      have hck := hc2 (li + q) (by omega)
                      have hge : (patRow i li ++ tlRow i 4).getD (li + q) 0 = tl i q := by
                        rw [List.getD_eq_getElem?_getD, List.getElem?_append_right (by rw [patRow_len]; omega), patRow_len, show li + q - li = q by omega, ← List.getD_eq_getElem?_getD, tlRow_at i 4 q hlt7]
                      rw [hge] at hck
                      have hti := tl_int i q
                      clear hc2 hge
                      generalize tl i q = y at *
                      obtain ⟨z, hz⟩ : ∃ z, z = li + q := ⟨_, rfl⟩
                      rw [← hz] at hck
                      have hzi : (li : Int) + (q : Int) = (z : Int) := by omega
                      have i3 : (z : Int) < (li : Int) + 4 := by omega
                      have hz4 : z < li + 4 := by omega
                      clear hz
                      go_wp2
                      go_round
                      case rel => exact ⟨q + 1, by omega, by go_num⟩
                      case measure => simp [intOf]; omega
                    · go_wp2
                      go_round
                      case rel => exact ⟨i + 1, by omega, by go_num⟩
                      case measure => simp [intOf]; omega
            · go_wp2
              go_ret
              exact ⟨rfl, hb3⟩



theorem own_list (A : Option Addr) (n c : Nat) (vs : List Value) (ls : List (List Nat)) (B : Nat) (w : World) (hL : LRow w B (.slice A n c) vs) (hO : OwnAll w B vs ls) (hn : vs.length = n) (h40 : n ≤ 40) (hlen : ∀ x ∈ ls, x.length ≤ 10000) (hB : B ≤ w.heap.size) :
    Calls Try.prog 21 #[.slice A n c] w fun e w' => e = .returned (.bool true) ∧ Below B w w' := by
  have hvl := hO.1
  have hv : ∀ j (h : j < n), vs.getD j undef = vs[j]'(by omega) := fun j h => by simp [List.getD, show j < vs.length by omega]
  have hm : ∀ j (h : j < n), ls.getD j [] = ls[j]'(by omega) := fun j h => by simp [List.getD, show j < ls.length by omega]
  refine own_any A n c vs (fun j => vs.getD j undef) (fun j => (ls.getD j []).length) (fun j => ls.getD j []) B w ⟨hL, fun j hj => ?_, fun j hj => rfl, fun j hj => by omega, Below.refl _ _⟩ ?_ (fun j hj => ?_) h40 (fun j hj => ?_) hB
  · simp only [hv j hj, hm j hj]
    exact hO.2.1 j _ _
  · intro i j hi hj hij g hg
    simp only [hv i hi] at hg
    simp only [hv j hj]
    rcases Nat.lt_or_gt_of_ne hij with h | h
    · exact hO.2.2 i j _ _ h g hg
    · intro e
      exact hO.2.2 j i _ _ h g e hg
  · rw [hv j hj, List.getElem?_eq_getElem]
  · simp only [hm j hj]
    exact hlen _ (List.getElem_mem _)


end Go.Proofs.Ytjjkjppaiejajaa
