/-
  Slices of bytes, rows that a call has made, and the contracts of Copy, Lent and Whole.
-/
import Derived.Test.YtjjkjppaiejajaaBase
import Derived.Lib.SlBytesConst
import Derived.Maps.AppendAt
import Derived.Laws.AppendOwnNone
import Derived.Laws.OwnMore
import Derived.StillTailTactics
import Derived.Deep.RegionHeld3
import Derived.Deep.AppendLies
import Derived.Laws.MakeOwn
import Derived.Laws.BytesArg
namespace Go.Proofs.Ytjjkjppaiejajaa
open Go.RowKit


theorem Bys.drewN {w : World} {a : Option Addr} {n : Nat} {l : List Nat} (h : Bys w a n l) (k : Nat) : Bys (w.drewN k) a n l := h
theorem Bys.front {w : World} {a : Option Addr} {n : Nat} {l : List Nat} (h : Bys w a n l) (m : Nat) (hm : m ≤ n) : Bys w a m (l.take m) := by
  obtain ⟨h1, h2, h3⟩ := h
  refine ⟨by rw [List.length_take]; omega, fun c hc => h2 c (List.mem_of_mem_take hc), fun h0 => ?_⟩
  obtain ⟨b, off, e, hc⟩ := h3 (by omega)
  refine ⟨b, off, e, fun i hi => ?_⟩
  rw [hc i (by omega)]
  simp [List.getD, hi]

theorem below_drewN {B : Nat} {a w : World} (h : Below B a w) (n : Nat) : Below B a (w.drewN n) := ⟨h.os, h.tape, h.output, h.size, h.block⟩
/-- A new row of these bytes. -/
theorem Bys.const (w : World) (C : Array Value) (l : List Nat) (fr : Nat × Nat) (n : Nat) (hC : C = (l.map (fun (c : Nat) => Value.int .u8 (c : Int))).toArray) (hn : l.length = n) (hl : ∀ c ∈ l, c < 256) : Bys (w.alloc (.cells C 5 fr)) (some ⟨w.heap.size, 0, none⟩) n l := by
  subst hC
  refine ⟨hn, hl, fun _ => ⟨_, _, rfl, fun i hi => ?_⟩⟩
  rw [Nat.zero_add, cell_of_row _ _ _ _ 5 fr (heap_alloc_new w _)]
  have : i < l.length := by omega
  simp [List.getD, this]

theorem Bys.none_ (w : World) : Bys w none 0 [] := ⟨rfl, (fun c hc => absurd hc (by simp)), (fun h => absurd h (by omega))⟩
theorem small_len (n : Nat) (h : n ≤ 1000000) : n ≤ maxLen := by unfold maxLen; omega
abbrev vals (l : List Nat) : List Value := l.map (fun (c : Nat) => Value.int .u8 (c : Int))

/-- A row of bytes that lies in a block of its own, not below B. -/
def Own (w : World) (B : Nat) (v : Value) (l : List Nat) : Prop := w.ownsRow B 5 1 v l.length (vals l) ∧ ∀ c ∈ l, c < 256

theorem Own.nil (w : World) (B : Nat) : Own w B (.slice none 0 0) [] := ⟨⟨rfl, .inl ⟨rfl, rfl⟩⟩, by simp⟩

theorem Own.form {w : World} {B : Nat} {v : Value} {l : List Nat} (h : Own w B v l) :
    (v = .slice none 0 0 ∧ l = []) ∨ ∃ g cap cur, v = .slice (some ⟨g, 0, none⟩) l.length cap ∧ B ≤ g ∧ Lies w g 5 cur ∧ l.length ≤ cap ∧ cap ≤ maxLen ∧ cur.size = cap ∧ ∀ i, i < l.length → cur[i]? = some (.int .u8 (l.getD i 0 : Nat)) := by
  obtain ⟨⟨_, h1 | ⟨g, cap, cur, hv, hb, hg, hn, hm, hs, ht⟩⟩, _⟩ := h
  · exact .inl ⟨h1.1, List.eq_nil_of_length_eq_zero h1.2⟩
  · refine .inr ⟨g, cap, cur, hv, hb, hg, hn, hm, by simpa using hs, fun i hi => ?_⟩
    have e : (cur.toList.take (l.length * 1))[i]? = (vals l)[i]? := by rw [ht]
    rw [List.getElem?_take, if_pos (by omega)] at e
    rw [Array.getElem?_toList] at e
    rw [e]
    simp [vals, List.getD, hi]

theorem Own.bys {w : World} {B : Nat} {A : Option Addr} {n c : Nat} {l : List Nat} (h : Own w B (.slice A n c) l) : Bys w A n l ∧ n ≤ c ∧ c ≤ maxLen ∧ (A = none → n = 0 ∧ c = 0) := by
  rcases h.form with ⟨hv, hl⟩ | ⟨g, cap, cur, hv, hb, hg, hn, hm, hs, hc⟩
  · injection hv with h1 h2 h3
    subst h1 h2 h3 hl
    exact ⟨Bys.none_ w, Nat.le_refl _, by unfold maxLen; omega, fun _ => ⟨rfl, rfl⟩⟩
  · injection hv with h1 h2 h3
    subst h1 h2 h3
    refine ⟨⟨rfl, h.2, fun _ => ⟨g, 0, rfl, fun i hi => ?_⟩⟩, hn, hm, fun h => by cases h⟩
    rw [Nat.zero_add, hg.cell, hc i hi]

theorem add_off (b off i : Nat) : (⟨b, off, none⟩ : Addr).add i = ⟨b, off + i, none⟩ := Addr.add_mid b off i

theorem Bys.cells {w : World} {A : Option Addr} {m : Nat} {l : List Nat} (h : Bys w A m l) (ad : Addr) (hA : A = some ad) : ∀ j u, (vals l)[j]? = some u → w.cell? (ad.add j) = some u := by
  intro j u hu
  have hj : j < l.length := by
    have := (List.getElem?_eq_some_iff.1 hu).1
    simpa [vals] using this
  obtain ⟨b, off, e, hc⟩ := h.2.2 (by rw [← h.1]; omega)
  rw [hA] at e
  injection e with e
  subst e
  rw [add_off, hc j (by rw [← h.1]; exact hj), ← hu]
  simp [vals, List.getD, hj]

/-- 'append' of bytes onto a row of the call's own. -/
theorem wpl_append {ops : Array Oper} {rest : List Oper} {a : Act} {w : World} {Q : Exit → Act → World → Prop} (dst : Option Tmp) (ty : TypeId) (pos : String) (aft : Array Edge) (s x : Operand)
    (B : Nat) (v : Value) (l : List Nat) (A : Option Addr) (m c : Nat) (news : List Nat)
    (hs : a.eval s = v) (hx : a.eval x = .slice A m c) (hown : Own w B v l) (hsrc : Bys w A m news) (hA : A = none → c = 0) (hsm : l.length + m ≤ 1000000) (hB : B ≤ w.heap.size)
    (h : ∀ v' w', Own w' B v' (l ++ news) → w.grownBy w' v.ownBlock → (v'.ownBlock = v.ownBlock ∨ v'.ownBlock = some w.heap.size) → wpList Try.prog ops Q rest (a.put dst v') w') :
    wpList Try.prog ops Q (⟨dst, .call { callee := .builtin .append, args := #[s, x], argTypes := #[24, 24] }, ty, pos, aft, none⟩ :: rest) a w := by
  rcases A with _ | ad
  · have hm : m = 0 := by
      refine Classical.byContradiction fun h0 => ?_
      obtain ⟨b, off, e, _⟩ := hsrc.2.2 (by omega)
      cases e
    have hn : news = [] := List.eq_nil_of_length_eq_zero (by rw [hsrc.1]; exact hm)
    have hc0 := hA rfl
    subst hm hn hc0
    refine wpList_append_own_none (o := ⟨dst, .call { callee := .builtin .append, args := #[s, x], argTypes := #[24, 24] }, ty, pos, aft, none⟩) rfl s x 24 rfl B 5 _ 1 Try.underlying24 Try.type5 v l.length (vals l) hs hown.1 hx ?_
    exact h v w (by rw [List.append_nil]; exact hown) (World.grownBy.refl w _) (.inl rfl)
  · refine wpList_append_own_at (w := w) (o := ⟨dst, .call { callee := .builtin .append, args := #[s, x], argTypes := #[24, 24] }, ty, pos, aft, none⟩) rfl s x 24 rfl B 5 _ (.int .u8 0) 1 1 Try.underlying24 Try.type5 rfl rfl rfl rfl (by decide) v l.length (vals l) hs hown.1
      ad m c (vals news) hx (by simp [vals, hsrc.1]) (hsrc.cells ad rfl) (fun u hu => by simp only [vals, List.mem_map] at hu; obtain ⟨_, _, rfl⟩ := hu; rfl) (by unfold maxLen; omega) (by omega) hB ?_
    intro v' w' h1 h2 _ h4
    refine h v' w' ⟨?_, ?_⟩ h2 h4
    · rw [List.length_append, hsrc.1]
      show w'.ownsRow B 5 1 v' (l.length + m) (vals (l ++ news))
      rw [show vals (l ++ news) = vals l ++ vals news from by simp [vals]]
      exact h1
    · intro c hc
      rcases List.mem_append.1 hc with h' | h'
      · exact hown.2 c h'
      · exact hsrc.2.1 c h'

set_option maxHeartbeats 400000 in
theorem copy_any (a : Option Addr) (n cap : Nat) (l : List Nat) (w : World) (hB : Bys w a n l) (hA : a = none → cap = 0) (hn : n ≤ 1000000) :
    Calls Try.prog 25 #[.slice a n cap] w fun e w' => ∃ v, e = .returned v ∧ Own w' w.heap.size v l ∧ Below w.heap.size w w' := by
  have HB := Lib.hid hB
  have HA := Lib.hid hA
  clear hB hA
  go_enter Try.func25, Try.ntmps25
  go_wp2_with (first
    | ((with_reducible refine wpl_append (some 6) _ _ _ (.tmp 4) (.tmp 5) w.heap.size _ [] a n cap l ?hs ?hx (Own.nil _ _) HB.out HA.out ?hm (Nat.le_refl _) ?_); (case hs => rfl); (case hx => rfl); (case hm => simpa using hn); (intro v' w' ho hg hv)))
  go_ret
  exact ⟨_, rfl, ho, (Below.refl _ _).grown hg (Nat.le_refl _) (fun k hk => by cases hk)⟩

theorem Bys.below {w w' : World} {a : Option Addr} {n : Nat} {l : List Nat} (h : Bys w a n l) (hb : Below w.heap.size w w') : Bys w' a n l := by
  obtain ⟨h1, h2, h3⟩ := h
  refine ⟨h1, h2, fun h0 => ?_⟩
  obtain ⟨b, off, e, hc⟩ := h3 h0
  refine ⟨b, off, e, fun i hi => ?_⟩
  have := hc i hi
  rw [hb.cell (block_lt_of_cell this)]
  exact this

theorem Own.alloc {w : World} {B : Nat} {v : Value} {l : List Nat} (h : Own w B v l) (o : Obj) : Own (w.alloc o) B v l := by
  obtain ⟨⟨h0, h1⟩, h2⟩ := h
  refine ⟨⟨h0, ?_⟩, h2⟩
  rcases h1 with h1 | ⟨g, cap, cur, hv, hb, hg, hr⟩
  · exact .inl h1
  · exact .inr ⟨g, cap, cur, hv, hb, Lies.alloc hg o, hr⟩

theorem Own.block {w : World} {B : Nat} {v : Value} {l : List Nat} (h : Own w B v l) : ∀ k, v.ownBlock = some k → B ≤ k := by
  intro k hk
  obtain ⟨⟨_, h1⟩, _⟩ := h
  rcases h1 with ⟨rfl, _⟩ | ⟨g, cap, cur, rfl, hb, _⟩
  · cases hk
  · simp [Value.ownBlock] at hk; omega

/-- An append onto a row of its own changes nothing below it. -/
theorem Own.grows {w w' a : World} {B B0 : Nat} {v : Value} {l : List Nat} (h : Own w B v l) (hg : w.grownBy w' v.ownBlock) (hb : Below B0 a w) (h1 : B0 ≤ B) (h2 : B0 ≤ w.heap.size) : Below B0 a w' :=
  hb.grown hg h2 (fun k hk => Nat.le_trans h1 (h.block k hk))

/-- The row that is not empty. -/
theorem Own.some_ {w : World} {B : Nat} {v : Value} {l : List Nat} (h : Own w B v l) (h0 : 0 < l.length) : ∃ g cap, v = .slice (some ⟨g, 0, none⟩) l.length cap ∧ Bys w (some ⟨g, 0, none⟩) l.length l ∧ l.length ≤ cap ∧ cap ≤ maxLen := by
  rcases h.form with ⟨_, hl⟩ | ⟨g, cap, cur, hv, _⟩
  · rw [hl] at h0; simp at h0
  · have h2 := h
    rw [hv] at h2
    have := h2.bys
    exact ⟨g, cap, hv, this.1, this.2.1, this.2.2.1⟩



theorem Own.drew {w : World} {B : Nat} {v : Value} {l : List Nat} (h : Own w B v l) : Own w.drew B v l := h
theorem Bys.drew {w : World} {a : Option Addr} {n : Nat} {l : List Nat} (h : Bys w a n l) : Bys w.drew a n l := h

/-- 'append' of one byte onto a row of the call's own, where the order is open. -/
theorem stp_append {ops : Array Oper} {a : Act} {w : World} {K : Act → World → Prop} {Q : Exit → Act → World → Prop} {E : Prop} (dst : Option Tmp) (ty : TypeId) (pos : String) (aft : Array Edge) (s x : Operand)
    (B : Nat) (v : Value) (l : List Nat) (A : Option Addr) (m c : Nat) (news : List Nat)
    (hs : a.eval s = v) (hx : a.eval x = .slice A m c) (hown : Own w B v l) (hsrc : Bys w A m news) (hm : 0 < m) (hsm : l.length + m ≤ 1000000) (hB : B ≤ w.heap.size)
    (h : ∀ g cap w', Own w' B (.slice (some ⟨g, 0, none⟩) (l.length + m) cap) (l ++ news) → w.grownBy w' v.ownBlock → K (a.put dst (.slice (some ⟨g, 0, none⟩) (l.length + m) cap)) w') :
    if Region.wanted ⟨dst, .call { callee := .builtin .append, args := #[s, x], argTypes := #[24, 24] }, ty, pos, aft, none⟩ (yielded ops a.tmps) = true then Oper.wp Try.prog ⟨dst, .call { callee := .builtin .append, args := #[s, x], argTypes := #[24, 24] }, ty, pos, aft, none⟩ a w K Q else E := by
  obtain ⟨b, off, rfl, hc⟩ := hsrc.2.2 hm
  refine step_append_lies w (o := ⟨dst, .call { callee := .builtin .append, args := #[s, x], argTypes := #[24, 24] }, ty, pos, aft, none⟩) rfl s x 24 rfl B 5 _ (.int .u8 0) 1 1 Try.underlying24 Try.type5 rfl rfl rfl rfl (by decide) v l.length (vals l) hs hown.1
      ⟨b, off, none⟩ m c (vals news) hx (by simp [vals, hsrc.1]) (hsrc.cells _ rfl) (fun u hu => by simp only [vals, List.mem_map] at hu; obtain ⟨_, _, rfl⟩ := hu; rfl) hm (by unfold maxLen; omega) (by omega) hB w.heap.size rfl ?_
  intro g cap w' h1 h2 _ _
  refine h g cap w' ⟨?_, ?_⟩ h2
  · have e : (l ++ news).length = l.length + m := by rw [List.length_append, hsrc.1]
    rw [e]
    show w'.ownsRow B 5 1 _ (l.length + m) (vals (l ++ news))
    rw [show vals (l ++ news) = vals l ++ vals news from by simp [vals]]
    exact h1
  · intro c hc
    rcases List.mem_append.1 hc with h' | h'
    · exact hown.2 c h'
    · exact hsrc.2.1 c h'

/-- The cells of n new bytes. -/
def zrow (n : Nat) : Array Value := madeCells #[.int .u8 0] n
set_option maxRecDepth 100000 in
theorem run_zrow (n : Nat) (hn : n ≤ 1000000) (w : World) : (Instr.makeSlice 24 (.int .i64 (n : Int)) (.int .i64 (n : Int))).run Try.prog w = .ok (.slice (some ⟨w.heap.size, 0, none⟩) n n) (w.alloc (.cells (zrow n) 5)) := by
  have := run_make (P := Try.prog) w 24 5 _ (.int .u8 0) Try.underlying24 Try.type5 rfl .i64 .i64 (n : Int) (n : Int) (by omega) (by omega) (by show (1 : Int) * (n : Int) ≤ _; omega) (by omega)
  rw [this]
  show Result.ok (Value.slice _ (n : Int).toNat (n : Int).toNat) (w.alloc (.cells (madeCells #[.int .u8 0] ((n : Int).toNat * 1)) 5)) = _
  rw [Int.toNat_natCast, Nat.mul_one]
  rfl
theorem zrow_eq (n : Nat) : zrow n = ((List.replicate n 0).map (fun (c : Nat) => Value.int .u8 (c : Int))).toArray := by
  unfold zrow madeCells
  apply Array.ext
  · simp
  · intro i h1 h2
    simp [Nat.mod_one]
theorem bys_zrow (w : World) (n : Nat) : Bys (w.alloc (.cells (zrow n) 5)) (some ⟨w.heap.size, 0, none⟩) n (List.replicate n 0) :=
  Bys.const w _ _ (0, 0) n (zrow_eq n) (by simp) (by intro c hc; rw [List.eq_of_mem_replicate hc]; decide)

theorem Own.slice {w : World} {B : Nat} {v : Value} {l : List Nat} (h : Own w B v l) : ∃ A c, v = .slice A l.length c ∧ Bys w A l.length l ∧ l.length ≤ c ∧ c ≤ maxLen ∧ (A = none → c = 0) := by
  rcases h.form with ⟨hv, hl⟩ | ⟨g, cap, cur, hv, _⟩
  · subst hl
    exact ⟨none, 0, hv, Bys.none_ w, Nat.le_refl _, by unfold maxLen; omega, fun _ => rfl⟩
  · rw [hv] at h
    have := h.bys
    exact ⟨_, cap, hv, this.1, this.2.1, this.2.2.1, fun h0 => by cases h0⟩

theorem Bys.alloc {w : World} {a : Option Addr} {n : Nat} {l : List Nat} (h : Bys w a n l) (o : Obj) : Bys (w.alloc o) a n l := h.below ((Below.refl _ _).alloc (Nat.le_refl _) o)

theorem int_lt (k n m : Nat) (h : k < n) (h2 : n ≤ m) : (k : Int) < (m : Int) := by omega
theorem int_le (n m c : Nat) (h : n ≤ m) (h2 : m ≤ c) : (n : Int) ≤ (c : Int) := by omega



/-- What is lent: the bytes, and two of room behind them. -/
def LentPost (w : World) (n : Nat) (l : List Nat) (e : Ending) (w' : World) : Prop :=
  ∃ g c, e = .returned (.slice (some ⟨g, 0, none⟩) n c) ∧ n + 2 ≤ c ∧ c ≤ maxLen ∧ Bys w' (some ⟨g, 0, none⟩) (n + 2) (l ++ [91, 92]) ∧ Below w.heap.size w w'

theorem bys_marks (w : World) (fr : Nat × Nat) : Bys (w.alloc (.cells #[.int .u8 91, .int .u8 92] 5 fr)) (some ⟨w.heap.size, 0, none⟩) 2 [91, 92] := Bys.const w _ [91, 92] fr 2 rfl rfl (by decide)

set_option maxHeartbeats 400000 in
theorem lent_any (a : Option Addr) (n cap : Nat) (l : List Nat) (w : World) (hB : Bys w a n l) (hA : a = none → cap = 0) (hn : n ≤ 100000) :
    Calls Try.prog 12 #[.slice a n cap] w (LentPost w n l) := by
  have HB := Lib.hid hB
  have HA := Lib.hid hA
  clear hB hA
  go_enter Try.func12, Try.ntmps12
  go_wp2_with fail
  with_reducible refine (copy_any _ _ _ _ _ HB.out HA.out (by omega)).mono ?_
  rintro e w2 ⟨v, rfl, hO, hb2⟩
  have HO := Lib.hid hO
  clear hO
  have hlen : (l ++ [91, 92]).length = n + 2 := by rw [List.length_append, HB.out.1]; rfl
  have HLEN := Lib.hid hlen
  clear hlen
  go_wp2_with (first
    | ((with_reducible refine wpl_append (some 8) _ _ _ (.tmp 6) (.tmp 7) w.heap.size v l (some ⟨w2.heap.size, 0, none⟩) 2 2 [91, 92] ?hs ?hx (HO.out.alloc _) (bys_marks _ _) ?ha ?hm ?hz ?_); (case hs => rfl); (case hx => rfl); (case ha => (intro h; cases h)); (case hm => (rw [HB.out.1]; omega)); (case hz => exact Nat.le_trans hb2.size (by simp)); (intro v' w' ho hg hv); (obtain ⟨g, c, hv', hBx, hc1, hc2⟩ := ho.some_ (by rw [HLEN.out]; omega)); (rw [HLEN.out] at hv' hBx hc1); (rw [hv']); (have HBX := Lib.hid hBx); (clear hv' hBx ho hv)))
  go_ret
  exact ⟨g, c, rfl, hc1, hc2, HBX.out, (HO.out.alloc _).grows hg (hb2.alloc hb2.size _) (Nat.le_refl _) (Nat.le_trans hb2.size (by simp))⟩

theorem Bys.part {w : World} {a : Option Addr} {n m : Nat} {l t : List Nat} (h : Bys w a m (l ++ t)) (hl : l.length = n) : Bys w a n l := by
  have hm := h.1
  rw [List.length_append] at hm
  subst hl
  have := h.front l.length (by omega)
  rwa [List.take_left] at this

/-- The text of these bytes. -/
def str (l : List Nat) : ByteArray := strOfNums (l.map (fun (c : Nat) => (c : Int)))
theorem run_str {w : World} {a : Option Addr} {n : Nat} {l : List Nat} (h : Bys w a n l) (c : Nat) : (convert 24 9 (.slice a n c)).run Try.prog w = .ok (.string (str l)) w := by
  by_cases h0 : n = 0
  · subst h0
    have hl : l = [] := List.eq_nil_of_length_eq_zero h.1
    subst hl
    rcases a with _ | ad
    · exact run_convert_bytes_nil (P := Try.prog) w 24 5 Try.underlying24 Try.underlying5 0 c 9 Try.underlying9
    · rw [run_convert_bytes_string (P := Try.prog) w 24 9 5 (some ad) 0 c Try.underlying24 Try.underlying5 Try.underlying9]
      exact run_bytesToString (P := Try.prog) w ad 0 c [] (by simp [loadCells, loadCellsFrom])
  · obtain ⟨b, off, rfl, hc⟩ := h.2.2 (by omega)
    refine run_convert_bytes_arg (P := Try.prog) w 24 5 Try.underlying24 Try.underlying5 b off n c _ (by simp [h.1]) (fun i hi => ?_) 9 Try.underlying9
    rw [hc i hi]
    have : i < l.length := by rw [h.1]; exact hi
    simp [List.getD, this]

set_option maxHeartbeats 400000 in
theorem whole_any (g n c : Nat) (b : Option Addr) (cb : Nat) (l : List Nat) (w : World) (hX : Bys w (some ⟨g, 0, none⟩) (n + 2) (l ++ [91, 92])) (hB : Bys w b n l) (hc : n + 2 ≤ c) (hn : n ≤ 100000) :
    Calls Try.prog 15 #[.slice (some ⟨g, 0, none⟩) n c, .slice b n cb] w fun e w' => e = .returned (.bool true) ∧ Below w.heap.size w w' := by
  obtain ⟨g', off, e, hcell⟩ := hX.2.2 (by omega)
  injection e with e
  injection e with e1 e2 _
  subst e1 e2
  have c1 := hcell n (by omega)
  have c2 := hcell (n + 1) (by omega)
  have hl := hB.1
  have e1 : (l ++ [91, 92]).getD n 0 = 91 := by simp [List.getD, ← hl]
  have e2 : (l ++ [91, 92]).getD (n + 1) 0 = 92 := by simp [List.getD, ← hl]
  rw [e1, Nat.zero_add] at c1
  rw [e2, Nat.zero_add] at c2
  have HX := Lib.hid hX
  have HB := Lib.hid hB
  have r1 := run_str (hX.part hl) c
  have r2 := run_str hB cb
  generalize str l = S at *
  clear hX hB hcell hl e1 e2 HX HB
  go_enter Try.func15, Try.ntmps15
  go_wp2
  go_ret
  exact ⟨rfl, Below.refl _ _⟩

theorem Own.belowOwn {w w' : World} {B : Nat} {v : Value} {l : List Nat} (h : Own w B v l) (hb : Below w.heap.size w w') : Own w' B v l := by
  obtain ⟨⟨h0, h1⟩, h2⟩ := h
  refine ⟨⟨h0, ?_⟩, h2⟩
  rcases h1 with h1 | ⟨g, cap, cur, hv, hg0, hg, hr⟩
  · exact .inl h1
  · exact .inr ⟨g, cap, cur, hv, hg0, Lies.below hg hb (Lies.lt hg), hr⟩



end Go.Proofs.Ytjjkjppaiejajaa
