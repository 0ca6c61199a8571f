/-
  Values, blocks known whole, slices of bytes, writers, lists: what the walks stand on.
-/
import Derived.Test.YtfcfejmammohpaaRows
import Derived.Test.YtfcfejmammohpaaNMath
import Derived.WalkKit
import Derived.WalkSpells
import Derived.WalkLawsBesides
import Derived.Laws.BitsAllLaws
import Derived.Lib.Hide
import Derived.Deep.MidRow
import Derived.Outline
import Derived.Deep.QuietTactic
import Derived.BigQuiet
import Derived.Lib.SlBytesConst
import Derived.Maps.AppendAt
import Derived.Laws.AppendOwnNone
import Derived.Laws.OwnMore
import Derived.StillTailTactics
import Derived.Deep.RegionHeld3
import Derived.Deep.AppendLies
import Derived.Laws.MakeOwn
import Derived.Laws.BytesArg
import Derived.Laws.CopyOwn
import Derived.Deep.RegionLaw
import Derived.Deep.DrawnRows
import Derived.IntWalk
import Derived.ProofKit
import Derived.OpenShut
namespace Go.Proofs.Ytfcfejmammohpaa
open Go.RowKit

theorem ret_int {k : IntKind} {a b : Int} (h : a = b) : Ending.returned (.int k a) = .returned (.int k b) := by rw [h]
theorem val_int {k : IntKind} {a b : Int} (h : a = b) : Value.int k a = Value.int k b := by rw [h]



/-- Block g is just these cells. -/
def Lies (w : World) (g : Nat) (t : TypeId) (cs : Array Value) : Prop := w.heap[g]? = some (.cells cs t (0, 0))

theorem Lies.lt {w : World} {g : Nat} {t : TypeId} {cs : Array Value} (h : Lies w g t cs) : g < w.heap.size := by
  refine Classical.byContradiction fun hn => ?_
  unfold Lies at h
  rw [Array.getElem?_eq_none (by omega)] at h
  cases h
theorem Lies.cell {w : World} {g : Nat} {t : TypeId} {cs : Array Value} (h : Lies w g t cs) (i : Nat) : w.cell? ⟨g, i, none⟩ = cs[i]? := cell_of_row w g i cs t (0, 0) h
theorem Lies.free {w : World} {g : Nat} {t : TypeId} {cs : Array Value} (h : Lies w g t cs) (i : Nat) : w.frozen? ⟨g, i, none⟩ = false := frozen_of_row w g i cs t h
theorem Lies.made (w : World) (t : TypeId) (cs : Array Value) : Lies (w.alloc (.cells cs t)) w.heap.size t cs := heap_alloc_new w _
theorem Lies.alloc {w : World} {g : Nat} {t : TypeId} {cs : Array Value} (h : Lies w g t cs) (o : Obj) : Lies (w.alloc o) g t cs := (Below.heap_alloc w o g h.lt).trans h
theorem Lies.put {w : World} {g : Nat} {t : TypeId} {cs : Array Value} (h : Lies w g t cs) (i : Nat) (v : Value) : Lies (w.setCell ⟨g, i, none⟩ v) g t (cs.setIfInBounds i v) := heap_setCell_same w g i cs t v h
theorem Lies.other {w : World} {g : Nat} {t : TypeId} {cs : Array Value} (h : Lies w g t cs) {a : Addr} (ha : g ≠ a.block) (v : Value) : Lies (w.setCell a v) g t cs := (heap_setCell_other w a g v ha).trans h
theorem Lies.below {w w' : World} {g B : Nat} {t : TypeId} {cs : Array Value} (h : Lies w g t cs) (hb : Below B w w') (hg : g < B) : Lies w' g t cs := (hb.block g hg).trans h

theorem Lies.there {w : World} {g : Nat} {t : TypeId} {cs : Array Value} (h : Lies w g t cs) (n : Nat) (hn : n ≤ cs.size) : w.there g 0 n := fun j hj => by
  rw [Nat.zero_add]
  exact ⟨by rw [h.cell, Array.getElem?_eq_getElem (by omega)]; rfl, h.free j⟩
theorem Lies.puts' {g : Nat} {t : TypeId} : ∀ (vs : List Value) (o : Nat) (w : World) (cs : Array Value), Lies w g t cs → o + vs.length ≤ cs.size →
    ∃ ds, Lies (w.setCells g o vs) g t ds ∧ ds.size = cs.size ∧ ∀ j, ds[j]? = if o ≤ j ∧ j < o + vs.length then vs[j - o]? else cs[j]?
  | [], o, w, cs, h, _ => ⟨cs, h, rfl, fun j => by rw [if_neg (by simp)]⟩
  | v :: r, o, w, cs, h, hn => by
    obtain ⟨ds, h1, h2, h3⟩ := Lies.puts' r (o + 1) _ _ (h.put o v) (by simp at hn ⊢; omega)
    refine ⟨ds, h1, by simpa using h2, fun j => ?_⟩
    rw [h3 j]
    simp only [List.length_cons] at hn ⊢
    rw [Array.getElem?_setIfInBounds]
    by_cases a : o + 1 ≤ j ∧ j < o + 1 + r.length
    · rw [if_pos a, if_pos (by omega)]
      obtain ⟨i, hi⟩ : ∃ i, j - o = i + 1 := ⟨j - o - 1, by omega⟩
      rw [hi, List.getElem?_cons_succ]
      congr 1; omega
    · rw [if_neg a]
      by_cases b : o = j
      · subst b
        rw [if_pos rfl, if_pos (by omega), if_pos (by omega), Nat.sub_self, List.getElem?_cons_zero]
      · rw [if_neg b, if_neg (by omega)]
theorem Lies.puts {w : World} {g : Nat} {t : TypeId} {cs : Array Value} (h : Lies w g t cs) (T : Array Value) (hT : T.size = cs.size) : Lies (w.setCells g 0 T.toList) g t T := by
  obtain ⟨ds, h1, h2, h3⟩ := Lies.puts' T.toList 0 w cs h (by simp; omega)
  have : ds = T := by
    apply Array.ext_getElem?
    intro j
    rw [h3 j]
    by_cases hj : j < T.size
    · rw [if_pos (by simp; omega)]; simp
    · rw [if_neg (by simp; omega), Array.getElem?_eq_none (by omega), Array.getElem?_eq_none (by omega)]
  rw [this] at h1; exact h1
theorem Lies.puts_other {w : World} {g b : Nat} {t : TypeId} {cs : Array Value} (h : Lies w g t cs) (hne : g ≠ b) (vs : List Value) (o : Nat) : Lies (w.setCells b o vs) g t cs := by
  induction vs generalizing w o with
  | nil => exact h
  | cons v r ih => exact ih (h.other (a := ⟨b, o, none⟩) hne v) (o + 1)
theorem below_puts {B b : Nat} {a w : World} (h : Below B a w) (hb : B ≤ b) (vs : List Value) (o : Nat) : Below B a (w.setCells b o vs) := by
  induction vs generalizing w o with
  | nil => exact h
  | cons v r ih => exact ih (h.setCell (p := ⟨b, o, none⟩) hb v) (o + 1)
theorem size_one (w : World) (o : Obj) : (w.alloc o).heap.size = w.heap.size + 1 := by simp
theorem Lies.made2 (w : World) (o : Obj) (t : TypeId) (cs : Array Value) : Lies ((w.alloc o).alloc (.cells cs t)) (w.heap.size + 1) t cs := by
  have := Lies.made (w.alloc o) t cs
  rwa [size_one] at this
theorem Lies.made3 (w : World) (o o2 : Obj) (t : TypeId) (cs : Array Value) : Lies (((w.alloc o).alloc o2).alloc (.cells cs t)) (w.heap.size + 1 + 1) t cs := by
  have := Lies.made2 (w.alloc o) o2 t cs
  rwa [size_one] at this


/-- A slice of n bytes that reads as l. -/
def Bys (w : World) (a : Option Addr) (n : Nat) (l : List Nat) : Prop :=
  l.length = n ∧ (∀ c ∈ l, c < 256) ∧ (0 < n → ∃ b off, a = some ⟨b, off, none⟩ ∧ ∀ i, i < n → w.cell? ⟨b, off + i, none⟩ = some (.int .u8 (l.getD i 0 : Nat)))

theorem take_one (l : List Nat) (k : Nat) (h : k < l.length) : l.take (k + 1) = l.take k ++ [l.getD k 0] := by
  rw [List.take_succ_eq_append_getElem h]
  simp [List.getD, h]

theorem getD_lt (l : List Nat) (hl : ∀ c ∈ l, c < 256) (k : Nat) : l.getD k 0 < 256 := by
  rw [List.getD_eq_getElem?_getD]
  by_cases h : k < l.length
  · rw [List.getElem?_eq_getElem h]; exact hl _ (List.getElem_mem h)
  · rw [List.getElem?_eq_none (by omega)]; decide


theorem ret_bool {a b : Bool} (h : a = b) : Ending.returned (.bool a) = .returned (.bool b) := by rw [h]
theorem below1 (w : World) (o : Obj) : Below w.heap.size w (w.alloc o) := (Below.refl _ _).alloc (Nat.le_refl _) _
theorem below2 (w : World) (o p : Obj) : Below w.heap.size w ((w.alloc o).alloc p) := ((Below.refl _ _).alloc (Nat.le_refl _) _).alloc (by simp) _
theorem range_of_lies {w : World} {g : Nat} {t : TypeId} {cs : Array Value} (h : Lies w g t cs) : w.rangeAt g 0 cs.toList := fun j v hv => by
  rw [Nat.zero_add, h.cell]
  simpa using hv
theorem wrap_u8 (q : Nat) (h : q < 256) : IntKind.u8.wrap (q : Int) = (q : Int) := by rw [IntKind.wrap_u8]; omega

end Go.Proofs.Ytfcfejmammohpaa

namespace Go.Proofs.Ytfcfejmammohpaa
open Go.RowKit
set_option maxRecDepth 100000


theorem Bys.drewN {w : World} {a : Option Addr} {n : Nat} {l : List Nat} (h : Bys w a n l) (k : Nat) : Bys (w.drewN k) a n l := h
theorem Bys.front {w : World} {a : Option Addr} {n : Nat} {l : List Nat} (h : Bys w a n l) (m : Nat) (hm : m ≤ n) : Bys w a m (l.take m) := by
  obtain ⟨h1, h2, h3⟩ := h
  refine ⟨by rw [List.length_take]; omega, fun c hc => h2 c (List.mem_of_mem_take hc), fun h0 => ?_⟩
  obtain ⟨b, off, e, hc⟩ := h3 (by omega)
  refine ⟨b, off, e, fun i hi => ?_⟩
  rw [hc i (by omega)]
  simp [List.getD, hi]

theorem below_drewN {B : Nat} {a w : World} (h : Below B a w) (n : Nat) : Below B a (w.drewN n) := ⟨h.os, h.tape, h.output, h.size, h.block⟩
/-- A new row of these bytes. -/
theorem Bys.const (w : World) (C : Array Value) (l : List Nat) (fr : Nat × Nat) (n : Nat) (hC : C = (l.map (fun (c : Nat) => Value.int .u8 (c : Int))).toArray) (hn : l.length = n) (hl : ∀ c ∈ l, c < 256) : Bys (w.alloc (.cells C 5 fr)) (some ⟨w.heap.size, 0, none⟩) n l := by
  subst hC
  refine ⟨hn, hl, fun _ => ⟨_, _, rfl, fun i hi => ?_⟩⟩
  rw [Nat.zero_add, cell_of_row _ _ _ _ 5 fr (heap_alloc_new w _)]
  have : i < l.length := by omega
  simp [List.getD, this]

theorem Bys.none_ (w : World) : Bys w none 0 [] := ⟨rfl, (fun c hc => absurd hc (by simp)), (fun h => absurd h (by omega))⟩
theorem small_len (n : Nat) (h : n ≤ 1000000) : n ≤ maxLen := by unfold maxLen; omega
abbrev vals (l : List Nat) : List Value := l.map (fun (c : Nat) => Value.int .u8 (c : Int))

/-- A row of bytes that lies in a block of its own, not below B. -/
def Own (w : World) (B : Nat) (v : Value) (l : List Nat) : Prop := w.ownsRow B 5 1 v l.length (vals l) ∧ ∀ c ∈ l, c < 256

theorem Own.nil (w : World) (B : Nat) : Own w B (.slice none 0 0) [] := ⟨⟨rfl, .inl ⟨rfl, rfl⟩⟩, by simp⟩

theorem Own.form {w : World} {B : Nat} {v : Value} {l : List Nat} (h : Own w B v l) :
    (v = .slice none 0 0 ∧ l = []) ∨ ∃ g cap cur, v = .slice (some ⟨g, 0, none⟩) l.length cap ∧ B ≤ g ∧ Lies w g 5 cur ∧ l.length ≤ cap ∧ cap ≤ maxLen ∧ cur.size = cap ∧ ∀ i, i < l.length → cur[i]? = some (.int .u8 (l.getD i 0 : Nat)) := by
  obtain ⟨⟨_, h1 | ⟨g, cap, cur, hv, hb, hg, hn, hm, hs, ht⟩⟩, _⟩ := h
  · exact .inl ⟨h1.1, List.eq_nil_of_length_eq_zero h1.2⟩
  · refine .inr ⟨g, cap, cur, hv, hb, hg, hn, hm, by simpa using hs, fun i hi => ?_⟩
    have e : (cur.toList.take (l.length * 1))[i]? = (vals l)[i]? := by rw [ht]
    rw [List.getElem?_take, if_pos (by omega)] at e
    rw [Array.getElem?_toList] at e
    rw [e]
    simp [vals, List.getD, hi]

theorem Own.bys {w : World} {B : Nat} {A : Option Addr} {n c : Nat} {l : List Nat} (h : Own w B (.slice A n c) l) : Bys w A n l ∧ n ≤ c ∧ c ≤ maxLen ∧ (A = none → n = 0 ∧ c = 0) := by
  rcases h.form with ⟨hv, hl⟩ | ⟨g, cap, cur, hv, hb, hg, hn, hm, hs, hc⟩
  · injection hv with h1 h2 h3
    subst h1 h2 h3 hl
    exact ⟨Bys.none_ w, Nat.le_refl _, by unfold maxLen; omega, fun _ => ⟨rfl, rfl⟩⟩
  · injection hv with h1 h2 h3
    subst h1 h2 h3
    refine ⟨⟨rfl, h.2, fun _ => ⟨g, 0, rfl, fun i hi => ?_⟩⟩, hn, hm, fun h => by cases h⟩
    rw [Nat.zero_add, hg.cell, hc i hi]

theorem add_off (b off i : Nat) : (⟨b, off, none⟩ : Addr).add i = ⟨b, off + i, none⟩ := Addr.add_mid b off i

theorem Bys.cells {w : World} {A : Option Addr} {m : Nat} {l : List Nat} (h : Bys w A m l) (ad : Addr) (hA : A = some ad) : ∀ j u, (vals l)[j]? = some u → w.cell? (ad.add j) = some u := by
  intro j u hu
  have hj : j < l.length := by
    have := (List.getElem?_eq_some_iff.1 hu).1
    simpa [vals] using this
  obtain ⟨b, off, e, hc⟩ := h.2.2 (by rw [← h.1]; omega)
  rw [hA] at e
  injection e with e
  subst e
  rw [add_off, hc j (by rw [← h.1]; exact hj), ← hu]
  simp [vals, List.getD, hj]

/-- 'append' of bytes onto a row of the call's own. -/
theorem wpl_append {ops : Array Oper} {rest : List Oper} {a : Act} {w : World} {Q : Exit → Act → World → Prop} (dst : Option Tmp) (ty : TypeId) (pos : String) (aft : Array Edge) (s x : Operand)
    (B : Nat) (v : Value) (l : List Nat) (A : Option Addr) (m c : Nat) (news : List Nat)
    (hs : a.eval s = v) (hx : a.eval x = .slice A m c) (hown : Own w B v l) (hsrc : Bys w A m news) (hA : A = none → c = 0) (hsm : l.length + m ≤ 1000000) (hB : B ≤ w.heap.size)
    (h : ∀ v' w', Own w' B v' (l ++ news) → w.grownBy w' v.ownBlock → (v'.ownBlock = v.ownBlock ∨ v'.ownBlock = some w.heap.size) → wpList Try.prog ops Q rest (a.put dst v') w') :
    wpList Try.prog ops Q (⟨dst, .call { callee := .builtin .append, args := #[s, x], argTypes := #[27, 27] }, ty, pos, aft, none⟩ :: rest) a w := by
  rcases A with _ | ad
  · have hm : m = 0 := by
      refine Classical.byContradiction fun h0 => ?_
      obtain ⟨b, off, e, _⟩ := hsrc.2.2 (by omega)
      cases e
    have hn : news = [] := List.eq_nil_of_length_eq_zero (by rw [hsrc.1]; exact hm)
    have hc0 := hA rfl
    subst hm hn hc0
    refine wpList_append_own_none (o := ⟨dst, .call { callee := .builtin .append, args := #[s, x], argTypes := #[27, 27] }, ty, pos, aft, none⟩) rfl s x 27 rfl B 5 _ 1 Try.underlying27 Try.type5 v l.length (vals l) hs hown.1 hx ?_
    exact h v w (by rw [List.append_nil]; exact hown) (World.grownBy.refl w _) (.inl rfl)
  · refine wpList_append_own_at (w := w) (o := ⟨dst, .call { callee := .builtin .append, args := #[s, x], argTypes := #[27, 27] }, ty, pos, aft, none⟩) rfl s x 27 rfl B 5 _ (.int .u8 0) 1 1 Try.underlying27 Try.type5 rfl rfl rfl rfl (by decide) v l.length (vals l) hs hown.1
      ad m c (vals news) hx (by simp [vals, hsrc.1]) (hsrc.cells ad rfl) (fun u hu => by simp only [vals, List.mem_map] at hu; obtain ⟨_, _, rfl⟩ := hu; rfl) (by unfold maxLen; omega) (by omega) hB ?_
    intro v' w' h1 h2 _ h4
    refine h v' w' ⟨?_, ?_⟩ h2 h4
    · rw [List.length_append, hsrc.1]
      show w'.ownsRow B 5 1 v' (l.length + m) (vals (l ++ news))
      rw [show vals (l ++ news) = vals l ++ vals news from by simp [vals]]
      exact h1
    · intro c hc
      rcases List.mem_append.1 hc with h' | h'
      · exact hown.2 c h'
      · exact hsrc.2.1 c h'

set_option maxHeartbeats 400000 in
theorem copy_any (a : Option Addr) (n cap : Nat) (l : List Nat) (w : World) (hB : Bys w a n l) (hA : a = none → cap = 0) (hn : n ≤ 1000000) :
    Calls Try.prog 37 #[.slice a n cap] w fun e w' => ∃ v, e = .returned v ∧ Own w' w.heap.size v l ∧ Below w.heap.size w w' := by
  have HB := Lib.hid hB
  have HA := Lib.hid hA
  clear hB hA
  go_enter Try.func37, Try.ntmps37
  go_wp2_with (first
    | ((with_reducible refine wpl_append (some 6) _ _ _ (.tmp 4) (.tmp 5) w.heap.size _ [] a n cap l ?hs ?hx (Own.nil _ _) HB.out HA.out ?hm (Nat.le_refl _) ?_); (case hs => rfl); (case hx => rfl); (case hm => simpa using hn); (intro v' w' ho hg hv)))
  go_ret
  exact ⟨_, rfl, ho, (Below.refl _ _).grown hg (Nat.le_refl _) (fun k hk => by cases hk)⟩

theorem Bys.below {w w' : World} {a : Option Addr} {n : Nat} {l : List Nat} (h : Bys w a n l) (hb : Below w.heap.size w w') : Bys w' a n l := by
  obtain ⟨h1, h2, h3⟩ := h
  refine ⟨h1, h2, fun h0 => ?_⟩
  obtain ⟨b, off, e, hc⟩ := h3 h0
  refine ⟨b, off, e, fun i hi => ?_⟩
  have := hc i hi
  rw [hb.cell (block_lt_of_cell this)]
  exact this

theorem Own.alloc {w : World} {B : Nat} {v : Value} {l : List Nat} (h : Own w B v l) (o : Obj) : Own (w.alloc o) B v l := by
  obtain ⟨⟨h0, h1⟩, h2⟩ := h
  refine ⟨⟨h0, ?_⟩, h2⟩
  rcases h1 with h1 | ⟨g, cap, cur, hv, hb, hg, hr⟩
  · exact .inl h1
  · exact .inr ⟨g, cap, cur, hv, hb, Lies.alloc hg o, hr⟩

theorem Own.block {w : World} {B : Nat} {v : Value} {l : List Nat} (h : Own w B v l) : ∀ k, v.ownBlock = some k → B ≤ k := by
  intro k hk
  obtain ⟨⟨_, h1⟩, _⟩ := h
  rcases h1 with ⟨rfl, _⟩ | ⟨g, cap, cur, rfl, hb, _⟩
  · cases hk
  · simp [Value.ownBlock] at hk; omega

/-- An append onto a row of its own changes nothing below it. -/
theorem Own.grows {w w' a : World} {B B0 : Nat} {v : Value} {l : List Nat} (h : Own w B v l) (hg : w.grownBy w' v.ownBlock) (hb : Below B0 a w) (h1 : B0 ≤ B) (h2 : B0 ≤ w.heap.size) : Below B0 a w' :=
  hb.grown hg h2 (fun k hk => Nat.le_trans h1 (h.block k hk))

/-- The row that is not empty. -/
theorem Own.some_ {w : World} {B : Nat} {v : Value} {l : List Nat} (h : Own w B v l) (h0 : 0 < l.length) : ∃ g cap, v = .slice (some ⟨g, 0, none⟩) l.length cap ∧ Bys w (some ⟨g, 0, none⟩) l.length l ∧ l.length ≤ cap ∧ cap ≤ maxLen := by
  rcases h.form with ⟨_, hl⟩ | ⟨g, cap, cur, hv, _⟩
  · rw [hl] at h0; simp at h0
  · have h2 := h
    rw [hv] at h2
    have := h2.bys
    exact ⟨g, cap, hv, this.1, this.2.1, this.2.2.1⟩



theorem Own.drew {w : World} {B : Nat} {v : Value} {l : List Nat} (h : Own w B v l) : Own w.drew B v l := h
theorem Bys.drew {w : World} {a : Option Addr} {n : Nat} {l : List Nat} (h : Bys w a n l) : Bys w.drew a n l := h

/-- 'append' of one byte onto a row of the call's own, where the order is open. -/
theorem stp_append {ops : Array Oper} {a : Act} {w : World} {K : Act → World → Prop} {Q : Exit → Act → World → Prop} {E : Prop} (dst : Option Tmp) (ty : TypeId) (pos : String) (aft : Array Edge) (s x : Operand)
    (B : Nat) (v : Value) (l : List Nat) (A : Option Addr) (m c : Nat) (news : List Nat)
    (hs : a.eval s = v) (hx : a.eval x = .slice A m c) (hown : Own w B v l) (hsrc : Bys w A m news) (hm : 0 < m) (hsm : l.length + m ≤ 1000000) (hB : B ≤ w.heap.size)
    (h : ∀ g cap w', Own w' B (.slice (some ⟨g, 0, none⟩) (l.length + m) cap) (l ++ news) → w.grownBy w' v.ownBlock → K (a.put dst (.slice (some ⟨g, 0, none⟩) (l.length + m) cap)) w') :
    if Region.wanted ⟨dst, .call { callee := .builtin .append, args := #[s, x], argTypes := #[27, 27] }, ty, pos, aft, none⟩ (yielded ops a.tmps) = true then Oper.wp Try.prog ⟨dst, .call { callee := .builtin .append, args := #[s, x], argTypes := #[27, 27] }, ty, pos, aft, none⟩ a w K Q else E := by
  obtain ⟨b, off, rfl, hc⟩ := hsrc.2.2 hm
  refine step_append_lies w (o := ⟨dst, .call { callee := .builtin .append, args := #[s, x], argTypes := #[27, 27] }, ty, pos, aft, none⟩) rfl s x 27 rfl B 5 _ (.int .u8 0) 1 1 Try.underlying27 Try.type5 rfl rfl rfl rfl (by decide) v l.length (vals l) hs hown.1
      ⟨b, off, none⟩ m c (vals news) hx (by simp [vals, hsrc.1]) (hsrc.cells _ rfl) (fun u hu => by simp only [vals, List.mem_map] at hu; obtain ⟨_, _, rfl⟩ := hu; rfl) hm (by unfold maxLen; omega) (by omega) hB w.heap.size rfl ?_
  intro g cap w' h1 h2 _ _
  refine h g cap w' ⟨?_, ?_⟩ h2
  · have e : (l ++ news).length = l.length + m := by rw [List.length_append, hsrc.1]
    rw [e]
    show w'.ownsRow B 5 1 _ (l.length + m) (vals (l ++ news))
    rw [show vals (l ++ news) = vals l ++ vals news from by simp [vals]]
    exact h1
  · intro c hc
    rcases List.mem_append.1 hc with h' | h'
    · exact hown.2 c h'
    · exact hsrc.2.1 c h'

/-- The cells of n new bytes. -/
def zrow (n : Nat) : Array Value := madeCells #[.int .u8 0] n
set_option maxRecDepth 100000 in
theorem run_zrow (n : Nat) (hn : n ≤ 1000000) (w : World) : (Instr.makeSlice 27 (.int .i64 (n : Int)) (.int .i64 (n : Int))).run Try.prog w = .ok (.slice (some ⟨w.heap.size, 0, none⟩) n n) (w.alloc (.cells (zrow n) 5)) := by
  have := run_make (P := Try.prog) w 27 5 _ (.int .u8 0) Try.underlying27 Try.type5 rfl .i64 .i64 (n : Int) (n : Int) (by omega) (by omega) (by show (1 : Int) * (n : Int) ≤ _; omega) (by omega)
  rw [this]
  show Result.ok (Value.slice _ (n : Int).toNat (n : Int).toNat) (w.alloc (.cells (madeCells #[.int .u8 0] ((n : Int).toNat * 1)) 5)) = _
  rw [Int.toNat_natCast, Nat.mul_one]
  rfl
theorem zrow_eq (n : Nat) : zrow n = ((List.replicate n 0).map (fun (c : Nat) => Value.int .u8 (c : Int))).toArray := by
  unfold zrow madeCells
  apply Array.ext
  · simp
  · intro i h1 h2
    simp [Nat.mod_one]
theorem bys_zrow (w : World) (n : Nat) : Bys (w.alloc (.cells (zrow n) 5)) (some ⟨w.heap.size, 0, none⟩) n (List.replicate n 0) :=
  Bys.const w _ _ (0, 0) n (zrow_eq n) (by simp) (by intro c hc; rw [List.eq_of_mem_replicate hc]; decide)

theorem Own.slice {w : World} {B : Nat} {v : Value} {l : List Nat} (h : Own w B v l) : ∃ A c, v = .slice A l.length c ∧ Bys w A l.length l ∧ l.length ≤ c ∧ c ≤ maxLen ∧ (A = none → c = 0) := by
  rcases h.form with ⟨hv, hl⟩ | ⟨g, cap, cur, hv, _⟩
  · subst hl
    exact ⟨none, 0, hv, Bys.none_ w, Nat.le_refl _, by unfold maxLen; omega, fun _ => rfl⟩
  · rw [hv] at h
    have := h.bys
    exact ⟨_, cap, hv, this.1, this.2.1, this.2.2.1, fun h0 => by cases h0⟩

theorem Bys.alloc {w : World} {a : Option Addr} {n : Nat} {l : List Nat} (h : Bys w a n l) (o : Obj) : Bys (w.alloc o) a n l := h.below ((Below.refl _ _).alloc (Nat.le_refl _) o)

theorem int_lt (k n m : Nat) (h : k < n) (h2 : n ≤ m) : (k : Int) < (m : Int) := by omega
theorem int_le (n m c : Nat) (h : n ≤ m) (h2 : m ≤ c) : (n : Int) ≤ (c : Int) := by omega



/-- What is lent: the bytes, and two of room behind them. -/
def LentPost (w : World) (n : Nat) (l : List Nat) (e : Ending) (w' : World) : Prop :=
  ∃ g c, e = .returned (.slice (some ⟨g, 0, none⟩) n c) ∧ n + 2 ≤ c ∧ c ≤ maxLen ∧ Bys w' (some ⟨g, 0, none⟩) (n + 2) (l ++ [91, 92]) ∧ Below w.heap.size w w'

theorem bys_marks (w : World) (fr : Nat × Nat) : Bys (w.alloc (.cells #[.int .u8 91, .int .u8 92] 5 fr)) (some ⟨w.heap.size, 0, none⟩) 2 [91, 92] := Bys.const w _ [91, 92] fr 2 rfl rfl (by decide)

set_option maxHeartbeats 400000 in
theorem lent_any (a : Option Addr) (n cap : Nat) (l : List Nat) (w : World) (hB : Bys w a n l) (hA : a = none → cap = 0) (hn : n ≤ 100000) :
    Calls Try.prog 25 #[.slice a n cap] w (LentPost w n l) := by
  have HB := Lib.hid hB
  have HA := Lib.hid hA
  clear hB hA
  go_enter Try.func25, Try.ntmps25
  go_wp2_with fail
  with_reducible refine (copy_any _ _ _ _ _ HB.out HA.out (by omega)).mono ?_
  rintro e w2 ⟨v, rfl, hO, hb2⟩
  have HO := Lib.hid hO
  clear hO
  have hlen : (l ++ [91, 92]).length = n + 2 := by rw [List.length_append, HB.out.1]; rfl
  have HLEN := Lib.hid hlen
  clear hlen
  go_wp2_with (first
    | ((with_reducible refine wpl_append (some 8) _ _ _ (.tmp 6) (.tmp 7) w.heap.size v l (some ⟨w2.heap.size, 0, none⟩) 2 2 [91, 92] ?hs ?hx (HO.out.alloc _) (bys_marks _ _) ?ha ?hm ?hz ?_); (case hs => rfl); (case hx => rfl); (case ha => (intro h; cases h)); (case hm => (rw [HB.out.1]; omega)); (case hz => exact Nat.le_trans hb2.size (by simp)); (intro v' w' ho hg hv); (obtain ⟨g, c, hv', hBx, hc1, hc2⟩ := ho.some_ (by rw [HLEN.out]; omega)); (rw [HLEN.out] at hv' hBx hc1); (rw [hv']); (have HBX := Lib.hid hBx); (clear hv' hBx ho hv)))
  go_ret
  exact ⟨g, c, rfl, hc1, hc2, HBX.out, (HO.out.alloc _).grows hg (hb2.alloc hb2.size _) (Nat.le_refl _) (Nat.le_trans hb2.size (by simp))⟩

theorem Bys.part {w : World} {a : Option Addr} {n m : Nat} {l t : List Nat} (h : Bys w a m (l ++ t)) (hl : l.length = n) : Bys w a n l := by
  have hm := h.1
  rw [List.length_append] at hm
  subst hl
  have := h.front l.length (by omega)
  rwa [List.take_left] at this

/-- The text of these bytes. -/
def str (l : List Nat) : ByteArray := strOfNums (l.map (fun (c : Nat) => (c : Int)))
theorem run_str {w : World} {a : Option Addr} {n : Nat} {l : List Nat} (h : Bys w a n l) (c : Nat) : (convert 27 9 (.slice a n c)).run Try.prog w = .ok (.string (str l)) w := by
  by_cases h0 : n = 0
  · subst h0
    have hl : l = [] := List.eq_nil_of_length_eq_zero h.1
    subst hl
    rcases a with _ | ad
    · exact run_convert_bytes_nil (P := Try.prog) w 27 5 Try.underlying27 Try.underlying5 0 c 9 Try.underlying9
    · rw [run_convert_bytes_string (P := Try.prog) w 27 9 5 (some ad) 0 c Try.underlying27 Try.underlying5 Try.underlying9]
      exact run_bytesToString (P := Try.prog) w ad 0 c [] (by simp [loadCells, loadCellsFrom])
  · obtain ⟨b, off, rfl, hc⟩ := h.2.2 (by omega)
    refine run_convert_bytes_arg (P := Try.prog) w 27 5 Try.underlying27 Try.underlying5 b off n c _ (by simp [h.1]) (fun i hi => ?_) 9 Try.underlying9
    rw [hc i hi]
    have : i < l.length := by rw [h.1]; exact hi
    simp [List.getD, this]

set_option maxHeartbeats 400000 in
theorem whole_any (g n c : Nat) (b : Option Addr) (cb : Nat) (l : List Nat) (w : World) (hX : Bys w (some ⟨g, 0, none⟩) (n + 2) (l ++ [91, 92])) (hB : Bys w b n l) (hc : n + 2 ≤ c) (hn : n ≤ 100000) :
    Calls Try.prog 28 #[.slice (some ⟨g, 0, none⟩) n c, .slice b n cb] w fun e w' => e = .returned (.bool true) ∧ Below w.heap.size w w' := by
  obtain ⟨g', off, e, hcell⟩ := hX.2.2 (by omega)
  injection e with e
  injection e with e1 e2 _
  subst e1 e2
  have c1 := hcell n (by omega)
  have c2 := hcell (n + 1) (by omega)
  have hl := hB.1
  have e1 : (l ++ [91, 92]).getD n 0 = 91 := by simp [List.getD, ← hl]
  have e2 : (l ++ [91, 92]).getD (n + 1) 0 = 92 := by simp [List.getD, ← hl]
  rw [e1, Nat.zero_add] at c1
  rw [e2, Nat.zero_add] at c2
  have HX := Lib.hid hX
  have HB := Lib.hid hB
  have r1 := run_str (hX.part hl) c
  have r2 := run_str hB cb
  generalize str l = S at *
  clear hX hB hcell hl e1 e2 HX HB
  go_enter Try.func28, Try.ntmps28
  go_wp2
  go_ret
  exact ⟨rfl, Below.refl _ _⟩

theorem Own.belowOwn {w w' : World} {B : Nat} {v : Value} {l : List Nat} (h : Own w B v l) (hb : Below w.heap.size w w') : Own w' B v l := by
  obtain ⟨⟨h0, h1⟩, h2⟩ := h
  refine ⟨⟨h0, ?_⟩, h2⟩
  rcases h1 with h1 | ⟨g, cap, cur, hv, hg0, hg, hr⟩
  · exact .inl h1
  · exact .inr ⟨g, cap, cur, hv, hg0, Lies.below hg hb (Lies.lt hg), hr⟩



end Go.Proofs.Ytfcfejmammohpaa

namespace Go.Proofs.Ytfcfejmammohpaa
open Go.RowKit
set_option maxRecDepth 100000


/-- 'copy' of as many bytes as a new row has. -/
theorem wpl_copy {ops : Array Oper} {rest : List Oper} {a : Act} {w : World} {Q : Exit → Act → World → Prop} (dst : Option Tmp) (ty : TypeId) (pos : String) (aft : Array Edge) (d s : Operand)
    (g n c : Nat) (A : Option Addr) (l : List Nat) (w0 : World) (B : Nat)
    (hd : a.eval d = .slice (some ⟨g, 0, none⟩) n n) (hs : a.eval s = .slice A n c) (hg : Lies w g 5 (zrow n)) (hB : Bys w A n l) (hb : Below B w0 w) (hBg : B ≤ g)
    (h : ∀ w', Lies w' g 5 (vals l).toArray → Below B w0 w' → wpList Try.prog ops Q rest (a.put dst (goInt n)) w') :
    wpList Try.prog ops Q (⟨dst, .call { callee := .builtin .copy, args := #[d, s], argTypes := #[27, 27] }, ty, pos, aft, none⟩ :: rest) a w := by
  have hl : (vals l).length = n := by simp [vals, hB.1]
  have hz : (zrow n).toList.length = n := by rw [zrow_eq]; simp
  refine wpList_copy_splice (o := ⟨dst, .call { callee := .builtin .copy, args := #[d, s], argTypes := #[27, 27] }, ty, pos, aft, none⟩) rfl d s 27 27 rfl 5 Try.underlying27 (by kernel_rfl) _ _ _ _ _ _ hd hs g 0 (zrow n).toList 5 (by rw [Array.toArray_toList]; exact hg) (vals l) (by simp [hl]) ?_ (by simp only [hl, hz]; omega) (fun u hu => by simp only [vals, List.mem_map] at hu; obtain ⟨_, _, rfl⟩ := hu; rfl) B w0 hb hBg ?_
  · intro h0
    obtain ⟨b, off, e, _⟩ := hB.2.2 (by omega)
    exact ⟨rfl, _, e, hB.cells _ e⟩
  · intro w' hh hb'
    rw [hl]
    refine h w' ?_ hb'
    have := hh.out
    unfold splice at this
    rw [List.take_zero, List.nil_append, hl, Nat.zero_add, List.drop_of_length_le (by omega), List.append_nil] at this
    exact this

theorem Own.made {w : World} {g B : Nat} {l : List Nat} (h : Lies w g 5 (vals l).toArray) (hB : B ≤ g) (hl : ∀ c ∈ l, c < 256) (hn : l.length ≤ maxLen) : Own w B (.slice (some ⟨g, 0, none⟩) l.length l.length) l :=
  ⟨⟨by simp [vals], .inr ⟨g, l.length, _, rfl, hB, h, Nat.le_refl _, hn, by simp [vals], by rw [Nat.mul_one, List.take_of_length_le (by simp [vals])]⟩⟩, hl⟩

/-- The new row that 'fresh' returns. -/
def FreshPost (w : World) (n : Nat) (l : List Nat) (e : Ending) (w' : World) : Prop :=
  e = .returned (.slice (some ⟨w.heap.size, 0, none⟩) n n) ∧ Own w' w.heap.size (.slice (some ⟨w.heap.size, 0, none⟩) n n) l ∧ Below w.heap.size w w'

set_option maxHeartbeats 400000 in
theorem fresh_any (a : Option Addr) (n cap : Nat) (l : List Nat) (w : World) (hB : Bys w a n l) (hn : n ≤ 1000000) :
    Calls Try.prog 82 #[.slice a n cap] w (FreshPost w n l) := by
  have HB := Lib.hid hB
  clear hB
  have hmk := run_zrow n hn
  go_enter Try.func82, Try.ntmps82
  go_wp2_with (first
    | ((with_reducible refine wpl_copy (some 9) _ _ _ (.tmp 7) (.tmp 8) w.heap.size n cap a l w w.heap.size ?hd ?hs (Lies.made _ _ _) (HB.out.alloc _) ((Below.refl _ _).alloc (Nat.le_refl _) _) (Nat.le_refl _) ?_); (case hd => rfl); (case hs => rfl); (intro w' hl hb)))
  go_ret
  have hlen := HB.out.1
  subst hlen
  exact ⟨rfl, Own.made hl (Nat.le_refl _) HB.out.2.1 (small_len _ hn), hb⟩

/-- A writer, at block p, that holds l. -/
def Wr (w : World) (p B : Nat) (l : List Nat) : Prop := B ≤ p ∧ ∃ v, Lies w p 130 #[v, .bool false] ∧ Own w B v l
/-- No block of bytes, no writer. -/
def Aside (o : Obj) : Prop := (∀ cs fr, o ≠ .cells cs 5 fr) ∧ ∀ cs fr, o ≠ .cells cs 130 fr
/-- All blocks but those of bytes and of writers are as they were. -/
def Keep (w w' : World) : Prop := ∀ (g : Nat) (o : Obj), Aside o → w.heap[g]? = some o → w'.heap[g]? = some o
theorem Keep.lies {w w' : World} (h : Keep w w') {g : Nat} {t : TypeId} {cs : Array Value} (h1 : t ≠ 5) (h2 : t ≠ 130) (h3 : Lies w g t cs) : Lies w' g t cs :=
  h g _ ⟨fun _ _ e => by injection e with _ e; exact h1 e, fun _ _ e => by injection e with _ e; exact h2 e⟩ h3
theorem Keep.iter {w w' : World} (h : Keep w w') {g : Nat} {s : ByteArray} {p : Nat} (h3 : w.heap[g]? = some (.stringIter s p)) : w'.heap[g]? = some (.stringIter s p) :=
  h g _ ⟨(fun _ _ e => by cases e), (fun _ _ e => by cases e)⟩ h3
theorem Keep.refl (w : World) : Keep w w := fun _ _ _ h => h
theorem Keep.trans {a b c : World} (h : Keep a b) (k : Keep b c) : Keep a c := fun g o h1 h3 => k g o h1 (h g o h1 h3)
theorem heap_lt {w : World} {g : Nat} {o : Obj} (h : w.heap[g]? = some o) : g < w.heap.size := (Array.getElem?_eq_some_iff.1 h).1
theorem Keep.alloc {a w : World} (h : Keep a w) (o : Obj) : Keep a (w.alloc o) := fun g x h1 h3 => (Below.heap_alloc w o g (heap_lt (h g x h1 h3))).trans (h g x h1 h3)
theorem Keep.drew {a w : World} (h : Keep a w) : Keep a w.drew := h
def WrPost (w : World) (p B : Nat) (l : List Nat) (e : Ending) (w' : World) : Prop := e = .returned (.pointer (some ⟨p, 0, none⟩)) ∧ Wr w' p B l ∧ Below B w w' ∧ Keep w w'

theorem Own.ne {w : World} {B p : Nat} {v : Value} {l : List Nat} {t : TypeId} {cs : Array Value} (h : Own w B v l) (hp : Lies w p t cs) (ht : t ≠ 5) : some p ≠ v.ownBlock := by
  rcases h.1.2 with ⟨rfl, _⟩ | ⟨g, cap, cur, rfl, _, hg, _⟩
  · simp [Value.ownBlock]
  · intro e
    have : p = g := by simpa [Value.ownBlock] using e
    subst this
    unfold Lies at hp
    rw [hg] at hp
    injection hp with hp
    injection hp with _ h2
    exact ht h2.symm
theorem Own.setOther {w : World} {B : Nat} {v : Value} {l : List Nat} (h : Own w B v l) {a : Addr} (ha : some a.block ≠ v.ownBlock) (u : Value) : Own (w.setCell a u) B v l := by
  obtain ⟨⟨h0, h1⟩, h2⟩ := h
  refine ⟨⟨h0, ?_⟩, h2⟩
  rcases h1 with h1 | ⟨g, cap, cur, hv, hb, hg, hr⟩
  · exact .inl h1
  · refine .inr ⟨g, cap, cur, hv, hb, Lies.other hg (fun e => ha (by rw [hv, ← e]; rfl)) u, hr⟩
theorem Lies.grown {w w' : World} {g : Nat} {t : TypeId} {cs : Array Value} {r : Option Nat} (h : Lies w g t cs) (hg : w.grownBy w' r) (hr : some g ≠ r) : Lies w' g t cs := (hg.block g h.lt hr).trans h

theorem Keep.grown {a w w' : World} {B : Nat} {v : Value} {l : List Nat} (h : Keep a w) (hO : Own w B v l) (hg : w.grownBy w' v.ownBlock) : Keep a w' := fun g o h1 h3 => by
  have hh := h g o h1 h3
  refine (hg.block g (heap_lt hh) ?_).trans hh
  rcases hO.1.2 with ⟨rfl, _⟩ | ⟨g', cap, cur, rfl, _, hgg, _⟩
  · simp [Value.ownBlock]
  · intro e
    have : g = g' := by simpa [Value.ownBlock] using e
    subst this
    rw [hgg] at hh
    injection hh with hh
    exact h1.1 _ _ hh.symm
theorem Keep.put {a w : World} {p : Nat} {cs : Array Value} (h : Keep a w) (hp : Lies w p 130 cs) (i : Nat) (v : Value) : Keep a (w.setCell ⟨p, i, none⟩ v) := fun g o h1 h3 => by
  have hh := h g o h1 h3
  refine (heap_setCell_other w ⟨p, i, none⟩ g v (fun e => ?_)).trans hh
  have e : g = p := e
  subst e
  unfold Lies at hp
  rw [hp] at hh
  injection hh with hh
  exact h1.2 _ _ hh.symm

theorem newWriter_any (w : World) : Calls Try.prog 52 #[] w (WrPost w w.heap.size w.heap.size []) := by
  go_enter Try.func52, Try.ntmps52
  go_wp2
  go_ret
  exact ⟨rfl, ⟨Nat.le_refl _, _, Lies.made w 130 _, Own.nil _ _⟩, (Below.refl _ _).alloc (Nat.le_refl _) _, (Keep.refl _).alloc _⟩

def NumR (w : World) (p B n k : Nat) (l : List Nat) (i : Value) (wr : World) : Prop := ∃ j : Nat, j ≤ k ∧ i = .int .i64 j ∧ Wr wr p B (l ++ (Ent.be k n).take j) ∧ Below B w wr ∧ Keep w wr

set_option maxHeartbeats 400000 in
theorem wnumber_any (p B n k : Nat) (l : List Nat) (w : World) (hW : Wr w p B l) (hk : k ≤ 8) (hl : l.length ≤ 200000) :
    Calls Try.prog 80 #[.pointer (some ⟨p, 0, none⟩), .int .u64 n, .int .i64 k] w (WrPost w p B (l ++ Ent.be k n)) := by
  obtain ⟨hBp, v0, hL0, hO0⟩ := hW
  have hc1 := hL0.cell 1
  have HL := Lib.hid hL0
  have HO := Lib.hid hO0
  clear hL0 hO0
  go_enter Try.func80, Try.ntmps80
  go_wp2_with fail
  go_loopw [18] (NumR w p B n k l) (fun i _ => k - (intOf i).toNat)
  case atStart => exact ⟨0, by omega, rfl, ⟨hBp, v0, HL.out, by simpa using HO.out⟩, Below.refl _ _, Keep.refl _⟩
  case round =>
    obtain ⟨j, hj, rfl, ⟨_, v, hL, hO⟩, hbel, hkp⟩ := hrel
    have HKP := Lib.hid hkp
    clear hkp
    by_cases hlt : j < k
    · have hc0 := hL.cell 0
      have hf0 := hL.free 0
      have e1 : IntKind.i64.wrap ((k : Int) - 1) = (k : Int) - 1 := IntWalk.i64_in _ (by omega)
      have e2 : IntKind.i64.wrap ((k : Int) - 1 - (j : Int)) = ((k - 1 - j : Nat) : Int) := by rw [IntWalk.i64_in _ (by omega)]; omega
      generalize hm : k - 1 - j = m at *
      have e3 : IntKind.i64.wrap (8 * (m : Int)) = 8 * (m : Int) := IntWalk.i64_in _ (by omega)
      have hy : n / 2 ^ (8 * m) % 256 < 256 := Nat.mod_lt _ (by decide)
      have e4 : IntKind.u8.wrap ((n : Int) / 2 ^ (8 * (m : Int)).toNat) = ((n / 2 ^ (8 * m) % 256 : Nat) : Int) := by
        rw [show (8 * (m : Int)).toNat = 8 * m from by omega, IntKind.wrap_u8, Int.natCast_emod, Int.natCast_ediv, Int.natCast_pow]; rfl
      have hbe : (Ent.be k n).take (j + 1) = (Ent.be k n).take j ++ [n / 2 ^ (8 * m) % 256] := by
        rw [take_one _ _ (by rw [Ent.be_len]; exact hlt)]
        simp [Ent.be, List.getD, hlt, hm]
      have hll : (l ++ (Ent.be k n).take j).length + 1 ≤ 1000000 := by simp [Ent.be_len]; omega
      generalize n / 2 ^ (8 * m) % 256 = y at *
      have hm8 : (m : Int) ≤ 7 := by omega
      have hc0a := (hL.alloc (.cells #[.int .u8 (y : Nat)] 5)).cell 0
      have HBE := Lib.hid hbe
      have HM := Lib.hid hm
      have HL1 := Lib.hid hL
      have HO1 := Lib.hid hO
      clear hbe hm hL hO HL HO
      generalize hlj : l ++ (Ent.be k n).take j = lj at *
      have HLJ := Lib.hid hlj
      clear hlj
      go_wp2_with fail
      go_region_law ((refine stp_append (some 35) _ _ _ (.tmp 25) (.tmp 34) B _ _ (some ⟨wr.heap.size, 0, none⟩) 1 1 [y] (by rfl) (by rfl) (HO1.out.alloc _).drew (Bys.const wr _ [y] (0, 0) 1 (by rfl) (by rfl) (by simp; omega)).drew (by omega) hll (Nat.le_trans hBp (Nat.le_trans (Nat.le_of_lt HL1.out.lt) (by simp))) ?_; intro g cap w1 hown1 hgrow; have hL1 := Lies.grown (w := (wr.alloc _).drew) (HL1.out.alloc _) hgrow (HO1.out.ne HL1.out (by decide)); have hd0 := hL1.cell 0; have hd1 := hL1.free 0))
      all_goals
        go_wp2
        have hb1 := (HO1.out.alloc _).drew.grows hgrow ((hbel.alloc (Nat.le_trans hBp (Nat.le_of_lt HL1.out.lt)) _).drew) (Nat.le_refl _) (Nat.le_trans hBp (Nat.le_trans (Nat.le_of_lt HL1.out.lt) (by simp)))
        have hk1 := ((HKP.out.alloc (.cells #[.int .u8 (y : Nat)] 5)).drew).grown (HO1.out.alloc _).drew hgrow
        go_roundw
        case rel => exact ⟨j + 1, by omega, by go_num, ⟨hBp, _, hL1.put 0 _, by rw [HBE.out, ← List.append_assoc, HLJ.out]; exact hown1.setOther (a := ⟨p, 0, none⟩) (hown1.ne hL1 (by decide)) _⟩, hb1.setCell hBp _, hk1.put hL1 0 _⟩
        case measure => simp [intOf]; omega
    · have hjk : j = k := by omega
      subst hjk
      rw [List.take_of_length_le (by rw [Ent.be_len]; exact Nat.le_refl _)] at hO
      have HL1 := Lib.hid hL
      have HO1 := Lib.hid hO
      clear hL hO
      go_wp2
      go_ret
      exact ⟨rfl, ⟨hBp, v, HL1.out, HO1.out⟩, hbel, HKP.out⟩


end Go.Proofs.Ytfcfejmammohpaa

namespace Go.Proofs.Ytfcfejmammohpaa
open Go.RowKit
set_option maxRecDepth 100000

theorem Own.mono {w : World} {B B' : Nat} {v : Value} {l : List Nat} (h : Own w B v l) (hb : B' ≤ B) : Own w B' v l := by
  obtain ⟨⟨h0, h1⟩, h2⟩ := h
  refine ⟨⟨h0, ?_⟩, h2⟩
  rcases h1 with h1 | ⟨g, cap, cur, hv, hg, hr⟩
  · exact .inl h1
  · exact .inr ⟨g, cap, cur, hv, Nat.le_trans hb hg, hr⟩
theorem Wr.below {w w' : World} {p B : Nat} {l : List Nat} (h : Wr w p B l) (hb : Below w.heap.size w w') : Wr w' p B l := by
  obtain ⟨h1, v, h2, h3⟩ := h
  exact ⟨h1, v, h2.below hb h2.lt, h3.belowOwn hb⟩

set_option maxHeartbeats 400000 in
theorem wu32_any (p B n : Nat) (l : List Nat) (w : World) (hW : Wr w p B l) (hn : n < 4294967296) (hl : l.length ≤ 200000) :
    Calls Try.prog 53 #[.pointer (some ⟨p, 0, none⟩), .int .u32 n] w (WrPost w p B (l ++ Ent.be 4 n)) := by
  have HW := Lib.hid hW
  clear hW
  have c2 := wnumber_any p B n 4 l w HW.out (by omega) hl
  rw [show ((4 : Nat) : Int) = 4 from rfl] at c2
  have C2 := Lib.hid c2
  clear c2
  go_enter Try.func53, Try.ntmps53
  go_wp2_with fail
  with_reducible refine C2.out.mono ?_
  rintro e w2 ⟨rfl, hW2, hb2⟩
  go_wp2
  go_ret
  exact ⟨rfl, hW2, hb2⟩

def DonePost (w : World) (l : List Nat) (e : Ending) (w' : World) : Prop :=
  ∃ v, e = .returned (.tuple #[v, .int .i64 0]) ∧ Own w' w.heap.size v l ∧ Below w.heap.size w w'

set_option maxHeartbeats 400000 in
theorem wdone_any (p B : Nat) (l : List Nat) (w : World) (hW : Wr w p B l) (hl : l.length ≤ 200000) :
    Calls Try.prog 56 #[.pointer (some ⟨p, 0, none⟩)] w (DonePost w l) := by
  obtain ⟨_, v, hL, hO⟩ := hW
  obtain ⟨A, c, rfl, hB, _, _, _⟩ := hO.slice
  have hc0 := hL.cell 0
  have hc1 := hL.cell 1
  have HB := Lib.hid hB
  clear hL hO hB
  go_enter Try.func56, Try.ntmps56
  go_wp2_with fail
  with_reducible refine (fresh_any _ _ _ _ _ HB.out (by omega)).mono ?_
  rintro e w2 ⟨rfl, hO2, hb2⟩
  have HO2 := Lib.hid hO2
  clear hO2
  go_wp2
  go_ret2
  exact ⟨_, rfl, HO2.out, hb2⟩


end Go.Proofs.Ytfcfejmammohpaa

namespace Go.Proofs.Ytfcfejmammohpaa
open Go.RowKit
set_option maxRecDepth 100000


/-- A slice value that reads as l. -/
def Reads (w : World) (u : Value) (l : List Nat) : Prop := ∃ A c, u = .slice A l.length c ∧ Bys w A l.length l ∧ l.length ≤ c ∧ c ≤ maxLen ∧ (A = none → c = 0)
theorem Own.reads {w : World} {B : Nat} {u : Value} {l : List Nat} (h : Own w B u l) : Reads w u l := h.slice
theorem Reads.below {w w' : World} {u : Value} {l : List Nat} (h : Reads w u l) (hb : Below w.heap.size w w') : Reads w' u l := by
  obtain ⟨A, c, h1, h2, h3⟩ := h
  exact ⟨A, c, h1, h2.below hb, h3⟩
theorem Reads.one {w : World} {u : Value} {l : List Nat} (h : Reads w u l) : u.oneCell' = true := by
  obtain ⟨A, c, rfl, _⟩ := h; rfl

/-- A slice of n cells that are these values. -/
def Cells (w : World) (a : Option Addr) (n : Nat) (vs : List Value) : Prop :=
  vs.length = n ∧ (0 < n → ∃ b off, a = some ⟨b, off, none⟩ ∧ ∀ i, i < n → w.cell? ⟨b, off + i, none⟩ = vs[i]?)
theorem Cells.below {w w' : World} {a : Option Addr} {n : Nat} {vs : List Value} (h : Cells w a n vs) (hb : Below w.heap.size w w') : Cells w' a n vs := by
  obtain ⟨h1, h2⟩ := h
  refine ⟨h1, fun h0 => ?_⟩
  obtain ⟨b, off, e, hc⟩ := h2 h0
  refine ⟨b, off, e, fun i hi => ?_⟩
  have := hc i hi
  rw [List.getElem?_eq_getElem (by omega)] at this ⊢
  rw [hb.cell (block_lt_of_cell this)]
  exact this

/-- The values read as these lists. -/
def AllRead (w : World) (vs : List Value) (ls : List (List Nat)) : Prop := vs.length = ls.length ∧ ∀ i (h1 : i < vs.length) (h2 : i < ls.length), Reads w vs[i] ls[i]
theorem AllRead.below {w w' : World} {vs : List Value} {ls : List (List Nat)} (h : AllRead w vs ls) (hb : Below w.heap.size w w') : AllRead w' vs ls := ⟨h.1, fun i h1 h2 => (h.2 i h1 h2).below hb⟩
theorem AllRead.nil (w : World) : AllRead w [] [] := ⟨rfl, fun i h1 => by simp at h1⟩
theorem AllRead.append {w : World} {vs us : List Value} {ls ms : List (List Nat)} (h : AllRead w vs ls) (k : AllRead w us ms) : AllRead w (vs ++ us) (ls ++ ms) := by
  refine ⟨by rw [List.length_append, List.length_append, h.1, k.1], fun i h1 h2 => ?_⟩
  by_cases hi : i < vs.length
  · rw [List.getElem_append_left hi, List.getElem_append_left (by rw [← h.1]; exact hi)]
    exact h.2 i hi _
  · rw [List.getElem_append_right (by omega), List.getElem_append_right (by rw [← h.1]; omega)]
    have hl := h.1
    have e : i - vs.length = i - ls.length := by omega
    simp only [e]
    exact k.2 _ _ _
theorem AllRead.one {w : World} {u : Value} {l : List Nat} (h : Reads w u l) : AllRead w [u] [l] := ⟨rfl, fun i h1 _ => by
  have : i = 0 := by simpa using h1
  subst this
  exact h⟩
theorem AllRead.cell {w : World} {vs : List Value} {ls : List (List Nat)} (h : AllRead w vs ls) : ∀ u ∈ vs, u.oneCell' = true := by
  intro u hu
  obtain ⟨i, hi, rfl⟩ := List.mem_iff_getElem.1 hu
  exact (h.2 i hi (by rw [← h.1]; exact hi)).one
theorem AllRead.take {w : World} {vs : List Value} {ls : List (List Nat)} (h : AllRead w vs ls) (k : Nat) : AllRead w (vs.take k) (ls.take k) :=
  ⟨by rw [List.length_take, List.length_take, h.1], fun i h1 h2 => by
    rw [List.getElem_take, List.getElem_take]
    exact h.2 i _ _⟩

/-- Each value is a row of bytes of its own. -/
def OwnAll (w : World) (B : Nat) (vs : List Value) (ls : List (List Nat)) : Prop :=
  vs.length = ls.length ∧ (∀ i (h1 : i < vs.length) (h2 : i < ls.length), Own w B vs[i] ls[i]) ∧
  ∀ i j (h1 : i < vs.length) (h2 : j < vs.length), i < j → ∀ g, vs[i].ownBlock = some g → vs[j].ownBlock ≠ some g
theorem OwnAll.nil (w : World) (B : Nat) : OwnAll w B [] [] := ⟨rfl, fun i h1 => by simp at h1, fun i j h1 => by simp at h1⟩
theorem OwnAll.reads {w : World} {B : Nat} {vs : List Value} {ls : List (List Nat)} (h : OwnAll w B vs ls) : AllRead w vs ls := ⟨h.1, fun i h1 h2 => (h.2.1 i h1 h2).reads⟩
theorem OwnAll.map {w w' : World} {B : Nat} {vs : List Value} {ls : List (List Nat)} (h : OwnAll w B vs ls) (f : ∀ u l, Own w B u l → Own w' B u l) : OwnAll w' B vs ls := ⟨h.1, fun i h1 h2 => f _ _ (h.2.1 i h1 h2), h.2.2⟩
theorem OwnAll.snoc {w : World} {B : Nat} {vs : List Value} {ls : List (List Nat)} {u : Value} {l : List Nat} (h : OwnAll w B vs ls) (hu : Own w B u l) (hne : ∀ v ∈ vs, ∀ g, v.ownBlock = some g → u.ownBlock ≠ some g) : OwnAll w B (vs ++ [u]) (ls ++ [l]) := by
  have hl := h.1
  refine ⟨by simp [hl], fun i h1 h2 => ?_, fun i j h1 h2 hij g hg => ?_⟩
  · by_cases hi : i < vs.length
    · rw [List.getElem_append_left hi, List.getElem_append_left (by omega)]
      exact h.2.1 i hi _
    · have : i = vs.length := by simp at h1; omega
      subst this
      simp [hl]
      exact hu
  · have hi : i < vs.length := by simp at h2; omega
    rw [List.getElem_append_left hi] at hg
    by_cases hj : j < vs.length
    · rw [List.getElem_append_left hj]
      exact h.2.2 i j hi hj hij g hg
    · have : j = vs.length := by simp at h2; omega
      subst this
      simp
      exact hne _ (List.getElem_mem hi) g hg
theorem Own.lt {w : World} {B : Nat} {u : Value} {l : List Nat} (h : Own w B u l) : ∀ g, u.ownBlock = some g → g < w.heap.size := by
  intro g hg
  rcases h.1.2 with ⟨rfl, _⟩ | ⟨g', cap, cur, rfl, _, hh, _⟩
  · cases hg
  · have : g' = g := by simpa [Value.ownBlock] using hg
    subst this
    exact Lies.lt hh
/-- A row that was made later than all of these. -/
theorem OwnAll.fresh {w0 w : World} {B : Nat} {vs : List Value} {ls : List (List Nat)} {u : Value} {l : List Nat} (h : OwnAll w0 B vs ls) (hu : Own w w0.heap.size u l) : ∀ v ∈ vs, ∀ g, v.ownBlock = some g → u.ownBlock ≠ some g := by
  intro v hv g hg hug
  obtain ⟨i, hi, rfl⟩ := List.mem_iff_getElem.1 hv
  have h1 := (h.2.1 i hi (by rw [← h.1]; exact hi)).lt g hg
  have h2 := hu.block g hug
  omega

end Go.Proofs.Ytfcfejmammohpaa

namespace Go.Proofs.Ytfcfejmammohpaa
open Go.RowKit


theorem str_toList (a : List Nat) : (str a).toList = a.map UInt8.ofNat := by
  rw [ByteArray.toList_eq]
  simp [str, strOfNums]

theorem str_inj (a b : List Nat) (ha : ∀ c ∈ a, c < 256) (hb : ∀ c ∈ b, c < 256) (h : (str a).toList = (str b).toList) : a = b := by
  rw [str_toList, str_toList] at h
  have e : ∀ (l : List Nat), (∀ c ∈ l, c < 256) → (l.map UInt8.ofNat).map UInt8.toNat = l := by
    intro l hl
    rw [List.map_map]
    conv => rhs; rw [← List.map_id l]
    apply List.map_congr_left
    intro c hc
    simp
    exact hl c hc
  rw [← e a ha, ← e b hb, h]

/-- The same bytes? -/
def sameB (a b : List Nat) : Bool := decide (a = b)
theorem sameB_self (a : List Nat) : sameB a a = true := by simp [sameB]
theorem sameB_ne {a b : List Nat} (h : a ≠ b) : sameB a b = false := by simp [sameB, h]
theorem str_eq (a b : List Nat) (ha : ∀ c ∈ a, c < 256) (hb : ∀ c ∈ b, c < 256) : ((str a).toList == (str b).toList) = sameB a b := by
  by_cases h : a = b
  · subst h; rw [sameB_self]; simp
  · rw [sameB_ne h, beq_eq_false_iff_ne]
    exact fun hh => h (str_inj a b ha hb hh)

set_option maxHeartbeats 400000 in
theorem same_any (a b : Option Addr) (n m c d : Nat) (la lb : List Nat) (w : World) (hA : Bys w a n la) (hB : Bys w b m lb) :
    Calls Try.prog 36 #[.slice a n c, .slice b m d] w fun e w' => e = .returned (.bool (sameB la lb)) ∧ w = w' := by
  have r1 := run_str hA c
  have r2 := run_str hB d
  have r3 := str_eq la lb hA.2.1 hB.2.1
  clear hA hB
  go_enter Try.func36, Try.ntmps36
  go_wp2
  go_ret
  exact ⟨rfl, rfl⟩


end Go.Proofs.Ytfcfejmammohpaa

namespace Go.Proofs.Ytfcfejmammohpaa
open Go.RowKit


/-- A slice of integers that came in: nil, or a row of 'cap' cells. -/
def IsRow (k : IntKind) (w : World) (a : Option Addr) (len cap : Nat) (zs : List Int) : Prop :=
  (a = none ∧ len = 0 ∧ cap = 0 ∧ zs = []) ∨
  ∃ x, a = some x ∧ len ≤ cap ∧ cap ≤ maxLen ∧ zs.length = cap ∧ (∀ i, i < zs.length → w.cell? (x.add i) = some (.int k (zs.getD i 0))) ∧ ∀ n ∈ zs, (Lit.int k n).wf = true

theorem IsRow.bys {w : World} {a : Option Addr} {len cap : Nat} {zs : List Int} (h : IsRow .u8 w a len cap zs) :
    ∃ l, Bys w a len l ∧ len ≤ cap ∧ cap ≤ maxLen ∧ (a = none → cap = 0) := by
  rcases h with ⟨rfl, rfl, rfl, rfl⟩ | ⟨x, rfl, hl, hm, hz, hcell, hwz⟩
  · exact ⟨[], Bys.none_ w, Nat.le_refl _, by unfold maxLen; omega, fun _ => rfl⟩
  · refine ⟨(zs.take len).map Int.toNat, ⟨by simp; omega, ?_, fun h0 => ?_⟩, hl, hm, fun h => by cases h⟩
    · intro c hc
      obtain ⟨z, hz1, rfl⟩ := List.mem_map.1 hc
      have := bounds_u8 (hwz z (List.mem_of_mem_take hz1))
      omega
    · obtain ⟨b, off, spot⟩ := x
      have hc0 := hcell 0 (by omega)
      have hspot : spot = none := by simpa [Addr.add] using World.cell?_spot hc0
      subst hspot
      refine ⟨b, off, rfl, fun i hi => ?_⟩
      have h1 := hcell i (by omega)
      rw [add_off] at h1
      rw [h1]
      have hlt : i < zs.length := by omega
      have hb := bounds_u8 (hwz zs[i] (List.getElem_mem hlt))
      have e : (((zs.take len).map Int.toNat).getD i 0 : Nat) = zs[i].toNat := by simp [List.getD, hi, hlt]
      have e2 : zs.getD i 0 = zs[i] := by simp [List.getD, hlt]
      rw [e, e2, Int.toNat_of_nonneg hb.1]


end Go.Proofs.Ytfcfejmammohpaa

namespace Go.Proofs.Ytfcfejmammohpaa
open Go.RowKit
set_option maxRecDepth 100000


theorem grown_set {a w : World} {g : Nat} (h : a.grownBy w (some g)) (o : Nat) (u : Value) : a.grownBy (w.setCell ⟨g, o, none⟩ u) (some g) :=
  ⟨h.os, h.tape, h.output, by simpa [World.setCell] using h.size, fun i hi hne => (Below.heap_setCell w ⟨g, o, none⟩ u i (by rintro rfl; exact hne rfl)).trans (h.block i hi hne)⟩

/-- What is lent: the bytes, and two of room behind them, in a block of its own. -/
def LentOwn (w : World) (n : Nat) (l : List Nat) (e : Ending) (w' : World) : Prop :=
  ∃ g c, e = .returned (.slice (some ⟨g, 0, none⟩) n c) ∧ n + 2 ≤ c ∧ c ≤ maxLen ∧ w.heap.size ≤ g ∧ Own w' w.heap.size (.slice (some ⟨g, 0, none⟩) (n + 2) c) (l ++ [91, 92]) ∧ Below w.heap.size w w'

set_option maxHeartbeats 400000 in
theorem lent_own (a : Option Addr) (n cap : Nat) (l : List Nat) (w : World) (hB : Bys w a n l) (hA : a = none → cap = 0) (hn : n ≤ 100000) :
    Calls Try.prog 25 #[.slice a n cap] w (LentOwn w n l) := by
  have HB := Lib.hid hB
  have HA := Lib.hid hA
  clear hB hA
  go_enter Try.func25, Try.ntmps25
  go_wp2_with fail
  with_reducible refine (copy_any _ _ _ _ _ HB.out HA.out (by omega)).mono ?_
  rintro e w2 ⟨v, rfl, hO, hb2⟩
  have HO := Lib.hid hO
  clear hO
  have hlen : (l ++ [91, 92]).length = n + 2 := by rw [List.length_append, HB.out.1]; rfl
  have HLEN := Lib.hid hlen
  clear hlen
  go_wp2_with (first
    | ((with_reducible refine wpl_append (some 8) _ _ _ (.tmp 6) (.tmp 7) w.heap.size v l (some ⟨w2.heap.size, 0, none⟩) 2 2 [91, 92] ?hs ?hx (HO.out.alloc _) (bys_marks _ _) ?ha ?hm ?hz ?_); (case hs => rfl); (case hx => rfl); (case ha => (intro h; cases h)); (case hm => (rw [HB.out.1]; omega)); (case hz => exact Nat.le_trans hb2.size (by simp)); (intro v' w' ho hg hv); (obtain ⟨g, c, hv', hBx, hc1, hc2⟩ := ho.some_ (by rw [HLEN.out]; omega)); (rw [HLEN.out] at hv' hc1); (subst hv'); (have HOX := Lib.hid ho); (clear hBx ho hv)))
  go_ret
  exact ⟨g, c, rfl, hc1, hc2, HOX.out.block g rfl, HOX.out, (HO.out.alloc _).grows hg (hb2.alloc hb2.size _) (Nat.le_refl _) (Nat.le_trans hb2.size (by simp))⟩

def SpR (w : World) (g n : Nat) (i : Value) (wr : World) : Prop :=
  ∃ (k : Nat) (cur : Array Value), k ≤ n ∧ i = .int .i64 k ∧ Lies wr g 5 cur ∧ (∀ j, j < n → ∃ z : Int, cur[j]? = some (.int .u8 z)) ∧ w.grownBy wr (some g)

set_option maxHeartbeats 400000 in
theorem spoil_any (g n c : Nat) (l : List Nat) (B : Nat) (m : Nat) (w : World) (hO : Own w B (.slice (some ⟨g, 0, none⟩) m c) l) (hn : n ≤ m) (hm : m ≤ 100000) :
    Calls Try.prog 24 #[.slice (some ⟨g, 0, none⟩) n c] w fun e w' => e = .returned (.tuple #[]) ∧ w.grownBy w' (some g) := by
  rcases hO.form with ⟨h, _⟩ | ⟨g', cap, cur, hv, hgB, hL, h1, h2, h3, hcur⟩
  · cases h
  injection hv with e1 e2 e3
  injection e1 with e1
  injection e1 with e1 _ _
  subst e1 e3
  have hst : ∀ j, j < n → ∃ z : Int, cur[j]? = some (.int .u8 z) := fun j hj => ⟨_, hcur j (by omega)⟩
  have HL := Lib.hid hL
  have HST := Lib.hid hst
  clear hL hcur hst h3 hO
  go_enter Try.func24, Try.ntmps24
  go_wp2_with fail
  go_loopw [2] (SpR w g n) (fun i _ => n - (intOf i).toNat)
  case atStart => exact ⟨0, cur, by omega, rfl, HL.out, HST.out, World.grownBy.refl w _⟩
  case round =>
    clear HST HL
    obtain ⟨k, cu, hk, rfl, hL, hst, hgr⟩ := hrel
    by_cases hlt : k < n
    · obtain ⟨z, hz⟩ := hst k hlt
      have hck := (hL.cell k).trans hz
      have hfk := hL.free k
      have HST := Lib.hid hst
      have HL := Lib.hid hL
      clear hst hL hz
      go_wp2
      refine ⟨⟨k + 1, _, by omega, by go_num, HL.out.put k _, fun j hj => ?_, grown_set hgr k _⟩, by simp [intOf]; omega⟩
      rw [Array.getElem?_setIfInBounds]
      obtain ⟨z', hz'⟩ := HST.out j hj
      by_cases hjk : k = j
      · subst hjk
        have hlt2 : k < cu.size := (Array.getElem?_eq_some_iff.1 hz').1
        rw [if_pos rfl, if_pos hlt2]
        exact ⟨_, rfl⟩
      · rw [if_neg hjk]; exact ⟨z', hz'⟩
    · have hkn : k = n := by omega
      subst hkn
      go_wp2
      go_end0
      exact ⟨rfl, hgr⟩


end Go.Proofs.Ytfcfejmammohpaa
