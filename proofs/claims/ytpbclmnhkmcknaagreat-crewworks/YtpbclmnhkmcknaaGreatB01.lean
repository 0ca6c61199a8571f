/-
  Texts of one proof, in their order: FeLend, FeNBox, FeWrite, FeRdr.
-/
import Derived.Test.YtpbclmnhkmcknaaGreatRows
import Derived.WalkKit
import Derived.WalkSpells
import Derived.WalkLawsBesides
import Derived.Laws.BitsAllLaws
import Derived.Lib.Hide
import Derived.Deep.MidRow
import Derived.Outline
import Derived.Deep.QuietTactic
import Derived.BigQuiet
import Derived.Lib.SlBytesConst
import Derived.Maps.AppendAt
import Derived.Laws.AppendOwnNone
import Derived.Laws.OwnMore
import Derived.StillTailTactics
import Derived.Deep.RegionHeld3
import Derived.Deep.AppendLies
import Derived.Laws.MakeOwn
import Derived.Laws.BytesArg
import Derived.Laws.CopyOwn
import Derived.Deep.RegionLaw
import Derived.Deep.DrawnRows
import Derived.IntWalk
import Derived.ProofKit
import Derived.OpenShut
import Derived.Lib.OthersKept
import Derived.Lib.Bytealg
import Derived.Test.YtpbclmnhkmcknaaGreatB00
namespace Go.Proofs.YtpbclmnhkmcknaaGreat.Fe
open Go.RowKit

theorem ret_int {k : IntKind} {a b : Int} (h : a = b) : Ending.returned (.int k a) = .returned (.int k b) := by rw [h]
theorem val_int {k : IntKind} {a b : Int} (h : a = b) : Value.int k a = Value.int k b := by rw [h]



/-- Block g is just these cells. -/
def Lies (w : World) (g : Nat) (t : TypeId) (cs : Array Value) : Prop := w.heap[g]? = some (.cells cs t (0, 0))

theorem Lies.lt {w : World} {g : Nat} {t : TypeId} {cs : Array Value} (h : Lies w g t cs) : g < w.heap.size := by
  refine Classical.byContradiction fun hn => ?_
  unfold Lies at h
  rw [Array.getElem?_eq_none (by omega)] at h
  cases h
theorem Lies.cell {w : World} {g : Nat} {t : TypeId} {cs : Array Value} (h : Lies w g t cs) (i : Nat) : w.cell? ⟨g, i, none⟩ = cs[i]? := cell_of_row w g i cs t (0, 0) h
theorem Lies.free {w : World} {g : Nat} {t : TypeId} {cs : Array Value} (h : Lies w g t cs) (i : Nat) : w.frozen? ⟨g, i, none⟩ = false := frozen_of_row w g i cs t h
theorem Lies.made (w : World) (t : TypeId) (cs : Array Value) : Lies (w.alloc (.cells cs t)) w.heap.size t cs := heap_alloc_new w _
theorem Lies.alloc {w : World} {g : Nat} {t : TypeId} {cs : Array Value} (h : Lies w g t cs) (o : Obj) : Lies (w.alloc o) g t cs := (Below.heap_alloc w o g h.lt).trans h
theorem Lies.put {w : World} {g : Nat} {t : TypeId} {cs : Array Value} (h : Lies w g t cs) (i : Nat) (v : Value) : Lies (w.setCell ⟨g, i, none⟩ v) g t (cs.setIfInBounds i v) := heap_setCell_same w g i cs t v h
theorem Lies.other {w : World} {g : Nat} {t : TypeId} {cs : Array Value} (h : Lies w g t cs) {a : Addr} (ha : g ≠ a.block) (v : Value) : Lies (w.setCell a v) g t cs := (heap_setCell_other w a g v ha).trans h
theorem Lies.below {w w' : World} {g B : Nat} {t : TypeId} {cs : Array Value} (h : Lies w g t cs) (hb : Below B w w') (hg : g < B) : Lies w' g t cs := (hb.block g hg).trans h

theorem Lies.there {w : World} {g : Nat} {t : TypeId} {cs : Array Value} (h : Lies w g t cs) (n : Nat) (hn : n ≤ cs.size) : w.there g 0 n := fun j hj => by
  rw [Nat.zero_add]
  exact ⟨by rw [h.cell, Array.getElem?_eq_getElem (by omega)]; rfl, h.free j⟩
theorem Lies.puts' {g : Nat} {t : TypeId} : ∀ (vs : List Value) (o : Nat) (w : World) (cs : Array Value), Lies w g t cs → o + vs.length ≤ cs.size →
    ∃ ds, Lies (w.setCells g o vs) g t ds ∧ ds.size = cs.size ∧ ∀ j, ds[j]? = if o ≤ j ∧ j < o + vs.length then vs[j - o]? else cs[j]?
  | [], o, w, cs, h, _ => ⟨cs, h, rfl, fun j => by rw [if_neg (by simp)]⟩
  | v :: r, o, w, cs, h, hn => by
    obtain ⟨ds, h1, h2, h3⟩ := Lies.puts' r (o + 1) _ _ (h.put o v) (by simp at hn ⊢; omega)
    refine ⟨ds, h1, by simpa using h2, fun j => ?_⟩
    rw [h3 j]
    simp only [List.length_cons] at hn ⊢
    rw [Array.getElem?_setIfInBounds]
    by_cases a : o + 1 ≤ j ∧ j < o + 1 + r.length
    · rw [if_pos a, if_pos (by omega)]
      obtain ⟨i, hi⟩ : ∃ i, j - o = i + 1 := ⟨j - o - 1, by omega⟩
      rw [hi, List.getElem?_cons_succ]
      congr 1; omega
    · rw [if_neg a]
      by_cases b : o = j
      · subst b
        rw [if_pos rfl, if_pos (by omega), if_pos (by omega), Nat.sub_self, List.getElem?_cons_zero]
      · rw [if_neg b, if_neg (by omega)]
theorem Lies.puts {w : World} {g : Nat} {t : TypeId} {cs : Array Value} (h : Lies w g t cs) (T : Array Value) (hT : T.size = cs.size) : Lies (w.setCells g 0 T.toList) g t T := by
  obtain ⟨ds, h1, h2, h3⟩ := Lies.puts' T.toList 0 w cs h (by simp; omega)
  have : ds = T := by
    apply Array.ext_getElem?
    intro j
    rw [h3 j]
    by_cases hj : j < T.size
    · rw [if_pos (by simp; omega)]; simp
    · rw [if_neg (by simp; omega), Array.getElem?_eq_none (by omega), Array.getElem?_eq_none (by omega)]
  rw [this] at h1; exact h1
theorem below_puts {B b : Nat} {a w : World} (h : Below B a w) (hb : B ≤ b) (vs : List Value) (o : Nat) : Below B a (w.setCells b o vs) := by
  induction vs generalizing w o with
  | nil => exact h
  | cons v r ih => exact ih (h.setCell (p := ⟨b, o, none⟩) hb v) (o + 1)
theorem size_one (w : World) (o : Obj) : (w.alloc o).heap.size = w.heap.size + 1 := by simp
theorem Lies.made2 (w : World) (o : Obj) (t : TypeId) (cs : Array Value) : Lies ((w.alloc o).alloc (.cells cs t)) (w.heap.size + 1) t cs := by
  have := Lies.made (w.alloc o) t cs
  rwa [size_one] at this
theorem Lies.made3 (w : World) (o o2 : Obj) (t : TypeId) (cs : Array Value) : Lies (((w.alloc o).alloc o2).alloc (.cells cs t)) (w.heap.size + 1 + 1) t cs := by
  have := Lies.made2 (w.alloc o) o2 t cs
  rwa [size_one] at this


/-- A slice of n bytes that reads as l. -/
def Bys (w : World) (a : Option Addr) (n : Nat) (l : List Nat) : Prop :=
  l.length = n ∧ (∀ c ∈ l, c < 256) ∧ (0 < n → ∃ b off, a = some ⟨b, off, none⟩ ∧ ∀ i, i < n → w.cell? ⟨b, off + i, none⟩ = some (.int .u8 (l.getD i 0 : Nat)))

theorem take_one (l : List Nat) (k : Nat) (h : k < l.length) : l.take (k + 1) = l.take k ++ [l.getD k 0] := by
  rw [List.take_succ_eq_append_getElem h]
  simp [List.getD, h]

theorem getD_lt (l : List Nat) (hl : ∀ c ∈ l, c < 256) (k : Nat) : l.getD k 0 < 256 := by
  rw [List.getD_eq_getElem?_getD]
  by_cases h : k < l.length
  · rw [List.getElem?_eq_getElem h]; exact hl _ (List.getElem_mem h)
  · rw [List.getElem?_eq_none (by omega)]; decide


theorem ret_bool {a b : Bool} (h : a = b) : Ending.returned (.bool a) = .returned (.bool b) := by rw [h]
theorem below1 (w : World) (o : Obj) : Below w.heap.size w (w.alloc o) := (Below.refl _ _).alloc (Nat.le_refl _) _
theorem below2 (w : World) (o p : Obj) : Below w.heap.size w ((w.alloc o).alloc p) := ((Below.refl _ _).alloc (Nat.le_refl _) _).alloc (by simp) _
theorem wrap_u8 (q : Nat) (h : q < 256) : IntKind.u8.wrap (q : Int) = (q : Int) := by rw [IntKind.wrap_u8]; omega

end Go.Proofs.YtpbclmnhkmcknaaGreat.Fe

namespace Go.Proofs.YtpbclmnhkmcknaaGreat.Fe
open Go.RowKit
set_option maxRecDepth 100000


theorem Bys.drewN {w : World} {a : Option Addr} {n : Nat} {l : List Nat} (h : Bys w a n l) (k : Nat) : Bys (w.drewN k) a n l := h
theorem Bys.front {w : World} {a : Option Addr} {n : Nat} {l : List Nat} (h : Bys w a n l) (m : Nat) (hm : m ≤ n) : Bys w a m (l.take m) := by
  obtain ⟨h1, h2, h3⟩ := h
  refine ⟨by rw [List.length_take]; omega, fun c hc => h2 c (List.mem_of_mem_take hc), fun h0 => ?_⟩
  obtain ⟨b, off, e, hc⟩ := h3 (by omega)
  refine ⟨b, off, e, fun i hi => ?_⟩
  rw [hc i (by omega)]
  simp [List.getD, hi]

theorem below_drewN {B : Nat} {a w : World} (h : Below B a w) (n : Nat) : Below B a (w.drewN n) := ⟨h.os, h.tape, h.output, h.size, h.block⟩
/-- A new row of these bytes. -/
theorem Bys.const (w : World) (C : Array Value) (l : List Nat) (fr : Nat × Nat) (n : Nat) (hC : C = (l.map (fun (c : Nat) => Value.int .u8 (c : Int))).toArray) (hn : l.length = n) (hl : ∀ c ∈ l, c < 256) : Bys (w.alloc (.cells C 5 fr)) (some ⟨w.heap.size, 0, none⟩) n l := by
  subst hC
  refine ⟨hn, hl, fun _ => ⟨_, _, rfl, fun i hi => ?_⟩⟩
  rw [Nat.zero_add, cell_of_row _ _ _ _ 5 fr (heap_alloc_new w _)]
  have : i < l.length := by omega
  simp [List.getD, this]

theorem Bys.none_ (w : World) : Bys w none 0 [] := ⟨rfl, (fun c hc => absurd hc (by simp)), (fun h => absurd h (by omega))⟩
theorem small_len (n : Nat) (h : n ≤ 1000000) : n ≤ maxLen := by unfold maxLen; omega
abbrev vals (l : List Nat) : List Value := l.map (fun (c : Nat) => Value.int .u8 (c : Int))

/-- A row of bytes that lies in a block of its own, not below B. -/
def Own (w : World) (B : Nat) (v : Value) (l : List Nat) : Prop := w.ownsRow B 5 1 v l.length (vals l) ∧ ∀ c ∈ l, c < 256

theorem Own.nil (w : World) (B : Nat) : Own w B (.slice none 0 0) [] := ⟨⟨rfl, .inl ⟨rfl, rfl⟩⟩, by simp⟩

theorem Own.form {w : World} {B : Nat} {v : Value} {l : List Nat} (h : Own w B v l) :
    (v = .slice none 0 0 ∧ l = []) ∨ ∃ g cap cur, v = .slice (some ⟨g, 0, none⟩) l.length cap ∧ B ≤ g ∧ Lies w g 5 cur ∧ l.length ≤ cap ∧ cap ≤ maxLen ∧ cur.size = cap ∧ ∀ i, i < l.length → cur[i]? = some (.int .u8 (l.getD i 0 : Nat)) := by
  obtain ⟨⟨_, h1 | ⟨g, cap, cur, hv, hb, hg, hn, hm, hs, ht⟩⟩, _⟩ := h
  · exact .inl ⟨h1.1, List.eq_nil_of_length_eq_zero h1.2⟩
  · refine .inr ⟨g, cap, cur, hv, hb, hg, hn, hm, by simpa using hs, fun i hi => ?_⟩
    have e : (cur.toList.take (l.length * 1))[i]? = (vals l)[i]? := by rw [ht]
    rw [List.getElem?_take, if_pos (by omega)] at e
    rw [Array.getElem?_toList] at e
    rw [e]
    simp [vals, List.getD, hi]

theorem Own.bys {w : World} {B : Nat} {A : Option Addr} {n c : Nat} {l : List Nat} (h : Own w B (.slice A n c) l) : Bys w A n l ∧ n ≤ c ∧ c ≤ maxLen ∧ (A = none → n = 0 ∧ c = 0) := by
  rcases h.form with ⟨hv, hl⟩ | ⟨g, cap, cur, hv, hb, hg, hn, hm, hs, hc⟩
  · injection hv with h1 h2 h3
    subst h1 h2 h3 hl
    exact ⟨Bys.none_ w, Nat.le_refl _, by unfold maxLen; omega, fun _ => ⟨rfl, rfl⟩⟩
  · injection hv with h1 h2 h3
    subst h1 h2 h3
    refine ⟨⟨rfl, h.2, fun _ => ⟨g, 0, rfl, fun i hi => ?_⟩⟩, hn, hm, fun h => by cases h⟩
    rw [Nat.zero_add, hg.cell, hc i hi]

theorem add_off (b off i : Nat) : (⟨b, off, none⟩ : Addr).add i = ⟨b, off + i, none⟩ := Addr.add_mid b off i

theorem Bys.cells {w : World} {A : Option Addr} {m : Nat} {l : List Nat} (h : Bys w A m l) (ad : Addr) (hA : A = some ad) : ∀ j u, (vals l)[j]? = some u → w.cell? (ad.add j) = some u := by
  intro j u hu
  have hj : j < l.length := by
    have := (List.getElem?_eq_some_iff.1 hu).1
    simpa [vals] using this
  obtain ⟨b, off, e, hc⟩ := h.2.2 (by rw [← h.1]; omega)
  rw [hA] at e
  injection e with e
  subst e
  rw [add_off, hc j (by rw [← h.1]; exact hj), ← hu]
  simp [vals, List.getD, hj]

/-- 'append' of bytes onto a row of the call's own. -/
theorem wpl_append {ops : Array Oper} {rest : List Oper} {a : Act} {w : World} {Q : Exit → Act → World → Prop} (dst : Option Tmp) (ty : TypeId) (pos : String) (aft : Array Edge) (s x : Operand)
    (B : Nat) (v : Value) (l : List Nat) (A : Option Addr) (m c : Nat) (news : List Nat)
    (hs : a.eval s = v) (hx : a.eval x = .slice A m c) (hown : Own w B v l) (hsrc : Bys w A m news) (hA : A = none → c = 0) (hsm : l.length + m ≤ 1000000) (hB : B ≤ w.heap.size)
    (h : ∀ v' w', Own w' B v' (l ++ news) → w.grownBy w' v.ownBlock → (v'.ownBlock = v.ownBlock ∨ v'.ownBlock = some w.heap.size) → wpList Tryz.prog ops Q rest (a.put dst v') w') :
    wpList Tryz.prog ops Q (⟨dst, .call { callee := .builtin .append, args := #[s, x], argTypes := #[22, 22] }, ty, pos, aft, none⟩ :: rest) a w := by
  rcases A with _ | ad
  · have hm : m = 0 := by
      refine Classical.byContradiction fun h0 => ?_
      obtain ⟨b, off, e, _⟩ := hsrc.2.2 (by omega)
      cases e
    have hn : news = [] := List.eq_nil_of_length_eq_zero (by rw [hsrc.1]; exact hm)
    have hc0 := hA rfl
    subst hm hn hc0
    refine wpList_append_own_none (o := ⟨dst, .call { callee := .builtin .append, args := #[s, x], argTypes := #[22, 22] }, ty, pos, aft, none⟩) rfl s x 22 rfl B 5 _ 1 Tryz.underlying22 Tryz.type5 v l.length (vals l) hs hown.1 hx ?_
    exact h v w (by rw [List.append_nil]; exact hown) (World.grownBy.refl w _) (.inl rfl)
  · refine wpList_append_own_at (w := w) (o := ⟨dst, .call { callee := .builtin .append, args := #[s, x], argTypes := #[22, 22] }, ty, pos, aft, none⟩) rfl s x 22 rfl B 5 _ (.int .u8 0) 1 1 Tryz.underlying22 Tryz.type5 rfl rfl rfl rfl (by decide) v l.length (vals l) hs hown.1
      ad m c (vals news) hx (by simp [vals, hsrc.1]) (hsrc.cells ad rfl) (fun u hu => by simp only [vals, List.mem_map] at hu; obtain ⟨_, _, rfl⟩ := hu; rfl) (by unfold maxLen; omega) (by omega) hB ?_
    intro v' w' h1 h2 _ h4
    refine h v' w' ⟨?_, ?_⟩ h2 h4
    · rw [List.length_append, hsrc.1]
      show w'.ownsRow B 5 1 v' (l.length + m) (vals (l ++ news))
      rw [show vals (l ++ news) = vals l ++ vals news from by simp [vals]]
      exact h1
    · intro c hc
      rcases List.mem_append.1 hc with h' | h'
      · exact hown.2 c h'
      · exact hsrc.2.1 c h'

set_option maxHeartbeats 400000 in
theorem copy_any (a : Option Addr) (n cap : Nat) (l : List Nat) (w : World) (hB : Bys w a n l) (hA : a = none → cap = 0) (hn : n ≤ 1000000) :
    Calls Tryz.prog 41 #[.slice a n cap] w fun e w' => ∃ v, e = .returned v ∧ Own w' w.heap.size v l ∧ Below w.heap.size w w' := by
  have HB := Lib.hid hB
  have HA := Lib.hid hA
  clear hB hA
  go_enter Tryz.func41, Tryz.ntmps41
  go_wp2_with (first
    | ((with_reducible refine wpl_append (some 6) _ _ _ (.tmp 4) (.tmp 5) w.heap.size _ [] a n cap l ?hs ?hx (Own.nil _ _) HB.out HA.out ?hm (Nat.le_refl _) ?_); (case hs => rfl); (case hx => rfl); (case hm => simpa using hn); (intro v' w' ho hg hv)))
  go_ret
  exact ⟨_, rfl, ho, (Below.refl _ _).grown hg (Nat.le_refl _) (fun k hk => by cases hk)⟩

theorem Bys.below {w w' : World} {a : Option Addr} {n : Nat} {l : List Nat} (h : Bys w a n l) (hb : Below w.heap.size w w') : Bys w' a n l := by
  obtain ⟨h1, h2, h3⟩ := h
  refine ⟨h1, h2, fun h0 => ?_⟩
  obtain ⟨b, off, e, hc⟩ := h3 h0
  refine ⟨b, off, e, fun i hi => ?_⟩
  have := hc i hi
  rw [hb.cell (block_lt_of_cell this)]
  exact this

theorem Own.alloc {w : World} {B : Nat} {v : Value} {l : List Nat} (h : Own w B v l) (o : Obj) : Own (w.alloc o) B v l := by
  obtain ⟨⟨h0, h1⟩, h2⟩ := h
  refine ⟨⟨h0, ?_⟩, h2⟩
  rcases h1 with h1 | ⟨g, cap, cur, hv, hb, hg, hr⟩
  · exact .inl h1
  · exact .inr ⟨g, cap, cur, hv, hb, Lies.alloc hg o, hr⟩

theorem Own.block {w : World} {B : Nat} {v : Value} {l : List Nat} (h : Own w B v l) : ∀ k, v.ownBlock = some k → B ≤ k := by
  intro k hk
  obtain ⟨⟨_, h1⟩, _⟩ := h
  rcases h1 with ⟨rfl, _⟩ | ⟨g, cap, cur, rfl, hb, _⟩
  · cases hk
  · simp [Value.ownBlock] at hk; omega

/-- An append onto a row of its own changes nothing below it. -/
theorem Own.grows {w w' a : World} {B B0 : Nat} {v : Value} {l : List Nat} (h : Own w B v l) (hg : w.grownBy w' v.ownBlock) (hb : Below B0 a w) (h1 : B0 ≤ B) (h2 : B0 ≤ w.heap.size) : Below B0 a w' :=
  hb.grown hg h2 (fun k hk => Nat.le_trans h1 (h.block k hk))

/-- The row that is not empty. -/
theorem Own.some_ {w : World} {B : Nat} {v : Value} {l : List Nat} (h : Own w B v l) (h0 : 0 < l.length) : ∃ g cap, v = .slice (some ⟨g, 0, none⟩) l.length cap ∧ Bys w (some ⟨g, 0, none⟩) l.length l ∧ l.length ≤ cap ∧ cap ≤ maxLen := by
  rcases h.form with ⟨_, hl⟩ | ⟨g, cap, cur, hv, _⟩
  · rw [hl] at h0; simp at h0
  · have h2 := h
    rw [hv] at h2
    have := h2.bys
    exact ⟨g, cap, hv, this.1, this.2.1, this.2.2.1⟩



theorem Own.drew {w : World} {B : Nat} {v : Value} {l : List Nat} (h : Own w B v l) : Own w.drew B v l := h
theorem Bys.drew {w : World} {a : Option Addr} {n : Nat} {l : List Nat} (h : Bys w a n l) : Bys w.drew a n l := h

/-- The cells of n new bytes. -/
def zrow (n : Nat) : Array Value := madeCells #[.int .u8 0] n
set_option maxRecDepth 100000 in
theorem run_zrow (n : Nat) (hn : n ≤ 1000000) (w : World) : (Instr.makeSlice 22 (.int .i64 (n : Int)) (.int .i64 (n : Int))).run Tryz.prog w = .ok (.slice (some ⟨w.heap.size, 0, none⟩) n n) (w.alloc (.cells (zrow n) 5)) := by
  have := run_make (P := Tryz.prog) w 22 5 _ (.int .u8 0) Tryz.underlying22 Tryz.type5 rfl .i64 .i64 (n : Int) (n : Int) (by omega) (by omega) (by show (1 : Int) * (n : Int) ≤ _; omega) (by omega)
  rw [this]
  show Result.ok (Value.slice _ (n : Int).toNat (n : Int).toNat) (w.alloc (.cells (madeCells #[.int .u8 0] ((n : Int).toNat * 1)) 5)) = _
  rw [Int.toNat_natCast, Nat.mul_one]
  rfl
theorem zrow_eq (n : Nat) : zrow n = ((List.replicate n 0).map (fun (c : Nat) => Value.int .u8 (c : Int))).toArray := by
  unfold zrow madeCells
  apply Array.ext
  · simp
  · intro i h1 h2
    simp [Nat.mod_one]
theorem Own.slice {w : World} {B : Nat} {v : Value} {l : List Nat} (h : Own w B v l) : ∃ A c, v = .slice A l.length c ∧ Bys w A l.length l ∧ l.length ≤ c ∧ c ≤ maxLen ∧ (A = none → c = 0) := by
  rcases h.form with ⟨hv, hl⟩ | ⟨g, cap, cur, hv, _⟩
  · subst hl
    exact ⟨none, 0, hv, Bys.none_ w, Nat.le_refl _, by unfold maxLen; omega, fun _ => rfl⟩
  · rw [hv] at h
    have := h.bys
    exact ⟨_, cap, hv, this.1, this.2.1, this.2.2.1, fun h0 => by cases h0⟩

theorem Bys.alloc {w : World} {a : Option Addr} {n : Nat} {l : List Nat} (h : Bys w a n l) (o : Obj) : Bys (w.alloc o) a n l := h.below ((Below.refl _ _).alloc (Nat.le_refl _) o)

theorem Bys.part {w : World} {a : Option Addr} {n m : Nat} {l t : List Nat} (h : Bys w a m (l ++ t)) (hl : l.length = n) : Bys w a n l := by
  have hm := h.1
  rw [List.length_append] at hm
  subst hl
  have := h.front l.length (by omega)
  rwa [List.take_left] at this

/-- The text of these bytes. -/
def str (l : List Nat) : ByteArray := strOfNums (l.map (fun (c : Nat) => (c : Int)))
theorem run_str {w : World} {a : Option Addr} {n : Nat} {l : List Nat} (h : Bys w a n l) (c : Nat) : (convert 22 9 (.slice a n c)).run Tryz.prog w = .ok (.string (str l)) w := by
  by_cases h0 : n = 0
  · subst h0
    have hl : l = [] := List.eq_nil_of_length_eq_zero h.1
    subst hl
    rcases a with _ | ad
    · exact run_convert_bytes_nil (P := Tryz.prog) w 22 5 Tryz.underlying22 Tryz.underlying5 0 c 9 Tryz.underlying9
    · rw [run_convert_bytes_string (P := Tryz.prog) w 22 9 5 (some ad) 0 c Tryz.underlying22 Tryz.underlying5 Tryz.underlying9]
      exact run_bytesToString (P := Tryz.prog) w ad 0 c [] (by simp [loadCells, loadCellsFrom])
  · obtain ⟨b, off, rfl, hc⟩ := h.2.2 (by omega)
    refine run_convert_bytes_arg (P := Tryz.prog) w 22 5 Tryz.underlying22 Tryz.underlying5 b off n c _ (by simp [h.1]) (fun i hi => ?_) 9 Tryz.underlying9
    rw [hc i hi]
    have : i < l.length := by rw [h.1]; exact hi
    simp [List.getD, this]

theorem Own.belowOwn {w w' : World} {B : Nat} {v : Value} {l : List Nat} (h : Own w B v l) (hb : Below w.heap.size w w') : Own w' B v l := by
  obtain ⟨⟨h0, h1⟩, h2⟩ := h
  refine ⟨⟨h0, ?_⟩, h2⟩
  rcases h1 with h1 | ⟨g, cap, cur, hv, hg0, hg, hr⟩
  · exact .inl h1
  · exact .inr ⟨g, cap, cur, hv, hg0, Lies.below hg hb (Lies.lt hg), hr⟩



end Go.Proofs.YtpbclmnhkmcknaaGreat.Fe

namespace Go.Proofs.YtpbclmnhkmcknaaGreat.Fe
open Go.RowKit
set_option maxRecDepth 100000


/-- 'copy' of as many bytes as a new row has. -/
theorem wpl_copy {ops : Array Oper} {rest : List Oper} {a : Act} {w : World} {Q : Exit → Act → World → Prop} (dst : Option Tmp) (ty : TypeId) (pos : String) (aft : Array Edge) (d s : Operand)
    (g n c : Nat) (A : Option Addr) (l : List Nat) (w0 : World) (B : Nat)
    (hd : a.eval d = .slice (some ⟨g, 0, none⟩) n n) (hs : a.eval s = .slice A n c) (hg : Lies w g 5 (zrow n)) (hB : Bys w A n l) (hb : Below B w0 w) (hBg : B ≤ g)
    (h : ∀ w', Lies w' g 5 (vals l).toArray → Below B w0 w' → wpList Tryz.prog ops Q rest (a.put dst (goInt n)) w') :
    wpList Tryz.prog ops Q (⟨dst, .call { callee := .builtin .copy, args := #[d, s], argTypes := #[22, 22] }, ty, pos, aft, none⟩ :: rest) a w := by
  have hl : (vals l).length = n := by simp [vals, hB.1]
  have hz : (zrow n).toList.length = n := by rw [zrow_eq]; simp
  refine wpList_copy_splice (o := ⟨dst, .call { callee := .builtin .copy, args := #[d, s], argTypes := #[22, 22] }, ty, pos, aft, none⟩) rfl d s 22 22 rfl 5 Tryz.underlying22 (by kernel_rfl) _ _ _ _ _ _ hd hs g 0 (zrow n).toList 5 (by rw [Array.toArray_toList]; exact hg) (vals l) (by simp [hl]) ?_ (by simp only [hl, hz]; omega) (fun u hu => by simp only [vals, List.mem_map] at hu; obtain ⟨_, _, rfl⟩ := hu; rfl) B w0 hb hBg ?_
  · intro h0
    obtain ⟨b, off, e, _⟩ := hB.2.2 (by omega)
    exact ⟨rfl, _, e, hB.cells _ e⟩
  · intro w' hh hb'
    rw [hl]
    refine h w' ?_ hb'
    have := hh.out
    unfold splice at this
    rw [List.take_zero, List.nil_append, hl, Nat.zero_add, List.drop_of_length_le (by omega), List.append_nil] at this
    exact this

theorem Own.made {w : World} {g B : Nat} {l : List Nat} (h : Lies w g 5 (vals l).toArray) (hB : B ≤ g) (hl : ∀ c ∈ l, c < 256) (hn : l.length ≤ maxLen) : Own w B (.slice (some ⟨g, 0, none⟩) l.length l.length) l :=
  ⟨⟨by simp [vals], .inr ⟨g, l.length, _, rfl, hB, h, Nat.le_refl _, hn, by simp [vals], by rw [Nat.mul_one, List.take_of_length_le (by simp [vals])]⟩⟩, hl⟩

/-- The new row that 'fresh' returns. -/
def FreshPost (w : World) (n : Nat) (l : List Nat) (e : Ending) (w' : World) : Prop :=
  e = .returned (.slice (some ⟨w.heap.size, 0, none⟩) n n) ∧ Own w' w.heap.size (.slice (some ⟨w.heap.size, 0, none⟩) n n) l ∧ Below w.heap.size w w'

set_option maxHeartbeats 400000 in
theorem fresh_any (a : Option Addr) (n cap : Nat) (l : List Nat) (w : World) (hB : Bys w a n l) (hn : n ≤ 1000000) :
    Calls Tryz.prog 82 #[.slice a n cap] w (FreshPost w n l) := by
  have HB := Lib.hid hB
  clear hB
  have hmk := run_zrow n hn
  go_enter Tryz.func82, Tryz.ntmps82
  go_wp2_with (first
    | ((with_reducible refine wpl_copy (some 9) _ _ _ (.tmp 7) (.tmp 8) w.heap.size n cap a l w w.heap.size ?hd ?hs (Lies.made _ _ _) (HB.out.alloc _) ((Below.refl _ _).alloc (Nat.le_refl _) _) (Nat.le_refl _) ?_); (case hd => rfl); (case hs => rfl); (intro w' hl hb)))
  go_ret
  have hlen := HB.out.1
  subst hlen
  exact ⟨rfl, Own.made hl (Nat.le_refl _) HB.out.2.1 (small_len _ hn), hb⟩

/-- A writer, at block p, that holds l. -/
def Wr (w : World) (p B : Nat) (l : List Nat) : Prop := B ≤ p ∧ ∃ v, Lies w p 162 #[v, .bool false] ∧ Own w B v l
/-- No block of bytes, no writer. -/
def Aside (o : Obj) : Prop := (∀ cs fr, o ≠ .cells cs 5 fr) ∧ ∀ cs fr, o ≠ .cells cs 162 fr
/-- All blocks but those of bytes and of writers are as they were. -/
def Keep (w w' : World) : Prop := ∀ (g : Nat) (o : Obj), Aside o → w.heap[g]? = some o → w'.heap[g]? = some o
theorem Keep.lies {w w' : World} (h : Keep w w') {g : Nat} {t : TypeId} {cs : Array Value} (h1 : t ≠ 5) (h2 : t ≠ 162) (h3 : Lies w g t cs) : Lies w' g t cs :=
  h g _ ⟨fun _ _ e => by injection e with _ e; exact h1 e, fun _ _ e => by injection e with _ e; exact h2 e⟩ h3
theorem Keep.iter {w w' : World} (h : Keep w w') {g : Nat} {s : ByteArray} {p : Nat} (h3 : w.heap[g]? = some (.stringIter s p)) : w'.heap[g]? = some (.stringIter s p) :=
  h g _ ⟨(fun _ _ e => by cases e), (fun _ _ e => by cases e)⟩ h3
theorem Keep.refl (w : World) : Keep w w := fun _ _ _ h => h
theorem heap_lt {w : World} {g : Nat} {o : Obj} (h : w.heap[g]? = some o) : g < w.heap.size := (Array.getElem?_eq_some_iff.1 h).1
theorem Keep.alloc {a w : World} (h : Keep a w) (o : Obj) : Keep a (w.alloc o) := fun g x h1 h3 => (Below.heap_alloc w o g (heap_lt (h g x h1 h3))).trans (h g x h1 h3)
theorem Keep.drew {a w : World} (h : Keep a w) : Keep a w.drew := h
theorem Own.ne {w : World} {B p : Nat} {v : Value} {l : List Nat} {t : TypeId} {cs : Array Value} (h : Own w B v l) (hp : Lies w p t cs) (ht : t ≠ 5) : some p ≠ v.ownBlock := by
  rcases h.1.2 with ⟨rfl, _⟩ | ⟨g, cap, cur, rfl, _, hg, _⟩
  · simp [Value.ownBlock]
  · intro e
    have : p = g := by simpa [Value.ownBlock] using e
    subst this
    unfold Lies at hp
    rw [hg] at hp
    injection hp with hp
    injection hp with _ h2
    exact ht h2.symm
theorem Own.setOther {w : World} {B : Nat} {v : Value} {l : List Nat} (h : Own w B v l) {a : Addr} (ha : some a.block ≠ v.ownBlock) (u : Value) : Own (w.setCell a u) B v l := by
  obtain ⟨⟨h0, h1⟩, h2⟩ := h
  refine ⟨⟨h0, ?_⟩, h2⟩
  rcases h1 with h1 | ⟨g, cap, cur, hv, hb, hg, hr⟩
  · exact .inl h1
  · refine .inr ⟨g, cap, cur, hv, hb, Lies.other hg (fun e => ha (by rw [hv, ← e]; rfl)) u, hr⟩
theorem Lies.grown {w w' : World} {g : Nat} {t : TypeId} {cs : Array Value} {r : Option Nat} (h : Lies w g t cs) (hg : w.grownBy w' r) (hr : some g ≠ r) : Lies w' g t cs := (hg.block g h.lt hr).trans h

theorem Keep.grown {a w w' : World} {B : Nat} {v : Value} {l : List Nat} (h : Keep a w) (hO : Own w B v l) (hg : w.grownBy w' v.ownBlock) : Keep a w' := fun g o h1 h3 => by
  have hh := h g o h1 h3
  refine (hg.block g (heap_lt hh) ?_).trans hh
  rcases hO.1.2 with ⟨rfl, _⟩ | ⟨g', cap, cur, rfl, _, hgg, _⟩
  · simp [Value.ownBlock]
  · intro e
    have : g = g' := by simpa [Value.ownBlock] using e
    subst this
    rw [hgg] at hh
    injection hh with hh
    exact h1.1 _ _ hh.symm
theorem Keep.put {a w : World} {p : Nat} {cs : Array Value} (h : Keep a w) (hp : Lies w p 162 cs) (i : Nat) (v : Value) : Keep a (w.setCell ⟨p, i, none⟩ v) := fun g o h1 h3 => by
  have hh := h g o h1 h3
  refine (heap_setCell_other w ⟨p, i, none⟩ g v (fun e => ?_)).trans hh
  have e : g = p := e
  subst e
  unfold Lies at hp
  rw [hp] at hh
  injection hh with hh
  exact h1.2 _ _ hh.symm

end Go.Proofs.YtpbclmnhkmcknaaGreat.Fe

namespace Go.Proofs.YtpbclmnhkmcknaaGreat.Fe
open Go.RowKit
set_option maxRecDepth 100000

theorem Own.mono {w : World} {B B' : Nat} {v : Value} {l : List Nat} (h : Own w B v l) (hb : B' ≤ B) : Own w B' v l := by
  obtain ⟨⟨h0, h1⟩, h2⟩ := h
  refine ⟨⟨h0, ?_⟩, h2⟩
  rcases h1 with h1 | ⟨g, cap, cur, hv, hg, hr⟩
  · exact .inl h1
  · exact .inr ⟨g, cap, cur, hv, Nat.le_trans hb hg, hr⟩
end Go.Proofs.YtpbclmnhkmcknaaGreat.Fe

namespace Go.Proofs.YtpbclmnhkmcknaaGreat.Fe
open Go.RowKit
set_option maxRecDepth 100000


/-- A slice value that reads as l. -/
def Reads (w : World) (u : Value) (l : List Nat) : Prop := ∃ A c, u = .slice A l.length c ∧ Bys w A l.length l ∧ l.length ≤ c ∧ c ≤ maxLen ∧ (A = none → c = 0)
theorem Own.reads {w : World} {B : Nat} {u : Value} {l : List Nat} (h : Own w B u l) : Reads w u l := h.slice
theorem Reads.below {w w' : World} {u : Value} {l : List Nat} (h : Reads w u l) (hb : Below w.heap.size w w') : Reads w' u l := by
  obtain ⟨A, c, h1, h2, h3⟩ := h
  exact ⟨A, c, h1, h2.below hb, h3⟩
theorem Reads.one {w : World} {u : Value} {l : List Nat} (h : Reads w u l) : u.oneCell' = true := by
  obtain ⟨A, c, rfl, _⟩ := h; rfl

/-- The values read as these lists. -/
def AllRead (w : World) (vs : List Value) (ls : List (List Nat)) : Prop := vs.length = ls.length ∧ ∀ i (h1 : i < vs.length) (h2 : i < ls.length), Reads w vs[i] ls[i]
theorem AllRead.append {w : World} {vs us : List Value} {ls ms : List (List Nat)} (h : AllRead w vs ls) (k : AllRead w us ms) : AllRead w (vs ++ us) (ls ++ ms) := by
  refine ⟨by rw [List.length_append, List.length_append, h.1, k.1], fun i h1 h2 => ?_⟩
  by_cases hi : i < vs.length
  · rw [List.getElem_append_left hi, List.getElem_append_left (by rw [← h.1]; exact hi)]
    exact h.2 i hi _
  · rw [List.getElem_append_right (by omega), List.getElem_append_right (by rw [← h.1]; omega)]
    have hl := h.1
    have e : i - vs.length = i - ls.length := by omega
    simp only [e]
    exact k.2 _ _ _
theorem AllRead.take {w : World} {vs : List Value} {ls : List (List Nat)} (h : AllRead w vs ls) (k : Nat) : AllRead w (vs.take k) (ls.take k) :=
  ⟨by rw [List.length_take, List.length_take, h.1], fun i h1 h2 => by
    rw [List.getElem_take, List.getElem_take]
    exact h.2 i _ _⟩

/-- Each value is a row of bytes of its own. -/
def OwnAll (w : World) (B : Nat) (vs : List Value) (ls : List (List Nat)) : Prop :=
  vs.length = ls.length ∧ (∀ i (h1 : i < vs.length) (h2 : i < ls.length), Own w B vs[i] ls[i]) ∧
  ∀ i j (h1 : i < vs.length) (h2 : j < vs.length), i < j → ∀ g, vs[i].ownBlock = some g → vs[j].ownBlock ≠ some g
theorem OwnAll.map {w w' : World} {B : Nat} {vs : List Value} {ls : List (List Nat)} (h : OwnAll w B vs ls) (f : ∀ u l, Own w B u l → Own w' B u l) : OwnAll w' B vs ls := ⟨h.1, fun i h1 h2 => f _ _ (h.2.1 i h1 h2), h.2.2⟩
theorem Own.lt {w : World} {B : Nat} {u : Value} {l : List Nat} (h : Own w B u l) : ∀ g, u.ownBlock = some g → g < w.heap.size := by
  intro g hg
  rcases h.1.2 with ⟨rfl, _⟩ | ⟨g', cap, cur, rfl, _, hh, _⟩
  · cases hg
  · have : g' = g := by simpa [Value.ownBlock] using hg
    subst this
    exact Lies.lt hh
end Go.Proofs.YtpbclmnhkmcknaaGreat.Fe

namespace Go.Proofs.YtpbclmnhkmcknaaGreat.Fe
open Go.RowKit


theorem str_toList (a : List Nat) : (str a).toList = a.map UInt8.ofNat := by
  rw [ByteArray.toList_eq]
  simp [str, strOfNums]

theorem str_inj (a b : List Nat) (ha : ∀ c ∈ a, c < 256) (hb : ∀ c ∈ b, c < 256) (h : (str a).toList = (str b).toList) : a = b := by
  rw [str_toList, str_toList] at h
  have e : ∀ (l : List Nat), (∀ c ∈ l, c < 256) → (l.map UInt8.ofNat).map UInt8.toNat = l := by
    intro l hl
    rw [List.map_map]
    conv => rhs; rw [← List.map_id l]
    apply List.map_congr_left
    intro c hc
    simp
    exact hl c hc
  rw [← e a ha, ← e b hb, h]

/-- The same bytes? -/
def sameB (a b : List Nat) : Bool := decide (a = b)
theorem sameB_self (a : List Nat) : sameB a a = true := by simp [sameB]
theorem sameB_ne {a b : List Nat} (h : a ≠ b) : sameB a b = false := by simp [sameB, h]
theorem str_eq (a b : List Nat) (ha : ∀ c ∈ a, c < 256) (hb : ∀ c ∈ b, c < 256) : ((str a).toList == (str b).toList) = sameB a b := by
  by_cases h : a = b
  · subst h; rw [sameB_self]; simp
  · rw [sameB_ne h, beq_eq_false_iff_ne]
    exact fun hh => h (str_inj a b ha hb hh)

end Go.Proofs.YtpbclmnhkmcknaaGreat.Fe

namespace Go.Proofs.YtpbclmnhkmcknaaGreat.Fe
open Go.RowKit


/-- A slice of integers that came in: nil, or a row of 'cap' cells. -/
def IsRow (k : IntKind) (w : World) (a : Option Addr) (len cap : Nat) (zs : List Int) : Prop :=
  (a = none ∧ len = 0 ∧ cap = 0 ∧ zs = []) ∨
  ∃ x, a = some x ∧ len ≤ cap ∧ cap ≤ maxLen ∧ zs.length = cap ∧ (∀ i, i < zs.length → w.cell? (x.add i) = some (.int k (zs.getD i 0))) ∧ ∀ n ∈ zs, (Lit.int k n).wf = true

theorem IsRow.bys {w : World} {a : Option Addr} {len cap : Nat} {zs : List Int} (h : IsRow .u8 w a len cap zs) :
    ∃ l, Bys w a len l ∧ len ≤ cap ∧ cap ≤ maxLen ∧ (a = none → cap = 0) := by
  rcases h with ⟨rfl, rfl, rfl, rfl⟩ | ⟨x, rfl, hl, hm, hz, hcell, hwz⟩
  · exact ⟨[], Bys.none_ w, Nat.le_refl _, by unfold maxLen; omega, fun _ => rfl⟩
  · refine ⟨(zs.take len).map Int.toNat, ⟨by simp; omega, ?_, fun h0 => ?_⟩, hl, hm, fun h => by cases h⟩
    · intro c hc
      obtain ⟨z, hz1, rfl⟩ := List.mem_map.1 hc
      have := bounds_u8 (hwz z (List.mem_of_mem_take hz1))
      omega
    · obtain ⟨b, off, spot⟩ := x
      have hc0 := hcell 0 (by omega)
      have hspot : spot = none := by simpa [Addr.add] using World.cell?_spot hc0
      subst hspot
      refine ⟨b, off, rfl, fun i hi => ?_⟩
      have h1 := hcell i (by omega)
      rw [add_off] at h1
      rw [h1]
      have hlt : i < zs.length := by omega
      have hb := bounds_u8 (hwz zs[i] (List.getElem_mem hlt))
      have e : (((zs.take len).map Int.toNat).getD i 0 : Nat) = zs[i].toNat := by simp [List.getD, hi, hlt]
      have e2 : zs.getD i 0 = zs[i] := by simp [List.getD, hlt]
      rw [e, e2, Int.toNat_of_nonneg hb.1]


end Go.Proofs.YtpbclmnhkmcknaaGreat.Fe

namespace Go.Proofs.YtpbclmnhkmcknaaGreat.Fe
open Go.RowKit
set_option maxRecDepth 100000


end Go.Proofs.YtpbclmnhkmcknaaGreat.Fe

namespace Go.Proofs.YtpbclmnhkmcknaaGreat.Fe
open Go.RowKit
set_option maxRecDepth 100000

/-- A note's cells. -/
abbrev evs (e : Note) (K D : Value) : Array Value := #[.int .i64 e.kind, .int .u32 (e.epoch : Nat), .int .u32 (e.old : Nat), .int .u64 (e.lsn : Nat), .int .u64 (e.tick : Nat), .int .u32 (e.order : Nat), .int .i64 e.step, .bool e.undo, .int .i64 e.code, K, D]
theorem Lies.cellsE {w : World} {g : Nat} {e : Note} {K D : Value} (h : Lies w g 55 (evs e K D)) : w.cell? ⟨g, 0, none⟩ = some (.int .i64 e.kind) ∧ w.cell? ⟨g, 1, none⟩ = some (.int .u32 (e.epoch : Nat)) ∧ w.cell? ⟨g, 2, none⟩ = some (.int .u32 (e.old : Nat)) ∧ w.cell? ⟨g, 3, none⟩ = some (.int .u64 (e.lsn : Nat)) ∧ w.cell? ⟨g, 4, none⟩ = some (.int .u64 (e.tick : Nat)) ∧ w.cell? ⟨g, 5, none⟩ = some (.int .u32 (e.order : Nat)) ∧ w.cell? ⟨g, 6, none⟩ = some (.int .i64 e.step) ∧ w.cell? ⟨g, 7, none⟩ = some (.bool e.undo) ∧ w.cell? ⟨g, 8, none⟩ = some (.int .i64 e.code) ∧ w.cell? ⟨g, 9, none⟩ = some (K) ∧ w.cell? ⟨g, 10, none⟩ = some (D) :=
  ⟨h.cell 0, h.cell 1, h.cell 2, h.cell 3, h.cell 4, h.cell 5, h.cell 6, h.cell 7, h.cell 8, h.cell 9, h.cell 10⟩

/-- The text of a kind's letters. -/
def NamesPost (k : Int) (w : World) (x : Ending) (w' : World) : Prop := x = .returned (.string (str (Ent.lets k))) ∧ w' = w
theorem names_0 (k : Int) (w : World) (h : k < 1 ∨ 13 < k) : Calls Tryz.prog 152 #[.int .i64 k] w (NamesPost k w) := by
  have h1 : (k == 1) = false := by rw [beq_eq_false_iff_ne]; omega
  have h2 : (k == 2) = false := by rw [beq_eq_false_iff_ne]; omega
  have h3 : (k == 3) = false := by rw [beq_eq_false_iff_ne]; omega
  have h4 : (k == 4) = false := by rw [beq_eq_false_iff_ne]; omega
  have h5 : (k == 5) = false := by rw [beq_eq_false_iff_ne]; omega
  have h6 : (k == 6) = false := by rw [beq_eq_false_iff_ne]; omega
  have h7 : (k == 7) = false := by rw [beq_eq_false_iff_ne]; omega
  have h8 : (k == 8) = false := by rw [beq_eq_false_iff_ne]; omega
  have h9 : (k == 9) = false := by rw [beq_eq_false_iff_ne]; omega
  have h10 : (k == 10) = false := by rw [beq_eq_false_iff_ne]; omega
  have h11 : (k == 11) = false := by rw [beq_eq_false_iff_ne]; omega
  have h12 : (k == 12) = false := by rw [beq_eq_false_iff_ne]; omega
  have h13 : (k == 13) = false := by rw [beq_eq_false_iff_ne]; omega
  unfold NamesPost
  rw [Ent.lets_none k h]
  go_enter Tryz.func152, Tryz.ntmps152
  go_wp2
  go_ret
  exact ⟨rfl, rfl⟩
theorem names_1 (w : World) : Calls Tryz.prog 152 #[.int .i64 1] w (NamesPost 1 w) := by
  go_enter Tryz.func152, Tryz.ntmps152
  go_wp2
  go_ret
  exact ⟨rfl, rfl⟩
theorem names_2 (w : World) : Calls Tryz.prog 152 #[.int .i64 2] w (NamesPost 2 w) := by
  go_enter Tryz.func152, Tryz.ntmps152
  go_wp2
  go_ret
  exact ⟨rfl, rfl⟩
theorem names_3 (w : World) : Calls Tryz.prog 152 #[.int .i64 3] w (NamesPost 3 w) := by
  go_enter Tryz.func152, Tryz.ntmps152
  go_wp2
  go_ret
  exact ⟨rfl, rfl⟩
theorem names_4 (w : World) : Calls Tryz.prog 152 #[.int .i64 4] w (NamesPost 4 w) := by
  go_enter Tryz.func152, Tryz.ntmps152
  go_wp2
  go_ret
  exact ⟨rfl, rfl⟩
theorem names_5 (w : World) : Calls Tryz.prog 152 #[.int .i64 5] w (NamesPost 5 w) := by
  go_enter Tryz.func152, Tryz.ntmps152
  go_wp2
  go_ret
  exact ⟨rfl, rfl⟩
theorem names_6 (w : World) : Calls Tryz.prog 152 #[.int .i64 6] w (NamesPost 6 w) := by
  go_enter Tryz.func152, Tryz.ntmps152
  go_wp2
  go_ret
  exact ⟨rfl, rfl⟩
theorem names_7 (w : World) : Calls Tryz.prog 152 #[.int .i64 7] w (NamesPost 7 w) := by
  go_enter Tryz.func152, Tryz.ntmps152
  go_wp2
  go_ret
  exact ⟨rfl, rfl⟩
theorem names_8 (w : World) : Calls Tryz.prog 152 #[.int .i64 8] w (NamesPost 8 w) := by
  go_enter Tryz.func152, Tryz.ntmps152
  go_wp2
  go_ret
  exact ⟨rfl, rfl⟩
theorem names_9 (w : World) : Calls Tryz.prog 152 #[.int .i64 9] w (NamesPost 9 w) := by
  go_enter Tryz.func152, Tryz.ntmps152
  go_wp2
  go_ret
  exact ⟨rfl, rfl⟩
theorem names_10 (w : World) : Calls Tryz.prog 152 #[.int .i64 10] w (NamesPost 10 w) := by
  go_enter Tryz.func152, Tryz.ntmps152
  go_wp2
  go_ret
  exact ⟨rfl, rfl⟩
theorem names_11 (w : World) : Calls Tryz.prog 152 #[.int .i64 11] w (NamesPost 11 w) := by
  go_enter Tryz.func152, Tryz.ntmps152
  go_wp2
  go_ret
  exact ⟨rfl, rfl⟩
theorem names_12 (w : World) : Calls Tryz.prog 152 #[.int .i64 12] w (NamesPost 12 w) := by
  go_enter Tryz.func152, Tryz.ntmps152
  go_wp2
  go_ret
  exact ⟨rfl, rfl⟩
theorem names_13 (w : World) : Calls Tryz.prog 152 #[.int .i64 13] w (NamesPost 13 w) := by
  go_enter Tryz.func152, Tryz.ntmps152
  go_wp2
  go_ret
  exact ⟨rfl, rfl⟩
theorem names_any (k : Int) (w : World) : Calls Tryz.prog 152 #[.int .i64 k] w (NamesPost k w) := by
  by_cases h : k < 1 ∨ 13 < k
  · exact names_0 k w h
  · rcases Ent.kinds k (by omega) (by omega) with rfl | rfl | rfl | rfl | rfl | rfl | rfl | rfl | rfl | rfl | rfl | rfl | rfl
    · exact names_1 w
    · exact names_2 w
    · exact names_3 w
    · exact names_4 w
    · exact names_5 w
    · exact names_6 w
    · exact names_7 w
    · exact names_8 w
    · exact names_9 w
    · exact names_10 w
    · exact names_11 w
    · exact names_12 w
    · exact names_13 w

/-- 'strings.ContainsRune' of an ASCII letter. -/
theorem indexByte_mem (l : List UInt8) (c : UInt8) : decide (0 ≤ Lib.indexByte l c) = l.contains c := by
  induction l with
  | nil => rfl
  | cons b r ih =>
    have hge := Lib.indexByte_ge r c
    unfold Lib.indexByte
    by_cases hb : (b == c) = true
    · have : c = b := by simpa using (beq_iff_eq.1 hb).symm
      simp [this]
    · have hb' : (b == c) = false := by simpa using hb
      have hne : ¬ c = b := fun e => by rw [e] at hb'; simp at hb'
      rw [hb', List.contains_cons, show (c == b) = false from by simpa using hne, Bool.false_or, ← ih]
      simp only [Bool.false_eq_true, if_false]
      split
      · rename_i h
        have h : Lib.indexByte r c = -1 := by simpa using h
        rw [h]
      · rename_i h
        have h : Lib.indexByte r c ≠ -1 := by simpa using h
        rw [Bool.eq_iff_iff]
        simp
        omega
theorem mem_ofNat (s : List Nat) (c : Nat) (hs : ∀ x ∈ s, x < 256) (hc : c < 256) : (s.map UInt8.ofNat).contains (UInt8.ofNat c) = s.contains c := by
  rw [Bool.eq_iff_iff, List.contains_iff_mem, List.contains_iff_mem]
  constructor
  · intro h
    obtain ⟨x, h1, h2⟩ := List.mem_map.1 h
    have e := congrArg UInt8.toNat h2
    simp at e
    rw [Nat.mod_eq_of_lt (hs x h1), Nat.mod_eq_of_lt hc] at e
    rw [← e]; exact h1
  · exact fun h => List.mem_map.2 ⟨c, h, rfl⟩
theorem str_data (l : List Nat) : (str l).data.toList = l.map UInt8.ofNat := by simp [str, strOfNums]

set_option maxHeartbeats 1000000 in
set_option maxRecDepth 100000 in
theorem stringsliteIndexByte_any (s : ByteArray) (c : Int) (w : World) :
    Calls Tryz.prog 213 #[.string s, .int .u8 c] w fun e w' => e = .returned (.int .i64 (Lib.indexByte s.data.toList c.toNat.toUInt8)) ∧ w' = w := by
  go_enter Tryz.func213, Tryz.ntmps213
  go_wp2
  rw [run_callFunc_extern Tryz.func214 (by kernel_rfl) (by kernel_rfl) (by kernel_rfl) (e := Extern.BytealgIndexByte.indexByte) (by kernel_rfl), Lib.run_indexByteString]
  simp only [Result.andThen]
  rw [Oper.upon_value]
  go_wp2
  go_ret
  exact ⟨rfl, rfl⟩
theorem indexByte_any (s : ByteArray) (c : Int) (w : World) :
    Calls Tryz.prog 209 #[.string s, .int .u8 c] w fun e w' => e = .returned (.int .i64 (Lib.indexByte s.data.toList c.toNat.toUInt8)) ∧ w' = w := by
  go_enter Tryz.func209, Tryz.ntmps209
  go_wp2_with fail
  with_reducible refine (stringsliteIndexByte_any _ _ _).mono ?_
  rintro e w2 ⟨rfl, rfl⟩
  go_wp2
  go_ret
  exact ⟨rfl, rfl⟩
set_option maxHeartbeats 1000000 in
set_option maxRecDepth 100000 in
theorem indexRune_any (s : ByteArray) (c : Nat) (hc : c < 128) (w : World) :
    Calls Tryz.prog 206 #[.string s, .int .i32 (c : Nat)] w fun e w' => e = .returned (.int .i64 (Lib.indexByte s.data.toList (UInt8.ofNat c))) ∧ w' = w := by
  have hx := wrap_u8 c (by omega)
  have h1 : decide ((0 : Int) ≤ (c : Int)) = true := by rw [decide_eq_true_iff]; omega
  have h2 : decide ((c : Int) < (128 : Int)) = true := by rw [decide_eq_true_iff]; omega
  have h3 : decide (c < 128) = true := by rw [decide_eq_true_iff]; omega
  have C := Lib.hid (fun W => indexByte_any s (c : Nat) W)
  rw [show ((c : Nat) : Int).toNat.toUInt8 = UInt8.ofNat c from rfl] at C
  go_enter Tryz.func206, Tryz.ntmps206
  go_wp2_with fail
  with_reducible refine (C.out _).mono ?_
  rintro e w2 ⟨rfl, rfl⟩
  go_wp2
  go_ret
  exact ⟨rfl, rfl⟩
theorem contains_any (s : List Nat) (c : Nat) (hs : ∀ x ∈ s, x < 256) (hc : c < 128) (w : World) :
    Calls Tryz.prog 188 #[.string (str s), .int .i32 (c : Nat)] w fun e w' => e = .returned (.bool (s.contains c)) ∧ w' = w := by
  have C := Lib.hid (fun W => indexRune_any (str s) c hc W)
  have hr : decide (0 ≤ Lib.indexByte (str s).data.toList (UInt8.ofNat c)) = s.contains c := by rw [indexByte_mem, str_data, mem_ofNat s c hs (by omega)]
  generalize Lib.indexByte (str s).data.toList (UInt8.ofNat c) = q at *
  generalize s.contains c = r at *
  have HR := Lib.hid hr
  clear hr
  go_enter Tryz.func188, Tryz.ntmps188
  go_wp2_with fail
  with_reducible refine (C.out _).mono ?_
  rintro e w2 ⟨rfl, rfl⟩
  go_wp2
  go_ret
  exact ⟨ret_bool (by rw [← HR.out]), rfl⟩

end Go.Proofs.YtpbclmnhkmcknaaGreat.Fe

namespace Go.Proofs.YtpbclmnhkmcknaaGreat.Fe
open Go.RowKit
set_option maxRecDepth 100000

/-- The bytes lie below B. -/
def Low (B : Nat) (A : Option Addr) (n : Nat) : Prop := 0 < n → ∃ b off, A = some ⟨b, off, none⟩ ∧ b < B
end Go.Proofs.YtpbclmnhkmcknaaGreat.Fe

namespace Go.Proofs.YtpbclmnhkmcknaaGreat.Fe
open Go.RowKit
set_option maxRecDepth 100000
attribute [local go_sem ↓] Go.wp_at_zero Go.wp_at_succ

/-- A reader, of type T, at block p. -/
def Rd (T : TypeId) (w : World) (p : Nat) (s : Ent.St) (l : List Nat) : Prop :=
  ∃ A c, Lies w p T #[.slice A l.length c, .int .i64 (s.1 : Nat), .bool s.2] ∧ Bys w A l.length l ∧ (∀ ad, A = some ad → ad.block < p) ∧ s.1 ≤ l.length ∧ l.length ≤ c ∧ c ≤ maxLen
theorem grown_drewN {a w : World} {r : Option Nat} (h : a.grownBy w r) (n : Nat) : a.grownBy (w.drewN n) r := ⟨h.os, h.tape, h.output, h.size, h.block⟩
theorem grown_drew {a w : World} {r : Option Nat} (h : a.grownBy w r) : a.grownBy w.drew r := ⟨h.os, h.tape, h.output, h.size, h.block⟩
theorem grown_put {a w : World} {g : Nat} (h : a.grownBy w (some g)) (o : Nat) (u : Value) : a.grownBy (w.setCell ⟨g, o, none⟩ u) (some g) :=
  ⟨h.os, h.tape, h.output, by simpa [World.setCell] using h.size, fun i hi hne => (Below.heap_setCell w ⟨g, o, none⟩ u i (by rintro rfl; exact hne rfl)).trans (h.block i hi hne)⟩
theorem grown_below {a w w' : World} {r : Option Nat} (h : a.grownBy w r) (hb : Below w.heap.size w w') : a.grownBy w' r :=
  ⟨hb.os.trans h.os, hb.tape.trans h.tape, hb.output.trans h.output, Nat.le_trans h.size hb.size, fun i hi hne => (hb.block i (Nat.lt_of_lt_of_le hi h.size)).trans (h.block i hi hne)⟩
theorem Rd.drewN {T : TypeId} {w : World} {p : Nat} {s : Ent.St} {l : List Nat} (h : Rd T w p s l) (n : Nat) : Rd T (w.drewN n) p s l := h
theorem Rd.drew {T : TypeId} {w : World} {p : Nat} {s : Ent.St} {l : List Nat} (h : Rd T w p s l) : Rd T w.drew p s l := h
theorem Rd.below {T : TypeId} {w w' : World} {p : Nat} {s : Ent.St} {l : List Nat} (h : Rd T w p s l) (hb : Below w.heap.size w w') : Rd T w' p s l := by
  obtain ⟨A, c, hL, hB, h3⟩ := h
  exact ⟨A, c, hL.below hb hL.lt, hB.below hb, h3⟩
/-- What lies elsewhere stays where a reader moves. -/
theorem Bys.setOther {w : World} {a : Option Addr} {n : Nat} {l : List Nat} {p o : Nat} (h : Bys w a n l) (ha : ∀ ad, a = some ad → ad.block ≠ p) (u : Value) : Bys (w.setCell ⟨p, o, none⟩ u) a n l := by
  obtain ⟨h1, h2, h3⟩ := h
  refine ⟨h1, h2, fun h0 => ?_⟩
  obtain ⟨b, off, e, hc⟩ := h3 h0
  refine ⟨b, off, e, fun i hi => ?_⟩
  have hb := ha _ e
  have hcell := hc i hi
  rw [← hcell]
  unfold World.cell?
  rw [heap_setCell_other w ⟨p, o, none⟩ b u hb]
theorem Rd.put {T : TypeId} {w : World} {p : Nat} {s : Ent.St} {l : List Nat} (h : Rd T w p s l) (i : Nat) (hi : i ≤ l.length) : Rd T (w.setCell ⟨p, 1, none⟩ (.int .i64 (i : Nat))) p (i, s.2) l := by
  obtain ⟨A, c, hL, hB, h3, h4, h5⟩ := h
  exact ⟨A, c, hL.put 1 _, hB.setOther (fun ad e => by have := h3 ad e; omega) _, h3, hi, h5⟩
theorem Rd.short {T : TypeId} {w : World} {p : Nat} {s : Ent.St} {l : List Nat} (h : Rd T w p s l) : Rd T (w.setCell ⟨p, 2, none⟩ (.bool true)) p (s.1, true) l := by
  obtain ⟨A, c, hL, hB, h3, h4, h5⟩ := h
  exact ⟨A, c, hL.put 2 _, hB.setOther (fun ad e => by have := h3 ad e; omega) _, h3, h4, h5⟩

set_option maxHeartbeats 400000 in
theorem left_any (p : Nat) (s : Ent.St) (l : List Nat) (w : World) (hR : Rd 166 w p s l) (hl : l.length ≤ 200000) :
    Calls Tryz.prog 86 #[.pointer (some ⟨p, 0, none⟩)] w fun e w' => e = .returned (.int .i64 ((l.length - s.1 : Nat) : Int)) ∧ ∃ k, w' = w.drewN k := by
  obtain ⟨A, c, hL, hB, _, hi, _, _⟩ := hR
  have hc0 := hL.cell 0
  have hc1 := hL.cell 1
  obtain ⟨i, sh⟩ := s
  simp only at hi hc0 hc1 ⊢
  clear hL hB
  go_enter Tryz.func86, Tryz.ntmps86
  go_wp2_with fail
  go_quiet (fail)
  go_wp2
  go_ret
  exact ⟨ret_int (by first | omega | (rw [IntWalk.i64_in _ (by omega)]; omega)), _, rfl⟩

/-- Are there so many? -/
def hasB (l : List Nat) (k : Nat) (s : Ent.St) : Bool := !(s.2 || decide (l.length - s.1 < k))
def hasS (l : List Nat) (k : Nat) (s : Ent.St) : Ent.St := (s.1, s.2 || decide (l.length - s.1 < k))
def HasPost (w : World) (p k : Nat) (l : List Nat) (s : Ent.St) (e : Ending) (w' : World) : Prop :=
  e = .returned (.bool (hasB l k s)) ∧ Rd 166 w' p (hasS l k s) l ∧ w.grownBy w' (some p)

set_option maxHeartbeats 400000 in
theorem has_any (p k : Nat) (s : Ent.St) (l : List Nat) (w : World) (hR : Rd 166 w p s l) (hl : l.length ≤ 200000) (_hk : k ≤ 200000) :
    Calls Tryz.prog 85 #[.pointer (some ⟨p, 0, none⟩), .int .i64 k] w (HasPost w p k l s) := by
  have HR := Lib.hid hR
  obtain ⟨A, c, hL, hB, _, hi, _, _⟩ := hR
  have hc2 := hL.cell 2
  have hf2 := hL.free 2
  have C1 := Lib.hid (left_any p s l w HR.out hl)
  obtain ⟨i, sh⟩ := s
  simp only at hi hc2 C1
  clear hL hB
  unfold HasPost hasB hasS
  simp only
  obtain ⟨z, hz⟩ : ∃ z, l.length - i = z := ⟨_, rfl⟩
  rw [hz] at C1 ⊢
  by_cases hd : z < k
  · have hd1 : decide (z < k) = true := by simpa using hd
    rw [hd1]
    go_enter Tryz.func85, Tryz.ntmps85
    go_wp2_with fail
    with_reducible refine C1.out.mono ?_
    rintro e w2 ⟨rfl, q, rfl⟩
    go_wp2
    go_ret
    refine ⟨ret_bool (by simp), ?_, grown_put (grown_drewN (World.grownBy.refl w _) q) 2 _⟩
    rw [Bool.or_true]
    exact (HR.out.drewN q).short
  · have hd1 : decide (z < k) = false := by simpa using hd
    rw [hd1]
    go_enter Tryz.func85, Tryz.ntmps85
    go_wp2_with fail
    with_reducible refine C1.out.mono ?_
    rintro e w2 ⟨rfl, q, rfl⟩
    go_wp2
    go_ret
    refine ⟨ret_bool (by simp), ?_, grown_drewN (World.grownBy.refl w _) q⟩
    rw [Bool.or_false]
    exact HR.out.drewN q

theorem or_byte (x y : Nat) (hx : x < 72057594037927936) (hy : y < 256) : bits .or .u64 ((x : Int) * 256) (y : Int) = ((x * 256 + y : Nat) : Int) := by
  have h := u64_or_nat (x * 256) y (by omega) (by omega)
  rw [show ((x * 256 : Nat) : Int) = (x : Int) * 256 from by omega] at h
  rw [h, show x * 256 = x <<< 8 from by rw [Nat.shiftLeft_eq], Nat.shiftLeft_add_eq_or_of_lt (by omega)]

def RnR (w : World) (p : Nat) (s : Ent.St) (k : Nat) (l : List Nat) (x y : Value) (wr : World) : Prop :=
  ∃ j : Nat, j ≤ k ∧ y = .int .i64 j ∧ x = .int .u64 (Ent.val ((l.drop s.1).take j) : Nat) ∧ Rd 166 wr p s l ∧ w.grownBy wr (some p)

def RnPost (w : World) (p k : Nat) (l : List Nat) (s : Ent.St) (e : Ending) (w' : World) : Prop :=
  e = .returned (.int .u64 ((Ent.rnum l k s).1 : Nat)) ∧ Rd 166 w' p (Ent.rnum l k s).2 l ∧ w.grownBy w' (some p)

set_option maxHeartbeats 400000 in
theorem rnumber_bad (p k : Nat) (s : Ent.St) (l : List Nat) (w : World) (hR : Rd 166 w p s l) (hk : k ≤ 8) (hl : l.length ≤ 200000) (h : s.2 = true ∨ l.length - s.1 < k) :
    Calls Tryz.prog 84 #[.pointer (some ⟨p, 0, none⟩), .int .i64 k] w (RnPost w p k l s) := by
  have hn : Ent.rnum l k s = (0, (s.1, true)) := by unfold Ent.rnum; rw [if_pos h]
  have hb : hasB l k s = false := by unfold hasB; simp; exact fun hh => by rcases h with h | h; rw [h] at hh; cases hh; omega
  have hs : hasS l k s = (s.1, true) := by unfold hasS; rcases h with h | h; rw [h]; rfl; simp [h]
  have C1 := Lib.hid (has_any p k s l w hR hl (by omega))
  unfold HasPost at C1
  rw [hb, hs] at C1
  unfold RnPost
  rw [hn]
  clear hn hb hs hR
  go_enter Tryz.func84, Tryz.ntmps84
  go_wp2_with fail
  with_reducible refine C1.out.mono ?_
  rintro e w2 ⟨rfl, hR2, hg2⟩
  have HR2 := Lib.hid hR2
  clear hR2
  go_wp2
  go_ret
  exact ⟨rfl, HR2.out, hg2⟩

set_option maxHeartbeats 400000 in
theorem rnumber_good (p k i : Nat) (l : List Nat) (w : World) (hR : Rd 166 w p (i, false) l) (hk : k ≤ 8) (hl : l.length ≤ 200000) (h : ¬ l.length - i < k) :
    Calls Tryz.prog 84 #[.pointer (some ⟨p, 0, none⟩), .int .i64 k] w (RnPost w p k l (i, false)) := by
  have hn : Ent.rnum l k (i, false) = (Ent.val ((l.drop i).take k), (i + k, false)) := by unfold Ent.rnum; rw [if_neg (by simp; omega)]
  have hb : hasB l k (i, false) = true := by unfold hasB; simp; omega
  have hs : hasS l k (i, false) = (i, false) := by unfold hasS; simp; omega
  have C1 := Lib.hid (has_any p k (i, false) l w hR hl (by omega))
  have hi : i + k ≤ l.length := by obtain ⟨A, c, _, _, _, hi, _, _⟩ := hR; simp at hi; omega
  unfold HasPost at C1
  rw [hb, hs] at C1
  unfold RnPost
  rw [hn]
  have HR := Lib.hid hR
  clear hn hb hs hR
  go_enter Tryz.func84, Tryz.ntmps84
  go_wp2_with fail
  with_reducible refine C1.out.mono ?_
  rintro e w2 ⟨rfl, hR2, hg2⟩
  have HR2 := Lib.hid hR2
  have HG2 := Lib.hid hg2
  clear hR2 hg2 C1
  go_wp2_with fail
  go_loopw [5, 12] (RnR w p (i, false) k l) (fun _ i _ => k - (intOf i).toNat)
  case atStart => exact ⟨0, by omega, rfl, rfl, HR2.out, HG2.out⟩
  case round =>
    obtain ⟨j, hj, rfl, rfl, hR, hgr⟩ := hrel
    simp only
    have HR1 := Lib.hid hR
    have HGR := Lib.hid hgr
    obtain ⟨A, c, hL, hB, _, _, _, _⟩ := hR
    have hc1 := hL.cell 1
    simp only at hc1
    by_cases hlt : j < k
    · have hc0 := hL.cell 0
      obtain ⟨b, off, rfl, hc⟩ := hB.2.2 (by omega)
      have hck := hc (i + j) (by omega)
      have hyb := getD_lt l hB.2.1 (i + j)
      have hv := Ent.val_lt ((l.drop i).take j) (fun c hc => hB.2.1 c (List.mem_of_mem_drop (List.mem_of_mem_take hc)))
      have hsn : Ent.val ((l.drop i).take (j + 1)) = Ent.val ((l.drop i).take j) * 256 + l.getD (i + j) 0 := by
        rw [take_one _ _ (by rw [List.length_drop]; omega), Ent.val_snoc]
        simp [List.getD]
      rw [List.length_take, List.length_drop, Nat.min_eq_left (by omega)] at hv
      have hv2 : Ent.val ((l.drop i).take j) < 72057594037927936 := Nat.lt_of_lt_of_le hv (show 256 ^ j ≤ 256 ^ 7 from Nat.pow_le_pow_right (by decide) (by omega))
      have hq : IntKind.i64.wrap ((i : Int) + (j : Int)) = ((i + j : Nat) : Int) := by rw [IntWalk.i64_in _ (by omega)]; omega
      have hq1 : ((i + j : Nat) : Int) < (l.length : Int) := by omega
      have hi2 : i ≤ 200000 := by omega
      have HSN := Lib.hid hsn
      clear hL hB hc hv hsn HR hgr HR2 HG2
      generalize Ent.val ((l.drop i).take j) = x at *
      generalize l.getD (i + j) 0 = y at *
      generalize i + j = q1 at *
      have hor := or_byte x y hv2 hyb
      go_wp2_with fail
      go_quiet (fail)
      go_wp2
      go_roundw
      case rel => exact ⟨j + 1, by omega, by go_num, val_int (by rw [HSN.out]; omega), HR1.out.drewN _, grown_drewN HGR.out _⟩
      case measure => simp [intOf]; omega
    · have hjk : j = k := by omega
      subst hjk
      have hf1 := hL.free 1
      have hi2 : i ≤ 200000 := by omega
      clear hL hB
      go_wp2
      go_ret
      exact ⟨rfl, HR1.out.put (i + j) hi, grown_put HGR.out 1 _⟩

theorem rnumber_any (p k : Nat) (s : Ent.St) (l : List Nat) (w : World) (hR : Rd 166 w p s l) (hk : k ≤ 8) (hl : l.length ≤ 200000) :
    Calls Tryz.prog 84 #[.pointer (some ⟨p, 0, none⟩), .int .i64 k] w (RnPost w p k l s) := by
  by_cases h : s.2 = true ∨ l.length - s.1 < k
  · exact rnumber_bad p k s l w hR hk hl h
  · obtain ⟨i, sh⟩ := s
    have h1 : sh = false := by cases sh; rfl; exact absurd (.inl rfl) h
    subst h1
    exact rnumber_good p k i l w hR hk hl (fun hh => h (.inr hh))

end Go.Proofs.YtpbclmnhkmcknaaGreat.Fe
