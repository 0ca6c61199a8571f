/-
  The contracts of the table's methods: each for every table and number.
-/
import Derived.Test.YtbmempjedpgfdaaStep
import Derived.Deep.MidRow
import Derived.Outline
namespace Go.Proofs.Ytbmempjedpgfdaa
open Go.RowKit

def Tab (C : Array Value) (f : Nat → Nat) : Prop := C.size = 32 ∧ ∀ i, i < 32 → C[i]? = some (.int .u32 (f i : Nat))

theorem run_index47 (C : Array Value) (k : Nat) (v : Value) (hk : k < 32) (h : C[k]? = some v) (w : World) :
    (Instr.index 47 (.agg C) (.int .i64 k)).run Try.prog w = .ok v w := by
  simp [Instr.index, asIntOf, part, h]
  intro h2; omega

theorem bit_true (r k : Nat) (h : r < 4294967296) (ho : r / 2 ^ k % 2 = 1) : (bits .and .u32 ((r : Int) / 2 ^ k) 1 == 1) = true := by
  have := odd_true (r / 2 ^ k) (Nat.lt_of_le_of_lt (Nat.div_le_self _ _) h) ho
  simpa using this
theorem bit_false (r k : Nat) (h : r < 4294967296) (ho : ¬ r / 2 ^ k % 2 = 1) : (bits .and .u32 ((r : Int) / 2 ^ k) 1 == 1) = false := by
  have := odd_false (r / 2 ^ k) (Nat.lt_of_le_of_lt (Nat.div_le_self _ _) h) ho
  simpa using this

set_option maxHeartbeats 400000 in
theorem of_any (C : Array Value) (f : Nat → Nat) (r : Nat) (w : World) (hC : Tab C f) (hr : r < 4294967296) (hf : ∀ i, i < 32 → f i < 4294967296) :
    Calls Try.prog 23 #[.agg C, .int .u32 r] w fun e w' => e = .returned (.int .u32 (Crc.acc f r 32 : Nat)) ∧ Below w.heap.size w w' := by
  obtain ⟨hs, hc⟩ := hC
  have HC := Lib.hid hc
  have HF := Lib.hid hf
  have HS := Lib.hid hs
  clear hc hf hs
  go_enter Try.func23, Try.ntmps23
  go_wp2_with (refine wpList_load_row (o := ⟨some 8, _, _, _, _, _⟩) rfl 47 (.tmp 2) rfl w.heap.size rfl 47 C (0, 0) _ (heap_alloc_new w _) Try.underlying47 rfl (by rw [HS.out]; rfl) ?_)
  go_loop [5, 9] (fun x i => ∃ k : Nat, k ≤ 32 ∧ i = .int .i64 k ∧ x = .int .u32 (Crc.acc f r k : Nat)) (fun _ i => 32 - (intOf i).toNat)
  case atStart => exact ⟨0, by omega, rfl, rfl⟩
  case round =>
    obtain ⟨k, hk, rfl, rfl⟩ := hrel
    have hl := Crc.acc_lt f r k (fun i hi => HF.out i (by omega))
    have hs : Crc.acc f r (k + 1) = if r / 2 ^ k % 2 = 1 then Crc.acc f r k ^^^ f k else Crc.acc f r k := rfl
    generalize hx : Crc.acc f r k = x at *
    have HX := Lib.hid hx
    have HA := Lib.hid hs
    clear hx hs
    by_cases hlt : k < 32
    · have hck := run_index47 C k _ hlt (HC.out k hlt)
      have hfk := HF.out k hlt
      by_cases ho : r / 2 ^ k % 2 = 1
      · have hb := bit_true r k hr ho
        have hxx := u32_xor_nat x (f k) hl hfk
        have HO := Lib.hid ho
        clear ho
        go_wp2
        go_round
        case rel => exact ⟨k + 1, by omega, by go_num, val_int (by rw [HA.out, if_pos HO.out])⟩
        case measure => simp [intOf]; omega
      · have hb := bit_false r k hr ho
        have HO := Lib.hid ho
        clear ho
        go_wp2
        go_round
        case rel => exact ⟨k + 1, by omega, by go_num, val_int (by rw [HA.out, if_neg HO.out])⟩
        case measure => simp [intOf]; omega
    · have : k = 32 := by omega
      subst this
      go_wp2
      go_ret
      exact ⟨ret_int (by rw [HX.out]), (Below.refl _ _).alloc (Nat.le_refl _) _⟩

/-- Block g is just these cells. -/
def Lies (w : World) (g : Nat) (t : TypeId) (cs : Array Value) : Prop := w.heap[g]? = some (.cells cs t (0, 0))

theorem Lies.lt {w : World} {g : Nat} {t : TypeId} {cs : Array Value} (h : Lies w g t cs) : g < w.heap.size := by
  refine Classical.byContradiction fun hn => ?_
  unfold Lies at h
  rw [Array.getElem?_eq_none (by omega)] at h
  cases h
theorem Lies.cell {w : World} {g : Nat} {t : TypeId} {cs : Array Value} (h : Lies w g t cs) (i : Nat) : w.cell? ⟨g, i, none⟩ = cs[i]? := cell_of_row w g i cs t (0, 0) h
theorem Lies.free {w : World} {g : Nat} {t : TypeId} {cs : Array Value} (h : Lies w g t cs) (i : Nat) : w.frozen? ⟨g, i, none⟩ = false := frozen_of_row w g i cs t h
theorem Lies.made (w : World) (t : TypeId) (cs : Array Value) : Lies (w.alloc (.cells cs t)) w.heap.size t cs := heap_alloc_new w _
theorem Lies.alloc {w : World} {g : Nat} {t : TypeId} {cs : Array Value} (h : Lies w g t cs) (o : Obj) : Lies (w.alloc o) g t cs := (Below.heap_alloc w o g h.lt).trans h
theorem Lies.put {w : World} {g : Nat} {t : TypeId} {cs : Array Value} (h : Lies w g t cs) (i : Nat) (v : Value) : Lies (w.setCell ⟨g, i, none⟩ v) g t (cs.setIfInBounds i v) := heap_setCell_same w g i cs t v h
theorem Lies.other {w : World} {g : Nat} {t : TypeId} {cs : Array Value} (h : Lies w g t cs) {a : Addr} (ha : g ≠ a.block) (v : Value) : Lies (w.setCell a v) g t cs := (heap_setCell_other w a g v ha).trans h
theorem Lies.below {w w' : World} {g B : Nat} {t : TypeId} {cs : Array Value} (h : Lies w g t cs) (hb : Below B w w') (hg : g < B) : Lies w' g t cs := (hb.block g hg).trans h

theorem Lies.there {w : World} {g : Nat} {t : TypeId} {cs : Array Value} (h : Lies w g t cs) (n : Nat) (hn : n ≤ cs.size) : w.there g 0 n := fun j hj => by
  rw [Nat.zero_add]
  exact ⟨by rw [h.cell, Array.getElem?_eq_getElem (by omega)]; rfl, h.free j⟩
theorem Lies.puts' {g : Nat} {t : TypeId} : ∀ (vs : List Value) (o : Nat) (w : World) (cs : Array Value), Lies w g t cs → o + vs.length ≤ cs.size →
    ∃ ds, Lies (w.setCells g o vs) g t ds ∧ ds.size = cs.size ∧ ∀ j, ds[j]? = if o ≤ j ∧ j < o + vs.length then vs[j - o]? else cs[j]?
  | [], o, w, cs, h, _ => ⟨cs, h, rfl, fun j => by rw [if_neg (by simp)]⟩
  | v :: r, o, w, cs, h, hn => by
    obtain ⟨ds, h1, h2, h3⟩ := Lies.puts' r (o + 1) _ _ (h.put o v) (by simp at hn ⊢; omega)
    refine ⟨ds, h1, by simpa using h2, fun j => ?_⟩
    rw [h3 j]
    simp only [List.length_cons] at hn ⊢
    rw [Array.getElem?_setIfInBounds]
    by_cases a : o + 1 ≤ j ∧ j < o + 1 + r.length
    · rw [if_pos a, if_pos (by omega)]
      obtain ⟨i, hi⟩ : ∃ i, j - o = i + 1 := ⟨j - o - 1, by omega⟩
      rw [hi, List.getElem?_cons_succ]
      congr 1; omega
    · rw [if_neg a]
      by_cases b : o = j
      · subst b
        rw [if_pos rfl, if_pos (by omega), if_pos (by omega), Nat.sub_self, List.getElem?_cons_zero]
      · rw [if_neg b, if_neg (by omega)]
theorem Lies.puts {w : World} {g : Nat} {t : TypeId} {cs : Array Value} (h : Lies w g t cs) (T : Array Value) (hT : T.size = cs.size) : Lies (w.setCells g 0 T.toList) g t T := by
  obtain ⟨ds, h1, h2, h3⟩ := Lies.puts' T.toList 0 w cs h (by simp; omega)
  have : ds = T := by
    apply Array.ext_getElem?
    intro j
    rw [h3 j]
    by_cases hj : j < T.size
    · rw [if_pos (by simp; omega)]; simp
    · rw [if_neg (by simp; omega), Array.getElem?_eq_none (by omega), Array.getElem?_eq_none (by omega)]
  rw [this] at h1; exact h1
theorem Lies.puts_other {w : World} {g b : Nat} {t : TypeId} {cs : Array Value} (h : Lies w g t cs) (hne : g ≠ b) (vs : List Value) (o : Nat) : Lies (w.setCells b o vs) g t cs := by
  induction vs generalizing w o with
  | nil => exact h
  | cons v r ih => exact ih (h.other (a := ⟨b, o, none⟩) hne v) (o + 1)
theorem below_puts {B b : Nat} {a w : World} (h : Below B a w) (hb : B ≤ b) (vs : List Value) (o : Nat) : Below B a (w.setCells b o vs) := by
  induction vs generalizing w o with
  | nil => exact h
  | cons v r ih => exact ih (h.setCell (p := ⟨b, o, none⟩) hb v) (o + 1)
theorem Tab.len {C : Array Value} {f : Nat → Nat} (h : Tab C f) : C.size = 32 := h.1
theorem Tab.one {C : Array Value} {f : Nat → Nat} (h : Tab C f) : C.all (·.oneCell') = true := by
  rw [Array.all_eq_true]
  intro i hi
  have := h.2 i (by rw [← h.1]; exact hi)
  rw [Array.getElem?_eq_getElem hi] at this
  injection this with this
  rw [this]; rfl

theorem size_one (w : World) (o : Obj) : (w.alloc o).heap.size = w.heap.size + 1 := by simp
theorem Lies.made2 (w : World) (o : Obj) (t : TypeId) (cs : Array Value) : Lies ((w.alloc o).alloc (.cells cs t)) (w.heap.size + 1) t cs := by
  have := Lies.made (w.alloc o) t cs
  rwa [size_one] at this
theorem Lies.made3 (w : World) (o o2 : Obj) (t : TypeId) (cs : Array Value) : Lies (((w.alloc o).alloc o2).alloc (.cells cs t)) (w.heap.size + 1 + 1) t cs := by
  have := Lies.made2 (w.alloc o) o2 t cs
  rwa [size_one] at this

/-- A whole table is read out of its block. -/
theorem wpl_load47 {ops : Array Oper} {rest : List Oper} {a : Act} {w : World} {Q : Exit → Act → World → Prop} (dst : Option Tmp) (ty : TypeId) (pos : String) (aft : Array Edge) (x : Operand) (g : Nat) (T : Array Value)
    (hx : a.eval x = .pointer (some ⟨g, 0, none⟩)) (hg : Lies w g 47 T) (hT : T.size = 32) (h : wpList Try.prog ops Q rest (a.put dst (.agg T)) w) :
    wpList Try.prog ops Q (⟨dst, .load 47 x, ty, pos, aft, none⟩ :: rest) a w :=
  wpList_load_row (o := ⟨dst, .load 47 x, ty, pos, aft, none⟩) rfl 47 x rfl g hx 47 T (0, 0) _ hg Try.underlying47 rfl (by rw [hT]; rfl) h
/-- A whole table is written into its block. -/
theorem wpl_store47 {ops : Array Oper} {rest : List Oper} {a : Act} {w : World} {Q : Exit → Act → World → Prop} (ty : TypeId) (pos : String) (aft : Array Edge) (x y : Operand) (g : Nat) (T Z : Array Value) (f : Nat → Nat)
    (hx : a.eval x = .pointer (some ⟨g, 0, none⟩)) (hy : a.eval y = .agg T) (hg : Lies w g 47 Z) (hZ : Z.size = 32) (hT : Tab T f) (h : wpList Try.prog ops Q rest a (w.setCells g 0 T.toList)) :
    wpList Try.prog ops Q (⟨none, .store 47 x y, ty, pos, aft, none⟩ :: rest) a w :=
  wpList_store_mid (op := ⟨none, .store 47 x y, ty, pos, aft, none⟩) rfl 47 x y rfl g 0 T hx hy (hg.there T.size (by rw [hZ, hT.1]; exact Nat.le_refl _)) (by rw [hT.1]; rfl) hT.one h

def SqR (C : Array Value) (f : Nat → Nat) (w : World) (i : Value) (wr : World) : Prop :=
  ∃ (k : Nat) (T Z : Array Value), k ≤ 32 ∧ i = .int .i64 k ∧ Lies wr w.heap.size 47 C ∧ Lies wr (w.heap.size + 1) 47 Z ∧ Z.size = 32 ∧ Lies wr (w.heap.size + 1 + 1) 47 T ∧ T.size = 32 ∧ (∀ j, j < k → T[j]? = some (.int .u32 (Crc.acc f (f j) 32 : Nat))) ∧ Below w.heap.size w wr

set_option maxHeartbeats 400000 in
theorem squared_any (C : Array Value) (f : Nat → Nat) (w : World) (hC : Tab C f) (hf : ∀ i, i < 32 → f i < 4294967296) :
    Calls Try.prog 24 #[.agg C] w fun e w' => ∃ D, e = .returned (.agg D) ∧ Tab D (fun i => Crc.acc f (f i) 32) ∧ Below w.heap.size w w' := by
  have hs := hC.1
  have HC := Lib.hid hC
  have HF := Lib.hid hf
  have HS := Lib.hid hs
  clear hC hf hs
  go_enter Try.func24, Try.ntmps24
  go_wp2_with (first | (refine wpList_load_row (o := ⟨some 6, _, _, _, _, _⟩) rfl 47 (.tmp 1) rfl w.heap.size rfl 47 C (0, 0) _ (((Lies.made w 47 C).alloc _).alloc _) Try.underlying47 rfl (by rw [HS.out]; rfl) ?_))
  go_loopw [7] (SqR C f w) (fun i _ => 32 - (intOf i).toNat)
  case atStart =>
    exact ⟨0, _, _, by omega, rfl, ((Lies.made w 47 C).alloc _).alloc _, (Lies.made2 w _ 47 _).alloc _, rfl, Lies.made3 w _ _ 47 _, rfl, fun j hj => by omega, (((Below.refl _ _).alloc (Nat.le_refl _) _).alloc (by simp) _).alloc (by simp; omega) _⟩
  case round =>
    obtain ⟨k, T, Z, hk, rfl, hl1, hl2, hz2, hl3, hz3, hT, hbel⟩ := hrel
    have HT := Lib.hid hT
    have HZ2 := Lib.hid hz2
    have HZ3 := Lib.hid hz3
    clear hT hz2 hz3
    by_cases hlt : k < 32
    · have hck := run_index47 C k _ hlt (HC.out.2 k hlt)
      go_wp2_with (first | (refine wpList_load_row (o := ⟨some 12, _, _, _, _, _⟩) rfl 47 (.tmp 1) rfl w.heap.size rfl 47 C (0, 0) _ hl1 Try.underlying47 rfl (by rw [HS.out]; rfl) ?_))
      refine (of_any C f (f k) _ HC.out (HF.out k hlt) HF.out).mono ?_
      rintro e w2 ⟨rfl, hb2⟩
      have g1 := hl1.below hb2 hl1.lt
      have g2 := hl2.below hb2 hl2.lt
      have g3 := hl3.below hb2 hl3.lt
      have hc3 := (g3.cell k).trans (Array.getElem?_eq_getElem (by rw [HZ3.out]; exact hlt))
      have hf3 := g3.free k
      go_wp2
      go_roundw
      case rel =>
        refine ⟨k + 1, _, Z, by omega, by go_num, g1.other (a := ⟨w.heap.size + 1 + 1, k, none⟩) (by simp; omega) _, g2.other (a := ⟨w.heap.size + 1 + 1, k, none⟩) (by simp) _, HZ2.out, g3.put k _, by rw [Array.size_setIfInBounds]; exact HZ3.out, fun j hj => ?_, (hbel.trans (hb2.mono hbel.size)).setCell (by simp; omega) _⟩
        have hz3 := HZ3.out
        rw [Array.getElem?_setIfInBounds]
        by_cases hjk : k = j
        · subst hjk; rw [if_pos rfl, if_pos (by omega)]
        · rw [if_neg hjk]; exact HT.out j (by omega)
      case measure => simp [intOf]; omega
    · have hk2 : k = 32 := by omega
      subst hk2
      have hTab : Tab T (fun i => Crc.acc f (f i) 32) := ⟨HZ3.out, HT.out⟩
      have hfin := hl2.puts T (by rw [HZ2.out, HZ3.out])
      have hbf := below_puts hbel (b := w.heap.size + 1) (by omega) T.toList 0
      have HTab := Lib.hid hTab
      have HFin := Lib.hid hfin
      clear hTab hfin
      go_wp2_with (first
        | ((with_reducible refine wpl_load47 (some 17) _ _ _ (.tmp 3) _ T ?hx hl3 HZ3.out ?_); (case hx => rfl))
        | ((with_reducible refine wpl_store47 _ _ _ (.tmp 2) (.tmp 17) _ T Z _ ?hx ?hy hl2 HZ2.out HTab.out ?_); (case hx => rfl); (case hy => rfl)))
      refine bodyPost_ret (v := .agg T) (results_cell_row Try.results24 _ _ (w.heap.size + 1) 47 T (0, 0) _ rfl HFin.out Try.underlying47 rfl (by rw [HZ3.out]; rfl)) rfl ⟨T, rfl, HTab.out, hbf⟩

end Go.Proofs.Ytbmempjedpgfdaa
