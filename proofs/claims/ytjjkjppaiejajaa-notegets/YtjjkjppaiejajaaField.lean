/-
  The contracts of package field's writer: for every number.
-/
import Derived.Test.YtjjkjppaiejajaaBytes
import Derived.Laws.CopyOwn
import Derived.Deep.RegionLaw
import Derived.Deep.DrawnRows
import Derived.IntWalk
namespace Go.Proofs.Ytjjkjppaiejajaa
open Go.RowKit


/-- 'copy' of as many bytes as a new row has. -/
theorem wpl_copy {ops : Array Oper} {rest : List Oper} {a : Act} {w : World} {Q : Exit → Act → World → Prop} (dst : Option Tmp) (ty : TypeId) (pos : String) (aft : Array Edge) (d s : Operand)
    (g n c : Nat) (A : Option Addr) (l : List Nat) (w0 : World) (B : Nat)
    (hd : a.eval d = .slice (some ⟨g, 0, none⟩) n n) (hs : a.eval s = .slice A n c) (hg : Lies w g 5 (zrow n)) (hB : Bys w A n l) (hb : Below B w0 w) (hBg : B ≤ g)
    (h : ∀ w', Lies w' g 5 (vals l).toArray → Below B w0 w' → wpList Try.prog ops Q rest (a.put dst (goInt n)) w') :
    wpList Try.prog ops Q (⟨dst, .call { callee := .builtin .copy, args := #[d, s], argTypes := #[24, 24] }, ty, pos, aft, none⟩ :: rest) a w := by
  have hl : (vals l).length = n := by simp [vals, hB.1]
  have hz : (zrow n).toList.length = n := by rw [zrow_eq]; simp
  refine wpList_copy_splice (o := ⟨dst, .call { callee := .builtin .copy, args := #[d, s], argTypes := #[24, 24] }, ty, pos, aft, none⟩) rfl d s 24 24 rfl 5 Try.underlying24 (by kernel_rfl) _ _ _ _ _ _ hd hs g 0 (zrow n).toList 5 (by rw [Array.toArray_toList]; exact hg) (vals l) (by simp [hl]) ?_ (by simp only [hl, hz]; omega) (fun u hu => by simp only [vals, List.mem_map] at hu; obtain ⟨_, _, rfl⟩ := hu; rfl) B w0 hb hBg ?_
  · intro h0
    obtain ⟨b, off, e, _⟩ := hB.2.2 (by omega)
    exact ⟨rfl, _, e, hB.cells _ e⟩
  · intro w' hh hb'
    rw [hl]
    refine h w' ?_ hb'
    have := hh.out
    unfold splice at this
    rw [List.take_zero, List.nil_append, hl, Nat.zero_add, List.drop_of_length_le (by omega), List.append_nil] at this
    exact this

theorem Own.made {w : World} {g B : Nat} {l : List Nat} (h : Lies w g 5 (vals l).toArray) (hB : B ≤ g) (hl : ∀ c ∈ l, c < 256) (hn : l.length ≤ maxLen) : Own w B (.slice (some ⟨g, 0, none⟩) l.length l.length) l :=
  ⟨⟨by simp [vals], .inr ⟨g, l.length, _, rfl, hB, h, Nat.le_refl _, hn, by simp [vals], by rw [Nat.mul_one, List.take_of_length_le (by simp [vals])]⟩⟩, hl⟩

/-- The new row that 'fresh' returns. -/
def FreshPost (w : World) (n : Nat) (l : List Nat) (e : Ending) (w' : World) : Prop :=
  e = .returned (.slice (some ⟨w.heap.size, 0, none⟩) n n) ∧ Own w' w.heap.size (.slice (some ⟨w.heap.size, 0, none⟩) n n) l ∧ Below w.heap.size w w'

set_option maxHeartbeats 400000 in
theorem fresh_any (a : Option Addr) (n cap : Nat) (l : List Nat) (w : World) (hB : Bys w a n l) (hn : n ≤ 1000000) :
    Calls Try.prog 48 #[.slice a n cap] w (FreshPost w n l) := by
  have HB := Lib.hid hB
  clear hB
  have hmk := run_zrow n hn
  go_enter Try.func48, Try.ntmps48
  go_wp2_with (first
    | ((with_reducible refine wpl_copy (some 9) _ _ _ (.tmp 7) (.tmp 8) w.heap.size n cap a l w w.heap.size ?hd ?hs (Lies.made _ _ _) (HB.out.alloc _) ((Below.refl _ _).alloc (Nat.le_refl _) _) (Nat.le_refl _) ?_); (case hd => rfl); (case hs => rfl); (intro w' hl hb)))
  go_ret
  have hlen := HB.out.1
  subst hlen
  exact ⟨rfl, Own.made hl (Nat.le_refl _) HB.out.2.1 (small_len _ hn), hb⟩

/-- A writer, at block p, that holds l. -/
def Wr (w : World) (p B : Nat) (l : List Nat) : Prop := B ≤ p ∧ ∃ v, Lies w p 77 #[v, .bool false] ∧ Own w B v l
/-- No block of bytes, no writer. -/
def Aside (o : Obj) : Prop := (∀ cs fr, o ≠ .cells cs 5 fr) ∧ ∀ cs fr, o ≠ .cells cs 77 fr
/-- All blocks but those of bytes and of writers are as they were. -/
def Keep (w w' : World) : Prop := ∀ (g : Nat) (o : Obj), Aside o → w.heap[g]? = some o → w'.heap[g]? = some o
theorem Keep.lies {w w' : World} (h : Keep w w') {g : Nat} {t : TypeId} {cs : Array Value} (h1 : t ≠ 5) (h2 : t ≠ 77) (h3 : Lies w g t cs) : Lies w' g t cs :=
  h g _ ⟨fun _ _ e => by injection e with _ e; exact h1 e, fun _ _ e => by injection e with _ e; exact h2 e⟩ h3
theorem Keep.iter {w w' : World} (h : Keep w w') {g : Nat} {s : ByteArray} {p : Nat} (h3 : w.heap[g]? = some (.stringIter s p)) : w'.heap[g]? = some (.stringIter s p) :=
  h g _ ⟨(fun _ _ e => by cases e), (fun _ _ e => by cases e)⟩ h3
theorem Keep.refl (w : World) : Keep w w := fun _ _ _ h => h
theorem Keep.trans {a b c : World} (h : Keep a b) (k : Keep b c) : Keep a c := fun g o h1 h3 => k g o h1 (h g o h1 h3)
theorem heap_lt {w : World} {g : Nat} {o : Obj} (h : w.heap[g]? = some o) : g < w.heap.size := (Array.getElem?_eq_some_iff.1 h).1
theorem Keep.alloc {a w : World} (h : Keep a w) (o : Obj) : Keep a (w.alloc o) := fun g x h1 h3 => (Below.heap_alloc w o g (heap_lt (h g x h1 h3))).trans (h g x h1 h3)
theorem Keep.drew {a w : World} (h : Keep a w) : Keep a w.drew := h
def WrPost (w : World) (p B : Nat) (l : List Nat) (e : Ending) (w' : World) : Prop := e = .returned (.pointer (some ⟨p, 0, none⟩)) ∧ Wr w' p B l ∧ Below B w w' ∧ Keep w w'

theorem Own.ne {w : World} {B p : Nat} {v : Value} {l : List Nat} {t : TypeId} {cs : Array Value} (h : Own w B v l) (hp : Lies w p t cs) (ht : t ≠ 5) : some p ≠ v.ownBlock := by
  rcases h.1.2 with ⟨rfl, _⟩ | ⟨g, cap, cur, rfl, _, hg, _⟩
  · simp [Value.ownBlock]
  · intro e
    have : p = g := by simpa [Value.ownBlock] using e
    subst this
    unfold Lies at hp
    rw [hg] at hp
    injection hp with hp
    injection hp with _ h2
    exact ht h2.symm
theorem Own.setOther {w : World} {B : Nat} {v : Value} {l : List Nat} (h : Own w B v l) {a : Addr} (ha : some a.block ≠ v.ownBlock) (u : Value) : Own (w.setCell a u) B v l := by
  obtain ⟨⟨h0, h1⟩, h2⟩ := h
  refine ⟨⟨h0, ?_⟩, h2⟩
  rcases h1 with h1 | ⟨g, cap, cur, hv, hb, hg, hr⟩
  · exact .inl h1
  · refine .inr ⟨g, cap, cur, hv, hb, Lies.other hg (fun e => ha (by rw [hv, ← e]; rfl)) u, hr⟩
theorem Lies.grown {w w' : World} {g : Nat} {t : TypeId} {cs : Array Value} {r : Option Nat} (h : Lies w g t cs) (hg : w.grownBy w' r) (hr : some g ≠ r) : Lies w' g t cs := (hg.block g h.lt hr).trans h

theorem Keep.grown {a w w' : World} {B : Nat} {v : Value} {l : List Nat} (h : Keep a w) (hO : Own w B v l) (hg : w.grownBy w' v.ownBlock) : Keep a w' := fun g o h1 h3 => by
  have hh := h g o h1 h3
  refine (hg.block g (heap_lt hh) ?_).trans hh
  rcases hO.1.2 with ⟨rfl, _⟩ | ⟨g', cap, cur, rfl, _, hgg, _⟩
  · simp [Value.ownBlock]
  · intro e
    have : g = g' := by simpa [Value.ownBlock] using e
    subst this
    rw [hgg] at hh
    injection hh with hh
    exact h1.1 _ _ hh.symm
theorem Keep.put {a w : World} {p : Nat} {cs : Array Value} (h : Keep a w) (hp : Lies w p 77 cs) (i : Nat) (v : Value) : Keep a (w.setCell ⟨p, i, none⟩ v) := fun g o h1 h3 => by
  have hh := h g o h1 h3
  refine (heap_setCell_other w ⟨p, i, none⟩ g v (fun e => ?_)).trans hh
  have e : g = p := e
  subst e
  unfold Lies at hp
  rw [hp] at hh
  injection hh with hh
  exact h1.2 _ _ hh.symm

theorem newWriter_any (w : World) : Calls Try.prog 27 #[] w (WrPost w w.heap.size w.heap.size []) := by
  go_enter Try.func27, Try.ntmps27
  go_wp2
  go_ret
  exact ⟨rfl, ⟨Nat.le_refl _, _, Lies.made w 77 _, Own.nil _ _⟩, (Below.refl _ _).alloc (Nat.le_refl _) _, (Keep.refl _).alloc _⟩

def NumR (w : World) (p B n k : Nat) (l : List Nat) (i : Value) (wr : World) : Prop := ∃ j : Nat, j ≤ k ∧ i = .int .i64 j ∧ Wr wr p B (l ++ (Ent.be k n).take j) ∧ Below B w wr ∧ Keep w wr

set_option maxHeartbeats 400000 in
theorem wnumber_any (p B n k : Nat) (l : List Nat) (w : World) (hW : Wr w p B l) (hk : k ≤ 8) (hl : l.length ≤ 2000) :
    Calls Try.prog 43 #[.pointer (some ⟨p, 0, none⟩), .int .u64 n, .int .i64 k] w (WrPost w p B (l ++ Ent.be k n)) := by
  obtain ⟨hBp, v0, hL0, hO0⟩ := hW
  have hc1 := hL0.cell 1
  have HL := Lib.hid hL0
  have HO := Lib.hid hO0
  clear hL0 hO0
  go_enter Try.func43, Try.ntmps43
  go_wp2_with fail
  go_loopw [18] (NumR w p B n k l) (fun i _ => k - (intOf i).toNat)
  case atStart => exact ⟨0, by omega, rfl, ⟨hBp, v0, HL.out, by simpa using HO.out⟩, Below.refl _ _, Keep.refl _⟩
  case round =>
    obtain ⟨j, hj, rfl, ⟨_, v, hL, hO⟩, hbel, hkp⟩ := hrel
    have HKP := Lib.hid hkp
    clear hkp
    by_cases hlt : j < k
    · have hc0 := hL.cell 0
      have hf0 := hL.free 0
      have e1 : IntKind.i64.wrap ((k : Int) - 1) = (k : Int) - 1 := IntWalk.i64_in _ (by omega)
      have e2 : IntKind.i64.wrap ((k : Int) - 1 - (j : Int)) = ((k - 1 - j : Nat) : Int) := by rw [IntWalk.i64_in _ (by omega)]; omega
      generalize hm : k - 1 - j = m at *
      have e3 : IntKind.i64.wrap (8 * (m : Int)) = 8 * (m : Int) := IntWalk.i64_in _ (by omega)
      have hy : n / 2 ^ (8 * m) % 256 < 256 := Nat.mod_lt _ (by decide)
      have e4 : IntKind.u8.wrap ((n : Int) / 2 ^ (8 * (m : Int)).toNat) = ((n / 2 ^ (8 * m) % 256 : Nat) : Int) := by
        rw [show (8 * (m : Int)).toNat = 8 * m from by omega, IntKind.wrap_u8, Int.natCast_emod, Int.natCast_ediv, Int.natCast_pow]; rfl
      have hbe : (Ent.be k n).take (j + 1) = (Ent.be k n).take j ++ [n / 2 ^ (8 * m) % 256] := by
        rw [take_one _ _ (by rw [Ent.be_len]; exact hlt)]
        simp [Ent.be, List.getD, hlt, hm]
      have hll : (l ++ (Ent.be k n).take j).length + 1 ≤ 1000000 := by simp [Ent.be_len]; omega
      generalize n / 2 ^ (8 * m) % 256 = y at *
      have hm8 : (m : Int) ≤ 7 := by omega
      have hc0a := (hL.alloc (.cells #[.int .u8 (y : Nat)] 5)).cell 0
      have HBE := Lib.hid hbe
      have HM := Lib.hid hm
      have HL1 := Lib.hid hL
      have HO1 := Lib.hid hO
      clear hbe hm hL hO HL HO
      generalize hlj : l ++ (Ent.be k n).take j = lj at *
      have HLJ := Lib.hid hlj
      clear hlj
      go_wp2_with fail
      go_region_law ((refine stp_append (some 35) _ _ _ (.tmp 25) (.tmp 34) B _ _ (some ⟨wr.heap.size, 0, none⟩) 1 1 [y] (by rfl) (by rfl) (HO1.out.alloc _).drew (Bys.const wr _ [y] (0, 0) 1 (by rfl) (by rfl) (by simp; omega)).drew (by omega) hll (Nat.le_trans hBp (Nat.le_trans (Nat.le_of_lt HL1.out.lt) (by simp))) ?_; intro g cap w1 hown1 hgrow; have hL1 := Lies.grown (w := (wr.alloc _).drew) (HL1.out.alloc _) hgrow (HO1.out.ne HL1.out (by decide)); have hd0 := hL1.cell 0; have hd1 := hL1.free 0))
      all_goals
        go_wp2
        have hb1 := (HO1.out.alloc _).drew.grows hgrow ((hbel.alloc (Nat.le_trans hBp (Nat.le_of_lt HL1.out.lt)) _).drew) (Nat.le_refl _) (Nat.le_trans hBp (Nat.le_trans (Nat.le_of_lt HL1.out.lt) (by simp)))
        have hk1 := ((HKP.out.alloc (.cells #[.int .u8 (y : Nat)] 5)).drew).grown (HO1.out.alloc _).drew hgrow
        go_roundw
        case rel => exact ⟨j + 1, by omega, by go_num, ⟨hBp, _, hL1.put 0 _, by rw [HBE.out, ← List.append_assoc, HLJ.out]; exact hown1.setOther (a := ⟨p, 0, none⟩) (hown1.ne hL1 (by decide)) _⟩, hb1.setCell hBp _, hk1.put hL1 0 _⟩
        case measure => simp [intOf]; omega
    · have hjk : j = k := by omega
      subst hjk
      rw [List.take_of_length_le (by rw [Ent.be_len]; exact Nat.le_refl _)] at hO
      have HL1 := Lib.hid hL
      have HO1 := Lib.hid hO
      clear hL hO
      go_wp2
      go_ret
      exact ⟨rfl, ⟨hBp, v, HL1.out, HO1.out⟩, hbel, HKP.out⟩


end Go.Proofs.Ytjjkjppaiejajaa
