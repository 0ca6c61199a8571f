/-
  Texts of one proof, in their order: FeNBox, FeWrite, FeRdr, FeRd2.
-/
import Derived.Lib.OthersKept
import Derived.Lib.Bytealg
import Derived.Deep.RegionHeld3
import Derived.IntWalk
import Derived.Test.YtpbclmnhkmcknaaGreatZ01
namespace Go.Proofs.YtpbclmnhkmcknaaGreat.Fe
open Go.RowKit
set_option maxRecDepth 100000

/-- A note's cells. -/
abbrev evs (e : Note) (K D : Value) : Array Value := #[.int .i64 e.kind, .int .u32 (e.epoch : Nat), .int .u32 (e.old : Nat), .int .u64 (e.lsn : Nat), .int .u64 (e.tick : Nat), .int .u32 (e.order : Nat), .int .i64 e.step, .bool e.undo, .int .i64 e.code, K, D]
theorem Lies.cellsE {w : World} {g : Nat} {e : Note} {K D : Value} (h : Lies w g 55 (evs e K D)) : w.cell? ⟨g, 0, none⟩ = some (.int .i64 e.kind) ∧ w.cell? ⟨g, 1, none⟩ = some (.int .u32 (e.epoch : Nat)) ∧ w.cell? ⟨g, 2, none⟩ = some (.int .u32 (e.old : Nat)) ∧ w.cell? ⟨g, 3, none⟩ = some (.int .u64 (e.lsn : Nat)) ∧ w.cell? ⟨g, 4, none⟩ = some (.int .u64 (e.tick : Nat)) ∧ w.cell? ⟨g, 5, none⟩ = some (.int .u32 (e.order : Nat)) ∧ w.cell? ⟨g, 6, none⟩ = some (.int .i64 e.step) ∧ w.cell? ⟨g, 7, none⟩ = some (.bool e.undo) ∧ w.cell? ⟨g, 8, none⟩ = some (.int .i64 e.code) ∧ w.cell? ⟨g, 9, none⟩ = some (K) ∧ w.cell? ⟨g, 10, none⟩ = some (D) :=
  ⟨h.cell 0, h.cell 1, h.cell 2, h.cell 3, h.cell 4, h.cell 5, h.cell 6, h.cell 7, h.cell 8, h.cell 9, h.cell 10⟩

/-- The text of a kind's letters. -/
def NamesPost (k : Int) (w : World) (x : Ending) (w' : World) : Prop := x = .returned (.string (str (Ent.lets k))) ∧ w' = w
theorem names_0 (k : Int) (w : World) (h : k < 1 ∨ 13 < k) : Calls Tryz.prog 152 #[.int .i64 k] w (NamesPost k w) := by
  have h1 : (k == 1) = false := by rw [beq_eq_false_iff_ne]; omega
  have h2 : (k == 2) = false := by rw [beq_eq_false_iff_ne]; omega
  have h3 : (k == 3) = false := by rw [beq_eq_false_iff_ne]; omega
  have h4 : (k == 4) = false := by rw [beq_eq_false_iff_ne]; omega
  have h5 : (k == 5) = false := by rw [beq_eq_false_iff_ne]; omega
  have h6 : (k == 6) = false := by rw [beq_eq_false_iff_ne]; omega
  have h7 : (k == 7) = false := by rw [beq_eq_false_iff_ne]; omega
  have h8 : (k == 8) = false := by rw [beq_eq_false_iff_ne]; omega
  have h9 : (k == 9) = false := by rw [beq_eq_false_iff_ne]; omega
  have h10 : (k == 10) = false := by rw [beq_eq_false_iff_ne]; omega
  have h11 : (k == 11) = false := by rw [beq_eq_false_iff_ne]; omega
  have h12 : (k == 12) = false := by rw [beq_eq_false_iff_ne]; omega
  have h13 : (k == 13) = false := by rw [beq_eq_false_iff_ne]; omega
  unfold NamesPost
  rw [Ent.lets_none k h]
  go_enter Tryz.func152, Tryz.ntmps152
  go_wp2
  go_ret
  exact ⟨rfl, rfl⟩
theorem names_1 (w : World) : Calls Tryz.prog 152 #[.int .i64 1] w (NamesPost 1 w) := by
  go_enter Tryz.func152, Tryz.ntmps152
  go_wp2
  go_ret
  exact ⟨rfl, rfl⟩
theorem names_2 (w : World) : Calls Tryz.prog 152 #[.int .i64 2] w (NamesPost 2 w) := by
  go_enter Tryz.func152, Tryz.ntmps152
  go_wp2
  go_ret
  exact ⟨rfl, rfl⟩
theorem names_3 (w : World) : Calls Tryz.prog 152 #[.int .i64 3] w (NamesPost 3 w) := by
  go_enter Tryz.func152, Tryz.ntmps152
  go_wp2
  go_ret
  exact ⟨rfl, rfl⟩
theorem names_4 (w : World) : Calls Tryz.prog 152 #[.int .i64 4] w (NamesPost 4 w) := by
  go_enter Tryz.func152, Tryz.ntmps152
  go_wp2
  go_ret
  exact ⟨rfl, rfl⟩
theorem names_5 (w : World) : Calls Tryz.prog 152 #[.int .i64 5] w (NamesPost 5 w) := by
  go_enter Tryz.func152, Tryz.ntmps152
  go_wp2
  go_ret
  exact ⟨rfl, rfl⟩
theorem names_6 (w : World) : Calls Tryz.prog 152 #[.int .i64 6] w (NamesPost 6 w) := by
  go_enter Tryz.func152, Tryz.ntmps152
  go_wp2
  go_ret
  exact ⟨rfl, rfl⟩
theorem names_7 (w : World) : Calls Tryz.prog 152 #[.int .i64 7] w (NamesPost 7 w) := by
  go_enter Tryz.func152, Tryz.ntmps152
  go_wp2
  go_ret
  exact ⟨rfl, rfl⟩
theorem names_8 (w : World) : Calls Tryz.prog 152 #[.int .i64 8] w (NamesPost 8 w) := by
  go_enter Tryz.func152, Tryz.ntmps152
  go_wp2
  go_ret
  exact ⟨rfl, rfl⟩
theorem names_9 (w : World) : Calls Tryz.prog 152 #[.int .i64 9] w (NamesPost 9 w) := by
  go_enter Tryz.func152, Tryz.ntmps152
  go_wp2
  go_ret
  exact ⟨rfl, rfl⟩
theorem names_10 (w : World) : Calls Tryz.prog 152 #[.int .i64 10] w (NamesPost 10 w) := by
  go_enter Tryz.func152, Tryz.ntmps152
  go_wp2
  go_ret
  exact ⟨rfl, rfl⟩
theorem names_11 (w : World) : Calls Tryz.prog 152 #[.int .i64 11] w (NamesPost 11 w) := by
  go_enter Tryz.func152, Tryz.ntmps152
  go_wp2
  go_ret
  exact ⟨rfl, rfl⟩
theorem names_12 (w : World) : Calls Tryz.prog 152 #[.int .i64 12] w (NamesPost 12 w) := by
  go_enter Tryz.func152, Tryz.ntmps152
  go_wp2
  go_ret
  exact ⟨rfl, rfl⟩
theorem names_13 (w : World) : Calls Tryz.prog 152 #[.int .i64 13] w (NamesPost 13 w) := by
  go_enter Tryz.func152, Tryz.ntmps152
  go_wp2
  go_ret
  exact ⟨rfl, rfl⟩
theorem names_any (k : Int) (w : World) : Calls Tryz.prog 152 #[.int .i64 k] w (NamesPost k w) := by
  by_cases h : k < 1 ∨ 13 < k
  · exact names_0 k w h
  · rcases Ent.kinds k (by omega) (by omega) with rfl | rfl | rfl | rfl | rfl | rfl | rfl | rfl | rfl | rfl | rfl | rfl | rfl
    · exact names_1 w
    · exact names_2 w
    · exact names_3 w
    · exact names_4 w
    · exact names_5 w
    · exact names_6 w
    · exact names_7 w
    · exact names_8 w
    · exact names_9 w
    · exact names_10 w
    · exact names_11 w
    · exact names_12 w
    · exact names_13 w

/-- 'strings.ContainsRune' of an ASCII letter. -/
theorem indexByte_mem (l : List UInt8) (c : UInt8) : decide (0 ≤ Lib.indexByte l c) = l.contains c := by
  induction l with
  | nil => rfl
  | cons b r ih =>
    have hge := Lib.indexByte_ge r c
    unfold Lib.indexByte
    by_cases hb : (b == c) = true
    · have : c = b := by simpa using (beq_iff_eq.1 hb).symm
      simp [this]
    · have hb' : (b == c) = false := by simpa using hb
      have hne : ¬ c = b := fun e => by rw [e] at hb'; simp at hb'
      rw [hb', List.contains_cons, show (c == b) = false from by simpa using hne, Bool.false_or, ← ih]
      simp only [Bool.false_eq_true, if_false]
      split
      · rename_i h
        have h : Lib.indexByte r c = -1 := by simpa using h
        rw [h]
      · rename_i h
        have h : Lib.indexByte r c ≠ -1 := by simpa using h
        rw [Bool.eq_iff_iff]
        simp
        omega
theorem mem_ofNat (s : List Nat) (c : Nat) (hs : ∀ x ∈ s, x < 256) (hc : c < 256) : (s.map UInt8.ofNat).contains (UInt8.ofNat c) = s.contains c := by
  rw [Bool.eq_iff_iff, List.contains_iff_mem, List.contains_iff_mem]
  constructor
  · intro h
    obtain ⟨x, h1, h2⟩ := List.mem_map.1 h
    have e := congrArg UInt8.toNat h2
    simp at e
    rw [Nat.mod_eq_of_lt (hs x h1), Nat.mod_eq_of_lt hc] at e
    rw [← e]; exact h1
  · exact fun h => List.mem_map.2 ⟨c, h, rfl⟩
theorem str_data (l : List Nat) : (str l).data.toList = l.map UInt8.ofNat := by simp [str, strOfNums]

set_option maxHeartbeats 1000000 in
set_option maxRecDepth 100000 in
theorem stringsliteIndexByte_any (s : ByteArray) (c : Int) (w : World) :
    Calls Tryz.prog 213 #[.string s, .int .u8 c] w fun e w' => e = .returned (.int .i64 (Lib.indexByte s.data.toList c.toNat.toUInt8)) ∧ w' = w := by
  go_enter Tryz.func213, Tryz.ntmps213
  go_wp2
  rw [run_callFunc_extern Tryz.func214 (by kernel_rfl) (by kernel_rfl) (by kernel_rfl) (e := Extern.BytealgIndexByte.indexByte) (by kernel_rfl), Lib.run_indexByteString]
  simp only [Result.andThen]
  rw [Oper.upon_value]
  go_wp2
  go_ret
  exact ⟨rfl, rfl⟩
theorem indexByte_any (s : ByteArray) (c : Int) (w : World) :
    Calls Tryz.prog 209 #[.string s, .int .u8 c] w fun e w' => e = .returned (.int .i64 (Lib.indexByte s.data.toList c.toNat.toUInt8)) ∧ w' = w := by
  go_enter Tryz.func209, Tryz.ntmps209
  go_wp2_with fail
  with_reducible refine (stringsliteIndexByte_any _ _ _).mono ?_
  rintro e w2 ⟨rfl, rfl⟩
  go_wp2
  go_ret
  exact ⟨rfl, rfl⟩
set_option maxHeartbeats 1000000 in
set_option maxRecDepth 100000 in
theorem indexRune_any (s : ByteArray) (c : Nat) (hc : c < 128) (w : World) :
    Calls Tryz.prog 206 #[.string s, .int .i32 (c : Nat)] w fun e w' => e = .returned (.int .i64 (Lib.indexByte s.data.toList (UInt8.ofNat c))) ∧ w' = w := by
  have hx := wrap_u8 c (by omega)
  have h1 : decide ((0 : Int) ≤ (c : Int)) = true := by rw [decide_eq_true_iff]; omega
  have h2 : decide ((c : Int) < (128 : Int)) = true := by rw [decide_eq_true_iff]; omega
  have h3 : decide (c < 128) = true := by rw [decide_eq_true_iff]; omega
  have C := Lib.hid (fun W => indexByte_any s (c : Nat) W)
  rw [show ((c : Nat) : Int).toNat.toUInt8 = UInt8.ofNat c from rfl] at C
  go_enter Tryz.func206, Tryz.ntmps206
  go_wp2_with fail
  with_reducible refine (C.out _).mono ?_
  rintro e w2 ⟨rfl, rfl⟩
  go_wp2
  go_ret
  exact ⟨rfl, rfl⟩
theorem contains_any (s : List Nat) (c : Nat) (hs : ∀ x ∈ s, x < 256) (hc : c < 128) (w : World) :
    Calls Tryz.prog 188 #[.string (str s), .int .i32 (c : Nat)] w fun e w' => e = .returned (.bool (s.contains c)) ∧ w' = w := by
  have C := Lib.hid (fun W => indexRune_any (str s) c hc W)
  have hr : decide (0 ≤ Lib.indexByte (str s).data.toList (UInt8.ofNat c)) = s.contains c := by rw [indexByte_mem, str_data, mem_ofNat s c hs (by omega)]
  generalize Lib.indexByte (str s).data.toList (UInt8.ofNat c) = q at *
  generalize s.contains c = r at *
  have HR := Lib.hid hr
  clear hr
  go_enter Tryz.func188, Tryz.ntmps188
  go_wp2_with fail
  with_reducible refine (C.out _).mono ?_
  rintro e w2 ⟨rfl, rfl⟩
  go_wp2
  go_ret
  exact ⟨ret_bool (by rw [← HR.out]), rfl⟩

end Go.Proofs.YtpbclmnhkmcknaaGreat.Fe

namespace Go.Proofs.YtpbclmnhkmcknaaGreat.Fe
open Go.RowKit
set_option maxRecDepth 100000

set_option maxHeartbeats 400000 in
theorem wu8_any (p B n : Nat) (l : List Nat) (w : World) (hW : Wr w p B l) (hn : n < 256) (hl : l.length ≤ 200000) :
    Calls Tryz.prog 44 #[.pointer (some ⟨p, 0, none⟩), .int .u8 n] w (WrPost w p B (l ++ Ent.be 1 n)) := by
  have HW := Lib.hid hW
  clear hW
  have c2 := wnumber_any p B n 1 l w HW.out (by omega) hl
  rw [show ((1 : Nat) : Int) = 1 from rfl] at c2
  have C2 := Lib.hid c2
  clear c2
  go_enter Tryz.func44, Tryz.ntmps44
  go_wp2_with fail
  with_reducible refine C2.out.mono ?_
  rintro e w2 ⟨rfl, hW2, hb2⟩
  go_wp2
  go_ret
  exact ⟨rfl, hW2, hb2⟩

/-- The bytes lie below B. -/
def Low (B : Nat) (A : Option Addr) (n : Nat) : Prop := 0 < n → ∃ b off, A = some ⟨b, off, none⟩ ∧ b < B
theorem Bys.belowB {w w' : World} {B : Nat} {a : Option Addr} {n : Nat} {l : List Nat} (h : Bys w a n l) (hlow : Low B a n) (hb : Below B w w') : Bys w' a n l := by
  obtain ⟨h1, h2, h3⟩ := h
  refine ⟨h1, h2, fun h0 => ?_⟩
  obtain ⟨b, off, e, hc⟩ := h3 h0
  obtain ⟨b', off', e', hlt⟩ := hlow h0
  rw [e] at e'
  injection e' with e'
  injection e' with e1 e2 _
  subst e1 e2
  exact ⟨b, off, e, fun i hi => (hb.cell (p := ⟨b, off + i, none⟩) hlt).trans (hc i hi)⟩
theorem Bys.low {w : World} {a : Option Addr} {n : Nat} {l : List Nat} (h : Bys w a n l) {B : Nat} (hB : w.heap.size ≤ B) : Low B a n := fun h0 => by
  obtain ⟨b, off, e, hc⟩ := h.2.2 h0
  have := block_lt_of_cell (hc 0 h0)
  exact ⟨b, off, e, by simp at this; omega⟩

set_option maxHeartbeats 1000000 in
theorem wtext_any (p B : Nat) (l s : List Nat) (A : Option Addr) (n cap : Nat) (w : World) (hW : Wr w p B l) (hB : Bys w A n s) (hlow : Low B A n) (hA : A = none → cap = 0) (hn : n ≤ 255) (hl : l.length ≤ 200000) :
    Calls Tryz.prog 46 #[.pointer (some ⟨p, 0, none⟩), .slice A n cap] w (WrPost w p B (l ++ Ent.txt s)) := by
  obtain ⟨hBp, v0, hL0, hO0⟩ := hW
  have hc1 := hL0.cell 1
  have hc0 := hL0.cell 0
  have hBw : B ≤ w.heap.size := Nat.le_trans hBp (Nat.le_of_lt hL0.lt)
  have hc0a := (hL0.alloc (.cells #[.int .u8 (n : Nat)] 5)).cell 0
  have HL := Lib.hid hL0
  have HO := Lib.hid hO0
  have HB := Lib.hid hB
  have HA := Lib.hid hA
  have HLOW := Lib.hid hlow
  have HLEN := Lib.hid hB.1
  clear hL0 hO0 hB hA hlow
  go_enter Tryz.func46, Tryz.ntmps46
  go_wp2_with (first
    | ((with_reducible refine wpl_append (some 33) _ _ _ (.tmp 28) (.tmp 32) B v0 l (some ⟨w.heap.size, 0, none⟩) 1 1 [n] ?hs ?hx (HO.out.alloc _) (Bys.const w _ [n] (0, 0) 1 rfl rfl ?hb) ?ha ?hm ?hz ?_); (case hs => rfl); (case hx => rfl); (case hb => (simp; omega)); (case ha => (intro h; cases h)); (case hm => omega); (case hz => exact Nat.le_trans hBw (by simp)); (intro v1 w1 ho1 hg1 hv1); (obtain ⟨Ax, cx, hvx, _, _, _, _⟩ := ho1.slice); (obtain ⟨q, hq⟩ : ∃ q, (l ++ [n]).length = q := ⟨_, rfl⟩); (rw [hq] at hvx); (have HQ := Lib.hid hq); (clear hq); (subst hvx); (have hL1 := Lies.grown (HL.out.alloc _) hg1 (HO.out.ne HL.out (by decide))); (have hd0 := hL1.cell 0); (have hd1 := hL1.free 0); (have hL2 := hL1.put 0 (.slice Ax q cx)); (have hd2 := hL2.cell 0); (have hd3 := hL2.free 0); (have hO2 := ho1.setOther (a := ⟨p, 0, none⟩) (ho1.ne hL1 (by decide)) (.slice Ax q cx)); (have hb1 := ((HO.out.alloc _).grows hg1 ((Below.refl B _).alloc hBw _) (Nat.le_refl _) (Nat.le_trans hBw (by simp))).setCell (p := ⟨p, 0, none⟩) hBp (.slice Ax q cx)); (have HO2 := Lib.hid hO2); (have HL2 := Lib.hid hL2); (have HK2 := Lib.hid ((((Keep.refl w).alloc _).grown (HO.out.alloc _) hg1).put hL1 0 (.slice Ax q cx))); (have HB2 := Lib.hid (HB.out.belowB HLOW.out hb1)); (have HBB := Lib.hid hb1); (clear hL1 hL2 hO2 ho1 hg1 hv1 hb1))
    | ((with_reducible refine wpl_append (some 42) _ _ _ (.tmp 40) (.tmp 41) B _ (l ++ [n]) A n cap s ?hs ?hx HO2.out HB2.out HA.out ?hm ?hz ?_); (case hs => rfl); (case hx => rfl); (case hm => (rw [List.length_append]; simp; omega)); (case hz => exact Nat.le_trans hBw HBB.out.size); (intro v3 w3 ho3 hg3 hv3); (obtain ⟨Ay, cy, hvy, _, _, _, _⟩ := ho3.slice); (obtain ⟨q3, hq3⟩ : ∃ q, (l ++ [n] ++ s).length = q := ⟨_, rfl⟩); (rw [hq3] at hvy); (clear hq3); (subst hvy); (have hL3 := Lies.grown HL2.out hg3 (HO2.out.ne HL2.out (by decide))); (have hd4 := hL3.cell 0); (have hd5 := hL3.free 0); (have HO3 := Lib.hid ho3); (have HL3 := Lib.hid hL3); (have HG3 := Lib.hid hg3); (clear hL3 ho3 hg3 hv3)))
  go_ret
  refine ⟨rfl, ⟨hBp, _, HL3.out.put 0 _, ?_⟩, ?_, (HK2.out.grown HO2.out HG3.out).put HL3.out 0 _⟩
  · have e : l ++ Ent.txt s = l ++ [n] ++ s := by unfold Ent.txt; rw [HLEN.out, Ent.be_one n (by omega), List.append_assoc]
    rw [e]
    exact HO3.out.setOther (a := ⟨p, 0, none⟩) (HO3.out.ne HL3.out (by decide)) _
  · exact (HO2.out.grows HG3.out HBB.out (Nat.le_refl _) (Nat.le_trans hBw HBB.out.size)).setCell (p := ⟨p, 0, none⟩) hBp _

end Go.Proofs.YtpbclmnhkmcknaaGreat.Fe

namespace Go.Proofs.YtpbclmnhkmcknaaGreat.Fe
open Go.RowKit
set_option maxRecDepth 100000
attribute [local go_sem ↓] Go.wp_at_zero Go.wp_at_succ

/-- A reader, of type T, at block p. -/
def Rd (T : TypeId) (w : World) (p : Nat) (s : Ent.St) (l : List Nat) : Prop :=
  ∃ A c, Lies w p T #[.slice A l.length c, .int .i64 (s.1 : Nat), .bool s.2] ∧ Bys w A l.length l ∧ (∀ ad, A = some ad → ad.block < p) ∧ s.1 ≤ l.length ∧ l.length ≤ c ∧ c ≤ maxLen
theorem grown_drewN {a w : World} {r : Option Nat} (h : a.grownBy w r) (n : Nat) : a.grownBy (w.drewN n) r := ⟨h.os, h.tape, h.output, h.size, h.block⟩
theorem grown_drew {a w : World} {r : Option Nat} (h : a.grownBy w r) : a.grownBy w.drew r := ⟨h.os, h.tape, h.output, h.size, h.block⟩
theorem grown_put {a w : World} {g : Nat} (h : a.grownBy w (some g)) (o : Nat) (u : Value) : a.grownBy (w.setCell ⟨g, o, none⟩ u) (some g) :=
  ⟨h.os, h.tape, h.output, by simpa [World.setCell] using h.size, fun i hi hne => (Below.heap_setCell w ⟨g, o, none⟩ u i (by rintro rfl; exact hne rfl)).trans (h.block i hi hne)⟩
theorem grown_below {a w w' : World} {r : Option Nat} (h : a.grownBy w r) (hb : Below w.heap.size w w') : a.grownBy w' r :=
  ⟨hb.os.trans h.os, hb.tape.trans h.tape, hb.output.trans h.output, Nat.le_trans h.size hb.size, fun i hi hne => (hb.block i (Nat.lt_of_lt_of_le hi h.size)).trans (h.block i hi hne)⟩
theorem Rd.drewN {T : TypeId} {w : World} {p : Nat} {s : Ent.St} {l : List Nat} (h : Rd T w p s l) (n : Nat) : Rd T (w.drewN n) p s l := h
theorem Rd.drew {T : TypeId} {w : World} {p : Nat} {s : Ent.St} {l : List Nat} (h : Rd T w p s l) : Rd T w.drew p s l := h
theorem Rd.lt {T : TypeId} {w : World} {p : Nat} {s : Ent.St} {l : List Nat} (h : Rd T w p s l) : p < w.heap.size := by
  obtain ⟨A, c, hL, _⟩ := h
  exact hL.lt
theorem Rd.below {T : TypeId} {w w' : World} {p : Nat} {s : Ent.St} {l : List Nat} (h : Rd T w p s l) (hb : Below w.heap.size w w') : Rd T w' p s l := by
  obtain ⟨A, c, hL, hB, h3⟩ := h
  exact ⟨A, c, hL.below hb hL.lt, hB.below hb, h3⟩
/-- What lies elsewhere stays where a reader moves. -/
theorem Bys.setOther {w : World} {a : Option Addr} {n : Nat} {l : List Nat} {p o : Nat} (h : Bys w a n l) (ha : ∀ ad, a = some ad → ad.block ≠ p) (u : Value) : Bys (w.setCell ⟨p, o, none⟩ u) a n l := by
  obtain ⟨h1, h2, h3⟩ := h
  refine ⟨h1, h2, fun h0 => ?_⟩
  obtain ⟨b, off, e, hc⟩ := h3 h0
  refine ⟨b, off, e, fun i hi => ?_⟩
  have hb := ha _ e
  have hcell := hc i hi
  rw [← hcell]
  unfold World.cell?
  rw [heap_setCell_other w ⟨p, o, none⟩ b u hb]
theorem Rd.put {T : TypeId} {w : World} {p : Nat} {s : Ent.St} {l : List Nat} (h : Rd T w p s l) (i : Nat) (hi : i ≤ l.length) : Rd T (w.setCell ⟨p, 1, none⟩ (.int .i64 (i : Nat))) p (i, s.2) l := by
  obtain ⟨A, c, hL, hB, h3, h4, h5⟩ := h
  exact ⟨A, c, hL.put 1 _, hB.setOther (fun ad e => by have := h3 ad e; omega) _, h3, hi, h5⟩
theorem Rd.short {T : TypeId} {w : World} {p : Nat} {s : Ent.St} {l : List Nat} (h : Rd T w p s l) : Rd T (w.setCell ⟨p, 2, none⟩ (.bool true)) p (s.1, true) l := by
  obtain ⟨A, c, hL, hB, h3, h4, h5⟩ := h
  exact ⟨A, c, hL.put 2 _, hB.setOther (fun ad e => by have := h3 ad e; omega) _, h3, h4, h5⟩

set_option maxHeartbeats 400000 in
theorem left_any (p : Nat) (s : Ent.St) (l : List Nat) (w : World) (hR : Rd 166 w p s l) (hl : l.length ≤ 200000) :
    Calls Tryz.prog 86 #[.pointer (some ⟨p, 0, none⟩)] w fun e w' => e = .returned (.int .i64 ((l.length - s.1 : Nat) : Int)) ∧ ∃ k, w' = w.drewN k := by
  obtain ⟨A, c, hL, hB, _, hi, _, _⟩ := hR
  have hc0 := hL.cell 0
  have hc1 := hL.cell 1
  obtain ⟨i, sh⟩ := s
  simp only at hi hc0 hc1 ⊢
  clear hL hB
  go_enter Tryz.func86, Tryz.ntmps86
  go_wp2_with fail
  go_quiet (fail)
  go_wp2
  go_ret
  exact ⟨ret_int (by first | omega | (rw [IntWalk.i64_in _ (by omega)]; omega)), _, rfl⟩

/-- Are there so many? -/
def hasB (l : List Nat) (k : Nat) (s : Ent.St) : Bool := !(s.2 || decide (l.length - s.1 < k))
def hasS (l : List Nat) (k : Nat) (s : Ent.St) : Ent.St := (s.1, s.2 || decide (l.length - s.1 < k))
def HasPost (w : World) (p k : Nat) (l : List Nat) (s : Ent.St) (e : Ending) (w' : World) : Prop :=
  e = .returned (.bool (hasB l k s)) ∧ Rd 166 w' p (hasS l k s) l ∧ w.grownBy w' (some p)

set_option maxHeartbeats 400000 in
theorem has_any (p k : Nat) (s : Ent.St) (l : List Nat) (w : World) (hR : Rd 166 w p s l) (hl : l.length ≤ 200000) (_hk : k ≤ 200000) :
    Calls Tryz.prog 85 #[.pointer (some ⟨p, 0, none⟩), .int .i64 k] w (HasPost w p k l s) := by
  have HR := Lib.hid hR
  obtain ⟨A, c, hL, hB, _, hi, _, _⟩ := hR
  have hc2 := hL.cell 2
  have hf2 := hL.free 2
  have C1 := Lib.hid (left_any p s l w HR.out hl)
  obtain ⟨i, sh⟩ := s
  simp only at hi hc2 C1
  clear hL hB
  unfold HasPost hasB hasS
  simp only
  obtain ⟨z, hz⟩ : ∃ z, l.length - i = z := ⟨_, rfl⟩
  rw [hz] at C1 ⊢
  by_cases hd : z < k
  · have hd1 : decide (z < k) = true := by simpa using hd
    rw [hd1]
    go_enter Tryz.func85, Tryz.ntmps85
    go_wp2_with fail
    with_reducible refine C1.out.mono ?_
    rintro e w2 ⟨rfl, q, rfl⟩
    go_wp2
    go_ret
    refine ⟨ret_bool (by simp), ?_, grown_put (grown_drewN (World.grownBy.refl w _) q) 2 _⟩
    rw [Bool.or_true]
    exact (HR.out.drewN q).short
  · have hd1 : decide (z < k) = false := by simpa using hd
    rw [hd1]
    go_enter Tryz.func85, Tryz.ntmps85
    go_wp2_with fail
    with_reducible refine C1.out.mono ?_
    rintro e w2 ⟨rfl, q, rfl⟩
    go_wp2
    go_ret
    refine ⟨ret_bool (by simp), ?_, grown_drewN (World.grownBy.refl w _) q⟩
    rw [Bool.or_false]
    exact HR.out.drewN q

theorem or_byte (x y : Nat) (hx : x < 72057594037927936) (hy : y < 256) : bits .or .u64 ((x : Int) * 256) (y : Int) = ((x * 256 + y : Nat) : Int) := by
  have h := u64_or_nat (x * 256) y (by omega) (by omega)
  rw [show ((x * 256 : Nat) : Int) = (x : Int) * 256 from by omega] at h
  rw [h, show x * 256 = x <<< 8 from by rw [Nat.shiftLeft_eq], Nat.shiftLeft_add_eq_or_of_lt (by omega)]

def RnR (w : World) (p : Nat) (s : Ent.St) (k : Nat) (l : List Nat) (x y : Value) (wr : World) : Prop :=
  ∃ j : Nat, j ≤ k ∧ y = .int .i64 j ∧ x = .int .u64 (Ent.val ((l.drop s.1).take j) : Nat) ∧ Rd 166 wr p s l ∧ w.grownBy wr (some p)

def RnPost (w : World) (p k : Nat) (l : List Nat) (s : Ent.St) (e : Ending) (w' : World) : Prop :=
  e = .returned (.int .u64 ((Ent.rnum l k s).1 : Nat)) ∧ Rd 166 w' p (Ent.rnum l k s).2 l ∧ w.grownBy w' (some p)

set_option maxHeartbeats 400000 in
theorem rnumber_bad (p k : Nat) (s : Ent.St) (l : List Nat) (w : World) (hR : Rd 166 w p s l) (hk : k ≤ 8) (hl : l.length ≤ 200000) (h : s.2 = true ∨ l.length - s.1 < k) :
    Calls Tryz.prog 84 #[.pointer (some ⟨p, 0, none⟩), .int .i64 k] w (RnPost w p k l s) := by
  have hn : Ent.rnum l k s = (0, (s.1, true)) := by unfold Ent.rnum; rw [if_pos h]
  have hb : hasB l k s = false := by unfold hasB; simp; exact fun hh => by rcases h with h | h; rw [h] at hh; cases hh; omega
  have hs : hasS l k s = (s.1, true) := by unfold hasS; rcases h with h | h; rw [h]; rfl; simp [h]
  have C1 := Lib.hid (has_any p k s l w hR hl (by omega))
  unfold HasPost at C1
  rw [hb, hs] at C1
  unfold RnPost
  rw [hn]
  clear hn hb hs hR
  go_enter Tryz.func84, Tryz.ntmps84
  go_wp2_with fail
  with_reducible refine C1.out.mono ?_
  rintro e w2 ⟨rfl, hR2, hg2⟩
  have HR2 := Lib.hid hR2
  clear hR2
  go_wp2
  go_ret
  exact ⟨rfl, HR2.out, hg2⟩

set_option maxHeartbeats 400000 in
theorem rnumber_good (p k i : Nat) (l : List Nat) (w : World) (hR : Rd 166 w p (i, false) l) (hk : k ≤ 8) (hl : l.length ≤ 200000) (h : ¬ l.length - i < k) :
    Calls Tryz.prog 84 #[.pointer (some ⟨p, 0, none⟩), .int .i64 k] w (RnPost w p k l (i, false)) := by
  have hn : Ent.rnum l k (i, false) = (Ent.val ((l.drop i).take k), (i + k, false)) := by unfold Ent.rnum; rw [if_neg (by simp; omega)]
  have hb : hasB l k (i, false) = true := by unfold hasB; simp; omega
  have hs : hasS l k (i, false) = (i, false) := by unfold hasS; simp; omega
  have C1 := Lib.hid (has_any p k (i, false) l w hR hl (by omega))
  have hi : i + k ≤ l.length := by obtain ⟨A, c, _, _, _, hi, _, _⟩ := hR; simp at hi; omega
  unfold HasPost at C1
  rw [hb, hs] at C1
  unfold RnPost
  rw [hn]
  have HR := Lib.hid hR
  clear hn hb hs hR
  go_enter Tryz.func84, Tryz.ntmps84
  go_wp2_with fail
  with_reducible refine C1.out.mono ?_
  rintro e w2 ⟨rfl, hR2, hg2⟩
  have HR2 := Lib.hid hR2
  have HG2 := Lib.hid hg2
  clear hR2 hg2 C1
  go_wp2_with fail
  go_loopw [5, 12] (RnR w p (i, false) k l) (fun _ i _ => k - (intOf i).toNat)
  case atStart => exact ⟨0, by omega, rfl, rfl, HR2.out, HG2.out⟩
  case round =>
    obtain ⟨j, hj, rfl, rfl, hR, hgr⟩ := hrel
    simp only
    have HR1 := Lib.hid hR
    have HGR := Lib.hid hgr
    obtain ⟨A, c, hL, hB, _, _, _, _⟩ := hR
    have hc1 := hL.cell 1
    simp only at hc1
    by_cases hlt : j < k
    · have hc0 := hL.cell 0
      obtain ⟨b, off, rfl, hc⟩ := hB.2.2 (by omega)
      have hck := hc (i + j) (by omega)
      have hyb := getD_lt l hB.2.1 (i + j)
      have hv := Ent.val_lt ((l.drop i).take j) (fun c hc => hB.2.1 c (List.mem_of_mem_drop (List.mem_of_mem_take hc)))
      have hsn : Ent.val ((l.drop i).take (j + 1)) = Ent.val ((l.drop i).take j) * 256 + l.getD (i + j) 0 := by
        rw [take_one _ _ (by rw [List.length_drop]; omega), Ent.val_snoc]
        simp [List.getD]
      rw [List.length_take, List.length_drop, Nat.min_eq_left (by omega)] at hv
      have hv2 : Ent.val ((l.drop i).take j) < 72057594037927936 := Nat.lt_of_lt_of_le hv (show 256 ^ j ≤ 256 ^ 7 from Nat.pow_le_pow_right (by decide) (by omega))
      have hq : IntKind.i64.wrap ((i : Int) + (j : Int)) = ((i + j : Nat) : Int) := by rw [IntWalk.i64_in _ (by omega)]; omega
      have hq1 : ((i + j : Nat) : Int) < (l.length : Int) := by omega
      have hi2 : i ≤ 200000 := by omega
      have HSN := Lib.hid hsn
      clear hL hB hc hv hsn HR hgr HR2 HG2
      generalize Ent.val ((l.drop i).take j) = x at *
      generalize l.getD (i + j) 0 = y at *
      generalize i + j = q1 at *
      have hor := or_byte x y hv2 hyb
      go_wp2_with fail
      go_quiet (fail)
      go_wp2
      go_roundw
      case rel => exact ⟨j + 1, by omega, by go_num, val_int (by rw [HSN.out]; omega), HR1.out.drewN _, grown_drewN HGR.out _⟩
      case measure => simp [intOf]; omega
    · have hjk : j = k := by omega
      subst hjk
      have hf1 := hL.free 1
      have hi2 : i ≤ 200000 := by omega
      clear hL hB
      go_wp2
      go_ret
      exact ⟨rfl, HR1.out.put (i + j) hi, grown_put HGR.out 1 _⟩

theorem rnumber_any (p k : Nat) (s : Ent.St) (l : List Nat) (w : World) (hR : Rd 166 w p s l) (hk : k ≤ 8) (hl : l.length ≤ 200000) :
    Calls Tryz.prog 84 #[.pointer (some ⟨p, 0, none⟩), .int .i64 k] w (RnPost w p k l s) := by
  by_cases h : s.2 = true ∨ l.length - s.1 < k
  · exact rnumber_bad p k s l w hR hk hl h
  · obtain ⟨i, sh⟩ := s
    have h1 : sh = false := by cases sh; rfl; exact absurd (.inl rfl) h
    subst h1
    exact rnumber_good p k i l w hR hk hl (fun hh => h (.inr hh))

end Go.Proofs.YtpbclmnhkmcknaaGreat.Fe

namespace Go.Proofs.YtpbclmnhkmcknaaGreat.Fe
open Go.RowKit
set_option maxRecDepth 100000
attribute [local go_sem ↓] Go.wp_at_zero Go.wp_at_succ

theorem Rd.small {T : TypeId} {w : World} {p : Nat} {s : Ent.St} {l : List Nat} (h : Rd T w p s l) : ∀ c ∈ l, c < 256 := by
  obtain ⟨A, c, _, hB, _⟩ := h
  exact hB.2.1

def Ru8Post (w : World) (p : Nat) (l : List Nat) (s : Ent.St) (e : Ending) (w' : World) : Prop :=
  e = .returned (.int .u8 ((Ent.rnum l 1 s).1 : Nat)) ∧ Rd 166 w' p (Ent.rnum l 1 s).2 l ∧ w.grownBy w' (some p)
def Ru32Post (w : World) (p : Nat) (l : List Nat) (s : Ent.St) (e : Ending) (w' : World) : Prop :=
  e = .returned (.int .u32 ((Ent.rnum l 4 s).1 : Nat)) ∧ Rd 166 w' p (Ent.rnum l 4 s).2 l ∧ w.grownBy w' (some p)
def Ru64Post (w : World) (p : Nat) (l : List Nat) (s : Ent.St) (e : Ending) (w' : World) : Prop :=
  e = .returned (.int .u64 ((Ent.rnum l 8 s).1 : Nat)) ∧ Rd 166 w' p (Ent.rnum l 8 s).2 l ∧ w.grownBy w' (some p)

set_option maxHeartbeats 400000 in
theorem ru8_any (p : Nat) (s : Ent.St) (l : List Nat) (w : World) (hR : Rd 166 w p s l) (hl : l.length ≤ 200000) :
    Calls Tryz.prog 50 #[.pointer (some ⟨p, 0, none⟩)] w (Ru8Post w p l s) := by
  have hv : (Ent.rnum l 1 s).1 < 256 := Ent.rnum_lt l hR.small 1 s
  have c2 := rnumber_any p 1 s l w hR (by omega) hl
  unfold RnPost at c2
  unfold Ru8Post
  rw [show ((1 : Nat) : Int) = 1 from rfl] at c2
  generalize Ent.rnum l 1 s = r at *
  obtain ⟨x, s'⟩ := r
  simp only at hv c2 ⊢
  have C2 := Lib.hid c2
  clear c2 hR
  go_enter Tryz.func50, Tryz.ntmps50
  go_wp2_with fail
  with_reducible refine C2.out.mono ?_
  rintro e w2 ⟨rfl, hR2, hb2⟩
  have HR2 := Lib.hid hR2
  clear hR2 C2
  go_wp2
  go_ret
  exact ⟨rfl, HR2.out, hb2⟩

set_option maxHeartbeats 400000 in
theorem ru32_any (p : Nat) (s : Ent.St) (l : List Nat) (w : World) (hR : Rd 166 w p s l) (hl : l.length ≤ 200000) :
    Calls Tryz.prog 51 #[.pointer (some ⟨p, 0, none⟩)] w (Ru32Post w p l s) := by
  have hv : (Ent.rnum l 4 s).1 < 4294967296 := Ent.rnum_lt l hR.small 4 s
  have c2 := rnumber_any p 4 s l w hR (by omega) hl
  unfold RnPost at c2
  unfold Ru32Post
  rw [show ((4 : Nat) : Int) = 4 from rfl] at c2
  generalize Ent.rnum l 4 s = r at *
  obtain ⟨x, s'⟩ := r
  simp only at hv c2 ⊢
  have C2 := Lib.hid c2
  clear c2 hR
  go_enter Tryz.func51, Tryz.ntmps51
  go_wp2_with fail
  with_reducible refine C2.out.mono ?_
  rintro e w2 ⟨rfl, hR2, hb2⟩
  have HR2 := Lib.hid hR2
  clear hR2 C2
  go_wp2
  go_ret
  exact ⟨rfl, HR2.out, hb2⟩

def NrPost (w : World) (l : List Nat) (e : Ending) (w' : World) : Prop :=
  ∃ p, e = .returned (.pointer (some ⟨p, 0, none⟩)) ∧ Rd 166 w' p (0, false) l ∧ Below w.heap.size w w' ∧ w.heap.size ≤ p

set_option maxHeartbeats 400000 in
theorem newReader_any (a : Option Addr) (n cap : Nat) (l : List Nat) (w : World) (hB : Bys w a n l) (hn : n ≤ 200000) :
    Calls Tryz.prog 49 #[.slice a n cap] w (NrPost w l) := by
  have HB := Lib.hid hB
  clear hB
  go_enter Tryz.func49, Tryz.ntmps49
  go_wp2_with fail
  with_reducible refine (fresh_any _ _ _ _ _ HB.out (by omega)).mono ?_
  rintro e w2 ⟨rfl, hO2, hb2⟩
  have HO2 := Lib.hid hO2
  clear hO2
  go_wp2
  go_ret
  refine ⟨w2.heap.size, rfl, ⟨some ⟨w.heap.size, 0, none⟩, n, ?_, ?_, ?_, Nat.zero_le _, ?_, ?_⟩, hb2.alloc hb2.size _, hb2.size⟩
  · rw [HB.out.1]; exact Lies.made w2 166 _
  · rw [HB.out.1]; exact (HO2.out.alloc _).bys.1
  · intro ad e
    injection e with e
    subst e
    exact HO2.out.lt _ rfl
  · rw [HB.out.1]; exact Nat.le_refl _
  · exact small_len _ (by omega)

theorem Bys.cut {w : World} {b off n : Nat} {l : List Nat} (h : Bys w (some ⟨b, off, none⟩) n l) (k : Nat) (hk : k ≤ n) : Bys w (some ⟨b, off + k, none⟩) (n - k) (l.drop k) := by
  obtain ⟨h1, h2, h3⟩ := h
  refine ⟨by rw [List.length_drop]; omega, fun c hc => h2 c (List.mem_of_mem_drop hc), fun h0 => ?_⟩
  obtain ⟨b', off', e, hc⟩ := h3 (by omega)
  injection e with e
  injection e with e1 e2 _
  subst e1 e2
  refine ⟨b, off + k, rfl, fun i hi => ?_⟩
  rw [Nat.add_assoc, hc (k + i) (by omega)]
  simp [List.getD]

theorem bys_mid {w : World} {b off n c m1 m2 y : Nat} {l : List Nat} (h : Bys w (some ⟨b, off, none⟩) n l) (h1 : m1 + y = m2) (h2 : m2 ≤ n) (h3 : n ≤ c) :
    Bys w (if c = m1 then some ⟨b, off, none⟩ else some ⟨b, off + m1, none⟩) (m2 - m1) ((l.drop m1).take y) := by
  have e : m2 - m1 = y := by omega
  rw [e]
  split
  · have : y = 0 := by omega
    subst this
    exact ⟨by simp, by simp, fun h => by omega⟩
  · exact (h.cut m1 (by omega)).front y (by omega)

def RtPost (w : World) (p : Nat) (l : List Nat) (s : Ent.St) (e : Ending) (w' : World) : Prop :=
  ∃ v, e = .returned v ∧ Own w' w.heap.size v (Ent.rtxt l s).1 ∧ Rd 166 w' p (Ent.rtxt l s).2 l ∧ w.grownBy w' (some p)

theorem hasB_true {l : List Nat} {k : Nat} {s : Ent.St} (h : ¬ (s.2 = true ∨ l.length - s.1 < k)) : hasB l k s = true ∧ hasS l k s = s := by
  obtain ⟨i, sh⟩ := s
  have h1 : sh = false := by cases sh; rfl; exact absurd (.inl rfl) h
  subst h1
  have h2 : ¬ l.length - i < k := fun hh => h (.inr hh)
  unfold hasB hasS
  simp; omega
theorem hasB_false {l : List Nat} {k : Nat} {s : Ent.St} (h : s.2 = true ∨ l.length - s.1 < k) : hasB l k s = false ∧ hasS l k s = (s.1, true) := by
  obtain ⟨i, sh⟩ := s
  unfold hasB hasS
  rcases h with h | h
  · simp only at h; subst h; simp
  · simp only at h; simp; exact ⟨fun _ => h, .inr h⟩

set_option maxHeartbeats 400000 in
theorem rtext_bad1 (p : Nat) (s : Ent.St) (l : List Nat) (w : World) (hR : Rd 166 w p s l) (hl : l.length ≤ 200000) (h : s.2 = true ∨ l.length - s.1 < 1) :
    Calls Tryz.prog 52 #[.pointer (some ⟨p, 0, none⟩)] w (RtPost w p l s) := by
  have hn : Ent.rtxt l s = ([], (s.1, true)) := by unfold Ent.rtxt; rw [if_pos (by rcases h with h | h; exact .inl h; exact .inr (.inl h))]
  have c1 := has_any p 1 s l w hR hl (by omega)
  unfold HasPost at c1
  rw [(hasB_false h).1, (hasB_false h).2, show ((1 : Nat) : Int) = 1 from rfl] at c1
  have C1 := Lib.hid c1
  unfold RtPost
  rw [hn]
  clear hn hR c1
  go_enter Tryz.func52, Tryz.ntmps52
  go_wp2_with fail
  with_reducible refine C1.out.mono ?_
  rintro e w2 ⟨rfl, hR2, hg2⟩
  have HR2 := Lib.hid hR2
  clear hR2
  go_wp2
  go_ret
  exact ⟨_, rfl, Own.nil _ _, HR2.out, hg2⟩

set_option maxHeartbeats 400000 in
theorem rtext_bad2 (p i : Nat) (l : List Nat) (w : World) (hR : Rd 166 w p (i, false) l) (hl : l.length ≤ 200000) (h1 : 1 ≤ l.length - i) (h : l.length - i < 1 + l.getD i 0) :
    Calls Tryz.prog 52 #[.pointer (some ⟨p, 0, none⟩)] w (RtPost w p l (i, false)) := by
  have hn : Ent.rtxt l (i, false) = ([], (i, true)) := by unfold Ent.rtxt; rw [if_pos (.inr (.inr h))]
  have c1 := has_any p 1 (i, false) l w hR hl (by omega)
  have hT := hasB_true (l := l) (k := 1) (s := (i, false)) (by simp; omega)
  unfold HasPost at c1
  rw [hT.1, hT.2, show ((1 : Nat) : Int) = 1 from rfl] at c1
  have C1 := Lib.hid c1
  have hF := hasB_false (l := l) (k := 1 + l.getD i 0) (s := (i, false)) (.inr h)
  have hy : l.getD i 0 < 256 := getD_lt l hR.small i
  have c2 := fun W (hW : Rd 166 W p (i, false) l) => has_any p (1 + l.getD i 0) (i, false) l W hW hl (by omega)
  unfold HasPost at c2
  rw [hF.1, hF.2] at c2
  have C2 := Lib.hid c2
  unfold RtPost
  rw [hn]
  clear hn hR c1 c2 hT hF
  go_enter Tryz.func52, Tryz.ntmps52
  go_wp2_with fail
  with_reducible refine C1.out.mono ?_
  rintro e w2 ⟨rfl, hR2, hg2⟩
  have HR2 := Lib.hid hR2
  have HG2 := Lib.hid hg2
  obtain ⟨A, c, hL, hB, _, hi, _, _⟩ := hR2
  obtain ⟨b, off, rfl, hc⟩ := hB.2.2 (by simp at hi; omega)
  have hc0 := hL.cell 0
  have hc1 := hL.cell 1
  have hck := hc i (by omega)
  have hq1 : (i : Int) < (l.length : Int) := by omega
  simp only at hc0 hc1
  clear hL hB hc hg2 C1
  generalize l.getD i 0 = y at *
  go_wp2_with fail
  go_quiet (fail)
  have hyy : IntKind.i64.wrap (1 + (y : Int)) = ((1 + y : Nat) : Int) := by rw [IntWalk.i64_in _ (by omega)]; omega
  have c2 := C2.out _ (HR2.out.drewN nq)
  rw [show ((1 + y : Nat) : Int) = 1 + (y : Int) from by omega] at c2
  have C3 := Lib.hid c2
  clear c2 hyy
  go_wp2_with fail
  with_reducible refine C3.out.mono ?_
  rintro e w3 ⟨rfl, hR3, hg3⟩
  have HR3 := Lib.hid hR3
  clear hR3
  go_wp2
  go_ret
  exact ⟨_, rfl, Own.nil _ _, HR3.out, (grown_drewN HG2.out _).trans hg3⟩

set_option maxRecDepth 100000 in
set_option maxHeartbeats 1000000 in
theorem rtext_good (p i : Nat) (l : List Nat) (w : World) (hR : Rd 166 w p (i, false) l) (hl : l.length ≤ 200000) (h1 : 1 ≤ l.length - i) (h : 1 + l.getD i 0 ≤ l.length - i) :
    Calls Tryz.prog 52 #[.pointer (some ⟨p, 0, none⟩)] w (RtPost w p l (i, false)) := by
  have hn : Ent.rtxt l (i, false) = ((l.drop (i + 1)).take (l.getD i 0), (i + (1 + l.getD i 0), false)) := by unfold Ent.rtxt; rw [if_neg (by rintro (q | q | q); exact absurd q (by simp); exact absurd q (by simp only; omega); exact absurd q (by simp only; omega))]
  have c1 := has_any p 1 (i, false) l w hR hl (by omega)
  have hT := hasB_true (l := l) (k := 1) (s := (i, false)) (by simp; omega)
  unfold HasPost at c1
  rw [hT.1, hT.2, show ((1 : Nat) : Int) = 1 from rfl] at c1
  have C1 := Lib.hid c1
  have hF := hasB_true (l := l) (k := 1 + l.getD i 0) (s := (i, false)) (by rintro (q | q); exact absurd q (by simp); exact absurd q (by simp only; omega))
  have hy : l.getD i 0 < 256 := getD_lt l hR.small i
  have c2 := fun W (hW : Rd 166 W p (i, false) l) => has_any p (1 + l.getD i 0) (i, false) l W hW hl (by omega)
  unfold HasPost at c2
  rw [hF.1, hF.2] at c2
  have C2 := Lib.hid c2
  unfold RtPost
  rw [hn]
  generalize hr : (l.drop (i + 1)).take (l.getD i 0) = r
  generalize hz : i + (1 + l.getD i 0) = z
  have HRR := Lib.hid hr
  have HZZ := Lib.hid hz
  clear hn hR c1 c2 hT hF hr hz
  go_enter Tryz.func52, Tryz.ntmps52
  go_wp2_with fail
  with_reducible refine C1.out.mono ?_
  rintro e w2 ⟨rfl, hR2, hg2⟩
  have HR2 := Lib.hid hR2
  have HG2 := Lib.hid hg2
  obtain ⟨A, c, hL, hB, _, hi, _, _⟩ := hR2
  obtain ⟨b, off, rfl, hc⟩ := hB.2.2 (by simp at hi; omega)
  have hc0 := hL.cell 0
  have hc1 := hL.cell 1
  have hck := hc i (by omega)
  have hq1 : (i : Int) < (l.length : Int) := by omega
  simp only at hc0 hc1
  clear hL hB hc hg2 C1
  generalize hyl : l.getD i 0 = y at *
  have HYL := Lib.hid hyl
  clear hyl
  go_wp2_with fail
  go_quiet (fail)
  have c2 := C2.out _ (HR2.out.drewN nq)
  rw [show ((1 + y : Nat) : Int) = 1 + (y : Int) from by omega] at c2
  have C3 := Lib.hid c2
  clear c2 hc0 hc1 hck hq1
  go_wp2_with fail
  with_reducible refine C3.out.mono ?_
  rintro e w3 ⟨rfl, hR3, hg3⟩
  have HR3 := Lib.hid hR3
  have HG3 := Lib.hid ((grown_drewN HG2.out nq).trans hg3)
  obtain ⟨A, c', hL, hB, hlo, hi', hcl, hcm⟩ := hR3
  obtain ⟨b', off', rfl, hc⟩ := hB.2.2 (by omega)
  have HB3 := Lib.hid hB
  have hc0 := hL.cell 0
  have hc1 := hL.cell 1
  simp only at hc0 hc1
  obtain ⟨m1, hm1⟩ : ∃ m, i + 1 = m := ⟨_, rfl⟩
  obtain ⟨m2, hm2⟩ : ∃ m, i + (1 + y) = m := ⟨_, rfl⟩
  have hq1 : IntKind.i64.wrap ((i : Int) + 1) = ((m1 : Nat) : Int) := by rw [IntWalk.i64_in _ (by omega)]; omega
  have hq2 : IntKind.i64.wrap ((i : Int) + (1 + (y : Int))) = ((m2 : Nat) : Int) := by rw [IntWalk.i64_in _ (by omega)]; omega
  have b1 : (0 : Int) ≤ (m1 : Int) := by omega
  have b2 : (m1 : Int) ≤ (m2 : Int) := by omega
  have b3 : (m2 : Int) ≤ (c' : Int) := by omega
  have hf1 := hL.free 1
  obtain ⟨AD, hAD⟩ : ∃ AD, (if c' = m1 then some (⟨b', off', none⟩ : Addr) else some ⟨b', off' + m1, none⟩) = AD := ⟨_, rfl⟩
  have c4 := fresh_any AD (m2 - m1) (c' - m1) _ w3.drew (hAD ▸ bys_mid (m1 := m1) (m2 := m2) (y := y) (c := c') HB3.out.drew (by omega) (by omega) hcl) (by omega)
  have C4 := Lib.hid c4
  have HFF := Lib.hid (fun w' (hb : Below w3.drew.heap.size w3.drew w') => (Lies.below (w := w3.drew) hL hb hL.lt).free 1)
  have hcc : ∀ w', Below w3.drew.heap.size w3.drew w' → w'.cell? ⟨p, 0, none⟩ = some (.slice (some ⟨b', off', none⟩) l.length c') ∧ w'.cell? ⟨p, 1, none⟩ = some (.int .i64 (i : Nat)) := fun w' hb => ⟨(Lies.below (w := w3.drew) hL hb hL.lt).cell 0, (Lies.below (w := w3.drew) hL hb hL.lt).cell 1⟩
  have HCC := Lib.hid hcc
  clear hcc
  clear c4
  clear hL hB hc HG2 HR2 C2 C3 hg3
  go_wp2_with fail
  go_region_held3 (fun W => W.cell? ⟨p, 0, none⟩ = some (.slice (some ⟨b', off', none⟩) l.length c') ∧ W.cell? ⟨p, 1, none⟩ = some (.int .i64 (i : Nat))) (first | go_keep | exact HCC.out _ HB4.out)
    ((go_at_call 82; (with_reducible refine C4.out.mono ?_); rintro x w4 ⟨rfl, hO4, hb4⟩; have HO4 := Lib.hid hO4; have HB4 := Lib.hid hb4; have hf4 := HFF.out _ hb4; clear hO4 hb4))
  have hR4 := HR3.out.drew.below HB4.out
  have HR4 := Lib.hid hR4
  obtain ⟨A5, c5, hL5, _, _, _, _, _⟩ := hR4
  have HL5 := Lib.hid hL5
  clear hL5 hAD
  go_wp2
  go_ret
  refine ⟨_, rfl, ?_, ?_, grown_put (grown_below (grown_drew HG3.out) HB4.out) 1 _⟩
  · rw [← HRR.out, hm1]
    exact ((HO4.out.mono (show w.heap.size ≤ w3.heap.size from HG3.out.size)).setOther (a := ⟨p, 1, none⟩) (HO4.out.ne HL5.out (by decide)) _)
  · rw [← HZZ.out, hm2]
    exact HR4.out.put m2 (by omega)

theorem rtext_any (p : Nat) (s : Ent.St) (l : List Nat) (w : World) (hR : Rd 166 w p s l) (hl : l.length ≤ 200000) :
    Calls Tryz.prog 52 #[.pointer (some ⟨p, 0, none⟩)] w (RtPost w p l s) := by
  by_cases h : s.2 = true ∨ l.length - s.1 < 1
  · exact rtext_bad1 p s l w hR hl h
  · obtain ⟨i, sh⟩ := s
    have h1 : sh = false := by cases sh; rfl; exact absurd (.inl rfl) h
    subst h1
    have h2 : 1 ≤ l.length - i := by
      refine Classical.byContradiction fun hh => h (.inr ?_)
      simp only
      omega
    by_cases h3 : l.length - i < 1 + l.getD i 0
    · exact rtext_bad2 p i l w hR hl h2 h3
    · exact rtext_good p i l w hR hl h2 (by omega)

end Go.Proofs.YtpbclmnhkmcknaaGreat.Fe
