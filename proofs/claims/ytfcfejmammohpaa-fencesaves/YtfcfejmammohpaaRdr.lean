/-
  The contracts of package field's reader: at every place, short or not.
-/
import Derived.Test.YtfcfejmammohpaaWrite
import Derived.IntWalk
namespace Go.Proofs.Ytfcfejmammohpaa
open Go.RowKit
set_option maxRecDepth 100000
attribute [local go_sem ↓] Go.wp_at_zero Go.wp_at_succ

/-- A reader, of type T, at block p. -/
def Rd (T : TypeId) (w : World) (p : Nat) (s : Ent.St) (l : List Nat) : Prop :=
  ∃ A c, Lies w p T #[.slice A l.length c, .int .i64 (s.1 : Nat), .bool s.2] ∧ Bys w A l.length l ∧ (∀ ad, A = some ad → ad.block < p) ∧ s.1 ≤ l.length ∧ l.length ≤ c ∧ c ≤ maxLen
theorem grown_drewN {a w : World} {r : Option Nat} (h : a.grownBy w r) (n : Nat) : a.grownBy (w.drewN n) r := ⟨h.os, h.tape, h.output, h.size, h.block⟩
theorem grown_drew {a w : World} {r : Option Nat} (h : a.grownBy w r) : a.grownBy w.drew r := ⟨h.os, h.tape, h.output, h.size, h.block⟩
theorem grown_put {a w : World} {g : Nat} (h : a.grownBy w (some g)) (o : Nat) (u : Value) : a.grownBy (w.setCell ⟨g, o, none⟩ u) (some g) :=
  ⟨h.os, h.tape, h.output, by simpa [World.setCell] using h.size, fun i hi hne => (Below.heap_setCell w ⟨g, o, none⟩ u i (by rintro rfl; exact hne rfl)).trans (h.block i hi hne)⟩
theorem grown_below {a w w' : World} {r : Option Nat} (h : a.grownBy w r) (hb : Below w.heap.size w w') : a.grownBy w' r :=
  ⟨hb.os.trans h.os, hb.tape.trans h.tape, hb.output.trans h.output, Nat.le_trans h.size hb.size, fun i hi hne => (hb.block i (Nat.lt_of_lt_of_le hi h.size)).trans (h.block i hi hne)⟩
theorem Rd.drewN {T : TypeId} {w : World} {p : Nat} {s : Ent.St} {l : List Nat} (h : Rd T w p s l) (n : Nat) : Rd T (w.drewN n) p s l := h
theorem Rd.drew {T : TypeId} {w : World} {p : Nat} {s : Ent.St} {l : List Nat} (h : Rd T w p s l) : Rd T w.drew p s l := h
theorem Rd.lt {T : TypeId} {w : World} {p : Nat} {s : Ent.St} {l : List Nat} (h : Rd T w p s l) : p < w.heap.size := by
  obtain ⟨A, c, hL, _⟩ := h
  exact hL.lt
theorem Rd.below {T : TypeId} {w w' : World} {p : Nat} {s : Ent.St} {l : List Nat} (h : Rd T w p s l) (hb : Below w.heap.size w w') : Rd T w' p s l := by
  obtain ⟨A, c, hL, hB, h3⟩ := h
  exact ⟨A, c, hL.below hb hL.lt, hB.below hb, h3⟩
/-- What lies elsewhere stays where a reader moves. -/
theorem Bys.setOther {w : World} {a : Option Addr} {n : Nat} {l : List Nat} {p o : Nat} (h : Bys w a n l) (ha : ∀ ad, a = some ad → ad.block ≠ p) (u : Value) : Bys (w.setCell ⟨p, o, none⟩ u) a n l := by
  obtain ⟨h1, h2, h3⟩ := h
  refine ⟨h1, h2, fun h0 => ?_⟩
  obtain ⟨b, off, e, hc⟩ := h3 h0
  refine ⟨b, off, e, fun i hi => ?_⟩
  have hb := ha _ e
  have hcell := hc i hi
  rw [← hcell]
  unfold World.cell?
  rw [heap_setCell_other w ⟨p, o, none⟩ b u hb]
theorem Rd.put {T : TypeId} {w : World} {p : Nat} {s : Ent.St} {l : List Nat} (h : Rd T w p s l) (i : Nat) (hi : i ≤ l.length) : Rd T (w.setCell ⟨p, 1, none⟩ (.int .i64 (i : Nat))) p (i, s.2) l := by
  obtain ⟨A, c, hL, hB, h3, h4, h5⟩ := h
  exact ⟨A, c, hL.put 1 _, hB.setOther (fun ad e => by have := h3 ad e; omega) _, h3, hi, h5⟩
theorem Rd.short {T : TypeId} {w : World} {p : Nat} {s : Ent.St} {l : List Nat} (h : Rd T w p s l) : Rd T (w.setCell ⟨p, 2, none⟩ (.bool true)) p (s.1, true) l := by
  obtain ⟨A, c, hL, hB, h3, h4, h5⟩ := h
  exact ⟨A, c, hL.put 2 _, hB.setOther (fun ad e => by have := h3 ad e; omega) _, h3, h4, h5⟩

set_option maxHeartbeats 400000 in
theorem left_any (p : Nat) (s : Ent.St) (l : List Nat) (w : World) (hR : Rd 135 w p s l) (hl : l.length ≤ 200000) :
    Calls Try.prog 101 #[.pointer (some ⟨p, 0, none⟩)] w fun e w' => e = .returned (.int .i64 ((l.length - s.1 : Nat) : Int)) ∧ ∃ k, w' = w.drewN k := by
  obtain ⟨A, c, hL, hB, _, hi, _, _⟩ := hR
  have hc0 := hL.cell 0
  have hc1 := hL.cell 1
  obtain ⟨i, sh⟩ := s
  simp only at hi hc0 hc1 ⊢
  clear hL hB
  go_enter Try.func101, Try.ntmps101
  go_wp2_with fail
  go_quiet (fail)
  go_wp2
  go_ret
  exact ⟨ret_int (by first | omega | (rw [IntWalk.i64_in _ (by omega)]; omega)), _, rfl⟩

/-- Are there so many? -/
def hasB (l : List Nat) (k : Nat) (s : Ent.St) : Bool := !(s.2 || decide (l.length - s.1 < k))
def hasS (l : List Nat) (k : Nat) (s : Ent.St) : Ent.St := (s.1, s.2 || decide (l.length - s.1 < k))
def HasPost (w : World) (p k : Nat) (l : List Nat) (s : Ent.St) (e : Ending) (w' : World) : Prop :=
  e = .returned (.bool (hasB l k s)) ∧ Rd 135 w' p (hasS l k s) l ∧ w.grownBy w' (some p)

set_option maxHeartbeats 400000 in
theorem has_any (p k : Nat) (s : Ent.St) (l : List Nat) (w : World) (hR : Rd 135 w p s l) (hl : l.length ≤ 200000) (_hk : k ≤ 200000) :
    Calls Try.prog 97 #[.pointer (some ⟨p, 0, none⟩), .int .i64 k] w (HasPost w p k l s) := by
  have HR := Lib.hid hR
  obtain ⟨A, c, hL, hB, _, hi, _, _⟩ := hR
  have hc2 := hL.cell 2
  have hf2 := hL.free 2
  have C1 := Lib.hid (left_any p s l w HR.out hl)
  obtain ⟨i, sh⟩ := s
  simp only at hi hc2 C1
  clear hL hB
  unfold HasPost hasB hasS
  simp only
  obtain ⟨z, hz⟩ : ∃ z, l.length - i = z := ⟨_, rfl⟩
  rw [hz] at C1 ⊢
  by_cases hd : z < k
  · have hd1 : decide (z < k) = true := by simpa using hd
    rw [hd1]
    go_enter Try.func97, Try.ntmps97
    go_wp2_with fail
    with_reducible refine C1.out.mono ?_
    rintro e w2 ⟨rfl, q, rfl⟩
    go_wp2
    go_ret
    refine ⟨ret_bool (by simp), ?_, grown_put (grown_drewN (World.grownBy.refl w _) q) 2 _⟩
    rw [Bool.or_true]
    exact (HR.out.drewN q).short
  · have hd1 : decide (z < k) = false := by simpa using hd
    rw [hd1]
    go_enter Try.func97, Try.ntmps97
    go_wp2_with fail
    with_reducible refine C1.out.mono ?_
    rintro e w2 ⟨rfl, q, rfl⟩
    go_wp2
    go_ret
    refine ⟨ret_bool (by simp), ?_, grown_drewN (World.grownBy.refl w _) q⟩
    rw [Bool.or_false]
    exact HR.out.drewN q

theorem or_byte (x y : Nat) (hx : x < 72057594037927936) (hy : y < 256) : bits .or .u64 ((x : Int) * 256) (y : Int) = ((x * 256 + y : Nat) : Int) := by
  have h := u64_or_nat (x * 256) y (by omega) (by omega)
  rw [show ((x * 256 : Nat) : Int) = (x : Int) * 256 from by omega] at h
  rw [h, show x * 256 = x <<< 8 from by rw [Nat.shiftLeft_eq], Nat.shiftLeft_add_eq_or_of_lt (by omega)]

def RnR (w : World) (p : Nat) (s : Ent.St) (k : Nat) (l : List Nat) (x y : Value) (wr : World) : Prop :=
  ∃ j : Nat, j ≤ k ∧ y = .int .i64 j ∧ x = .int .u64 (Ent.val ((l.drop s.1).take j) : Nat) ∧ Rd 135 wr p s l ∧ w.grownBy wr (some p)

def RnPost (w : World) (p k : Nat) (l : List Nat) (s : Ent.St) (e : Ending) (w' : World) : Prop :=
  e = .returned (.int .u64 ((Ent.rnum l k s).1 : Nat)) ∧ Rd 135 w' p (Ent.rnum l k s).2 l ∧ w.grownBy w' (some p)

set_option maxHeartbeats 400000 in
theorem rnumber_bad (p k : Nat) (s : Ent.St) (l : List Nat) (w : World) (hR : Rd 135 w p s l) (hk : k ≤ 8) (hl : l.length ≤ 200000) (h : s.2 = true ∨ l.length - s.1 < k) :
    Calls Try.prog 84 #[.pointer (some ⟨p, 0, none⟩), .int .i64 k] w (RnPost w p k l s) := by
  have hn : Ent.rnum l k s = (0, (s.1, true)) := by unfold Ent.rnum; rw [if_pos h]
  have hb : hasB l k s = false := by unfold hasB; simp; exact fun hh => by rcases h with h | h; rw [h] at hh; cases hh; omega
  have hs : hasS l k s = (s.1, true) := by unfold hasS; rcases h with h | h; rw [h]; rfl; simp [h]
  have C1 := Lib.hid (has_any p k s l w hR hl (by omega))
  unfold HasPost at C1
  rw [hb, hs] at C1
  unfold RnPost
  rw [hn]
  clear hn hb hs hR
  go_enter Try.func84, Try.ntmps84
  go_wp2_with fail
  with_reducible refine C1.out.mono ?_
  rintro e w2 ⟨rfl, hR2, hg2⟩
  have HR2 := Lib.hid hR2
  clear hR2
  go_wp2
  go_ret
  exact ⟨rfl, HR2.out, hg2⟩

set_option maxHeartbeats 400000 in
theorem rnumber_good (p k i : Nat) (l : List Nat) (w : World) (hR : Rd 135 w p (i, false) l) (hk : k ≤ 8) (hl : l.length ≤ 200000) (h : ¬ l.length - i < k) :
    Calls Try.prog 84 #[.pointer (some ⟨p, 0, none⟩), .int .i64 k] w (RnPost w p k l (i, false)) := by
  have hn : Ent.rnum l k (i, false) = (Ent.val ((l.drop i).take k), (i + k, false)) := by unfold Ent.rnum; rw [if_neg (by simp; omega)]
  have hb : hasB l k (i, false) = true := by unfold hasB; simp; omega
  have hs : hasS l k (i, false) = (i, false) := by unfold hasS; simp; omega
  have C1 := Lib.hid (has_any p k (i, false) l w hR hl (by omega))
  have hi : i + k ≤ l.length := by obtain ⟨A, c, _, _, _, hi, _, _⟩ := hR; simp at hi; omega
  unfold HasPost at C1
  rw [hb, hs] at C1
  unfold RnPost
  rw [hn]
  have HR := Lib.hid hR
  clear hn hb hs hR
  go_enter Try.func84, Try.ntmps84
  go_wp2_with fail
  with_reducible refine C1.out.mono ?_
  rintro e w2 ⟨rfl, hR2, hg2⟩
  have HR2 := Lib.hid hR2
  have HG2 := Lib.hid hg2
  clear hR2 hg2 C1
  go_wp2_with fail
  go_loopw [5, 12] (RnR w p (i, false) k l) (fun _ i _ => k - (intOf i).toNat)
  case atStart => exact ⟨0, by omega, rfl, rfl, HR2.out, HG2.out⟩
  case round =>
    obtain ⟨j, hj, rfl, rfl, hR, hgr⟩ := hrel
    simp only
    have HR1 := Lib.hid hR
    have HGR := Lib.hid hgr
    obtain ⟨A, c, hL, hB, _, _, _, _⟩ := hR
    have hc1 := hL.cell 1
    simp only at hc1
    by_cases hlt : j < k
    · have hc0 := hL.cell 0
      obtain ⟨b, off, rfl, hc⟩ := hB.2.2 (by omega)
      have hck := hc (i + j) (by omega)
      have hyb := getD_lt l hB.2.1 (i + j)
      have hv := Ent.val_lt ((l.drop i).take j) (fun c hc => hB.2.1 c (List.mem_of_mem_drop (List.mem_of_mem_take hc)))
      have hsn : Ent.val ((l.drop i).take (j + 1)) = Ent.val ((l.drop i).take j) * 256 + l.getD (i + j) 0 := by
        rw [take_one _ _ (by rw [List.length_drop]; omega), Ent.val_snoc]
        simp [List.getD]
      rw [List.length_take, List.length_drop, Nat.min_eq_left (by omega)] at hv
      have hv2 : Ent.val ((l.drop i).take j) < 72057594037927936 := Nat.lt_of_lt_of_le hv (show 256 ^ j ≤ 256 ^ 7 from Nat.pow_le_pow_right (by decide) (by omega))
      have hq : IntKind.i64.wrap ((i : Int) + (j : Int)) = ((i + j : Nat) : Int) := by rw [IntWalk.i64_in _ (by omega)]; omega
      have hq1 : ((i + j : Nat) : Int) < (l.length : Int) := by omega
      have hi2 : i ≤ 200000 := by omega
      have HSN := Lib.hid hsn
      clear hL hB hc hv hsn HR hgr HR2 HG2
      generalize Ent.val ((l.drop i).take j) = x at *
      generalize l.getD (i + j) 0 = y at *
      generalize i + j = q1 at *
      have hor := or_byte x y hv2 hyb
      go_wp2_with fail
      go_quiet (fail)
      go_wp2
      go_roundw
      case rel => exact ⟨j + 1, by omega, by go_num, val_int (by rw [HSN.out]; omega), HR1.out.drewN _, grown_drewN HGR.out _⟩
      case measure => simp [intOf]; omega
    · have hjk : j = k := by omega
      subst hjk
      have hf1 := hL.free 1
      have hi2 : i ≤ 200000 := by omega
      clear hL hB
      go_wp2
      go_ret
      exact ⟨rfl, HR1.out.put (i + j) hi, grown_put HGR.out 1 _⟩

theorem rnumber_any (p k : Nat) (s : Ent.St) (l : List Nat) (w : World) (hR : Rd 135 w p s l) (hk : k ≤ 8) (hl : l.length ≤ 200000) :
    Calls Try.prog 84 #[.pointer (some ⟨p, 0, none⟩), .int .i64 k] w (RnPost w p k l s) := by
  by_cases h : s.2 = true ∨ l.length - s.1 < k
  · exact rnumber_bad p k s l w hR hk hl h
  · obtain ⟨i, sh⟩ := s
    have h1 : sh = false := by cases sh; rfl; exact absurd (.inl rfl) h
    subst h1
    exact rnumber_good p k i l w hR hk hl (fun hh => h (.inr hh))

end Go.Proofs.Ytfcfejmammohpaa
