/-
  The contracts of the document's reader: Of, Take, Num, Text.
-/
import Derived.Test.YtfcfejmammohpaaNRd
namespace Go.Proofs.Ytfcfejmammohpaa
open Go.RowKit
set_option maxRecDepth 100000
attribute [local go_sem ↓] Go.wp_at_zero Go.wp_at_succ

/-- The document's reader, at block p. -/
def Rf (w : World) (p : Nat) (s : Ent.St) (l : List Nat) : Prop :=
  ∃ A c, Lies w p 111 #[.slice A l.length c, .int .i64 (s.1 : Nat), .bool s.2] ∧ Bys w A l.length l ∧ (0 < l.length → ∀ ad, A = some ad → ad.block < p) ∧ s.1 ≤ l.length ∧ l.length ≤ c ∧ c ≤ maxLen
theorem Bys.setOther0 {w : World} {a : Option Addr} {n : Nat} {l : List Nat} {p o : Nat} (h : Bys w a n l) (ha : 0 < n → ∀ ad, a = some ad → ad.block ≠ p) (u : Value) : Bys (w.setCell ⟨p, o, none⟩ u) a n l := by
  by_cases h0 : 0 < n
  · exact h.setOther (ha h0) u
  · exact ⟨h.1, h.2.1, fun h => absurd h h0⟩
theorem Rf.drewN {w : World} {p : Nat} {s : Ent.St} {l : List Nat} (h : Rf w p s l) (n : Nat) : Rf (w.drewN n) p s l := h
theorem Rf.small {w : World} {p : Nat} {s : Ent.St} {l : List Nat} (h : Rf w p s l) : ∀ c ∈ l, c < 256 := by
  obtain ⟨A, c, _, hB, _⟩ := h
  exact hB.2.1
theorem Rf.lt {w : World} {p : Nat} {s : Ent.St} {l : List Nat} (h : Rf w p s l) : p < w.heap.size := by
  obtain ⟨A, c, hL, _⟩ := h
  exact hL.lt
theorem Rf.below {w w' : World} {p : Nat} {s : Ent.St} {l : List Nat} (h : Rf w p s l) (hb : Below w.heap.size w w') : Rf w' p s l := by
  obtain ⟨A, c, hL, hB, h3⟩ := h
  exact ⟨A, c, hL.below hb hL.lt, hB.below hb, h3⟩
theorem Rf.put {w : World} {p : Nat} {s : Ent.St} {l : List Nat} (h : Rf w p s l) (i : Nat) (hi : i ≤ l.length) : Rf (w.setCell ⟨p, 1, none⟩ (.int .i64 (i : Nat))) p (i, s.2) l := by
  obtain ⟨A, c, hL, hB, h3, h4, h5⟩ := h
  exact ⟨A, c, hL.put 1 _, hB.setOther0 (fun h0 ad e => by have := h3 h0 ad e; omega) _, h3, hi, h5⟩
theorem Rf.short {w : World} {p : Nat} {s : Ent.St} {l : List Nat} (h : Rf w p s l) : Rf (w.setCell ⟨p, 2, none⟩ (.bool true)) p (s.1, true) l := by
  obtain ⟨A, c, hL, hB, h3, h4, h5⟩ := h
  exact ⟨A, c, hL.put 2 _, hB.setOther0 (fun h0 ad e => by have := h3 h0 ad e; omega) _, h3, h4, h5⟩
theorem Rf.setq {w : World} {p q : Nat} {s : Ent.St} {l : List Nat} (h : Rf w p s l) (hpq : p < q) (o : Nat) (u : Value) : Rf (w.setCell ⟨q, o, none⟩ u) p s l := by
  obtain ⟨A, c, hL, hB, h3, h4⟩ := h
  exact ⟨A, c, hL.other (a := ⟨q, o, none⟩) (by show p ≠ q; omega) u, hB.setOther0 (fun h0 ad e => by have := h3 h0 ad e; omega) u, h3, h4⟩

def OfR (n : Nat) (l : List Nat) (w : World) (x y : Value) (wr : World) : Prop :=
  ∃ j : Nat, j ≤ n ∧ y = .int .i64 j ∧ x = .int .u64 (Ent.val (l.take j) : Nat) ∧ wr = w

set_option maxHeartbeats 400000 in
theorem rof_any (A : Option Addr) (n c : Nat) (l : List Nat) (w : World) (hB : Bys w A n l) (hn : n ≤ 8) :
    Calls Try.prog 87 #[.slice A n c] w fun e w' => e = .returned (.int .u64 (Ent.val l : Nat)) ∧ w' = w := by
  have HB := Lib.hid hB
  clear hB
  go_enter Try.func87, Try.ntmps87
  go_wp2_with fail
  go_loopw [3, 4] (OfR n l w) (fun _ i _ => n - (intOf i).toNat)
  case atStart => exact ⟨0, by omega, rfl, rfl, rfl⟩
  case round =>
    obtain ⟨j, hj, rfl, rfl, rfl⟩ := hrel
    have hB := HB.out
    by_cases hlt : j < n
    · obtain ⟨b, off, rfl, hc⟩ := hB.2.2 (by omega)
      have hck := hc j hlt
      have hyb := getD_lt l hB.2.1 j
      have hv := Ent.val_lt (l.take j) (fun c hc => hB.2.1 c (List.mem_of_mem_take hc))
      have hll := hB.1
      have hsn : Ent.val (l.take (j + 1)) = Ent.val (l.take j) * 256 + l.getD j 0 := by
        rw [take_one _ _ (by omega), Ent.val_snoc]
      rw [List.length_take, Nat.min_eq_left (by omega)] at hv
      have hv2 : Ent.val (l.take j) < 72057594037927936 := Nat.lt_of_lt_of_le hv (show 256 ^ j ≤ 256 ^ 7 from Nat.pow_le_pow_right (by decide) (by omega))
      have HSN := Lib.hid hsn
      have hq1 : (j : Int) < (n : Int) := by omega
      clear hB hc hv hsn hll HB
      generalize Ent.val (l.take j) = x at *
      generalize l.getD j 0 = y at *
      go_wp2
      go_roundw
      case rel => exact ⟨j + 1, by omega, by go_num, val_int (by rw [HSN.out]; omega), rfl⟩
      case measure => simp [intOf]; omega
    · have hjk : j = n := by omega
      subst hjk
      go_wp2
      go_ret
      refine ⟨ret_int ?_, rfl⟩
      rw [List.take_of_length_le (by rw [hB.1]; exact Nat.le_refl _)]

def TakeBad (w : World) (p : Nat) (l : List Nat) (s : Ent.St) (e : Ending) (w' : World) : Prop :=
  e = .returned (.tuple #[.slice none 0 0, .bool false]) ∧ Rf w' p (s.1, true) l ∧ w.grownBy w' (some p)
def TakeGood (w : World) (p k i : Nat) (l : List Nat) (e : Ending) (w' : World) : Prop :=
  ∃ v, e = .returned (.tuple #[v, .bool true]) ∧ Own w' w.heap.size v ((l.drop i).take k) ∧ Rf w' p (i + k, false) l ∧ w.grownBy w' (some p)

set_option maxHeartbeats 400000 in
theorem take_bad (p k : Nat) (s : Ent.St) (l : List Nat) (w : World) (hR : Rf w p s l) (_hk : k ≤ 200000) (hl : l.length ≤ 200000) (h : s.2 = true ∨ l.length - s.1 < k) :
    Calls Try.prog 86 #[.pointer (some ⟨p, 0, none⟩), .int .i64 k] w (TakeBad w p l s) := by
  have HR := Lib.hid hR
  obtain ⟨A, c, hL, hB, _, hi, _, _⟩ := hR
  have hc0 := hL.cell 0
  have hc1 := hL.cell 1
  have hc2 := hL.cell 2
  have hf2 := hL.free 2
  obtain ⟨i, sh⟩ := s
  simp only at hi hc0 hc1 hc2
  clear hL hB
  cases sh with
  | true =>
    clear h hi hc0 hc1
    go_enter Try.func86, Try.ntmps86
    go_wp2_with fail
    go_quiet (fail)
    go_wp2
    go_ret2
    exact ⟨rfl, (HR.out.drewN _).short, grown_put (grown_drewN (World.grownBy.refl w _) _) 2 _⟩
  | false =>
    have h : l.length - i < k := by rcases h with h | h; cases h; exact h
    obtain ⟨z, hz⟩ : ∃ z, l.length - i = z := ⟨_, rfl⟩
    have hq : IntKind.i64.wrap ((l.length : Int) - (i : Int)) = ((z : Nat) : Int) := by rw [IntWalk.i64_in _ (by omega)]; omega
    have hq1 : ((z : Nat) : Int) < (k : Int) := by omega
    clear h hz hi
    go_enter Try.func86, Try.ntmps86
    go_wp2_with fail
    go_quiet (fail)
    go_wp2
    go_ret2
    exact ⟨rfl, (HR.out.drewN _).short, grown_put (grown_drewN (World.grownBy.refl w _) _) 2 _⟩

theorem size_put (w : World) (a : Addr) (u : Value) : (w.setCell a u).heap.size = w.heap.size := by simp [World.setCell]

set_option maxRecDepth 100000 in
set_option maxHeartbeats 1000000 in
theorem take_good (p k i : Nat) (l : List Nat) (w : World) (hR : Rf w p (i, false) l) (hk : k ≤ 200000) (h0 : 0 < k) (hl : l.length ≤ 200000) (h : ¬ l.length - i < k) :
    Calls Try.prog 86 #[.pointer (some ⟨p, 0, none⟩), .int .i64 k] w (TakeGood w p k i l) := by
  have HR := Lib.hid hR
  obtain ⟨A, c, hL, hB, hlo, hi, hcl, hcm⟩ := hR
  simp only at hi
  obtain ⟨b, off, rfl, hc⟩ := hB.2.2 (by omega)
  have hc0 := hL.cell 0
  have hc1 := hL.cell 1
  have hc2 := hL.cell 2
  have hf1 := hL.free 1
  simp only at hc0 hc1 hc2
  obtain ⟨m2, hm2⟩ : ∃ m, i + k = m := ⟨_, rfl⟩
  obtain ⟨z, hz⟩ : ∃ z, l.length - i = z := ⟨_, rfl⟩
  have hq : IntKind.i64.wrap ((l.length : Int) - (i : Int)) = ((z : Nat) : Int) := by rw [IntWalk.i64_in _ (by omega)]; omega
  have hq1 : ¬ ((z : Nat) : Int) < (k : Int) := by omega
  have hq2 : IntKind.i64.wrap ((i : Int) + (k : Int)) = ((m2 : Nat) : Int) := by rw [IntWalk.i64_in _ (by omega)]; omega
  have b1 : (0 : Int) ≤ (i : Int) := by omega
  have b2 : (i : Int) ≤ (m2 : Int) := by omega
  have b3 : (m2 : Int) ≤ (c : Int) := by omega
  have hne : c ≠ i := by omega
  have hml : m2 ≤ l.length := by omega
  have hBy : Bys w (some ⟨b, off + i, none⟩) (m2 - i) ((l.drop i).take k) := by
    have := (hB.cut i hi).front k (by omega)
    rwa [show m2 - i = k from by omega]
  have hbp : b ≠ p := by have := hlo (by omega) _ rfl; simp at this; omega
  have hBp : ∀ q u, Bys ((w.drewN q).setCell ⟨p, 1, none⟩ u) (some ⟨b, off + i, none⟩) (m2 - i) ((l.drop i).take k) := fun q u => (hBy.drewN q).setOther (fun ad e => by injection e with e; subst e; exact hbp) u
  have HRP := Lib.hid (fun q => (HR.out.drewN q).put m2 hml)
  have C4 := Lib.hid (fun q u => copy_any _ (m2 - i) (c - i) _ _ (hBp q u) (fun h => by cases h) (by omega))
  have HM := Lib.hid hm2
  clear hL hB hc hBp hBy hm2 hz h hlo
  go_enter Try.func86, Try.ntmps86
  go_wp2_with fail
  go_quiet (fail)
  go_wp2_with fail
  go_quiet (fail)
  go_wp2_with fail
  with_reducible refine (C4.out _ _).mono ?_
  rintro e w2 ⟨v, rfl, hO, hb2⟩
  have HO := Lib.hid hO
  clear hO
  go_wp2
  go_ret2
  refine ⟨v, rfl, ?_, ?_, ?_⟩
  · have := HO.out; rw [size_put] at this; exact this
  · rw [HM.out]; exact (HRP.out _).below hb2
  · exact grown_below (grown_put (grown_drewN (World.grownBy.refl w _) _) 1 _) hb2

def RfnPost (w : World) (p k : Nat) (l : List Nat) (s : Ent.St) (e : Ending) (w' : World) : Prop :=
  e = .returned (.int .u64 ((Ent.rnum l k s).1 : Nat)) ∧ Rf w' p (Ent.rnum l k s).2 l ∧ w.grownBy w' (some p)

set_option maxHeartbeats 400000 in
theorem rfnum_any (p k : Nat) (s : Ent.St) (l : List Nat) (w : World) (hR : Rf w p s l) (hk : k ≤ 8) (h0 : 0 < k) (hl : l.length ≤ 200000) :
    Calls Try.prog 62 #[.pointer (some ⟨p, 0, none⟩), .int .i64 k] w (RfnPost w p k l s) := by
  unfold RfnPost
  by_cases h : s.2 = true ∨ l.length - s.1 < k
  · have hn : Ent.rnum l k s = (0, (s.1, true)) := by unfold Ent.rnum; rw [if_pos h]
    have C1 := Lib.hid (take_bad p k s l w hR (by omega) hl h)
    unfold TakeBad at C1
    rw [hn]
    clear hn hR h
    go_enter Try.func62, Try.ntmps62
    go_wp2_with fail
    with_reducible refine C1.out.mono ?_
    rintro e w2 ⟨rfl, hR2, hg2⟩
    have HR2 := Lib.hid hR2
    have C2 := Lib.hid (rof_any none 0 0 [] w2 (Bys.none_ w2) (by omega))
    clear hR2 C1
    go_wp2_with fail
    with_reducible refine C2.out.mono ?_
    rintro e w3 ⟨rfl, rfl⟩
    go_wp2
    go_ret
    exact ⟨rfl, HR2.out, hg2⟩
  · obtain ⟨i, sh⟩ := s
    have h1 : sh = false := by cases sh; rfl; exact absurd (.inl rfl) h
    subst h1
    have h2 : ¬ l.length - i < k := fun hh => h (.inr hh)
    have hn : Ent.rnum l k (i, false) = (Ent.val ((l.drop i).take k), (i + k, false)) := by unfold Ent.rnum; rw [if_neg h]
    have C1 := Lib.hid (take_good p k i l w hR (by omega) h0 hl h2)
    unfold TakeGood at C1
    rw [hn]
    have hlen : ((l.drop i).take k).length = k := by rw [List.length_take, List.length_drop]; omega
    generalize (l.drop i).take k = r at *
    generalize i + k = z at *
    clear hn hR h h2
    go_enter Try.func62, Try.ntmps62
    go_wp2_with fail
    with_reducible refine C1.out.mono ?_
    rintro e w2 ⟨v, rfl, hO2, hR2, hg2⟩
    have HR2 := Lib.hid hR2
    obtain ⟨A, c, rfl, hB, _, _, _⟩ := hO2.slice
    have C2 := Lib.hid (rof_any A r.length c r w2 hB (by omega))
    clear hR2 C1 hB hO2 hlen
    go_wp2_with fail
    with_reducible refine C2.out.mono ?_
    rintro e w3 ⟨rfl, rfl⟩
    go_wp2
    go_ret
    exact ⟨rfl, HR2.out, hg2⟩

/-- A slice that reads as these bytes, in a block not below B; or none. -/
def Tx (w : World) (B : Nat) (v : Value) (l : List Nat) : Prop :=
  ∃ A c, v = .slice A l.length c ∧ Bys w A l.length l ∧ l.length ≤ c ∧ c ≤ maxLen ∧ (A = none → c = 0) ∧ ∀ ad, A = some ad → B ≤ ad.block ∧ ad.block < w.heap.size
theorem Tx.nil (w : World) (B : Nat) : Tx w B (.slice none 0 0) [] := ⟨none, 0, rfl, Bys.none_ w, Nat.le_refl _, by unfold maxLen; omega, fun _ => rfl, fun ad h => by cases h⟩
theorem Tx.mono {w : World} {B B' : Nat} {v : Value} {l : List Nat} (h : Tx w B v l) (hb : B' ≤ B) : Tx w B' v l := by
  obtain ⟨A, c, h1, h2, h3, h4, h5, h6⟩ := h
  exact ⟨A, c, h1, h2, h3, h4, h5, fun ad e => ⟨Nat.le_trans hb (h6 ad e).1, (h6 ad e).2⟩⟩
theorem Tx.below {w w' : World} {B : Nat} {v : Value} {l : List Nat} (h : Tx w B v l) (hb : Below w.heap.size w w') : Tx w' B v l := by
  obtain ⟨A, c, h1, h2, h3, h4, h5, h6⟩ := h
  exact ⟨A, c, h1, h2.below hb, h3, h4, h5, fun ad e => ⟨(h6 ad e).1, Nat.lt_of_lt_of_le (h6 ad e).2 hb.size⟩⟩
theorem Tx.put {w : World} {B q o : Nat} {v : Value} {l : List Nat} (h : Tx w B v l) (hq : q < B) (u : Value) : Tx (w.setCell ⟨q, o, none⟩ u) B v l := by
  obtain ⟨A, c, h1, h2, h3, h4, h5, h6⟩ := h
  exact ⟨A, c, h1, h2.setOther (fun ad e => by have := (h6 ad e).1; omega) u, h3, h4, h5, fun ad e => ⟨(h6 ad e).1, by rw [size_put]; exact (h6 ad e).2⟩⟩
theorem Bys.grownOther2 {w w' : World} {a : Option Addr} {n p : Nat} {l : List Nat} (h : Bys w a n l) (ha : ∀ ad, a = some ad → ad.block ≠ p ∧ ad.block < w.heap.size) (hg : w.grownBy w' (some p)) : Bys w' a n l := by
  obtain ⟨h1, h2, h3⟩ := h
  refine ⟨h1, h2, fun h0 => ?_⟩
  obtain ⟨b, off, e, hc⟩ := h3 h0
  refine ⟨b, off, e, fun i hi => ?_⟩
  have hb := ha _ e
  rw [← hc i hi]
  unfold World.cell?
  rw [hg.block b hb.2 (fun e => hb.1 (Option.some.inj e))]
theorem Tx.grown {w w' : World} {B p : Nat} {v : Value} {l : List Nat} (h : Tx w B v l) (hp : p < B) (hg : w.grownBy w' (some p)) : Tx w' B v l := by
  obtain ⟨A, c, h1, h2, h3, h4, h5, h6⟩ := h
  exact ⟨A, c, h1, h2.grownOther2 (fun ad e => ⟨by have := (h6 ad e).1; omega, (h6 ad e).2⟩) hg, h3, h4, h5, fun ad e => ⟨(h6 ad e).1, Nat.lt_of_lt_of_le (h6 ad e).2 hg.size⟩⟩

def RftPost (w : World) (p : Nat) (l : List Nat) (s : Ent.St) (e : Ending) (w' : World) : Prop :=
  ∃ v, e = .returned v ∧ Tx w' w.heap.size v (Ent.rtxt l s).1 ∧ Rf w' p (Ent.rtxt l s).2 l ∧ w.grownBy w' (some p)

theorem own_tail {w : World} {B g cap : Nat} {r : List Nat} (h : Own w B (.slice (some ⟨g, 0, none⟩) r.length cap) r) (hr : 1 ≤ r.length) :
    Tx w B (.slice (if cap = 1 then some ⟨g, 0, none⟩ else some ⟨g, 1, none⟩) (r.length - 1) (cap - 1)) (r.drop 1) := by
  have hb := h.bys
  have hlen : (r.drop 1).length = r.length - 1 := by rw [List.length_drop]
  have hlt : g < w.heap.size := by
    obtain ⟨g', off, e, hc⟩ := hb.1.2.2 (by omega)
    injection e with e
    injection e with e1 e2 _
    subst e1 e2
    exact block_lt_of_cell (hc 0 (by omega))
  have hge := h.block g rfl
  refine ⟨if cap = 1 then some ⟨g, 0, none⟩ else some ⟨g, 1, none⟩, cap - 1, by rw [hlen], ?_, by rw [hlen]; omega, by omega, ?_, ?_⟩
  rotate_left
  · intro e; split at e <;> cases e
  · intro ad e; split at e <;> (injection e with e; subst e; exact ⟨hge, hlt⟩)
  rw [hlen]
  have := bys_mid (m1 := 1) (m2 := r.length) (y := r.length - 1) (c := cap) hb.1 (by omega) (Nat.le_refl _) hb.2.1
  rw [List.take_of_length_le (by rw [hlen]; exact Nat.le_refl _), Nat.zero_add] at this
  exact this

set_option maxRecDepth 100000 in
set_option maxHeartbeats 1000000 in
theorem rftext_any (p : Nat) (s : Ent.St) (l : List Nat) (w : World) (hR : Rf w p s l) (hl : l.length ≤ 200000) :
    Calls Try.prog 63 #[.pointer (some ⟨p, 0, none⟩)] w (RftPost w p l s) := by
  unfold RftPost
  have HR := Lib.hid hR
  have hsm := hR.small
  obtain ⟨A, c, hL, hB, _, hi, _, _⟩ := hR
  have hc0 := hL.cell 0
  have hc1 := hL.cell 1
  obtain ⟨i, sh⟩ := s
  simp only at hi hc0 hc1
  by_cases h1 : i < l.length
  · obtain ⟨b, off, rfl, hc⟩ := hB.2.2 (by omega)
    have hck := hc i h1
    have hq1 : (i : Int) < (l.length : Int) := by omega
    have hy : l.getD i 0 < 256 := getD_lt l hsm i
    by_cases h2 : sh = true ∨ l.length - i < 1 + l.getD i 0
    · have hn : Ent.rtxt l (i, sh) = ([], (i, true)) := by
        unfold Ent.rtxt
        rw [if_pos (by rcases h2 with h2 | h2; exact .inl h2; exact .inr (.inr h2))]
      have C2 := Lib.hid (fun W (hW : Rf W p (i, sh) l) => take_bad p (1 + l.getD i 0) (i, sh) l W hW (by omega) hl h2)
      unfold TakeBad at C2
      rw [hn]
      clear hL hB hc hn h2
      generalize l.getD i 0 = y at *
      go_enter Try.func63, Try.ntmps63
      go_wp2_with fail
      go_quiet (fail)
      go_wp2_with fail
      go_quiet (fail)
      have c2 := fun q => C2.out _ (HR.out.drewN q)
      rw [show ((1 + y : Nat) : Int) = 1 + (y : Int) from by omega] at c2
      have C3 := Lib.hid c2
      clear c2
      go_wp2_with fail
      with_reducible refine (C3.out _).mono ?_
      rintro e w3 ⟨rfl, hR3, hg3⟩
      have HR3 := Lib.hid hR3
      clear hR3
      go_wp2
      go_ret
      exact ⟨_, rfl, Tx.nil _ _, HR3.out, (grown_drewN (World.grownBy.refl w _) _).trans hg3⟩
    · have hsh : sh = false := by cases sh; rfl; exact absurd (.inl rfl) h2
      subst hsh
      have h3 : ¬ l.length - i < 1 + l.getD i 0 := fun hh => h2 (.inr hh)
      have hn : Ent.rtxt l (i, false) = ((l.drop (i + 1)).take (l.getD i 0), (i + (1 + l.getD i 0), false)) := by
        unfold Ent.rtxt
        rw [if_neg (by rintro (q | q | q); exact absurd q (by simp); exact absurd q (by simp only; omega); exact h3 q)]
      have hlen : ((l.drop i).take (1 + l.getD i 0)).length = 1 + l.getD i 0 := by rw [List.length_take, List.length_drop]; omega
      have htl : (l.drop (i + 1)).take (l.getD i 0) = ((l.drop i).take (1 + l.getD i 0)).drop 1 := by
        rw [List.drop_take, List.drop_drop, Nat.add_sub_cancel_left]
      have C2 := Lib.hid (fun W (hW : Rf W p (i, false) l) => take_good p (1 + l.getD i 0) i l W hW (by omega) (by omega) hl h3)
      unfold TakeGood at C2
      rw [hn, htl]
      clear hL hB hc hn h2 h3 htl
      generalize hr : (l.drop i).take (1 + l.getD i 0) = r at *
      generalize i + (1 + l.getD i 0) = z at *
      clear hr
      generalize l.getD i 0 = y at *
      go_enter Try.func63, Try.ntmps63
      go_wp2_with fail
      go_quiet (fail)
      go_wp2_with fail
      go_quiet (fail)
      have c2 := fun q => C2.out _ (HR.out.drewN q)
      rw [show ((1 + y : Nat) : Int) = 1 + (y : Int) from by omega] at c2
      have C3 := Lib.hid c2
      clear c2
      go_wp2_with fail
      with_reducible refine (C3.out _).mono ?_
      rintro e w3 ⟨v, rfl, hO3, hR3, hg3⟩
      have HR3 := Lib.hid hR3
      have HLEN := Lib.hid hlen
      obtain ⟨g, cap, rfl, hBr, hcp, hcm⟩ := hO3.some_ (by omega)
      have HT := Lib.hid (own_tail hO3 (by omega))
      obtain ⟨t, ht⟩ : ∃ t, r.length = t := ⟨_, rfl⟩
      rw [ht] at HT hcp hlen ⊢
      have b1 : (1 : Int) ≤ (t : Int) := by omega
      have b2 : (t : Int) ≤ (cap : Int) := by omega
      have HG3 := Lib.hid ((grown_drewN (World.grownBy.refl w _) _).trans hg3)
      clear hR3 hO3 hBr ht hlen HLEN
      by_cases hcap : cap = 1
      · rw [if_pos hcap] at HT
        subst hcap
        have ht1 : t = 1 := by omega
        subst ht1
        go_wp2
        go_ret
        exact ⟨_, rfl, HT.out, HR3.out, HG3.out⟩
      · rw [if_neg hcap] at HT
        go_wp2
        go_ret
        exact ⟨_, rfl, HT.out, HR3.out, HG3.out⟩
  · have hn : Ent.rtxt l (i, sh) = ([], (i, true)) := by
      unfold Ent.rtxt
      rw [if_pos (.inr (.inl (by simp only; omega)))]
    have C2 := Lib.hid (fun W (hW : Rf W p (i, sh) l) => take_bad p 1 (i, sh) l W hW (by omega) hl (.inr (by simp only; omega)))
    unfold TakeBad at C2
    rw [show ((1 : Nat) : Int) = 1 from rfl] at C2
    rw [hn]
    have hq1 : ¬ (i : Int) < (l.length : Int) := by omega
    clear hL hB hn
    go_enter Try.func63, Try.ntmps63
    go_wp2_with fail
    go_quiet (fail)
    have C3 := Lib.hid (fun q => C2.out _ (HR.out.drewN q))
    go_wp2_with fail
    with_reducible refine (C3.out _).mono ?_
    rintro e w3 ⟨rfl, hR3, hg3⟩
    have HR3 := Lib.hid hR3
    clear hR3
    go_wp2
    go_ret
    exact ⟨_, rfl, Tx.nil _ _, HR3.out, (grown_drewN (World.grownBy.refl w _) _).trans hg3⟩

end Go.Proofs.Ytfcfejmammohpaa
