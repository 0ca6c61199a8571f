/-
  The contract of entry.Put: for every entry.
-/
import Derived.Test.YtccpmalefdnhdaaWB
namespace Go.Proofs.Ytccpmalefdnhdaa
open Go.RowKit
attribute [local go_sem ↓] Go.wp_at_zero Go.wp_at_succ

namespace Ent
/-- What stands behind the header. -/
def tail (e : Entry) : List Nat := encO e ++ (encT e ++ (encS e ++ (encC e ++ encM e)))
theorem enc_tail (e : Entry) : enc e = be 1 e.kind.toNat ++ be 8 e.lsn ++ be 4 e.epoch ++ tail e := by unfold enc tail; simp only [List.append_assoc]
theorem tail_len (e : Entry) (h : Ok e) : (tail e).length ≤ 300 := by
  have h1 : (encO e).length ≤ 4 := by unfold encO; split; rw [be_len]; decide; decide
  have h2 : (encT e).length ≤ 240 := by
    unfold encT
    split
    · have := h.t
      rename_i hh
      unfold fitT at this
      rw [hh, if_pos rfl] at this
      have := of_decide_eq_true this
      rw [List.length_append, txt_len, txt_len]; omega
    · decide
  have h3 : (encS e).length ≤ 3 := by unfold encS; split; rw [List.length_append, List.length_append, be_len, be_len, be_len]; decide; decide
  have h4 : (encC e).length ≤ 1 := by unfold encC; split; decide; rw [be_len]; decide
  have h5 : (encM e).length ≤ 8 := by unfold encM; split; rw [be_len]; decide; decide
  unfold tail
  simp only [List.length_append]
  omega
theorem enc_len (e : Entry) (h : Ok e) : (enc e).length ≤ 313 := by
  have := tail_len e h
  rw [enc_tail]
  simp only [List.length_append, be_len]
  omega
theorem kinds (e : Entry) (h : Ok e) : e.kind = 1 ∨ e.kind = 2 ∨ e.kind = 3 ∨ e.kind = 4 ∨ e.kind = 5 ∨ e.kind = 6 ∨ e.kind = 7 := by
  have := h.k1
  have := h.k7
  omega
end Ent

/-- An entry's texts lie there, below B. -/
structure Txt (w : World) (B : Nat) (e : Entry) (A1 A2 : Option Addr) (c1 c2 : Nat) : Prop where
  k : Bys w A1 e.key.length e.key
  kl : Low B A1 e.key.length
  ka : A1 = none → c1 = 0
  d : Bys w A2 e.data.length e.data
  dl : Low B A2 e.data.length
  da : A2 = none → c2 = 0
theorem Txt.below {w w' : World} {B : Nat} {e : Entry} {A1 A2 : Option Addr} {c1 c2 : Nat} (h : Txt w B e A1 A2 c1 c2) (hb : Below B w w') : Txt w' B e A1 A2 c1 c2 :=
  ⟨h.k.belowB h.kl hb, h.kl, h.ka, h.d.belowB h.dl hb, h.dl, h.da⟩
theorem Low.mono {B B' : Nat} {A : Option Addr} {n : Nat} (h : Low B A n) (hb : B ≤ B') : Low B' A n := fun h0 => by
  obtain ⟨b, off, h1, h2⟩ := h h0
  exact ⟨b, off, h1, by omega⟩
theorem Txt.mono {w : World} {B B' : Nat} {e : Entry} {A1 A2 : Option Addr} {c1 c2 : Nat} (h : Txt w B e A1 A2 c1 c2) (hb : B ≤ B') : Txt w B' e A1 A2 c1 c2 :=
  ⟨h.k, h.kl.mono hb, h.ka, h.d, h.dl.mono hb, h.da⟩

theorem write_any (p B : Nat) (l : List Nat) (e : Entry) (A1 A2 : Option Addr) (c1 c2 : Nat) (w : World) (hW : Wr w p B l) (hl : l.length ≤ 500) (hb : Ent.Bnd e) (hk : Ent.Ok e) (hT : Txt w B e A1 A2 c1 c2) :
    Calls Try.prog 33 #[.agg (pvk e.kind), .pointer (some ⟨p, 0, none⟩), .agg (evs e (.slice A1 e.key.length c1) (.slice A2 e.data.length c2))] w (WritePost w p B (l ++ Ent.tail e)) := by
  have hs := hk.s
  have ht := hk.t
  have hc := hk.c
  unfold Ent.fitS at hs
  unfold Ent.fitT at ht
  unfold Ent.fitC at hc
  rcases Ent.kinds e hk with h | h | h | h | h | h | h
  · have e1 : Ent.tail e = [] := by unfold Ent.tail Ent.encO Ent.encT Ent.encS Ent.encC Ent.encM; rw [h]; rfl
    rw [e1, List.append_nil, h]
    exact write1 p B l e _ _ w hW hl
  · have e1 : Ent.tail e = Ent.be 4 e.order ++ Ent.txt e.key ++ Ent.txt e.data := by unfold Ent.tail Ent.encO Ent.encT Ent.encS Ent.encC Ent.encM; rw [h]; simp [Ent.hasO, Ent.hasT, Ent.hasS, Ent.codes, Ent.hasM]
    rw [h, if_pos (by decide)] at ht
    have ht := of_decide_eq_true ht
    have := write2 p B l e A1 A2 c1 c2 w hW hl hT.k hT.kl hT.ka ht.2.1 hT.d hT.dl hT.da ht.2.2 hb.order
    refine (congrArg (fun q => Calls Try.prog 33 #[.agg (pvk e.kind), .pointer (some ⟨p, 0, none⟩), .agg (evs e (.slice A1 e.key.length c1) (.slice A2 e.data.length c2))] w (WritePost w p B q)) (?_ : _ = l ++ Ent.tail e)).mp (by rw [h]; exact this)
    rw [e1]; simp only [List.append_assoc]
  · rw [h, if_pos (by decide)] at hs
    have hs := of_decide_eq_true hs
    have e1 : Ent.tail e = Ent.be 4 e.order ++ Ent.be 1 e.step.toNat ++ Ent.be 1 (Ent.b2n e.undo) ++ Ent.be 1 e.tri.toNat := by unfold Ent.tail Ent.encO Ent.encT Ent.encS Ent.encC Ent.encM; rw [h]; simp [Ent.hasO, Ent.hasT, Ent.hasS, Ent.codes, Ent.hasM]
    have := write3 p B l e (.slice A1 e.key.length c1) (.slice A2 e.data.length c2) e.step.toNat e.tri.toNat w hW hl hb.order (by omega) (by omega) (by omega) (by omega)
    refine (congrArg (fun q => Calls Try.prog 33 #[.agg (pvk e.kind), .pointer (some ⟨p, 0, none⟩), .agg (evs e (.slice A1 e.key.length c1) (.slice A2 e.data.length c2))] w (WritePost w p B q)) (?_ : _ = l ++ Ent.tail e)).mp (by rw [h]; exact this)
    rw [e1]; simp only [List.append_assoc]
  · rw [h, if_pos (by decide)] at hs
    rw [h, if_neg (by decide)] at hc
    have hs := of_decide_eq_true hs
    have hc := of_decide_eq_true hc
    have h3 : Ent.codes 4 = 3 := rfl
    rw [h3] at hc
    have e1 : Ent.tail e = Ent.be 4 e.order ++ Ent.be 1 e.step.toNat ++ Ent.be 1 (Ent.b2n e.undo) ++ Ent.be 1 e.tri.toNat ++ Ent.be 1 e.code.toNat := by unfold Ent.tail Ent.encO Ent.encT Ent.encS Ent.encC Ent.encM; rw [h]; simp [Ent.hasO, Ent.hasT, Ent.hasS, Ent.codes, Ent.hasM]
    have := write4 p B l e (.slice A1 e.key.length c1) (.slice A2 e.data.length c2) e.step.toNat e.tri.toNat e.code.toNat w hW hl hb.order (by omega) (by omega) (by omega) (by omega) (by omega) (by omega)
    refine (congrArg (fun q => Calls Try.prog 33 #[.agg (pvk e.kind), .pointer (some ⟨p, 0, none⟩), .agg (evs e (.slice A1 e.key.length c1) (.slice A2 e.data.length c2))] w (WritePost w p B q)) (?_ : _ = l ++ Ent.tail e)).mp (by rw [h]; exact this)
    rw [e1]; simp only [List.append_assoc]
  · rw [h, if_neg (by decide)] at hc
    have hc := of_decide_eq_true hc
    have h3 : Ent.codes 5 = 3 := rfl
    rw [h3] at hc
    have e1 : Ent.tail e = Ent.be 4 e.order ++ Ent.be 1 e.code.toNat := by unfold Ent.tail Ent.encO Ent.encT Ent.encS Ent.encC Ent.encM; rw [h]; simp [Ent.hasO, Ent.hasT, Ent.hasS, Ent.codes, Ent.hasM]
    have := write5 p B l e (.slice A1 e.key.length c1) (.slice A2 e.data.length c2) e.code.toNat w hW hl hb.order (by omega) (by omega)
    refine (congrArg (fun q => Calls Try.prog 33 #[.agg (pvk e.kind), .pointer (some ⟨p, 0, none⟩), .agg (evs e (.slice A1 e.key.length c1) (.slice A2 e.data.length c2))] w (WritePost w p B q)) (?_ : _ = l ++ Ent.tail e)).mp (by rw [h]; exact this)
    rw [e1]; simp only [List.append_assoc]
  · rw [h, if_neg (by decide)] at hc
    have hc := of_decide_eq_true hc
    have h3 : Ent.codes 6 = 2 := rfl
    rw [h3] at hc
    have e1 : Ent.tail e = Ent.be 1 e.code.toNat := by unfold Ent.tail Ent.encO Ent.encT Ent.encS Ent.encC Ent.encM; rw [h]; simp [Ent.hasO, Ent.hasT, Ent.hasS, Ent.codes, Ent.hasM]
    have := write6 p B l e (.slice A1 e.key.length c1) (.slice A2 e.data.length c2) e.code.toNat w hW hl (by omega) (by omega)
    rw [e1, h]
    exact this
  · have e1 : Ent.tail e = Ent.be 8 e.mark := by unfold Ent.tail Ent.encO Ent.encT Ent.encS Ent.encC Ent.encM; rw [h]; simp [Ent.hasO, Ent.hasT, Ent.hasS, Ent.codes, Ent.hasM]
    have := write7 p B l e (.slice A1 e.key.length c1) (.slice A2 e.data.length c2) w hW hl
    rw [e1, h]
    exact this

/-- What Put answers. -/
def putB (e : Entry) : List Nat := if Ent.ok e = true then Ent.enc e else []
def PutPost (e : Entry) (w : World) (x : Ending) (w' : World) : Prop :=
  ∃ v, x = .returned (.tuple #[v, .int .i64 (chkN e : Nat)]) ∧ Own w' w.heap.size v (putB e) ∧ Below w.heap.size w w'

set_option maxRecDepth 100000 in
set_option maxHeartbeats 1000000 in
theorem put_bad (e : Entry) (A1 A2 : Option Addr) (c1 c2 : Nat) (w : World) (hok : ¬ Ent.ok e = true) :
    Calls Try.prog 14 #[.agg (evs e (.slice A1 e.key.length c1) (.slice A2 e.data.length c2))] w (PutPost e w) := by
  have C1 := fun W => Lib.hid (check_any e A1 A2 c1 c2 W)
  have hn : chkN e = 40 := by unfold chkN; rw [if_neg hok]
  have hp : putB e = [] := by unfold putB; rw [if_neg hok]
  unfold ChkPost at C1
  rw [hn] at C1
  unfold PutPost
  rw [hn, hp]
  clear hn hp
  generalize Value.slice A1 e.key.length c1 = K at *
  generalize Value.slice A2 e.data.length c2 = D at *
  go_enter Try.func14, Try.ntmps14
  go_wp2_with fail
  with_reducible refine (C1 _).out.mono ?_
  rintro x w1 ⟨rfl, hb1⟩
  go_wp2
  go_ret2
  exact ⟨_, rfl, Own.nil _ _, ((Below.refl _ _).alloc (Nat.le_refl _) _).trans (hb1.mono (by simp))⟩

set_option maxRecDepth 100000 in
set_option maxHeartbeats 1000000 in
theorem put_good (e : Entry) (A1 A2 : Option Addr) (c1 c2 : Nat) (w : World) (hok : Ent.ok e = true) (hb : Ent.Bnd e) (hT : Txt w w.heap.size e A1 A2 c1 c2) :
    Calls Try.prog 14 #[.agg (evs e (.slice A1 e.key.length c1) (.slice A2 e.data.length c2))] w (PutPost e w) := by
  have C1 := fun W => Lib.hid (check_any e A1 A2 c1 c2 W)
  have hn : chkN e = 0 := by unfold chkN; rw [if_pos hok]
  have hp : putB e = Ent.enc e := by unfold putB; rw [if_pos hok]
  have hk := (Ent.ok_iff e).1 hok
  have htl := Ent.tail_len e hk
  unfold ChkPost at C1
  rw [hn] at C1
  unfold PutPost
  rw [hn, hp, Ent.enc_tail]
  have k1 := hk.k1
  have k7 := hk.k7
  obtain ⟨kn, hkn⟩ : ∃ n : Nat, e.kind = n := ⟨e.kind.toNat, by omega⟩
  have hkt : e.kind.toNat = kn := by omega
  rw [hkt]
  have hk8 : kn < 256 := by omega
  have hx := wrap_u8 kn hk8
  have CW := Lib.hid (fun p B l W (h1 : Wr W p B l) h2 h3 => write_any p B l e A1 A2 c1 c2 W h1 h2 hb hk h3)
  have cp : ∀ W, Calls Try.prog 32 #[.int .i64 (kn : Nat)] W (PartsPost e.kind W) := fun W => by rw [← hkn]; exact partsOf_any e.kind W
  have CP := Lib.hid cp
  clear cp
  have HT := Lib.hid hT
  have HKN := Lib.hid hkn
  have hb2 := hb.epoch
  clear hn hp hk hb hT hkn hkt k1 k7 hok
  generalize hK : Value.slice A1 e.key.length c1 = K at *
  generalize hD : Value.slice A2 e.data.length c2 = D at *
  clear hK hD
  go_enter Try.func14, Try.ntmps14
  go_wp2_with fail
  with_reducible refine (C1 _).out.mono ?_
  rintro x w1 ⟨rfl, hb1⟩
  have L1 := Lib.hid ((Lies.made w 26 (evs e K D)).below hb1 (by simp))
  have BB1 := Lib.hid (((Below.refl w.heap.size w).alloc (Nat.le_refl _) (.cells (evs e K D) 26)).trans (hb1.mono (by simp)))
  clear hb1
  obtain ⟨e0, e1, e2, e3, e4, e5, e6, e7, e8, e9, e10⟩ := L1.out.cellsE
  rw [HKN.out] at e0
  clear e3 e4 e5 e6 e7 e8 e9 e10
  obtain ⟨B, hB⟩ : ∃ B, w1.heap.size = B := ⟨_, rfl⟩
  have hwB : w.heap.size ≤ B := by rw [← hB]; exact BB1.out.size
  have cc0 : Calls Try.prog 28 #[] w1.drew (WrPost w1.drew B B []) := by rw [← hB]; exact newWriter_any w1.drew
  have K0 := Lib.hid cc0
  have cc1 := fun W (h : Wr W B B []) => wu8_any B B kn [] W h hk8 (by decide)
  have K1 := Lib.hid cc1
  have cc2 := fun W (h : Wr W B B ([] ++ Ent.be 1 kn)) => wu64_any B B e.lsn ([] ++ Ent.be 1 kn) W h (by simp [Ent.be_len])
  have K2 := Lib.hid cc2
  have cc3 := fun W (h : Wr W B B ([] ++ Ent.be 1 kn ++ Ent.be 8 e.lsn)) => wu32_any B B e.epoch ([] ++ Ent.be 1 kn ++ Ent.be 8 e.lsn) W h hb2 (by simp [Ent.be_len])
  have K3 := Lib.hid cc3
  have HB := Lib.hid hB
  clear cc0 cc1 cc2 cc3 hB
  go_wp2_with fail
  go_region_held3 (fun W => W.cell? ⟨w.heap.size, 0, none⟩ = some (.int .i64 (kn : Nat)) ∧ W.cell? ⟨w.heap.size, 1, none⟩ = some (.int .u64 (e.lsn : Nat)) ∧ W.cell? ⟨w.heap.size, 2, none⟩ = some (.int .u32 (e.epoch : Nat)))
    (first | go_keep | (obtain ⟨f0, f1, f2, _, _, _, _, _, _, _, _⟩ := L5.out.cellsE; rw [HKN.out] at f0; exact ⟨f0, f1, f2⟩) | (obtain ⟨f0, f1, f2, _, _, _, _, _, _, _, _⟩ := L4.out.cellsE; rw [HKN.out] at f0; exact ⟨f0, f1, f2⟩) | (obtain ⟨f0, f1, f2, _, _, _, _, _, _, _, _⟩ := L3.out.cellsE; rw [HKN.out] at f0; exact ⟨f0, f1, f2⟩) | (obtain ⟨f0, f1, f2, _, _, _, _, _, _, _, _⟩ := L2.out.cellsE; rw [HKN.out] at f0; exact ⟨f0, f1, f2⟩))
    (first
    | (go_at_call 28; (with_reducible refine K0.out.mono ?_); rintro x w2 ⟨rfl, hW2, hb2, hk2⟩; have L2 := Lib.hid (hk2 _ _ _ (by decide) (by decide) L1.out); have BB2 := Lib.hid hb2; have HW2 := Lib.hid hW2; clear hW2 hb2 hk2)
    | (go_at_call 29; (with_reducible refine (K1.out _ HW2.out).mono ?_); rintro x w3 ⟨rfl, hW3, hb3, hk3⟩; have L3 := Lib.hid (hk3 _ _ _ (by decide) (by decide) L2.out); have BB3 := Lib.hid (BB2.out.trans hb3); have HW3 := Lib.hid hW3; clear hW3 hb3 hk3)
    | (go_at_call 30; (with_reducible refine (K2.out _ HW3.out).mono ?_); rintro x w4 ⟨rfl, hW4, hb4, hk4⟩; have L4 := Lib.hid (hk4 _ _ _ (by decide) (by decide) L3.out); have BB4 := Lib.hid (BB3.out.trans hb4); have HW4 := Lib.hid hW4; clear hW4 hb4 hk4)
    | (go_at_call 31; (with_reducible refine (K3.out _ HW4.out).mono ?_); rintro x w5 ⟨rfl, hW5, hb5, hk5⟩; have L5 := Lib.hid (hk5 _ _ _ (by decide) (by decide) L4.out); have BB5 := Lib.hid (BB4.out.trans hb5); have HW5 := Lib.hid hW5; clear hW5 hb5 hk5))
  obtain ⟨e0', e1', e2', e3, e4, e5, e6, e7, e8, e9, e10⟩ := L5.out.cellsE
  clear e0 e1 e2
  have BB5' := Lib.hid (BB1.out.drew.trans (BB5.out.mono hwB))
  go_wp2_with fail
  with_reducible refine (CP.out _).mono ?_
  rintro x w6 ⟨rfl, hb6⟩
  have L6 := Lib.hid (L5.out.below hb6 L5.out.lt)
  have HW6 := Lib.hid (HW5.out.below hb6)
  have BB6 := Lib.hid (BB5'.out.trans (hb6.mono BB5'.out.size))
  have hlt := L6.out.lt
  have hne : w.heap.size ≠ w6.heap.size := by omega
  clear hb6 e0' e1' e2' e3 e4 e5 e6 e7 e8 e9 e10
  obtain ⟨e0, e1, e2, e3, e4, e5, e6, e7, e8, e9, e10⟩ := L6.out.cellsE
  have ccw := fun (cs : Array Value) => CW.out B B ([] ++ Ent.be 1 kn ++ Ent.be 8 e.lsn ++ Ent.be 4 e.epoch) (w6.alloc (.cells cs 63)) (HW6.out.below ((Below.refl _ _).alloc (Nat.le_refl _) _)) (by simp [Ent.be_len]) ((HT.out.below (BB6.out.alloc BB6.out.size _)).mono hwB)
  have CCW := Lib.hid ccw
  clear ccw
  go_wp2_with fail
  with_reducible refine (CCW.out _).mono ?_
  rintro x w8 ⟨rfl, hW8, hb8, hk8⟩
  have HW8 := Lib.hid hW8
  have BB8 := Lib.hid ((BB6.out.alloc BB6.out.size (.cells (pvk e.kind) 63)).trans (hb8.mono hwB))
  clear hW8 hb8 hk8
  clear e0 e1 e2 e3 e4 e5 e6 e7 e8 e9 e10
  go_wp2_with fail
  with_reducible refine (wdone_any B B _ _ HW8.out (by simp [Ent.be_len]; omega)).mono ?_
  rintro x w9 ⟨v, rfl, hO9, hb9⟩
  have HO9 := Lib.hid hO9
  clear hO9
  go_wp2
  go_ret2
  exact ⟨v, rfl, HO9.out.mono BB8.out.size, BB8.out.trans (hb9.mono BB8.out.size)⟩

/-- An entry that came in, or was made: its cells. -/
theorem put_any (e : Entry) (A1 A2 : Option Addr) (c1 c2 : Nat) (w : World) (hb : Ent.Bnd e) (hT : Txt w w.heap.size e A1 A2 c1 c2) :
    Calls Try.prog 14 #[.agg (evs e (.slice A1 e.key.length c1) (.slice A2 e.data.length c2))] w (PutPost e w) := by
  by_cases h : Ent.ok e = true
  · exact put_good e A1 A2 c1 c2 w h hb hT
  · exact put_bad e A1 A2 c1 c2 w h

end Go.Proofs.Ytccpmalefdnhdaa
