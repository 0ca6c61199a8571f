/-
  The walk of NoteSizes, out of the contracts.
-/
import Derived.Test.YtjjkjppaiejajaaInFn
import Derived.Deep.RegionHeld3
namespace Go.Proofs.Ytjjkjppaiejajaa
open Go.RowKit

/-- How many bytes a letter's part has. -/
theorem encL_lens (e : Note) : (Ent.encL e 69).length = 4 ∧ (Ent.encL e 80).length = 4 ∧ (Ent.encL e 76).length = 8 ∧ (Ent.encL e 84).length = 8 ∧ (Ent.encL e 79).length = 4 ∧ (Ent.encL e 83).length = 1 ∧ (Ent.encL e 85).length = 1 ∧ (Ent.encL e 67).length = 1 ∧ (Ent.encL e 75).length = 1 + e.key.length ∧ (Ent.encL e 68).length = 1 + e.data.length := by
  refine ⟨?_, ?_, ?_, ?_, ?_, ?_, ?_, ?_, ?_, ?_⟩
  all_goals simp [Ent.encL, Ent.be_len, Ent.txt_len]

def SzR (w0 : World) (e : Note) (s : List Nat) (n : Nat) (z i : Value) (wr : World) : Prop :=
  wr = w0 ∧ ∃ j L : Nat, j ≤ n ∧ i = .int .i64 (j : Nat) ∧ z = .int .i64 (L : Nat) ∧ L = 1 + ((s.take j).flatMap (Ent.encL e)).length

set_option maxRecDepth 100000 in
set_option maxHeartbeats 4000000 in
theorem sizes_good (e : Note) (A1 A2 : Option Addr) (c1 c2 : Nat) (w : World) (hV : EntV w e A1 A2 c1 c2) (hlong : longE e = false) (hok : Ent.ok e = true) :
    Calls Try.prog 6 #[.agg (evs e (.slice A1 e.key.length c1) (.slice A2 e.data.length c2))] w fun x w' => x = .returned (.bool true) ∧ Below w.heap.size w w' := by
  have hk := (Ent.ok_iff e).1 hok
  have C0 := fun W => Lib.hid (long_any e A1 A2 c1 c2 W)
  rw [hlong] at C0
  have CP := Lib.hid (fun W (h : EntV W e A1 A2 c1 c2) => put_any e A1 A2 c1 c2 W h.b h.txt)
  unfold PutPost at CP
  rw [show chkN e = 0 from by unfold chkN; rw [if_pos hok], show putB e = Ent.enc e from by unfold putB; rw [if_pos hok]] at CP
  have CN := Lib.hid (fun W => names_any e.kind W)
  unfold NamesPost at CN
  obtain ⟨g69, g80, g76, g84, g79, g83, g85, g67, g75, g68⟩ := encL_lens e
  have hk1 := hk.k1
  have hk13 := hk.k13
  obtain ⟨kn, hkn⟩ : ∃ n : Nat, e.kind = n := ⟨e.kind.toNat, by omega⟩
  have hkt : e.kind.toNat = kn := by omega
  have hkb : kn ≤ 13 := by omega
  have hkw : IntKind.i64.wrap ((kn : Nat) : Int) = ((kn : Nat) : Int) := IntWalk.i64_in _ (by omega)
  have hal : ∀ j, j ≤ (Ent.lets e.kind).length → ((Ent.lets e.kind).take j |>.flatMap (Ent.encL e)).length ≤ 1600 := fun j hj => by
    have h1 := Ent.flat_len e hk.i ((Ent.lets e.kind).take j)
    have h2 := Ent.lets_len e.kind
    rw [List.length_take] at h1
    omega
  have HAL := Lib.hid hal
  have hel : (Ent.enc e).length = 1 + ((Ent.lets e.kind).flatMap (Ent.encL e)).length := by unfold Ent.enc; rw [List.length_append, Ent.be_len]
  have HEL := Lib.hid hel
  have he0 : (Ent.enc e).getD 0 0 = kn := by
    unfold Ent.enc
    rw [hkt, Ent.be_one kn (by omega)]
    rfl
  have HE0 := Lib.hid he0
  have HSUB := Lib.hid (Ent.lets_sub e.kind)
  have hsz := str_size (Ent.lets e.kind)
  have HGET := Lib.hid (str_get (Ent.lets e.kind) (fun c hc => Ent.alpha_small c (Ent.lets_sub e.kind c hc)))
  have hn6 := Ent.lets_len e.kind
  have hT := Lib.hid (fun j hj => take_flat (Ent.encL e) (Ent.lets e.kind) j hj)
  generalize str (Ent.lets e.kind) = S at *
  generalize hss : Ent.lets e.kind = s at *
  generalize hn : s.length = n at *
  obtain ⟨n1, hn1⟩ : ∃ n, e.key.length = n := ⟨_, rfl⟩
  obtain ⟨n2, hn2⟩ : ∃ n, e.data.length = n := ⟨_, rfl⟩
  have hi := (Ent.inB_iff e).1 hk.i
  rw [hn1, hn2] at hi
  have hb1 : n1 ≤ 32 := hi.2.2.2.2.1
  have hb2 : n2 ≤ 255 := hi.2.2.2.2.2
  simp only [hn1, hn2] at C0 CP
  rw [hn1] at g75
  rw [hn2] at g68
  rw [hn1, hn2]
  have HV := Lib.hid hV
  have HKN := Lib.hid hkn
  have HNN := Lib.hid hn
  have b0 := below1 w (.cells (evs e (.slice A1 n1 c1) (.slice A2 n2 c2)) 26)
  have HG := Lib.hid (show _ ∧ _ ∧ _ ∧ _ ∧ _ ∧ _ ∧ _ ∧ _ ∧ _ ∧ _ from ⟨g69, g80, g76, g84, g79, g83, g85, g67, g75, g68⟩)
  clear g69 g80 g76 g84 g79 g83 g85 g67 g75 g68 hV hok hk hi hal hel he0 hn1 hn2 hkn hkt hss hn hk1 hk13 hlong
  go_enter Try.func6, Try.ntmps6
  go_wp2_with fail
  with_reducible refine (C0 _).out.mono ?_
  rintro x w1 ⟨rfl, hb1'⟩
  have L1 := (Lies.made w 26 (evs e (.slice A1 n1 c1) (.slice A2 n2 c2))).below hb1' (by simp)
  have b1 := b0.trans (hb1'.mono b0.size)
  have cp := CP.out w1 (HV.out.below b1)
  obtain ⟨e0, e1, e2, e3, e4, e5, e6, e7, e8, e9, e10⟩ := L1.cellsE
  have HL1 := Lib.hid L1
  have BB1 := Lib.hid b1
  have CPP := Lib.hid cp
  clear L1 b1 b0 hb1' cp CP C0
  go_wp2_with fail
  with_reducible refine CPP.out.mono ?_
  rintro x w2 ⟨v2, rfl, hO2, hb2'⟩
  obtain ⟨A7, c7, rfl, hB7, hc7l, hc7m, hA7⟩ := hO2.slice
  obtain ⟨q, hq⟩ : ∃ q, (Ent.enc e).length = q := ⟨_, rfl⟩
  have hqp : 0 < q := by rw [← hq]; exact Ent.enc_len_pos e
  obtain ⟨bb, off, rfl, hcell⟩ := hB7.2.2 (by rw [hq]; exact hqp)
  have f0 := hcell 0 (by rw [hq]; exact hqp)
  rw [HE0.out, Nat.add_zero] at f0
  rw [hq] at hc7l ⊢
  have HQ := Lib.hid hq
  have L2 := HL1.out.below hb2' HL1.out.lt
  clear e0 e1 e2 e3 e4 e5 e6 e7 e8 e9 e10
  obtain ⟨e0, e1, e2, e3, e4, e5, e6, e7, e8, e9, e10⟩ := L2.cellsE
  have BB2 := Lib.hid (BB1.out.trans (hb2'.mono BB1.out.size))
  have HL2 := Lib.hid L2
  clear hO2 hB7 hcell hq hb2' L2 HL1 BB1 CPP e1 e2 e3 e4 e5 e6 e7 e8
  go_wp2_with fail
  with_reducible refine (CN.out _).mono ?_
  rintro x w3 ⟨rfl, rfl⟩
  rw [HKN.out] at e0
  go_wp2_with fail
  go_loopw [6, 7] (SzR w3 e s n) (fun _ i _ => n - (intOf i).toNat)
  case atStart => exact ⟨rfl, 0, 1, by omega, rfl, rfl, by simp⟩
  case round =>
    obtain ⟨rfl, j, L, hj, rfl, rfl, hL⟩ := hrel
    by_cases hp : j < n
    · have hv := HGET.out j
      have hj2 : (j : Int) < (n : Int) := by omega
      have htf := hT.out j hp
      have hdm := HSUB.out _ (getD_mem s j (by rw [HNN.out]; exact hp))
      have hll := HAL.out j (by omega)
      have hLb : L ≤ 1700 := by omega
      obtain ⟨d, hd⟩ : ∃ d, s.getD j 0 = d := ⟨_, rfl⟩
      rw [hd] at hv htf hdm
      have HTF := Lib.hid htf
      have HLL := Lib.hid hL
      clear htf hd hL hll
      rcases Ent.alpha_cases hdm with h | h | h | h | h | h | h | h | h | h
      all_goals
        subst h
        go_wp2
        go_roundw
        case rel =>
          refine ⟨rfl, j + 1, ((s.take (j + 1)).flatMap (Ent.encL e)).length + 1, by omega, by go_num, val_int ?_, by omega⟩
          rw [HTF.out, List.length_append]
          have h1 := HLL.out
          have h2 := HG.out
          omega
        case measure => simp [intOf]; omega
    · have hjn : s.take j = s := List.take_of_length_le (by rw [HNN.out]; omega)
      rw [hjn] at hL
      have hLq : L = q := by rw [hL, ← HQ.out, HEL.out]
      subst hLq
      have CK := Lib.hid (fun W => known_any W)
      have HKEEP := Lib.hid (fun W (hb : Below wr.drew.heap.size wr.drew W) => (⟨(hb.cell (block_lt_of_cell (w := wr.drew) f0)).trans f0, (hb.cell (block_lt_of_cell (w := wr.drew) e0)).trans e0⟩ : W.cell? ⟨bb, off, none⟩ = some (.int .u8 (kn : Nat)) ∧ W.cell? ⟨w.heap.size, 0, none⟩ = some (.int .i64 (kn : Nat))))
      clear hL hjn
      go_wp2_with fail
      go_region_held3 (fun W => W.cell? ⟨bb, off, none⟩ = some (.int .u8 (kn : Nat)) ∧ W.cell? ⟨w.heap.size, 0, none⟩ = some (.int .i64 (kn : Nat))) (first | go_keep | exact HKEEP.out _ HBK.out)
        ((go_at_call 11; (with_reducible refine (CK.out _).mono ?_); rintro x wk ⟨rfl, hbk⟩; have HBK := Lib.hid hbk; clear hbk))
      go_wp2
      go_ret
      exact ⟨rfl, BB2.out.drew.trans (HBK.out.mono BB2.out.size)⟩

set_option maxRecDepth 100000 in
set_option maxHeartbeats 1000000 in
theorem sizes_bad (e : Note) (A1 A2 : Option Addr) (c1 c2 : Nat) (w : World) (hV : EntV w e A1 A2 c1 c2) (hlong : longE e = false) (hok : ¬ Ent.ok e = true) :
    Calls Try.prog 6 #[.agg (evs e (.slice A1 e.key.length c1) (.slice A2 e.data.length c2))] w fun x w' => x = .returned (.bool true) ∧ Below w.heap.size w w' := by
  have C0 := fun W => Lib.hid (long_any e A1 A2 c1 c2 W)
  rw [hlong] at C0
  have CP := Lib.hid (fun W (h : EntV W e A1 A2 c1 c2) => put_any e A1 A2 c1 c2 W h.b h.txt)
  unfold PutPost at CP
  rw [show chkN e = 50 from by unfold chkN; rw [if_neg hok], show putB e = [] from by unfold putB; rw [if_neg hok]] at CP
  have HV := Lib.hid hV
  generalize Value.slice A1 e.key.length c1 = K at *
  generalize Value.slice A2 e.data.length c2 = D at *
  have b0 := below1 w (.cells (evs e K D) 26)
  clear hV hok hlong
  go_enter Try.func6, Try.ntmps6
  go_wp2_with fail
  with_reducible refine (C0 _).out.mono ?_
  rintro x w1 ⟨rfl, hb1'⟩
  have L1 := (Lies.made w 26 (evs e K D)).below hb1' (by simp)
  have b1 := b0.trans (hb1'.mono b0.size)
  have cp := CP.out w1 (HV.out.below b1)
  obtain ⟨e0, e1, e2, e3, e4, e5, e6, e7, e8, e9, e10⟩ := L1.cellsE
  have BB1 := Lib.hid b1
  have CPP := Lib.hid cp
  clear L1 b1 b0 hb1' cp CP C0
  go_wp2_with fail
  with_reducible refine CPP.out.mono ?_
  rintro x w2 ⟨v2, rfl, hO2, hb2'⟩
  obtain ⟨A7, c7, rfl, hB7, hc7l, hc7m, hA7⟩ := hO2.slice
  rw [show ([] : List Nat).length = 0 from rfl]
  have BB2 := Lib.hid (BB1.out.trans (hb2'.mono BB1.out.size))
  clear e0 e1 e2 e3 e4 e5 e6 e7 e8 e9 e10 hO2 hB7 hA7 hb2' CPP
  go_wp2_with fail
  with_reducible refine (known_any _).mono ?_
  rintro x w3 ⟨rfl, hb3⟩
  go_wp2
  go_ret
  exact ⟨rfl, BB2.out.trans (hb3.mono BB2.out.size)⟩

set_option maxRecDepth 100000 in
set_option maxHeartbeats 400000 in
theorem sizes_long (e : Note) (A1 A2 : Option Addr) (c1 c2 : Nat) (w : World) (h : longE e = true) :
    Calls Try.prog 6 #[.agg (evs e (.slice A1 e.key.length c1) (.slice A2 e.data.length c2))] w fun x w' => x = .returned (.bool true) ∧ Below w.heap.size w w' := by
  have C1 := fun W => Lib.hid (long_any e A1 A2 c1 c2 W)
  rw [h] at C1
  generalize Value.slice A1 e.key.length c1 = K at *
  generalize Value.slice A2 e.data.length c2 = D at *
  go_enter Try.func6, Try.ntmps6
  go_wp2_with fail
  with_reducible refine (C1 _).out.mono ?_
  rintro x w1 ⟨rfl, hb1⟩
  go_wp2_with fail
  with_reducible refine (known_any _).mono ?_
  rintro x w2 ⟨rfl, hb2⟩
  go_wp2
  go_ret
  have b1 : Below w.heap.size w w1 := (below1 w _).trans (hb1.mono (by simp))
  exact ⟨rfl, b1.trans (hb2.mono b1.size)⟩

theorem noteSizes_walk (e : Note) (A1 A2 : Option Addr) (c1 c2 : Nat) (w : World) (hV : EntV w e A1 A2 c1 c2) :
    Calls Try.prog 6 #[.agg (evs e (.slice A1 e.key.length c1) (.slice A2 e.data.length c2))] w fun x w' => x = .returned (.bool true) ∧ Below w.heap.size w w' := by
  cases hl : longE e
  · by_cases hok : Ent.ok e = true
    · exact sizes_good e A1 A2 c1 c2 w hV hl hok
    · exact sizes_bad e A1 A2 c1 c2 w hV hl hok
  · exact sizes_long e A1 A2 c1 c2 w hl

end Go.Proofs.Ytjjkjppaiejajaa
