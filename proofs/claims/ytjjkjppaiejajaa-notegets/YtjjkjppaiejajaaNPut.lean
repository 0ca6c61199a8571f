/-
  The contract of note.Put: for every note.
-/
import Derived.Test.YtjjkjppaiejajaaNWr
namespace Go.Proofs.Ytjjkjppaiejajaa
open Go.RowKit
attribute [local go_sem ↓] Go.wp_at_zero Go.wp_at_succ

/-- What Put answers. -/
def putB (e : Note) : List Nat := if Ent.ok e = true then Ent.enc e else []
def PutPost (e : Note) (w : World) (x : Ending) (w' : World) : Prop :=
  ∃ v, x = .returned (.tuple #[v, .int .i64 (chkN e : Nat)]) ∧ Own w' w.heap.size v (putB e) ∧ Below w.heap.size w w'

set_option maxRecDepth 100000 in
set_option maxHeartbeats 1000000 in
theorem put_bad (e : Note) (A1 A2 : Option Addr) (c1 c2 : Nat) (w : World) (hok : ¬ Ent.ok e = true) :
    Calls Try.prog 13 #[.agg (evs e (.slice A1 e.key.length c1) (.slice A2 e.data.length c2))] w (PutPost e w) := by
  have C1 := fun W => Lib.hid (check_any e A1 A2 c1 c2 W)
  have hn : chkN e = 50 := by unfold chkN; rw [if_neg hok]
  have hp : putB e = [] := by unfold putB; rw [if_neg hok]
  unfold ChkPost at C1
  rw [hn] at C1
  unfold PutPost
  rw [hn, hp]
  clear hn hp
  generalize Value.slice A1 e.key.length c1 = K at *
  generalize Value.slice A2 e.data.length c2 = D at *
  go_enter Try.func13, Try.ntmps13
  go_wp2_with fail
  with_reducible refine (C1 _).out.mono ?_
  rintro x w1 ⟨rfl, hb1⟩
  go_wp2
  go_ret2
  exact ⟨_, rfl, Own.nil _ _, ((Below.refl _ _).alloc (Nat.le_refl _) _).trans (hb1.mono (by simp))⟩

/-- The writer behind the first j letters. -/
def PuR (w : World) (B k : Nat) (s : List Nat) (h : List Nat) (e : Note) (K D : Value) (_ : Value) (wr : World) : Prop :=
  ∃ j : Nat, j ≤ s.length ∧ It wr k s j ∧ Lies wr w.heap.size 26 (evs e K D) ∧ Wr wr B B (h ++ (s.take j).flatMap (Ent.encL e)) ∧ Below w.heap.size w wr
theorem take_flat (f : Nat → List Nat) (s : List Nat) (j : Nat) (hj : j < s.length) : (s.take (j + 1)).flatMap f = (s.take j).flatMap f ++ f (s.getD j 0) := by
  rw [take_one s j hj, List.flatMap_append]
  simp
theorem getD_mem (s : List Nat) (j : Nat) (hj : j < s.length) : s.getD j 0 ∈ s := by
  rw [show s.getD j 0 = s[j] from by simp [List.getD, hj]]
  exact List.getElem_mem hj

set_option maxRecDepth 100000 in
set_option maxHeartbeats 1000000 in
theorem put_good (e : Note) (A1 A2 : Option Addr) (c1 c2 : Nat) (w : World) (hok : Ent.ok e = true) (hb : Ent.Bnd e) (hT : Txt w w.heap.size e A1 A2 c1 c2) :
    Calls Try.prog 13 #[.agg (evs e (.slice A1 e.key.length c1) (.slice A2 e.data.length c2))] w (PutPost e w) := by
  have C1 := fun W => Lib.hid (check_any e A1 A2 c1 c2 W)
  have hn : chkN e = 0 := by unfold chkN; rw [if_pos hok]
  have hp : putB e = Ent.enc e := by unfold putB; rw [if_pos hok]
  have hk := (Ent.ok_iff e).1 hok
  unfold ChkPost at C1
  rw [hn] at C1
  unfold PutPost
  rw [hn, hp]
  have k1 := hk.k1
  have k13 := hk.k13
  obtain ⟨kn, hkn⟩ : ∃ n : Nat, e.kind = n := ⟨e.kind.toNat, by omega⟩
  have hkt : e.kind.toNat = kn := by omega
  have henc : Ent.enc e = Ent.be 1 kn ++ (Ent.lets e.kind).flatMap (Ent.encL e) := by unfold Ent.enc; rw [hkt]
  have hk8 : kn < 256 := by omega
  have hx := wrap_u8 kn hk8
  have CW := Lib.hid (fun B l c hc W (h1 : Wr W B B l) h2 h3 => write_any B B l e A1 A2 c1 c2 c hc W h1 h2 hb hk.i h3)
  have cp : ∀ W, Calls Try.prog 18 #[.int .i64 (kn : Nat)] W (NamesPost e.kind W) := fun W => by rw [← hkn]; exact names_any e.kind W
  have CP := Lib.hid cp
  have hfl : ∀ j, j ≤ (Ent.lets e.kind).length → (Ent.be 1 kn ++ ((Ent.lets e.kind).take j).flatMap (Ent.encL e)).length ≤ 2000 := fun j hj => by
    have h1 := Ent.flat_len e hk.i ((Ent.lets e.kind).take j)
    have h2 := Ent.lets_len e.kind
    rw [List.length_take] at h1
    rw [List.length_append, Ent.be_len]
    omega
  have HFL := Lib.hid hfl
  have HENC := Lib.hid henc
  have HSUB := Lib.hid (Ent.lets_sub e.kind)
  clear cp hfl henc
  have HT := Lib.hid hT
  have HKN := Lib.hid hkn
  clear hn hp hk hb hT hkn hkt k1 k13 hok
  unfold NamesPost at CP
  unfold WritePost at CW
  generalize hK : Value.slice A1 e.key.length c1 = K at *
  generalize hD : Value.slice A2 e.data.length c2 = D at *
  generalize hS : Ent.lets e.kind = s at *
  have HS := Lib.hid hS
  clear hK hD hS
  have h128 : ∀ c ∈ s, c < 128 := fun c hc => Ent.alpha_small c (HSUB.out c hc)
  have H128 := Lib.hid h128
  clear h128
  go_enter Try.func13, Try.ntmps13
  go_wp2_with fail
  with_reducible refine (C1 _).out.mono ?_
  rintro x w1 ⟨rfl, hb1⟩
  have L1 := Lib.hid ((Lies.made w 26 (evs e K D)).below hb1 (by simp))
  have BB1 := Lib.hid ((below1 w (.cells (evs e K D) 26)).trans (hb1.mono (by simp)))
  clear hb1
  obtain ⟨e0, e1, e2, e3, e4, e5, e6, e7, e8, e9, e10⟩ := L1.out.cellsE
  rw [HKN.out] at e0
  clear e1 e2 e3 e4 e5 e6 e7 e8 e9 e10
  obtain ⟨B, hB⟩ : ∃ B, w1.heap.size = B := ⟨_, rfl⟩
  have hwB : w.heap.size ≤ B := by rw [← hB]; exact BB1.out.size
  have cc0 : Calls Try.prog 27 #[] w1.drew (WrPost w1.drew B B []) := by rw [← hB]; exact newWriter_any w1.drew
  have K0 := Lib.hid cc0
  have cc1 := fun W (h : Wr W B B []) => wu8_any B B kn [] W h hk8 (by decide)
  have K1 := Lib.hid cc1
  have HB := Lib.hid hB
  clear cc0 cc1 hB
  go_wp2_with fail
  go_region_held3 (fun W => W.cell? ⟨w.heap.size, 0, none⟩ = some (.int .i64 (kn : Nat)))
    (first | go_keep | (obtain ⟨f0, _⟩ := L3.out.cellsE; rw [HKN.out] at f0; exact f0) | (obtain ⟨f0, _⟩ := L2.out.cellsE; rw [HKN.out] at f0; exact f0))
    (first
    | (go_at_call 27; (with_reducible refine K0.out.mono ?_); rintro x w2 ⟨rfl, hW2, hb2, hk2⟩; have L2 := Lib.hid (hk2.lies (by decide) (by decide) L1.out); have BB2 := Lib.hid hb2; have HW2 := Lib.hid hW2; clear hW2 hb2 hk2)
    | (go_at_call 28; (with_reducible refine (K1.out _ HW2.out).mono ?_); rintro x w3 ⟨rfl, hW3, hb3, hk3⟩; have L3 := Lib.hid (hk3.lies (by decide) (by decide) L2.out); have BB3 := Lib.hid (BB2.out.trans hb3); have HW3 := Lib.hid hW3; clear hW3 hb3 hk3))
  obtain ⟨e0', _⟩ := L3.out.cellsE
  rw [HKN.out] at e0'
  clear e0
  have BB3' := Lib.hid (BB1.out.drew.trans (BB3.out.mono hwB))
  go_wp2_with fail
  with_reducible refine (CP.out _).mono ?_
  rintro x w4 ⟨rfl, rfl⟩
  clear e0'
  obtain ⟨k, hk⟩ : ∃ k, w4.heap.size = k := ⟨_, rfl⟩
  have hBk : B ≤ k := by rw [← hk]; exact HW3.out.size
  have it0 : It (w4.iter (str s) 0) k s 0 := by rw [← hk]; exact It.made w4 s
  have wr0 : Wr (w4.iter (str s) 0) B B (Ent.be 1 kn) := HW3.out.below (below1 w4 _)
  have IT0 := Lib.hid it0
  have WR0 := Lib.hid wr0
  have LL0 := Lib.hid (show Lies (w4.iter (str s) 0) w.heap.size 26 (evs e K D) from L3.out.alloc _)
  have BL0 := Lib.hid (show Below w.heap.size w (w4.iter (str s) 0) from BB3'.out.alloc BB3'.out.size _)
  clear it0 wr0
  go_wp2_with fail
  clear hk
  go_loopw [7] (PuR w B k s (Ent.be 1 kn) e K D) (fun _ wr => s.length - wr.iterPos k)
  case atStart => exact ⟨0, by omega, IT0.out, LL0.out, by simpa using WR0.out, BL0.out⟩
  case round =>
    obtain ⟨j, hj, hit, hL, hW, hbel⟩ := hrel
    have hpos := hit.pos
    have HIT := Lib.hid hit
    have HL := Lib.hid hL
    have HW := Lib.hid hW
    have HBE := Lib.hid hbel
    clear hit hL hW hbel IT0 WR0 LL0 BL0
    by_cases hp : j < s.length
    · have hnx := next_str HIT.out hp H128.out
      have hca := HSUB.out _ (getD_mem s j hp)
      have hL2 := HL.out.mv HIT.out (j + 1)
      have HL2 := Lib.hid hL2
      have HIT2 := Lib.hid (HIT.out.mv (j + 1))
      have HW2 := Lib.hid (HW.out.mv HIT.out (j + 1))
      have HBE2 := Lib.hid (below_mv HBE.out (k := k) (by omega) s (j + 1))
      have htf := take_flat (Ent.encL e) s j hp
      obtain ⟨W, hW⟩ : ∃ W, mv wr k s (j + 1) = W := ⟨_, rfl⟩
      rw [hW] at hL2 HL2 HIT2 HBE2 HW2
      simp only [hW] at hnx
      obtain ⟨e0, e1, e2, e3, e4, e5, e6, e7, e8, e9, e10⟩ := hL2.cellsE
      obtain ⟨c, hcc⟩ : ∃ c, s.getD j 0 = c := ⟨_, rfl⟩
      rw [hcc] at hca htf
      simp only [hcc] at hnx
      have cw := CW.out B _ c hca W HW2.out (HFL.out j (by omega)) ((HT.out.below HBE2.out).mono hwB)
      have CWW := Lib.hid cw
      have HTF := Lib.hid htf
      clear hcc hL2 hW HL HIT HBE HW cw htf
      go_wp2_with fail
      with_reducible refine CWW.out.mono ?_
      rintro x w5 ⟨rfl, hW5, hb5, hk5⟩
      have HW5 := Lib.hid hW5
      clear hW5 e0 e1 e2 e3 e4 e5 e6 e7 e8 e9 e10
      go_wp2
      go_roundw
      case rel => exact ⟨j + 1, by omega, HIT2.out.keep hk5, hk5.lies (by decide) (by decide) HL2.out, by rw [HTF.out, ← List.append_assoc]; exact HW5.out, HBE2.out.trans (hb5.mono hwB)⟩
      case measure => rw [(HIT2.out.keep hk5).pos, hpos]; omega
    · have hnx := next_fin HIT.out hp
      have hjl : s.take j = s := List.take_of_length_le (by omega)
      have hW2 := HW.out
      rw [hjl] at hW2
      have cd := wdone_any B B _ _ hW2 (by have := HFL.out s.length (Nat.le_refl _); rw [List.take_of_length_le (Nat.le_refl _)] at this; exact this)
      have CD := Lib.hid cd
      clear cd hW2 hjl
      go_wp2_with fail
      with_reducible refine CD.out.mono ?_
      rintro x w9 ⟨v, rfl, hO9, hb9⟩
      have HO9 := Lib.hid hO9
      clear hO9
      go_wp2
      go_ret2
      exact ⟨v, rfl, by rw [HENC.out]; exact HO9.out.mono HBE.out.size, HBE.out.trans (hb9.mono HBE.out.size)⟩

theorem put_any (e : Note) (A1 A2 : Option Addr) (c1 c2 : Nat) (w : World) (hb : Ent.Bnd e) (hT : Txt w w.heap.size e A1 A2 c1 c2) :
    Calls Try.prog 13 #[.agg (evs e (.slice A1 e.key.length c1) (.slice A2 e.data.length c2))] w (PutPost e w) := by
  by_cases h : Ent.ok e = true
  · exact put_good e A1 A2 c1 c2 w h hb hT
  · exact put_bad e A1 A2 c1 c2 w h

end Go.Proofs.Ytjjkjppaiejajaa
