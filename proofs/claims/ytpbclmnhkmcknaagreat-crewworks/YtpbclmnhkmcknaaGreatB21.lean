/-
  Texts of one proof, in their order: CSame, CKnown, CLong.
-/
import Derived.Test.YtpbclmnhkmcknaaGreatB20
namespace Go.Proofs.YtpbclmnhkmcknaaGreat
open Go.RowKit
open Fe (Lies Own Bys Reads NF Kx Kp Note)
set_option maxRecDepth 100000
set_option linter.unusedVariables false
set_option linter.unusedSimpArgs false

set_option maxHeartbeats 4000000 in
/-- The same note, twice. -/
theorem same25_eq (N : Note) (A B : Option Addr) (n m c d : Nat) (w : World) (hA : Bys w A n N.data) (hB : Bys w B m N.data) :
    Calls Tryz.prog 25 #[.agg (Fe.evs N (.slice none 0 0) (.slice A n c)), .agg (Fe.evs N (.slice none 0 0) (.slice B m d))] w fun e w' => e = .returned (.bool true) ∧ Below w.heap.size w w' := by
  obtain ⟨k, ep, x3, x4, x5, od, st, un, cd, ky, dt⟩ := N
  dsimp only at hA hB
  have L1 := Lib.hid ((Lies.made w 55 (Fe.evs ⟨k, ep, x3, x4, x5, od, st, un, cd, ky, dt⟩ (.slice none 0 0) (.slice A n c))).alloc (.cells (Fe.evs ⟨k, ep, x3, x4, x5, od, st, un, cd, ky, dt⟩ (.slice none 0 0) (.slice B m d)) 55))
  have L2 := Lib.hid (Lies.made2 w (.cells (Fe.evs ⟨k, ep, x3, x4, x5, od, st, un, cd, ky, dt⟩ (.slice none 0 0) (.slice A n c)) 55) 55 (Fe.evs ⟨k, ep, x3, x4, x5, od, st, un, cd, ky, dt⟩ (.slice none 0 0) (.slice B m d)))
  have BB := Lib.hid (Fe.below2 w (.cells (Fe.evs ⟨k, ep, x3, x4, x5, od, st, un, cd, ky, dt⟩ (.slice none 0 0) (.slice A n c)) 55) (.cells (Fe.evs ⟨k, ep, x3, x4, x5, od, st, un, cd, ky, dt⟩ (.slice none 0 0) (.slice B m d)) 55))
  have r1 := Fe.run_str (hA.below BB.out) c
  have r2 := Fe.run_str (hB.below BB.out) d
  have r0 := Fe.run_str (show Bys ((w.alloc (.cells (Fe.evs ⟨k, ep, x3, x4, x5, od, st, un, cd, ky, dt⟩ (.slice none 0 0) (.slice A n c)) 55)).alloc (.cells (Fe.evs ⟨k, ep, x3, x4, x5, od, st, un, cd, ky, dt⟩ (.slice none 0 0) (.slice B m d)) 55)) none 0 [] from ⟨rfl, (fun c hc => by cases hc), fun h => absurd h (Nat.lt_irrefl 0)⟩) 0
  obtain ⟨c0, c1, c2, c3, c4, c5, c6, c7, c8, c9, c10⟩ := L1.out.cells11
  obtain ⟨d0, d1, d2, d3, d4, d5, d6, d7, d8, d9, d10⟩ := L2.out.cells11
  have f1 : (k == k) = true := by simp
  have f2 : ((ep : Int) == (ep : Int)) = true := by simp
  have f3 : ((x3 : Int) == (x3 : Int)) = true := by simp
  have f4 : ((x4 : Int) == (x4 : Int)) = true := by simp
  have f5 : ((x5 : Int) == (x5 : Int)) = true := by simp
  have f6 : ((od : Int) == (od : Int)) = true := by simp
  have f7 : (st == st) = true := by simp
  have f8 : (un == un) = true := by simp
  have f9 : (cd == cd) = true := by simp
  have g1 : ((Fe.str dt).toList == (Fe.str dt).toList) = true := by simp
  have g0 : ((Fe.str []).toList == (Fe.str []).toList) = true := by simp
  clear hA hB
  go_enter Tryz.func25, Tryz.ntmps25
  go_wp2
  go_ret
  exact ⟨rfl, BB.out⟩
/-- A block that is no crew's. -/
def Kpt (w : World) (b : CB) (g : Nat) (o : Obj) : Prop := w.heap[g]? = some o ∧ ¬ b.foot g
theorem Kpt.lt {w : World} {b : CB} {g : Nat} {o : Obj} (h : Kpt w b g o) : g < w.heap.size := by
  refine Classical.byContradiction fun hn => ?_
  have := h.1
  rw [Array.getElem?_eq_none (by omega)] at this
  cases this
theorem Kpt.below {w w' : World} {b : CB} {g : Nat} {o : Obj} (h : Kpt w b g o) (hb : Below w.heap.size w w') : Kpt w' b g o := ⟨(hb.block g h.lt).trans h.1, h.2⟩
theorem Kpt.serve {w w' : World} {b b' : CB} {g : Nat} {o : Obj} (h : Kpt w b g o) (hg : Chg b.foot w w') (hf : ∀ i, b'.foot i → b.foot i ∨ w.heap.size ≤ i) : Kpt w' b' g o :=
  ⟨(hg.block g h.lt h.2).trans h.1, fun hi => by
    rcases hf g hi with h1 | h1
    · exact h.2 h1
    · have := h.lt; omega⟩
theorem Kpt.new {w : World} {b : CB} {q : Cq} (h : CAt w b q) (o : Obj) : Kpt (w.alloc o) b w.heap.size o := ⟨heap_alloc_new w o, fun hi => absurd (h.foot_lt hi) (Nat.lt_irrefl _)⟩
theorem G_serve {w w' : World} {b : CB} {q : Cq} {B : Nat} {v : Value} {l : List St.Gd} (h : St.OwnG w B v l) (hA : CAt w b q) (hg : Chg b.foot w w') : St.OwnG w' B v l :=
  h.same fun i hi => hg.block i (St.OwnE.block h i hi).2 (hA.far (Kb.row h hi) (by decide))
theorem A_serve {w w' : World} {b : CB} {q : Cq} {B : Nat} {v : Value} {l : List Pu.Kd} (h : Pu.OwnG w B v l) (hA : CAt w b q) (hg : Chg b.foot w w') : Pu.OwnG w' B v l :=
  h.same fun i hi => hg.block i (Pu.OwnE.block h i hi).2 (hA.far (Kb.row h hi) (by decide))
theorem F_serve {w w' : World} {b : CB} {q : Cq} {B : Nat} {v : Value} {l : List Ef} (h : OwnF w B v l) (hn : ∀ i, v.ownBlock = some i → ¬ b.foot i) (hg : Chg b.foot w w') : OwnF w' B v l :=
  h.same fun i hi => hg.block i (St.OwnE.block h i hi).2 (hn i hi)
theorem bys0 (w : World) (A : Option Addr) : Bys w A 0 [] := ⟨rfl, (fun c hc => by cases hc), fun h => absurd h (Nat.lt_irrefl 0)⟩
theorem G_row {w : World} {B : Nat} {v : Value} {l : List St.Gd} (h : St.OwnG w B v l) : ∃ A c, v = .slice A l.length c ∧ (l.length : Int) ≤ 9223372036854775807 ∧ ∀ (i : Nat) (hi : i < l.length), ∃ g, A = some ⟨g, 0, none⟩ ∧ w.cell? ⟨g, i * 2, none⟩ = some (encStr l[i].n) ∧ w.cell? ⟨g, i * 2 + 1, none⟩ = some (.int .i64 l[i].f) := by
  have hm : ∀ n c : Nat, n ≤ c → c ≤ maxLen → (n : Int) ≤ 9223372036854775807 := fun n c h1 h2 => by unfold maxLen at h2; omega
  rcases h.form with ⟨rfl, rfl⟩ | ⟨g, cap, cur, rfl, -⟩
  · exact ⟨none, 0, rfl, by simp, fun i hi => absurd hi (Nat.not_lt_zero i)⟩
  · obtain ⟨-, h1, h2, -, hc⟩ := St.OwnE.cell h (fun _ => rfl)
    refine ⟨_, _, rfl, hm _ _ h1 h2, fun i hi => ?_⟩
    obtain ⟨g', e, -, -, hj⟩ := hc i hi
    exact ⟨g', e, (hj 0 (by omega)).1, (hj 1 (by omega)).1⟩
theorem A_row {w : World} {B : Nat} {v : Value} {l : List Pu.Kd} (h : Pu.OwnG w B v l) : ∃ A c, v = .slice A l.length c ∧ (l.length : Int) ≤ 9223372036854775807 ∧ ∀ (i : Nat) (hi : i < l.length), ∃ g, A = some ⟨g, 0, none⟩ ∧ w.cell? ⟨g, i * 3, none⟩ = some (encStr l[i].n) ∧ w.cell? ⟨g, i * 3 + 1, none⟩ = some (.int .i64 l[i].m) ∧ w.cell? ⟨g, i * 3 + 2, none⟩ = some (.int .i64 l[i].h) := by
  have hm : ∀ n c : Nat, n ≤ c → c ≤ maxLen → (n : Int) ≤ 9223372036854775807 := fun n c h1 h2 => by unfold maxLen at h2; omega
  rcases h.form with ⟨rfl, rfl⟩ | ⟨g, cap, cur, rfl, -⟩
  · exact ⟨none, 0, rfl, by simp, fun i hi => absurd hi (Nat.not_lt_zero i)⟩
  · obtain ⟨-, h1, h2, -, hc⟩ := Pu.OwnE.cell h (fun _ => rfl)
    refine ⟨_, _, rfl, hm _ _ h1 h2, fun i hi => ?_⟩
    obtain ⟨g', e, -, -, hj⟩ := hc i hi
    exact ⟨g', e, (hj 0 (by omega)).1, (hj 1 (by omega)).1, (hj 2 (by omega)).1⟩
theorem F_row {w : World} {B : Nat} {v : Value} {l : List Ef} (h : OwnF w B v l) : ∃ A c, v = .slice A l.length c ∧ (l.length : Int) ≤ 9223372036854775807 ∧ ∀ (i : Nat) (hi : i < l.length), ∃ g, A = some ⟨g, 0, none⟩ ∧ w.cell? ⟨g, i * 3, none⟩ = some (.int .u32 (l[i].o : Int)) ∧ w.cell? ⟨g, i * 3 + 1, none⟩ = some (.int .i64 l[i].s) ∧ w.cell? ⟨g, i * 3 + 2, none⟩ = some (.bool l[i].u) := by
  have hm : ∀ n c : Nat, n ≤ c → c ≤ maxLen → (n : Int) ≤ 9223372036854775807 := fun n c h1 h2 => by unfold maxLen at h2; omega
  rcases h.form with ⟨rfl, rfl⟩ | ⟨g, cap, cur, rfl, -⟩
  · exact ⟨none, 0, rfl, by simp, fun i hi => absurd hi (Nat.not_lt_zero i)⟩
  · obtain ⟨-, h1, h2, -, hc⟩ := St.OwnE.cell h (fun _ => rfl)
    refine ⟨_, _, rfl, hm _ _ h1 h2, fun i hi => ?_⟩
    obtain ⟨g', e, -, -, hj⟩ := hc i hi
    exact ⟨g', e, (hj 0 (by omega)).1, (hj 1 (by omega)).1, (hj 2 (by omega)).1⟩
/-- A step's note, as the contract of Serve wants it. -/
theorem ent_st {w : World} {A : Option Addr} {c : Nat} {l : List Nat} (h : InBytes w A l.length c l) {ep od : Nat} (st : Int) (un : Bool) (he : ep < 4294967296) (ho : od < 4294967296) : Fe.EntV w (stN ep od st un l) none A 0 c :=
  ⟨bys0 w none, Nat.le_refl 0, by unfold maxLen; omega, fun _ => rfl, h.1, h.2.1, h.2.2.1, h.2.2.2, ⟨he, by show 0 < _; omega, by show 0 < _; omega, by show 0 < _; omega, ho, (fun c hc => by cases hc), h.1.2.1⟩⟩

end Go.Proofs.YtpbclmnhkmcknaaGreat

namespace Go.Proofs.YtpbclmnhkmcknaaGreat
open Go.RowKit
open Fe (Lies Own Bys Reads NF Kx Kp Note)
set_option maxRecDepth 100000
set_option linter.unusedVariables false
set_option linter.unusedSimpArgs false

/-! ### known's crew -/
def knG : List St.Gd := [⟨[97], 5⟩]
def knA : List Pu.Kd := [⟨[97, 110, 110], 9, 0⟩]
def knR : List Int := [3]
def knK : List St.Kd := [⟨[97], 5, 0⟩]
def knQ : Cq := newQ knK knA knR
theorem kn_s : St.newOf knG = some knK := by kernel_rfl
theorem kn_p : Pu.newOf knA = some knA := by kernel_rfl
theorem kn_d : Do.newOf knR = some knR := by decide +kernel
abbrev knC1 : Obj := .cells #[.string ⟨#[97]⟩, .int .i64 5] 90
abbrev knC2 : Obj := .cells #[.string ⟨#[97, 110, 110]⟩, .int .i64 9, .int .i64 0] 87
abbrev knC3 : Obj := .cells #[.int .i64 3] 3
theorem kn_gin (w : World) : St.Gin (w.alloc knC1) (some ⟨w.heap.size, 0, none⟩) 1 knG := by
  have L := Lies.made w 90 #[.string ⟨#[97]⟩, .int .i64 5]
  refine ⟨rfl, fun _ => ⟨w.heap.size, 0, rfl, by simp, fun i hi => ?_⟩⟩
  have hi2 : i < 1 := hi
  obtain rfl : i = 0 := by omega
  exact ⟨L.cell 0, L.cell 1⟩
theorem kn_ain (w : World) : Pu.Gin (w.alloc knC2) (some ⟨w.heap.size, 0, none⟩) 1 knA := by
  have L := Lies.made w 87 #[.string ⟨#[97, 110, 110]⟩, .int .i64 9, .int .i64 0]
  refine ⟨rfl, fun _ => ⟨w.heap.size, 0, rfl, by simp, fun i hi => ?_⟩⟩
  have hi2 : i < 1 := hi
  obtain rfl : i = 0 := by omega
  exact ⟨L.cell 0, L.cell 1, L.cell 2⟩
theorem kn_iin (w : World) : Do.Iin (w.alloc knC3) (some ⟨w.heap.size, 0, none⟩) 1 knR := by
  have L := Lies.made w 3 #[.int .i64 3]
  refine ⟨rfl, fun _ => ⟨w.heap.size, 0, rfl, by simp, fun i hi => ?_⟩⟩
  have hi2 : i < 1 := hi
  obtain rfl : i = 0 := by omega
  exact L.cell 0
abbrev knW : Wk := ⟨1, 2, [97]⟩
abbrev knN (ep : Nat) (u : Bool) : Note := stN ep 7 0 u (datW knW)
def kq1 : Cq := (serveS knQ (knN 1 false)).q
def kq2 : Cq := (serveS kq1 (knN 1 false)).q
def kq3 : Cq := (serveS kq2 (knN 0 false)).q
def kq4 : Cq := (serveS kq3 (knN 1 true)).q
theorem kn_1 : (serveS knQ (knN 1 false)).a = doneN (knN 1 false) 1 [] := by kernel_rfl
theorem kn_2 : (serveS kq1 (knN 1 false)).a = doneN (knN 1 false) 1 [] := by kernel_rfl
theorem kn_3 : (serveS kq2 (knN 0 false)).a = noN 1 1 := by kernel_rfl
theorem kn_4 : (serveS kq3 (knN 1 true)).a = doneN (knN 1 true) 1 [] := by kernel_rfl
theorem kn_g1 : St.goodsL kq1.s.K = [⟨[97], 3⟩] := by kernel_rfl
theorem kn_g4 : St.goodsL kq4.s.K = [⟨[97], 5⟩] := by kernel_rfl
theorem kn_e : kq4.E.length = 2 := by kernel_rfl
theorem kn_bys {w : World} {b : CB} {g : Nat} (h : Kpt w b g (.cells #[.int .u8 97] 5 (1, 2))) : Bys w (some ⟨g, 0, none⟩) 1 [97] :=
  ⟨rfl, (by decide), fun _ => ⟨g, 0, rfl, fun i hi => by
    obtain rfl : i = 0 := by omega
    exact cell_of_row w g 0 _ 5 (1, 2) h.1⟩⟩
theorem kn_cells {w : World} {b : CB} {g : Nat} {x y z : Value} (h : Kpt w b g (.cells #[x, y, z] 24)) : w.cell? ⟨g, 0, none⟩ = some x ∧ w.cell? ⟨g, 1, none⟩ = some y ∧ w.cell? ⟨g, 2, none⟩ = some z :=
  Fe.Lies.cells3 (show Lies w g 24 #[x, y, z] from h.1)
set_option maxHeartbeats 4000000 in
theorem known_any (w : World) : Calls Tryz.prog 10 #[] w fun e w' => e = .returned (.bool true) ∧ Below w.heap.size w w' := by
  have B1 := Fe.below1 w knC1
  have B2 := B1.trans ((Fe.below1 (w.alloc knC1) knC2).mono B1.size)
  have B3 := B2.trans ((Fe.below1 ((w.alloc knC1).alloc knC2) knC3).mono B2.size)
  have g1 : St.Gin (((w.alloc knC1).alloc knC2).alloc knC3) (some ⟨w.heap.size, 0, none⟩) 1 knG := ((kn_gin w).below (Fe.below1 _ _)).below (Fe.below1 _ _)
  have g2 : Pu.Gin (((w.alloc knC1).alloc knC2).alloc knC3) (some ⟨w.heap.size + 1, 0, none⟩) 1 knA := by
    have h := (kn_ain (w.alloc knC1)).below (Fe.below1 _ knC3)
    rwa [show (w.alloc knC1).heap.size = w.heap.size + 1 from by simp] at h
  have g3 : Do.Iin (((w.alloc knC1).alloc knC2).alloc knC3) (some ⟨w.heap.size + 1 + 1, 0, none⟩) 1 knR := by
    have h := kn_iin ((w.alloc knC1).alloc knC2)
    rwa [show ((w.alloc knC1).alloc knC2).heap.size = w.heap.size + 1 + 1 from by simp] at h
  have C := Lib.hid (new_crew (some ⟨w.heap.size, 0, none⟩) (some ⟨w.heap.size + 1, 0, none⟩) (some ⟨w.heap.size + 1 + 1, 0, none⟩) 1 1 1 1 1 1 knG knA knR _ g1 g2 g3 (by decide) (by decide) (by decide) (by decide) (by decide))
  have HB := Lib.hid B3
  clear B1 B2 B3 g1 g2 g3
  go_enter Tryz.func10, Tryz.ntmps10
  go_wp2_with fail
  with_reducible refine C.out.mono ?_
  rintro e w1 ⟨hb, hr⟩
  have HB1 := Lib.hid (HB.out.trans (hb.mono HB.out.size))
  obtain ⟨b, rfl, ha, hi, hn⟩ : ∃ b, e = .returned (.tuple #[.pointer (some ⟨b.c, 0, none⟩), .int .i64 0]) ∧ CAt w1 b knQ ∧ CInv knR knQ ∧ ∀ i, b.foot i → w.heap.size ≤ i := by
    rcases hr with ⟨h, -⟩ | ⟨K, -, h, -⟩ | ⟨K, P, -, -, h, -⟩ | ⟨K, P, R, b, h1, h2, h3, rfl, ha, hi, hn⟩
    · rw [kn_s] at h; cases h
    · rw [kn_p] at h; cases h
    · rw [kn_d] at h; cases h
    · rw [kn_s] at h1; rw [kn_p] at h2; rw [kn_d] at h3
      injection h1 with h1
      injection h2 with h2
      injection h3 with h3
      subst h1 h2 h3
      exact ⟨b, rfl, ha, hi, fun i h => Nat.le_trans HB.out.size (hn i h)⟩
  have S_1 := Lib.hid (show CW w w1 knR b.c b knQ from ⟨HB1.out, rfl, ha, hi, hn⟩)
  clear hb hr ha hi hn C HB1 HB
  obtain ⟨cc, hcc⟩ : ∃ cc, b.c = cc := ⟨_, rfl⟩
  rw [hcc] at S_1 ⊢
  clear hcc
  have rs : (convert 22 22 (.slice (some ⟨w1.heap.size, 0, none⟩) 1 1)).run Tryz.prog (w1.alloc (.cells #[.int .u8 97] 5)) = .ok (.slice (some ⟨w1.heap.size, 0, none⟩) 1 1) (w1.alloc (.cells #[.int .u8 97] 5 (1, 2))) := Lib.run_convert_bytes_const (P := Tryz.prog) w1 22 5 #[.int .u8 97] 1 1 Tryz.underlying22 Tryz.underlying5
  obtain ⟨w2, HW2, hp, hs⟩ : ∃ w2, w2 = w1.alloc (.cells #[.int .u8 97] 5 (1, 2)) ∧ Kpt w2 b w1.heap.size (.cells #[.int .u8 97] 5 (1, 2)) ∧ CW w w2 knR cc b knQ := ⟨_, rfl, Kpt.new S_1.out.at_ _, S_1.out.alloc _⟩
  rw [← HW2] at rs
  have S_2 := Lib.hid hs
  have KP_2 := Lib.hid hp
  clear hs hp HW2
  obtain ⟨w3, HW3, hp, hk, hs⟩ : ∃ w3, w3 = w2.alloc (.cells #[.int .i64 1, .int .i64 2, .slice (some ⟨w1.heap.size, 0, none⟩) 1 1] 24) ∧ Kpt w3 b w1.heap.size (.cells #[.int .u8 97] 5 (1, 2)) ∧ Kpt w3 b w2.heap.size (.cells #[.int .i64 1, .int .i64 2, .slice (some ⟨w1.heap.size, 0, none⟩) 1 1] 24) ∧ CW w w3 knR cc b knQ := ⟨_, rfl, KP_2.out.below (Fe.below1 _ _), Kpt.new S_2.out.at_ _, S_2.out.alloc _⟩
  have S_3 := Lib.hid hs
  have KP_3 := Lib.hid hp
  have KW_3 := Lib.hid hk
  clear hs hp hk
  obtain ⟨k0, k1, k2⟩ := kn_cells KW_3.out
  go_wp2_with fail
  rw [← HW3]
  clear HW3 rs
  have C4 : Hid (Calls Tryz.prog 40 #[.int .u32 1, .int .u32 7, .int .i64 0, .bool false, .agg #[.int .i64 1, .int .i64 2, .slice (some ⟨w1.heap.size, 0, none⟩) 1 1]] w3 fun x w' => ∃ A2 c2, x = .returned (.agg (Fe.evs (knN 1 false) (.slice none 0 0) (.slice A2 (datW knW).length c2))) ∧ Own w' w3.heap.size (.slice A2 (datW knW).length c2) (datW knW) ∧ Below w3.heap.size w3 w') := Lib.hid (step_any 1 7 0 false knW (some ⟨w1.heap.size, 0, none⟩) 1 w3 (kn_bys KP_3.out) (fun h => by cases h) (by decide))
  with_reducible refine (C4.out).mono ?_
  rintro e w4 ⟨A4, c4, rfl, ho, hb⟩
  have S_4 := Lib.hid (S_3.out.below hb)
  have KP_4 := Lib.hid (KP_3.out.below hb)
  have KW_4 := Lib.hid (KW_3.out.below hb)
  have HO_4 := Lib.hid ho
  clear ho k0 k1 k2
  clear hb
  have HF_4 := Lib.hid (fun i (hh : CB.foot b i) => S_3.out.at_.foot_lt hh)
  have C5 : Hid (Calls Tryz.prog 23 #[.pointer (some ⟨cc, 0, none⟩), .agg (Fe.evs (knN 1 false) (.slice none 0 0) (.slice A4 (datW knW).length c4))] w4 (CwServe w w4 knR cc b (serveS knQ (knN 1 false)))) := Lib.hid (cw_serve S_4.out (knN 1 false) A4 c4 0 (ent_st (Own.inb HO_4.out) 0 false (by decide) (by decide)) (by unfold Fe.in64; decide) (by decide) (fun i hi hh => absurd (HF_4.out i hh) (Nat.not_lt.2 (Fe.Own.block HO_4.out i hi))))
  go_wp2_with fail
  with_reducible refine (C5.out).mono ?_
  rintro e w5 ⟨b5, v5, he, ho, hv, hS, hg, hf⟩
  rw [kn_1] at he ho
  obtain ⟨A5, c5, rfl, -, -⟩ := ho.slice
  subst he
  have KP_5 := Lib.hid (KP_4.out.serve hg hf)
  have KW_5 := Lib.hid (KW_4.out.serve hg hf)
  change CW w w5 knR cc b5 kq1 at hS
  have S_5 := Lib.hid hS
  clear hv ho
  clear hg hf hS
  obtain ⟨w6, HW, hk, hb, hs⟩ : ∃ W, W = w5.alloc (.cells #[.int .i64 8, .int .u32 1, .int .u32 0, .int .u64 0, .int .u64 0, .int .u32 7, .int .i64 0, .bool false, .int .i64 1, .slice none 0 0, .slice A5 0 c5] 55) ∧ Kpt W b5 w5.heap.size (.cells #[.int .i64 8, .int .u32 1, .int .u32 0, .int .u64 0, .int .u64 0, .int .u32 7, .int .i64 0, .bool false, .int .i64 1, .slice none 0 0, .slice A5 0 c5] 55) ∧ Below w5.heap.size w5 W ∧ CW w W knR cc b5 kq1 := ⟨_, rfl, Kpt.new S_5.out.at_ _, Fe.below1 _ _, S_5.out.alloc _⟩
  have S_6 := Lib.hid hs
  have KX_6 := Lib.hid hk
  have KP_6 := Lib.hid (KP_5.out.below hb)
  have KW_6 := Lib.hid (KW_5.out.below hb)
  clear hs hk hb
  obtain ⟨k0, k1, k2⟩ := kn_cells KW_6.out
  rw [HW] at k0 k1 k2
  go_wp2_with fail
  rw [← HW]
  clear HW k0 k1 k2
  with_reducible refine (cw_goods S_6.out).mono ?_
  rintro e w7 ⟨vl, rfl, hr, hb⟩
  have S_7 := Lib.hid (S_6.out.below hb)
  have KP_7 := Lib.hid (KP_6.out.below hb)
  have KW_7 := Lib.hid (KW_6.out.below hb)
  have KX_7 := Lib.hid (KX_6.out.below hb)
  have RL_7 := Lib.hid hr
  clear hr
  clear hb
  have C8 : Hid (Calls Tryz.prog 40 #[.int .u32 1, .int .u32 7, .int .i64 0, .bool false, .agg #[.int .i64 1, .int .i64 2, .slice (some ⟨w1.heap.size, 0, none⟩) 1 1]] w7 fun x w' => ∃ A2 c2, x = .returned (.agg (Fe.evs (knN 1 false) (.slice none 0 0) (.slice A2 (datW knW).length c2))) ∧ Own w' w7.heap.size (.slice A2 (datW knW).length c2) (datW knW) ∧ Below w7.heap.size w7 w') := Lib.hid (step_any 1 7 0 false knW (some ⟨w1.heap.size, 0, none⟩) 1 w7 (kn_bys KP_7.out) (fun h => by cases h) (by decide))
  obtain ⟨k0, k1, k2⟩ := kn_cells KW_7.out
  go_wp2_with fail
  with_reducible refine (C8.out).mono ?_
  rintro e w8 ⟨A8, c8, rfl, ho, hb⟩
  have S_8 := Lib.hid (S_7.out.below hb)
  have KP_8 := Lib.hid (KP_7.out.below hb)
  have KW_8 := Lib.hid (KW_7.out.below hb)
  have KX_8 := Lib.hid (KX_7.out.below hb)
  have RL_8 := Lib.hid (RL_7.out.below hb)
  have HO_8 := Lib.hid ho
  clear ho k0 k1 k2
  clear hb
  have HF_8 := Lib.hid (fun i (hh : CB.foot b5 i) => S_7.out.at_.foot_lt hh)
  have C9 : Hid (Calls Tryz.prog 23 #[.pointer (some ⟨cc, 0, none⟩), .agg (Fe.evs (knN 1 false) (.slice none 0 0) (.slice A8 (datW knW).length c8))] w8 (CwServe w w8 knR cc b5 (serveS kq1 (knN 1 false)))) := Lib.hid (cw_serve S_8.out (knN 1 false) A8 c8 0 (ent_st (Own.inb HO_8.out) 0 false (by decide) (by decide)) (by unfold Fe.in64; decide) (by decide) (fun i hi hh => absurd (HF_8.out i hh) (Nat.not_lt.2 (Fe.Own.block HO_8.out i hi))))
  go_wp2_with fail
  with_reducible refine (C9.out).mono ?_
  rintro e w9 ⟨b9, v9, he, ho, hv, hS, hg, hf⟩
  rw [kn_2] at he ho
  obtain ⟨A9, c9, rfl, -, -⟩ := ho.slice
  subst he
  have KP_9 := Lib.hid (KP_8.out.serve hg hf)
  have KW_9 := Lib.hid (KW_8.out.serve hg hf)
  have KX_9 := Lib.hid (KX_8.out.serve hg hf)
  have RL_9 := Lib.hid (G_serve RL_8.out S_8.out.at_ hg)
  change CW w w9 knR cc b9 kq2 at hS
  have S_9 := Lib.hid hS
  clear hv ho
  clear hg hf hS
  obtain ⟨w10, HW, hk, hb, hs⟩ : ∃ W, W = w9.alloc (.cells #[.int .i64 8, .int .u32 1, .int .u32 0, .int .u64 0, .int .u64 0, .int .u32 7, .int .i64 0, .bool false, .int .i64 1, .slice none 0 0, .slice A9 0 c9] 55) ∧ Kpt W b9 w9.heap.size (.cells #[.int .i64 8, .int .u32 1, .int .u32 0, .int .u64 0, .int .u64 0, .int .u32 7, .int .i64 0, .bool false, .int .i64 1, .slice none 0 0, .slice A9 0 c9] 55) ∧ Below w9.heap.size w9 W ∧ CW w W knR cc b9 kq2 := ⟨_, rfl, Kpt.new S_9.out.at_ _, Fe.below1 _ _, S_9.out.alloc _⟩
  have S_10 := Lib.hid hs
  have KY_10 := Lib.hid hk
  have KP_10 := Lib.hid (KP_9.out.below hb)
  have KW_10 := Lib.hid (KW_9.out.below hb)
  have KX_10 := Lib.hid (KX_9.out.below hb)
  have RL_10 := Lib.hid (RL_9.out.below hb)
  clear hs hk hb
  obtain ⟨k0, k1, k2⟩ := kn_cells KW_10.out
  rw [HW] at k0 k1 k2
  go_wp2_with fail
  rw [← HW]
  clear HW k0 k1 k2
  have C11 : Hid (Calls Tryz.prog 40 #[.int .u32 0, .int .u32 7, .int .i64 0, .bool false, .agg #[.int .i64 1, .int .i64 2, .slice (some ⟨w1.heap.size, 0, none⟩) 1 1]] w10 fun x w' => ∃ A2 c2, x = .returned (.agg (Fe.evs (knN 0 false) (.slice none 0 0) (.slice A2 (datW knW).length c2))) ∧ Own w' w10.heap.size (.slice A2 (datW knW).length c2) (datW knW) ∧ Below w10.heap.size w10 w') := Lib.hid (step_any 0 7 0 false knW (some ⟨w1.heap.size, 0, none⟩) 1 w10 (kn_bys KP_10.out) (fun h => by cases h) (by decide))
  obtain ⟨k0, k1, k2⟩ := kn_cells KW_10.out
  with_reducible refine (C11.out).mono ?_
  rintro e w11 ⟨A11, c11, rfl, ho, hb⟩
  have S_11 := Lib.hid (S_10.out.below hb)
  have KP_11 := Lib.hid (KP_10.out.below hb)
  have KW_11 := Lib.hid (KW_10.out.below hb)
  have KX_11 := Lib.hid (KX_10.out.below hb)
  have RL_11 := Lib.hid (RL_10.out.below hb)
  have KY_11 := Lib.hid (KY_10.out.below hb)
  have HO_11 := Lib.hid ho
  clear ho k0 k1 k2
  clear hb
  have HF_11 := Lib.hid (fun i (hh : CB.foot b9 i) => S_10.out.at_.foot_lt hh)
  have C12 : Hid (Calls Tryz.prog 23 #[.pointer (some ⟨cc, 0, none⟩), .agg (Fe.evs (knN 0 false) (.slice none 0 0) (.slice A11 (datW knW).length c11))] w11 (CwServe w w11 knR cc b9 (serveS kq2 (knN 0 false)))) := Lib.hid (cw_serve S_11.out (knN 0 false) A11 c11 0 (ent_st (Own.inb HO_11.out) 0 false (by decide) (by decide)) (by unfold Fe.in64; decide) (by decide) (fun i hi hh => absurd (HF_11.out i hh) (Nat.not_lt.2 (Fe.Own.block HO_11.out i hi))))
  go_wp2_with fail
  with_reducible refine (C12.out).mono ?_
  rintro e w12 ⟨b12, v12, he, ho, hv, hS, hg, hf⟩
  rw [kn_3] at he ho
  obtain ⟨A12, c12, rfl, -, -⟩ := ho.slice
  subst he
  have KP_12 := Lib.hid (KP_11.out.serve hg hf)
  have KW_12 := Lib.hid (KW_11.out.serve hg hf)
  have KX_12 := Lib.hid (KX_11.out.serve hg hf)
  have RL_12 := Lib.hid (G_serve RL_11.out S_11.out.at_ hg)
  have KY_12 := Lib.hid (KY_11.out.serve hg hf)
  change CW w w12 knR cc b12 kq3 at hS
  have S_12 := Lib.hid hS
  clear hv ho
  clear hg hf hS
  obtain ⟨w13, HW, hk, hb, hs⟩ : ∃ W, W = w12.alloc (.cells #[.int .i64 6, .int .u32 1, .int .u32 0, .int .u64 0, .int .u64 0, .int .u32 0, .int .i64 0, .bool false, .int .i64 1, .slice none 0 0, .slice A12 0 c12] 55) ∧ Kpt W b12 w12.heap.size (.cells #[.int .i64 6, .int .u32 1, .int .u32 0, .int .u64 0, .int .u64 0, .int .u32 0, .int .i64 0, .bool false, .int .i64 1, .slice none 0 0, .slice A12 0 c12] 55) ∧ Below w12.heap.size w12 W ∧ CW w W knR cc b12 kq3 := ⟨_, rfl, Kpt.new S_12.out.at_ _, Fe.below1 _ _, S_12.out.alloc _⟩
  have S_13 := Lib.hid hs
  have KZ_13 := Lib.hid hk
  have KP_13 := Lib.hid (KP_12.out.below hb)
  have KW_13 := Lib.hid (KW_12.out.below hb)
  have KX_13 := Lib.hid (KX_12.out.below hb)
  have RL_13 := Lib.hid (RL_12.out.below hb)
  have KY_13 := Lib.hid (KY_12.out.below hb)
  clear hs hk hb
  obtain ⟨k0, k1, k2⟩ := kn_cells KW_13.out
  rw [HW] at k0 k1 k2
  go_wp2_with fail
  rw [← HW]
  clear HW k0 k1 k2
  have C14 : Hid (Calls Tryz.prog 40 #[.int .u32 1, .int .u32 7, .int .i64 0, .bool true, .agg #[.int .i64 1, .int .i64 2, .slice (some ⟨w1.heap.size, 0, none⟩) 1 1]] w13 fun x w' => ∃ A2 c2, x = .returned (.agg (Fe.evs (knN 1 true) (.slice none 0 0) (.slice A2 (datW knW).length c2))) ∧ Own w' w13.heap.size (.slice A2 (datW knW).length c2) (datW knW) ∧ Below w13.heap.size w13 w') := Lib.hid (step_any 1 7 0 true knW (some ⟨w1.heap.size, 0, none⟩) 1 w13 (kn_bys KP_13.out) (fun h => by cases h) (by decide))
  obtain ⟨k0, k1, k2⟩ := kn_cells KW_13.out
  with_reducible refine (C14.out).mono ?_
  rintro e w14 ⟨A14, c14, rfl, ho, hb⟩
  have S_14 := Lib.hid (S_13.out.below hb)
  have KP_14 := Lib.hid (KP_13.out.below hb)
  have KW_14 := Lib.hid (KW_13.out.below hb)
  have KX_14 := Lib.hid (KX_13.out.below hb)
  have RL_14 := Lib.hid (RL_13.out.below hb)
  have KY_14 := Lib.hid (KY_13.out.below hb)
  have KZ_14 := Lib.hid (KZ_13.out.below hb)
  have HO_14 := Lib.hid ho
  clear ho k0 k1 k2
  clear hb
  have HF_14 := Lib.hid (fun i (hh : CB.foot b12 i) => S_13.out.at_.foot_lt hh)
  have C15 : Hid (Calls Tryz.prog 23 #[.pointer (some ⟨cc, 0, none⟩), .agg (Fe.evs (knN 1 true) (.slice none 0 0) (.slice A14 (datW knW).length c14))] w14 (CwServe w w14 knR cc b12 (serveS kq3 (knN 1 true)))) := Lib.hid (cw_serve S_14.out (knN 1 true) A14 c14 0 (ent_st (Own.inb HO_14.out) 0 true (by decide) (by decide)) (by unfold Fe.in64; decide) (by decide) (fun i hi hh => absurd (HF_14.out i hh) (Nat.not_lt.2 (Fe.Own.block HO_14.out i hi))))
  go_wp2_with fail
  with_reducible refine (C15.out).mono ?_
  rintro e w15 ⟨b15, v15, he, ho, hv, hS, hg, hf⟩
  rw [kn_4] at he ho
  obtain ⟨A15, c15, rfl, -, -⟩ := ho.slice
  subst he
  have KP_15 := Lib.hid (KP_14.out.serve hg hf)
  have KW_15 := Lib.hid (KW_14.out.serve hg hf)
  have KX_15 := Lib.hid (KX_14.out.serve hg hf)
  have RL_15 := Lib.hid (G_serve RL_14.out S_14.out.at_ hg)
  have KY_15 := Lib.hid (KY_14.out.serve hg hf)
  have KZ_15 := Lib.hid (KZ_14.out.serve hg hf)
  change CW w w15 knR cc b15 kq4 at hS
  have S_15 := Lib.hid hS
  clear hv ho
  clear hg hf hS
  obtain ⟨w16, HW, hk, hb, hs⟩ : ∃ W, W = w15.alloc (.cells #[.int .i64 8, .int .u32 1, .int .u32 0, .int .u64 0, .int .u64 0, .int .u32 7, .int .i64 0, .bool true, .int .i64 1, .slice none 0 0, .slice A15 0 c15] 55) ∧ Kpt W b15 w15.heap.size (.cells #[.int .i64 8, .int .u32 1, .int .u32 0, .int .u64 0, .int .u64 0, .int .u32 7, .int .i64 0, .bool true, .int .i64 1, .slice none 0 0, .slice A15 0 c15] 55) ∧ Below w15.heap.size w15 W ∧ CW w W knR cc b15 kq4 := ⟨_, rfl, Kpt.new S_15.out.at_ _, Fe.below1 _ _, S_15.out.alloc _⟩
  have S_16 := Lib.hid hs
  have KU_16 := Lib.hid hk
  have KP_16 := Lib.hid (KP_15.out.below hb)
  have KW_16 := Lib.hid (KW_15.out.below hb)
  have KX_16 := Lib.hid (KX_15.out.below hb)
  have RL_16 := Lib.hid (RL_15.out.below hb)
  have KY_16 := Lib.hid (KY_15.out.below hb)
  have KZ_16 := Lib.hid (KZ_15.out.below hb)
  clear hs hk hb
  obtain ⟨k0, k1, k2⟩ := kn_cells KW_16.out
  rw [HW] at k0 k1 k2
  go_wp2_with fail
  rw [← HW]
  clear HW k0 k1 k2
  with_reducible refine (cw_goods S_16.out).mono ?_
  rintro e w17 ⟨vm, rfl, hr, hb⟩
  have S_17 := Lib.hid (S_16.out.below hb)
  have KP_17 := Lib.hid (KP_16.out.below hb)
  have KW_17 := Lib.hid (KW_16.out.below hb)
  have KX_17 := Lib.hid (KX_16.out.below hb)
  have RL_17 := Lib.hid (RL_16.out.below hb)
  have KY_17 := Lib.hid (KY_16.out.below hb)
  have KZ_17 := Lib.hid (KZ_16.out.below hb)
  have KU_17 := Lib.hid (KU_16.out.below hb)
  have RM_17 := Lib.hid hr
  clear hr
  clear hb
  have RL := RL_17.out
  rw [kn_g1] at RL
  obtain ⟨Al, cl, rfl, -, hl⟩ := G_row RL
  obtain ⟨gl, rfl, -, l1⟩ := hl 0 (by decide)
  clear hl RL
  have RM := RM_17.out
  rw [kn_g4] at RM
  obtain ⟨Am, cm, rfl, -, hm⟩ := G_row RM
  obtain ⟨gm, rfl, -, m1⟩ := hm 0 (by decide)
  clear hm RM
  obtain ⟨x0, x1, x2, x3, x4, x5, x6, x7, x8, x9, x10⟩ := (show Lies w17 _ 55 _ from (KX_17.out).1).cells11
  obtain ⟨y0, y1, y2, y3, y4, y5, y6, y7, y8, y9, y10⟩ := (show Lies w17 _ 55 _ from (KY_17.out).1).cells11
  obtain ⟨z0, z1, z2, z3, z4, z5, z6, z7, z8, z9, z10⟩ := (show Lies w17 _ 55 _ from (KZ_17.out).1).cells11
  obtain ⟨u0, u1, u2, u3, u4, u5, u6, u7, u8, u9, u10⟩ := (show Lies w17 _ 55 _ from (KU_17.out).1).cells11
  have C18 : Hid (Calls Tryz.prog 25 #[.agg #[.int .i64 8, .int .u32 1, .int .u32 0, .int .u64 0, .int .u64 0, .int .u32 7, .int .i64 0, .bool false, .int .i64 1, .slice none 0 0, .slice A5 0 c5], .agg #[.int .i64 8, .int .u32 1, .int .u32 0, .int .u64 0, .int .u64 0, .int .u32 7, .int .i64 0, .bool false, .int .i64 1, .slice none 0 0, .slice A9 0 c9]] w17 fun e w' => e = .returned (.bool true) ∧ Below w17.heap.size w17 w') := Lib.hid (same25_eq (doneN (knN 1 false) 1 []) A5 A9 0 0 c5 c9 w17 (bys0 _ _) (bys0 _ _))
  go_wp2_with fail
  with_reducible refine (C18.out).mono ?_
  rintro e w18 ⟨rfl, hb⟩
  have S_18 := Lib.hid (S_17.out.below hb)
  have KP_18 := Lib.hid (KP_17.out.below hb)
  have KW_18 := Lib.hid (KW_17.out.below hb)
  have KX_18 := Lib.hid (KX_17.out.below hb)
  have RL_18 := Lib.hid (RL_17.out.below hb)
  have KY_18 := Lib.hid (KY_17.out.below hb)
  have KZ_18 := Lib.hid (KZ_17.out.below hb)
  have KU_18 := Lib.hid (KU_17.out.below hb)
  have RM_18 := Lib.hid (RM_17.out.below hb)
  have m2 := m1
  rw [← hb.cell (p := ⟨gm, 0 * 2 + 1, none⟩) (block_lt_of_cell m1)] at m2
  clear hb
  clear x0 x1 x2 x3 x4 x5 x6 x7 x8 x9 x10 y0 y1 y2 y3 y4 y5 y6 y7 y8 y9 y10 z0 z1 z2 z3 z4 z5 z6 z7 z8 z9 z10 u0 u1 u2 u3 u4 u5 u6 u7 u8 u9 u10 l1 m1
  obtain ⟨x0, x1, x2, x3, x4, x5, x6, x7, x8, x9, x10⟩ := (show Lies w18 _ 55 _ from (KX_18.out).1).cells11
  obtain ⟨y0, y1, y2, y3, y4, y5, y6, y7, y8, y9, y10⟩ := (show Lies w18 _ 55 _ from (KY_18.out).1).cells11
  obtain ⟨z0, z1, z2, z3, z4, z5, z6, z7, z8, z9, z10⟩ := (show Lies w18 _ 55 _ from (KZ_18.out).1).cells11
  obtain ⟨u0, u1, u2, u3, u4, u5, u6, u7, u8, u9, u10⟩ := (show Lies w18 _ 55 _ from (KU_18.out).1).cells11
  have C19 : Hid (Calls Tryz.prog 26 #[.pointer (some ⟨cc, 0, none⟩)] w18 fun x w'' => x = .returned (.int .u32 1) ∧ w18 = w'') := Lib.hid (cw_epoch S_18.out)
  go_wp2_with fail
  with_reducible refine (C19.out).mono ?_
  rintro e _ ⟨rfl, rfl⟩
  go_wp2_with fail
  with_reducible refine (cw_effects S_18.out).mono ?_
  rintro e w19 ⟨ve, rfl, hr, hb⟩
  have S_19 := Lib.hid (S_18.out.below hb)
  have KP_19 := Lib.hid (KP_18.out.below hb)
  have KW_19 := Lib.hid (KW_18.out.below hb)
  have KX_19 := Lib.hid (KX_18.out.below hb)
  have RL_19 := Lib.hid (RL_18.out.below hb)
  have KY_19 := Lib.hid (KY_18.out.below hb)
  have KZ_19 := Lib.hid (KZ_18.out.below hb)
  have KU_19 := Lib.hid (KU_18.out.below hb)
  have RM_19 := Lib.hid (RM_18.out.below hb)
  obtain ⟨Ae, ce, rfl, -, -⟩ := F_row hr
  rw [kn_e]
  clear hr
  clear hb
  go_wp2
  go_ret
  exact ⟨rfl, S_19.out.bel⟩

end Go.Proofs.YtpbclmnhkmcknaaGreat

namespace Go.Proofs.YtpbclmnhkmcknaaGreat
open Go.RowKit
open Fe (Lies Own Bys Reads NF Kx Kp Note)
set_option maxRecDepth 100000
set_option linter.unusedVariables false
set_option linter.unusedSimpArgs false

/-- What long says when it says no. -/
def ShortA (n : Nat) (X : Nat → Ax) : Prop := ∀ i, i < n → i < 200 → (X i).k.x.length ≤ 500 ∧ (X i).r.length ≤ 500
def LgR (n : Nat) (X : Nat → Ax) (v : Value) : Prop := ∃ j : Nat, j ≤ n ∧ v = .int .i64 (j : Int) ∧ ∀ i, i < j → i < 200 → (X i).k.x.length ≤ 500 ∧ (X i).r.length ≤ 500
def LongPost (w : World) (n : Nat) (X : Nat → Ax) (e : Ending) (w' : World) : Prop := Below w.heap.size w w' ∧ ∃ t : Bool, e = .returned (.bool t) ∧ (t = false → ShortA n X)
set_option maxHeartbeats 4000000 in
theorem long_any (A : Option Addr) (n c : Nat) (X : Nat → Ax) (w : World) (h : AV w A n c X) :
    Calls Tryz.prog 19 #[.agg #[.slice none 0 0, .slice none 0 0, .slice none 0 0], .slice A n c] w (LongPost w n X) := by
  have LW := Lib.hid (Lies.made w 43 #[.slice none 0 0, .slice none 0 0, .slice none 0 0])
  have BB := Lib.hid (Fe.below1 w (.cells #[.slice none 0 0, .slice none 0 0, .slice none 0 0] 43))
  have HA := Lib.hid (h.below BB.out)
  have hn : (n : Int) ≤ 9223372036854775807 := by have h1 := h.1; have h2 := h.2.1; unfold maxLen at h2; omega
  obtain ⟨c0, c1, c2⟩ := LW.out.cells3
  clear h
  go_enter Tryz.func19, Tryz.ntmps19
  have z0 : decide ((0 : Int) < 0) = false := by decide
  go_wp2_with fail
  go_loop [5] (fun v => v = .int .i64 0) (fun _ => 0)
  case atStart => exact rfl
  case round =>
    subst hrel
    go_wp2_with fail
    go_loop [6] (fun v => v = .int .i64 0) (fun _ => 0)
    case atStart => exact rfl
    case round =>
      subst hrel
      go_wp2_with fail
      go_loop [7] (fun v => LgR n X v) (fun i => 201 - (intOf i).toNat)
      case atStart => exact ⟨0, Nat.zero_le _, rfl, fun i hi => absurd hi (Nat.not_lt_zero i)⟩
      case round =>
        obtain ⟨j, hj, rfl, hs⟩ := hrel
        have HS := Lib.hid hs
        clear hs
        by_cases hlt : j < n
        · have hlt2 : (j : Int) < (n : Int) := by omega
          have hlt3 : decide ((j : Int) < (n : Int)) = true := by simpa using hlt
          by_cases h2 : j < 200
          · have h3 : decide ((j : Int) < 200) = true := by simp; omega
            obtain ⟨g, o, rfl, -⟩ := HA.out.2.2.2.1 (by omega)
            obtain ⟨x0, x1, x2, x3, x4, x5, x6, x7⟩ := HA.out.2.2.2.at j hlt
            have hx1 : ((X j).k.x.length : Int) ≤ 9223372036854775807 := by
              have h1 := (HA.out.2.2.2.2 j hlt).kx.2.1; have h2 := (HA.out.2.2.2.2 j hlt).kx.2.2.1; unfold maxLen at h2; omega
            have hx2 : ((X j).r.length : Int) ≤ 9223372036854775807 := by
              have h1 := (HA.out.2.2.2.2 j hlt).rr.2.1; have h2 := (HA.out.2.2.2.2 j hlt).rr.2.2.1; unfold maxLen at h2; omega
            obtain ⟨y, hy⟩ : ∃ y, X j = y := ⟨_, rfl⟩
            rw [hy] at x0 x1 x2 x3 x4 x5 x6 x7 hx1 hx2
            have HY := Lib.hid hy
            clear hy
            by_cases h4 : 500 < y.k.x.length
            · have h5 : decide ((500 : Int) < (y.k.x.length : Int)) = true := by simp; omega
              have h5' : decide (500 < y.k.x.length) = true := by simp; omega
              clear h4
              go_wp2
              go_ret
              exact ⟨BB.out, true, rfl, fun h => by cases h⟩
            · have h5 : decide ((500 : Int) < (y.k.x.length : Int)) = false := by simp; omega
              have h5' : decide (500 < y.k.x.length) = false := by simp; omega
              by_cases h6 : 500 < y.r.length
              · have h7 : decide ((500 : Int) < (y.r.length : Int)) = true := by simp; omega
                have h7' : decide (500 < y.r.length) = true := by simp; omega
                clear h4 h6
                go_wp2
                go_ret
                exact ⟨BB.out, true, rfl, fun h => by cases h⟩
              · have h7 : decide ((500 : Int) < (y.r.length : Int)) = false := by simp; omega
                have h7' : decide (500 < y.r.length) = false := by simp; omega
                have HS2 : Hid (∀ i, i < j + 1 → i < 200 → (X i).k.x.length ≤ 500 ∧ (X i).r.length ≤ 500) := Lib.hid (fun i hi hi2 => by
                  by_cases e : i = j
                  · subst e; rw [HY.out]; exact ⟨Nat.le_of_not_lt h4, Nat.le_of_not_lt h6⟩
                  · exact HS.out i (by omega) hi2)
                clear h4 h6
                go_wp2
                go_round
                case rel => exact ⟨j + 1, by omega, by go_num, HS2.out⟩
                case measure => simp [intOf]; omega
          · have h3 : decide ((j : Int) < 200) = false := by simp; omega
            have HF : Hid (ShortA n X) := Lib.hid (fun i hi hi2 => HS.out i (by omega) hi2)
            clear h2
            go_wp2
            go_ret
            exact ⟨BB.out, false, rfl, fun _ => HF.out⟩
        · have hlt3 : decide ((j : Int) < (n : Int)) = false := by simp; omega
          have HF : Hid (ShortA n X) := Lib.hid (fun i hi hi2 => HS.out i (by omega) hi2)
          have hlt4 : decide (j < n) = false := by simpa using hlt
          go_wp2
          go_ret
          exact ⟨BB.out, false, rfl, fun _ => HF.out⟩

end Go.Proofs.YtpbclmnhkmcknaaGreat
