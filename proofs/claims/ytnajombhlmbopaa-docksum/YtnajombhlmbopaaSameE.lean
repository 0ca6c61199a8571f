/-
  The contracts of same and SameInts where both are the same, and of rooms.
-/
import Derived.Test.YtnajombhlmbopaaInA
import Derived.Test.YtnajombhlmbopaaSmall
import Derived.Laws.StructEq
namespace Go.Proofs.Ytnajombhlmbopaa
open Go.Proofs Go.RowKit
set_option maxRecDepth 100000
set_option linter.unusedVariables false
set_option linter.unusedSimpArgs false

/-- A slice of n bookings that reads as l. -/
def Hin (w : World) (A : Option Addr) (n : Nat) (l : List Hd) : Prop :=
  l.length = n ∧ (0 < n → ∃ b off, A = some ⟨b, off, none⟩ ∧ b < w.heap.size ∧ ∀ (i : Nat) (hi : i < l.length), w.cell? ⟨b, off + i * 3, none⟩ = some (.int .u32 (l[i].o : Int)) ∧ w.cell? ⟨b, off + i * 3 + 1, none⟩ = some (.int .i64 (l[i].d : Int)) ∧ w.cell? ⟨b, off + i * 3 + 2, none⟩ = some (.int .i64 l[i].k))
theorem Hin.below {w w' : World} {A : Option Addr} {n : Nat} {l : List Hd} (h : Hin w A n l) (hb : Below w.heap.size w w') : Hin w' A n l := by
  obtain ⟨h1, h2⟩ := h
  refine ⟨h1, fun h0 => ?_⟩
  obtain ⟨b, off, e, hlt, hc⟩ := h2 h0
  refine ⟨b, off, e, Nat.lt_of_lt_of_le hlt hb.size, fun i hi => ?_⟩
  obtain ⟨c1, c2, c3⟩ := hc i hi
  exact ⟨by rw [hb.cell (p := ⟨b, off + i * 3, none⟩) hlt]; exact c1, by rw [hb.cell (p := ⟨b, off + i * 3 + 1, none⟩) hlt]; exact c2, by rw [hb.cell (p := ⟨b, off + i * 3 + 2, none⟩) hlt]; exact c3⟩
theorem OwnE.iin {w : World} {B : Nat} {v : Value} {l : List Int} (h : OwnI w B v l) : ∃ A c, v = .slice A l.length c ∧ Iin w A l.length l ∧ l.length ≤ c ∧ c ≤ maxLen := by
  rcases h.form with ⟨rfl, rfl⟩ | ⟨g, cap, cur, rfl, h1, h2, h3, h4, h5, h6⟩
  · exact ⟨none, 0, rfl, ⟨rfl, fun h => absurd h (by simp)⟩, Nat.le_refl _, by unfold maxLen; omega⟩
  · have hc := OwnE.cell (A := some ⟨g, 0, none⟩) (n := l.length) (c := cap) h encI_len
    refine ⟨_, cap, rfl, ⟨rfl, fun h0 => ⟨g, 0, rfl, h2.lt, fun i hi => ?_⟩⟩, h3, h4⟩
    obtain ⟨g', e1, -, -, e2⟩ := hc.2.2.2.2 i hi
    injection e1 with e1
    injection e1 with e1
    subst e1
    have q0 := (e2 0 (by decide)).1
    rw [Nat.mul_one, Nat.add_zero] at q0
    rw [Nat.zero_add]
    exact q0
theorem OwnE.hin {w : World} {B : Nat} {v : Value} {l : List Hd} (h : OwnR w B v l) : ∃ A c, v = .slice A l.length c ∧ Hin w A l.length l ∧ l.length ≤ c ∧ c ≤ maxLen := by
  rcases h.form with ⟨rfl, rfl⟩ | ⟨g, cap, cur, rfl, h1, h2, h3, h4, h5, h6⟩
  · exact ⟨none, 0, rfl, ⟨rfl, fun h => absurd h (by simp)⟩, Nat.le_refl _, by unfold maxLen; omega⟩
  · have hc := OwnE.cell (A := some ⟨g, 0, none⟩) (n := l.length) (c := cap) h encH_len
    refine ⟨_, cap, rfl, ⟨rfl, fun h0 => ⟨g, 0, rfl, h2.lt, fun i hi => ?_⟩⟩, h3, h4⟩
    obtain ⟨g', e1, -, -, e2⟩ := hc.2.2.2.2 i hi
    injection e1 with e1
    injection e1 with e1
    subst e1
    have q0 := (e2 0 (by decide)).1
    have q1 := (e2 1 (by decide)).1
    have q2 := (e2 2 (by decide)).1
    rw [Nat.zero_add]
    exact ⟨q0, q1, q2⟩

instance : DecidableEq Hd := fun a b => decidable_of_iff (a.o = b.o ∧ a.d = b.d ∧ a.k = b.k) (by cases a; cases b; simp)
theorem run_neq44 (x y : Hd) (w : World) : (binOp .neq 44 (.agg #[.int .u32 (x.o : Int), .int .i64 (x.d : Int), .int .i64 x.k]) (.agg #[.int .u32 (y.o : Int), .int .i64 (y.d : Int), .int .i64 y.k])).run Try.prog w = .ok (.bool (!decide (x = y))) w := by
  have u3 := Try.underlying3
  have a3 := Try.isAgg3
  have z3 := Try.sizeOf3
  have u32 := Try.underlying32
  have a32 := Try.isAgg32
  have z32 := Try.sizeOf32
  have hS : Try.prog.underlying 44 = some (.struct (Try.prog.fieldsOf 44)) := by kernel_rfl
  have hp : Try.prog.stoodInHeld 44 = false := by kernel_rfl
  have he : (x = y) ↔ ((x.o : Int) = y.o ∧ (x.d : Int) = y.d ∧ x.k = y.k) := by rw [Int.natCast_inj, Int.natCast_inj]; cases x; cases y; simp
  rw [run_neq_struct, show (10000 : Nat) = 9999 + 1 from rfl, run_equalIn_agg w 9999 44 _ _ hS hp]
  simp only [Program.fieldsOf, Try.underlying44, decide_eq_decide.2 he]
  clear he
  by_cases h0 : (x.o : Int) = y.o <;> by_cases h1 : (x.d : Int) = y.d <;> by_cases h2 : x.k = y.k <;> go_simp
theorem guard44 (op : BinOp) (p q : Operand) (xs ys : Array Value) (w : World) : (eqGuard op 44 p q (.agg xs) (.agg ys)).run Try.prog w = .ok () w := run_eqGuard_agg w op 44 p q xs ys (by kernel_rfl)

def SmR (w : World) (n : Nat) (i : Value) (wr : World) : Prop := ∃ k : Nat, k ≤ n ∧ i = .int .i64 (k : Int) ∧ Below w.heap.size w wr
set_option maxHeartbeats 2000000 in
theorem sameH_any (A B : Option Addr) (n cA cB : Nat) (l : List Hd) (w : World) (hA : Hin w A n l) (hB : Hin w B n l) (hn : n ≤ 1000000) :
    Calls Try.prog 16 #[.slice A n cA, .slice B n cB] w fun x w' => x = .returned (.bool true) ∧ Below w.heap.size w w' := by
  have HA := Lib.hid hA
  have HB := Lib.hid hB
  have HL := Lib.hid hA.1
  clear hA hB
  go_enter Try.func16, Try.ntmps16
  go_wp2_with fail
  go_loopw [5] (SmR w n) (fun i _ => n - (intOf i).toNat)
  case atStart => exact ⟨0, by omega, rfl, Below.refl _ _⟩
  case round =>
    obtain ⟨k, hk, rfl, hbel⟩ := hrel
    have HBE := Lib.hid hbel
    clear hbel
    by_cases hlt : k < n
    · obtain ⟨b1, o1, rfl, -, hat1⟩ := (HA.out.below HBE.out).2 (by omega)
      obtain ⟨b2, o2, rfl, -, hat2⟩ := (HB.out.below HBE.out).2 (by omega)
      have hkl : k < l.length := by have := HL.out; omega
      obtain ⟨d0, d1, d2⟩ := hat1 k hkl
      obtain ⟨f0, f1, f2⟩ := hat2 k hkl
      have hi : (k : Int) < (n : Int) := by omega
      obtain ⟨x, hx⟩ : ∃ x, l[k] = x := ⟨_, rfl⟩
      rw [hx] at d0 d1 d2 f0 f1 f2
      have hne : ∀ W, _ := fun W => run_neq44 x x W
      simp only [decide_true, Bool.not_true] at hne
      have hgd := guard44
      clear hat1 hat2 hx
      go_wp2_with fail
      go_quiet (fail)
      clear hne hgd d0 d1 d2 f0 f1 f2
      go_wp2
      go_roundw
      case rel => exact ⟨k + 1, by omega, by go_num, below_drewN HBE.out _⟩
      case measure => simp [intOf]; omega
    · have hkm : k = n := by omega
      subst hkm
      go_wp2
      go_ret
      exact ⟨rfl, HBE.out⟩
set_option maxHeartbeats 2000000 in
theorem sameI_any (A B : Option Addr) (n cA cB : Nat) (l : List Int) (w : World) (hA : Iin w A n l) (hB : Iin w B n l) (hn : n ≤ 1000000) :
    Calls Try.prog 21 #[.slice A n cA, .slice B n cB] w fun x w' => x = .returned (.bool true) ∧ Below w.heap.size w w' := by
  have HA := Lib.hid hA
  have HB := Lib.hid hB
  have HL := Lib.hid hA.1
  clear hA hB
  go_enter Try.func21, Try.ntmps21
  go_wp2_with fail
  go_loopw [5] (SmR w n) (fun i _ => n - (intOf i).toNat)
  case atStart => exact ⟨0, by omega, rfl, Below.refl _ _⟩
  case round =>
    obtain ⟨k, hk, rfl, hbel⟩ := hrel
    have HBE := Lib.hid hbel
    clear hbel
    by_cases hlt : k < n
    · obtain ⟨b1, o1, rfl, -, hat1⟩ := (HA.out.below HBE.out).2 (by omega)
      obtain ⟨b2, o2, rfl, -, hat2⟩ := (HB.out.below HBE.out).2 (by omega)
      have hkl : k < l.length := by have := HL.out; omega
      have d0 := hat1 k hkl
      have f0 := hat2 k hkl
      have hi : (k : Int) < (n : Int) := by omega
      obtain ⟨x, hx⟩ : ∃ x, l[k] = x := ⟨_, rfl⟩
      rw [hx] at d0 f0
      have ex : (x != x) = false := by simp
      clear hat1 hat2 hx
      go_wp2_with fail
      go_quiet (fail)
      clear d0 f0 ex
      go_wp2
      go_roundw
      case rel => exact ⟨k + 1, by omega, by go_num, below_drewN HBE.out _⟩
      case measure => simp [intOf]; omega
    · have hkm : k = n := by omega
      subst hkm
      go_wp2
      go_ret
      exact ⟨rfl, HBE.out⟩
/-- In the words of what comes out. -/
theorem sameH_own (B1 B2 : Nat) (v1 v2 : Value) (l : List Hd) (w : World) (h1 : OwnR w B1 v1 l) (h2 : OwnR w B2 v2 l) (hn : l.length ≤ 1000000) :
    Calls Try.prog 16 #[v1, v2] w fun x w' => x = .returned (.bool true) ∧ Below w.heap.size w w' := by
  obtain ⟨A, c, rfl, g1, -⟩ := h1.hin
  obtain ⟨B, d, rfl, g2, -⟩ := h2.hin
  exact sameH_any A B _ c d l w g1 g2 hn
theorem sameI_own (B1 B2 : Nat) (v1 v2 : Value) (l : List Int) (w : World) (h1 : OwnI w B1 v1 l) (h2 : OwnI w B2 v2 l) (hn : l.length ≤ 1000000) :
    Calls Try.prog 21 #[v1, v2] w fun x w' => x = .returned (.bool true) ∧ Below w.heap.size w w' := by
  obtain ⟨A, c, rfl, g1, -⟩ := h1.iin
  obtain ⟨B, d, rfl, g2, -⟩ := h2.iin
  exact sameI_any A B _ c d l w g1 g2 hn

/-! ### rooms -/
/-- The room of all days, and of those beside them. -/
def roomsL (F : List Int) (n : Nat) : List Int := (List.range (n + 2)).map (fun i : Nat => roomI F ((i : Int) - 1))
theorem roomsL_len (F : List Int) (n : Nat) : (roomsL F n).length = n + 2 := by simp [roomsL]
theorem roomsL_at (F : List Int) (n i : Nat) (hi : i < n) : (roomsL F n)[i + 1]'(by rw [roomsL_len]; omega) = fr F i := by
  unfold roomsL
  rw [List.getElem_map, List.getElem_range, show (((i + 1 : Nat) : Int) - 1) = (i : Int) from by omega, roomI_nat]
def RoR (w : World) (F : List Int) (n : Nat) (v5 v6 : Value) (wr : World) : Prop := ∃ j : Nat, j ≤ n + 2 ∧ v6 = .int .i64 ((j : Int) - 1) ∧ OwnI wr w.heap.size v5 ((roomsL F n).take j) ∧ Below w.heap.size w wr
def RoPost (w : World) (F : List Int) (n : Nat) (e : Ending) (w' : World) : Prop := ∃ v, e = .returned v ∧ OwnI w' w.heap.size v (roomsL F n) ∧ Below w.heap.size w w'
set_option maxHeartbeats 4000000 in
theorem rooms_any (b : SB) (q : Ss) (n : Nat) (w : World) (hA : At w b q) (hl : q.F.length ≤ 1000) (hn : n ≤ 1000) :
    Calls Try.prog 20 #[.pointer (some ⟨b.s, 0, none⟩), .int .i64 (n : Int)] w (RoPost w q.F n) := by
  have HA := Lib.hid hA
  have HL := Lib.hid hl
  clear hA hl
  go_enter Try.func20, Try.ntmps20
  go_wp2_with fail
  go_loopw [5, 6] (fun v5 v6 wr => RoR w q.F n v5 v6 wr) (fun _ i _ => n + 2 - (intOf i + 1).toNat)
  case atStart => exact ⟨0, by omega, by go_num, OwnE.nil _ _, Below.refl _ _⟩
  case round =>
    obtain ⟨j, hj, rfl, hO, hB⟩ := hrel
    have HO := Lib.hid hO
    have HB := Lib.hid hB
    have HAr := Lib.hid (HA.out.below hB)
    clear hO hB
    by_cases hlt : j < n + 2
    · have hlt2 : (j : Int) - 1 ≤ (n : Int) := by omega
      have C := Lib.hid (room_any b q ((j : Int) - 1) wr HAr.out HL.out)
      have HST : Hid ((roomsL q.F n).take (j + 1) = (roomsL q.F n).take j ++ [roomI q.F ((j : Int) - 1)]) := Lib.hid (by
        rw [List.take_succ_eq_append_getElem (by rw [roomsL_len]; exact hlt)]
        simp [roomsL])
      obtain ⟨x, hx⟩ : ∃ x, roomI q.F ((j : Int) - 1) = x := ⟨_, rfl⟩
      rw [hx] at C HST
      clear hx
      go_wp2_with fail
      with_reducible refine C.out.mono ?_
      rintro e w2 ⟨rfl, hb⟩
      have HB2 := Lib.hid (HB.out.trans (hb.mono HB.out.size))
      have HO2 := Lib.hid (HO.out.below hb)
      clear hb C
      have HO3 : Hid (OwnI (w2.alloc (.cells #[.int .i64 x] 3)) w.heap.size u5 ((roomsL q.F n).take j)) := Lib.hid (HO2.out.alloc _)
      have LN := Lib.hid (Lies.made w2 3 #[.int .i64 x])
      have HSM : Hid (((roomsL q.F n).take j).length ≤ 100000) := Lib.hid (by rw [List.length_take]; omega)
      have HBZ : Hid (w.heap.size ≤ (w2.alloc (.cells #[.int .i64 x] 3)).heap.size) := Lib.hid (by rw [size_one]; have := HB2.out.size; omega)
      go_wp2_with (first
        | ((with_reducible refine wpl_appI (some 17) _ _ _ (.tmp 12) (.tmp 16) w.heap.size u5 ((roomsL q.F n).take j) w2.heap.size x ?hs ?hx HO3.out LN.out HSM.out HBZ.out ?_); (case hs => rfl); (case hx => rfl); (intro v4 w4 ho4 hg4 hb4)))
      go_roundw
      case rel =>
        refine ⟨j + 1, by omega, by go_num, by rw [HST.out]; exact ho4, ?_⟩
        exact ((HB2.out.alloc HB2.out.size _).grown hg4 HBZ.out (fun k hk => (HO.out.block k hk).1))
      case measure => simp [intOf]; omega
    · have hlt2 : decide ((j : Int) - 1 ≤ (n : Int)) = false := by simp; omega
      have hii : (roomsL q.F n).take j = roomsL q.F n := List.take_of_length_le (by rw [roomsL_len]; omega)
      rw [hii] at HO
      go_wp2
      go_ret
      exact ⟨_, rfl, HO.out, HB.out⟩

end Go.Proofs.Ytnajombhlmbopaa
