/-
  The reference's stock in memory; the contracts of its sum, at and Gone.
-/
import Derived.Test.YtimoobhnhldgbaaApartP
import Derived.Test.YtimoobhnhldgbaaAppE
namespace Go.Proofs.Ytimoobhnhldgbaa
open Go.Proofs Go.RowKit
set_option maxRecDepth 100000
set_option linter.unusedVariables false
set_option linter.unusedSimpArgs false

/-- The reference's stock: goods at first, holds as they came, and what is gone. -/
structure Rs where
  F : List Gd
  L : List Hd
  A : List Hd
/-- .. in memory, with rows of its own, not below B. -/
structure RAt (w : World) (B g : Nat) (vF vL vA : Value) (r : Rs) : Prop where
  c : Lies w g 65 #[vF, vL, vA]
  f : OwnG w B vF r.F
  l : OwnR w B vL r.L
  a : OwnR w B vA r.A
  lo : B ≤ g
  ne : ∀ k, vL.ownBlock = some k → vA.ownBlock ≠ some k
theorem OwnE.ne_lies {α : Type} {enc : α → List Value} {e : TypeId} {k : Nat} {w : World} {B : Nat} {v : Value} {l : List α} (h : OwnE enc e k w B v l) {g t : Nat} {cs : Array Value} (hL : Lies w g t cs) (ht : t ≠ e) : ∀ b, v.ownBlock = some b → b ≠ g := by
  intro b hb e2
  subst e2
  rcases h.form with ⟨rfl, _⟩ | ⟨g', cap, cur, rfl, h1, h2, _⟩
  · cases hb
  · have : g' = b := by simpa [Value.ownBlock] using hb
    subst this
    unfold Lies at h2 hL
    rw [h2] at hL
    injection hL with hL
    injection hL with _ hL
    exact ht hL.symm
theorem RAt.same {w w' : World} {B g : Nat} {vF vL vA : Value} {r : Rs} (h : RAt w B g vF vL vA r) (hs : ∀ k, B ≤ k → k < w.heap.size → w'.heap[k]? = w.heap[k]?) : RAt w' B g vF vL vA r :=
  ⟨h.c.same (hs g h.lo h.c.lt), h.f.same fun k hk => hs k (h.f.block k hk).1 (h.f.block k hk).2, h.l.same fun k hk => hs k (h.l.block k hk).1 (h.l.block k hk).2, h.a.same fun k hk => hs k (h.a.block k hk).1 (h.a.block k hk).2, h.lo, h.ne⟩
theorem RAt.below {w w' : World} {B g : Nat} {vF vL vA : Value} {r : Rs} (h : RAt w B g vF vL vA r) (hb : Below w.heap.size w w') : RAt w' B g vF vL vA r := h.same fun k _ hk => hb.block k hk
theorem RAt.frm {w w' : World} {B g : Nat} {vF vL vA : Value} {r : Rs} {b : SB} (h : RAt w B g vF vL vA r) (hf : Frm w w' b) (h1 : b.k < B) (h2 : b.h < B) : RAt w' B g vF vL vA r :=
  h.same fun k hB hk => hf.block k hk (by omega) (by omega)
theorem RAt.alloc {w : World} {B g : Nat} {vF vL vA : Value} {r : Rs} (h : RAt w B g vF vL vA r) (o : Obj) : RAt (w.alloc o) B g vF vL vA r := h.below (below1 w o)
theorem RAt.drewN {w : World} {B g : Nat} {vF vL vA : Value} {r : Rs} (h : RAt w B g vF vL vA r) (n : Nat) : RAt (w.drewN n) B g vF vL vA r := h.below (below_drewN (Below.refl _ _) n)

/-- Holds that may be summed. -/
def SumOk (L : List Hd) : Prop := L.length ≤ 1000 ∧ ∀ h ∈ L, 0 ≤ h.k ∧ h.k ≤ 1000000
theorem held_bd {L : List Hd} (h : SumOk L) (x : List UInt8) (i : Nat) : 0 ≤ held (L.take i) x ∧ held (L.take i) x ≤ 1000000 * i := by
  induction i with
  | zero => rw [List.take_zero]; exact ⟨Int.le_refl _, by show (0 : Int) ≤ _; omega⟩
  | succ i ih =>
    by_cases hi : i < L.length
    · rw [List.take_succ_eq_append_getElem hi, held_snoc]
      have := h.2 L[i] (List.getElem_mem hi)
      split <;> omega
    · rw [List.take_of_length_le (by omega)] at ih ⊢
      omega
def SmI (x : List UInt8) (L : List Hd) (v5 v6 : Value) : Prop := ∃ i : Nat, i ≤ L.length ∧ v6 = .int .i64 (i : Int) ∧ v5 = .int .i64 (held (L.take i) x)
set_option maxHeartbeats 2000000 in
theorem sum_any (A : Option Addr) (n c : Nat) (L : List Hd) (x : List UInt8) (w : World) (hA : Hin w A n L) (hS : SumOk L) : Calls Try.prog 36 #[.slice A n c, encStr x] w fun e w' => e = .returned (.int .i64 (held L x)) ∧ w = w' := by
  have HA := Lib.hid hA
  have HN := Lib.hid hA.1
  have HS := Lib.hid hS
  have hn : (n : Int) ≤ 1000 := by have := hA.1; have := hS.1; omega
  clear hA hS
  go_enter Try.func36, Try.ntmps36
  go_wp2_with fail
  go_loop [5, 6] (fun v5 v6 => SmI x L v5 v6) (fun _ i => n - (intOf i).toNat)
  case atStart => exact ⟨0, by omega, rfl, by simp [held]⟩
  case round =>
    obtain ⟨i, hi, rfl, rfl⟩ := hrel
    have hin : i ≤ n := by have := HN.out; omega
    obtain ⟨b1, b2⟩ := held_bd HS.out x i
    by_cases hlt : i < n
    · have hlt2 : (i : Int) < (n : Int) := by omega
      have hil : i < L.length := by have := HN.out; omega
      obtain ⟨g, o, rfl, -, hc⟩ := HA.out.2 (by omega)
      obtain ⟨-, y1, y2⟩ := hc i hil
      obtain ⟨hh, hhh⟩ : ∃ z, L[i] = z := ⟨_, rfl⟩
      have hk := HS.out.2 L[i] (List.getElem_mem hil)
      rw [hhh] at y1 y2 hk
      have HST : Hid (held (L.take (i + 1)) x = held (L.take i) x + if hh.n == x then hh.k else 0) := Lib.hid (by rw [List.take_succ_eq_append_getElem hil, held_snoc, hhh])
      clear hc hhh
      obtain ⟨hk1, hk2⟩ := hk
      by_cases hnn : hh.n = x
      · have hst2 : held (L.take (i + 1)) x = held (L.take i) x + hh.k := by rw [HST.out, if_pos (by simpa using hnn)]
        have HST2 := Lib.hid hst2
        rw [hnn] at y1
        clear hst2 HST hnn
        generalize held (L.take i) x = hv at *
        go_wp2
        go_round
        case rel => exact ⟨i + 1, by omega, by go_num, by rw [HST2.out]⟩
        case measure => simp [intOf]; omega
      · have hst2 : held (L.take (i + 1)) x = held (L.take i) x := by rw [HST.out, if_neg (by simpa using hnn)]; omega
        have HST2 := Lib.hid hst2
        have e6 : (hh.n == x) = false := by simpa using hnn
        have e7 : decide (hh.n = x) = false := by simpa using hnn
        clear hst2 HST
        go_wp2
        go_round
        case rel => exact ⟨i + 1, by omega, by go_num, by rw [HST2.out]⟩
        case measure => simp [intOf]; omega
    · have hlt2 : decide ((i : Int) < (n : Int)) = false := by simp; omega
      have hii : L.take i = L := List.take_of_length_le (by have := HN.out; omega)
      rw [hii] at b1 b2 ⊢
      clear hii
      go_wp2
      go_ret
      exact ⟨rfl, rfl⟩

/-- The place of an order's hold. -/
def atN (L : List Hd) (o : Nat) : Int := match L.findIdx? (fun h => h.o == o) with
  | some i => (i : Int)
  | none => -1
def AtR (L : List Hd) (o : Nat) (v5 : Value) : Prop := ∃ i : Nat, i ≤ L.length ∧ v5 = .int .i64 (i : Int) ∧ ∀ (k : Nat) (hk : k < L.length), k < i → L[k].o ≠ o
theorem atN_hit {L : List Hd} {o i : Nat} (hi : i < L.length) (h : L[i].o = o) (hn : ∀ (k : Nat) (hk : k < L.length), k < i → L[k].o ≠ o) : atN L o = (i : Int) := by
  unfold atN
  have : L.findIdx? (fun h => h.o == o) = some i := by
    rw [List.findIdx?_eq_some_iff_getElem]
    exact ⟨hi, by simpa using h, fun j hj => by simpa using hn j (by omega) hj⟩
  rw [this]
theorem atN_miss {L : List Hd} {o : Nat} (hn : ∀ (k : Nat) (hk : k < L.length), L[k].o ≠ o) : atN L o = -1 := by
  unfold atN
  have : L.findIdx? (fun h => h.o == o) = none := by
    rw [List.findIdx?_eq_none_iff]
    intro h hh
    obtain ⟨k, hk, rfl⟩ := List.getElem_of_mem hh
    simpa using hn k hk
  rw [this]
set_option maxHeartbeats 2000000 in
theorem at_any (B g : Nat) (vF vL vA : Value) (r : Rs) (o : Nat) (w : World) (h : RAt w B g vF vL vA r) (hl : r.L.length ≤ 1000) : Calls Try.prog 29 #[.pointer (some ⟨g, 0, none⟩), .int .u32 (o : Int)] w fun e w' => e = .returned (.int .i64 (atN r.L o)) ∧ w = w' := by
  obtain ⟨c0, c1, c2⟩ := h.c.cells3
  obtain ⟨A, c, rfl, hA, -⟩ := h.l.hin
  have HA := Lib.hid hA
  have hz : (r.L.length : Int) ≤ 1000 := by omega
  clear hA h
  go_enter Try.func29, Try.ntmps29
  go_wp2_with fail
  go_loop [5] (fun v5 => AtR r.L o v5) (fun i => r.L.length - (intOf i).toNat)
  case atStart => exact ⟨0, by omega, rfl, fun k hk h => by omega⟩
  case round =>
    obtain ⟨i, hi, rfl, hall⟩ := hrel
    have HALL := Lib.hid hall
    clear hall
    by_cases hlt : i < r.L.length
    · have hlt2 : (i : Int) < (r.L.length : Int) := by omega
      obtain ⟨g1, o1, rfl, -, hc⟩ := HA.out.2 (by omega)
      obtain ⟨y0, -, -⟩ := hc i hlt
      obtain ⟨hh, hhh⟩ : ∃ z, r.L[i].o = z := ⟨_, rfl⟩
      rw [hhh] at y0
      have HHH := Lib.hid hhh
      clear hc hhh
      by_cases hoo : hh = o
      · have e7 : ((hh : Int) == (o : Int)) = true := by simp; omega
        have HR : Hid (atN r.L o = (i : Int)) := Lib.hid (atN_hit hlt (by rw [HHH.out]; exact hoo) HALL.out)
        clear hoo
        go_wp2
        go_ret
        exact ⟨by rw [HR.out]; rfl, rfl⟩
      · have e7 : ((hh : Int) == (o : Int)) = false := by rw [beq_eq_false_iff_ne]; omega
        go_wp2
        go_round
        case rel =>
          refine ⟨i + 1, by omega, by go_num, fun k hk h => ?_⟩
          by_cases hki : k = i
          · subst hki; rw [HHH.out]; exact hoo
          · exact HALL.out k hk (by omega)
        case measure => simp [intOf]; omega
    · have hlt2 : decide ((i : Int) < (r.L.length : Int)) = false := by simp; omega
      have HR : Hid (atN r.L o = -1) := Lib.hid (atN_miss fun k hk => HALL.out k hk (by omega))
      go_wp2
      go_ret
      exact ⟨by rw [HR.out]; rfl, rfl⟩
theorem rgone_any (B g : Nat) (vF vL vA : Value) (r : Rs) (x : List UInt8) (w : World) (h : RAt w B g vF vL vA r) (hS : SumOk r.A) : Calls Try.prog 23 #[.pointer (some ⟨g, 0, none⟩), encStr x] w fun e w' => e = .returned (.int .i64 (held r.A x)) ∧ w = w' := by
  obtain ⟨c0, c1, c2⟩ := h.c.cells3
  obtain ⟨A, c, rfl, hA, -⟩ := h.a.hin
  have C := Lib.hid (sum_any A _ c r.A x w hA hS)
  clear hA h hS
  go_enter Try.func23, Try.ntmps23
  go_wp2_with fail
  with_reducible refine C.out.mono ?_
  rintro e w' ⟨rfl, rfl⟩
  go_wp2
  go_ret
  exact ⟨rfl, rfl⟩

end Go.Proofs.Ytimoobhnhldgbaa
