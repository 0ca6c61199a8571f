/-
  The reference's purse in memory; the contracts of its sum, at and Taken.
-/
import Derived.Test.YtlgdjmmhdfpfeaaLawB
namespace Go.Proofs.Ytlgdjmmhdfpfeaa
open Go.Proofs Go.RowKit
set_option maxRecDepth 100000
set_option linter.unusedVariables false
set_option linter.unusedSimpArgs false

/-- The reference's purse: accounts at first, payments as they came. -/
structure Rs where
  F : List Kd
  L : List Hd
/-- .. in memory, with rows of its own, not below B. -/
structure RAt (w : World) (B g : Nat) (vF vL : Value) (r : Rs) : Prop where
  c : Lies w g 63 #[vF, vL]
  f : OwnG w B vF r.F
  l : OwnR w B vL r.L
  lo : B ≤ g
theorem OwnE.ne_lies {α : Type} {enc : α → List Value} {e : TypeId} {k : Nat} {w : World} {B : Nat} {v : Value} {l : List α} (h : OwnE enc e k w B v l) {g t : Nat} {cs : Array Value} (hL : Lies w g t cs) (ht : t ≠ e) : ∀ b, v.ownBlock = some b → b ≠ g := by
  intro b hb e2
  subst e2
  rcases h.form with ⟨rfl, _⟩ | ⟨g', cap, cur, rfl, h1, h2, _⟩
  · cases hb
  · have : g' = b := by simpa [Value.ownBlock] using hb
    subst this
    unfold Lies at h2 hL
    rw [h2] at hL
    injection hL with hL
    injection hL with _ hL
    exact ht hL.symm
theorem RAt.same {w w' : World} {B g : Nat} {vF vL : Value} {r : Rs} (h : RAt w B g vF vL r) (hs : ∀ k, B ≤ k → k < w.heap.size → w'.heap[k]? = w.heap[k]?) : RAt w' B g vF vL r :=
  ⟨h.c.same (hs g h.lo h.c.lt), h.f.same fun k hk => hs k (h.f.block k hk).1 (h.f.block k hk).2, h.l.same fun k hk => hs k (h.l.block k hk).1 (h.l.block k hk).2, h.lo⟩
theorem RAt.below {w w' : World} {B g : Nat} {vF vL : Value} {r : Rs} (h : RAt w B g vF vL r) (hb : Below w.heap.size w w') : RAt w' B g vF vL r := h.same fun k _ hk => hb.block k hk
theorem RAt.frm {w w' : World} {B g : Nat} {vF vL : Value} {r : Rs} {b : SB} (h : RAt w B g vF vL r) (hf : Frm w w' b) (h1 : ∀ i, b.isMap i → i < B) : RAt w' B g vF vL r :=
  h.same fun k hB hk => hf.block k hk (fun hm => by have := h1 k hm; omega)
theorem RAt.alloc {w : World} {B g : Nat} {vF vL : Value} {r : Rs} (h : RAt w B g vF vL r) (o : Obj) : RAt (w.alloc o) B g vF vL r := h.below (below1 w o)
theorem RAt.drewN {w : World} {B g : Nat} {vF vL : Value} {r : Rs} (h : RAt w B g vF vL r) (n : Nat) : RAt (w.drewN n) B g vF vL r := h.below (below_drewN (Below.refl _ _) n)

/-- Payments that may be summed. -/
def SumOk (L : List Hd) : Prop := L.length ≤ 1000 ∧ ∀ h ∈ L, 0 ≤ h.k ∧ h.k ≤ 1000000000
theorem held_bd {L : List Hd} (h : SumOk L) (x : List UInt8) (t : Nat) (i : Nat) : 0 ≤ held (L.take i) x t ∧ held (L.take i) x t ≤ 1000000000 * i := by
  induction i with
  | zero => rw [List.take_zero]; exact ⟨Int.le_refl _, by show (0 : Int) ≤ _; omega⟩
  | succ i ih =>
    by_cases hi : i < L.length
    · rw [List.take_succ_eq_append_getElem hi, held_snoc]
      have := h.2 L[i] (List.getElem_mem hi)
      split <;> omega
    · rw [List.take_of_length_le (by omega)] at ih ⊢
      omega
theorem held_full {L : List Hd} (h : SumOk L) (x : List UInt8) (t : Nat) : 0 ≤ held L x t ∧ held L x t ≤ 1000000000000 := by
  have := held_bd h x t L.length
  rw [List.take_length] at this
  have := h.1
  omega
theorem tot_snoc (t : Nat) (h : Hd) : ∀ L : List Hd, tot (L ++ [h]) t = tot L t + if h.t == t then h.k else 0
  | [] => by simp [tot]
  | y :: r => by rw [List.cons_append]; simp only [tot, tot_snoc t h r]; omega
theorem tot_bds {L : List Hd} (h : SumOk L) (t : Nat) (i : Nat) : 0 ≤ tot (L.take i) t ∧ tot (L.take i) t ≤ 1000000000 * i := by
  induction i with
  | zero => rw [List.take_zero]; exact ⟨Int.le_refl _, by show (0 : Int) ≤ _; omega⟩
  | succ i ih =>
    by_cases hi : i < L.length
    · rw [List.take_succ_eq_append_getElem hi, tot_snoc]
      have := h.2 L[i] (List.getElem_mem hi)
      split <;> omega
    · rw [List.take_of_length_le (by omega)] at ih ⊢
      omega
def SmI (x : List UInt8) (t : Nat) (L : List Hd) (v7 v8 : Value) : Prop := ∃ i : Nat, i ≤ L.length ∧ v8 = .int .i64 (i : Int) ∧ v7 = .int .i64 (held (L.take i) x t)
set_option maxHeartbeats 2000000 in
theorem sum_any (B g : Nat) (vF vL : Value) (r : Rs) (x : List UInt8) (t : Nat) (tv : Int) (w : World) (ht : tv = (t : Int)) (h : RAt w B g vF vL r) (hS : SumOk r.L) : Calls Try.prog 38 #[.pointer (some ⟨g, 0, none⟩), encStr x, .int .i64 tv] w fun e w' => e = .returned (.int .i64 (held r.L x t)) ∧ w = w' := by
  obtain ⟨c0, c1⟩ := h.c.cells2
  obtain ⟨A, c, rfl, hA, -⟩ := h.l.hin
  have HA := Lib.hid hA
  have HS := Lib.hid hS
  have HT := Lib.hid ht
  have hn : (r.L.length : Int) ≤ 1000 := by have := hS.1; omega
  clear hA hS h ht
  go_enter Try.func38, Try.ntmps38
  go_wp2_with fail
  go_loop [7, 8] (fun v7 v8 => SmI x t r.L v7 v8) (fun _ i => r.L.length - (intOf i).toNat)
  case atStart => exact ⟨0, by omega, rfl, by simp [held]⟩
  case round =>
    obtain ⟨i, hi, rfl, rfl⟩ := hrel
    obtain ⟨b1, b2⟩ := held_bd HS.out x t i
    by_cases hlt : i < r.L.length
    · have hlt2 : (i : Int) < (r.L.length : Int) := by omega
      obtain ⟨g1, o1, rfl, -, hc⟩ := HA.out.2 (by omega)
      obtain ⟨-, y1, y2, y3⟩ := hc i hlt
      obtain ⟨hh, hhh⟩ : ∃ z, r.L[i] = z := ⟨_, rfl⟩
      have hk := HS.out.2 r.L[i] (List.getElem_mem hlt)
      rw [hhh] at y1 y2 y3 hk
      have HST : Hid (held (r.L.take (i + 1)) x t = held (r.L.take i) x t + if hh.n == x && hh.t == t then hh.k else 0) := Lib.hid (by rw [List.take_succ_eq_append_getElem hlt, held_snoc, hhh])
      clear hc hhh
      obtain ⟨hk1, hk2⟩ := hk
      by_cases hnn : hh.n = x
      · by_cases htt : hh.t = t
        · have HST2 : Hid (held (r.L.take (i + 1)) x t = held (r.L.take i) x t + hh.k) := Lib.hid (by rw [HST.out, if_pos (by simp [hnn, htt])])
          have e3 : (((hh.t : Int) == tv) : Bool) = true := by rw [HT.out, htt]; simp
          rw [hnn] at y1
          clear HST hnn htt
          generalize held (r.L.take i) x t = hv at *
          go_wp2
          go_round
          case rel => exact ⟨i + 1, by omega, by go_num, by rw [HST2.out]⟩
          case measure => simp [intOf]; omega
        · have HST2 : Hid (held (r.L.take (i + 1)) x t = held (r.L.take i) x t) := Lib.hid (by rw [HST.out, if_neg (by simp [htt])]; omega)
          have e3 : (((hh.t : Int) == tv) : Bool) = false := beq_eq_false_iff_ne.2 (by have := HT.out; omega)
          rw [hnn] at y1
          clear HST hnn htt
          go_wp2
          go_round
          case rel => exact ⟨i + 1, by omega, by go_num, by rw [HST2.out]⟩
          case measure => simp [intOf]; omega
      · have HST2 : Hid (held (r.L.take (i + 1)) x t = held (r.L.take i) x t) := Lib.hid (by rw [HST.out, if_neg (by simp [hnn])]; omega)
        have e6 : (hh.n == x) = false := by simpa using hnn
        have e7 : decide (hh.n = x) = false := by simpa using hnn
        clear HST
        go_wp2
        go_round
        case rel => exact ⟨i + 1, by omega, by go_num, by rw [HST2.out]⟩
        case measure => simp [intOf]; omega
    · have hlt2 : decide ((i : Int) < (r.L.length : Int)) = false := by simp; omega
      have hii : r.L.take i = r.L := List.take_of_length_le (by omega)
      rw [hii] at b1 b2 ⊢
      clear hii
      go_wp2
      go_ret
      exact ⟨rfl, rfl⟩
def TkI (L : List Hd) (v3 v4 : Value) : Prop := ∃ i : Nat, i ≤ L.length ∧ v4 = .int .i64 (i : Int) ∧ v3 = .int .i64 (tot (L.take i) 2)
set_option maxHeartbeats 2000000 in
theorem rtaken_any (B g : Nat) (vF vL : Value) (r : Rs) (w : World) (h : RAt w B g vF vL r) (hS : SumOk r.L) : Calls Try.prog 23 #[.pointer (some ⟨g, 0, none⟩)] w fun e w' => e = .returned (.int .i64 (tot r.L 2)) ∧ w = w' := by
  obtain ⟨c0, c1⟩ := h.c.cells2
  obtain ⟨A, c, rfl, hA, -⟩ := h.l.hin
  have HA := Lib.hid hA
  have HS := Lib.hid hS
  have hn : (r.L.length : Int) ≤ 1000 := by have := hS.1; omega
  clear hA hS h
  go_enter Try.func23, Try.ntmps23
  go_wp2_with fail
  go_loop [3, 4] (fun v3 v4 => TkI r.L v3 v4) (fun _ i => r.L.length - (intOf i).toNat)
  case atStart => exact ⟨0, by omega, rfl, by simp [tot]⟩
  case round =>
    obtain ⟨i, hi, rfl, rfl⟩ := hrel
    obtain ⟨b1, b2⟩ := tot_bds HS.out 2 i
    by_cases hlt : i < r.L.length
    · have hlt2 : (i : Int) < (r.L.length : Int) := by omega
      obtain ⟨g1, o1, rfl, -, hc⟩ := HA.out.2 (by omega)
      obtain ⟨-, -, y2, y3⟩ := hc i hlt
      obtain ⟨hh, hhh⟩ : ∃ z, r.L[i] = z := ⟨_, rfl⟩
      have hk := HS.out.2 r.L[i] (List.getElem_mem hlt)
      rw [hhh] at y2 y3 hk
      have HST : Hid (tot (r.L.take (i + 1)) 2 = tot (r.L.take i) 2 + if hh.t == 2 then hh.k else 0) := Lib.hid (by rw [List.take_succ_eq_append_getElem hlt, tot_snoc, hhh])
      clear hc hhh
      obtain ⟨hk1, hk2⟩ := hk
      by_cases htt : hh.t = 2
      · have HST2 : Hid (tot (r.L.take (i + 1)) 2 = tot (r.L.take i) 2 + hh.k) := Lib.hid (by rw [HST.out, if_pos (by simp [htt])])
        rw [htt] at y3
        clear HST htt
        generalize tot (r.L.take i) 2 = hv at *
        go_wp2
        go_round
        case rel => exact ⟨i + 1, by omega, by go_num, by rw [HST2.out]⟩
        case measure => simp [intOf]; omega
      · have HST2 : Hid (tot (r.L.take (i + 1)) 2 = tot (r.L.take i) 2) := Lib.hid (by rw [HST.out, if_neg (by simp [htt])]; omega)
        have e3 : (((hh.t : Int) == 2) : Bool) = false := beq_eq_false_iff_ne.2 (by omega)
        clear HST htt
        go_wp2
        go_round
        case rel => exact ⟨i + 1, by omega, by go_num, by rw [HST2.out]⟩
        case measure => simp [intOf]; omega
    · have hlt2 : decide ((i : Int) < (r.L.length : Int)) = false := by simp; omega
      have hii : r.L.take i = r.L := List.take_of_length_le (by omega)
      rw [hii] at b1 b2 ⊢
      clear hii
      go_wp2
      go_ret
      exact ⟨rfl, rfl⟩

/-- The place of an order's payment. -/
def atN (L : List Hd) (o : Nat) : Int := match L.findIdx? (fun h => h.o == o) with
  | some i => (i : Int)
  | none => -1
def AtR (L : List Hd) (o : Nat) (v5 : Value) : Prop := ∃ i : Nat, i ≤ L.length ∧ v5 = .int .i64 (i : Int) ∧ ∀ (k : Nat) (hk : k < L.length), k < i → L[k].o ≠ o
theorem atN_hit {L : List Hd} {o i : Nat} (hi : i < L.length) (h : L[i].o = o) (hn : ∀ (k : Nat) (hk : k < L.length), k < i → L[k].o ≠ o) : atN L o = (i : Int) := by
  unfold atN
  have : L.findIdx? (fun h => h.o == o) = some i := by
    rw [List.findIdx?_eq_some_iff_getElem]
    exact ⟨hi, by simpa using h, fun j hj => by simpa using hn j (by omega) hj⟩
  rw [this]
theorem atN_miss {L : List Hd} {o : Nat} (hn : ∀ (k : Nat) (hk : k < L.length), L[k].o ≠ o) : atN L o = -1 := by
  unfold atN
  have : L.findIdx? (fun h => h.o == o) = none := by
    rw [List.findIdx?_eq_none_iff]
    intro h hh
    obtain ⟨k, hk, rfl⟩ := List.getElem_of_mem hh
    simpa using hn k hk
  rw [this]
set_option maxHeartbeats 2000000 in
theorem at_any (B g : Nat) (vF vL : Value) (r : Rs) (o : Nat) (w : World) (h : RAt w B g vF vL r) (hl : r.L.length ≤ 1000) : Calls Try.prog 31 #[.pointer (some ⟨g, 0, none⟩), .int .u32 (o : Int)] w fun e w' => e = .returned (.int .i64 (atN r.L o)) ∧ w = w' := by
  obtain ⟨c0, c1⟩ := h.c.cells2
  obtain ⟨A, c, rfl, hA, -⟩ := h.l.hin
  have HA := Lib.hid hA
  have hz : (r.L.length : Int) ≤ 1000 := by omega
  clear hA h
  go_enter Try.func31, Try.ntmps31
  go_wp2_with fail
  go_loop [5] (fun v5 => AtR r.L o v5) (fun i => r.L.length - (intOf i).toNat)
  case atStart => exact ⟨0, by omega, rfl, fun k hk h => by omega⟩
  case round =>
    obtain ⟨i, hi, rfl, hall⟩ := hrel
    have HALL := Lib.hid hall
    clear hall
    by_cases hlt : i < r.L.length
    · have hlt2 : (i : Int) < (r.L.length : Int) := by omega
      obtain ⟨g1, o1, rfl, -, hc⟩ := HA.out.2 (by omega)
      obtain ⟨y0, -, -⟩ := hc i hlt
      obtain ⟨hh, hhh⟩ : ∃ z, r.L[i].o = z := ⟨_, rfl⟩
      rw [hhh] at y0
      have HHH := Lib.hid hhh
      clear hc hhh
      by_cases hoo : hh = o
      · have e7 : ((hh : Int) == (o : Int)) = true := by simp; omega
        have HR : Hid (atN r.L o = (i : Int)) := Lib.hid (atN_hit hlt (by rw [HHH.out]; exact hoo) HALL.out)
        clear hoo
        go_wp2
        go_ret
        exact ⟨by rw [HR.out]; rfl, rfl⟩
      · have e7 : ((hh : Int) == (o : Int)) = false := by rw [beq_eq_false_iff_ne]; omega
        go_wp2
        go_round
        case rel =>
          refine ⟨i + 1, by omega, by go_num, fun k hk h => ?_⟩
          by_cases hki : k = i
          · subst hki; rw [HHH.out]; exact hoo
          · exact HALL.out k hk (by omega)
        case measure => simp [intOf]; omega
    · have hlt2 : decide ((i : Int) < (r.L.length : Int)) = false := by simp; omega
      have HR : Hid (atN r.L o = -1) := Lib.hid (atN_miss fun k hk => HALL.out k hk (by omega))
      go_wp2
      go_ret
      exact ⟨by rw [HR.out]; rfl, rfl⟩

end Go.Proofs.Ytlgdjmmhdfpfeaa
