/-
  The reference's dock in memory; the contracts of its at and Room.
-/
import Derived.Test.YtnajombhlmbopaaLawB
namespace Go.Proofs.Ytnajombhlmbopaa
open Go.Proofs Go.RowKit
set_option maxRecDepth 100000
set_option linter.unusedVariables false
set_option linter.unusedSimpArgs false

/-- The reference's dock: the room at first, bookings as they came. -/
structure Rs where
  F : List Int
  L : List Hd
/-- .. in memory, with rows of its own, not below B. -/
structure RAt (w : World) (B g : Nat) (vF vL : Value) (r : Rs) : Prop where
  c : Lies w g 57 #[vF, vL]
  f : OwnI w B vF r.F
  l : OwnR w B vL r.L
  lo : B ≤ g
theorem OwnE.ne_lies {α : Type} {enc : α → List Value} {e : TypeId} {k : Nat} {w : World} {B : Nat} {v : Value} {l : List α} (h : OwnE enc e k w B v l) {g t : Nat} {cs : Array Value} (hL : Lies w g t cs) (ht : t ≠ e) : ∀ b, v.ownBlock = some b → b ≠ g := by
  intro b hb e2
  subst e2
  rcases h.form with ⟨rfl, _⟩ | ⟨g', cap, cur, rfl, h1, h2, _⟩
  · cases hb
  · have : g' = b := by simpa [Value.ownBlock] using hb
    subst this
    unfold Lies at h2 hL
    rw [h2] at hL
    injection hL with hL
    injection hL with _ hL
    exact ht hL.symm
theorem RAt.same {w w' : World} {B g : Nat} {vF vL : Value} {r : Rs} (h : RAt w B g vF vL r) (hs : ∀ k, B ≤ k → k < w.heap.size → w'.heap[k]? = w.heap[k]?) : RAt w' B g vF vL r :=
  ⟨h.c.same (hs g h.lo h.c.lt), h.f.same fun k hk => hs k (h.f.block k hk).1 (h.f.block k hk).2, h.l.same fun k hk => hs k (h.l.block k hk).1 (h.l.block k hk).2, h.lo⟩
theorem RAt.below {w w' : World} {B g : Nat} {vF vL : Value} {r : Rs} (h : RAt w B g vF vL r) (hb : Below w.heap.size w w') : RAt w' B g vF vL r := h.same fun k _ hk => hb.block k hk
theorem RAt.frm {w w' : World} {B g : Nat} {vF vL : Value} {r : Rs} {b : SB} (h : RAt w B g vF vL r) (hf : Frm w w' b) (h1 : ∀ i, b.isMap i → i < B) : RAt w' B g vF vL r :=
  h.same fun k hB hk => hf.block k hk (fun hm => by have := h1 k hm; omega)
theorem RAt.alloc {w : World} {B g : Nat} {vF vL : Value} {r : Rs} (h : RAt w B g vF vL r) (o : Obj) : RAt (w.alloc o) B g vF vL r := h.below (below1 w o)
theorem RAt.drewN {w : World} {B g : Nat} {vF vL : Value} {r : Rs} (h : RAt w B g vF vL r) (n : Nat) : RAt (w.drewN n) B g vF vL r := h.below (below_drewN (Below.refl _ _) n)

/-- Bookings that may be summed. -/
def SumOk (L : List Hd) : Prop := L.length ≤ 1000 ∧ ∀ h ∈ L, 0 ≤ h.k ∧ h.k ≤ 1000000
theorem bkd_snoc (L : List Hd) (h : Hd) (d : Nat) : bkd (L ++ [h]) d = bkd L d + if h.d == d then h.k else 0 := by rw [bkd_append]; simp [bkd]
theorem bkd_bds {L : List Hd} (h : SumOk L) (d : Nat) (i : Nat) : 0 ≤ bkd (L.take i) d ∧ bkd (L.take i) d ≤ 1000000 * i := by
  induction i with
  | zero => rw [List.take_zero]; exact ⟨Int.le_refl _, by show (0 : Int) ≤ _; omega⟩
  | succ i ih =>
    by_cases hi : i < L.length
    · rw [List.take_succ_eq_append_getElem hi, bkd_snoc]
      have := h.2 L[i] (List.getElem_mem hi)
      split <;> omega
    · rw [List.take_of_length_le (by omega)] at ih ⊢
      omega
/-- The room of a day, as the reference reckons it. -/
def rroomI (r : Rs) (d : Int) : Int := if 0 ≤ d ∧ d < (r.F.length : Int) then fr r.F d.toNat - bkd r.L d.toNat else 0
theorem rroomI_nat (r : Rs) (d : Nat) (h : d < r.F.length) : rroomI r (d : Int) = fr r.F d - bkd r.L d := by
  unfold rroomI
  rw [if_pos ⟨by omega, by omega⟩]
  simp
def FOk (F : List Int) : Prop := F.length ≤ 1000 ∧ ∀ d, d < F.length → 0 ≤ fr F d ∧ fr F d ≤ 1000000
def RmI (r : Rs) (d : Nat) (v5 v6 : Value) : Prop := ∃ i : Nat, i ≤ r.L.length ∧ v6 = .int .i64 (i : Int) ∧ v5 = .int .i64 (fr r.F d - bkd (r.L.take i) d)
set_option maxHeartbeats 4000000 in
theorem rroom_any (B g : Nat) (vF vL : Value) (r : Rs) (d : Int) (w : World) (h : RAt w B g vF vL r) (hF : FOk r.F) (hS : SumOk r.L) : Calls Try.prog 19 #[.pointer (some ⟨g, 0, none⟩), .int .i64 d] w fun e w' => e = .returned (.int .i64 (rroomI r d)) ∧ w = w' := by
  obtain ⟨c0, c1⟩ := h.c.cells2
  obtain ⟨A, c, rfl, hA, -⟩ := h.l.hin
  obtain ⟨AF, cF, rfl, hAF, -⟩ := h.f.iin
  have HA := Lib.hid hA
  have HS := Lib.hid hS
  have hn : (r.L.length : Int) ≤ 1000 := by have := hS.1; omega
  have hnF : (r.F.length : Int) ≤ 1000 := by have := hF.1; omega
  clear hA h
  by_cases h1 : d < 0
  · have HR : Hid (rroomI r d = 0) := Lib.hid (by unfold rroomI; rw [if_neg (by omega)])
    clear hS hF hAF
    go_enter Try.func19, Try.ntmps19
    go_wp2
    go_ret
    exact ⟨by rw [HR.out]; rfl, rfl⟩
  have e1 : decide (d < 0) = false := by simpa using h1
  by_cases h2 : (r.F.length : Int) ≤ d
  · have HR : Hid (rroomI r d = 0) := Lib.hid (by unfold rroomI; rw [if_neg (by omega)])
    clear hS hF hAF
    go_enter Try.func19, Try.ntmps19
    go_wp2
    go_ret
    exact ⟨by rw [HR.out]; rfl, rfl⟩
  have e2 : decide ((r.F.length : Int) ≤ d) = false := by simpa using h2
  obtain ⟨k, rfl⟩ := Int.eq_ofNat_of_zero_le (show 0 ≤ d by omega)
  have hk : k < r.F.length := by omega
  have HR := Lib.hid (rroomI_nat r k hk)
  obtain ⟨gF, oF, rfl, -, hcF⟩ := hAF.2 (by omega)
  have x0 := hcF k hk
  rw [fr_get hk] at x0
  have hxb := hF.2 k hk
  obtain ⟨x, hx⟩ : ∃ x, fr r.F k = x := ⟨_, rfl⟩
  have HX := Lib.hid hx
  rw [hx] at x0 hxb HR
  obtain ⟨hx1, hx2⟩ := hxb
  have hk2 : (k : Int) < (r.F.length : Int) := by omega
  have hk3 : decide ((k : Int) < 0) = false := by simp
  have e3 : decide (r.F.length ≤ k) = false := by simp; omega
  clear hS hF hAF hcF hx h1 h2
  go_enter Try.func19, Try.ntmps19
  go_wp2_with fail
  go_loop [5, 6] (fun v5 v6 => RmI r k v5 v6) (fun _ i => r.L.length - (intOf i).toNat)
  case atStart => exact ⟨0, by omega, rfl, by rw [HX.out]; simp [bkd]⟩
  case round =>
    obtain ⟨i, hi, rfl, rfl⟩ := hrel
    rw [HX.out]
    obtain ⟨b1, b2⟩ := bkd_bds HS.out k i
    by_cases hlt : i < r.L.length
    · have hlt2 : (i : Int) < (r.L.length : Int) := by omega
      obtain ⟨g1, o1, rfl, -, hc⟩ := HA.out.2 (by omega)
      obtain ⟨-, y1, y2⟩ := hc i hlt
      obtain ⟨hh, hhh⟩ : ∃ z, r.L[i] = z := ⟨_, rfl⟩
      have hk0 := HS.out.2 r.L[i] (List.getElem_mem hlt)
      rw [hhh] at y1 y2 hk0
      have HST : Hid (bkd (r.L.take (i + 1)) k = bkd (r.L.take i) k + if hh.d == k then hh.k else 0) := Lib.hid (by rw [List.take_succ_eq_append_getElem hlt, bkd_snoc, hhh])
      clear hc hhh
      obtain ⟨hk01, hk02⟩ := hk0
      obtain ⟨s, hs⟩ : ∃ s, bkd (r.L.take i) k = s := ⟨_, rfl⟩
      rw [hs] at b1 b2 HST ⊢
      clear hs
      by_cases htt : hh.d = k
      · have HST2 : Hid (bkd (r.L.take (i + 1)) k = s + hh.k) := Lib.hid (by rw [HST.out, if_pos (by simp [htt])])
        have e4 : (((hh.d : Int) == (k : Int)) : Bool) = true := by simp [htt]
        have e5 : (hh.d == k) = true := by simp [htt]
        have ew : IntKind.i64.wrap (x - s - hh.k) = x - s - hh.k := IntWalk.i64_in _ (by omega)
        have HE : Hid (x - s - hh.k = x - bkd (r.L.take (i + 1)) k) := Lib.hid (by rw [HST2.out]; omega)
        clear HST htt
        go_wp2
        go_round
        case rel => exact ⟨i + 1, by omega, by go_num, by rw [HX.out, HE.out]⟩
        case measure => simp [intOf]; omega
      · have HST2 : Hid (bkd (r.L.take (i + 1)) k = s) := Lib.hid (by rw [HST.out, if_neg (by simp [htt])]; omega)
        have e4 : (((hh.d : Int) == (k : Int)) : Bool) = false := beq_eq_false_iff_ne.2 (by omega)
        have e5 : (hh.d == k) = false := by simpa using htt
        clear HST htt
        go_wp2
        go_round
        case rel => exact ⟨i + 1, by omega, by go_num, by rw [HX.out, HST2.out]⟩
        case measure => simp [intOf]; omega
    · have hlt2 : decide ((i : Int) < (r.L.length : Int)) = false := by simp; omega
      have hii : r.L.take i = r.L := List.take_of_length_le (by omega)
      rw [hii] at b1 b2 ⊢
      clear hii
      go_wp2
      go_ret
      exact ⟨by rw [HR.out]; rfl, rfl⟩

/-- The place of an order's booking. -/
def atN (L : List Hd) (o : Nat) : Int := match L.findIdx? (fun h => h.o == o) with
  | some i => (i : Int)
  | none => -1
def AtR (L : List Hd) (o : Nat) (v5 : Value) : Prop := ∃ i : Nat, i ≤ L.length ∧ v5 = .int .i64 (i : Int) ∧ ∀ (k : Nat) (hk : k < L.length), k < i → L[k].o ≠ o
theorem atN_hit {L : List Hd} {o i : Nat} (hi : i < L.length) (h : L[i].o = o) (hn : ∀ (k : Nat) (hk : k < L.length), k < i → L[k].o ≠ o) : atN L o = (i : Int) := by
  unfold atN
  have : L.findIdx? (fun h => h.o == o) = some i := by
    rw [List.findIdx?_eq_some_iff_getElem]
    exact ⟨hi, by simpa using h, fun j hj => by simpa using hn j (by omega) hj⟩
  rw [this]
theorem atN_miss {L : List Hd} {o : Nat} (hn : ∀ (k : Nat) (hk : k < L.length), L[k].o ≠ o) : atN L o = -1 := by
  unfold atN
  have : L.findIdx? (fun h => h.o == o) = none := by
    rw [List.findIdx?_eq_none_iff]
    intro h hh
    obtain ⟨k, hk, rfl⟩ := List.getElem_of_mem hh
    simpa using hn k hk
  rw [this]
set_option maxHeartbeats 2000000 in
theorem at_any (B g : Nat) (vF vL : Value) (r : Rs) (o : Nat) (w : World) (h : RAt w B g vF vL r) (hl : r.L.length ≤ 1000) : Calls Try.prog 27 #[.pointer (some ⟨g, 0, none⟩), .int .u32 (o : Int)] w fun e w' => e = .returned (.int .i64 (atN r.L o)) ∧ w = w' := by
  obtain ⟨c0, c1⟩ := h.c.cells2
  obtain ⟨A, c, rfl, hA, -⟩ := h.l.hin
  have HA := Lib.hid hA
  have hz : (r.L.length : Int) ≤ 1000 := by omega
  clear hA h
  go_enter Try.func27, Try.ntmps27
  go_wp2_with fail
  go_loop [5] (fun v5 => AtR r.L o v5) (fun i => r.L.length - (intOf i).toNat)
  case atStart => exact ⟨0, by omega, rfl, fun k hk h => by omega⟩
  case round =>
    obtain ⟨i, hi, rfl, hall⟩ := hrel
    have HALL := Lib.hid hall
    clear hall
    by_cases hlt : i < r.L.length
    · have hlt2 : (i : Int) < (r.L.length : Int) := by omega
      obtain ⟨g1, o1, rfl, -, hc⟩ := HA.out.2 (by omega)
      obtain ⟨y0, -, -⟩ := hc i hlt
      obtain ⟨hh, hhh⟩ : ∃ z, r.L[i].o = z := ⟨_, rfl⟩
      rw [hhh] at y0
      have HHH := Lib.hid hhh
      clear hc hhh
      by_cases hoo : hh = o
      · have e7 : ((hh : Int) == (o : Int)) = true := by simp; omega
        have HR : Hid (atN r.L o = (i : Int)) := Lib.hid (atN_hit hlt (by rw [HHH.out]; exact hoo) HALL.out)
        clear hoo
        go_wp2
        go_ret
        exact ⟨by rw [HR.out]; rfl, rfl⟩
      · have e7 : ((hh : Int) == (o : Int)) = false := by rw [beq_eq_false_iff_ne]; omega
        go_wp2
        go_round
        case rel =>
          refine ⟨i + 1, by omega, by go_num, fun k hk h => ?_⟩
          by_cases hki : k = i
          · subst hki; rw [HHH.out]; exact hoo
          · exact HALL.out k hk (by omega)
        case measure => simp [intOf]; omega
    · have hlt2 : decide ((i : Int) < (r.L.length : Int)) = false := by simp; omega
      have HR : Hid (atN r.L o = -1) := Lib.hid (atN_miss fun k hk => HALL.out k hk (by omega))
      go_wp2
      go_ret
      exact ⟨by rw [HR.out]; rfl, rfl⟩

end Go.Proofs.Ytnajombhlmbopaa
