/-
  The contract of follows: for all entries.
-/
import Derived.Test.YtccpmalefdnhdaaCheck
namespace Go.Proofs.Ytccpmalefdnhdaa
open Go.RowKit

set_option maxRecDepth 100000 in
set_option maxHeartbeats 1000000 in
theorem follows_any (a b : Entry) (K1 D1 K2 D2 : Value) (w : World) (ha : Ent.Bnd a) (hb : Ent.Bnd b) (hb0 : b.lsn ≠ 0) :
    Calls Try.prog 47 #[.agg (evs a K1 D1), .agg (evs b K2 D2)] w fun x w' => x = .returned (.bool (decide (Ent.nxt a b))) ∧ Below w.heap.size w w' := by
  have b2 := fun o p => below2 w o p
  obtain ⟨x, hx⟩ : ∃ x, a.lsn = x := ⟨_, rfl⟩
  obtain ⟨y, hy⟩ : ∃ y, b.lsn = y := ⟨_, rfl⟩
  obtain ⟨u, hu⟩ : ∃ u, a.epoch = u := ⟨_, rfl⟩
  obtain ⟨v, hv⟩ : ∃ v, b.epoch = v := ⟨_, rfl⟩
  obtain ⟨k, hk⟩ : ∃ k, b.kind = k := ⟨_, rfl⟩
  have hlt := ha.lsn
  have hlt2 := hb.lsn
  rw [hy] at hlt2
  have hn : Ent.nxt a b ↔ (y = x + 1 ∧ (u = v ∨ (k = 1 ∧ u < v))) := by unfold Ent.nxt; rw [hx, hy, hu, hv, hk]
  rw [hx] at hlt
  rw [hy] at hb0
  have HN := Lib.hid hn
  clear hn
  unfold evs
  rw [hx, hy, hu, hv, hk]
  clear hx hy hu hv hk ha hb
  by_cases h1 : y = x + 1
  · have hs : IntKind.u64.wrap ((x : Int) + 1) = ((x + 1 : Nat) : Int) := by rw [IntKind.wrap_u64]; omega
    subst h1
    by_cases h2 : v = u
    · subst h2
      have hd : decide (Ent.nxt a b) = true := by rw [decide_eq_true_iff, HN.out]; exact ⟨rfl, .inl rfl⟩
      rw [hd]
      go_enter Try.func47, Try.ntmps47
      go_wp2
      go_ret
      exact ⟨rfl, b2 _ _⟩
    · have h2b : (((v : Nat) : Int) == ((u : Nat) : Int)) = false := by rw [beq_eq_false_iff_ne]; omega
      by_cases h3 : k = 1
      · subst h3
        have hd : decide (Ent.nxt a b) = decide (u < v) := by rw [decide_eq_decide, HN.out]; constructor; rintro ⟨_, h | h⟩; omega; exact h.2; intro h; exact ⟨rfl, .inr ⟨rfl, h⟩⟩
        rw [hd]
        go_enter Try.func47, Try.ntmps47
        go_wp2
        go_ret
        exact ⟨ret_bool (by first | rfl | (rw [Bool.eq_iff_iff]; simp)), b2 _ _⟩
      · have h3b : (k == 1) = false := by rw [beq_eq_false_iff_ne]; omega
        have hd : decide (Ent.nxt a b) = false := by rw [decide_eq_false_iff_not, HN.out]; rintro ⟨_, h | h⟩; omega; exact h3 h.1
        rw [hd]
        go_enter Try.func47, Try.ntmps47
        go_wp2
        go_ret
        exact ⟨rfl, b2 _ _⟩
  · have hd : decide (Ent.nxt a b) = false := by rw [decide_eq_false_iff_not, HN.out]; exact fun h => h1 h.1
    rw [hd]
    have hs : (((y : Nat) : Int) != IntKind.u64.wrap ((x : Int) + 1)) = true := by rw [bne_iff_ne, IntKind.wrap_u64]; omega
    by_cases hm : x = 18446744073709551615
    · have hs2 : (((y : Nat) : Int) == 0) = false := by rw [beq_eq_false_iff_ne]; omega
      have hs3 : (((y : Nat) : Int) != 0) = true := by rw [bne_iff_ne]; omega
      have hw : IntKind.u64.wrap 18446744073709551616 = 0 := by rw [IntKind.wrap_u64]; rfl
      subst hm
      go_enter Try.func47, Try.ntmps47
      go_wp2
      go_ret
      exact ⟨rfl, b2 _ _⟩
    · have hs2 : (((y : Nat) : Int) == (x : Int) + 1) = false := by rw [beq_eq_false_iff_ne]; omega
      go_enter Try.func47, Try.ntmps47
      go_wp2
      go_ret
      exact ⟨rfl, b2 _ _⟩


end Go.Proofs.Ytccpmalefdnhdaa
