/-
  The walk of EntrySizes, out of the contracts.
-/
import Derived.Test.YtccpmalefdnhdaaKnown
import Derived.Test.YtccpmalefdnhdaaIn
namespace Go.Proofs.Ytccpmalefdnhdaa
open Go.RowKit

set_option maxRecDepth 100000 in
set_option maxHeartbeats 2000000 in
theorem entrySizes_walk (e : Entry) (A1 A2 : Option Addr) (c1 c2 : Nat) (w : World) (hV : EntV w e A1 A2 c1 c2) :
    Calls Try.prog 9 #[.agg (evs e (.slice A1 e.key.length c1) (.slice A2 e.data.length c2))] w fun x w' => x = .returned (.bool true) ∧ Below w.heap.size w w' := by
  have hlen : Ent.ok e = true → (Ent.enc e).length = 13 + (Ent.tail e).length := fun _ => by rw [Ent.enc_tail]; simp only [List.length_append, Ent.be_len]
  have C1 := Lib.hid (put_any e A1 A2 c1 c2 (w.alloc (.cells (evs e (.slice A1 e.key.length c1) (.slice A2 e.data.length c2)) 26)) hV.b (hV.below ((Below.refl _ _).alloc (Nat.le_refl _) _)).txt)
  unfold PutPost at C1
  have b0 := (Below.refl w.heap.size w).alloc (Nat.le_refl _) (.cells (evs e (.slice A1 e.key.length c1) (.slice A2 e.data.length c2)) 26)
  by_cases hok : Ent.ok e = true
  · have hc : chkN e = 0 := by unfold chkN; rw [if_pos hok]
    have hp : putB e = Ent.enc e := by unfold putB; rw [if_pos hok]
    have hk := (Ent.ok_iff e).1 hok
    have hl := hlen hok
    have hkl : e.kind = 2 → e.key.length ≤ 32 ∧ e.data.length ≤ 200 := fun h => by
      have := hk.t
      unfold Ent.fitT at this
      rw [h, if_pos (by decide)] at this
      have := of_decide_eq_true this
      omega
    have htl : (Ent.tail e).length = (if e.kind = 2 then 6 + e.key.length + e.data.length else if e.kind = 3 then 7 else if e.kind = 4 then 8 else if e.kind = 5 then 5 else if e.kind = 6 then 1 else if e.kind = 7 then 8 else 0) := by
      unfold Ent.tail Ent.encO Ent.encT Ent.encS Ent.encC Ent.encM
      rcases Ent.kinds e hk with h | h | h | h | h | h | h
      all_goals
        rw [h]
        simp [Ent.hasO, Ent.hasT, Ent.hasS, Ent.codes, Ent.hasM, Ent.be_len, Ent.txt_len]
      omega
    rw [hc, hp] at C1
    obtain ⟨n1, hn1⟩ : ∃ n, e.key.length = n := ⟨_, rfl⟩
    obtain ⟨n2, hn2⟩ : ∃ n, e.data.length = n := ⟨_, rfl⟩
    rw [hn1] at C1 hkl htl b0 ⊢
    rw [hn2] at C1 hkl htl b0 ⊢
    obtain ⟨q, hq⟩ : ∃ q, (Ent.enc e).length = q := ⟨_, rfl⟩
    rw [hl, htl] at hq
    have HQ := Lib.hid hq
    have hkinds := Ent.kinds e hk
    have hql : (Ent.enc e).length = q := by rw [hl, htl]; exact hq
    have HQL := Lib.hid hql
    obtain ⟨kd, hkd⟩ : ∃ k, e.kind = k := ⟨_, rfl⟩
    have HKD := Lib.hid hkd
    rw [hkd] at hkinds hkl HQ
    clear hlen hc hp hk hl htl hn1 hn2 hV hq hql hok hkd
    go_enter Try.func9, Try.ntmps9
    go_wp2_with fail
    with_reducible refine C1.out.mono ?_
    rintro x w1 ⟨v, rfl, hO, hb1⟩
    obtain ⟨A3, c3, rfl, _, _, _, _⟩ := hO.slice
    rw [HQL.out]
    have hL := (Lies.made w 26 (evs e (.slice A1 n1 c1) (.slice A2 n2 c2))).below hb1 (by simp)
    obtain ⟨e0, e1, e2, e3, e4, e5, e6, e7, e8, e9, e10⟩ := hL.cellsE
    rw [HKD.out] at e0
    have BB := Lib.hid (b0.trans (hb1.mono b0.size))
    clear hO hb1 hL b0 e1 e2 e3 e4 e5 e6 e7 e8 C1
    rcases hkinds with h | h | h | h | h | h | h
    all_goals
      subst h
      have hq2 := HQ.out
      simp at hq2
      have hq3 : q ≤ 300 := by omega
      have hmx : n1 + n2 ≤ 232 ∨ True := .inr trivial
      subst hq2
      go_wp2_with fail
      with_reducible refine (known_any _).mono ?_
      rintro x w2 ⟨rfl, hb2⟩
      go_wp2
      go_ret
      exact ⟨rfl, BB.out.trans (hb2.mono BB.out.size)⟩
  · have hc : chkN e = 40 := by unfold chkN; rw [if_neg hok]
    have hp : putB e = [] := by unfold putB; rw [if_neg hok]
    rw [hc, hp] at C1
    generalize Value.slice A1 e.key.length c1 = K at *
    generalize Value.slice A2 e.data.length c2 = D at *
    clear hlen hc hp hV
    go_enter Try.func9, Try.ntmps9
    go_wp2_with fail
    with_reducible refine C1.out.mono ?_
    rintro x w1 ⟨v, rfl, hO, hb1⟩
    obtain ⟨A3, c3, rfl, _, _, _, _⟩ := hO.slice
    rw [show ([] : List Nat).length = 0 from rfl]
    go_wp2_with fail
    with_reducible refine (known_any _).mono ?_
    rintro x w2 ⟨rfl, hb2⟩
    go_wp2
    go_ret
    have b1 := b0.trans (hb1.mono b0.size)
    exact ⟨rfl, b1.trans (hb2.mono b1.size)⟩

end Go.Proofs.Ytccpmalefdnhdaa
