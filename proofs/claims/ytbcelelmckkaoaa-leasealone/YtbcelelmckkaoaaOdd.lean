/-
  One of two sites out of any number; what a renewal and a turn that are good say.
-/
import Derived.Test.YtbcelelmckkaoaaRet
import Derived.Laws.Bits64
namespace Go.Proofs.Ytbcelelmckkaoaa
open Go.RowKit

theorem one_of_two (who : Int) : wrap64 (1 + wrap64 ((IntKind.u64.wrap who).tmod 2)) = 1 ∨ wrap64 (1 + wrap64 ((IntKind.u64.wrap who).tmod 2)) = 2 := by
  rw [IntKind.wrap_u64, Int.tmod_eq_emod_of_nonneg (by omega)]
  unfold wrap64
  omega

theorem hd_zero {e : Nat} {h : Int} {u now : Nat} {who : Int} {ep : Nat} (q : hdS e h u now who ep = 0) : h = who ∧ e = ep ∧ now ≤ u := by
  unfold hdS at q
  by_cases h1 : h = who ∧ e = ep
  · rw [if_neg (not_not_intro h1)] at q
    by_cases h2 : u < now
    · rw [if_pos h2] at q; omega
    · exact ⟨h1.1, h1.2, by omega⟩
  · rw [if_pos h1] at q; omega
theorem rn_ok {e : Nat} {h : Int} {u : Nat} {m : Int} {now : Nat} {who : Int} {ep n : Nat} {E : Nat} {H : Int} {U : Nat} {M : Int} (q : rnS e h u m now who ep n = (E, H, U, M, 0)) :
    E = e ∧ H = h ∧ M = m ∧ u ≤ U ∧ hoS e h u m who now = true ∧ e = ep ∧ chkS e h U m = 0 ∧ U = max u (now + n) ∧ h = who ∧ now ≤ u := by
  unfold rnS badS at q
  by_cases h1 : wrS e h u m who n
  · rw [if_neg (not_not_intro h1)] at q
    by_cases h2 : 4611686018427387904 < now
    · rw [if_pos h2] at q; have := (ans_eq q).2.2.2.2; omega
    · rw [if_neg h2] at q
      by_cases h3 : hdS e h u now who ep = 0
      · rw [if_neg (not_not_intro h3)] at q
        obtain ⟨a, b, c, d, _⟩ := ans_eq q
        obtain ⟨x, y, z⟩ := hd_zero h3
        obtain ⟨v, s, l1, l2⟩ := h1
        refine ⟨a.symm, b.symm, d.symm, by omega, decide_eq_true ⟨v, s, x, z⟩, y, if_pos ?_, c.symm, x, z⟩
        obtain ⟨v1, v2, v3⟩ := v
        exact ⟨v1, by omega, by omega⟩
      · rw [if_pos h3] at q; have := (ans_eq q).2.2.2.2; omega
  · rw [if_pos h1] at q; have := (ans_eq q).2.2.2.2; omega
theorem tn_ok {e : Nat} {h : Int} {u : Nat} {m : Int} {now : Nat} {who : Int} {ep : Nat} {md : Int} {E : Nat} {H : Int} {U : Nat} {M : Int} (q : tnS e h u m now who ep md = (E, H, U, M, 0)) :
    E = e ∧ H = h ∧ U = u ∧ M = md ∧ hoS e h u m who now = true ∧ e = ep ∧ (md = 1 ∨ md = 2) ∧ h = who ∧ now ≤ u := by
  unfold tnS badS at q
  by_cases h1 : vB e h u m ∧ (who = 1 ∨ who = 2) ∧ (md = 1 ∨ md = 2)
  · rw [if_neg (not_not_intro h1)] at q
    by_cases h3 : hdS e h u now who ep = 0
    · rw [if_neg (not_not_intro h3)] at q
      obtain ⟨a, b, c, d, _⟩ := ans_eq q
      obtain ⟨x, y, z⟩ := hd_zero h3
      exact ⟨a.symm, b.symm, c.symm, d.symm, decide_eq_true ⟨h1.1, h1.2.1, x, z⟩, y, h1.2.2, x, z⟩
    · rw [if_pos h3] at q; have := (ans_eq q).2.2.2.2; omega
  · rw [if_pos h1] at q; have := (ans_eq q).2.2.2.2; omega

theorem gr_good {e : Nat} {h : Int} {u : Nat} {m : Int} {now : Nat} {who : Int} {n g : Nat} (hw : wrS e h u m who n) (hg : g ≤ 10000) (hn : now ≤ 4611686018427387904) (he : e ≠ 4294967295) (hf : frS e h u m now g = true) :
    grS e h u m now who n g = (e + 1, who, now + n, m, 0) :=
  (if_neg (not_not_intro ⟨hw, hg⟩)).trans ((if_neg (by omega)).trans (if_neg (by rw [hf]; decide)))
theorem gr_held {e : Nat} {h : Int} {u : Nat} {m : Int} {now : Nat} {who : Int} {n g : Nat} (hw : wrS e h u m who n) (hg : g ≤ 10000) (hn : now ≤ 4611686018427387904) (he : e ≠ 4294967295) (hf : frS e h u m now g = false) :
    grS e h u m now who n g = (0, 0, 0, 0, 70) :=
  (if_neg (not_not_intro ⟨hw, hg⟩)).trans ((if_neg (by omega)).trans (if_pos hf))
theorem gr_new {m : Int} {now : Nat} {who : Int} {n g : Nat} (hm : m = 1 ∨ m = 2) (hs : who = 1 ∨ who = 2) (hl : 1 ≤ n ∧ n ≤ 10000) (hg : g ≤ 10000) (hn : now ≤ 4611686018427387904) :
    grS 0 0 0 m now who n g = (1, who, now + n, m, 0) :=
  have hv : vB 0 0 0 m := ⟨hm, by omega, .inl ⟨rfl, rfl, rfl⟩⟩
  gr_good ⟨hv, hs, hl⟩ hg hn (by omega) (decide_eq_true ⟨hv, hg, .inl rfl⟩)

end Go.Proofs.Ytbcelelmckkaoaa
