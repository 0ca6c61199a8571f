/-
  A grantor's leases, one ask behind the other: what stays true.
-/
import Derived.Test.YtbcelelmckkaoaaLRow
import Derived.Test.YtbcelelmckkaoaaOdd
namespace Go.Proofs.Ytbcelelmckkaoaa

def vL (l : Ls) : Prop := vB l.e l.h l.u l.m
/-- Behind k asks: the lease, the clock, the n leases as their holders saw them last. -/
structure Inv (k : Nat) (l : Ls) (now n : Nat) (T : Nat → Ls) : Prop where
  len : n ≤ k
  ep : l.e = n
  time : now ≤ 39 * k
  val : vL l
  til : l.u ≤ 39 * k + 60
  last : ∀ i, i + 1 = n → T i = l
  each : ∀ i, i < n → (T i).e = i + 1 ∧ vL (T i)
  gone : ∀ i, i + 1 < n → (T i).u < now

theorem Inv.start (T : Nat → Ls) : Inv 0 ⟨0, 0, 0, 1⟩ 0 0 T :=
  ⟨by omega, rfl, by omega, ⟨.inl rfl, by show 0 ≤ _; omega, .inl ⟨rfl, rfl, rfl⟩⟩, by show 0 ≤ _; omega, fun i h => by omega, fun i h => by omega, fun i h => by omega⟩
/-- Nothing came of it. -/
theorem Inv.wait {k : Nat} {l : Ls} {now n : Nat} {T : Nat → Ls} (h : Inv k l now n T) {q : Nat} (hq : q < 40) : Inv (k + 1) l (now + q) n T :=
  ⟨by have := h.len; omega, h.ep, by have := h.time; omega, h.val, by have := h.til; omega, h.last, h.each, fun i hi => by have := h.gone i hi; omega⟩
/-- The leases with one put where its epoch stands, up to a place. -/
def upd (T : Nat → Ls) (a : Ls) (j : Nat) : Nat → Ls := fun i => if i < j ∧ (T i).e = a.e then a else T i
theorem upd_zero (T : Nat → Ls) (a : Ls) : upd T a 0 = T := by funext i; unfold upd; rw [if_neg (by omega)]
theorem upd_no (T : Nat → Ls) (a : Ls) (j : Nat) (h : (T j).e ≠ a.e) : upd T a (j + 1) = upd T a j := by
  funext i
  unfold upd
  by_cases h1 : i < j ∧ (T i).e = a.e
  · rw [if_pos h1, if_pos ⟨by omega, h1.2⟩]
  · rw [if_neg h1, if_neg]
    rintro ⟨h2, h3⟩
    by_cases h4 : i = j
    · subst h4; exact h h3
    · exact h1 ⟨by omega, h3⟩
theorem upd_yes (T : Nat → Ls) (a : Ls) (j : Nat) (h : (T j).e = a.e) : upd T a (j + 1) = fun i => if i = j then a else upd T a j i := by
  funext i
  unfold upd
  by_cases h4 : i = j
  · subst h4; rw [if_pos ⟨by omega, h⟩, if_pos rfl]
  · rw [if_neg h4]
    by_cases h1 : i < j ∧ (T i).e = a.e
    · rw [if_pos h1, if_pos ⟨by omega, h1.2⟩]
    · rw [if_neg h1, if_neg (by rintro ⟨h2, h3⟩; exact h1 ⟨by omega, h3⟩)]
theorem upd_at (T : Nat → Ls) (a : Ls) (j : Nat) : upd T a j j = T j := by unfold upd; rw [if_neg (by omega)]
/-- A lease that goes further, or is turned. -/
theorem Inv.keep {k : Nat} {l : Ls} {now n : Nat} {T : Nat → Ls} (h : Inv k l now n T) {q : Nat} (hq : q < 40) {a : Ls} (he : a.e = l.e) (hv : vL a) (hu : a.u ≤ l.u ∨ a.u ≤ now + q + 60) :
    Inv (k + 1) a (now + q) n (upd T a n) := by
  have hep := h.ep
  have each := h.each
  refine ⟨by have := h.len; omega, by omega, by have := h.time; omega, hv, by have := h.til; have := h.time; omega, fun i hi => ?_, fun i hi => ?_, fun i hi => ?_⟩
  · unfold upd; rw [if_pos ⟨by omega, by have := (each i (by omega)).1; omega⟩]
  · unfold upd
    by_cases h1 : i < n ∧ (T i).e = a.e
    · rw [if_pos h1]; exact ⟨by have := (each i hi).1; omega, hv⟩
    · rw [if_neg h1]; exact each i hi
  · unfold upd
    rw [if_neg (by rintro ⟨_, h2⟩; have := (each i (by omega)).1; omega)]
    have := h.gone i hi; omega
/-- The next lease. -/
theorem Inv.grant {k : Nat} {l : Ls} {now n : Nat} {T : Nat → Ls} (h : Inv k l now n T) {q g : Nat} (hq : q < 40) {a : Ls} (he : a.e = l.e + 1) (hv : vL a) (hu : a.u ≤ now + q + 60) (hf : frS l.e l.h l.u l.m (now + q) g = true) :
    Inv (k + 1) a (now + q) (n + 1) (upd (fun i => if i = n then a else T i) a (n + 1)) := by
  have hep := h.ep
  have each := h.each
  have e0 : ∀ i, i < n + 1 → upd (fun i => if i = n then a else T i) a (n + 1) i = if i = n then a else T i := fun i hi => by
    show (if i < n + 1 ∧ (if i = n then a else T i).e = a.e then a else (if i = n then a else T i)) = if i = n then a else T i
    by_cases h1 : i = n
    · rw [if_pos h1, if_pos ⟨hi, rfl⟩]
    · rw [if_neg h1, if_neg (fun h2 => by have := (each i (by omega)).1; omega)]
  refine ⟨by have := h.len; omega, by omega, by have := h.time; omega, hv, by have := h.time; omega, fun i hi => ?_, fun i hi => ?_, fun i hi => ?_⟩
  · rw [e0 i (by omega), if_pos (by omega)]
  · rw [e0 i hi]
    by_cases h1 : i = n
    · rw [if_pos h1]; exact ⟨by omega, hv⟩
    · rw [if_neg h1]; exact each i (by omega)
  · rw [e0 i (by omega), if_neg (by omega)]
    by_cases h1 : i + 1 = n
    · rw [h.last i h1]
      have hf := of_decide_eq_true hf
      obtain ⟨v1, v2, v3⟩ := h.val
      obtain ⟨_, _, h3⟩ := hf
      omega
    · have := h.gone i (by omega); omega
theorem gr_ok {e : Nat} {h : Int} {u : Nat} {m : Int} {now : Nat} {who : Int} {n g : Nat} {E : Nat} {H : Int} {U : Nat} {M : Int} (q : grS e h u m now who n g = (E, H, U, M, 0)) :
    E = e + 1 ∧ H = who ∧ U = now + n ∧ M = m ∧ vB E H U M ∧ n ≤ 10000 ∧ frS e h u m now g = true := by
  unfold grS badS at q
  by_cases h1 : wrS e h u m who n ∧ g ≤ 10000
  · rw [if_neg (not_not_intro h1)] at q
    by_cases h2 : 4611686018427387904 < now ∨ e = 4294967295
    · rw [if_pos h2] at q; have := (ans_eq q).2.2.2.2; omega
    · rw [if_neg h2] at q
      by_cases h3 : frS e h u m now g = false
      · rw [if_pos h3] at q; have := (ans_eq q).2.2.2.2; omega
      · rw [if_neg h3] at q
        obtain ⟨a, b, c, d, _⟩ := ans_eq q
        obtain ⟨⟨v, s, l1, l2⟩, _⟩ := h1
        refine ⟨a.symm, b.symm, c.symm, d.symm, ⟨by have := v.1; omega, by omega, .inr ⟨by omega, by omega⟩⟩, l2, by simpa using h3⟩
  · rw [if_pos h1] at q; have := (ans_eq q).2.2.2.2; omega
/-- An answer that is an error comes with no lease. -/
theorem gr_bad {e : Nat} {h : Int} {u : Nat} {m : Int} {now : Nat} {who : Int} {n g : Nat} {E : Nat} {H : Int} {U : Nat} {M c : Int} (q : grS e h u m now who n g = (E, H, U, M, c)) (hc : c ≠ 0) : E = 0 ∧ H = 0 ∧ U = 0 ∧ M = 0 := by
  unfold grS badS at q
  split at q
  · have := ans_eq q; omega
  · split at q
    · have := ans_eq q; omega
    · split at q
      · have := ans_eq q; omega
      · have := ans_eq q; omega
theorem rn_bad {e : Nat} {h : Int} {u : Nat} {m : Int} {now : Nat} {who : Int} {ep n : Nat} {E : Nat} {H : Int} {U : Nat} {M c : Int} (q : rnS e h u m now who ep n = (E, H, U, M, c)) (hc : c ≠ 0) : E = 0 ∧ H = 0 ∧ U = 0 ∧ M = 0 := by
  unfold rnS badS at q
  split at q
  · have := ans_eq q; omega
  · split at q
    · have := ans_eq q; omega
    · split at q
      · have := ans_eq q; omega
      · have := ans_eq q; omega
theorem tn_bad {e : Nat} {h : Int} {u : Nat} {m : Int} {now : Nat} {who : Int} {ep : Nat} {md : Int} {E : Nat} {H : Int} {U : Nat} {M c : Int} (q : tnS e h u m now who ep md = (E, H, U, M, c)) (hc : c ≠ 0) : E = 0 ∧ H = 0 ∧ U = 0 ∧ M = 0 := by
  unfold tnS badS at q
  split at q
  · have := ans_eq q; omega
  · split at q
    · have := ans_eq q; omega
    · have := ans_eq q; omega
/-- None but the last holds, now or later. -/
theorem Inv.none {k : Nat} {l : Ls} {now n : Nat} {T : Nat → Ls} (h : Inv k l now n T) {i t : Nat} (hi : i + 1 < n) (ht : now ≤ t) (who : Int) : hoS (T i).e (T i).h (T i).u (T i).m who t = false :=
  decide_eq_false (fun ⟨_, _, _, x⟩ => by have := h.gone i hi; omega)

theorem chk_zero {e : Nat} {h : Int} {u : Nat} {m : Int} (q : chkS e h u m = 0) : vB e h u m := by
  unfold chkS at q
  by_cases hv : vB e h u m
  · exact hv
  · rw [if_neg hv] at q; omega
theorem turned {e : Nat} {h : Int} {u : Nat} {m md : Int} (q : vB e h u m) (hm : md = 1 ∨ md = 2) : vB e h u md := ⟨hm, q.2⟩

end Go.Proofs.Ytbcelelmckkaoaa
