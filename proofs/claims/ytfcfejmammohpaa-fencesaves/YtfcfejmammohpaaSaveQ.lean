/-
  What FenceSaves asks of Put and Get: what was put is got, what was got is put.
-/
import Derived.Test.YtfcfejmammohpaaPutF
import Derived.Test.YtfcfejmammohpaaGetF
import Derived.Test.YtfcfejmammohpaaRPutF
import Derived.Test.YtfcfejmammohpaaRGetF
import Derived.Test.YtfcfejmammohpaaIn8
namespace Go.Proofs.Ytfcfejmammohpaa
open Go.RowKit
set_option maxRecDepth 100000
set_option linter.unusedVariables false
set_option linter.unusedSimpArgs false

theorem InBytes.bys {w : World} {A : Option Addr} {n c : Nat} {l : List Nat} (h : InBytes w A n c l) : Bys w A n l := h.1
theorem FV.o {w : World} {A : Option Addr} {n c : Nat} {T : Nat → Kp} (h : FV w A n c T) : ∀ i, i < n → (T i).o < 4294967296 := by
  obtain ⟨_, _, _, X, hX, hk⟩ := h
  intro i hi
  have := (hX.2 i hi).o
  rw [hk i hi] at this
  exact this
theorem putS_len {ep n : Nat} {T : Nat → Kp} (h : okB n T = true) : (putS ep n T).length ≤ 110000 := by
  have hk := (okB_iff _ _).1 h
  have h2 := encL_len (n := n) (T := T) (fun i hi => (hk.2 i hi).1)
  have h3 := hk.1
  unfold putS
  rw [List.length_append, List.length_append, Ent.be_len, Ent.be_len]
  omega
/-- Both readers tell the same fence. -/
theorem getF_two {l : List Nat} (hl : ∀ c ∈ l, c < 256) : getE fpos l = getE one l ∧ (getF fpos l).ep = (getF one l).ep ∧ (getF fpos l).n = (getF one l).n ∧ ∀ i, i < (getF fpos l).n → (getF fpos l).T i = (getF one l).T i := by
  by_cases h : isF one l
  · obtain ⟨h1, h2⟩ := isF_two (f := one) (g := fpos) rfl rfl rfl rfl hl h
    rw [(getF_yes h).1, (getF_yes h).2, (getF_yes h2).1, (getF_yes h2).2]
    exact ⟨rfl, rfl, rfl, h1⟩
  · have h2 : ¬ isF fpos l := fun h3 => h (isF_two (f := fpos) (g := one) rfl rfl rfl rfl hl h3).2
    rw [(getF_no h).1, (getF_no h).2, (getF_no h2).1, (getF_no h2).2]
    exact ⟨rfl, rfl, rfl, fun i hi => rfl⟩
theorem FS.congr2 {w : World} {B : Nat} {A : Option Addr} {n n' c : Nat} {T T' : Nat → Kp} (h : FS w B A n c T) (hn : n = n') (e : ∀ i, i < n → T i = T' i) : FS w B A n' c T' := by subst hn; exact h.congr e
theorem rget_two (A0 : Option Addr) (n0 c0 : Nat) (l : List Nat) (w : World) (hB : InBytes w A0 n0 c0 l) (hn0 : n0 ≤ 190000) : Calls Try.prog 35 #[.slice A0 n0 c0] w (FsPost w (getE one l) (getF one l)) := by
  obtain ⟨h1, h2, h3, h4⟩ := getF_two (l := l) hB.1.2.1
  refine (rget_any A0 n0 c0 l w hB.1 hn0 hB.2.1 hB.2.2.1).mono ?_
  rintro x w' ⟨A, c, rfl, hf, hb⟩
  exact ⟨A, c, by rw [h1, h2, h3], hf.congr2 h3 h4, hb⟩
/-- What was put is got. -/
def GotPost (w : World) (ep n : Nat) (T : Nat → Kp) (x : Ending) (w' : World) : Prop := ∃ v X, x = .returned (.tuple #[.agg #[.int .u32 (ep : Int), v], .int .i64 0]) ∧ NF w' w.heap.size v n X ∧ (∀ i, i < n → (X i).k = T i) ∧ Below w.heap.size w w'
theorem get_put {ep n : Nat} {T : Nat → Kp} (hep : ep < 4294967296) (ho : ∀ i, i < n → (T i).o < 4294967296) (hok : okB n T = true) (A : Option Addr) (m c : Nat) (w : World) (hB : Bys w A m (putS ep n T)) : Calls Try.prog 34 #[.slice A m c] w (GotPost w ep n T) := by
  have hF := isF_put (f := one) rfl rfl (ep := ep) hep hok ho
  have hk := (okB_iff _ _).1 hok
  obtain ⟨q1, q2, q3⟩ := rd_put one rfl rfl ep n T hep hk.1 (fun i hi => ⟨(hk.2 i hi).1, ho i hi⟩)
  refine (get_any A m c _ w hB (by rw [← hB.1]; have := putS_len (ep := ep) hok; omega)).mono ?_
  rw [(getF_yes hF).1, (getF_yes hF).2]
  try dsimp only
  rw [q1, q2]
  rintro x w' ⟨v, X, rfl, hn, hx, hb⟩
  dsimp only at hn hx
  exact ⟨v, X, rfl, hn, fun i hi => (hx i hi).trans (q3 i hi), hb⟩
/-- What was got is put. -/
def AgainPost (w : World) (l : List Nat) (x : Ending) (w' : World) : Prop := ∃ v, x = .returned (.tuple #[v, .int .i64 0]) ∧ Own w' w.heap.size v l ∧ Below w.heap.size w w'
theorem put_get {l : List Nat} (hl : ∀ c ∈ l, c < 256) (he : getE one l = 0) (A : Option Addr) (c : Nat) (w : World) (hF : FV w A (getF one l).n c (getF one l).T) : Calls Try.prog 32 #[.agg #[.int .u32 ((getF one l).ep : Int), .slice A (getF one l).n c]] w (AgainPost w l) := by
  have h : isF one l := Classical.byContradiction (fun h => by rw [(getF_no h).2] at he; cases he)
  obtain ⟨h1, h2⟩ := h
  rw [(getF_yes ⟨h1, h2⟩).1] at hF ⊢
  dsimp only at hF ⊢
  refine (put_any _ A _ c _ w hF (by have := Ent.rnum_lt l hl 4 (0, false); show (Ent.rnum l 4 (0, false)).1 < _; omega)).mono ?_
  rintro x w' ⟨v, rfl, ho, hb⟩
  rw [if_pos h1, h2] at ho
  exact ⟨v, by unfold chkC; rw [if_pos h1]; rfl, ho, hb⟩
theorem chk_two (n : Nat) (T : Nat → Kp) : (chkC n T = 0 ∧ okB n T = true) ∨ (chkC n T = 2 ∧ okB n T = false) := by
  unfold chkC
  cases h : okB n T
  · exact .inr ⟨rfl, rfl⟩
  · exact .inl ⟨rfl, rfl⟩
theorem getE_two (l : List Nat) : getE one l = 0 ∨ getE one l = 82 := by
  by_cases h : isF one l
  · exact .inl (getF_yes h).2
  · exact .inr (getF_no h).2

end Go.Proofs.Ytfcfejmammohpaa
