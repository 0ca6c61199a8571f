/-
  The contracts of the document's One and Put of layer 1: for fields that may be.
-/
import Derived.Test.YtfcfejmammohpaaFld
import Derived.Test.YtfcfejmammohpaaNum
namespace Go.Proofs.Ytfcfejmammohpaa
open Go.RowKit
set_option maxRecDepth 100000
set_option linter.unusedVariables false

def OnePost (l : List Nat) (w : World) (x : Ending) (w' : World) : Prop :=
  ∃ v, x = .returned (.tuple #[v, .int .i64 0]) ∧ Own w' w.heap.size v l ∧ Below w.heap.size w w'

set_option maxRecDepth 100000 in
set_option maxHeartbeats 1000000 in
theorem one_text (A : Option Addr) (c : Nat) (t : List Nat) (w : World) (hB : Bys w A t.length t) (hA : A = none → c = 0) (hl : t.length ≤ 255) :
    Calls Try.prog 83 #[.agg #[.int .i64 0, .int .u64 0, .slice A t.length c]] w (OnePost (Ent.txt t) w) := by
  obtain ⟨n, hn⟩ : ∃ n, t.length = n := ⟨_, rfl⟩
  rw [hn] at hB hl ⊢
  have HB := Lib.hid hB
  have HA := Lib.hid hA
  have hown : Own ((w.alloc (.cells #[.int .i64 0, .int .u64 0, .slice A n c] 101)).alloc (.cells #[.int .u8 (n : Nat)] 5)) w.heap.size (.slice (some ⟨w.heap.size + 1, 0, none⟩) 1 1) [n] :=
    Own.made (l := [n]) (Lies.made2 w _ 5 _) (by omega) (by simp; omega) (by unfold maxLen; simp)
  have HO := Lib.hid hown
  have hb2 := below2 w (.cells #[.int .i64 0, .int .u64 0, .slice A n c] 101) (.cells #[.int .u8 (n : Nat)] 5)
  have HB2 := Lib.hid (HB.out.below hb2)
  have HBB := Lib.hid hb2
  have he : Ent.txt t = [n] ++ t := by unfold Ent.txt; rw [hn, Ent.be_one n (by omega)]
  have HEE := Lib.hid he
  clear hB hA hown hb2 he hn
  go_enter Try.func83, Try.ntmps83
  go_wp2_with (first
    | ((with_reducible refine wpl_append (some 24) _ _ _ (.tmp 21) (.tmp 23) w.heap.size (.slice (some ⟨w.heap.size + 1, 0, none⟩) 1 1) [n] A n c t ?hs ?hx HO.out HB2.out HA.out ?hm ?hz ?_); (case hs => rfl); (case hx => rfl); (case hm => (simp; omega)); (case hz => (simp; omega)); (intro v' w' ho hg hv); (have HO2 := Lib.hid ho); (have HG := Lib.hid hg); (clear ho hg hv)))
  go_ret2
  exact ⟨_, rfl, by rw [HEE.out]; exact HO2.out, HO.out.grows HG.out HBB.out (Nat.le_refl _) HBB.out.size⟩

set_option maxRecDepth 100000 in
set_option maxHeartbeats 1000000 in
theorem one_1 (n : Nat) (w : World) (hn : n < 256) : Calls Try.prog 83 #[.agg #[.int .i64 1, .int .u64 (n : Nat), .slice none 0 0]] w (OnePost (Ent.be 1 n) w) := by
  have C1 := Lib.hid (fun W => num_any n 1 W (by omega) (by omega))
  rw [show ((1 : Nat) : Int) = 1 from rfl] at C1
  go_enter Try.func83, Try.ntmps83
  go_wp2_with fail
  with_reducible refine (C1.out _).mono ?_
  rintro x w1 ⟨v, rfl, hO, hb⟩
  have HO := Lib.hid hO
  clear hO
  go_wp2
  go_ret2
  exact ⟨v, rfl, HO.out.mono (by simp), ((Below.refl w.heap.size w).alloc (Nat.le_refl _) _).trans (hb.mono (by simp))⟩
set_option maxRecDepth 100000 in
set_option maxHeartbeats 1000000 in
theorem one_4 (n : Nat) (w : World) (hn : n < 4294967296) : Calls Try.prog 83 #[.agg #[.int .i64 4, .int .u64 (n : Nat), .slice none 0 0]] w (OnePost (Ent.be 4 n) w) := by
  have C1 := Lib.hid (fun W => num_any n 4 W (by omega) (by omega))
  rw [show ((4 : Nat) : Int) = 4 from rfl] at C1
  have p1 : (2 : Int) ^ 32 = 4294967296 := by rfl
  have p2 : (2 : Nat) ^ 32 = 4294967296 := by rfl
  have hd : decide ((4294967296 : Int) ≤ ((n : Nat) : Int)) = false := by rw [decide_eq_false_iff_not]; omega
  have hd2 : decide ((4294967296 : Nat) ≤ n) = false := by rw [decide_eq_false_iff_not]; omega
  go_enter Try.func83, Try.ntmps83
  go_wp2_with fail
  with_reducible refine (C1.out _).mono ?_
  rintro x w1 ⟨v, rfl, hO, hb⟩
  have HO := Lib.hid hO
  clear hO
  go_wp2
  go_ret2
  exact ⟨v, rfl, HO.out.mono (by simp), ((Below.refl w.heap.size w).alloc (Nat.le_refl _) _).trans (hb.mono (by simp))⟩
set_option maxRecDepth 100000 in
set_option maxHeartbeats 1000000 in
theorem one_8 (n : Nat) (w : World) (hn : n < 18446744073709551616) : Calls Try.prog 83 #[.agg #[.int .i64 8, .int .u64 (n : Nat), .slice none 0 0]] w (OnePost (Ent.be 8 n) w) := by
  have C1 := Lib.hid (fun W => num_any n 8 W (by omega) (by omega))
  rw [show ((8 : Nat) : Int) = 8 from rfl] at C1
  go_enter Try.func83, Try.ntmps83
  go_wp2_with fail
  with_reducible refine (C1.out _).mono ?_
  rintro x w1 ⟨v, rfl, hO, hb⟩
  have HO := Lib.hid hO
  clear hO
  go_wp2
  go_ret2
  exact ⟨v, rfl, HO.out.mono (by simp), ((Below.refl w.heap.size w).alloc (Nat.le_refl _) _).trans (hb.mono (by simp))⟩

/-- A field that may be: a number without a text, or a text without a number. -/
def Fld.May (w : World) (f : Fld) : Prop :=
  (f.size = 1 ∧ f.n < 256 ∧ f.T = .slice none 0 0) ∨ (f.size = 4 ∧ f.n < 4294967296 ∧ f.T = .slice none 0 0) ∨ (f.size = 8 ∧ f.n < 18446744073709551616 ∧ f.T = .slice none 0 0) ∨
  (f.size = 0 ∧ f.n = 0 ∧ ∃ A c, f.T = .slice A f.t.length c ∧ Bys w A f.t.length f.t ∧ (A = none → c = 0) ∧ f.t.length ≤ 255)
theorem Fld.May.below {w w' : World} {f : Fld} (h : f.May w) (hb : Below w.heap.size w w') : f.May w' := by
  rcases h with h | h | h | ⟨h1, h2, A, c, h3, h4, h5⟩
  · exact .inl h
  · exact .inr (.inl h)
  · exact .inr (.inr (.inl h))
  · exact .inr (.inr (.inr ⟨h1, h2, A, c, h3, h4.below hb, h5⟩))
theorem one_any (f : Fld) (w : World) (h : f.May w) : Calls Try.prog 83 #[.agg #[.int .i64 (f.size : Nat), .int .u64 (f.n : Nat), f.T]] w (OnePost f.enc w) := by
  obtain ⟨s, n, T, t⟩ := f
  rcases h with ⟨h1, h2, h3⟩ | ⟨h1, h2, h3⟩ | ⟨h1, h2, h3⟩ | ⟨h1, h2, A, c, h3, h4, h5, h6⟩
  all_goals simp only at h1 h2 h3
  · subst h1 h3; exact one_1 n w h2
  · subst h1 h3; exact one_4 n w h2
  · subst h1 h3; exact one_8 n w h2
  · subst h1 h2 h3; exact one_text A c t w h4 h5 h6

/-- A slice of fields. -/
def Flds (w : World) (g : Nat) (fs : List Fld) : Prop :=
  ∀ i (h : i < fs.length), fs[i].May w ∧ w.cell? ⟨g, i * 3, none⟩ = some (.int .i64 (fs[i].size : Nat)) ∧ w.cell? ⟨g, i * 3 + 1, none⟩ = some (.int .u64 (fs[i].n : Nat)) ∧ w.cell? ⟨g, i * 3 + 2, none⟩ = some fs[i].T
theorem Flds.below {w w' : World} {g : Nat} {fs : List Fld} (h : Flds w g fs) (hb : Below w.heap.size w w') : Flds w' g fs := fun i hi => by
  obtain ⟨h1, h2, h3, h4⟩ := h i hi
  exact ⟨h1.below hb, (hb.cell (block_lt_of_cell h2)).trans h2, (hb.cell (block_lt_of_cell h3)).trans h3, (hb.cell (block_lt_of_cell h4)).trans h4⟩

def RpR (w : World) (n : Nat) (fs : List Fld) (o i : Value) (wr : World) : Prop :=
  ∃ k : Nat, k ≤ n ∧ i = .int .i64 k ∧ Own wr w.heap.size o ((fs.take k).flatMap Fld.enc) ∧ Below w.heap.size w wr

theorem enc_le (w : World) (f : Fld) (h : f.May w) : f.enc.length ≤ 256 := by
  unfold Fld.enc
  rcases h with ⟨h1, _⟩ | ⟨h1, _⟩ | ⟨h1, _⟩ | ⟨h1, _, _, _, _, _, _, h6⟩
  · rw [h1, if_neg (by decide), Ent.be_len]; decide
  · rw [h1, if_neg (by decide), Ent.be_len]; decide
  · rw [h1, if_neg (by decide), Ent.be_len]; decide
  · rw [if_pos h1]; unfold Ent.txt; rw [List.length_append, Ent.be_len]; omega
theorem flat_le (w : World) : ∀ (fs : List Fld), (∀ f ∈ fs, f.May w) → (fs.flatMap Fld.enc).length ≤ fs.length * 256
  | [], _ => by simp
  | f :: r, h => by
    have h1 := enc_le w f (h f (by simp))
    have h2 := flat_le w r (fun x hx => h x (by simp [hx]))
    rw [List.flatMap_cons, List.length_append, List.length_cons]
    omega

set_option maxRecDepth 100000 in
set_option maxHeartbeats 2000000 in
theorem rput_any (g n cap : Nat) (fs : List Fld) (w : World) (hF : Flds w g fs) (hn : fs.length = n) (hl : n ≤ 2000) :
    Calls Try.prog 57 #[.slice (some ⟨g, 0, none⟩) n cap] w (OnePost (fs.flatMap Fld.enc) w) := by
  have hmay : ∀ k, ((fs.take k).flatMap Fld.enc).length ≤ 512000 := fun k => by
    have := flat_le w (fs.take k) (fun f hf => by
      obtain ⟨i, hi, rfl⟩ := List.mem_iff_getElem.1 (List.mem_of_mem_take hf)
      exact (hF i hi).1)
    rw [List.length_take] at this
    omega
  have HF := Lib.hid hF
  have HN := Lib.hid hn
  have HMAY := Lib.hid hmay
  clear hF hn hmay
  go_enter Try.func57, Try.ntmps57
  go_wp2_with fail
  go_loopw [4, 5] (RpR w n fs) (fun _ i _ => n - (intOf i).toNat)
  case atStart => exact ⟨0, by omega, rfl, by rw [List.take_zero]; exact Own.nil _ _, Below.refl _ _⟩
  case round =>
    obtain ⟨k, hk, rfl, hO, hbel⟩ := hrel
    have HO := Lib.hid hO
    have HBE := Lib.hid hbel
    clear hO hbel
    by_cases hlt : k < n
    · have hkl : k < fs.length := by rw [HN.out]; exact hlt
      obtain ⟨f1, f2, f3, f4⟩ := (HF.out.below HBE.out) k hkl
      have C1 := Lib.hid (one_any (fs[k]'hkl) wr f1)
      have hel := enc_le wr _ f1
      have htk : (fs.take (k + 1)).flatMap Fld.enc = (fs.take k).flatMap Fld.enc ++ (fs[k]'hkl).enc := by
        rw [List.take_succ_eq_append_getElem hkl, List.flatMap_append]; simp
      have hT : ∃ A m c, (fs[k]'hkl).T = .slice A m c := by
        rcases f1 with ⟨_, _, h⟩ | ⟨_, _, h⟩ | ⟨_, _, h⟩ | ⟨_, _, A, c, h, _⟩
        · exact ⟨_, _, _, h⟩
        · exact ⟨_, _, _, h⟩
        · exact ⟨_, _, _, h⟩
        · exact ⟨_, _, _, h⟩
      obtain ⟨A0, m0, c0, hT⟩ := hT
      rw [hT] at f4 C1
      have hi1 : (k : Int) < (n : Int) := by omega
      have HTK := Lib.hid htk
      clear htk f1
      generalize (fs[k]'hkl) = f at *
      have hmk := HMAY.out k
      have HMK := Lib.hid hmk
      clear hT hmk
      go_wp2_with fail
      with_reducible refine C1.out.mono ?_
      rintro x w2 ⟨v2, rfl, hO2, hb2⟩
      obtain ⟨A2, c2, rfl, hB2, _, _, hA2⟩ := hO2.slice
      obtain ⟨m2, hm2⟩ : ∃ q, f.enc.length = q := ⟨_, rfl⟩
      rw [hm2] at hB2 hel ⊢
      have HB2 := Lib.hid hB2
      have HA2 := Lib.hid hA2
      have HO1 := Lib.hid (HO.out.belowOwn hb2)
      have BB2 := Lib.hid (HBE.out.trans (hb2.mono HBE.out.size))
      clear hO2 hB2 hA2 hb2 f2 f3 f4 C1
      go_wp2_with (first
        | ((with_reducible refine wpl_append (some 27) _ _ _ (.tmp 25) (.tmp 26) w.heap.size _ ((fs.take k).flatMap Fld.enc) A2 m2 c2 f.enc ?hs ?hx HO1.out HB2.out HA2.out ?hm ?hz ?_); (case hs => rfl); (case hx => rfl); (case hm => (have := HMK.out; omega)); (case hz => exact BB2.out.size); (intro v' w' ho hg hv); (have HO3 := Lib.hid ho); (have HG3 := Lib.hid hg); (clear ho hg hv)))
      go_roundw
      case rel => exact ⟨k + 1, by omega, by go_num, by rw [HTK.out]; exact HO3.out, HO1.out.grows HG3.out BB2.out (Nat.le_refl _) BB2.out.size⟩
      case measure => simp [intOf]; omega
    · have hkn : k = n := by omega
      subst hkn
      have htk : fs.take k = fs := List.take_of_length_le (by rw [HN.out]; exact Nat.le_refl _)
      have HTK := Lib.hid htk
      clear htk
      go_wp2
      go_ret2
      exact ⟨_, rfl, by have := HO.out; rw [HTK.out] at this; exact this, HBE.out⟩

end Go.Proofs.Ytfcfejmammohpaa
