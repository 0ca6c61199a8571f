/-
  The contract of the document's Put: for every entry.
-/
import Derived.Test.YtccpmalefdnhdaaRChk
import Derived.Test.YtccpmalefdnhdaaROne
namespace Go.Proofs.Ytccpmalefdnhdaa
open Go.RowKit
set_option linter.unusedVariables false
set_option linter.unusedSimpArgs false

theorem flat_at : ∀ (fs : List Fld) (i j : Nat) (h : i < fs.length), j < 3 → (fs.flatMap Fld.cells)[i * 3 + j]? = (fs[i].cells)[j]?
  | f :: r, 0, j, _, hj => by
    rw [List.flatMap_cons, Nat.zero_mul, Nat.zero_add, List.getElem?_append_left (by show j < f.cells.length; exact hj)]
    rfl
  | f :: r, i + 1, j, h, hj => by
    have hl : f.cells.length = 3 := rfl
    rw [List.flatMap_cons, List.getElem?_append_right (by rw [hl]; omega), hl, show (i + 1) * 3 + j - 3 = i * 3 + j by omega, flat_at r i j (by simpa using h) hj]
    rfl
theorem frow_flds {w : World} {B : Nat} {v : Value} {fs : List Fld} (h : FRow w B v fs.length (fs.flatMap Fld.cells)) (h0 : 0 < fs.length) (hm : ∀ f ∈ fs, f.May w) :
    ∃ g cap, v = .slice (some ⟨g, 0, none⟩) fs.length cap ∧ Flds w g fs := by
  obtain ⟨hl, ⟨_, hz⟩ | ⟨g, cap, cur, hv, _, hg, _, _, _, ht⟩⟩ := h
  · omega
  · refine ⟨g, cap, hv, fun i hi => ⟨hm _ (List.getElem_mem hi), ?_, ?_, ?_⟩⟩
    all_goals
      rw [Lies.cell hg]
    · have := flat_at fs i 0 hi (by decide)
      rw [← ht, List.getElem?_take, if_pos (by omega), Array.getElem?_toList, Nat.add_zero] at this
      rw [this]; rfl
    · have := flat_at fs i 1 hi (by decide)
      rw [← ht, List.getElem?_take, if_pos (by omega), Array.getElem?_toList] at this
      rw [this]; rfl
    · have := flat_at fs i 2 hi (by decide)
      rw [← ht, List.getElem?_take, if_pos (by omega), Array.getElem?_toList] at this
      rw [this]; rfl

theorem flds_enc (e : Entry) (K D : Value) (hk : Ent.Ok e) : (fldsOf e K D).flatMap Fld.enc = Ent.enc e := by
  unfold fldsOf Ent.enc Ent.encO Ent.encT Ent.encS Ent.encC Ent.encM
  rcases Ent.kinds e hk with h | h | h | h | h | h | h
  all_goals
    rw [h]
    simp [Fld.enc, num, Ent.hasO, Ent.hasT, Ent.hasS, Ent.codes, Ent.hasM]
theorem flds_may {w : World} {e : Entry} {A1 A2 : Option Addr} {c1 c2 : Nat} (hV : EntV w e A1 A2 c1 c2) (hk : Ent.Ok e) : ∀ f ∈ fldsOf e (.slice A1 e.key.length c1) (.slice A2 e.data.length c2), f.May w := by
  have hs := hk.s
  have ht := hk.t
  have hc := hk.c
  unfold Ent.fitS at hs
  unfold Ent.fitT at ht
  unfold Ent.fitC at hc
  have m1 : ∀ n, n < 256 → (num 1 n).May w := fun n h => .inl ⟨rfl, h, rfl⟩
  have m4 : ∀ n, n < 4294967296 → (num 4 n).May w := fun n h => .inr (.inl ⟨rfl, h, rfl⟩)
  have m8 : ∀ n, n < 18446744073709551616 → (num 8 n).May w := fun n h => .inr (.inr (.inl ⟨rfl, h, rfl⟩))
  have hu : Ent.b2n e.undo < 256 := by unfold Ent.b2n; split <;> decide
  have k1 := hk.k1
  have k7 := hk.k7
  have a1 := m1 e.kind.toNat (by omega)
  have a2 := m8 e.lsn hV.b.lsn
  have a3 := m4 e.epoch hV.b.epoch
  have a4 := m4 e.order hV.b.order
  unfold fldsOf
  intro f hf
  rcases List.mem_append.1 hf with hf | hf
  · simp at hf
    rcases hf with rfl | rfl | rfl
    · exact a1
    · exact a2
    · exact a3
  · rcases Ent.kinds e hk with h | h | h | h | h | h | h
    all_goals
      rw [h] at hf hs ht hc
      simp [Ent.hasS, Ent.hasT, Ent.codes] at hf hs ht hc
    · rcases hf with rfl | rfl | rfl
      · exact a4
      · exact .inr (.inr (.inr ⟨rfl, rfl, A1, c1, rfl, hV.k, hV.ka, by show e.key.length ≤ 255; omega⟩))
      · exact .inr (.inr (.inr ⟨rfl, rfl, A2, c2, rfl, hV.d, hV.da, by show e.data.length ≤ 255; omega⟩))
    · rcases hf with rfl | rfl | rfl | rfl
      · exact a4
      · exact m1 _ (by omega)
      · exact m1 _ hu
      · exact m1 _ (by omega)
    · rcases hf with rfl | rfl | rfl | rfl | rfl
      · exact a4
      · exact m1 _ (by omega)
      · exact m1 _ hu
      · exact m1 _ (by omega)
      · exact m1 _ (by omega)
    · rcases hf with rfl | rfl
      · exact a4
      · exact m1 _ (by omega)
    · subst hf; exact m1 _ (by omega)
    · subst hf; exact m8 _ hV.b.mark
theorem flds_len (e : Entry) (K D : Value) : 0 < (fldsOf e K D).length ∧ (fldsOf e K D).length ≤ 8 := by
  unfold fldsOf
  repeat' split
  all_goals simp

set_option maxRecDepth 100000 in
set_option maxHeartbeats 1000000 in
theorem refPut_any (e : Entry) (A1 A2 : Option Addr) (c1 c2 : Nat) (w : World) (hV : EntV w e A1 A2 c1 c2) :
    Calls Try.prog 18 #[.agg (evs e (.slice A1 e.key.length c1) (.slice A2 e.data.length c2))] w (PutPost e w) := by
  have b0 := (Below.refl w.heap.size w).alloc (Nat.le_refl _) (.cells (evs e (.slice A1 e.key.length c1) (.slice A2 e.data.length c2)) 26)
  have cc := refCheck_any e A1 A2 c1 c2 _ (hV.below b0)
  unfold ChkPost at cc
  by_cases hok : Ent.ok e = true
  · have hk := (Ent.ok_iff e).1 hok
    have hn : chkN e = 0 := by unfold chkN; rw [if_pos hok]
    have hp : putB e = Ent.enc e := by unfold putB; rw [if_pos hok]
    have hF := ((ok_ref e).1 hok).1
    unfold PutPost
    rw [hn, hp]
    rw [hn] at cc
    have CC := Lib.hid cc
    have CF := Lib.hid (fun W (h : EntV W e A1 A2 c1 c2) => fields_any e A1 A2 c1 c2 W h)
    unfold FldsPost at CF
    rw [hF] at CF
    have HV := Lib.hid hV
    have HEN := Lib.hid (flds_enc e (.slice A1 e.key.length c1) (.slice A2 e.data.length c2) hk)
    have HMAY := Lib.hid (fun W (h : EntV W e A1 A2 c1 c2) => flds_may h hk)
    have HLN := Lib.hid (flds_len e (.slice A1 e.key.length c1) (.slice A2 e.data.length c2))
    have BB0 := Lib.hid b0
    clear cc hV b0 hn hp hF hk hok
    go_enter Try.func18, Try.ntmps18
    go_wp2_with fail
    with_reducible refine CC.out.mono ?_
    rintro x w1 ⟨rfl, hb1⟩
    have BB1 := Lib.hid (BB0.out.trans (hb1.mono BB0.out.size))
    have L1 := (Lies.made w 26 (evs e (.slice A1 e.key.length c1) (.slice A2 e.data.length c2))).below hb1 (by simp)
    obtain ⟨e0, e1, e2, e3, e4, e5, e6, e7, e8, e9, e10⟩ := L1.cellsE
    have cf := CF.out w1 (HV.out.below BB1.out)
    have CFF := Lib.hid cf
    clear cf L1 hb1 CC CF
    go_wp2_with fail
    with_reducible refine CFF.out.mono ?_
    rintro x w2 ⟨v, rfl, hb2, hrow⟩
    have BB2 := Lib.hid (BB1.out.trans (hb2.mono BB1.out.size))
    obtain ⟨g, cap, rfl, hfl⟩ := frow_flds (hrow (by first | rfl | trivial)) HLN.out.1 (HMAY.out w2 (HV.out.below BB2.out))
    have cr := rput_any g _ cap _ w2 hfl rfl (by have := HLN.out.2; omega)
    rw [HEN.out] at cr
    have CR := Lib.hid cr
    clear cr hfl hrow hb2 e0 e1 e2 e3 e4 e5 e6 e7 e8 e9 e10 CFF
    obtain ⟨nf, hnf⟩ : ∃ q, (fldsOf e (.slice A1 e.key.length c1) (.slice A2 e.data.length c2)).length = q := ⟨_, rfl⟩
    rw [hnf] at CR ⊢
    clear hnf HEN HMAY HLN
    go_wp2_with fail
    with_reducible refine CR.out.mono ?_
    rintro x w3 ⟨v3, rfl, hO3, hb3⟩
    have HO3 := Lib.hid hO3
    clear hO3
    go_wp2
    go_ret2
    exact ⟨v3, rfl, HO3.out.mono BB2.out.size, BB2.out.trans (hb3.mono BB2.out.size)⟩
  · have hn : chkN e = 40 := by unfold chkN; rw [if_neg hok]
    have hp : putB e = [] := by unfold putB; rw [if_neg hok]
    unfold PutPost
    rw [hn, hp]
    rw [hn] at cc
    have CC := Lib.hid cc
    have BB0 := Lib.hid b0
    clear cc hV b0 hn hp hok
    generalize Value.slice A1 e.key.length c1 = K at *
    generalize Value.slice A2 e.data.length c2 = D at *
    go_enter Try.func18, Try.ntmps18
    go_wp2_with fail
    with_reducible refine CC.out.mono ?_
    rintro x w1 ⟨rfl, hb1⟩
    go_wp2
    go_ret2
    exact ⟨_, rfl, Own.nil _ _, BB0.out.trans (hb1.mono BB0.out.size)⟩

end Go.Proofs.Ytccpmalefdnhdaa
