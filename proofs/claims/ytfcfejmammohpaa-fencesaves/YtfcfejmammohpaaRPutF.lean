/-
  The document's Put.
-/
import Derived.Test.YtfcfejmammohpaaPutF
import Derived.Test.YtfcfejmammohpaaRFl
import Derived.Test.YtfcfejmammohpaaRChk
namespace Go.Proofs.Ytfcfejmammohpaa
open Go.RowKit
set_option maxRecDepth 100000
set_option linter.unusedVariables false
set_option linter.unusedSimpArgs false

def fK (x : Kx) : List Fld := [num 4 x.k.o, num 1 x.k.s.toNat, num 1 (Ent.b2n x.k.u), num 1 x.k.c.toNat, ⟨0, 0, x.K, x.k.a⟩, ⟨0, 0, x.D, x.k.r⟩]
def fF (ep n : Nat) (X : Nat → Kx) (j : Nat) : List Fld := [num 4 ep, num 1 n] ++ (List.range j).flatMap (fun i => fK (X i))
theorem fF_succ (ep n : Nat) (X : Nat → Kx) (j : Nat) : fF ep n X (j + 1) = fF ep n X j ++ fK (X j) := by simp [fF, List.range_succ]
theorem fF_len (ep n : Nat) (X : Nat → Kx) (j : Nat) : (fF ep n X j).length = 2 + j * 6 := by
  induction j with
  | zero => rfl
  | succ j ih => rw [fF_succ, List.length_append, ih]; show 2 + j * 6 + 6 = _; omega
theorem fF_cells (ep n : Nat) (X : Nat → Kx) (j : Nat) : (fF ep n X (j + 1)).flatMap Fld.cells = (fF ep n X j).flatMap Fld.cells ++ (fK (X j)).flatMap Fld.cells := by rw [fF_succ, List.flatMap_append]
theorem fK_enc (x : Kx) : (fK x).flatMap Fld.enc = encK x.k := by
  unfold fK encK
  simp [Fld.enc, List.append_assoc]
theorem fF_enc (ep n : Nat) (X : Nat → Kx) (j : Nat) : (fF ep n X j).flatMap Fld.enc = (Ent.be 4 ep ++ Ent.be 1 n) ++ encL j (fun i => (X i).k) := by
  induction j with
  | zero => simp [fF, Fld.enc, encL]
  | succ j ih => rw [fF_succ, List.flatMap_append, ih, fK_enc, encL_succ, List.append_assoc]
theorem fF_may {w : World} {ep n : Nat} {X : Nat → Kx} {j : Nat} (hep : ep < 4294967296) (hn : n < 256) (hX : ∀ i, i < j → KT w (X i) ∧ vk (X i).k = true) : ∀ f ∈ fF ep n X j, f.May w := by
  intro f hf
  unfold fF at hf
  rcases List.mem_append.1 hf with h | h
  · simp only [List.mem_cons, List.not_mem_nil, or_false] at h
    rcases h with rfl | rfl
    · exact .inr (.inl ⟨rfl, hep, rfl⟩)
    · exact .inl ⟨rfl, hn, rfl⟩
  · obtain ⟨i, hi, h⟩ := List.mem_flatMap.1 h
    have hi' : i < j := List.mem_range.1 hi
    obtain ⟨hk, hv⟩ := hX i hi'
    have hv := (vk_iff _).1 hv
    have hb := b2n_le (X i).k.u
    unfold fK at h
    simp only [List.mem_cons, List.not_mem_nil, or_false] at h
    rcases h with rfl | rfl | rfl | rfl | rfl | rfl
    · exact .inr (.inl ⟨rfl, hk.o, rfl⟩)
    · exact .inl ⟨rfl, by show (X i).k.s.toNat < 256; omega, rfl⟩
    · exact .inl ⟨rfl, by show Ent.b2n (X i).k.u < 256; omega, rfl⟩
    · exact .inl ⟨rfl, by show (X i).k.c.toNat < 256; omega, rfl⟩
    · obtain ⟨A, c, e, h1, _, _, h2⟩ := hk.a
      exact .inr (.inr (.inr ⟨rfl, rfl, A, c, e, h1, h2, by show (X i).k.a.length ≤ 255; omega⟩))
    · obtain ⟨A, c, e, h1, _, _, h2⟩ := hk.r
      exact .inr (.inr (.inr ⟨rfl, rfl, A, c, e, h1, h2, by show (X i).k.r.length ≤ 255; omega⟩))
def RqR (y : World) (gb n ep c : Nat) (A : Option Addr) (X : Nat → Kx) (s5 s6 : Value) (wr : World) : Prop := ∃ (j : Nat) (A' : Option Addr) (c' : Nat), j ≤ n ∧ s6 = .int .i64 (j : Int) ∧ s5 = .slice A' (2 + j * 6) c' ∧ FRow wr y.heap.size (.slice A' (2 + j * 6) c') (2 + j * 6) ((fF ep n X j).flatMap Fld.cells) ∧ Below y.heap.size y wr
set_option maxHeartbeats 8000000 in
theorem rputf_any (ep : Nat) (A : Option Addr) (n c : Nat) (T : Nat → Kp) (w : World) (hF : FV w A n c T) (hep : ep < 4294967296) : Calls Try.prog 33 #[.agg #[.int .u32 (ep : Int), .slice A n c]] w (PutPost w ep n T) := by
  have HF := Lib.hid (hF.below (below1 w (.cells #[.int .u32 (ep : Int), .slice A n c] 25)))
  have BB := Lib.hid (below1 w (.cells #[.int .u32 (ep : Int), .slice A n c] 25))
  have LF := Lib.hid (Lies.made w 25 #[.int .u32 (ep : Int), .slice A n c])
  have CK := Lib.hid (fun W (h : FV W A n c T) => rcheck_fence ep A n c T W h)
  obtain ⟨l0, l1⟩ := LF.out.cells2
  clear hF
  unfold PutPost
  cases hok : okB n T
  · have h2 : chkC n T = 2 := by unfold chkC; rw [hok]; rfl
    rw [h2] at CK ⊢
    rw [if_neg (by decide)]
    go_enter Try.func33, Try.ntmps33
    go_wp2_with fail
    with_reducible refine (CK.out _ HF.out).mono ?_
    rintro x w2 ⟨rfl, hb⟩
    have B2 := Lib.hid (BB.out.trans (hb.mono BB.out.size))
    clear hb
    go_wp2
    go_ret2
    exact ⟨_, rfl, Own.nil _ _, B2.out⟩
  · have h2 : chkC n T = 0 := by unfold chkC; rw [hok]; rfl
    rw [h2] at CK ⊢
    rw [if_pos rfl]
    have HOK := Lib.hid ((okB_iff n T).1 hok)
    have hn2 : n ≤ 200 := HOK.out.1
    clear hok h2
    go_enter Try.func33, Try.ntmps33
    go_wp2_with fail
    with_reducible refine (CK.out _ HF.out).mono ?_
    rintro x y ⟨rfl, hb⟩
    have BY := Lib.hid (BB.out.trans (hb.mono BB.out.size))
    have LFy := Lib.hid (LF.out.below hb LF.out.lt)
    have HFy := Lib.hid (HF.out.below hb)
    clear hb l0 l1 LF HF BB CK
    obtain ⟨hnc, hcm, -, X, hX, hXk⟩ := HFy.out
    have HX := Lib.hid hX
    have HXK := Lib.hid hXk
    clear hX hXk hnc hcm
    obtain ⟨l0, l1⟩ := LFy.out.cells2
    have LB := Lib.hid (Lies.made y 101 #[.int .i64 4, .int .u64 (ep : Int), .slice none 0 0, .int .i64 1, .int .u64 (n : Int), .slice none 0 0])
    have B1 := Lib.hid (below1 y (.cells #[.int .i64 4, .int .u64 (ep : Int), .slice none 0 0, .int .i64 1, .int .u64 (n : Int), .slice none 0 0] 101))
    go_wp2_with fail
    clear l0 l1
    go_loopw [5, 6] (RqR y w.heap.size n ep c A X) (fun _ i _ => n - (intOf i).toNat)
    case atStart => exact ⟨0, _, _, by omega, rfl, rfl, frow_made LB.out (Nat.le_refl _) rfl (by omega), B1.out⟩
    case round =>
      clear LB B1
      obtain ⟨j, A', c', hj, rfl, rfl, hr, hb⟩ := hrel
      have RW := Lib.hid hr
      have Q := Lib.hid hb
      clear hr hb
      have LFr := Lib.hid (LFy.out.below Q.out LFy.out.lt)
      obtain ⟨l0, l1⟩ := LFr.out.cells2
      by_cases hlt : j < n
      · have hi : (j : Int) < (n : Int) := by omega
        obtain ⟨b, off, rfl, -⟩ := HX.out.1 (by omega)
        have HR := Lib.hid ((HX.out.below Q.out).at j hlt)
        have HV : Hid (vk (X j).k = true) := Lib.hid (by rw [HXK.out j hlt]; exact (HOK.out.2 j hlt).1)
        have HC := Lib.hid (fF_cells ep n X j)
        obtain ⟨xA, xc, e1, -⟩ := (HX.out.2 j hlt).a
        obtain ⟨xB, xd, e2, -⟩ := (HX.out.2 j hlt).r
        have hxo := (HX.out.2 j hlt).o
        obtain ⟨xx, hxx⟩ : ∃ q, X j = q := ⟨_, rfl⟩
        rw [hxx] at HR HV HC e1 e2 hxo
        clear hxx
        obtain ⟨⟨xo, xs, xu, xa, xq, xr⟩, xK, xD⟩ := xx
        dsimp only at HR e1 e2 hxo
        subst e1 e2
        have hv := (vk_iff _).1 HV.out
        dsimp only at hv
        obtain ⟨sn, rfl⟩ : ∃ m : Nat, xs = (m : Int) := ⟨xs.toNat, by omega⟩
        obtain ⟨qn, rfl⟩ : ∃ m : Nat, xq = (m : Int) := ⟨xq.toNat, by omega⟩
        have hs15 : sn ≤ 15 := by omega
        have hq2 : qn ≤ 2 := by omega
        unfold fK at HC
        dsimp only at HC
        rw [Int.toNat_natCast, Int.toNat_natCast] at HC
        obtain ⟨q0, q1, q2, q3, q4, q5⟩ := HR.out
        obtain ⟨xn, hxn⟩ : ∃ q, xa.length = q := ⟨_, rfl⟩
        obtain ⟨xm, hxm⟩ : ∃ q, xr.length = q := ⟨_, rfl⟩
        rw [hxn] at q3 HC
        rw [hxm] at q5 HC
        clear hxn hxm HR HV hv
        cases xu
        · have HCc : Hid ((fF ep n X (j + 1)).flatMap Fld.cells = (fF ep n X j).flatMap Fld.cells ++ (#[.int .i64 4, .int .u64 (xo : Int), .slice none 0 0, .int .i64 1, .int .u64 (sn : Int), .slice none 0 0, .int .i64 1, .int .u64 0, .slice none 0 0, .int .i64 1, .int .u64 (qn : Int), .slice none 0 0, .int .i64 0, .int .u64 0, .slice xA xn xc, .int .i64 0, .int .u64 0, .slice xB xm xd] : Array Value).toList) := HC
          have RW3 := Lib.hid (frow_alloc (frow_alloc (frow_alloc RW.out (.cells #[.int .u32 (xo : Int), .int .i64 (sn : Int), .bool false, .slice xA xn xc, .int .i64 (qn : Int), .slice xB xm xd] 34)) (.cells #[.int .i64 1, .int .u64 0, .slice none 0 0] 101)) (.cells #[.int .i64 4, .int .u64 (xo : Int), .slice none 0 0, .int .i64 1, .int .u64 (sn : Int), .slice none 0 0, .int .i64 1, .int .u64 0, .slice none 0 0, .int .i64 1, .int .u64 (qn : Int), .slice none 0 0, .int .i64 0, .int .u64 0, .slice xA xn xc, .int .i64 0, .int .u64 0, .slice xB xm xd] 101))
          have LC3 : Hid (Lies (((wr.alloc (.cells #[.int .u32 (xo : Int), .int .i64 (sn : Int), .bool false, .slice xA xn xc, .int .i64 (qn : Int), .slice xB xm xd] 34)).alloc (.cells #[.int .i64 1, .int .u64 0, .slice none 0 0] 101)).alloc (.cells #[.int .i64 4, .int .u64 (xo : Int), .slice none 0 0, .int .i64 1, .int .u64 (sn : Int), .slice none 0 0, .int .i64 1, .int .u64 0, .slice none 0 0, .int .i64 1, .int .u64 (qn : Int), .slice none 0 0, .int .i64 0, .int .u64 0, .slice xA xn xc, .int .i64 0, .int .u64 0, .slice xB xm xd] 101)) (wr.heap.size + 2) 101 #[.int .i64 4, .int .u64 (xo : Int), .slice none 0 0, .int .i64 1, .int .u64 (sn : Int), .slice none 0 0, .int .i64 1, .int .u64 0, .slice none 0 0, .int .i64 1, .int .u64 (qn : Int), .slice none 0 0, .int .i64 0, .int .u64 0, .slice xA xn xc, .int .i64 0, .int .u64 0, .slice xB xm xd]) := Lib.hid (by have h := Lies.made ((wr.alloc (.cells #[.int .u32 (xo : Int), .int .i64 (sn : Int), .bool false, .slice xA xn xc, .int .i64 (qn : Int), .slice xB xm xd] 34)).alloc (.cells #[.int .i64 1, .int .u64 0, .slice none 0 0] 101)) 101 #[.int .i64 4, .int .u64 (xo : Int), .slice none 0 0, .int .i64 1, .int .u64 (sn : Int), .slice none 0 0, .int .i64 1, .int .u64 0, .slice none 0 0, .int .i64 1, .int .u64 (qn : Int), .slice none 0 0, .int .i64 0, .int .u64 0, .slice xA xn xc, .int .i64 0, .int .u64 0, .slice xB xm xd]; rw [show ((wr.alloc (.cells #[.int .u32 (xo : Int), .int .i64 (sn : Int), .bool false, .slice xA xn xc, .int .i64 (qn : Int), .slice xB xm xd] 34)).alloc (.cells #[.int .i64 1, .int .u64 0, .slice none 0 0] 101)).heap.size = wr.heap.size + 2 by simp] at h; exact h)
          have SZ3 : Hid (y.heap.size ≤ (((wr.alloc (.cells #[.int .u32 (xo : Int), .int .i64 (sn : Int), .bool false, .slice xA xn xc, .int .i64 (qn : Int), .slice xB xm xd] 34)).alloc (.cells #[.int .i64 1, .int .u64 0, .slice none 0 0] 101)).alloc (.cells #[.int .i64 4, .int .u64 (xo : Int), .slice none 0 0, .int .i64 1, .int .u64 (sn : Int), .slice none 0 0, .int .i64 1, .int .u64 0, .slice none 0 0, .int .i64 1, .int .u64 (qn : Int), .slice none 0 0, .int .i64 0, .int .u64 0, .slice xA xn xc, .int .i64 0, .int .u64 0, .slice xB xm xd] 101)).heap.size) := Lib.hid (Nat.le_trans Q.out.size (by simp; omega))
          have Q3 := Lib.hid (((Q.out.alloc Q.out.size (.cells #[.int .u32 (xo : Int), .int .i64 (sn : Int), .bool false, .slice xA xn xc, .int .i64 (qn : Int), .slice xB xm xd] 34)).alloc (Nat.le_trans Q.out.size (by simp)) (.cells #[.int .i64 1, .int .u64 0, .slice none 0 0] 101)).alloc (Nat.le_trans Q.out.size (by simp; omega)) (.cells #[.int .i64 4, .int .u64 (xo : Int), .slice none 0 0, .int .i64 1, .int .u64 (sn : Int), .slice none 0 0, .int .i64 1, .int .u64 0, .slice none 0 0, .int .i64 1, .int .u64 (qn : Int), .slice none 0 0, .int .i64 0, .int .u64 0, .slice xA xn xc, .int .i64 0, .int .u64 0, .slice xB xm xd] 101))
          obtain ⟨k0, k1, k2, k3, k4, k5⟩ := Lies.cells6 ((Lies.made wr 34 #[.int .u32 (xo : Int), .int .i64 (sn : Int), .bool false, .slice xA xn xc, .int .i64 (qn : Int), .slice xB xm xd]).alloc (.cells #[.int .i64 1, .int .u64 0, .slice none 0 0] 101))
          skip
          have HONE : Hid (∀ u ∈ (#[.int .i64 4, .int .u64 (xo : Int), .slice none 0 0, .int .i64 1, .int .u64 (sn : Int), .slice none 0 0, .int .i64 1, .int .u64 0, .slice none 0 0, .int .i64 1, .int .u64 (qn : Int), .slice none 0 0, .int .i64 0, .int .u64 0, .slice xA xn xc, .int .i64 0, .int .u64 0, .slice xB xm xd] : Array Value).toList, u.oneCell' = true) := Lib.hid (by
            intro u hu
            simp only [List.mem_cons, List.not_mem_nil, or_false] at hu
            rcases hu with h | h | h | h | h | h | h | h | h | h | h | h | h | h | h | h | h | h <;> (subst h; rfl))
          go_wp2_with (first
            | ((show wpList Try.prog _ _ (⟨some 61, .call { callee := .builtin .append, args := #[.tmp 40, .tmp 60], argTypes := #[102, 102] }, _, _, _, none⟩ :: _) _ _); (refine wpl_appendF (some 61) _ _ _ (.tmp 40) (.tmp 60) y.heap.size (.slice A' (2 + j * 6) c') (2 + j * 6) _ (wr.heap.size + 2) 6 #[.int .i64 4, .int .u64 (xo : Int), .slice none 0 0, .int .i64 1, .int .u64 (sn : Int), .slice none 0 0, .int .i64 1, .int .u64 0, .slice none 0 0, .int .i64 1, .int .u64 (qn : Int), .slice none 0 0, .int .i64 0, .int .u64 0, .slice xA xn xc, .int .i64 0, .int .u64 0, .slice xB xm xd] ?hsfalse ?hxfalse RW3.out LC3.out rfl ?hofalse ?hmfalse SZ3.out ?_); (case hsfalse => rfl); (case hxfalse => rfl); (case hofalse => exact HONE.out); (case hmfalse => omega); (intro v' w4 ho hg); (have HO4 := Lib.hid ho); (have HG4 := Lib.hid hg); (clear ho hg)))
          obtain ⟨A2, c2, hv2⟩ := frow_slice HO4.out
          subst hv2
          rw [← HCc.out] at HO4
          go_roundw
          case rel => exact ⟨j + 1, A2, c2, by omega, by go_num, by rw [show 2 + (j + 1) * 6 = 2 + j * 6 + 6 by omega], by rw [show 2 + (j + 1) * 6 = 2 + j * 6 + 6 by omega]; exact HO4.out, Q3.out.grown HG4.out SZ3.out (fun k hk => frow_block RW3.out k hk)⟩
          case measure => simp [intOf]; omega
        · have HCc : Hid ((fF ep n X (j + 1)).flatMap Fld.cells = (fF ep n X j).flatMap Fld.cells ++ (#[.int .i64 4, .int .u64 (xo : Int), .slice none 0 0, .int .i64 1, .int .u64 (sn : Int), .slice none 0 0, .int .i64 1, .int .u64 1, .slice none 0 0, .int .i64 1, .int .u64 (qn : Int), .slice none 0 0, .int .i64 0, .int .u64 0, .slice xA xn xc, .int .i64 0, .int .u64 0, .slice xB xm xd] : Array Value).toList) := HC
          have RW3 := Lib.hid (frow_alloc (frow_alloc (frow_alloc RW.out (.cells #[.int .u32 (xo : Int), .int .i64 (sn : Int), .bool true, .slice xA xn xc, .int .i64 (qn : Int), .slice xB xm xd] 34)) (.cells #[.int .i64 1, .int .u64 1, .slice none 0 0] 101)) (.cells #[.int .i64 4, .int .u64 (xo : Int), .slice none 0 0, .int .i64 1, .int .u64 (sn : Int), .slice none 0 0, .int .i64 1, .int .u64 1, .slice none 0 0, .int .i64 1, .int .u64 (qn : Int), .slice none 0 0, .int .i64 0, .int .u64 0, .slice xA xn xc, .int .i64 0, .int .u64 0, .slice xB xm xd] 101))
          have LC3 : Hid (Lies (((wr.alloc (.cells #[.int .u32 (xo : Int), .int .i64 (sn : Int), .bool true, .slice xA xn xc, .int .i64 (qn : Int), .slice xB xm xd] 34)).alloc (.cells #[.int .i64 1, .int .u64 1, .slice none 0 0] 101)).alloc (.cells #[.int .i64 4, .int .u64 (xo : Int), .slice none 0 0, .int .i64 1, .int .u64 (sn : Int), .slice none 0 0, .int .i64 1, .int .u64 1, .slice none 0 0, .int .i64 1, .int .u64 (qn : Int), .slice none 0 0, .int .i64 0, .int .u64 0, .slice xA xn xc, .int .i64 0, .int .u64 0, .slice xB xm xd] 101)) (wr.heap.size + 2) 101 #[.int .i64 4, .int .u64 (xo : Int), .slice none 0 0, .int .i64 1, .int .u64 (sn : Int), .slice none 0 0, .int .i64 1, .int .u64 1, .slice none 0 0, .int .i64 1, .int .u64 (qn : Int), .slice none 0 0, .int .i64 0, .int .u64 0, .slice xA xn xc, .int .i64 0, .int .u64 0, .slice xB xm xd]) := Lib.hid (by have h := Lies.made ((wr.alloc (.cells #[.int .u32 (xo : Int), .int .i64 (sn : Int), .bool true, .slice xA xn xc, .int .i64 (qn : Int), .slice xB xm xd] 34)).alloc (.cells #[.int .i64 1, .int .u64 1, .slice none 0 0] 101)) 101 #[.int .i64 4, .int .u64 (xo : Int), .slice none 0 0, .int .i64 1, .int .u64 (sn : Int), .slice none 0 0, .int .i64 1, .int .u64 1, .slice none 0 0, .int .i64 1, .int .u64 (qn : Int), .slice none 0 0, .int .i64 0, .int .u64 0, .slice xA xn xc, .int .i64 0, .int .u64 0, .slice xB xm xd]; rw [show ((wr.alloc (.cells #[.int .u32 (xo : Int), .int .i64 (sn : Int), .bool true, .slice xA xn xc, .int .i64 (qn : Int), .slice xB xm xd] 34)).alloc (.cells #[.int .i64 1, .int .u64 1, .slice none 0 0] 101)).heap.size = wr.heap.size + 2 by simp] at h; exact h)
          have SZ3 : Hid (y.heap.size ≤ (((wr.alloc (.cells #[.int .u32 (xo : Int), .int .i64 (sn : Int), .bool true, .slice xA xn xc, .int .i64 (qn : Int), .slice xB xm xd] 34)).alloc (.cells #[.int .i64 1, .int .u64 1, .slice none 0 0] 101)).alloc (.cells #[.int .i64 4, .int .u64 (xo : Int), .slice none 0 0, .int .i64 1, .int .u64 (sn : Int), .slice none 0 0, .int .i64 1, .int .u64 1, .slice none 0 0, .int .i64 1, .int .u64 (qn : Int), .slice none 0 0, .int .i64 0, .int .u64 0, .slice xA xn xc, .int .i64 0, .int .u64 0, .slice xB xm xd] 101)).heap.size) := Lib.hid (Nat.le_trans Q.out.size (by simp; omega))
          have Q3 := Lib.hid (((Q.out.alloc Q.out.size (.cells #[.int .u32 (xo : Int), .int .i64 (sn : Int), .bool true, .slice xA xn xc, .int .i64 (qn : Int), .slice xB xm xd] 34)).alloc (Nat.le_trans Q.out.size (by simp)) (.cells #[.int .i64 1, .int .u64 1, .slice none 0 0] 101)).alloc (Nat.le_trans Q.out.size (by simp; omega)) (.cells #[.int .i64 4, .int .u64 (xo : Int), .slice none 0 0, .int .i64 1, .int .u64 (sn : Int), .slice none 0 0, .int .i64 1, .int .u64 1, .slice none 0 0, .int .i64 1, .int .u64 (qn : Int), .slice none 0 0, .int .i64 0, .int .u64 0, .slice xA xn xc, .int .i64 0, .int .u64 0, .slice xB xm xd] 101))
          obtain ⟨k0, k1, k2, k3, k4, k5⟩ := Lies.cells6 ((Lies.made wr 34 #[.int .u32 (xo : Int), .int .i64 (sn : Int), .bool true, .slice xA xn xc, .int .i64 (qn : Int), .slice xB xm xd]).alloc (.cells #[.int .i64 1, .int .u64 0, .slice none 0 0] 101))
          obtain ⟨h0, h1, h2, h3, h4, h5⟩ := Lies.cells6 ((Lies.made wr 34 #[.int .u32 (xo : Int), .int .i64 (sn : Int), .bool true, .slice xA xn xc, .int .i64 (qn : Int), .slice xB xm xd]).alloc (.cells #[.int .i64 1, .int .u64 1, .slice none 0 0] 101))
          have HONE : Hid (∀ u ∈ (#[.int .i64 4, .int .u64 (xo : Int), .slice none 0 0, .int .i64 1, .int .u64 (sn : Int), .slice none 0 0, .int .i64 1, .int .u64 1, .slice none 0 0, .int .i64 1, .int .u64 (qn : Int), .slice none 0 0, .int .i64 0, .int .u64 0, .slice xA xn xc, .int .i64 0, .int .u64 0, .slice xB xm xd] : Array Value).toList, u.oneCell' = true) := Lib.hid (by
            intro u hu
            simp only [List.mem_cons, List.not_mem_nil, or_false] at hu
            rcases hu with h | h | h | h | h | h | h | h | h | h | h | h | h | h | h | h | h | h <;> (subst h; rfl))
          go_wp2_with (first
            | ((show wpList Try.prog _ _ (⟨some 61, .call { callee := .builtin .append, args := #[.tmp 40, .tmp 60], argTypes := #[102, 102] }, _, _, _, none⟩ :: _) _ _); (refine wpl_appendF (some 61) _ _ _ (.tmp 40) (.tmp 60) y.heap.size (.slice A' (2 + j * 6) c') (2 + j * 6) _ (wr.heap.size + 2) 6 #[.int .i64 4, .int .u64 (xo : Int), .slice none 0 0, .int .i64 1, .int .u64 (sn : Int), .slice none 0 0, .int .i64 1, .int .u64 1, .slice none 0 0, .int .i64 1, .int .u64 (qn : Int), .slice none 0 0, .int .i64 0, .int .u64 0, .slice xA xn xc, .int .i64 0, .int .u64 0, .slice xB xm xd] ?hstrue ?hxtrue RW3.out LC3.out rfl ?hotrue ?hmtrue SZ3.out ?_); (case hstrue => rfl); (case hxtrue => rfl); (case hotrue => exact HONE.out); (case hmtrue => omega); (intro v' w4 ho hg); (have HO4 := Lib.hid ho); (have HG4 := Lib.hid hg); (clear ho hg)))
          obtain ⟨A2, c2, hv2⟩ := frow_slice HO4.out
          subst hv2
          rw [← HCc.out] at HO4
          go_roundw
          case rel => exact ⟨j + 1, A2, c2, by omega, by go_num, by rw [show 2 + (j + 1) * 6 = 2 + j * 6 + 6 by omega], by rw [show 2 + (j + 1) * 6 = 2 + j * 6 + 6 by omega]; exact HO4.out, Q3.out.grown HG4.out SZ3.out (fun k hk => frow_block RW3.out k hk)⟩
          case measure => simp [intOf]; omega
      · have d0 : decide ((j : Int) < (n : Int)) = false := by rw [decide_eq_false_iff_not]; omega
        have d0b : decide (j < n) = false := by rw [decide_eq_false_iff_not]; omega
        have hjn : j = n := by omega
        rw [hjn] at RW
        have HM : Hid (∀ f ∈ fF ep n X n, f.May wr) := Lib.hid (fF_may hep (by omega) (fun i hi => ⟨((HX.out.2 i hi).below Q.out), by rw [HXK.out i hi]; exact (HOK.out.2 i hi).1⟩))
        obtain ⟨g, cap, hv, hfl⟩ := frow_flds (fs := fF ep n X n) (by rw [fF_len]; exact RW.out) (by rw [fF_len]; omega) HM.out
        rw [fF_len] at hv
        rw [hjn]
        injection hv with z1 z2 z3
        subst z1 z3
        have CD := Lib.hid (rput_any g (2 + n * 6) c' (fF ep n X n) wr hfl (fF_len ep n X n) (by omega))
        have HEN : Hid ((fF ep n X n).flatMap Fld.enc = putS ep n T) := Lib.hid (by rw [fF_enc, encL_congr (T' := T) HXK.out]; rfl)
        unfold OnePost at CD
        rw [HEN.out] at CD
        clear hfl z2
        rw [hjn] at d0 d0b
        go_wp2_with fail
        with_reducible refine CD.out.mono ?_
        rintro x w5 ⟨v, rfl, ho, hb⟩
        have HO := Lib.hid ho
        have Q5 := Lib.hid (Q.out.trans (hb.mono Q.out.size))
        have HSZ := Lib.hid (Nat.le_trans BY.out.size Q.out.size)
        clear ho hb
        go_wp2
        go_ret2
        exact ⟨_, rfl, HO.out.mono HSZ.out, BY.out.trans (Q5.out.mono BY.out.size)⟩

end Go.Proofs.Ytfcfejmammohpaa
