/-
  Texts of one proof, in their order: PuSortE, PuAppE, PuTaken, PuAccts, CrewI, CBook, CrewS, CFwd.
-/
import Derived.Test.YtpbclmnhkmcknaaGreatZ16
namespace Go.Proofs.YtpbclmnhkmcknaaGreat.Pu
open Go.Proofs Go.Shelf Go.RowKit Go.Lib Go.Sort
set_option maxRecDepth 100000
set_option linter.unusedVariables false
set_option linter.unusedSimpArgs false

theorem encG_len (x : Kd) : (encG x).length = 3 := rfl
theorem encH_len (x : Hd) : (encH x).length = 4 := rfl
theorem encG_one (x : Kd) : ∀ v ∈ encG x, v.oneCell' = true := by
  intro v hv
  simp [encG] at hv
  rcases hv with rfl | rfl | rfl <;> rfl
theorem encH_one (x : Hd) : ∀ v ∈ encH x, v.oneCell' = true := by
  intro v hv
  simp [encH] at hv
  rcases hv with rfl | rfl | rfl | rfl <;> rfl
abbrev OwnG (w : World) (B : Nat) (v : Value) (l : List Kd) : Prop := OwnE encG 87 3 w B v l
abbrev OwnR (w : World) (B : Nat) (v : Value) (l : List Hd) : Prop := OwnE encH 225 4 w B v l

def SortPost {α : Type} (lt : α → α → Bool) (own : World → Value → List α → Prop) (w : World) (v : Value) (l : List α) (e : Ending) (w' : World) : Prop :=
  e = .returned (.tuple #[]) ∧ ∃ l', l'.Perm l ∧ l'.Pairwise (fun x y => lt y x = false) ∧ own w' v l' ∧ w.grownBy w' v.ownBlock

theorem sortG_any (B : Nat) (v : Value) (l : List Kd) (w : World) (h : OwnG w B v l) (hl : l.length ≤ 1000000) :
    Calls Tryz.prog 120 #[v, .func (.func 121) #[] #[]] w (SortPost (ltOf cfG) (fun w' v l' => OwnG w' B v l') w v l) := by
  rcases h.form with ⟨rfl, rfl⟩ | ⟨g, cap, cur, rfl, h1, h2, h3, h4, h5, h6⟩
  · have hcon := AnyF.slices_SortFunc_none { sortGoodL with } none 0 (.func (.func 121) #[] #[]) w
    change Calls Tryz.prog 120 _ _ _ at hcon
    refine hcon.mono ?_
    rintro e w' ⟨rfl, rfl⟩
    exact ⟨rfl, [], List.Perm.refl _, List.Pairwise.nil, h, World.grownBy.refl _ _⟩
  · have eg : ∀ args w, (callFunc 121 args).run Tryz.prog w = .ok (.enter 121 args) w := enters_of Tryz.func121 (by kernel_rfl) rfl
    have hcon := AnyQ.slices_SortFunc sortGoodL 3 Tryz.isAgg87 Tryz.sizeOf87 encG encG_len encG_one cfG swoG 121 #[] g 0 cap l.toArray w eg (fun _ _ _ _ x y => close33 x y _) (holdsK_of encG_len (by decide) h2 h6) h2.lt (by simp; omega)
    change Calls Tryz.prog 120 _ _ _ at hcon
    rw [show l.toArray.size = l.length from by simp] at hcon
    refine hcon.mono ?_
    rintro e w' ⟨rfl, d', n, os, hp, hs, rfl⟩
    obtain ⟨p1, p2⟩ := perm_sorted (l := l) (by simpa using hp) (by simpa using hs)
    obtain ⟨cur', c1, c2, c3⟩ := sorted_form (enc := encG) (k := 3) (n := n) (os := os) d'.toList encG_len (by decide) h2 (by rw [p1.length_eq]; omega)
    rw [Array.toArray_toList] at c1
    refine ⟨rfl, d'.toList, p1, p2, ⟨by rw [flat_len encG_len], .inr ⟨g, cap, cur', by rw [p1.length_eq], h1, c1, by rw [p1.length_eq]; exact h3, h4, by rw [c2]; exact h5, c3⟩⟩, grownBy_sortK d'⟩

theorem goods_eq {K L : List Kd} {l' : List Kd} (hs : KSort K) (hp : L.Perm K) (h1 : l'.Perm L) (h2 : l'.Pairwise (fun x y => ltOf cfG y x = false)) : l' = K := by
  have hp2 : l'.Perm K := h1.trans hp
  refine List.Perm.eq_of_pairwise (le := fun x y => ltOf cfG y x = false) (fun a b ha hb q1 q2 => ?_) h2 ?_ hp2
  · rw [ltG] at q1 q2
    simp only [decide_eq_false_iff_not] at q1 q2
    refine hs.uniq (hp2.mem_iff.1 ha) hb ?_
    refine Classical.byContradiction fun hne => q1 ?_
    exact nm_tri q2 hne
  · refine hs.imp fun hlt => ?_
    rw [ltG]
    exact decide_eq_false (nm_asymm hlt)
theorem holds_eq {H L : List Hd} {l' : List Hd} (hs : HSort H) (hp : L.Perm H) (h1 : l'.Perm L) (h2 : l'.Pairwise (fun x y => ltOf cfH y x = false)) : l' = H := by
  have hp2 : l'.Perm H := h1.trans hp
  refine List.Perm.eq_of_pairwise (le := fun x y => ltOf cfH y x = false) (fun a b ha hb q1 q2 => ?_) h2 ?_ hp2
  · rw [ltH] at q1 q2
    simp only [decide_eq_false_iff_not] at q1 q2
    exact hs.uniq (hp2.mem_iff.1 ha) hb (by omega)
  · refine hs.imp fun hlt => ?_
    rw [ltH]
    exact decide_eq_false (by omega)
end Go.Proofs.YtpbclmnhkmcknaaGreat.Pu

namespace Go.Proofs.YtpbclmnhkmcknaaGreat.Pu
open Go.Proofs Go.RowKit Go.Maps
set_option maxRecDepth 100000
set_option linter.unusedVariables false

theorem wpl_appG {ops : Array Oper} {rest : List Oper} {a : Act} {w : World} {Q : Exit → Act → World → Prop} (dst : Option Tmp) (ty : TypeId) (pos : String) (aft : Array Edge) (s x : Operand)
    (B : Nat) (v : Value) (l : List Kd) (g : Nat) (n : List UInt8) (f z : Int)
    (hs : a.eval s = v) (hx : a.eval x = .slice (some ⟨g, 0, none⟩) 1 1) (hown : OwnG w B v l) (hsrc : Lies w g 87 #[encStr n, .int .i64 f, .int .i64 z]) (hsm : l.length ≤ 100000) (hB : B ≤ w.heap.size)
    (h : ∀ v' w', OwnG w' B v' (l ++ [⟨n, f, z⟩]) → w.grownBy w' v.ownBlock → (v'.ownBlock = v.ownBlock ∨ v'.ownBlock = some w.heap.size) → wpList Tryz.prog ops Q rest (a.put dst v') w') :
    wpList Tryz.prog ops Q (⟨dst, .call { callee := .builtin .append, args := #[s, x], argTypes := #[40, 40] }, ty, pos, aft, none⟩ :: rest) a w :=
  wpl_app1 40 _ _ 32 Tryz.underlying40 Tryz.type87 rfl rfl rfl rfl (by decide) (by decide) encG_len encG_one dst ty pos aft s x B v l g ⟨n, f, z⟩ hs hx hown hsrc hsm hB h
theorem wpl_appH {ops : Array Oper} {rest : List Oper} {a : Act} {w : World} {Q : Exit → Act → World → Prop} (dst : Option Tmp) (ty : TypeId) (pos : String) (aft : Array Edge) (s x : Operand)
    (B : Nat) (v : Value) (l : List Hd) (g : Nat) (o : Nat) (n : List UInt8) (f : Int) (z : Nat)
    (hs : a.eval s = v) (hx : a.eval x = .slice (some ⟨g, 0, none⟩) 1 1) (hown : OwnR w B v l) (hsrc : Lies w g 225 #[.int .u32 (o : Int), encStr n, .int .i64 f, .int .i64 (z : Int)]) (hsm : l.length ≤ 100000) (hB : B ≤ w.heap.size)
    (h : ∀ v' w', OwnR w' B v' (l ++ [⟨o, n, f, z⟩]) → w.grownBy w' v.ownBlock → (v'.ownBlock = v.ownBlock ∨ v'.ownBlock = some w.heap.size) → wpList Tryz.prog ops Q rest (a.put dst v') w') :
    wpList Tryz.prog ops Q (⟨dst, .call { callee := .builtin .append, args := #[s, x], argTypes := #[152, 152] }, ty, pos, aft, none⟩ :: rest) a w :=
  wpl_app1 152 _ _ 40 Tryz.underlying152 Tryz.type225 rfl rfl rfl rfl (by decide) (by decide) encH_len encH_one dst ty pos aft s x B v l g ⟨o, n, f, z⟩ hs hx hown hsrc hsm hB h

end Go.Proofs.YtpbclmnhkmcknaaGreat.Pu

namespace Go.Proofs.YtpbclmnhkmcknaaGreat.Pu
open Go.Proofs Go.RowKit Go.Maps
set_option maxRecDepth 100000
set_option linter.unusedVariables false
set_option linter.unusedSimpArgs false

def ksum : List Hd → Int
  | [] => 0
  | h :: r => h.k + ksum r
theorem ksum_perm {L L' : List Hd} (h : L.Perm L') : ksum L = ksum L' := by
  induction h with
  | nil => rfl
  | cons a _ ih => simp only [ksum, ih]
  | swap a b l => simp only [ksum]; omega
  | trans _ _ i1 i2 => exact i1.trans i2
theorem ksum_snoc (h : Hd) : ∀ L : List Hd, ksum (L ++ [h]) = ksum L + h.k
  | [] => by simp [ksum]
  | y :: r => by rw [List.cons_append]; simp only [ksum, ksum_snoc h r]; omega
theorem ksum_bd : ∀ {L : List Hd}, (∀ y ∈ L, 1 ≤ y.k ∧ y.k ≤ 1000000000) → 0 ≤ ksum L ∧ ksum L ≤ 1000000000 * (L.length : Int)
  | [], _ => by simp [ksum]
  | y :: r, h => by
    have h1 := h y (List.mem_cons_self ..)
    have h2 := ksum_bd fun z hz => h z (List.mem_cons_of_mem _ hz)
    simp only [ksum, List.length_cons]
    omega
theorem ksum_st (t : Nat) : ∀ H : List Hd, ksum (stH H t) = tot H t
  | [] => rfl
  | y :: r => by
    have := ksum_st t r
    unfold stH at this ⊢
    rw [List.filter_cons]
    by_cases e : y.t = t
    · rw [if_pos (by simpa using e)]; simp only [ksum, tot, this]; rw [if_pos (by simpa using e)]
    · rw [if_neg (by simpa using e), this]; simp only [tot]; rw [if_neg (by simpa using e)]; omega
theorem stH_len (H : List Hd) (t : Nat) : (stH H t).length ≤ H.length := List.length_filter_le _ _
theorem key_u32 {key : Value} {kl : Lit} (h : keyOf Tryz.prog 52 key = some kl) : ∃ o : Nat, key = .int .u32 (o : Int) ∧ kl = .int .u32 (o : Int) ∧ o < 4294967296 := by
  obtain ⟨x, rfl, rfl, hw⟩ := Maps.keyOf_int_inv Tryz.underlying52 h
  have h1 : 0 ≤ x ∧ x ≤ 4294967295 := by
    have e0 : IntKind.u32.min = 0 := rfl
    have e1 : IntKind.u32.max = 4294967295 := rfl
    simpa [Lit.wf, e0, e1] using hw
  obtain ⟨o, rfl⟩ := Int.eq_ofNat_of_zero_le h1.1
  exact ⟨o, rfl, rfl, by omega⟩

def TR (w0 : World) (b : SB) (q : Ss) (D : DataW Unit) (r : Nat) (v3 : Value) (wr : World) : Prop :=
  ∃ left cnt L, wr.ranges Tryz.prog 52 rH b.p2 r (Maps.size D) D left cnt ∧ MetH (stH q.H 2) left L ∧ L.length + cnt ≤ 1000 ∧ v3 = .int .i64 (ksum L) ∧ Below w0.heap.size w0 wr ∧ r < wr.heap.size ∧ w0.heap.size ≤ r

end Go.Proofs.YtpbclmnhkmcknaaGreat.Pu

namespace Go.Proofs.YtpbclmnhkmcknaaGreat.Pu
open Go.Proofs Go.RowKit Go.Maps
set_option maxRecDepth 100000
set_option linter.unusedVariables false
set_option linter.unusedSimpArgs false

def AcctsPost (w : World) (K : List Kd) (e : Ending) (w' : World) : Prop := ∃ v, e = .returned v ∧ OwnG w' w.heap.size v (K) ∧ Below w.heap.size w w'

/-- The cells of n new goods. -/
def mrowG (n : Nat) : Array Value := madeCells #[.string ⟨#[]⟩, .int .i64 0, .int .i64 0] (n * 3)
theorem run_mrowG (n : Nat) (hn : n ≤ 1000000) (w : World) : (Instr.makeSlice 40 (.int .i64 0) (.int .i64 (n : Int))).run Tryz.prog w = .ok (.slice (some ⟨w.heap.size, 0, none⟩) 0 n) (w.alloc (.cells (mrowG n) 87)) := by
  have := run_make (P := Tryz.prog) w 40 87 _ (.agg #[.string ⟨#[]⟩, .int .i64 0, .int .i64 0]) Tryz.underlying40 Tryz.type87 rfl .i64 .i64 0 (n : Int) (by omega) (by omega) (by show (32 : Int) * (n : Int) ≤ _; omega) (by omega)
  rw [this]
  show Result.ok (Value.slice _ (0 : Int).toNat (n : Int).toNat) (w.alloc (.cells (madeCells #[.string ⟨#[]⟩, .int .i64 0, .int .i64 0] ((n : Int).toNat * 3)) 87)) = _
  rw [Int.toNat_natCast]
  rfl

def GR (w0 : World) (b : SB) (q : Ss) (D : DataW Unit) (r : Nat) (v3 : Value) (wr : World) : Prop :=
  ∃ left cnt L, wr.ranges Tryz.prog 9 rK b.k r (Maps.size D) D left cnt ∧ MetK q.K left L ∧ L.length + cnt ≤ 1000 ∧ OwnG wr w0.heap.size v3 L ∧ Below w0.heap.size w0 wr ∧ r < wr.heap.size ∧ w0.heap.size ≤ r

set_option maxHeartbeats 4000000 in
theorem accts_any (b : SB) (q : Ss) (w : World) (hA : At w b q) (hs : KSort q.K) (hl : q.K.length ≤ 1000) : Calls Tryz.prog 78 #[.pointer (some ⟨b.s, 0, none⟩)] w (AcctsPost w q.K) := by
  have HA := Lib.hid hA
  have HS := Lib.hid hs
  obtain ⟨c0, c1, c2, c3, c4⟩ := hA.c.cells5
  have r1 := hA.ok.len 3
  have r2 := fun W => run_mrowG q.K.length (by omega) W
  have HA1 := Lib.hid (hA.alloc (.cells (mrowG q.K.length) 87))
  obtain ⟨D, hD1, hD2, hD3⟩ := HA1.out.ok
  obtain ⟨d0, d1, d2, d3, d4⟩ := HA1.out.c.cells5
  have HD1 := Lib.hid hD1
  have HD2 := Lib.hid hD2
  have HD3 := Lib.hid hD3
  clear hA hs hD1 hD2 hD3
  go_enter Tryz.func78, Tryz.ntmps78
  go_wp2_with (at_range; refine wpList_range_own _ rfl _ 182 rfl 9 87 lawK Tryz.underlying182 rK b.k (Maps.size D) D rfl HD1.out ?_; intro y hrg0 hg0 hs0)
  go_frame
  rw [size_one] at hrg0 hs0
  rw [size_one]
  have RG := Lib.hid hrg0
  have BY : Hid (Below w.heap.size w y) := Lib.hid ((below1 w (.cells (mrowG q.K.length) 87)).grown hg0 (by simp) (fun k hk => by cases hk))
  have HAy : Hid (At y b q) := Lib.hid (HA1.out.below ⟨hg0.os, hg0.tape, hg0.output, hg0.size, fun k hk => hg0.block k hk (by simp)⟩)
  have OY : Hid (OwnG y w.heap.size (.slice (some ⟨w.heap.size, 0, none⟩) 0 q.K.length) []) := Lib.hid ((OwnE.made w w.heap.size q.K.length _ (Nat.le_refl _) (by unfold maxLen; omega)).grown hg0 (fun b hb => by simp))
  have HYZ : Hid (y.heap.size = w.heap.size + 1 + 1) := Lib.hid hs0
  clear hrg0 hg0 hs0 r1 r2 HA1 HD1 c0 c1 c2 c3 c4 d0 d1 d2 d3 d4
  go_loopw [3] (fun v3 wr => GR w b q D (w.heap.size + 1) v3 wr) (fun _ wr => wr.rangeLeft b.k (w.heap.size + 1))
  case atStart =>
    refine ⟨_, _, [], RG.out, MetK.start HD2.out HS.out, ?_, OY.out, BY.out, by rw [HYZ.out]; omega, by omega⟩
    rw [HD3.out]; simp; omega
  case round =>
    obtain ⟨left, cnt, L, hrg, hM, hc, hO, hB, hr1, hr2⟩ := hrel
    have HM := Lib.hid hM
    have HO := Lib.hid hO
    have HB := Lib.hid hB
    have HRG := Lib.hid hrg
    clear hrg hM hO hB
    go_wp2_with (at_next; refine wpList_next_ranges _ rfl _ rfl 9 lawK rK encStr vK (fun key kl hk => by obtain ⟨x, hx, _⟩ := Maps.keyOf_str Tryz.underlying9 hk; exact ⟨x, hx⟩) (fun v y hv => by obtain ⟨c, rfl, _⟩ := rK_inv hv; exact ⟨c, rfl⟩) b.k (w.heap.size + 1) (Maps.size D) _ _ _ rfl HRG.out ?_ ?_)
    · intro hc0 hl0
      have HL0 := Lib.hid hl0
      clear hl0
      go_wp2_with fail
      with_reducible refine (sortG_any w.heap.size u3 L wr HO.out (by omega)).mono ?_
      rintro e w5 ⟨rfl, l', h1, h2, h3, h4⟩
      have HE := Lib.hid (goods_eq HS.out (HM.out.perm HS.out HL0.out) h1 h2)
      have HO5 := Lib.hid h3
      have HB5 := Lib.hid (HB.out.grown h4 (by omega) (fun k hk => (HO.out.block k hk).1))
      clear h1 h2 h3 h4
      go_wp2
      go_ret
      exact ⟨_, rfl, by rw [← HE.out]; exact HO5.out, HB5.out⟩
    · intro x c kl yd yp w2 cnt2 hkey hlk hv hat hrg2 hlt hg2 hs2 hen
      obtain ⟨x', ex, rfl, hxl⟩ := Maps.keyOf_str Tryz.underlying9 hkey
      obtain rfl : x = x' := encStr_inj ex
      rw [rK_mk] at hv
      obtain ⟨rfl, rfl⟩ : dK c = yd ∧ [] = yp := by simpa using hv
      obtain ⟨hcK, rfl⟩ := HD2.out.entry hat
      have HM2 := Lib.hid (HM.out.step HS.out hcK hlk)
      have HNI : Hid (some (w.heap.size + 1) ≠ u3.ownBlock) := Lib.hid (row_ne_iter HO.out HRG.out)
      have HO2 := Lib.hid (HO.out.grown hg2 (fun b hb e => HNI.out (e.symm.trans hb.symm)))
      have HRG2 := Lib.hid hrg2
      have HB2 := Lib.hid (HB.out.grown hg2 (Nat.le_of_lt (Nat.lt_of_le_of_lt hr2 hr1)) (fun k hk => by injection hk with hk; omega))
      have HZ2 := Lib.hid hs2
      have HLT := Lib.hid hlt
      clear hkey hlk hv hat hrg2 hlt hg2 hs2 ex
      have HO3 := Lib.hid ((HO2.out.alloc (.cells #[encStr c.n, .int .i64 c.m, .int .i64 c.h] 87)).alloc (.cells #[encStr c.n, .int .i64 c.m, .int .i64 c.h] 87))
      have LN := Lib.hid (Lies.made2 w2 (.cells #[encStr c.n, .int .i64 c.m, .int .i64 c.h] 87) 87 #[encStr c.n, .int .i64 c.m, .int .i64 c.h])
      have HSM : Hid (L.length ≤ 100000) := Lib.hid (by omega)
      have HBZ : Hid (w.heap.size ≤ ((w2.alloc (.cells #[encStr c.n, .int .i64 c.m, .int .i64 c.h] 87)).alloc (.cells #[encStr c.n, .int .i64 c.m, .int .i64 c.h] 87)).heap.size) := Lib.hid (by simp; have := HZ2.out; omega)
      go_wp2_with (first
        | ((with_reducible refine wpl_appG (some 26) _ _ _ (.tmp 23) (.tmp 25) w.heap.size u3 L (w2.heap.size + 1) c.n c.m c.h ?hs ?hx HO3.out LN.out HSM.out HBZ.out ?_); (case hs => rfl); (case hx => rfl); (intro v4 w4 ho4 hg4 hb4)))
      go_roundw
      case rel =>
        have hbk : b.k < w.heap.size := HA.out.ok.lt
        have e1 := fun k (h : u3.ownBlock = some k) => (HO.out.block k h).1
        refine ⟨_, _, L ++ [c], ((HRG2.out.alloc _).alloc _).kept hg4 (fun e => by have := e1 _ e.symm; omega) HNI.out, HM2.out, ?_, ho4, ?_, ?_, hr2⟩
        · have := HLT.out
          rw [List.length_append]; simp; omega
        · exact (((HB2.out.alloc (by have := HZ2.out; omega) _).alloc (by have := HZ2.out; simp; omega) _).grown hg4 HBZ.out (fun k hk => e1 k hk))
        · have := hg4.size
          have h2 := HZ2.out
          simp at this
          omega
      case measure =>
        rw [(((HRG2.out.alloc _).alloc _).kept hg4 (fun e => by have := (HO.out.block _ e.symm).1; have hbk : b.k < w.heap.size := HA.out.ok.lt; omega) HNI.out).left_eq, HRG.out.left_eq]
        exact HLT.out

end Go.Proofs.YtpbclmnhkmcknaaGreat.Pu

namespace Go.Proofs.YtpbclmnhkmcknaaGreat
open Go.RowKit
open Fe (Lies Own Bys Reads NF Kx Kp Note)
set_option maxRecDepth 100000
set_option linter.unusedVariables false
set_option linter.unusedSimpArgs false

/-- What holds of a crew. -/
structure CInv (R : List Int) (q : Cq) : Prop where
  s : St.Inv q.s
  p : Pu.Inv q.p
  d : Do.Inv R q.d
  ok : Fe.okT q.f.n q.f.T
  ep : q.f.ep < 4294967296
  sl : q.s.H.length ≤ q.f.n
  pl : q.p.H.length ≤ q.f.n
  dl : q.d.H.length ≤ q.f.n
  el : q.E.length ≤ q.f.n
  ml : q.M.length ≤ q.f.n
  mx : ∀ x ∈ q.M, x.length ≤ 33
theorem CInv.n {R : List Int} {q : Cq} (h : CInv R q) : q.f.n ≤ 200 := h.ok.1

theorem Lies_cells7 {w : World} {g : Nat} {t : TypeId} {z0 z1 z2 z3 z4 z5 z6 : Value} (h : Lies w g t #[z0, z1, z2, z3, z4, z5, z6]) : w.cell? ⟨g, 0, none⟩ = some z0 ∧ w.cell? ⟨g, 1, none⟩ = some z1 ∧ w.cell? ⟨g, 2, none⟩ = some z2 ∧ w.cell? ⟨g, 3, none⟩ = some z3 ∧ w.cell? ⟨g, 4, none⟩ = some z4 ∧ w.cell? ⟨g, 5, none⟩ = some z5 ∧ w.cell? ⟨g, 6, none⟩ = some z6 := ⟨h.cell 0, h.cell 1, h.cell 2, h.cell 3, h.cell 4, h.cell 5, h.cell 6⟩
theorem Lies_free7 {w : World} {g : Nat} {t : TypeId} {cs : Array Value} (h : Lies w g t cs) : w.frozen? ⟨g, 0, none⟩ = false ∧ w.frozen? ⟨g, 1, none⟩ = false ∧ w.frozen? ⟨g, 2, none⟩ = false ∧ w.frozen? ⟨g, 3, none⟩ = false ∧ w.frozen? ⟨g, 4, none⟩ = false ∧ w.frozen? ⟨g, 5, none⟩ = false ∧ w.frozen? ⟨g, 6, none⟩ = false := ⟨h.free 0, h.free 1, h.free 2, h.free 3, h.free 4, h.free 5, h.free 6⟩

theorem encStr_u8s (x : List Nat) : encStr (u8s x) = .string (Fe.str x) := by
  have h := Fe.str_toList x
  rw [ByteArray.toList_eq] at h
  have : Fe.str x = ⟨(u8s x).toArray⟩ := by
    apply ByteArray.ext
    apply Array.toList_inj.1
    rw [h]
    rfl
  rw [this]

/-- Behind a call on a part. -/
def PartPost (w : World) (b : CB) (q' : Cq) (v : Int) (e : Ending) (w' : World) : Prop := e = .returned (.int .i64 v) ∧ CAt w' b q' ∧ Chg b.foot w w'
section
variable {R : List Int} {w : World} {b : CB} {q : Cq}
theorem cr_hold (h : CAt w b q) (hI : CInv R q) (o : Nat) (x : List Nat) (n : Int) (ho : o < 4294967296) (hx : x.length ≤ maxLen) (hn : -9223372036854775808 ≤ n ∧ n ≤ 9223372036854775807) :
    Calls Tryz.prog 160 #[.pointer (some ⟨b.s.s, 0, none⟩), .int .u32 (o : Int), .string (Fe.str x), .int .i64 n] w (PartPost w b { q with s := St.holdS q.s o (u8s x) n } (St.verd (St.holdV q.s o (u8s x) n))) := by
  rw [← encStr_u8s]
  refine (St.hold_any b.s q.s o (u8s x) n w h.s hI.s ho (by rw [u8s_len]; exact hx) hn (by have := hI.sl; have := hI.n; omega)).mono ?_
  rintro e w' ⟨he, hA, hF⟩
  exact ⟨he, h.stock hA hF⟩
theorem cr_free (h : CAt w b q) (hI : CInv R q) (o : Nat) (ho : o < 4294967296) :
    Calls Tryz.prog 156 #[.pointer (some ⟨b.s.s, 0, none⟩), .int .u32 (o : Int)] w (PartPost w b { q with s := St.endS q.s o false } (St.verd (St.endV q.s o))) := by
  refine (St.free_any b.s q.s o w h.s hI.s ho).mono ?_
  rintro e w' ⟨he, hA, hF⟩
  exact ⟨he, h.stock hA hF⟩
theorem cr_ship (h : CAt w b q) (hI : CInv R q) (o : Nat) (ho : o < 4294967296) :
    Calls Tryz.prog 161 #[.pointer (some ⟨b.s.s, 0, none⟩), .int .u32 (o : Int)] w (PartPost w b { q with s := St.endS q.s o true } (St.verd (St.endV q.s o))) := by
  refine (St.ship_any b.s q.s o w h.s hI.s ho).mono ?_
  rintro e w' ⟨he, hA, hF⟩
  exact ⟨he, h.stock hA hF⟩
theorem cr_auth (h : CAt w b q) (hI : CInv R q) (o : Nat) (x : List Nat) (n : Int) (ho : o < 4294967296) (hx : x.length ≤ maxLen) (hn : -9223372036854775808 ≤ n ∧ n ≤ 9223372036854775807) :
    Calls Tryz.prog 162 #[.pointer (some ⟨b.p.s, 0, none⟩), .int .u32 (o : Int), .string (Fe.str x), .int .i64 n] w (PartPost w b { q with p := Pu.authS q.p o (u8s x) n } (Pu.verd (Pu.authV q.p o (u8s x) n))) := by
  rw [← encStr_u8s]
  refine (Pu.auth_any b.p q.p o (u8s x) n w h.p hI.p ho (by rw [u8s_len]; exact hx) hn (by have := hI.pl; have := hI.n; omega)).mono ?_
  rintro e w' ⟨he, hA, hF⟩
  exact ⟨he, h.purse hA hF⟩
theorem cr_capture (h : CAt w b q) (hI : CInv R q) (o : Nat) (ho : o < 4294967296) :
    Calls Tryz.prog 163 #[.pointer (some ⟨b.p.s, 0, none⟩), .int .u32 (o : Int)] w (PartPost w b { q with p := Pu.movS q.p o 0 } (Pu.verd (Pu.movV q.p o 0))) := by
  refine (Pu.capture_any b.p q.p o w h.p hI.p ho (by have := hI.pl; have := hI.n; omega)).mono ?_
  rintro e w' ⟨he, hA, hF⟩
  exact ⟨he, h.purse hA hF⟩
theorem cr_void (h : CAt w b q) (hI : CInv R q) (o : Nat) (ho : o < 4294967296) :
    Calls Tryz.prog 157 #[.pointer (some ⟨b.p.s, 0, none⟩), .int .u32 (o : Int)] w (PartPost w b { q with p := Pu.movS q.p o 1 } (Pu.verd (Pu.movV q.p o 1))) := by
  refine (Pu.void_any b.p q.p o w h.p hI.p ho (by have := hI.pl; have := hI.n; omega)).mono ?_
  rintro e w' ⟨he, hA, hF⟩
  exact ⟨he, h.purse hA hF⟩
theorem cr_refund (h : CAt w b q) (hI : CInv R q) (o : Nat) (ho : o < 4294967296) :
    Calls Tryz.prog 158 #[.pointer (some ⟨b.p.s, 0, none⟩), .int .u32 (o : Int)] w (PartPost w b { q with p := Pu.movS q.p o 2 } (Pu.verd (Pu.movV q.p o 2))) := by
  refine (Pu.refund_any b.p q.p o w h.p hI.p ho (by have := hI.pl; have := hI.n; omega)).mono ?_
  rintro e w' ⟨he, hA, hF⟩
  exact ⟨he, h.purse hA hF⟩
theorem cr_canc (h : CAt w b q) (hI : CInv R q) (o : Nat) (ho : o < 4294967296) :
    Calls Tryz.prog 159 #[.pointer (some ⟨b.d.s, 0, none⟩), .int .u32 (o : Int)] w (PartPost w b { q with d := Do.cancS q.d o } (Do.verd (Do.findH q.d.H o).isSome)) := by
  refine (Do.canc_any R b.d q.d o w h.d hI.d ho).mono ?_
  rintro e w' ⟨he, hA, hF⟩
  exact ⟨he, h.dock hA hF⟩
/-- Behind a booking: day and verdict. -/
def BkPost (w : World) (b : CB) (q : Cq) (o : Nat) (n : Int) (e : Ending) (w' : World) : Prop :=
  e = .returned (.tuple #[.int .i64 (Do.dayI (Do.bookD q.d o 0 n)), .int .i64 (Do.verd (Do.bookD q.d o 0 n).isSome)]) ∧ CAt w' b { q with d := Do.bookS q.d o 0 n } ∧ Chg b.foot w w'
theorem cr_book (h : CAt w b q) (hI : CInv R q) (o : Nat) (n : Int) (ho : o < 4294967296) (hn : -9223372036854775808 ≤ n ∧ n ≤ 9223372036854775807) :
    Calls Tryz.prog 196 #[.pointer (some ⟨b.d.s, 0, none⟩), .int .u32 (o : Int), .int .i64 0, .int .i64 n] w (BkPost w b q o n) := by
  refine (Do.book_any R b.d q.d o 0 n w h.d hI.d ho (by omega) hn (by have := hI.dl; have := hI.n; omega)).mono ?_
  rintro e w' ⟨he, hA, hF⟩
  exact ⟨he, h.dock hA hF⟩
end

end Go.Proofs.YtpbclmnhkmcknaaGreat

namespace Go.Proofs.YtpbclmnhkmcknaaGreat
open Go.RowKit
open Fe (Lies Own Bys Reads NF Kx Kp Note)
set_option maxRecDepth 100000
set_option linter.unusedVariables false
set_option linter.unusedSimpArgs false

/-- Behind a step's work: verdict, reply, and the crew. -/
def WkPost (w : World) (b : CB) (B0 : Nat) (r : Rs) (e : Ending) (w' : World) : Prop :=
  ∃ v b', e = .returned (.tuple #[.int .i64 r.v, v]) ∧ Own w' w.heap.size v r.r ∧ (∀ i, v.ownBlock = some i → ¬ b'.foot i) ∧ b'.c = b.c ∧ CAt w' b' r.q ∧ Chg b.foot w w' ∧ ∀ i, b'.foot i → b.foot i ∨ B0 ≤ i
def UnPost (w : World) (b : CB) (B0 : Nat) (r : Rs) (e : Ending) (w' : World) : Prop :=
  ∃ b', e = .returned (.int .i64 r.v) ∧ b'.c = b.c ∧ CAt w' b' r.q ∧ Chg b.foot w w' ∧ ∀ i, b'.foot i → b.foot i ∨ B0 ≤ i
theorem chg_box {F : Nat → Prop} {w w' : World} {o : Obj} (h : Chg F (w.alloc o) w') : Chg F w w' :=
  (Chg.of (Fe.below1 w o)).trans h fun i hi => .inl hi

set_option maxHeartbeats 4000000 in
theorem book_crew {R : List Int} {b : CB} {q : Cq} (o : Nat) (n : Int) (B0 : Nat) (w : World) (h : CAt w b q) (hI : CInv R q) (ho : o < 4294967296) (hn : 0 ≤ n ∧ n ≤ 1000000000) :
    Calls Tryz.prog 164 #[.pointer (some ⟨b.c, 0, none⟩), .int .u32 (o : Int), .int .i64 n] w (WkPost w b B0 (fwdS q o ⟨5, n, []⟩)) := by
  obtain ⟨c0, c1, c2, c3, c4, c5, c6⟩ := Lies_cells7 h.c
  have C := Lib.hid (cr_book h hI o n ho (by omega))
  have HI := Lib.hid hI
  unfold BkPost at C
  cases hd : Do.bookD q.d o 0 n with
  | none =>
    have hr : fwdS q o ⟨5, n, []⟩ = ⟨2, [], q⟩ := by
      show (match Do.bookD q.d o 0 n with | none => (⟨2, [], q⟩ : Rs) | some d => ⟨1, [d], { q with d := Do.bookS q.d o 0 n }⟩) = _
      rw [hd]
    rw [hr]
    rw [hd] at C
    have hS := Lib.hid (Do.bookS_no hd)
    clear hr hd h hI
    dsimp only [Do.dayI, Option.isSome_none] at C
    go_enter Tryz.func164, Tryz.ntmps164
    go_wp2_with fail
    with_reducible refine C.out.mono ?_
    rintro e w1 ⟨rfl, hA, hC⟩
    rw [hS.out] at hA
    have HA := Lib.hid hA
    have HC := Lib.hid hC
    clear hA hC
    rw [show Do.verd false = 2 from rfl]
    go_wp2
    go_ret2
    exact ⟨_, b, rfl, Own.nil _ _, (fun i hi => by cases hi), rfl, HA.out, HC.out, fun i hi => .inl hi⟩
  | some d =>
    have hr : fwdS q o ⟨5, n, []⟩ = ⟨1, [d], { q with d := Do.bookS q.d o 0 n }⟩ := by
      show (match Do.bookD q.d o 0 n with | none => (⟨2, [], q⟩ : Rs) | some d => ⟨1, [d], { q with d := Do.bookS q.d o 0 n }⟩) = _
      rw [hd]
    rw [hr]
    rw [hd] at C
    have hlt : d < 256 := by
      have h1 := (Do.fday_some.1 (Do.bookD_some.1 hd).2).1
      have h2 := hI.d.fl
      have h3 := hI.d.fz
      omega
    have e8 : IntKind.u8.wrap (d : Int) = (d : Int) := Fe.wrap_u8 d hlt
    clear hr hd h hI
    dsimp only [Do.dayI, Option.isSome_some] at C
    go_enter Tryz.func164, Tryz.ntmps164
    go_wp2_with fail
    with_reducible refine C.out.mono ?_
    rintro e w1 ⟨rfl, hA, hC⟩
    have HA := Lib.hid hA
    have HC := Lib.hid hC
    clear hA hC
    rw [show Do.verd true = 1 from rfl]
    go_wp2
    go_ret2
    refine ⟨_, b, rfl, ?_, (fun i hi hf => by (have h1 : w1.heap.size = i := by (simpa [Value.ownBlock] using hi)); (have h2 := HA.out.foot_lt hf); omega), rfl, HA.out.alloc _, HC.out.trans (Chg.of (Fe.below1 w1 _)) (F := b.foot) (G := b.foot) (fun i hi => .inl hi), fun i hi => .inl hi⟩
    refine Own.made (l := [d]) (Lies.made w1 5 _) HC.out.size (by simpa using hlt) (by unfold maxLen; simp)

theorem verd_some (d : Option Nat) : Do.verd d.isSome = if d.isSome then 1 else 2 := by cases d <;> rfl
/-- 'append' of one element where the order is open. -/
theorem stp_app1 {α : Type} {enc : α → List Value} {e : TypeId} {k : Nat} (t : TypeId) (inf : TypeInfo) (z : Value) (by_ : Nat) (ht : Tryz.prog.underlying t = some (.slice e)) (hi : Tryz.prog.info? e = some inf) (hz : inf.zero = some z) (hsz : inf.size = k) (hby : inf.bytes = by_) (hzs : z.cells.size = k) (hk0 : 0 < k) (hb48 : by_ ≤ 1000)
    (hk : ∀ x, (enc x).length = k) (h1c : ∀ x, ∀ v ∈ enc x, v.oneCell' = true)
    {ops : Array Oper} {a : Act} {w : World} {K : Act → World → Prop} {Q : Exit → Act → World → Prop} {E : Prop} (dst : Option Tmp) (ty : TypeId) (pos : String) (aft : Array Edge) (s x : Operand)
    (B : Nat) (v : Value) (l : List α) (g : Nat) (y : α)
    (hs : a.eval s = v) (hx : a.eval x = .slice (some ⟨g, 0, none⟩) 1 1) (hown : St.OwnE enc e k w B v l) (hsrc : Lies w g e (enc y).toArray) (hsm : l.length ≤ 100000) (hB : B ≤ w.heap.size)
    (h : ∀ v' w', St.OwnE enc e k w' B v' (l ++ [y]) → w.grownBy w' v.ownBlock → (v'.ownBlock = v.ownBlock ∨ v'.ownBlock = some w.heap.size) → K (a.put dst v') w') :
    if Region.wanted ⟨dst, .call { callee := .builtin .append, args := #[s, x], argTypes := #[t, t] }, ty, pos, aft, none⟩ (yielded ops a.tmps) = true then Oper.wp Tryz.prog ⟨dst, .call { callee := .builtin .append, args := #[s, x], argTypes := #[t, t] }, ty, pos, aft, none⟩ a w K Q else E := by
  rw [if_pos (by simp [Region.wanted])]
  have hln : (l.length + 1) * by_ ≤ 100001 * 1000 := Nat.mul_le_mul (by omega) hb48
  obtain ⟨v', w', hr, h2, h3, h4, h5⟩ := run_append_own_at (P := Tryz.prog) w B t ty e _ _ k by_ ht hi hz hsz hby hzs hk0 v l.length (St.flat enc l) hown ⟨g, 0, none⟩ 1 1 (enc y) (by rw [hk]; omega) (fun j u hu => by
    rw [Addr.add_mid, Nat.zero_add, hsrc.cell]
    simpa using hu) (h1c y) (by unfold maxLen; omega) (by omega) hB
  unfold Oper.wp execOp
  simp only [resolve, invoke, builtin, Sem.run_bind, Sem.run_pure, Result.andThen_ok, List.map_toArray, List.map_cons, List.map_nil, hs, hx, hr]
  refine h v' w' ?_ h3 h5
  show w'.ownsRow B e k v' (l ++ [y]).length (St.flat enc (l ++ [y]))
  rw [List.length_append, show St.flat enc (l ++ [y]) = St.flat enc l ++ enc y from by simp [St.flat]]
  exact h2
theorem stp_appV {ops : Array Oper} {a : Act} {w : World} {K : Act → World → Prop} {Q : Exit → Act → World → Prop} {E : Prop} (dst : Option Tmp) (ty : TypeId) (pos : String) (aft : Array Edge) (s x : Operand)
    (v : Value) (l : List Sl) (g : Nat) (y : Sl)
    (hs : a.eval s = v) (hx : a.eval x = .slice (some ⟨g, 0, none⟩) 1 1) (hown : OwnV w 0 v l) (hsrc : Lies w g 22 #[y.v]) (hsm : l.length ≤ 100000)
    (h : ∀ v' w', OwnV w' 0 v' (l ++ [y]) → w.grownBy w' v.ownBlock → (v'.ownBlock = v.ownBlock ∨ v'.ownBlock = some w.heap.size) → K (a.put dst v') w') :
    if Region.wanted ⟨dst, .call { callee := .builtin .append, args := #[s, x], argTypes := #[69, 69] }, ty, pos, aft, none⟩ (yielded ops a.tmps) = true then Oper.wp Tryz.prog ⟨dst, .call { callee := .builtin .append, args := #[s, x], argTypes := #[69, 69] }, ty, pos, aft, none⟩ a w K Q else E :=
  stp_app1 69 _ _ 24 Tryz.underlying69 Tryz.type22 rfl rfl rfl rfl (by decide) (by decide) encV_len encV_one dst ty pos aft s x 0 v l g y hs hx hown hsrc hsm (Nat.zero_le _) h
theorem stp_appF {ops : Array Oper} {a : Act} {w : World} {K : Act → World → Prop} {Q : Exit → Act → World → Prop} {E : Prop} (dst : Option Tmp) (ty : TypeId) (pos : String) (aft : Array Edge) (s x : Operand)
    (v : Value) (l : List Ef) (g : Nat) (y : Ef)
    (hs : a.eval s = v) (hx : a.eval x = .slice (some ⟨g, 0, none⟩) 1 1) (hown : OwnF w 0 v l) (hsrc : Lies w g 83 #[.int .u32 (y.o : Int), .int .i64 y.s, .bool y.u]) (hsm : l.length ≤ 100000)
    (h : ∀ v' w', OwnF w' 0 v' (l ++ [y]) → w.grownBy w' v.ownBlock → (v'.ownBlock = v.ownBlock ∨ v'.ownBlock = some w.heap.size) → K (a.put dst v') w') :
    if Region.wanted ⟨dst, .call { callee := .builtin .append, args := #[s, x], argTypes := #[68, 68] }, ty, pos, aft, none⟩ (yielded ops a.tmps) = true then Oper.wp Tryz.prog ⟨dst, .call { callee := .builtin .append, args := #[s, x], argTypes := #[68, 68] }, ty, pos, aft, none⟩ a w K Q else E :=
  stp_app1 68 _ _ 24 Tryz.underlying68 Tryz.type83 rfl rfl rfl rfl (by decide) (by decide) encF_len encF_one dst ty pos aft s x 0 v l g y hs hx hown hsrc hsm (Nat.zero_le _) h
theorem OwnF_one {w : World} {B : Nat} {v : Value} {l : List Ef} (h : OwnF w B v l) : v.oneCell' = true := by
  rcases St.OwnE.form h with ⟨rfl, _⟩ | ⟨g', cap, cur, rfl, _⟩ <;> rfl
theorem OwnV_one {w : World} {B : Nat} {v : Value} {l : List Sl} (h : OwnV w B v l) : v.oneCell' = true := by
  rcases St.OwnE.form h with ⟨rfl, _⟩ | ⟨g', cap, cur, rfl, _⟩ <;> rfl

end Go.Proofs.YtpbclmnhkmcknaaGreat

namespace Go.Proofs.YtpbclmnhkmcknaaGreat
open Go.RowKit
open Fe (Lies Own Bys Reads NF Kx Kp Note)
set_option maxRecDepth 100000
set_option linter.unusedVariables false
set_option linter.unusedSimpArgs false

theorem own_eq {v v' : Value} {n i : Nat} (h : v'.ownBlock = v.ownBlock ∨ v'.ownBlock = some n) (hi : v'.ownBlock = some i) : v.ownBlock = some i ∨ i = n := by
  rcases h with h | h
  · exact .inl (h ▸ hi)
  · rw [hi] at h; injection h with h; exact .inr h
section
variable {w w' : World} {b : CB} {q : Cq}
theorem CAt.parts (h : CAt w b q) (hs : ∀ i, i < w.heap.size → i ≠ b.c → b.vE.ownBlock ≠ some i → b.vM.ownBlock ≠ some i → w'.heap[i]? = w.heap[i]?) :
    St.At w' b.s q.s ∧ Pu.At w' b.p q.p ∧ Do.At w' b.d q.d ∧ NF w' 0 b.vL b.n b.X ∧ Nts w' b.V q.M := by
  have hk : ∀ i t, Kb w i t → t ≠ some 122 → t ≠ some 83 → t ≠ some 22 → w'.heap[i]? = w.heap[i]? := fun i t hi h1 h2 h3 =>
    hs i hi.lt (hi.ne h.kc h1) (fun e => hi.ne (h.ke e) h2 rfl) (fun e => hi.ne (h.km e) h3 rfl)
  refine ⟨St_same h.s (hk _ _ h.kss (by decide) (by decide) (by decide)) fun i hi => hk i _ (h.ks hi) (by decide) (by decide) (by decide), h.p.same (hk _ _ h.kps (by decide) (by decide) (by decide)) fun i hi => hk i _ (h.kp hi) (by decide) (by decide) (by decide),
    h.d.same (hk _ _ h.kds (by decide) (by decide) (by decide)) fun i hi => ?_, NF_same h.f fun i hi => ?_, h.nt.same fun i hi => hk i _ (h.nt.kb hi) (by decide) (by decide) (by decide)⟩
  · rcases h.kd hi with hi | hi <;> exact hk i _ hi (by decide) (by decide) (by decide)
  · rcases NF_kb h.f hi with hi | hi <;> exact hk i _ hi (by decide) (by decide) (by decide)
/-- A text is noted: w1 has the new slice, w2 the row, w3 the crew's own cell. -/
theorem CAt.addM {w1 w2 w3 : World} {B0 : Nat} {v' : Value} {s : Sl} {l : List Nat} (h : CAt w b q) (hb : Below w.heap.size w w1) (hB0 : B0 ≤ w.heap.size) (hs : Nt w1 s l) (hsB : ∀ i, s.v.ownBlock = some i → B0 ≤ i) (ho : OwnV w2 0 v' (b.V ++ [s])) (hg : w1.grownBy w2 b.vM.ownBlock)
    (hv : v'.ownBlock = b.vM.ownBlock ∨ v'.ownBlock = some w1.heap.size) (hp : St.PutW w2 w3 b.c 122 #[.pointer (some ⟨b.s.s, 0, none⟩), .pointer (some ⟨b.p.s, 0, none⟩), .pointer (some ⟨b.d.s, 0, none⟩), .int .u32 (q.f.ep : Int), b.vL, b.vE, v']) :
    CAt w3 { b with vM := v', V := b.V ++ [s] } { q with M := q.M ++ [l] } ∧ Chg b.foot w w3 ∧ ∀ i, ({ b with vM := v', V := b.V ++ [s] } : CB).foot i → b.foot i ∨ B0 ≤ i := by
  have hz := hb.size
  have hz1 := hg.size
  have hs3 : ∀ i, i < w1.heap.size → i ≠ b.c → b.vM.ownBlock ≠ some i → w3.heap[i]? = w1.heap[i]? := fun i hi h1 h2 =>
    (hp.grown.block i (by omega) (fun e => h1 (by injection e))).trans (hg.block i hi (fun e => h2 e.symm))
  have hsw : ∀ i, i < w.heap.size → i ≠ b.c → b.vM.ownBlock ≠ some i → w3.heap[i]? = w.heap[i]? := fun i hi h1 h2 => (hs3 i (by omega) h1 h2).trans (hb.block i hi)
  obtain ⟨p1, p2, p3, p4, p5⟩ := h.parts (w' := w3) fun i hi h1 _ h2 => hsw i hi h1 h2
  have hk1 : Kb w1 b.c (some 122) := (h.below hb).kc
  have hvk : ∀ i, v'.ownBlock = some i → Kb w2 i (some 22) := fun i hi => Kb.row ho hi
  have hc2 : Kb w2 b.c (some 122) := by
    have := (h.below hb).c
    exact ⟨_, (0, 0), (hg.block b.c hk1.lt (fun e => (h.below hb).kc.ne ((h.below hb).km e.symm) (by decide) rfl)).trans this⟩
  refine ⟨⟨hp.lies, p1, p2, p3, h.fn, p4, h.fx, h.e.same fun i hi => hsw i (h.ke hi).lt ((h.ke hi).ne h.kc (by decide)) (fun e => (h.ke hi).ne (h.km e) (by decide) rfl), ?_, p5.snoc ?_, h.sp, h.sd, h.pd⟩, ?_, ?_⟩
  · exact ho.same fun i hi => hp.grown.block i (hvk i hi).lt (fun e => (hvk i hi).ne hc2 (by decide) (by injection e))
  · refine hs.same fun i hi => ?_
    have hk5 : Kb w1 i (some 5) := hs.kb hi
    exact hs3 i hk5.lt (hk5.ne hk1 (by decide)) (fun e => hk5.ne ((h.below hb).km e) (by decide) rfl)
  · refine ⟨hp.grown.os.trans (hg.os.trans hb.os), hp.grown.tape.trans (hg.tape.trans hb.tape), hp.grown.output.trans (hg.output.trans hb.output), by have := hp.size; omega, fun i hi hn => hsw i hi (fun e => hn (.inl e)) (fun e => hn ?_)⟩
    exact .inr (.inr (.inr (.inr (.inr (.inr (.inr (.inr (.inr (.inl e)))))))))
  · rintro i (hi | hi | hi | hi | hi | hi | hi | hi | hi | hi | hi)
    · exact .inl (.inl hi)
    · exact .inl (.inr (.inl hi))
    · exact .inl (.inr (.inr (.inl hi)))
    · exact .inl (.inr (.inr (.inr (.inl hi))))
    · exact .inl (.inr (.inr (.inr (.inr (.inl hi)))))
    · exact .inl (.inr (.inr (.inr (.inr (.inr (.inl hi))))))
    · exact .inl (.inr (.inr (.inr (.inr (.inr (.inr (.inl hi)))))))
    · exact .inl (.inr (.inr (.inr (.inr (.inr (.inr (.inr (.inl hi))))))))
    · exact .inl (.inr (.inr (.inr (.inr (.inr (.inr (.inr (.inr (.inl hi)))))))))
    · rcases own_eq hv hi with hi | hi
      · exact .inl (.inr (.inr (.inr (.inr (.inr (.inr (.inr (.inr (.inr (.inl hi))))))))))
      · exact .inr (by omega)
    · rcases Vb.snoc hi with hi | hi
      · exact .inl (.inr (.inr (.inr (.inr (.inr (.inr (.inr (.inr (.inr (.inr hi))))))))))
      · exact .inr (hsB i hi)
/-- A step took effect. -/
theorem CAt.addE {w1 w2 w3 : World} {B0 : Nat} {v' : Value} {y : Ef} (h : CAt w b q) (hb : Below w.heap.size w w1) (hB0 : B0 ≤ w.heap.size) (ho : OwnF w2 0 v' (q.E ++ [y])) (hg : w1.grownBy w2 b.vE.ownBlock)
    (hv : v'.ownBlock = b.vE.ownBlock ∨ v'.ownBlock = some w1.heap.size) (hp : St.PutW w2 w3 b.c 122 #[.pointer (some ⟨b.s.s, 0, none⟩), .pointer (some ⟨b.p.s, 0, none⟩), .pointer (some ⟨b.d.s, 0, none⟩), .int .u32 (q.f.ep : Int), b.vL, v', b.vM]) :
    CAt w3 { b with vE := v' } (addE q y) ∧ Chg b.foot w w3 ∧ ∀ i, ({ b with vE := v' } : CB).foot i → b.foot i ∨ B0 ≤ i := by
  have hz := hb.size
  have hz1 := hg.size
  have hs3 : ∀ i, i < w1.heap.size → i ≠ b.c → b.vE.ownBlock ≠ some i → w3.heap[i]? = w1.heap[i]? := fun i hi h1 h2 =>
    (hp.grown.block i (by omega) (fun e => h1 (by injection e))).trans (hg.block i hi (fun e => h2 e.symm))
  have hsw : ∀ i, i < w.heap.size → i ≠ b.c → b.vE.ownBlock ≠ some i → w3.heap[i]? = w.heap[i]? := fun i hi h1 h2 => (hs3 i (by omega) h1 h2).trans (hb.block i hi)
  obtain ⟨p1, p2, p3, p4, p5⟩ := h.parts (w' := w3) fun i hi h1 h2 _ => hsw i hi h1 h2
  have hk1 : Kb w1 b.c (some 122) := (h.below hb).kc
  have hvk : ∀ i, v'.ownBlock = some i → Kb w2 i (some 83) := fun i hi => Kb.row ho hi
  have hc2 : Kb w2 b.c (some 122) := by
    have := (h.below hb).c
    exact ⟨_, (0, 0), (hg.block b.c hk1.lt (fun e => (h.below hb).kc.ne ((h.below hb).ke e.symm) (by decide) rfl)).trans this⟩
  refine ⟨⟨hp.lies, p1, p2, p3, h.fn, p4, h.fx, ?_, h.m.same fun i hi => hsw i (h.km hi).lt ((h.km hi).ne h.kc (by decide)) (fun e => (h.km hi).ne (h.ke e) (by decide) rfl), p5, h.sp, h.sd, h.pd⟩, ?_, ?_⟩
  · exact ho.same fun i hi => hp.grown.block i (hvk i hi).lt (fun e => (hvk i hi).ne hc2 (by decide) (by injection e))
  · refine ⟨hp.grown.os.trans (hg.os.trans hb.os), hp.grown.tape.trans (hg.tape.trans hb.tape), hp.grown.output.trans (hg.output.trans hb.output), by have := hp.size; omega, fun i hi hn => hsw i hi (fun e => hn (.inl e)) (fun e => hn ?_)⟩
    exact .inr (.inr (.inr (.inr (.inr (.inr (.inr (.inr (.inl e))))))))
  · rintro i (hi | hi | hi | hi | hi | hi | hi | hi | hi | hi | hi)
    · exact .inl (.inl hi)
    · exact .inl (.inr (.inl hi))
    · exact .inl (.inr (.inr (.inl hi)))
    · exact .inl (.inr (.inr (.inr (.inl hi))))
    · exact .inl (.inr (.inr (.inr (.inr (.inl hi)))))
    · exact .inl (.inr (.inr (.inr (.inr (.inr (.inl hi))))))
    · exact .inl (.inr (.inr (.inr (.inr (.inr (.inr (.inl hi)))))))
    · exact .inl (.inr (.inr (.inr (.inr (.inr (.inr (.inr (.inl hi))))))))
    · rcases own_eq hv hi with hi | hi
      · exact .inl (.inr (.inr (.inr (.inr (.inr (.inr (.inr (.inr (.inl hi)))))))))
      · exact .inr (by omega)
    · exact .inl (.inr (.inr (.inr (.inr (.inr (.inr (.inr (.inr (.inr (.inl hi))))))))))
    · exact .inl (.inr (.inr (.inr (.inr (.inr (.inr (.inr (.inr (.inr (.inr hi))))))))))
/-- What the walk leaves behind the store of a fence. -/
abbrev putF (w : World) (g : Nat) (a0 a1 : Value) : World := (w.setCell ⟨g, 3, none⟩ a0).setCell ⟨g, 4, none⟩ a1
/-- The fence is another one. -/
theorem CAt.setF {w1 : World} {B ep n : Nat} {v' : Value} {X : Nat → Kx} {T : Nat → Kp} (h : CAt w b q) (hb : Below w.heap.size w w1) (hn : NF w1 B v' n X) (hx : ∀ i, i < n → (X i).k = T i) :
    CAt (putF w1 b.c (.int .u32 (ep : Int)) v') { b with n := n, vL := v', X := X } { q with f := ⟨ep, n, T⟩ } ∧ Chg b.foot w (putF w1 b.c (.int .u32 (ep : Int)) v') ∧ ∀ i, ({ b with n := n, vL := v', X := X } : CB).foot i → b.foot i ∨ B ≤ i := by
  have h1 := h.below hb
  have hs3 : ∀ i, i ≠ b.c → (putF w1 b.c (.int .u32 (ep : Int)) v').heap[i]? = w1.heap[i]? := fun i hi =>
    (heap_setCell_other _ ⟨b.c, 4, none⟩ i _ hi).trans (heap_setCell_other _ ⟨b.c, 3, none⟩ i _ hi)
  obtain ⟨p1, p2, p3, p4, p5⟩ := h1.parts (w' := putF w1 b.c (.int .u32 (ep : Int)) v') fun i _ hi _ _ => hs3 i hi
  refine ⟨⟨(h1.c.put 3 _).put 4 _, p1, p2, p3, rfl, ?_, hx, h1.e.same fun i hi => hs3 i ((h1.ke hi).ne h1.kc (by decide)), h1.m.same fun i hi => hs3 i ((h1.km hi).ne h1.kc (by decide)), p5, h.sp, h.sd, h.pd⟩, ?_, ?_⟩
  · refine (NF_same hn fun i hi => hs3 i ?_).mono (Nat.zero_le _)
    rcases NF_kb hn hi with hk | hk <;> exact hk.ne h1.kc (by decide)
  · refine ⟨hb.os, hb.tape, hb.output, by simpa using hb.size, fun i hi hn => (hs3 i (fun e => hn (.inl e))).trans (hb.block i hi)⟩
  · rintro i (hi | hi | hi | hi | hi | hi | hi | hi | hi | hi | hi)
    · exact .inl (.inl hi)
    · exact .inl (.inr (.inl hi))
    · exact .inl (.inr (.inr (.inl hi)))
    · exact .inl (.inr (.inr (.inr (.inl hi))))
    · exact .inl (.inr (.inr (.inr (.inr (.inl hi)))))
    · exact .inl (.inr (.inr (.inr (.inr (.inr (.inl hi))))))
    · exact .inl (.inr (.inr (.inr (.inr (.inr (.inr (.inl hi)))))))
    · exact .inr (NF_ge hn hi)
    · exact .inl (.inr (.inr (.inr (.inr (.inr (.inr (.inr (.inr (.inl hi)))))))))
    · exact .inl (.inr (.inr (.inr (.inr (.inr (.inr (.inr (.inr (.inr (.inl hi))))))))))
    · exact .inl (.inr (.inr (.inr (.inr (.inr (.inr (.inr (.inr (.inr (.inr hi))))))))))
end

end Go.Proofs.YtpbclmnhkmcknaaGreat

namespace Go.Proofs.YtpbclmnhkmcknaaGreat
open Go.RowKit
open Fe (Lies Own Bys Reads NF Kx Kp Note)
set_option maxRecDepth 100000
set_option linter.unusedVariables false
set_option linter.unusedSimpArgs false

theorem fwd1 (q : Cq) (o : Nat) (n : Int) (x : List Nat) : fwdS q o ⟨1, n, x⟩ = ⟨St.verd (St.holdV q.s o (u8s x) n), [], { q with s := St.holdS q.s o (u8s x) n }⟩ := by simp [fwdS]
theorem fwd2 (q : Cq) (o : Nat) (n : Int) (x : List Nat) : fwdS q o ⟨2, n, x⟩ = ⟨St.verd (St.endV q.s o), [], { q with s := St.endS q.s o true }⟩ := by simp [fwdS]
theorem fwd3 (q : Cq) (o : Nat) (n : Int) (x : List Nat) : fwdS q o ⟨3, n, x⟩ = ⟨Pu.verd (Pu.authV q.p o (u8s x) n), [], { q with p := Pu.authS q.p o (u8s x) n }⟩ := by simp [fwdS]
theorem fwd4 (q : Cq) (o : Nat) (n : Int) (x : List Nat) : fwdS q o ⟨4, n, x⟩ = ⟨Pu.verd (Pu.movV q.p o 0), [], { q with p := Pu.movS q.p o 0 }⟩ := by simp [fwdS]
theorem fwd5 (q : Cq) (o : Nat) (n : Int) (x : List Nat) : fwdS q o ⟨5, n, x⟩ = fwdS q o ⟨5, n, []⟩ := by simp [fwdS]
theorem fwd6 (q : Cq) (o : Nat) (n : Int) (x : List Nat) : fwdS q o ⟨6, n, x⟩ = ⟨1, [], { q with M := q.M ++ [x] }⟩ := by simp [fwdS]
theorem bwd1 (q : Cq) (o : Nat) (n : Int) (x : List Nat) : bwdS q o ⟨1, n, x⟩ = ⟨St.verd (St.endV q.s o), [], { q with s := St.endS q.s o false }⟩ := by simp [bwdS]
theorem bwd2 (q : Cq) (o : Nat) (n : Int) (x : List Nat) : bwdS q o ⟨2, n, x⟩ = ⟨2, [], q⟩ := by simp [bwdS]
theorem bwd3 (q : Cq) (o : Nat) (n : Int) (x : List Nat) : bwdS q o ⟨3, n, x⟩ = ⟨Pu.verd (Pu.movV q.p o 1), [], { q with p := Pu.movS q.p o 1 }⟩ := by simp [bwdS]
theorem bwd4 (q : Cq) (o : Nat) (n : Int) (x : List Nat) : bwdS q o ⟨4, n, x⟩ = ⟨Pu.verd (Pu.movV q.p o 2), [], { q with p := Pu.movS q.p o 2 }⟩ := by simp [bwdS]
theorem bwd5 (q : Cq) (o : Nat) (n : Int) (x : List Nat) : bwdS q o ⟨5, n, x⟩ = ⟨Do.verd (Do.findH q.d.H o).isSome, [], { q with d := Do.cancS q.d o }⟩ := by simp [bwdS]
theorem bwd6 (q : Cq) (o : Nat) (n : Int) (x : List Nat) : bwdS q o ⟨6, n, x⟩ = ⟨1, [], { q with M := q.M ++ [33 :: x] }⟩ := by simp [bwdS]

set_option maxHeartbeats 4000000 in
theorem forward1 {R : List Int} {b : CB} {q : Cq} (o : Nat) (n : Int) (x : List Nat) (A : Option Addr) (c : Nat) (B0 : Nat) (w : World) (h : CAt w b q) (hI : CInv R q) (ho : o < 4294967296) (hn : 0 ≤ n ∧ n ≤ 1000000000) (hx : x.length ≤ 32)
    (hO : Own w B0 (.slice A x.length c) x) (hB : B0 ≤ w.heap.size) (hF : ∀ i, b.foot i → i < B0) :
    Calls Tryz.prog 131 #[.pointer (some ⟨b.c, 0, none⟩), .int .u32 (o : Int), .agg #[.int .i64 1, .int .i64 n, .slice A x.length c]] w (WkPost w b B0 (fwdS q o ⟨1, n, x⟩)) := by
  have HA : Hid (CAt (w.alloc (.cells #[.int .i64 1, .int .i64 n, .slice A x.length c] 24)) b q) := Lib.hid (h.alloc _)
  have LB : Hid (Lies (w.alloc (.cells #[.int .i64 1, .int .i64 n, .slice A x.length c] 24)) w.heap.size 24 #[.int .i64 1, .int .i64 n, .slice A x.length c]) := Lib.hid (Lies.made w 24 _)
  have HO : Hid (Own (w.alloc (.cells #[.int .i64 1, .int .i64 n, .slice A x.length c] 24)) B0 (.slice A x.length c) x) := Lib.hid (hO.alloc _)
  have HNF : Hid (¬ b.foot w.heap.size) := Lib.hid (fun hf => by have := hF _ hf; omega)
  have HOF : Hid (∀ i, (Value.slice A x.length c).ownBlock = some i → ¬ b.foot i) := Lib.hid (fun i hi hf => by have h1 := hF _ hf; have h2 := hO.block i hi; omega)
  have HW := Lib.hid h
  have HI := Lib.hid hI
  have HOW := Lib.hid hO
  have hxm : x.length ≤ maxLen := by unfold maxLen; omega
  have hnn : -9223372036854775808 ≤ n ∧ n ≤ 9223372036854775807 := by omega
  obtain ⟨c0, c1, c2, c3, c4, c5, c6⟩ := Lies_cells7 HA.out.c
  obtain ⟨k0, k1, k2⟩ := LB.out.cells3
  rw [fwd1]
  have HAd : Hid (CAt (w.alloc (.cells #[.int .i64 1, .int .i64 n, .slice A x.length c] 24)).drew b q) := Lib.hid HA.out.drew
  clear h hI hF hO
  go_enter Tryz.func131, Tryz.ntmps131
  go_wp2_with fail
  refine wp_region_noPanic ?_
  refine wp_region_held_drew (S := fun W => Lies W b.c 122 #[.pointer (some ⟨b.s.s, 0, none⟩), .pointer (some ⟨b.p.s, 0, none⟩), .pointer (some ⟨b.d.s, 0, none⟩), .int .u32 (q.f.ep : Int), b.vL, b.vE, b.vM] ∧ Lies W w.heap.size 24 #[.int .i64 1, .int .i64 n, .slice A x.length c] ∧ Own W B0 (.slice A x.length c) x) (by kernel_rfl) (⟨HA.out.c, LB.out, HO.out⟩) (fun hH0 => ?_)
  refine Fe.any_take 0 12 ?vt2 rfl rfl (by kernel_rfl) (by kernel_rfl) (by kernel_rfl) (fun _ _ _ h => h) (by rfl) ?ht2 hH0 ?rt2
  case ht2 => ((intro W hSw); obtain ⟨o0, o1, o2, o3, o4, o5, o6⟩ := Lies_cells7 hSw.1; obtain ⟨p0, p1, p2⟩ := Fe.Lies.cells3 hSw.2.1; have rs := Fe.run_str hSw.2.2.bys.1 c; go_simp; (try with_reducible rfl))
  try simp only [Act.put, List.setIfInBounds_toArray, List.set_cons_zero, List.set_cons_succ]
  refine Fe.any_take 1 13 ?vt3 rfl rfl (by kernel_rfl) (by kernel_rfl) (by kernel_rfl) (fun _ _ _ h => h) (by rfl) ?ht3 hH0 ?rt3
  case ht3 => ((intro W hSw); obtain ⟨o0, o1, o2, o3, o4, o5, o6⟩ := Lies_cells7 hSw.1; obtain ⟨p0, p1, p2⟩ := Fe.Lies.cells3 hSw.2.1; have rs := Fe.run_str hSw.2.2.bys.1 c; go_simp; (try with_reducible rfl))
  try simp only [Act.put, List.setIfInBounds_toArray, List.set_cons_zero, List.set_cons_succ]
  refine Fe.any_take 2 14 ?vt4 rfl rfl (by kernel_rfl) (by kernel_rfl) (by kernel_rfl) (fun _ _ _ h => h) (by rfl) ?ht4 hH0 ?rt4
  case ht4 => ((intro W hSw); obtain ⟨o0, o1, o2, o3, o4, o5, o6⟩ := Lies_cells7 hSw.1; obtain ⟨p0, p1, p2⟩ := Fe.Lies.cells3 hSw.2.1; have rs := Fe.run_str hSw.2.2.bys.1 c; go_simp; (try with_reducible rfl))
  try simp only [Act.put, List.setIfInBounds_toArray, List.set_cons_zero, List.set_cons_succ]
  refine Fe.any_take 3 15 ?vt5 rfl rfl (by kernel_rfl) (by kernel_rfl) (by kernel_rfl) (fun _ _ _ h => h) (by rfl) ?ht5 hH0 ?rt5
  case ht5 => ((intro W hSw); obtain ⟨o0, o1, o2, o3, o4, o5, o6⟩ := Lies_cells7 hSw.1; obtain ⟨p0, p1, p2⟩ := Fe.Lies.cells3 hSw.2.1; have rs := Fe.run_str hSw.2.2.bys.1 c; go_simp; (try with_reducible rfl))
  try simp only [Act.put, List.setIfInBounds_toArray, List.set_cons_zero, List.set_cons_succ]
  refine Fe.any_take 4 16 ?vt6 rfl rfl (by kernel_rfl) (by kernel_rfl) (by kernel_rfl) (fun _ _ _ h => h) (by rfl) ?ht6 hH0 ?rt6
  case ht6 => ((intro W hSw); obtain ⟨o0, o1, o2, o3, o4, o5, o6⟩ := Lies_cells7 hSw.1; obtain ⟨p0, p1, p2⟩ := Fe.Lies.cells3 hSw.2.1; have rs := Fe.run_str hSw.2.2.bys.1 c; go_simp; (try with_reducible rfl))
  try simp only [Act.put, List.setIfInBounds_toArray, List.set_cons_zero, List.set_cons_succ]
  refine Fe.any_take 5 17 ?vt7 rfl rfl (by kernel_rfl) (by kernel_rfl) (by kernel_rfl) (fun _ _ _ h => h) (by rfl) ?ht7 hH0 ?rt7
  case ht7 => ((intro W hSw); obtain ⟨o0, o1, o2, o3, o4, o5, o6⟩ := Lies_cells7 hSw.1; obtain ⟨p0, p1, p2⟩ := Fe.Lies.cells3 hSw.2.1; have rs := Fe.run_str hSw.2.2.bys.1 c; go_simp; (try with_reducible rfl))
  try simp only [Act.put, List.setIfInBounds_toArray, List.set_cons_zero, List.set_cons_succ]
  refine Fe.any_take 6 18 ?vt8 rfl rfl (by kernel_rfl) (by kernel_rfl) (by kernel_rfl) (fun _ _ _ h => h) (by rfl) ?ht8 hH0 ?rt8
  case ht8 => ((intro W hSw); obtain ⟨o0, o1, o2, o3, o4, o5, o6⟩ := Lies_cells7 hSw.1; obtain ⟨p0, p1, p2⟩ := Fe.Lies.cells3 hSw.2.1; have rs := Fe.run_str hSw.2.2.bys.1 c; go_simp; (try with_reducible rfl))
  try simp only [Act.put, List.setIfInBounds_toArray, List.set_cons_zero, List.set_cons_succ]
  refine Fe.any_take 7 19 ?vt9 rfl rfl (by kernel_rfl) (by kernel_rfl) (by kernel_rfl) (fun _ _ _ h => h) (by rfl) ?ht9 hH0 ?rt9
  case ht9 => ((intro W hSw); obtain ⟨o0, o1, o2, o3, o4, o5, o6⟩ := Lies_cells7 hSw.1; obtain ⟨p0, p1, p2⟩ := Fe.Lies.cells3 hSw.2.1; have rs := Fe.run_str hSw.2.2.bys.1 c; go_simp; (try with_reducible rfl))
  try simp only [Act.put, List.setIfInBounds_toArray, List.set_cons_zero, List.set_cons_succ]
  refine Fe.any_take 8 20 ?vt10 rfl rfl (by kernel_rfl) (by kernel_rfl) (by kernel_rfl) (fun _ _ _ h => h) (by rfl) ?ht10 hH0 ?rt10
  case ht10 => ((intro W hSw); obtain ⟨o0, o1, o2, o3, o4, o5, o6⟩ := Lies_cells7 hSw.1; obtain ⟨p0, p1, p2⟩ := Fe.Lies.cells3 hSw.2.1; have rs := Fe.run_str hSw.2.2.bys.1 c; go_simp; (try with_reducible rfl))
  try simp only [Act.put, List.setIfInBounds_toArray, List.set_cons_zero, List.set_cons_succ]
  refine Fe.any_take 9 21 ?vt11 rfl rfl (by kernel_rfl) (by kernel_rfl) (by kernel_rfl) (fun _ _ _ h => h) (by rfl) ?ht11 hH0 ?rt11
  case ht11 => ((intro W hSw); obtain ⟨o0, o1, o2, o3, o4, o5, o6⟩ := Lies_cells7 hSw.1; obtain ⟨p0, p1, p2⟩ := Fe.Lies.cells3 hSw.2.1; have rs := Fe.run_str hSw.2.2.bys.1 c; go_simp; (try with_reducible rfl))
  try simp only [Act.put, List.setIfInBounds_toArray, List.set_cons_zero, List.set_cons_succ]
  refine wpAnyH_ready (rs := [10]) (by kernel_rfl) (by simp) ?_
  refine AllReadyH.cons rfl (fun K hK => ?_) AllReadyH.nil
  go_simp
  go_at_call 160
  with_reducible refine (cr_hold HAd.out HI.out o x n ho hxm hnn).mono ?_
  rintro e w1 ⟨rfl, hA, hC⟩
  have HA1 := Lib.hid hA
  have HC1 := Lib.hid (chg_box hC.drew0)
  have LB1 := Lib.hid (show Lies w1 w.heap.size 24 #[.int .i64 1, .int .i64 n, .slice A x.length c] from (hC.block _ LB.out.lt HNF.out).trans LB.out)
  have HO1 : Hid (Own w1 B0 (.slice A x.length c) x) := Lib.hid (Own_same HO.out fun i hi => hC.block i (HO.out.lt i hi) (HOF.out i hi))
  clear hA hC
  refine hK.out _ _ (⟨HA1.out.c, LB1.out, HO1.out⟩) (fun hH1 => ?_)
  clear hK K hH0
  try simp only [Act.put, List.setIfInBounds_toArray, List.set_cons_zero, List.set_cons_succ]
  refine Fe.any_take 11 6 ?vt12 rfl rfl (by kernel_rfl) (by kernel_rfl) (by kernel_rfl) (fun _ _ _ h => h) (by rfl) ?ht12 hH1 ?rt12
  case ht12 => ((intro W hSw); go_simp; (try with_reducible rfl))
  try simp only [Act.put, List.setIfInBounds_toArray, List.set_cons_zero, List.set_cons_succ]
  refine Fe.any_take 12 7 ?vt13 rfl rfl (by kernel_rfl) (by kernel_rfl) (by kernel_rfl) (fun _ _ _ h => h) (by rfl) ?ht13 hH1 ?rt13
  case ht13 => ((intro W hSw); go_simp; (try with_reducible rfl))
  try simp only [Act.put, List.setIfInBounds_toArray, List.set_cons_zero, List.set_cons_succ]
  clear hH1
  refine wpAnyH_done (by kernel_rfl) ?_ _
  refine NoPanic.normal ?_
  go_wp2
  go_ret2
  exact ⟨_, b, rfl, Own.nil _ _, (fun i hi => by cases hi), rfl, HA1.out, HC1.out, fun i hi => .inl hi⟩
set_option maxHeartbeats 4000000 in
theorem forward2 {R : List Int} {b : CB} {q : Cq} (o : Nat) (n : Int) (x : List Nat) (A : Option Addr) (c : Nat) (B0 : Nat) (w : World) (h : CAt w b q) (hI : CInv R q) (ho : o < 4294967296) (hn : 0 ≤ n ∧ n ≤ 1000000000) (hx : x.length ≤ 32)
    (hO : Own w B0 (.slice A x.length c) x) (hB : B0 ≤ w.heap.size) (hF : ∀ i, b.foot i → i < B0) :
    Calls Tryz.prog 131 #[.pointer (some ⟨b.c, 0, none⟩), .int .u32 (o : Int), .agg #[.int .i64 2, .int .i64 n, .slice A x.length c]] w (WkPost w b B0 (fwdS q o ⟨2, n, x⟩)) := by
  have HA : Hid (CAt (w.alloc (.cells #[.int .i64 2, .int .i64 n, .slice A x.length c] 24)) b q) := Lib.hid (h.alloc _)
  have LB : Hid (Lies (w.alloc (.cells #[.int .i64 2, .int .i64 n, .slice A x.length c] 24)) w.heap.size 24 #[.int .i64 2, .int .i64 n, .slice A x.length c]) := Lib.hid (Lies.made w 24 _)
  have HO : Hid (Own (w.alloc (.cells #[.int .i64 2, .int .i64 n, .slice A x.length c] 24)) B0 (.slice A x.length c) x) := Lib.hid (hO.alloc _)
  have HNF : Hid (¬ b.foot w.heap.size) := Lib.hid (fun hf => by have := hF _ hf; omega)
  have HOF : Hid (∀ i, (Value.slice A x.length c).ownBlock = some i → ¬ b.foot i) := Lib.hid (fun i hi hf => by have h1 := hF _ hf; have h2 := hO.block i hi; omega)
  have HW := Lib.hid h
  have HI := Lib.hid hI
  have HOW := Lib.hid hO
  have hxm : x.length ≤ maxLen := by unfold maxLen; omega
  have hnn : -9223372036854775808 ≤ n ∧ n ≤ 9223372036854775807 := by omega
  obtain ⟨c0, c1, c2, c3, c4, c5, c6⟩ := Lies_cells7 HA.out.c
  obtain ⟨k0, k1, k2⟩ := LB.out.cells3
  have C := Lib.hid (cr_ship HA.out hI o ho)
  rw [fwd2]
  unfold PartPost at C
  clear h hI hF hO
  go_enter Tryz.func131, Tryz.ntmps131
  go_wp2_with fail
  with_reducible refine C.out.mono ?_
  rintro e w1 ⟨rfl, hA, hC⟩
  have HA1 := Lib.hid hA
  have HC1 := Lib.hid (chg_box hC)
  clear hA hC
  go_wp2
  go_ret2
  exact ⟨_, b, rfl, Own.nil _ _, (fun i hi => by cases hi), rfl, HA1.out, HC1.out, fun i hi => .inl hi⟩
set_option maxHeartbeats 4000000 in
theorem forward3 {R : List Int} {b : CB} {q : Cq} (o : Nat) (n : Int) (x : List Nat) (A : Option Addr) (c : Nat) (B0 : Nat) (w : World) (h : CAt w b q) (hI : CInv R q) (ho : o < 4294967296) (hn : 0 ≤ n ∧ n ≤ 1000000000) (hx : x.length ≤ 32)
    (hO : Own w B0 (.slice A x.length c) x) (hB : B0 ≤ w.heap.size) (hF : ∀ i, b.foot i → i < B0) :
    Calls Tryz.prog 131 #[.pointer (some ⟨b.c, 0, none⟩), .int .u32 (o : Int), .agg #[.int .i64 3, .int .i64 n, .slice A x.length c]] w (WkPost w b B0 (fwdS q o ⟨3, n, x⟩)) := by
  have HA : Hid (CAt (w.alloc (.cells #[.int .i64 3, .int .i64 n, .slice A x.length c] 24)) b q) := Lib.hid (h.alloc _)
  have LB : Hid (Lies (w.alloc (.cells #[.int .i64 3, .int .i64 n, .slice A x.length c] 24)) w.heap.size 24 #[.int .i64 3, .int .i64 n, .slice A x.length c]) := Lib.hid (Lies.made w 24 _)
  have HO : Hid (Own (w.alloc (.cells #[.int .i64 3, .int .i64 n, .slice A x.length c] 24)) B0 (.slice A x.length c) x) := Lib.hid (hO.alloc _)
  have HNF : Hid (¬ b.foot w.heap.size) := Lib.hid (fun hf => by have := hF _ hf; omega)
  have HOF : Hid (∀ i, (Value.slice A x.length c).ownBlock = some i → ¬ b.foot i) := Lib.hid (fun i hi hf => by have h1 := hF _ hf; have h2 := hO.block i hi; omega)
  have HW := Lib.hid h
  have HI := Lib.hid hI
  have HOW := Lib.hid hO
  have hxm : x.length ≤ maxLen := by unfold maxLen; omega
  have hnn : -9223372036854775808 ≤ n ∧ n ≤ 9223372036854775807 := by omega
  obtain ⟨c0, c1, c2, c3, c4, c5, c6⟩ := Lies_cells7 HA.out.c
  obtain ⟨k0, k1, k2⟩ := LB.out.cells3
  rw [fwd3]
  have HAd : Hid (CAt (w.alloc (.cells #[.int .i64 3, .int .i64 n, .slice A x.length c] 24)).drew b q) := Lib.hid HA.out.drew
  clear h hI hF hO
  go_enter Tryz.func131, Tryz.ntmps131
  go_wp2_with fail
  refine wp_region_noPanic ?_
  refine wp_region_held_drew (S := fun W => Lies W b.c 122 #[.pointer (some ⟨b.s.s, 0, none⟩), .pointer (some ⟨b.p.s, 0, none⟩), .pointer (some ⟨b.d.s, 0, none⟩), .int .u32 (q.f.ep : Int), b.vL, b.vE, b.vM] ∧ Lies W w.heap.size 24 #[.int .i64 3, .int .i64 n, .slice A x.length c] ∧ Own W B0 (.slice A x.length c) x) (by kernel_rfl) (⟨HA.out.c, LB.out, HO.out⟩) (fun hH0 => ?_)
  refine Fe.any_take 0 33 ?vt15 rfl rfl (by kernel_rfl) (by kernel_rfl) (by kernel_rfl) (fun _ _ _ h => h) (by rfl) ?ht15 hH0 ?rt15
  case ht15 => ((intro W hSw); obtain ⟨o0, o1, o2, o3, o4, o5, o6⟩ := Lies_cells7 hSw.1; obtain ⟨p0, p1, p2⟩ := Fe.Lies.cells3 hSw.2.1; have rs := Fe.run_str hSw.2.2.bys.1 c; go_simp; (try with_reducible rfl))
  try simp only [Act.put, List.setIfInBounds_toArray, List.set_cons_zero, List.set_cons_succ]
  refine Fe.any_take 1 34 ?vt16 rfl rfl (by kernel_rfl) (by kernel_rfl) (by kernel_rfl) (fun _ _ _ h => h) (by rfl) ?ht16 hH0 ?rt16
  case ht16 => ((intro W hSw); obtain ⟨o0, o1, o2, o3, o4, o5, o6⟩ := Lies_cells7 hSw.1; obtain ⟨p0, p1, p2⟩ := Fe.Lies.cells3 hSw.2.1; have rs := Fe.run_str hSw.2.2.bys.1 c; go_simp; (try with_reducible rfl))
  try simp only [Act.put, List.setIfInBounds_toArray, List.set_cons_zero, List.set_cons_succ]
  refine Fe.any_take 2 35 ?vt17 rfl rfl (by kernel_rfl) (by kernel_rfl) (by kernel_rfl) (fun _ _ _ h => h) (by rfl) ?ht17 hH0 ?rt17
  case ht17 => ((intro W hSw); obtain ⟨o0, o1, o2, o3, o4, o5, o6⟩ := Lies_cells7 hSw.1; obtain ⟨p0, p1, p2⟩ := Fe.Lies.cells3 hSw.2.1; have rs := Fe.run_str hSw.2.2.bys.1 c; go_simp; (try with_reducible rfl))
  try simp only [Act.put, List.setIfInBounds_toArray, List.set_cons_zero, List.set_cons_succ]
  refine Fe.any_take 3 36 ?vt18 rfl rfl (by kernel_rfl) (by kernel_rfl) (by kernel_rfl) (fun _ _ _ h => h) (by rfl) ?ht18 hH0 ?rt18
  case ht18 => ((intro W hSw); obtain ⟨o0, o1, o2, o3, o4, o5, o6⟩ := Lies_cells7 hSw.1; obtain ⟨p0, p1, p2⟩ := Fe.Lies.cells3 hSw.2.1; have rs := Fe.run_str hSw.2.2.bys.1 c; go_simp; (try with_reducible rfl))
  try simp only [Act.put, List.setIfInBounds_toArray, List.set_cons_zero, List.set_cons_succ]
  refine Fe.any_take 4 37 ?vt19 rfl rfl (by kernel_rfl) (by kernel_rfl) (by kernel_rfl) (fun _ _ _ h => h) (by rfl) ?ht19 hH0 ?rt19
  case ht19 => ((intro W hSw); obtain ⟨o0, o1, o2, o3, o4, o5, o6⟩ := Lies_cells7 hSw.1; obtain ⟨p0, p1, p2⟩ := Fe.Lies.cells3 hSw.2.1; have rs := Fe.run_str hSw.2.2.bys.1 c; go_simp; (try with_reducible rfl))
  try simp only [Act.put, List.setIfInBounds_toArray, List.set_cons_zero, List.set_cons_succ]
  refine Fe.any_take 5 38 ?vt20 rfl rfl (by kernel_rfl) (by kernel_rfl) (by kernel_rfl) (fun _ _ _ h => h) (by rfl) ?ht20 hH0 ?rt20
  case ht20 => ((intro W hSw); obtain ⟨o0, o1, o2, o3, o4, o5, o6⟩ := Lies_cells7 hSw.1; obtain ⟨p0, p1, p2⟩ := Fe.Lies.cells3 hSw.2.1; have rs := Fe.run_str hSw.2.2.bys.1 c; go_simp; (try with_reducible rfl))
  try simp only [Act.put, List.setIfInBounds_toArray, List.set_cons_zero, List.set_cons_succ]
  refine Fe.any_take 6 39 ?vt21 rfl rfl (by kernel_rfl) (by kernel_rfl) (by kernel_rfl) (fun _ _ _ h => h) (by rfl) ?ht21 hH0 ?rt21
  case ht21 => ((intro W hSw); obtain ⟨o0, o1, o2, o3, o4, o5, o6⟩ := Lies_cells7 hSw.1; obtain ⟨p0, p1, p2⟩ := Fe.Lies.cells3 hSw.2.1; have rs := Fe.run_str hSw.2.2.bys.1 c; go_simp; (try with_reducible rfl))
  try simp only [Act.put, List.setIfInBounds_toArray, List.set_cons_zero, List.set_cons_succ]
  refine Fe.any_take 7 40 ?vt22 rfl rfl (by kernel_rfl) (by kernel_rfl) (by kernel_rfl) (fun _ _ _ h => h) (by rfl) ?ht22 hH0 ?rt22
  case ht22 => ((intro W hSw); obtain ⟨o0, o1, o2, o3, o4, o5, o6⟩ := Lies_cells7 hSw.1; obtain ⟨p0, p1, p2⟩ := Fe.Lies.cells3 hSw.2.1; have rs := Fe.run_str hSw.2.2.bys.1 c; go_simp; (try with_reducible rfl))
  try simp only [Act.put, List.setIfInBounds_toArray, List.set_cons_zero, List.set_cons_succ]
  refine Fe.any_take 8 41 ?vt23 rfl rfl (by kernel_rfl) (by kernel_rfl) (by kernel_rfl) (fun _ _ _ h => h) (by rfl) ?ht23 hH0 ?rt23
  case ht23 => ((intro W hSw); obtain ⟨o0, o1, o2, o3, o4, o5, o6⟩ := Lies_cells7 hSw.1; obtain ⟨p0, p1, p2⟩ := Fe.Lies.cells3 hSw.2.1; have rs := Fe.run_str hSw.2.2.bys.1 c; go_simp; (try with_reducible rfl))
  try simp only [Act.put, List.setIfInBounds_toArray, List.set_cons_zero, List.set_cons_succ]
  refine Fe.any_take 9 42 ?vt24 rfl rfl (by kernel_rfl) (by kernel_rfl) (by kernel_rfl) (fun _ _ _ h => h) (by rfl) ?ht24 hH0 ?rt24
  case ht24 => ((intro W hSw); obtain ⟨o0, o1, o2, o3, o4, o5, o6⟩ := Lies_cells7 hSw.1; obtain ⟨p0, p1, p2⟩ := Fe.Lies.cells3 hSw.2.1; have rs := Fe.run_str hSw.2.2.bys.1 c; go_simp; (try with_reducible rfl))
  try simp only [Act.put, List.setIfInBounds_toArray, List.set_cons_zero, List.set_cons_succ]
  refine wpAnyH_ready (rs := [10]) (by kernel_rfl) (by simp) ?_
  refine AllReadyH.cons rfl (fun K hK => ?_) AllReadyH.nil
  go_simp
  go_at_call 162
  with_reducible refine (cr_auth HAd.out HI.out o x n ho hxm hnn).mono ?_
  rintro e w1 ⟨rfl, hA, hC⟩
  have HA1 := Lib.hid hA
  have HC1 := Lib.hid (chg_box hC.drew0)
  have LB1 := Lib.hid (show Lies w1 w.heap.size 24 #[.int .i64 3, .int .i64 n, .slice A x.length c] from (hC.block _ LB.out.lt HNF.out).trans LB.out)
  have HO1 : Hid (Own w1 B0 (.slice A x.length c) x) := Lib.hid (Own_same HO.out fun i hi => hC.block i (HO.out.lt i hi) (HOF.out i hi))
  clear hA hC
  refine hK.out _ _ (⟨HA1.out.c, LB1.out, HO1.out⟩) (fun hH1 => ?_)
  clear hK K hH0
  try simp only [Act.put, List.setIfInBounds_toArray, List.set_cons_zero, List.set_cons_succ]
  refine Fe.any_take 11 6 ?vt25 rfl rfl (by kernel_rfl) (by kernel_rfl) (by kernel_rfl) (fun _ _ _ h => h) (by rfl) ?ht25 hH1 ?rt25
  case ht25 => ((intro W hSw); go_simp; (try with_reducible rfl))
  try simp only [Act.put, List.setIfInBounds_toArray, List.set_cons_zero, List.set_cons_succ]
  refine Fe.any_take 12 7 ?vt26 rfl rfl (by kernel_rfl) (by kernel_rfl) (by kernel_rfl) (fun _ _ _ h => h) (by rfl) ?ht26 hH1 ?rt26
  case ht26 => ((intro W hSw); go_simp; (try with_reducible rfl))
  try simp only [Act.put, List.setIfInBounds_toArray, List.set_cons_zero, List.set_cons_succ]
  clear hH1
  refine wpAnyH_done (by kernel_rfl) ?_ _
  refine NoPanic.normal ?_
  go_wp2
  go_ret2
  exact ⟨_, b, rfl, Own.nil _ _, (fun i hi => by cases hi), rfl, HA1.out, HC1.out, fun i hi => .inl hi⟩
set_option maxHeartbeats 4000000 in
theorem forward4 {R : List Int} {b : CB} {q : Cq} (o : Nat) (n : Int) (x : List Nat) (A : Option Addr) (c : Nat) (B0 : Nat) (w : World) (h : CAt w b q) (hI : CInv R q) (ho : o < 4294967296) (hn : 0 ≤ n ∧ n ≤ 1000000000) (hx : x.length ≤ 32)
    (hO : Own w B0 (.slice A x.length c) x) (hB : B0 ≤ w.heap.size) (hF : ∀ i, b.foot i → i < B0) :
    Calls Tryz.prog 131 #[.pointer (some ⟨b.c, 0, none⟩), .int .u32 (o : Int), .agg #[.int .i64 4, .int .i64 n, .slice A x.length c]] w (WkPost w b B0 (fwdS q o ⟨4, n, x⟩)) := by
  have HA : Hid (CAt (w.alloc (.cells #[.int .i64 4, .int .i64 n, .slice A x.length c] 24)) b q) := Lib.hid (h.alloc _)
  have LB : Hid (Lies (w.alloc (.cells #[.int .i64 4, .int .i64 n, .slice A x.length c] 24)) w.heap.size 24 #[.int .i64 4, .int .i64 n, .slice A x.length c]) := Lib.hid (Lies.made w 24 _)
  have HO : Hid (Own (w.alloc (.cells #[.int .i64 4, .int .i64 n, .slice A x.length c] 24)) B0 (.slice A x.length c) x) := Lib.hid (hO.alloc _)
  have HNF : Hid (¬ b.foot w.heap.size) := Lib.hid (fun hf => by have := hF _ hf; omega)
  have HOF : Hid (∀ i, (Value.slice A x.length c).ownBlock = some i → ¬ b.foot i) := Lib.hid (fun i hi hf => by have h1 := hF _ hf; have h2 := hO.block i hi; omega)
  have HW := Lib.hid h
  have HI := Lib.hid hI
  have HOW := Lib.hid hO
  have hxm : x.length ≤ maxLen := by unfold maxLen; omega
  have hnn : -9223372036854775808 ≤ n ∧ n ≤ 9223372036854775807 := by omega
  obtain ⟨c0, c1, c2, c3, c4, c5, c6⟩ := Lies_cells7 HA.out.c
  obtain ⟨k0, k1, k2⟩ := LB.out.cells3
  have C := Lib.hid (cr_capture HA.out hI o ho)
  rw [fwd4]
  unfold PartPost at C
  clear h hI hF hO
  go_enter Tryz.func131, Tryz.ntmps131
  go_wp2_with fail
  with_reducible refine C.out.mono ?_
  rintro e w1 ⟨rfl, hA, hC⟩
  have HA1 := Lib.hid hA
  have HC1 := Lib.hid (chg_box hC)
  clear hA hC
  go_wp2
  go_ret2
  exact ⟨_, b, rfl, Own.nil _ _, (fun i hi => by cases hi), rfl, HA1.out, HC1.out, fun i hi => .inl hi⟩
set_option maxHeartbeats 4000000 in
theorem forward5 {R : List Int} {b : CB} {q : Cq} (o : Nat) (n : Int) (x : List Nat) (A : Option Addr) (c : Nat) (B0 : Nat) (w : World) (h : CAt w b q) (hI : CInv R q) (ho : o < 4294967296) (hn : 0 ≤ n ∧ n ≤ 1000000000) (hx : x.length ≤ 32)
    (hO : Own w B0 (.slice A x.length c) x) (hB : B0 ≤ w.heap.size) (hF : ∀ i, b.foot i → i < B0) :
    Calls Tryz.prog 131 #[.pointer (some ⟨b.c, 0, none⟩), .int .u32 (o : Int), .agg #[.int .i64 5, .int .i64 n, .slice A x.length c]] w (WkPost w b B0 (fwdS q o ⟨5, n, x⟩)) := by
  have HA : Hid (CAt (w.alloc (.cells #[.int .i64 5, .int .i64 n, .slice A x.length c] 24)) b q) := Lib.hid (h.alloc _)
  have LB : Hid (Lies (w.alloc (.cells #[.int .i64 5, .int .i64 n, .slice A x.length c] 24)) w.heap.size 24 #[.int .i64 5, .int .i64 n, .slice A x.length c]) := Lib.hid (Lies.made w 24 _)
  have HO : Hid (Own (w.alloc (.cells #[.int .i64 5, .int .i64 n, .slice A x.length c] 24)) B0 (.slice A x.length c) x) := Lib.hid (hO.alloc _)
  have HNF : Hid (¬ b.foot w.heap.size) := Lib.hid (fun hf => by have := hF _ hf; omega)
  have HOF : Hid (∀ i, (Value.slice A x.length c).ownBlock = some i → ¬ b.foot i) := Lib.hid (fun i hi hf => by have h1 := hF _ hf; have h2 := hO.block i hi; omega)
  have HW := Lib.hid h
  have HI := Lib.hid hI
  have HOW := Lib.hid hO
  have hxm : x.length ≤ maxLen := by unfold maxLen; omega
  have hnn : -9223372036854775808 ≤ n ∧ n ≤ 9223372036854775807 := by omega
  obtain ⟨c0, c1, c2, c3, c4, c5, c6⟩ := Lies_cells7 HA.out.c
  obtain ⟨k0, k1, k2⟩ := LB.out.cells3
  have C := Lib.hid (book_crew o n B0 _ HA.out hI ho hn)
  rw [fwd5]
  unfold WkPost at C
  clear h hI hF hO
  go_enter Tryz.func131, Tryz.ntmps131
  go_wp2_with fail
  with_reducible refine C.out.mono ?_
  rintro e w1 ⟨v, b', rfl, hv, hvf, hc, hA, hC, hf⟩
  have HA1 := Lib.hid hA
  have HC1 := Lib.hid (chg_box hC)
  have HV1 := Lib.hid (hv.mono (show w.heap.size ≤ _ from (by simp)))
  have HCC := Lib.hid hc
  have HVF := Lib.hid hvf
  have HFF := Lib.hid hf
  clear hA hC hv hvf hc hf
  go_wp2
  go_ret2
  exact ⟨_, b', rfl, HV1.out, HVF.out, HCC.out, HA1.out, HC1.out, HFF.out⟩
set_option maxHeartbeats 4000000 in
theorem undo1 {R : List Int} {b : CB} {q : Cq} (o : Nat) (n : Int) (x : List Nat) (A : Option Addr) (c : Nat) (B0 : Nat) (w : World) (h : CAt w b q) (hI : CInv R q) (ho : o < 4294967296) (hn : 0 ≤ n ∧ n ≤ 1000000000) (hx : x.length ≤ 32)
    (hO : Own w B0 (.slice A x.length c) x) (hB : B0 ≤ w.heap.size) (hF : ∀ i, b.foot i → i < B0) :
    Calls Tryz.prog 130 #[.pointer (some ⟨b.c, 0, none⟩), .int .u32 (o : Int), .agg #[.int .i64 1, .int .i64 n, .slice A x.length c]] w (UnPost w b B0 (bwdS q o ⟨1, n, x⟩)) := by
  have HA : Hid (CAt (w.alloc (.cells #[.int .i64 1, .int .i64 n, .slice A x.length c] 24)) b q) := Lib.hid (h.alloc _)
  have LB : Hid (Lies (w.alloc (.cells #[.int .i64 1, .int .i64 n, .slice A x.length c] 24)) w.heap.size 24 #[.int .i64 1, .int .i64 n, .slice A x.length c]) := Lib.hid (Lies.made w 24 _)
  have HO : Hid (Own (w.alloc (.cells #[.int .i64 1, .int .i64 n, .slice A x.length c] 24)) B0 (.slice A x.length c) x) := Lib.hid (hO.alloc _)
  have HNF : Hid (¬ b.foot w.heap.size) := Lib.hid (fun hf => by have := hF _ hf; omega)
  have HOF : Hid (∀ i, (Value.slice A x.length c).ownBlock = some i → ¬ b.foot i) := Lib.hid (fun i hi hf => by have h1 := hF _ hf; have h2 := hO.block i hi; omega)
  have HW := Lib.hid h
  have HI := Lib.hid hI
  have HOW := Lib.hid hO
  have hxm : x.length ≤ maxLen := by unfold maxLen; omega
  have hnn : -9223372036854775808 ≤ n ∧ n ≤ 9223372036854775807 := by omega
  obtain ⟨c0, c1, c2, c3, c4, c5, c6⟩ := Lies_cells7 HA.out.c
  obtain ⟨k0, k1, k2⟩ := LB.out.cells3
  have C := Lib.hid (cr_free HA.out hI o ho)
  rw [bwd1]
  unfold PartPost at C
  clear h hI hF hO
  go_enter Tryz.func130, Tryz.ntmps130
  go_wp2_with fail
  with_reducible refine C.out.mono ?_
  rintro e w1 ⟨rfl, hA, hC⟩
  have HA1 := Lib.hid hA
  have HC1 := Lib.hid (chg_box hC)
  clear hA hC
  go_wp2
  go_ret
  exact ⟨b, rfl, rfl, HA1.out, HC1.out, fun i hi => .inl hi⟩
set_option maxHeartbeats 4000000 in
theorem undo3 {R : List Int} {b : CB} {q : Cq} (o : Nat) (n : Int) (x : List Nat) (A : Option Addr) (c : Nat) (B0 : Nat) (w : World) (h : CAt w b q) (hI : CInv R q) (ho : o < 4294967296) (hn : 0 ≤ n ∧ n ≤ 1000000000) (hx : x.length ≤ 32)
    (hO : Own w B0 (.slice A x.length c) x) (hB : B0 ≤ w.heap.size) (hF : ∀ i, b.foot i → i < B0) :
    Calls Tryz.prog 130 #[.pointer (some ⟨b.c, 0, none⟩), .int .u32 (o : Int), .agg #[.int .i64 3, .int .i64 n, .slice A x.length c]] w (UnPost w b B0 (bwdS q o ⟨3, n, x⟩)) := by
  have HA : Hid (CAt (w.alloc (.cells #[.int .i64 3, .int .i64 n, .slice A x.length c] 24)) b q) := Lib.hid (h.alloc _)
  have LB : Hid (Lies (w.alloc (.cells #[.int .i64 3, .int .i64 n, .slice A x.length c] 24)) w.heap.size 24 #[.int .i64 3, .int .i64 n, .slice A x.length c]) := Lib.hid (Lies.made w 24 _)
  have HO : Hid (Own (w.alloc (.cells #[.int .i64 3, .int .i64 n, .slice A x.length c] 24)) B0 (.slice A x.length c) x) := Lib.hid (hO.alloc _)
  have HNF : Hid (¬ b.foot w.heap.size) := Lib.hid (fun hf => by have := hF _ hf; omega)
  have HOF : Hid (∀ i, (Value.slice A x.length c).ownBlock = some i → ¬ b.foot i) := Lib.hid (fun i hi hf => by have h1 := hF _ hf; have h2 := hO.block i hi; omega)
  have HW := Lib.hid h
  have HI := Lib.hid hI
  have HOW := Lib.hid hO
  have hxm : x.length ≤ maxLen := by unfold maxLen; omega
  have hnn : -9223372036854775808 ≤ n ∧ n ≤ 9223372036854775807 := by omega
  obtain ⟨c0, c1, c2, c3, c4, c5, c6⟩ := Lies_cells7 HA.out.c
  obtain ⟨k0, k1, k2⟩ := LB.out.cells3
  have C := Lib.hid (cr_void HA.out hI o ho)
  rw [bwd3]
  unfold PartPost at C
  clear h hI hF hO
  go_enter Tryz.func130, Tryz.ntmps130
  go_wp2_with fail
  with_reducible refine C.out.mono ?_
  rintro e w1 ⟨rfl, hA, hC⟩
  have HA1 := Lib.hid hA
  have HC1 := Lib.hid (chg_box hC)
  clear hA hC
  go_wp2
  go_ret
  exact ⟨b, rfl, rfl, HA1.out, HC1.out, fun i hi => .inl hi⟩
set_option maxHeartbeats 4000000 in
theorem undo4 {R : List Int} {b : CB} {q : Cq} (o : Nat) (n : Int) (x : List Nat) (A : Option Addr) (c : Nat) (B0 : Nat) (w : World) (h : CAt w b q) (hI : CInv R q) (ho : o < 4294967296) (hn : 0 ≤ n ∧ n ≤ 1000000000) (hx : x.length ≤ 32)
    (hO : Own w B0 (.slice A x.length c) x) (hB : B0 ≤ w.heap.size) (hF : ∀ i, b.foot i → i < B0) :
    Calls Tryz.prog 130 #[.pointer (some ⟨b.c, 0, none⟩), .int .u32 (o : Int), .agg #[.int .i64 4, .int .i64 n, .slice A x.length c]] w (UnPost w b B0 (bwdS q o ⟨4, n, x⟩)) := by
  have HA : Hid (CAt (w.alloc (.cells #[.int .i64 4, .int .i64 n, .slice A x.length c] 24)) b q) := Lib.hid (h.alloc _)
  have LB : Hid (Lies (w.alloc (.cells #[.int .i64 4, .int .i64 n, .slice A x.length c] 24)) w.heap.size 24 #[.int .i64 4, .int .i64 n, .slice A x.length c]) := Lib.hid (Lies.made w 24 _)
  have HO : Hid (Own (w.alloc (.cells #[.int .i64 4, .int .i64 n, .slice A x.length c] 24)) B0 (.slice A x.length c) x) := Lib.hid (hO.alloc _)
  have HNF : Hid (¬ b.foot w.heap.size) := Lib.hid (fun hf => by have := hF _ hf; omega)
  have HOF : Hid (∀ i, (Value.slice A x.length c).ownBlock = some i → ¬ b.foot i) := Lib.hid (fun i hi hf => by have h1 := hF _ hf; have h2 := hO.block i hi; omega)
  have HW := Lib.hid h
  have HI := Lib.hid hI
  have HOW := Lib.hid hO
  have hxm : x.length ≤ maxLen := by unfold maxLen; omega
  have hnn : -9223372036854775808 ≤ n ∧ n ≤ 9223372036854775807 := by omega
  obtain ⟨c0, c1, c2, c3, c4, c5, c6⟩ := Lies_cells7 HA.out.c
  obtain ⟨k0, k1, k2⟩ := LB.out.cells3
  have C := Lib.hid (cr_refund HA.out hI o ho)
  rw [bwd4]
  unfold PartPost at C
  clear h hI hF hO
  go_enter Tryz.func130, Tryz.ntmps130
  go_wp2_with fail
  with_reducible refine C.out.mono ?_
  rintro e w1 ⟨rfl, hA, hC⟩
  have HA1 := Lib.hid hA
  have HC1 := Lib.hid (chg_box hC)
  clear hA hC
  go_wp2
  go_ret
  exact ⟨b, rfl, rfl, HA1.out, HC1.out, fun i hi => .inl hi⟩
set_option maxHeartbeats 4000000 in
theorem undo5 {R : List Int} {b : CB} {q : Cq} (o : Nat) (n : Int) (x : List Nat) (A : Option Addr) (c : Nat) (B0 : Nat) (w : World) (h : CAt w b q) (hI : CInv R q) (ho : o < 4294967296) (hn : 0 ≤ n ∧ n ≤ 1000000000) (hx : x.length ≤ 32)
    (hO : Own w B0 (.slice A x.length c) x) (hB : B0 ≤ w.heap.size) (hF : ∀ i, b.foot i → i < B0) :
    Calls Tryz.prog 130 #[.pointer (some ⟨b.c, 0, none⟩), .int .u32 (o : Int), .agg #[.int .i64 5, .int .i64 n, .slice A x.length c]] w (UnPost w b B0 (bwdS q o ⟨5, n, x⟩)) := by
  have HA : Hid (CAt (w.alloc (.cells #[.int .i64 5, .int .i64 n, .slice A x.length c] 24)) b q) := Lib.hid (h.alloc _)
  have LB : Hid (Lies (w.alloc (.cells #[.int .i64 5, .int .i64 n, .slice A x.length c] 24)) w.heap.size 24 #[.int .i64 5, .int .i64 n, .slice A x.length c]) := Lib.hid (Lies.made w 24 _)
  have HO : Hid (Own (w.alloc (.cells #[.int .i64 5, .int .i64 n, .slice A x.length c] 24)) B0 (.slice A x.length c) x) := Lib.hid (hO.alloc _)
  have HNF : Hid (¬ b.foot w.heap.size) := Lib.hid (fun hf => by have := hF _ hf; omega)
  have HOF : Hid (∀ i, (Value.slice A x.length c).ownBlock = some i → ¬ b.foot i) := Lib.hid (fun i hi hf => by have h1 := hF _ hf; have h2 := hO.block i hi; omega)
  have HW := Lib.hid h
  have HI := Lib.hid hI
  have HOW := Lib.hid hO
  have hxm : x.length ≤ maxLen := by unfold maxLen; omega
  have hnn : -9223372036854775808 ≤ n ∧ n ≤ 9223372036854775807 := by omega
  obtain ⟨c0, c1, c2, c3, c4, c5, c6⟩ := Lies_cells7 HA.out.c
  obtain ⟨k0, k1, k2⟩ := LB.out.cells3
  have C := Lib.hid (cr_canc HA.out hI o ho)
  rw [bwd5]
  unfold PartPost at C
  clear h hI hF hO
  go_enter Tryz.func130, Tryz.ntmps130
  go_wp2_with fail
  with_reducible refine C.out.mono ?_
  rintro e w1 ⟨rfl, hA, hC⟩
  have HA1 := Lib.hid hA
  have HC1 := Lib.hid (chg_box hC)
  clear hA hC
  go_wp2
  go_ret
  exact ⟨b, rfl, rfl, HA1.out, HC1.out, fun i hi => .inl hi⟩
set_option maxHeartbeats 4000000 in
theorem undo2 {R : List Int} {b : CB} {q : Cq} (o : Nat) (n : Int) (x : List Nat) (A : Option Addr) (c : Nat) (B0 : Nat) (w : World) (h : CAt w b q) (hI : CInv R q) (ho : o < 4294967296) (hn : 0 ≤ n ∧ n ≤ 1000000000) (hx : x.length ≤ 32)
    (hO : Own w B0 (.slice A x.length c) x) (hB : B0 ≤ w.heap.size) (hF : ∀ i, b.foot i → i < B0) :
    Calls Tryz.prog 130 #[.pointer (some ⟨b.c, 0, none⟩), .int .u32 (o : Int), .agg #[.int .i64 2, .int .i64 n, .slice A x.length c]] w (UnPost w b B0 (bwdS q o ⟨2, n, x⟩)) := by
  have HA : Hid (CAt (w.alloc (.cells #[.int .i64 2, .int .i64 n, .slice A x.length c] 24)) b q) := Lib.hid (h.alloc _)
  have LB : Hid (Lies (w.alloc (.cells #[.int .i64 2, .int .i64 n, .slice A x.length c] 24)) w.heap.size 24 #[.int .i64 2, .int .i64 n, .slice A x.length c]) := Lib.hid (Lies.made w 24 _)
  have HO : Hid (Own (w.alloc (.cells #[.int .i64 2, .int .i64 n, .slice A x.length c] 24)) B0 (.slice A x.length c) x) := Lib.hid (hO.alloc _)
  have HNF : Hid (¬ b.foot w.heap.size) := Lib.hid (fun hf => by have := hF _ hf; omega)
  have HOF : Hid (∀ i, (Value.slice A x.length c).ownBlock = some i → ¬ b.foot i) := Lib.hid (fun i hi hf => by have h1 := hF _ hf; have h2 := hO.block i hi; omega)
  have HW := Lib.hid h
  have HI := Lib.hid hI
  have HOW := Lib.hid hO
  have hxm : x.length ≤ maxLen := by unfold maxLen; omega
  have hnn : -9223372036854775808 ≤ n ∧ n ≤ 9223372036854775807 := by omega
  obtain ⟨c0, c1, c2, c3, c4, c5, c6⟩ := Lies_cells7 HA.out.c
  obtain ⟨k0, k1, k2⟩ := LB.out.cells3
  rw [bwd2]
  clear h hI hF hO
  go_enter Tryz.func130, Tryz.ntmps130
  go_wp2
  go_ret
  exact ⟨b, rfl, rfl, HA.out, Chg.of (Fe.below1 _ _), fun i hi => .inl hi⟩

end Go.Proofs.YtpbclmnhkmcknaaGreat
