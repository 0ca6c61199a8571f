/-
  Ask, Keep and Find as the calls use them.
-/
import Derived.Test.YtfcfejmammohpaaCallM
namespace Go.Proofs.Ytfcfejmammohpaa
open Go.RowKit
set_option maxRecDepth 100000
set_option linter.unusedVariables false
set_option linter.unusedSimpArgs false

theorem step3 (st : Int) : 0 ≤ wrap64 ((IntKind.u64.wrap st).tmod 3) ∧ wrap64 ((IntKind.u64.wrap st).tmod 3) < 3 := by
  have h0 : 0 ≤ IntKind.u64.wrap st := by rw [IntKind.wrap_u64]; omega
  rw [Int.tmod_eq_emod_of_nonneg h0]
  generalize IntKind.u64.wrap st = q at *
  unfold wrap64
  omega
/-- The cells of the request. -/
abbrev nB (E od : Nat) (st : Int) (un : Bool) (Ad : Option Addr) (ld cd : Nat) : Array Value := #[.int .i64 7, .int .u32 (E : Int), .int .u32 0, .int .u64 0, .int .u64 0, .int .u32 (od : Int), .int .i64 st, .bool un, .int .i64 0, .slice none 0 0, .slice Ad ld cd]
theorem entV_st {w : World} {E od : Nat} {st : Int} {un : Bool} {Ad : Option Addr} {cd : Nat} {l : List Nat} (hB : Bys w Ad l.length l) (hc : l.length ≤ cd) (hm : cd ≤ maxLen) (hA : Ad = none → cd = 0) (hE : E < 4294967296) (ho : od < 4294967296) (hs : in64 st) : EntV w (stN E od st un l) none Ad 0 cd := by
  refine ⟨Bys.none_ w, Nat.le_refl _, by unfold maxLen; omega, fun _ => rfl, hB, hc, hm, hA, ?_⟩
  unfold in64 at hs
  constructor <;> simp only [] <;> first | omega | (intro c hc; exact hB.2.1 c hc) | (intro c hc; cases hc)
theorem ask_st (ep : Nat) (A : Option Addr) (n c : Nat) (T : Nat → Kp) (E od : Nat) (st : Int) (un : Bool) (Ad : Option Addr) (ld cd : Nat) (l : List Nat) (w : World) (hF : FV w A n c T) (hN : EntV w (stN E od st un l) none Ad 0 cd) (hl : l.length = ld) (hs : in64 st) (hep : ep < 4294967296) (a e : Int) (kp : Kp) (ha : ((askS ep n T (stN E od st un l)).act : Int) = a) (hk : (askS ep n T (stN E od st un l)).k = kp) (he : ((askS ep n T (stN E od st un l)).e : Int) = e) :
    Calls Try.prog 14 #[.agg #[.int .u32 (ep : Int), .slice A n c], .agg (nB E od st un Ad ld cd)] w fun x w' => ∃ bA bd bB be, x = .returned (.tuple #[.int .i64 a, .agg #[.int .u32 (kp.o : Int), .int .i64 kp.s, .bool kp.u, .slice bA kp.a.length bd, .int .i64 kp.c, .slice bB kp.r.length be], .int .i64 e]) ∧ Own w' w.heap.size (.slice bA kp.a.length bd) kp.a ∧ Own w' w.heap.size (.slice bB kp.r.length be) kp.r ∧ Below w.heap.size w w' := by
  subst hl ha hk he
  refine (ask_any ep A n c T (stN E od st un l) none Ad 0 cd w hF hN hs hep).mono ?_
  rintro x w' ⟨y, rfl, hy, hb⟩
  obtain ⟨E1, d1, z1, -⟩ := hy.2.1.slice
  obtain ⟨E2, d2, z2, -⟩ := hy.2.2.slice
  have h1 := hy.2.1
  have h2 := hy.2.2
  have hyk := hy.1
  obtain ⟨yk, yK, yD⟩ := y
  dsimp only at *
  subst z1 z2
  subst hyk
  exact ⟨_, _, _, _, rfl, h1, h2, hb⟩
theorem keep_st (ep : Nat) (A : Option Addr) (n c : Nat) (T : Nat → Kp) (E od : Nat) (st : Int) (un : Bool) (Ad : Option Addr) (ld cd : Nat) (l : List Nat) (code : Int) (gB rb : Nat) (w : World) (hF : FV w A n c T) (hN : EntV w (stN E od st un l) none Ad 0 cd) (hl : l.length = ld) (hs : in64 st) (hep : ep < 4294967296) (hcode : in64 code) (hR : Bys w (some ⟨gB, 0, none⟩) 1 [rb]) (he : keepE ep n T (stN E od st un l) code [rb] = 0) :
    Calls Try.prog 26 #[.agg #[.int .u32 (ep : Int), .slice A n c], .agg (nB E od st un Ad ld cd), .int .i64 code, .slice (some ⟨gB, 0, none⟩) 1 1] w fun x w' => ∃ A' c' Y', x = .returned (.tuple #[.agg #[.int .u32 (E : Int), .slice A' (n + 1) c'], .int .i64 0]) ∧ NF w' w.heap.size (.slice A' (n + 1) c') (n + 1) Y' ∧ (∀ i, i < n + 1 → (Y' i).k = ins (pos T (kn od st un) n) ⟨od, st, un, l, code, [rb]⟩ T i) ∧ Below w.heap.size w w' := by
  subst hl
  refine (keep_any ep A n c T (stN E od st un l) none Ad 0 cd code (some ⟨gB, 0, none⟩) 1 1 [rb] w hF hN hs hep hcode hR (Nat.le_refl _) (by unfold maxLen; omega) (fun h => by cases h)).mono ?_
  rintro x w' ⟨v, X, rfl, hnf, hx, hb⟩
  have e1 := keepF_new he
  rw [e1] at hnf hx
  rw [e1, he]
  dsimp only at *
  obtain ⟨A', c', rfl, -⟩ := hnf.row.slice
  exact ⟨A', c', X, rfl, hnf, hx, hb⟩
theorem find_st (ep : Nat) (A : Option Addr) (n c : Nat) (T : Nat → Kp) (od : Nat) (st : Int) (un : Bool) (ld : Nat) (l : List Nat) (code : Int) (rb : Nat) (w : World) (hF : FV w A n c T) (hl : l.length = ld) (hs : in64 st) (h1 : findK n T (kn od st un) = ⟨od, st, un, l, code, [rb]⟩) (h2 : findB n T (kn od st un) = true) :
    Calls Try.prog 16 #[.agg #[.int .u32 (ep : Int), .slice A n c], .int .u32 (od : Int), .int .i64 st, .bool un] w fun x w' => ∃ fA fd fB fe, x = .returned (.tuple #[.agg #[.int .u32 (od : Int), .int .i64 st, .bool un, .slice fA ld fd, .int .i64 code, .slice fB 1 fe], .bool true]) ∧ Own w' w.heap.size (.slice fA ld fd) l ∧ Own w' w.heap.size (.slice fB 1 fe) [rb] ∧ Below w.heap.size w w' := by
  subst hl
  refine (find_any ep A n c T od st un w hF hs).mono ?_
  rw [h1, h2]
  rintro x w' ⟨y, rfl, hy, hb⟩
  obtain ⟨E1, d1, z1, -⟩ := hy.2.1.slice
  obtain ⟨E2, d2, z2, -⟩ := hy.2.2.slice
  have h1 := hy.2.1
  have h2 := hy.2.2
  have hyk := hy.1
  obtain ⟨yk, yK, yD⟩ := y
  dsimp only at *
  subst z1 z2
  subst hyk
  exact ⟨_, _, _, _, rfl, h1, h2, hb⟩

end Go.Proofs.Ytfcfejmammohpaa
