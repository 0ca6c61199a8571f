/-
  The calls of a served one, from the keeping on.
-/
import Derived.Test.YtfcfejmammohpaaCallN
import Derived.Deep.RegionHeld3
import Derived.Deep.DeepCutAuto
import Derived.Deep.CutRange
namespace Go.Proofs.Ytfcfejmammohpaa
open Go.RowKit
set_option maxRecDepth 100000
set_option linter.unusedVariables false
set_option linter.unusedSimpArgs false

/-- The code behind region k, and that region. -/
def restOf (k : Nat) : Code → Option Code
  | .seq (.region i ops d) b => if i == k then some b else restOf k b
  | .seq a b => match restOf k a with
    | some c => some c
    | none => restOf k b
  | .block _ c => restOf k c
  | .scope c => restOf k c
  | .loop c => restOf k c
  | .cond _ a b => match restOf k a with
    | some c => some c
    | none => restOf k b
  | _ => none
def regOf (k : Nat) : Code → Option Code
  | .region i ops d => if i == k then some (.region i ops d) else none
  | .seq a b => match regOf k a with
    | some c => some c
    | none => regOf k b
  | .block _ c => regOf k c
  | .scope c => regOf k c
  | .loop c => regOf k c
  | .cond _ a b => match regOf k a with
    | some c => some c
    | none => regOf k b
  | _ => none
set_option maxRecDepth 1000000 in
noncomputable def rest21 : Code := (Try.f51.body.bind (restOf 21)).getD .skip
set_option maxRecDepth 1000000 in
noncomputable def reg21 : Code := (Try.f51.body.bind (regOf 21)).getD .skip
set_option maxRecDepth 1000000 in
set_option maxHeartbeats 16000000 in
theorem tail21 (w0 : World) (gs gC : Nat) (s0 : St) (ep : Nat) (A : Option Addr) (n c : Nat) (Y : Nat → Kx) (Da : Option Addr) (nd dc : Nat) (D : Nat → Kx) (Ta : Option Addr) (nt tc : Nat) (U : Nat → Kx) (Oa : Option Addr) (no oc : Nat) (Ov : Nat → Kx) (E O : Nat) (S : Int) (un : Bool) (Ad : Option Addr) (ld cd : Nat) (l : List Nat) (x2 : World)
    (SM2 : Hid (SM w0 gs (⟨ep, A, n, c, Y, Da, nd, dc, D, Ta, nt, tc, U, Oa, no, oc, Ov⟩ : St) x2))
    (LN2 : Hid (Lies x2 (gC + 1) 29 #[.int .i64 7, .int .u32 (E : Int), .int .u32 0, .int .u64 0, .int .u64 0, .int .u32 (O : Int), .int .i64 S, .bool un, .int .i64 0, .slice none 0 0, .slice Ad ld cd]))
    (HF2 : Hid (FV x2 A n c (fun i => (Y i).k)))
    (HN2 : Hid (EntV x2 (stN E O S un l) none Ad 0 cd))
    (HNT : Hid (nt < 256))
    (HLD : Hid (l.length = ld))
    (H64 : Hid (in64 S))
    (HEP : Hid (ep < 4294967296))
    (KE0 : Hid (keepE ep n (fun i => (Y i).k) (stN E O S un l) 1 [nt] = 0))
    (HGN : Hid (gs < gC))
    (HNS : Hid (¬ E < ep))
    (HFN : Hid (findK (n + 1) (ins (pos (fun i => (Y i).k) (kn O S un) n) ⟨O, S, un, l, 1, [nt]⟩ (fun i => (Y i).k)) (kn O S un) = ⟨O, S, un, l, 1, [nt]⟩ ∧ findB (n + 1) (ins (pos (fun i => (Y i).k) (kn O S un) n) ⟨O, S, un, l, 1, [nt]⟩ (fun i => (Y i).k)) (kn O S un) = true))
    (HON : Hid (O < 4294967296))
    (HNN : Hid (n < 200 ∧ nt < 200 ∧ nd < 201 ∧ no < 200))
    (HIK : Hid (Inv E (n + 1) (ins (pos (fun i => (Y i).k) (kn O S un) n) ⟨O, S, un, l, 1, [nt]⟩ (fun i => (Y i).k)) nd (fun i => (D i).k) (nt + 1) (snoc nt (fun i => (U i).k) ⟨O, S, un, l, 1, [nt]⟩) (if un = true then no + 1 else no) (if un = true then snoc no (fun i => (Ov i).k) ⟨O, S, un, l, 1, [nt]⟩ else fun i => (Ov i).k)))
    (HS0 : Hid (n ≤ s0.n ∧ nt ≤ s0.nt ∧ nd ≤ s0.nd + 1 ∧ no ≤ s0.no))
    (K0 : Act → World → Prop) (hK0 : ∀ a w, Code.wp Try.prog rest21 (bodyPost Try.prog Try.f51 (CallPost w0 gs s0)) a w → K0 a w)
    (c1 c2 c3 c6 c7 c8 c10 c11 c12 c13 c14 c15 c16 c17 c18 c19 c20 c21 c22 c23 c24 c25 c26 c27 c28 c29 c30 c31 c32 c33 c34 c35 c36 c37 c38 c39 c40 c41 c42 c43 c44 c45 c46 c47 c48 c49 c50 c51 c52 c53 c54 c55 c56 c57 c58 c59 c60 c61 c62 c63 c64 c65 c66 c67 c68 c69 c70 c71 c72 c73 c74 c75 c76 c77 c78 c79 c80 c81 c82 c83 c84 c85 c86 c87 c88 c89 c90 c91 c92 c93 c94 c95 c96 c97 c98 c99 c100 c101 c102 c103 c104 c105 c106 c107 c108 c109 c110 c111 c112 c113 c114 c115 c116 c117 c118 c119 c120 c121 c122 c123 c124 c125 c126 c127 c128 c129 c130 c131 c132 c133 c134 c135 c136 c137 c138 c139 c140 c141 c142 c143 c144 c145 c146 c147 c148 c149 c150 c151 c152 c153 c154 c155 c156 c157 c158 c159 c160 c161 c162 c163 c164 c165 c166 c167 c168 c169 c170 c171 c172 c173 c174 c175 c176 c177 c178 c179 c180 c181 c182 c183 c184 c185 c186 c187 c188 c189 c190 c191 c192 c193 c194 c195 c196 c197 c198 c199 c200 c201 c202 c203 c204 c205 c206 c207 c208 c209 c210 c211 c212 c213 c214 c215 c216 c217 c218 c219 c220 c221 c222 c223 c224 c225 c226 c227 c228 c229 c230 c231 c232 c233 c234 c235 c236 c237 c238 c239 c240 c241 c242 c243 c244 c245 c246 c247 c248 c249 c250 c251 : Value) :
    Code.wp Try.prog reg21 (Exit.then K0 (bodyPost Try.prog Try.f51 (CallPost w0 gs s0))) ⟨(List.toArray ((.pointer (some ⟨gs, 0, none⟩) : Value) :: c1 :: c2 :: c3 :: (.pointer (some ⟨gC + 1, 0, none⟩) : Value) :: (.int .u32 (ep : Int) : Value) :: c6 :: c7 :: c8 :: (.int .i64 1 : Value) :: c10 :: c11 :: c12 :: c13 :: c14 :: c15 :: c16 :: c17 :: c18 :: c19 :: c20 :: c21 :: c22 :: c23 :: c24 :: c25 :: c26 :: c27 :: c28 :: c29 :: c30 :: c31 :: c32 :: c33 :: c34 :: c35 :: c36 :: c37 :: c38 :: c39 :: c40 :: c41 :: c42 :: c43 :: c44 :: c45 :: c46 :: c47 :: c48 :: c49 :: c50 :: c51 :: c52 :: c53 :: c54 :: c55 :: c56 :: c57 :: c58 :: c59 :: c60 :: c61 :: c62 :: c63 :: c64 :: c65 :: c66 :: c67 :: c68 :: c69 :: c70 :: c71 :: c72 :: c73 :: c74 :: c75 :: c76 :: c77 :: c78 :: c79 :: c80 :: c81 :: c82 :: c83 :: c84 :: c85 :: c86 :: c87 :: c88 :: c89 :: c90 :: c91 :: c92 :: c93 :: c94 :: c95 :: c96 :: c97 :: c98 :: c99 :: c100 :: c101 :: c102 :: c103 :: c104 :: c105 :: c106 :: c107 :: c108 :: c109 :: c110 :: c111 :: c112 :: c113 :: c114 :: c115 :: c116 :: c117 :: c118 :: c119 :: c120 :: c121 :: c122 :: c123 :: c124 :: c125 :: c126 :: c127 :: c128 :: c129 :: c130 :: c131 :: c132 :: c133 :: c134 :: c135 :: c136 :: c137 :: c138 :: c139 :: c140 :: c141 :: c142 :: c143 :: c144 :: c145 :: c146 :: c147 :: c148 :: c149 :: c150 :: c151 :: c152 :: c153 :: c154 :: c155 :: c156 :: c157 :: c158 :: c159 :: c160 :: c161 :: c162 :: c163 :: c164 :: c165 :: c166 :: c167 :: c168 :: c169 :: c170 :: c171 :: c172 :: c173 :: c174 :: c175 :: c176 :: c177 :: c178 :: c179 :: c180 :: c181 :: c182 :: c183 :: c184 :: c185 :: c186 :: c187 :: c188 :: c189 :: c190 :: c191 :: c192 :: c193 :: c194 :: c195 :: c196 :: c197 :: c198 :: c199 :: c200 :: c201 :: c202 :: c203 :: c204 :: c205 :: c206 :: c207 :: c208 :: c209 :: c210 :: c211 :: c212 :: c213 :: c214 :: c215 :: c216 :: c217 :: c218 :: c219 :: c220 :: c221 :: c222 :: c223 :: c224 :: c225 :: c226 :: c227 :: c228 :: c229 :: c230 :: c231 :: c232 :: c233 :: c234 :: c235 :: c236 :: c237 :: c238 :: c239 :: c240 :: c241 :: c242 :: c243 :: c244 :: c245 :: c246 :: c247 :: c248 :: c249 :: c250 :: c251 :: [])), []⟩ x2 := by
  conv => arg 2; whnf
  conv at hK0 => enter [a, w, 1, 2]; whnf
  have BYW : Hid (∀ W : World, Bys (W.alloc (.cells #[.int .u8 (IntKind.u8.wrap (nt : Int))] 5)) (some ⟨W.heap.size, 0, none⟩) 1 [nt]) := Lib.hid (fun W => by rw [show IntKind.u8.wrap (nt : Int) = (nt : Int) by have := HNT.out; rw [IntKind.wrap_u8]; omega]; exact Bys.const W _ [nt] (0, 0) 1 rfl rfl (fun c hc => by have := HNT.out; simp at hc; omega))
  have BYW2 : Hid (∀ W : World, Bys ((W.alloc (.cells #[.int .u32 0, .slice none 0 0] 25)).alloc (.cells #[.int .u8 (IntKind.u8.wrap (nt : Int))] 5)) (some ⟨W.heap.size + 1, 0, none⟩) 1 [nt]) := Lib.hid (fun W => by have h := BYW.out (W.alloc (.cells #[.int .u32 0, .slice none 0 0] 25)); rw [show (W.alloc (.cells #[.int .u32 0, .slice none 0 0] 25)).heap.size = W.heap.size + 1 by simp] at h; exact h)
  have LMW2 : Hid (∀ W : World, Lies ((W.alloc (.cells #[.int .u8 (IntKind.u8.wrap (nt : Int))] 5)).alloc (.cells #[.int .u32 0, .slice none 0 0] 25)) (W.heap.size + 1) 25 #[.int .u32 0, .slice none 0 0]) := Lib.hid (fun W => by have h := Lies.made (W.alloc (.cells #[.int .u8 (IntKind.u8.wrap (nt : Int))] 5)) 25 #[.int .u32 0, .slice none 0 0]; rw [show (W.alloc (.cells #[.int .u8 (IntKind.u8.wrap (nt : Int))] 5)).heap.size = W.heap.size + 1 by simp] at h; exact h)
  have D21 := Lib.hid (fun W (hb : Below x2.heap.size x2 W) gB (hR : Bys W (some ⟨gB, 0, none⟩) 1 [nt]) => keep_st ep A n c (fun i => (Y i).k) E O S un Ad ld cd l 1 gB nt W (HF2.out.below hb) (HN2.out.below hb) HLD.out H64.out HEP.out (by unfold in64; decide) hR KE0.out)
  have LSq : Hid (Lies x2 gs 62 #[.int .u32 (ep : Int), .slice A n c, .slice Da nd dc, .slice Ta nt tc, .slice Oa no oc, .bool false]) := Lib.hid SM2.out.box
  have Z := Lib.hid (Below.refl x2.heap.size x2)
  obtain ⟨u0, u1, -, u3, -, -⟩ := LSq.out.cells6
  obtain ⟨v0, v1, v2, v3, v4, v5, v6, v7, v8, v9, v10⟩ := LN2.out.cells11
  have hz1 : x2.heap.size ≠ gs := Nat.ne_of_gt LSq.out.lt
  have hz2 : x2.heap.size ≠ gC + 1 := Nat.ne_of_gt LN2.out.lt
  have hz3 : x2.heap.size + 1 ≠ gs := by have := LSq.out.lt; omega
  have hz4 : x2.heap.size ≠ gC := by have := LN2.out.lt; omega
  go_cut [11, 12] (fun s11 s12 W => s12 = .int .i64 0 ∧ ∃ g A6 c6 Y6, s11 = .pointer (some ⟨g, 0, none⟩) ∧ Lies W g 25 #[.int .u32 (E : Int), .slice A6 (n + 1) c6] ∧ NF W x2.heap.size (.slice A6 (n + 1) c6) (n + 1) Y6 ∧ (∀ i, i < n + 1 → (Y6 i).k = ins (pos (fun i => (Y i).k) (kn O S un) n) ⟨O, S, un, l, 1, [nt]⟩ (fun i => (Y i).k) i) ∧ x2.heap.size ≤ g ∧ Below x2.heap.size x2 W)
  case first =>
    as_aux_lemma =>
      go_region_held3 (fun W => W.cell? ⟨gs, 0, none⟩ = some (.int .u32 (ep : Int)) ∧ W.cell? ⟨gs, 1, none⟩ = some (.slice A n c) ∧ W.cell? ⟨gs, 3, none⟩ = some (.slice Ta nt tc) ∧ W.cell? ⟨gC + 1, 0, none⟩ = some (.int .i64 7) ∧ W.cell? ⟨gC + 1, 1, none⟩ = some (.int .u32 (E : Int)) ∧ W.cell? ⟨gC + 1, 2, none⟩ = some (.int .u32 0) ∧ W.cell? ⟨gC + 1, 3, none⟩ = some (.int .u64 0) ∧ W.cell? ⟨gC + 1, 4, none⟩ = some (.int .u64 0) ∧ W.cell? ⟨gC + 1, 5, none⟩ = some (.int .u32 (O : Int)) ∧ W.cell? ⟨gC + 1, 6, none⟩ = some (.int .i64 S) ∧ W.cell? ⟨gC + 1, 7, none⟩ = some (.bool un) ∧ W.cell? ⟨gC + 1, 8, none⟩ = some (.int .i64 0) ∧ W.cell? ⟨gC + 1, 9, none⟩ = some (.slice none 0 0) ∧ W.cell? ⟨gC + 1, 10, none⟩ = some (.slice Ad ld cd)) (first | (with_reducible exact ⟨u0, u1, u3, v0, v1, v2, v3, v4, v5, v6, v7, v8, v9, v10⟩) | go_keep)
        (first
        | (go_at_call 26; (with_reducible refine (D21.out (x2.alloc (.cells #[.int .u8 (IntKind.u8.wrap (nt : Int))] 5)).drew (Z.out.alloc Z.out.size (.cells #[.int .u8 (IntKind.u8.wrap (nt : Int))] 5)).drew _ (Bys.drew (BYW.out x2))).mono ?_); (rintro x wb ⟨A6, c6, Y6, rfl, hnf, hyk, hb⟩); (have NF6 := Lib.hid (hnf.mono ((Z.out.alloc Z.out.size (.cells #[.int .u8 (IntKind.u8.wrap (nt : Int))] 5)).size))); (have HY6 := Lib.hid hyk); (have Z := Lib.hid ((Z.out.alloc Z.out.size (.cells #[.int .u8 (IntKind.u8.wrap (nt : Int))] 5)).drew.trans (hb.mono (Z.out.alloc Z.out.size (.cells #[.int .u8 (IntKind.u8.wrap (nt : Int))] 5)).size))); (clear u0 u1 u3 v0 v1 v2 v3 v4 v5 v6 v7 v8 v9 v10); (obtain ⟨u0, u1, -, u3, -, -⟩ := (Lies.below LSq.out Z.out (Lies.lt LSq.out)).cells6); (obtain ⟨v0, v1, v2, v3, v4, v5, v6, v7, v8, v9, v10⟩ := (Lies.below LN2.out Z.out (Lies.lt LN2.out)).cells11); (have hy1 : wb.heap.size ≠ gs := Nat.ne_of_gt (Nat.lt_of_lt_of_le LSq.out.lt Z.out.size)); (have hy2 : wb.heap.size ≠ gC + 1 := Nat.ne_of_gt (Nat.lt_of_lt_of_le LN2.out.lt Z.out.size)); (clear hnf hyk hb))
        | (go_at_call 26; (with_reducible refine (D21.out ((x2.alloc (.cells #[.int .u32 0, .slice none 0 0] 25)).alloc (.cells #[.int .u8 (IntKind.u8.wrap (nt : Int))] 5)).drew ((Z.out.alloc Z.out.size (.cells #[.int .u32 0, .slice none 0 0] 25)).alloc (Z.out.alloc Z.out.size (.cells #[.int .u32 0, .slice none 0 0] 25)).size (.cells #[.int .u8 (IntKind.u8.wrap (nt : Int))] 5)).drew _ (Bys.drew (BYW2.out x2))).mono ?_); (rintro x wb ⟨A6, c6, Y6, rfl, hnf, hyk, hb⟩); (have LZ2 := Lib.hid (Lies.below (Lies.drew (Lies.alloc (Lies.made x2 25 #[.int .u32 0, .slice none 0 0]) (.cells #[.int .u8 (IntKind.u8.wrap (nt : Int))] 5))) hb (Lies.lt (Lies.alloc (Lies.made x2 25 #[.int .u32 0, .slice none 0 0]) (.cells #[.int .u8 (IntKind.u8.wrap (nt : Int))] 5))))); (have GZ := Lib.hid (Nat.le_refl x2.heap.size)); (obtain ⟨zc0, zc1⟩ := LZ2.out.cells2); (obtain ⟨zf0, zf1⟩ := LZ2.out.free2); (have NF6 := Lib.hid (hnf.mono (((Z.out.alloc Z.out.size (.cells #[.int .u32 0, .slice none 0 0] 25)).alloc (Z.out.alloc Z.out.size (.cells #[.int .u32 0, .slice none 0 0] 25)).size (.cells #[.int .u8 (IntKind.u8.wrap (nt : Int))] 5)).size))); (have HY6 := Lib.hid hyk); (have Z := Lib.hid (((Z.out.alloc Z.out.size (.cells #[.int .u32 0, .slice none 0 0] 25)).alloc (Z.out.alloc Z.out.size (.cells #[.int .u32 0, .slice none 0 0] 25)).size (.cells #[.int .u8 (IntKind.u8.wrap (nt : Int))] 5)).drew.trans (hb.mono ((Z.out.alloc Z.out.size (.cells #[.int .u32 0, .slice none 0 0] 25)).alloc (Z.out.alloc Z.out.size (.cells #[.int .u32 0, .slice none 0 0] 25)).size (.cells #[.int .u8 (IntKind.u8.wrap (nt : Int))] 5)).size))); (clear u0 u1 u3 v0 v1 v2 v3 v4 v5 v6 v7 v8 v9 v10); (obtain ⟨u0, u1, -, u3, -, -⟩ := (Lies.below LSq.out Z.out (Lies.lt LSq.out)).cells6); (obtain ⟨v0, v1, v2, v3, v4, v5, v6, v7, v8, v9, v10⟩ := (Lies.below LN2.out Z.out (Lies.lt LN2.out)).cells11); (have hy1 : wb.heap.size ≠ gs := Nat.ne_of_gt (Nat.lt_of_lt_of_le LSq.out.lt Z.out.size)); (have hy2 : wb.heap.size ≠ gC + 1 := Nat.ne_of_gt (Nat.lt_of_lt_of_le LN2.out.lt Z.out.size)); (clear hnf hyk hb))
        | (go_at_call 26; (with_reducible refine (D21.out ((x2.alloc (.cells #[.int .u8 (IntKind.u8.wrap (nt : Int))] 5)).alloc (.cells #[.int .u32 0, .slice none 0 0] 25)).drew ((Z.out.alloc Z.out.size (.cells #[.int .u8 (IntKind.u8.wrap (nt : Int))] 5)).alloc (Z.out.alloc Z.out.size (.cells #[.int .u8 (IntKind.u8.wrap (nt : Int))] 5)).size (.cells #[.int .u32 0, .slice none 0 0] 25)).drew _ (Bys.drew (Bys.below (BYW.out x2) (below1 _ (.cells #[.int .u32 0, .slice none 0 0] 25))))).mono ?_); (rintro x wb ⟨A6, c6, Y6, rfl, hnf, hyk, hb⟩); (have LZ2 := Lib.hid (Lies.below (Lies.drew (LMW2.out x2)) hb (Lies.lt (LMW2.out x2)))); (have GZ := Lib.hid (Nat.le_succ x2.heap.size)); (obtain ⟨zc0, zc1⟩ := LZ2.out.cells2); (obtain ⟨zf0, zf1⟩ := LZ2.out.free2); (have NF6 := Lib.hid (hnf.mono (((Z.out.alloc Z.out.size (.cells #[.int .u8 (IntKind.u8.wrap (nt : Int))] 5)).alloc (Z.out.alloc Z.out.size (.cells #[.int .u8 (IntKind.u8.wrap (nt : Int))] 5)).size (.cells #[.int .u32 0, .slice none 0 0] 25)).size))); (have HY6 := Lib.hid hyk); (have Z := Lib.hid (((Z.out.alloc Z.out.size (.cells #[.int .u8 (IntKind.u8.wrap (nt : Int))] 5)).alloc (Z.out.alloc Z.out.size (.cells #[.int .u8 (IntKind.u8.wrap (nt : Int))] 5)).size (.cells #[.int .u32 0, .slice none 0 0] 25)).drew.trans (hb.mono ((Z.out.alloc Z.out.size (.cells #[.int .u8 (IntKind.u8.wrap (nt : Int))] 5)).alloc (Z.out.alloc Z.out.size (.cells #[.int .u8 (IntKind.u8.wrap (nt : Int))] 5)).size (.cells #[.int .u32 0, .slice none 0 0] 25)).size))); (clear u0 u1 u3 v0 v1 v2 v3 v4 v5 v6 v7 v8 v9 v10); (obtain ⟨u0, u1, -, u3, -, -⟩ := (Lies.below LSq.out Z.out (Lies.lt LSq.out)).cells6); (obtain ⟨v0, v1, v2, v3, v4, v5, v6, v7, v8, v9, v10⟩ := (Lies.below LN2.out Z.out (Lies.lt LN2.out)).cells11); (have hy1 : wb.heap.size ≠ gs := Nat.ne_of_gt (Nat.lt_of_lt_of_le LSq.out.lt Z.out.size)); (have hy2 : wb.heap.size ≠ gC + 1 := Nat.ne_of_gt (Nat.lt_of_lt_of_le LN2.out.lt Z.out.size)); (clear hnf hyk hb)))
      all_goals
        go_wp2_with fail
        go_meet
        first
        | (with_reducible exact ⟨rfl, _, _, _, Y6, rfl, (Lies.put2 LZ2.out _ _), (NF.put2 NF6.out LZ2.out _ _), HY6.out, GZ.out, (below_put2 Z.out GZ.out _ _)⟩)
        | (with_reducible exact ⟨rfl, _, _, _, Y6, rfl, (Lies.made wb 25 #[.int .u32 (E : Int), .slice A6 (n + 1) c6]), (NF.below NF6.out (below1 _ _)), HY6.out, Z.out.size, (Z.out.alloc Z.out.size (.cells #[.int .u32 (E : Int), .slice A6 (n + 1) c6] 25))⟩)
  case rest =>
    obtain ⟨rfl, g5, A6, c6, Y6, rfl, hL5, hN5, hY5, hg5, hBy⟩ := hcut
    generalize wc = x5 at *
    have SM5 := Lib.hid (SM2.out.below hBy)
    have LN5 := Lib.hid (LN2.out.below hBy LN2.out.lt)
    have LF5 := Lib.hid hL5
    have NF5 := Lib.hid hN5
    have HY5 := Lib.hid hY5
    have HG5 := Lib.hid (show g5 ≠ gs by have := LSq.out.lt; omega)
    have LS5 : Hid (Lies x5 gs 62 #[.int .u32 (ep : Int), .slice A n c, .slice Da nd dc, .slice Ta nt tc, .slice Oa no oc, .bool false]) := Lib.hid SM5.out.box
    have SM6 : Hid (SM w0 gs (⟨E, A6, (n + 1), c6, Y6, Da, nd, dc, D, Ta, nt, tc, U, Oa, no, oc, Ov⟩ : St) ((x5.setCell ⟨gs, 0, none⟩ (.int .u32 (E : Int))).setCell ⟨gs, 1, none⟩ (.slice A6 (n + 1) c6))) := Lib.hid (SM.fence SM5.out SM2.out NF5.out)
    have LF6 : Hid (Lies ((x5.setCell ⟨gs, 0, none⟩ (.int .u32 (E : Int))).setCell ⟨gs, 1, none⟩ (.slice A6 (n + 1) c6)) g5 25 #[.int .u32 (E : Int), .slice A6 (n + 1) c6]) := Lib.hid ((LF5.out.other (a := ⟨gs, 0, none⟩) HG5.out _).other (a := ⟨gs, 1, none⟩) HG5.out _)
    have LN6 : Hid (Lies ((x5.setCell ⟨gs, 0, none⟩ (.int .u32 (E : Int))).setCell ⟨gs, 1, none⟩ (.slice A6 (n + 1) c6)) (gC + 1) 29 #[.int .i64 7, .int .u32 (E : Int), .int .u32 0, .int .u64 0, .int .u64 0, .int .u32 (O : Int), .int .i64 S, .bool un, .int .i64 0, .slice none 0 0, .slice Ad ld cd]) := Lib.hid ((LN5.out.other (a := ⟨gs, 0, none⟩) (show gC + 1 ≠ gs by have := HGN.out; omega) _).other (a := ⟨gs, 1, none⟩) (show gC + 1 ≠ gs by have := HGN.out; omega) _)
    have HF6 : Hid (FV ((x5.setCell ⟨gs, 0, none⟩ (.int .u32 (E : Int))).setCell ⟨gs, 1, none⟩ (.slice A6 (n + 1) c6)) A6 (n + 1) c6 (ins (pos (fun i => (Y i).k) (kn O S un) n) ⟨O, S, un, l, 1, [nt]⟩ (fun i => (Y i).k))) := Lib.hid (SM6.out.fv.congr HY5.out)
    have D25 := Lib.hid (find_st E A6 (n + 1) c6 (ins (pos (fun i => (Y i).k) (kn O S un) n) ⟨O, S, un, l, 1, [nt]⟩ (fun i => (Y i).k)) O S un ld l 1 nt ((x5.setCell ⟨gs, 0, none⟩ (.int .u32 (E : Int))).setCell ⟨gs, 1, none⟩ (.slice A6 (n + 1) c6)) HF6.out HLD.out H64.out HFN.out.1 HFN.out.2)
    have tE : ((E : Int) != (E : Int)) = false := by simp
    have dE : decide ((E : Int) < (ep : Int)) = false := by have := HNS.out; rw [decide_eq_false_iff_not]; omega
    have dE2 : decide (E < ep) = false := by have := HNS.out; rw [decide_eq_false_iff_not]; omega
    clear u0 u1 u3 v0 v1 v2 v3 v4 v5 v6 v7 v8 v9 v10 hz1 hz2 hz3 hz4 Z hL5 hN5 hY5 hg5 hBy D21 BYW BYW2 LMW2
    obtain ⟨a0, a1⟩ := LF5.out.cells2
    obtain ⟨v0, v1, v2, v3, v4, v5, v6, v7, v8, v9, v10⟩ := LN5.out.cells11
    obtain ⟨m0, m1, m2, m3, m4, m5⟩ := LS5.out.cells6
    obtain ⟨f0, f1, f2, f3, f4, f5⟩ := LS5.out.free6
    obtain ⟨b0, b1⟩ := LF6.out.cells2
    obtain ⟨-, -, -, -, -, y5, y6, y7, -, -, -⟩ := LN6.out.cells11
    obtain ⟨h0, h1, h2, h3, h4, h5⟩ := Lies.free6 (Lies.put LS5.out 0 (.int .u32 (E : Int)))
    go_wp2_with fail
    with_reducible refine D25.out.mono ?_
    clear a0 a1 v0 v1 v2 v3 v4 v5 v6 v7 v8 v9 v10 m0 m1 m2 m3 m4 m5 f0 f1 f2 f3 f4 f5 b0 b1 y5 y6 y7 h0 h1 h2 h3 h4 h5 tE dE dE2 D25
    obtain ⟨x6, hx6⟩ : ∃ z, z = ((x5.setCell ⟨gs, 0, none⟩ (.int .u32 (E : Int))).setCell ⟨gs, 1, none⟩ (.slice A6 (n + 1) c6)) := ⟨_, rfl⟩
    rw [← hx6]
    rw [← hx6] at SM6 LN6 HF6
    clear hx6 LF6 SM5 LN5 LF5 NF5 LS5
    rintro x w7 ⟨fA, fd, fB, fe, rfl, oA, oB, hb⟩
    have SM7 : Hid (SM w0 gs (⟨E, A6, (n + 1), c6, Y6, Da, nd, dc, D, Ta, nt, tc, U, Oa, no, oc, Ov⟩ : St) (w7.alloc (.cells #[.int .u32 (O : Int), .int .i64 S, .bool un, .slice fA ld fd, .int .i64 1, .slice fB 1 fe] 34))) := Lib.hid ((SM6.out.below hb).alloc _)
    have LS7 : Hid (Lies (w7.alloc (.cells #[.int .u32 (O : Int), .int .i64 S, .bool un, .slice fA ld fd, .int .i64 1, .slice fB 1 fe] 34)) gs 62 #[.int .u32 (E : Int), .slice A6 (n + 1) c6, .slice Da nd dc, .slice Ta nt tc, .slice Oa no oc, .bool false]) := Lib.hid SM7.out.box
    have LN7 : Hid (Lies (w7.alloc (.cells #[.int .u32 (O : Int), .int .i64 S, .bool un, .slice fA ld fd, .int .i64 1, .slice fB 1 fe] 34)) (gC + 1) 29 #[.int .i64 7, .int .u32 (E : Int), .int .u32 0, .int .u64 0, .int .u64 0, .int .u32 (O : Int), .int .i64 S, .bool un, .int .i64 0, .slice none 0 0, .slice Ad ld cd]) := Lib.hid ((LN6.out.below hb LN6.out.lt).alloc _)
    have LK7 : Hid (Lies (w7.alloc (.cells #[.int .u32 (O : Int), .int .i64 S, .bool un, .slice fA ld fd, .int .i64 1, .slice fB 1 fe] 34)) w7.heap.size 34 #[.int .u32 (O : Int), .int .i64 S, .bool un, .slice fA ld fd, .int .i64 1, .slice fB 1 fe]) := Lib.hid (Lies.made w7 34 #[.int .u32 (O : Int), .int .i64 S, .bool un, .slice fA ld fd, .int .i64 1, .slice fB 1 fe])
    have OA7 : Hid (Own (w7.alloc (.cells #[.int .u32 (O : Int), .int .i64 S, .bool un, .slice fA ld fd, .int .i64 1, .slice fB 1 fe] 34)) (gs + 1) (.slice fA ld fd) l) := Lib.hid ((oA.mono SM6.out.lt).alloc _)
    have OB7 : Hid (Own (w7.alloc (.cells #[.int .u32 (O : Int), .int .i64 S, .bool un, .slice fA ld fd, .int .i64 1, .slice fB 1 fe] 34)) (gs + 1) (.slice fB 1 fe) [nt]) := Lib.hid ((oB.mono SM6.out.lt).alloc _)
    have HKt := Lib.hid (fun k (hk : (Value.slice Ta nt tc).ownBlock = some k) => Nat.lt_of_lt_of_le (SM6.out.t.row.blockLt k hk) hb.size)
    have HKo := Lib.hid (fun k (hk : (Value.slice Oa no oc).ownBlock = some k) => Nat.lt_of_lt_of_le (SM6.out.o.row.blockLt k hk) hb.size)
    have HKg := Lib.hid (Nat.lt_of_lt_of_le SM6.out.lt hb.size)
    clear oA oB hb SM6 LN6 HF6
    obtain ⟨m0, m1, m2, m3, m4, m5⟩ := LS7.out.cells6
    obtain ⟨f0, f1, f2, f3, f4, f5⟩ := LS7.out.free6
    obtain ⟨k0, k1, k2, k3, k4, k5⟩ := LK7.out.cells6
    go_wp2_with fail
    rw [setCell_same LS7.out rfl]
    clear m0 m1 m2 m3 m4 m5 f0 f1 f2 f3 f4 f5 k0 k1 k2 k3 k4 k5
    skip
    skip
    obtain ⟨x7, hx7⟩ : ∃ z, z = (w7.alloc (.cells #[.int .u32 (O : Int), .int .i64 S, .bool un, .slice fA ld fd, .int .i64 1, .slice fB 1 fe] 34)) := ⟨_, rfl⟩
    rw [← hx7]
    rw [← hx7] at SM7 LN7 LK7 OA7 OB7
    clear hx7 LS7
    obtain ⟨gF, hgF⟩ : ∃ g, g = w7.heap.size := ⟨_, rfl⟩
    rw [← hgF]
    rw [← hgF] at LK7 HKt HKo HKg
    clear hgF
    have OA8 : Hid (Own x7 (gs + 1) (.slice fA ld fd) (⟨O, S, un, l, 1, [nt]⟩ : Kp).a) := OA7
    have OB8 : Hid (Own x7 (gs + 1) (.slice fB 1 fe) (⟨O, S, un, l, 1, [nt]⟩ : Kp).r) := OB7
    go_cut [14] (fun s14 W => s14 = .bool true ∧ ∃ g8 cap8, SM w0 gs (⟨E, A6, (n + 1), c6, Y6, Da, nd, dc, D, (some ⟨g8, 0, none⟩), (nt + 1), cap8, (snoc nt U ⟨⟨O, S, un, l, 1, [nt]⟩, .slice fA ld fd, .slice fB 1 fe⟩), Oa, no, oc, Ov⟩ : St) W ∧ Lies W (gC + 1) 29 #[.int .i64 7, .int .u32 (E : Int), .int .u32 0, .int .u64 0, .int .u64 0, .int .u32 (O : Int), .int .i64 S, .bool un, .int .i64 0, .slice none 0 0, .slice Ad ld cd] ∧ Lies W gF 34 #[.int .u32 (O : Int), .int .i64 S, .bool un, .slice fA ld fd, .int .i64 1, .slice fB 1 fe])
    case first =>
      have LSx : Hid (Lies x7 gs 62 #[.int .u32 (E : Int), .slice A6 (n + 1) c6, .slice Da nd dc, .slice Ta nt tc, .slice Oa no oc, .bool false]) := Lib.hid SM7.out.box
      obtain ⟨gl0, gl1, gl2, gl3, gl4, gl5⟩ := LSx.out.cells6
      obtain ⟨gf0, gf1, gf2, gf3, gf4, gf5⟩ := LSx.out.free6
      obtain ⟨-, -, ga2, ga3, ga4, -⟩ := Lies.cells6 (LSx.out.alloc (.cells #[.int .u32 (O : Int), .int .i64 S, .bool un, .slice fA ld fd, .int .i64 1, .slice fB 1 fe] 34))
      have GA := Lib.hid ga3
      clear ga2 ga3 ga4
      have HGL := Lib.hid (show gs + 1 ≤ (x7.alloc (.cells #[.int .u32 (O : Int), .int .i64 S, .bool un, .slice fA ld fd, .int .i64 1, .slice fB 1 fe] 34)).heap.size from Nat.le_trans LSx.out.lt (by simp))
      refine wp_region_noPanic ?_
      refine wp_region_held_drew (S := fun W => W.cell? ⟨gF, 0, none⟩ = some (.int .u32 (O : Int)) ∧ W.cell? ⟨gF, 1, none⟩ = some (.int .i64 S) ∧ W.cell? ⟨gF, 2, none⟩ = some (.bool un) ∧ W.cell? ⟨gF, 3, none⟩ = some (.slice fA ld fd) ∧ W.cell? ⟨gF, 4, none⟩ = some (.int .i64 1) ∧ W.cell? ⟨gF, 5, none⟩ = some (.slice fB 1 fe)) (by kernel_rfl) (LK7.out.cells6) (fun hH0 => ?_)
      refine any_take 0 230 ?vc4x0 rfl rfl (by kernel_rfl) (by kernel_rfl) (by kernel_rfl) (fun _ _ _ h => h) (by rfl) ?hyc4x0 hH0 ?restc4x0
      case hyc4x0 => ((intro W hSw); obtain ⟨s0, s1, s2, s3, s4, s5⟩ := hSw; go_simp; (try with_reducible rfl))
      try simp only [Act.put, List.setIfInBounds_toArray, List.set_cons_zero, List.set_cons_succ]
      refine any_take 1 231 ?vc4x1 rfl rfl (by kernel_rfl) (by kernel_rfl) (by kernel_rfl) (fun _ _ _ h => h) (by rfl) ?hyc4x1 hH0 ?restc4x1
      case hyc4x1 => ((intro W hSw); obtain ⟨s0, s1, s2, s3, s4, s5⟩ := hSw; go_simp; (try with_reducible rfl))
      try simp only [Act.put, List.setIfInBounds_toArray, List.set_cons_zero, List.set_cons_succ]
      refine any_take 2 232 ?vc4x2 rfl rfl (by kernel_rfl) (by kernel_rfl) (by kernel_rfl) (fun _ _ _ h => h) (by rfl) ?hyc4x2 hH0 ?restc4x2
      case hyc4x2 => ((intro W hSw); obtain ⟨s0, s1, s2, s3, s4, s5⟩ := hSw; go_simp; (try with_reducible rfl))
      try simp only [Act.put, List.setIfInBounds_toArray, List.set_cons_zero, List.set_cons_succ]
      refine any_take 3 233 ?vc4x3 rfl rfl (by kernel_rfl) (by kernel_rfl) (by kernel_rfl) (fun _ _ _ h => h) (by rfl) ?hyc4x3 hH0 ?restc4x3
      case hyc4x3 => ((intro W hSw); obtain ⟨s0, s1, s2, s3, s4, s5⟩ := hSw; go_simp; (try with_reducible rfl))
      try simp only [Act.put, List.setIfInBounds_toArray, List.set_cons_zero, List.set_cons_succ]
      refine any_take 5 235 ?vc4x5 rfl rfl (by kernel_rfl) (by kernel_rfl) (by kernel_rfl) (fun _ _ _ h => h) (by rfl) ?hyc4x5 hH0 ?restc4x5
      case hyc4x5 => ((intro W hSw); obtain ⟨s0, s1, s2, s3, s4, s5⟩ := hSw; go_simp; (try with_reducible rfl))
      try simp only [Act.put, List.setIfInBounds_toArray, List.set_cons_zero, List.set_cons_succ]
      refine wpAnyH_ready (rs := [4, 6]) (by kernel_rfl) (by simp) ?_
      refine AllReadyH.cons rfl (fun K hK => ?_) (AllReadyH.cons rfl (fun K hK => ?_) AllReadyH.nil)
      · go_simp
        refine hK.out _ _ (LK7.out.cells6) (fun hH1 => ?_)
        clear hK K hH0
        try simp only [Act.put, List.setIfInBounds_toArray, List.set_cons_zero, List.set_cons_succ]
        refine wpAnyH_ready (rs := [6]) (by kernel_rfl) (by simp) ?_
        refine AllReadyH.cons rfl (fun K hK => ?_) AllReadyH.nil
        go_simp
        refine hK.out _ _ (Lies.cells6 (LK7.out.alloc (.cells #[.int .u32 (O : Int), .int .i64 S, .bool un, .slice fA ld fd, .int .i64 1, .slice fB 1 fe] 34))) (fun hH2 => ?_)
        clear hK K hH1
        try simp only [Act.put, List.setIfInBounds_toArray, List.set_cons_zero, List.set_cons_succ]
        refine wpAnyH_ready (rs := [7]) (by kernel_rfl) (by simp) ?_
        refine AllReadyH.cons rfl (fun K hK => ?_) AllReadyH.nil
        refine stp_appendK (some 237) _ _ _ (.tmp 234) (.tmp 236) (gs + 1) (.slice Ta nt tc) nt U x7.heap.size ⟨⟨O, S, un, l, 1, [nt]⟩, .slice fA ld fd, .slice fB 1 fe⟩ rfl rfl (OwnK.drew (SM7.out.t.row.alloc (.cells #[.int .u32 (O : Int), .int .i64 S, .bool un, .slice fA ld fd, .int .i64 1, .slice fB 1 fe] 34))) (Lies.drew (Lies.made x7 34 #[.int .u32 (O : Int), .int .i64 S, .bool un, .slice fA ld fd, .int .i64 1, .slice fB 1 fe])) ⟨rfl, rfl⟩ (by have := HNN.out.2.1; omega) HGL.out ?_
        intro gg cap w9 ho9 hg9 hb9
        have LK9 := Lib.hid (Lies.grown (Lies.drew (LK7.out.alloc (.cells #[.int .u32 (O : Int), .int .i64 S, .bool un, .slice fA ld fd, .int .i64 1, .slice fB 1 fe] 34))) hg9 (fun q => by have := HKt.out _ q.symm; omega))
        have LN9 := Lib.hid (Lies.grown (Lies.drew (LN7.out.alloc (.cells #[.int .u32 (O : Int), .int .i64 S, .bool un, .slice fA ld fd, .int .i64 1, .slice fB 1 fe] 34))) hg9 (SM7.out.t.row.ne LN7.out (by decide)))
        have SMn := Lib.hid (SM.told (y := ⟨⟨O, S, un, l, 1, [nt]⟩, .slice fA ld fd, .slice fB 1 fe⟩) (SM.drew (SM7.out.alloc (.cells #[.int .u32 (O : Int), .int .i64 S, .bool un, .slice fA ld fd, .int .i64 1, .slice fB 1 fe] 34))) (Own.drew (OA8.out.alloc _)) (Own.drew (OB8.out.alloc _)) ⟨HON.out, H64.out, (show in64 1 by unfold in64; decide)⟩ ho9 hg9 hb9)
        have LS9 := Lib.hid (Lies.grown (Lies.drew (LSx.out.alloc (.cells #[.int .u32 (O : Int), .int .i64 S, .bool un, .slice fA ld fd, .int .i64 1, .slice fB 1 fe] 34))) hg9 (fun q => by have := (SM7.out.t.row).block _ q.symm; omega))
        clear ho9 hg9 hb9
        obtain ⟨t0, t1, t2, t3, t4, t5⟩ := LS9.out.cells6
        obtain ⟨r0, r1, r2, r3, r4, r5⟩ := LS9.out.free6
        refine hK.out _ _ (LK9.out.cells6) (fun hH3 => ?_)
        clear hK K hH2
        try simp only [Act.put, List.setIfInBounds_toArray, List.set_cons_zero, List.set_cons_succ]
        refine any_take 8 238 ?vc5x8 rfl rfl (by kernel_rfl) (by kernel_rfl) (by kernel_rfl) (fun _ _ _ h => h) (by rfl) ?hyc5x8 hH3 ?restc5x8
        case hyc5x8 => ((intro W hSw); obtain ⟨s0, s1, s2, s3, s4, s5⟩ := hSw; go_simp; (try with_reducible rfl))
        try simp only [Act.put, List.setIfInBounds_toArray, List.set_cons_zero, List.set_cons_succ]
        refine any_take 9 239 ?vc5x9 rfl rfl (by kernel_rfl) (by kernel_rfl) (by kernel_rfl) (fun _ _ _ h => h) (by rfl) ?hyc5x9 hH3 ?restc5x9
        case hyc5x9 => ((intro W hSw); obtain ⟨s0, s1, s2, s3, s4, s5⟩ := hSw; go_simp; (try with_reducible rfl))
        try simp only [Act.put, List.setIfInBounds_toArray, List.set_cons_zero, List.set_cons_succ]
        refine wpAnyH_ready (rs := [10]) (by kernel_rfl) (by simp) ?_
        refine AllReadyH.cons rfl (fun K hK => ?_) AllReadyH.nil
        go_simp
        have LKn := Lib.hid (LK9.out.other (a := ⟨gs, 3, none⟩) (show gF ≠ gs by have := HKg.out; omega) (.slice (some ⟨gg, 0, none⟩) (nt + 1) cap))
        have LNn := Lib.hid (LN9.out.other (a := ⟨gs, 3, none⟩) (show gC + 1 ≠ gs by have := HGN.out; omega) (.slice (some ⟨gg, 0, none⟩) (nt + 1) cap))
        refine hK.out _ _ (LKn.out.cells6) (fun hH4 => ?_)
        clear hK K hH3 hH4
        try simp only [Act.put, List.setIfInBounds_toArray, List.set_cons_zero, List.set_cons_succ]
        refine wpAnyH_done (by kernel_rfl) ?_ _
        refine NoPanic.normal ?_
        clear t0 t1 t2 t3 t4 t5 r0 r1 r2 r3 r4 r5 gl0 gl1 gl2 gl3 gl4 gl5 gf0 gf1 gf2 gf3 gf4 gf5 GA LS9
        go_wp2_with fail
        go_meet
        exact ⟨rfl, gg, cap, SMn.out, LNn.out, LKn.out⟩
      · go_simp
        refine hK.out _ _ (Lies.cells6 (LK7.out.alloc (.cells #[.int .u32 (O : Int), .int .i64 S, .bool un, .slice fA ld fd, .int .i64 1, .slice fB 1 fe] 34))) (fun hH1 => ?_)
        clear hK K hH0
        try simp only [Act.put, List.setIfInBounds_toArray, List.set_cons_zero, List.set_cons_succ]
        have e5 := GA.out
        refine wpAnyH_ready (rs := [4]) (by kernel_rfl) (by simp) ?_
        refine AllReadyH.cons rfl (fun K hK => ?_) AllReadyH.nil
        go_simp
        refine hK.out _ _ (Lies.cells6 (LK7.out.alloc (.cells #[.int .u32 (O : Int), .int .i64 S, .bool un, .slice fA ld fd, .int .i64 1, .slice fB 1 fe] 34))) (fun hH2 => ?_)
        clear hK K hH1
        try simp only [Act.put, List.setIfInBounds_toArray, List.set_cons_zero, List.set_cons_succ]
        clear e5
        refine wpAnyH_ready (rs := [7]) (by kernel_rfl) (by simp) ?_
        refine AllReadyH.cons rfl (fun K hK => ?_) AllReadyH.nil
        refine stp_appendK (some 237) _ _ _ (.tmp 234) (.tmp 236) (gs + 1) (.slice Ta nt tc) nt U x7.heap.size ⟨⟨O, S, un, l, 1, [nt]⟩, .slice fA ld fd, .slice fB 1 fe⟩ rfl rfl (OwnK.drew (SM7.out.t.row.alloc (.cells #[.int .u32 (O : Int), .int .i64 S, .bool un, .slice fA ld fd, .int .i64 1, .slice fB 1 fe] 34))) (Lies.drew (Lies.made x7 34 #[.int .u32 (O : Int), .int .i64 S, .bool un, .slice fA ld fd, .int .i64 1, .slice fB 1 fe])) ⟨rfl, rfl⟩ (by have := HNN.out.2.1; omega) HGL.out ?_
        intro gg cap w9 ho9 hg9 hb9
        have LK9 := Lib.hid (Lies.grown (Lies.drew (LK7.out.alloc (.cells #[.int .u32 (O : Int), .int .i64 S, .bool un, .slice fA ld fd, .int .i64 1, .slice fB 1 fe] 34))) hg9 (fun q => by have := HKt.out _ q.symm; omega))
        have LN9 := Lib.hid (Lies.grown (Lies.drew (LN7.out.alloc (.cells #[.int .u32 (O : Int), .int .i64 S, .bool un, .slice fA ld fd, .int .i64 1, .slice fB 1 fe] 34))) hg9 (SM7.out.t.row.ne LN7.out (by decide)))
        have SMn := Lib.hid (SM.told (y := ⟨⟨O, S, un, l, 1, [nt]⟩, .slice fA ld fd, .slice fB 1 fe⟩) (SM.drew (SM7.out.alloc (.cells #[.int .u32 (O : Int), .int .i64 S, .bool un, .slice fA ld fd, .int .i64 1, .slice fB 1 fe] 34))) (Own.drew (OA8.out.alloc _)) (Own.drew (OB8.out.alloc _)) ⟨HON.out, H64.out, (show in64 1 by unfold in64; decide)⟩ ho9 hg9 hb9)
        have LS9 := Lib.hid (Lies.grown (Lies.drew (LSx.out.alloc (.cells #[.int .u32 (O : Int), .int .i64 S, .bool un, .slice fA ld fd, .int .i64 1, .slice fB 1 fe] 34))) hg9 (fun q => by have := (SM7.out.t.row).block _ q.symm; omega))
        clear ho9 hg9 hb9
        obtain ⟨t0, t1, t2, t3, t4, t5⟩ := LS9.out.cells6
        obtain ⟨r0, r1, r2, r3, r4, r5⟩ := LS9.out.free6
        refine hK.out _ _ (LK9.out.cells6) (fun hH3 => ?_)
        clear hK K hH2
        try simp only [Act.put, List.setIfInBounds_toArray, List.set_cons_zero, List.set_cons_succ]
        refine any_take 8 238 ?vc6x8 rfl rfl (by kernel_rfl) (by kernel_rfl) (by kernel_rfl) (fun _ _ _ h => h) (by rfl) ?hyc6x8 hH3 ?restc6x8
        case hyc6x8 => ((intro W hSw); obtain ⟨s0, s1, s2, s3, s4, s5⟩ := hSw; go_simp; (try with_reducible rfl))
        try simp only [Act.put, List.setIfInBounds_toArray, List.set_cons_zero, List.set_cons_succ]
        refine any_take 9 239 ?vc6x9 rfl rfl (by kernel_rfl) (by kernel_rfl) (by kernel_rfl) (fun _ _ _ h => h) (by rfl) ?hyc6x9 hH3 ?restc6x9
        case hyc6x9 => ((intro W hSw); obtain ⟨s0, s1, s2, s3, s4, s5⟩ := hSw; go_simp; (try with_reducible rfl))
        try simp only [Act.put, List.setIfInBounds_toArray, List.set_cons_zero, List.set_cons_succ]
        refine wpAnyH_ready (rs := [10]) (by kernel_rfl) (by simp) ?_
        refine AllReadyH.cons rfl (fun K hK => ?_) AllReadyH.nil
        go_simp
        have LKn := Lib.hid (LK9.out.other (a := ⟨gs, 3, none⟩) (show gF ≠ gs by have := HKg.out; omega) (.slice (some ⟨gg, 0, none⟩) (nt + 1) cap))
        have LNn := Lib.hid (LN9.out.other (a := ⟨gs, 3, none⟩) (show gC + 1 ≠ gs by have := HGN.out; omega) (.slice (some ⟨gg, 0, none⟩) (nt + 1) cap))
        refine hK.out _ _ (LKn.out.cells6) (fun hH4 => ?_)
        clear hK K hH3 hH4
        try simp only [Act.put, List.setIfInBounds_toArray, List.set_cons_zero, List.set_cons_succ]
        refine wpAnyH_done (by kernel_rfl) ?_ _
        refine NoPanic.normal ?_
        clear t0 t1 t2 t3 t4 t5 r0 r1 r2 r3 r4 r5 gl0 gl1 gl2 gl3 gl4 gl5 gf0 gf1 gf2 gf3 gf4 gf5 GA LS9
        go_wp2_with fail
        go_meet
        exact ⟨rfl, gg, cap, SMn.out, LNn.out, LKn.out⟩
    case rest =>
      obtain ⟨rfl, g8, cap8, hs8, hl8, hk8⟩ := hcut
      generalize wc = x8 at *
      have SM8 := Lib.hid hs8
      have LN8 := Lib.hid hl8
      have LK8 := Lib.hid hk8
      have OA9 : Hid (Own x8 (gs + 1) (.slice fA ld fd) l) := Lib.hid (by have h := hs8.t.a nt (Nat.lt_succ_self nt); dsimp only at h; rw [snoc_at] at h; exact h)
      have OB9 : Hid (Own x8 (gs + 1) (.slice fB 1 fe) [nt]) := Lib.hid (by have h := hs8.t.r nt (Nat.lt_succ_self nt); dsimp only at h; rw [snoc_at] at h; exact h)
      clear hs8 hl8 hk8 SM7 LN7 LK7 OA7 OB7 OA8 OB8
      obtain ⟨-, -, -, -, -, -, -, v7, -, -, -⟩ := LN8.out.cells11
      cases un
      · go_wp2
        go_end0
        exact ⟨rfl, _, SM8.out, HIK.out.congr (fun i hi => (HY5.out i hi).symm) (fun i hi => rfl) (fun i hi => (snoc_congr (m := nt) (X := U) (x := ⟨⟨O, S, false, l, 1, [nt]⟩, .slice fA ld fd, .slice fB 1 fe⟩)).symm) (fun i hi => rfl), by have := HS0.out; dsimp only; omega, by have := HS0.out; dsimp only; omega, by have := HS0.out; dsimp only; omega, by have := HS0.out; dsimp only; omega⟩
      · have OAt : Hid (Own x8 (gs + 1) (.slice fA ld fd) (⟨O, S, true, l, 1, [nt]⟩ : Kp).a) := OA9
        have OBt : Hid (Own x8 (gs + 1) (.slice fB 1 fe) (⟨O, S, true, l, 1, [nt]⟩ : Kp).r) := OB9
        go_wp2_with fail
        clear v7
        have LSx : Hid (Lies x8 gs 62 #[.int .u32 (E : Int), .slice A6 (n + 1) c6, .slice Da nd dc, .slice (some ⟨g8, 0, none⟩) (nt + 1) cap8, .slice Oa no oc, .bool false]) := Lib.hid SM8.out.box
        obtain ⟨gl0, gl1, gl2, gl3, gl4, gl5⟩ := LSx.out.cells6
        obtain ⟨gf0, gf1, gf2, gf3, gf4, gf5⟩ := LSx.out.free6
        obtain ⟨-, -, ga2, ga3, ga4, -⟩ := Lies.cells6 (LSx.out.alloc (.cells #[.int .u32 (O : Int), .int .i64 S, .bool true, .slice fA ld fd, .int .i64 1, .slice fB 1 fe] 34))
        have GA := Lib.hid ga4
        clear ga2 ga3 ga4
        have HGL := Lib.hid (show gs + 1 ≤ (x8.alloc (.cells #[.int .u32 (O : Int), .int .i64 S, .bool true, .slice fA ld fd, .int .i64 1, .slice fB 1 fe] 34)).heap.size from Nat.le_trans LSx.out.lt (by simp))
        refine wp_region_noPanic ?_
        refine wp_region_held_drew (S := fun W => W.cell? ⟨gF, 0, none⟩ = some (.int .u32 (O : Int)) ∧ W.cell? ⟨gF, 1, none⟩ = some (.int .i64 S) ∧ W.cell? ⟨gF, 2, none⟩ = some (.bool true) ∧ W.cell? ⟨gF, 3, none⟩ = some (.slice fA ld fd) ∧ W.cell? ⟨gF, 4, none⟩ = some (.int .i64 1) ∧ W.cell? ⟨gF, 5, none⟩ = some (.slice fB 1 fe)) (by kernel_rfl) (LK8.out.cells6) (fun hH0 => ?_)
        refine any_take 0 242 ?vc7x0 rfl rfl (by kernel_rfl) (by kernel_rfl) (by kernel_rfl) (fun _ _ _ h => h) (by rfl) ?hyc7x0 hH0 ?restc7x0
        case hyc7x0 => ((intro W hSw); obtain ⟨s0, s1, s2, s3, s4, s5⟩ := hSw; go_simp; (try with_reducible rfl))
        try simp only [Act.put, List.setIfInBounds_toArray, List.set_cons_zero, List.set_cons_succ]
        refine any_take 1 243 ?vc7x1 rfl rfl (by kernel_rfl) (by kernel_rfl) (by kernel_rfl) (fun _ _ _ h => h) (by rfl) ?hyc7x1 hH0 ?restc7x1
        case hyc7x1 => ((intro W hSw); obtain ⟨s0, s1, s2, s3, s4, s5⟩ := hSw; go_simp; (try with_reducible rfl))
        try simp only [Act.put, List.setIfInBounds_toArray, List.set_cons_zero, List.set_cons_succ]
        refine any_take 2 244 ?vc7x2 rfl rfl (by kernel_rfl) (by kernel_rfl) (by kernel_rfl) (fun _ _ _ h => h) (by rfl) ?hyc7x2 hH0 ?restc7x2
        case hyc7x2 => ((intro W hSw); obtain ⟨s0, s1, s2, s3, s4, s5⟩ := hSw; go_simp; (try with_reducible rfl))
        try simp only [Act.put, List.setIfInBounds_toArray, List.set_cons_zero, List.set_cons_succ]
        refine any_take 3 245 ?vc7x3 rfl rfl (by kernel_rfl) (by kernel_rfl) (by kernel_rfl) (fun _ _ _ h => h) (by rfl) ?hyc7x3 hH0 ?restc7x3
        case hyc7x3 => ((intro W hSw); obtain ⟨s0, s1, s2, s3, s4, s5⟩ := hSw; go_simp; (try with_reducible rfl))
        try simp only [Act.put, List.setIfInBounds_toArray, List.set_cons_zero, List.set_cons_succ]
        refine any_take 5 247 ?vc7x5 rfl rfl (by kernel_rfl) (by kernel_rfl) (by kernel_rfl) (fun _ _ _ h => h) (by rfl) ?hyc7x5 hH0 ?restc7x5
        case hyc7x5 => ((intro W hSw); obtain ⟨s0, s1, s2, s3, s4, s5⟩ := hSw; go_simp; (try with_reducible rfl))
        try simp only [Act.put, List.setIfInBounds_toArray, List.set_cons_zero, List.set_cons_succ]
        refine wpAnyH_ready (rs := [4, 6]) (by kernel_rfl) (by simp) ?_
        refine AllReadyH.cons rfl (fun K hK => ?_) (AllReadyH.cons rfl (fun K hK => ?_) AllReadyH.nil)
        · go_simp
          refine hK.out _ _ (LK8.out.cells6) (fun hH1 => ?_)
          clear hK K hH0
          try simp only [Act.put, List.setIfInBounds_toArray, List.set_cons_zero, List.set_cons_succ]
          refine wpAnyH_ready (rs := [6]) (by kernel_rfl) (by simp) ?_
          refine AllReadyH.cons rfl (fun K hK => ?_) AllReadyH.nil
          go_simp
          refine hK.out _ _ (Lies.cells6 (LK8.out.alloc (.cells #[.int .u32 (O : Int), .int .i64 S, .bool true, .slice fA ld fd, .int .i64 1, .slice fB 1 fe] 34))) (fun hH2 => ?_)
          clear hK K hH1
          try simp only [Act.put, List.setIfInBounds_toArray, List.set_cons_zero, List.set_cons_succ]
          refine wpAnyH_ready (rs := [7]) (by kernel_rfl) (by simp) ?_
          refine AllReadyH.cons rfl (fun K hK => ?_) AllReadyH.nil
          refine stp_appendK (some 249) _ _ _ (.tmp 246) (.tmp 248) (gs + 1) (.slice Oa no oc) no Ov x8.heap.size ⟨⟨O, S, true, l, 1, [nt]⟩, .slice fA ld fd, .slice fB 1 fe⟩ rfl rfl (OwnK.drew (SM8.out.o.row.alloc (.cells #[.int .u32 (O : Int), .int .i64 S, .bool true, .slice fA ld fd, .int .i64 1, .slice fB 1 fe] 34))) (Lies.drew (Lies.made x8 34 #[.int .u32 (O : Int), .int .i64 S, .bool true, .slice fA ld fd, .int .i64 1, .slice fB 1 fe])) ⟨rfl, rfl⟩ (by have := HNN.out.2.2.2; omega) HGL.out ?_
          intro gg cap w9 ho9 hg9 hb9
          have LK9 := Lib.hid (Lies.grown (Lies.drew (LK8.out.alloc (.cells #[.int .u32 (O : Int), .int .i64 S, .bool true, .slice fA ld fd, .int .i64 1, .slice fB 1 fe] 34))) hg9 (fun q => by have := HKo.out _ q.symm; omega))
          have LN9 := Lib.hid (Lies.grown (Lies.drew (LN8.out.alloc (.cells #[.int .u32 (O : Int), .int .i64 S, .bool true, .slice fA ld fd, .int .i64 1, .slice fB 1 fe] 34))) hg9 (SM8.out.o.row.ne LN8.out (by decide)))
          have SMn := Lib.hid (SM.over (y := ⟨⟨O, S, true, l, 1, [nt]⟩, .slice fA ld fd, .slice fB 1 fe⟩) (SM.drew (SM8.out.alloc (.cells #[.int .u32 (O : Int), .int .i64 S, .bool true, .slice fA ld fd, .int .i64 1, .slice fB 1 fe] 34))) (Own.drew (OAt.out.alloc _)) (Own.drew (OBt.out.alloc _)) ⟨HON.out, H64.out, (show in64 1 by unfold in64; decide)⟩ ho9 hg9 hb9)
          have LS9 := Lib.hid (Lies.grown (Lies.drew (LSx.out.alloc (.cells #[.int .u32 (O : Int), .int .i64 S, .bool true, .slice fA ld fd, .int .i64 1, .slice fB 1 fe] 34))) hg9 (fun q => by have := (SM8.out.o.row).block _ q.symm; omega))
          clear ho9 hg9 hb9
          obtain ⟨t0, t1, t2, t3, t4, t5⟩ := LS9.out.cells6
          obtain ⟨r0, r1, r2, r3, r4, r5⟩ := LS9.out.free6
          refine hK.out _ _ (LK9.out.cells6) (fun hH3 => ?_)
          clear hK K hH2
          try simp only [Act.put, List.setIfInBounds_toArray, List.set_cons_zero, List.set_cons_succ]
          refine any_take 8 250 ?vc8x8 rfl rfl (by kernel_rfl) (by kernel_rfl) (by kernel_rfl) (fun _ _ _ h => h) (by rfl) ?hyc8x8 hH3 ?restc8x8
          case hyc8x8 => ((intro W hSw); obtain ⟨s0, s1, s2, s3, s4, s5⟩ := hSw; go_simp; (try with_reducible rfl))
          try simp only [Act.put, List.setIfInBounds_toArray, List.set_cons_zero, List.set_cons_succ]
          refine any_take 9 251 ?vc8x9 rfl rfl (by kernel_rfl) (by kernel_rfl) (by kernel_rfl) (fun _ _ _ h => h) (by rfl) ?hyc8x9 hH3 ?restc8x9
          case hyc8x9 => ((intro W hSw); obtain ⟨s0, s1, s2, s3, s4, s5⟩ := hSw; go_simp; (try with_reducible rfl))
          try simp only [Act.put, List.setIfInBounds_toArray, List.set_cons_zero, List.set_cons_succ]
          refine wpAnyH_ready (rs := [10]) (by kernel_rfl) (by simp) ?_
          refine AllReadyH.cons rfl (fun K hK => ?_) AllReadyH.nil
          go_simp
          have LKn := Lib.hid (LK9.out.other (a := ⟨gs, 4, none⟩) (show gF ≠ gs by have := HKg.out; omega) (.slice (some ⟨gg, 0, none⟩) (no + 1) cap))
          have LNn := Lib.hid (LN9.out.other (a := ⟨gs, 4, none⟩) (show gC + 1 ≠ gs by have := HGN.out; omega) (.slice (some ⟨gg, 0, none⟩) (no + 1) cap))
          refine hK.out _ _ (LKn.out.cells6) (fun hH4 => ?_)
          clear hK K hH3 hH4
          try simp only [Act.put, List.setIfInBounds_toArray, List.set_cons_zero, List.set_cons_succ]
          refine wpAnyH_done (by kernel_rfl) ?_ _
          refine NoPanic.normal ?_
          clear t0 t1 t2 t3 t4 t5 r0 r1 r2 r3 r4 r5 gl0 gl1 gl2 gl3 gl4 gl5 gf0 gf1 gf2 gf3 gf4 gf5 GA LS9
          go_wp2
          go_end0
          exact ⟨rfl, _, SMn.out, HIK.out.congr (fun i hi => (HY5.out i hi).symm) (fun i hi => rfl) (fun i hi => (snoc_congr (m := nt) (X := U) (x := ⟨⟨O, S, true, l, 1, [nt]⟩, .slice fA ld fd, .slice fB 1 fe⟩)).symm) (fun i hi => (snoc_congr (m := no) (X := Ov) (x := ⟨⟨O, S, true, l, 1, [nt]⟩, .slice fA ld fd, .slice fB 1 fe⟩)).symm), by have := HS0.out; dsimp only; omega, by have := HS0.out; dsimp only; omega, by have := HS0.out; dsimp only; omega, by have := HS0.out; dsimp only; omega⟩
        · go_simp
          refine hK.out _ _ (Lies.cells6 (LK8.out.alloc (.cells #[.int .u32 (O : Int), .int .i64 S, .bool true, .slice fA ld fd, .int .i64 1, .slice fB 1 fe] 34))) (fun hH1 => ?_)
          clear hK K hH0
          try simp only [Act.put, List.setIfInBounds_toArray, List.set_cons_zero, List.set_cons_succ]
          have e5 := GA.out
          refine wpAnyH_ready (rs := [4]) (by kernel_rfl) (by simp) ?_
          refine AllReadyH.cons rfl (fun K hK => ?_) AllReadyH.nil
          go_simp
          refine hK.out _ _ (Lies.cells6 (LK8.out.alloc (.cells #[.int .u32 (O : Int), .int .i64 S, .bool true, .slice fA ld fd, .int .i64 1, .slice fB 1 fe] 34))) (fun hH2 => ?_)
          clear hK K hH1
          try simp only [Act.put, List.setIfInBounds_toArray, List.set_cons_zero, List.set_cons_succ]
          clear e5
          refine wpAnyH_ready (rs := [7]) (by kernel_rfl) (by simp) ?_
          refine AllReadyH.cons rfl (fun K hK => ?_) AllReadyH.nil
          refine stp_appendK (some 249) _ _ _ (.tmp 246) (.tmp 248) (gs + 1) (.slice Oa no oc) no Ov x8.heap.size ⟨⟨O, S, true, l, 1, [nt]⟩, .slice fA ld fd, .slice fB 1 fe⟩ rfl rfl (OwnK.drew (SM8.out.o.row.alloc (.cells #[.int .u32 (O : Int), .int .i64 S, .bool true, .slice fA ld fd, .int .i64 1, .slice fB 1 fe] 34))) (Lies.drew (Lies.made x8 34 #[.int .u32 (O : Int), .int .i64 S, .bool true, .slice fA ld fd, .int .i64 1, .slice fB 1 fe])) ⟨rfl, rfl⟩ (by have := HNN.out.2.2.2; omega) HGL.out ?_
          intro gg cap w9 ho9 hg9 hb9
          have LK9 := Lib.hid (Lies.grown (Lies.drew (LK8.out.alloc (.cells #[.int .u32 (O : Int), .int .i64 S, .bool true, .slice fA ld fd, .int .i64 1, .slice fB 1 fe] 34))) hg9 (fun q => by have := HKo.out _ q.symm; omega))
          have LN9 := Lib.hid (Lies.grown (Lies.drew (LN8.out.alloc (.cells #[.int .u32 (O : Int), .int .i64 S, .bool true, .slice fA ld fd, .int .i64 1, .slice fB 1 fe] 34))) hg9 (SM8.out.o.row.ne LN8.out (by decide)))
          have SMn := Lib.hid (SM.over (y := ⟨⟨O, S, true, l, 1, [nt]⟩, .slice fA ld fd, .slice fB 1 fe⟩) (SM.drew (SM8.out.alloc (.cells #[.int .u32 (O : Int), .int .i64 S, .bool true, .slice fA ld fd, .int .i64 1, .slice fB 1 fe] 34))) (Own.drew (OAt.out.alloc _)) (Own.drew (OBt.out.alloc _)) ⟨HON.out, H64.out, (show in64 1 by unfold in64; decide)⟩ ho9 hg9 hb9)
          have LS9 := Lib.hid (Lies.grown (Lies.drew (LSx.out.alloc (.cells #[.int .u32 (O : Int), .int .i64 S, .bool true, .slice fA ld fd, .int .i64 1, .slice fB 1 fe] 34))) hg9 (fun q => by have := (SM8.out.o.row).block _ q.symm; omega))
          clear ho9 hg9 hb9
          obtain ⟨t0, t1, t2, t3, t4, t5⟩ := LS9.out.cells6
          obtain ⟨r0, r1, r2, r3, r4, r5⟩ := LS9.out.free6
          refine hK.out _ _ (LK9.out.cells6) (fun hH3 => ?_)
          clear hK K hH2
          try simp only [Act.put, List.setIfInBounds_toArray, List.set_cons_zero, List.set_cons_succ]
          refine any_take 8 250 ?vc9x8 rfl rfl (by kernel_rfl) (by kernel_rfl) (by kernel_rfl) (fun _ _ _ h => h) (by rfl) ?hyc9x8 hH3 ?restc9x8
          case hyc9x8 => ((intro W hSw); obtain ⟨s0, s1, s2, s3, s4, s5⟩ := hSw; go_simp; (try with_reducible rfl))
          try simp only [Act.put, List.setIfInBounds_toArray, List.set_cons_zero, List.set_cons_succ]
          refine any_take 9 251 ?vc9x9 rfl rfl (by kernel_rfl) (by kernel_rfl) (by kernel_rfl) (fun _ _ _ h => h) (by rfl) ?hyc9x9 hH3 ?restc9x9
          case hyc9x9 => ((intro W hSw); obtain ⟨s0, s1, s2, s3, s4, s5⟩ := hSw; go_simp; (try with_reducible rfl))
          try simp only [Act.put, List.setIfInBounds_toArray, List.set_cons_zero, List.set_cons_succ]
          refine wpAnyH_ready (rs := [10]) (by kernel_rfl) (by simp) ?_
          refine AllReadyH.cons rfl (fun K hK => ?_) AllReadyH.nil
          go_simp
          have LKn := Lib.hid (LK9.out.other (a := ⟨gs, 4, none⟩) (show gF ≠ gs by have := HKg.out; omega) (.slice (some ⟨gg, 0, none⟩) (no + 1) cap))
          have LNn := Lib.hid (LN9.out.other (a := ⟨gs, 4, none⟩) (show gC + 1 ≠ gs by have := HGN.out; omega) (.slice (some ⟨gg, 0, none⟩) (no + 1) cap))
          refine hK.out _ _ (LKn.out.cells6) (fun hH4 => ?_)
          clear hK K hH3 hH4
          try simp only [Act.put, List.setIfInBounds_toArray, List.set_cons_zero, List.set_cons_succ]
          refine wpAnyH_done (by kernel_rfl) ?_ _
          refine NoPanic.normal ?_
          clear t0 t1 t2 t3 t4 t5 r0 r1 r2 r3 r4 r5 gl0 gl1 gl2 gl3 gl4 gl5 gf0 gf1 gf2 gf3 gf4 gf5 GA LS9
          go_wp2
          go_end0
          exact ⟨rfl, _, SMn.out, HIK.out.congr (fun i hi => (HY5.out i hi).symm) (fun i hi => rfl) (fun i hi => (snoc_congr (m := nt) (X := U) (x := ⟨⟨O, S, true, l, 1, [nt]⟩, .slice fA ld fd, .slice fB 1 fe⟩)).symm) (fun i hi => (snoc_congr (m := no) (X := Ov) (x := ⟨⟨O, S, true, l, 1, [nt]⟩, .slice fA ld fd, .slice fB 1 fe⟩)).symm), by have := HS0.out; dsimp only; omega, by have := HS0.out; dsimp only; omega, by have := HS0.out; dsimp only; omega, by have := HS0.out; dsimp only; omega⟩

end Go.Proofs.Ytfcfejmammohpaa
