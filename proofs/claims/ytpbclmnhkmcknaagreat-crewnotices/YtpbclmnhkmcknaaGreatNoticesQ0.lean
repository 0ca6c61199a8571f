/-
  Texts of one proof, in their order: COnceM, CKp, CNoM, CNots, WcrewNotices.
-/
import Derived.Deep.CutRange
import Derived.Deep.CutBlock
import Derived.Deep.DeepCutAuto
import Derived.Test.YtpbclmnhkmcknaaGreatB22
namespace Go.Proofs.YtpbclmnhkmcknaaGreat
open Go.RowKit
open Fe (Lies Own Bys Reads NF Kx Kp Note)
set_option maxRecDepth 100000
set_option linter.unusedVariables false
set_option linter.unusedSimpArgs false

/-- The same key. -/
def SK (x : Kp) (e : Ef) : Prop := x.o = e.o ∧ x.s = e.s ∧ x.u = e.u
theorem SK.k {x : Kp} {e : Ef} (h : SK x e) : x.k = Fe.kn e.o e.s e.u := by show Fe.kn x.o x.s x.u = _; rw [h.1, h.2.1, h.2.2]
/-- What holds of the effects of a crew. -/
structure EInv (q : Cq) : Prop where
  a : ∀ i (hi : i < q.E.length), ∃ p, p < q.f.n ∧ SK (q.f.T p) q.E[i]
  b : ∀ k i (hk : k < i) (hi : i < q.E.length), q.E[k].o = q.E[i].o → q.E[k].s = q.E[i].s → q.E[k].u = false ∧ q.E[i].u = true
  c : ∀ i (hi : i < q.E.length), q.E[i].u = true → ∃ k, ∃ hk : k < i, q.E[k].o = q.E[i].o ∧ q.E[k].s = q.E[i].s
  d : ∀ p, p < q.f.n → (q.f.T p).u = false → (q.f.T p).c = 1 → ∃ i, ∃ hi : i < q.E.length, SK (q.f.T p) q.E[i]
theorem EInv.start {K : List St.Kd} {P : List Pu.Kd} {R : List Int} : EInv (newQ K P R) :=
  ⟨fun i hi => absurd hi (Nat.not_lt_zero i), fun k i _ hi => absurd hi (Nat.not_lt_zero i), fun i hi => absurd hi (Nat.not_lt_zero i), fun p hp => absurd hp (Nat.not_lt_zero p)⟩
theorem EInv.same {q q' : Cq} (h : EInv q) (hE : q'.E = q.E) (hn : q'.f.n = q.f.n) (hT : q'.f.T = q.f.T) : EInv q' := by
  obtain ⟨s, p, d, ⟨ep, n, T⟩, E, M⟩ := q
  obtain ⟨s', p', d', ⟨ep', n', T'⟩, E', M'⟩ := q'
  dsimp only at hE hn hT
  subst hE hn hT
  exact ⟨h.a, h.b, h.c, h.d⟩
theorem act_one {n : Nat} {T : Nat → Kp} (hk : Fe.okT n T) {N : Note} (h : Fe.actN n T N = 1) : (N.undo = false → Fe.has n T (Fe.nk' N) = false) ∧ (N.undo = true → Fe.has n T (Fe.nk' N) = true ∧ (T (Fe.pos T (Fe.nk' N) n)).c = 1) := by
  unfold Fe.actN at h
  split at h
  · cases h
  rename_i c1
  split at h
  · cases h
  rename_i c2
  refine ⟨fun hu => ?_, fun hu => ?_⟩
  · cases hq : Fe.has n T (Fe.nk' N)
    · rfl
    · exact absurd ⟨hu, hq⟩ c1
  · have h1 : Fe.has n T (Fe.nk' N) = true := by
      cases hq : Fe.has n T (Fe.nk' N)
      · exact absurd ⟨hu, .inl hq⟩ c2
      · rfl
    refine ⟨h1, ?_⟩
    have h2 := (Fe.has_at h1).1
    have h3 := ((Fe.vk_iff _).1 (hk.2 _ h2).1).2.2.2.2.2
    rcases h3 with h3 | h3
    · exact h3
    · exact absurd ⟨hu, .inr h3⟩ c2
theorem decide_four {R : List Int} {q : Cq} (h : CInv R q) {N : Note} (ho : N.order < 4294967296) {a : Nat} (ha : a = 1 ∨ a = 3 ∨ a = 4) :
    (a = 3 ∧ (decideS q a N).v = 2 ∧ (decideS q a N).q = q) ∨ (a = 4 ∧ (decideS q a N).q = q) ∨ (a = 1 ∧ (decideS q a N).v = 2 ∧ (decideS q a N).q = q) ∨
    (a = 1 ∧ (decideS q a N).v = 1 ∧ (decideS q a N).q.E = q.E ++ [⟨N.order, N.step, N.undo⟩]) := by
  rcases ha with rfl | rfl | rfl
  · right; right
    have h1 := (exec_ok h ho N.undo N.data).1
    have e : decideS q 1 N = effS (execS q N.order N.undo N.data) ⟨N.order, N.step, N.undo⟩ := rfl
    rw [e]
    unfold effS
    split
    · rename_i c
      right
      refine ⟨rfl, c, ?_⟩
      show (execS q N.order N.undo N.data).q.E ++ [_] = _
      rw [(exec_E q _ _ _).1]
    · rename_i c
      have c2 : (execS q N.order N.undo N.data).v = 2 := by omega
      exact .inl ⟨rfl, c2, exec_no c2⟩
  · exact .inl ⟨rfl, rfl, rfl⟩
  · exact .inr (.inl ⟨rfl, rfl⟩)
theorem act_four {n : Nat} {T : Nat → Kp} {N : Note} (h : Fe.actN n T N = 4) : N.undo = true := by
  unfold Fe.actN at h
  split at h
  · cases h
  split at h
  · rename_i c; exact c.1
  · cases h
theorem EInv.serve {R : List Int} {q : Cq} (h : EInv q) (hI : CInv R q) (N : Note) (ho : N.order < 4294967296) : EInv (serveS q N).q := by
  rcases serve_split hI N ho with ⟨c, -, e⟩ | ⟨-, e⟩ | ⟨k, -, -, -, -, -, e⟩ | ⟨a, ha, hr, h3, h4, h5, hn, e⟩
  · rw [e]; exact h
  · rw [e]; exact h
  · rw [e]; exact h.same rfl rfl rfl
  · rw [e]
    obtain ⟨r1, r2, r3, r4, r5, r6⟩ := req_ok hr
    have hpl := Fe.pos_le q.f.T (Fe.nk N) q.f.n
    obtain ⟨x, hx⟩ : ∃ x, x = Fe.newK N (decideS q a N).v (decideS q a N).r := ⟨_, rfl⟩
    obtain ⟨T', hT⟩ : ∃ T', T' = Fe.ins (Fe.pos q.f.T (Fe.nk N) q.f.n) x q.f.T := ⟨_, rfl⟩
    have hold : ∀ p, p < q.f.n → ∃ p', p' < q.f.n + 1 ∧ T' p' = q.f.T p := fun p hp => by rw [hT]; exact ins_old hpl hp
    have hcas : ∀ p, p < q.f.n + 1 → T' p = x ∨ ∃ p0, p0 < q.f.n ∧ T' p = q.f.T p0 := fun p hp => by rw [hT]; exact ins_cases hpl hp
    have hnew : ∃ p, p < q.f.n + 1 ∧ T' p = x := ⟨_, Nat.lt_succ_of_le hpl, by rw [hT]; exact ins_at⟩
    have hs64 : Fe.in64 N.step := by unfold Fe.in64; omega
    have hin : ∀ p, p < q.f.n → Fe.in64 (q.f.T p).s := fun p hp => by
      have hv := (Fe.vk_iff _).1 (hI.ok.2 p hp).1
      unfold Fe.in64; omega
    have ho' := h
    have hdec := decide_four hI ho (N := N) ha
    rw [← hx, ← hT]
    have hxu : x.u = N.undo := by rw [hx]
    have hxc : x.c = (decideS q a N).v := by rw [hx]
    have hxo : SK x ⟨N.order, N.step, N.undo⟩ := by rw [hx]; exact ⟨rfl, rfl, rfl⟩
    clear hx hT e
    obtain ⟨d, hd⟩ : ∃ d, decideS q a N = d := ⟨_, rfl⟩
    rw [hd] at hdec hxc ⊢
    clear hd
    by_cases hE : d.q.E = q.E
    · have hx1 : x.u = false → x.c = 1 → False := fun hu hc => by
        rcases hdec with ⟨-, h1, -⟩ | ⟨h1, -⟩ | ⟨-, h1, -⟩ | ⟨-, -, h1⟩
        · rw [hxc, h1] at hc; cases hc
        · rw [h1] at h5
          rw [hxu, act_four h5] at hu; cases hu
        · rw [hxc, h1] at hc; cases hc
        · rw [hE] at h1
          have := congrArg List.length h1
          simp at this
      have key : EInv { q with f := ⟨N.epoch, q.f.n + 1, T'⟩ } := by
        refine ⟨fun i hi => ?_, h.b, h.c, fun p hp hu hc => ?_⟩
        · obtain ⟨p, hp, hk⟩ := h.a i hi
          obtain ⟨p', hp', e⟩ := hold p hp
          exact ⟨p', hp', by show SK (T' p') _; rw [e]; exact hk⟩
        · rcases hcas p hp with e | ⟨p0, hp0, e⟩
          · change (T' p).u = false at hu
            change (T' p).c = 1 at hc
            rw [e] at hu hc
            exact (hx1 hu hc).elim
          · change (T' p).u = false at hu
            change (T' p).c = 1 at hc
            rw [e] at hu hc
            obtain ⟨i, hi, hk⟩ := h.d p0 hp0 hu hc
            exact ⟨i, hi, by show SK (T' p) _; rw [e]; exact hk⟩
      exact key.same hE rfl rfl
    · rcases hdec with ⟨-, -, h1⟩ | ⟨-, h1⟩ | ⟨-, -, h1⟩ | ⟨h1, h2, hE2⟩
      · exact absurd (by rw [h1]) hE
      · exact absurd (by rw [h1]) hE
      · exact absurd (by rw [h1]) hE
      · rw [h1] at h5
        obtain ⟨g1, g2⟩ := act_one hI.ok h5
        have hno := Fe.has_no hI.ok h4
        have key : EInv { q with E := q.E ++ [⟨N.order, N.step, N.undo⟩], f := ⟨N.epoch, q.f.n + 1, T'⟩ } := by
          have hL : (q.E ++ [(⟨N.order, N.step, N.undo⟩ : Ef)]).length = q.E.length + 1 := by simp
          have hlo : ∀ i (hi : i < q.E.length) (hi' : i < (q.E ++ [(⟨N.order, N.step, N.undo⟩ : Ef)]).length), (q.E ++ [(⟨N.order, N.step, N.undo⟩ : Ef)])[i] = q.E[i] := fun i hi hi' => List.getElem_append_left hi
          have hat : ∀ (hi' : q.E.length < (q.E ++ [(⟨N.order, N.step, N.undo⟩ : Ef)]).length), (q.E ++ [(⟨N.order, N.step, N.undo⟩ : Ef)])[q.E.length] = ⟨N.order, N.step, N.undo⟩ := fun hi' => by simp
          refine ⟨fun i hi => ?_, fun k i hk hi e1 e2 => ?_, fun i hi hu => ?_, fun p hp hu hc => ?_⟩
          · change i < (q.E ++ [_]).length at hi
            rcases (by omega : i < q.E.length ∨ i = q.E.length) with hi2 | rfl
            · obtain ⟨p, hp, hk⟩ := h.a i hi2
              obtain ⟨p', hp', e⟩ := hold p hp
              exact ⟨p', hp', by show SK (T' p') ((q.E ++ [_])[i]); rw [e, hlo i hi2 hi]; exact hk⟩
            · obtain ⟨p', hp', e⟩ := hnew
              exact ⟨p', hp', by show SK (T' p') ((q.E ++ [_])[q.E.length]); rw [e, hat hi]; exact hxo⟩
          · change i < (q.E ++ [_]).length at hi
            change (q.E ++ [_])[k].o = (q.E ++ [_])[i].o at e1
            change (q.E ++ [_])[k].s = (q.E ++ [_])[i].s at e2
            show (q.E ++ [_])[k].u = false ∧ (q.E ++ [_])[i].u = true
            rcases (by omega : i < q.E.length ∨ i = q.E.length) with hi2 | rfl
            · rw [hlo k (by omega) (by omega), hlo i hi2 hi] at e1 e2 ⊢
              exact h.b k i hk hi2 e1 e2
            · rw [hlo k hk (by omega), hat hi] at e1 e2 ⊢
              obtain ⟨p, hp, hkk⟩ := h.a k hk
              have e0 := hkk.k
              rw [e1, e2] at e0
              change (q.f.T p).k = Fe.kn N.order N.step _ at e0
              show q.E[k].u = false ∧ N.undo = true
              cases hu : N.undo
              · cases hv : q.E[k].u
                · rw [hv] at e0; exact absurd (by rw [e0]; show _ = Fe.kn N.order N.step N.undo; rw [hu]) (hno p hp)
                · rw [hv] at e0
                  have := (Fe.has_of hI.ok hp (q := Fe.nk' N) (by rw [e0]; show _ = Fe.kn N.order N.step (!N.undo); rw [hu]; rfl)).2
                  rw [g1 hu] at this; cases this
              · cases hv : q.E[k].u
                · exact ⟨rfl, rfl⟩
                · rw [hv] at e0; exact absurd (by rw [e0]; show _ = Fe.kn N.order N.step N.undo; rw [hu]) (hno p hp)
          · change i < (q.E ++ [_]).length at hi
            change (q.E ++ [_])[i].u = true at hu
            rcases (by omega : i < q.E.length ∨ i = q.E.length) with hi2 | rfl
            · rw [hlo i hi2 hi] at hu
              obtain ⟨k, hk, e1, e2⟩ := h.c i hi2 hu
              exact ⟨k, hk, by show (q.E ++ [_])[k].o = (q.E ++ [_])[i].o; rw [hlo k (by omega) (by omega), hlo i hi2 hi]; exact e1, by show (q.E ++ [_])[k].s = (q.E ++ [_])[i].s; rw [hlo k (by omega) (by omega), hlo i hi2 hi]; exact e2⟩
            · rw [hat hi] at hu
              obtain ⟨b1, b2⟩ := g2 hu
              obtain ⟨hp, hpk⟩ := Fe.has_at b1
              have hpk2 : Fe.kn (q.f.T (Fe.pos q.f.T (Fe.nk' N) q.f.n)).o (q.f.T (Fe.pos q.f.T (Fe.nk' N) q.f.n)).s (q.f.T (Fe.pos q.f.T (Fe.nk' N) q.f.n)).u = Fe.kn N.order N.step (!N.undo) := hpk
              obtain ⟨k1, k2, k3⟩ := Fe.kn_inj (hin _ hp) hs64 hpk2
              have hu' : N.undo = true := hu
              rw [hu'] at k3
              obtain ⟨i, hi2, hk⟩ := h.d _ hp k3 b2
              exact ⟨i, hi2, by show (q.E ++ [_])[i].o = (q.E ++ [_])[q.E.length].o; rw [hlo i hi2 (by omega), hat hi]; exact hk.1.symm.trans k1, by show (q.E ++ [_])[i].s = (q.E ++ [_])[q.E.length].s; rw [hlo i hi2 (by omega), hat hi]; exact hk.2.1.symm.trans k2⟩
          · change (T' p).u = false at hu
            change (T' p).c = 1 at hc
            rcases hcas p hp with e | ⟨p0, hp0, e⟩
            · exact ⟨q.E.length, by show _ < (q.E ++ [_]).length; omega, by show SK (T' p) ((q.E ++ [_])[q.E.length]); rw [e, hat (by omega)]; exact hxo⟩
            · rw [e] at hu hc
              obtain ⟨i, hi, hk⟩ := h.d p0 hp0 hu hc
              exact ⟨i, by show i < (q.E ++ [_]).length; omega, by show SK (T' p) ((q.E ++ [_])[i]); rw [e, hlo i hi (by omega)]; exact hk⟩
        exact key.same hE2 rfl rfl
theorem ask_again' {ep n : Nat} {T : Nat → Kp} {N : Note} (ho : Fe.okT n T) (hr : Fe.reqB N = true) (he : ¬ N.epoch < ep) (hh : Fe.has n T (Fe.nk N) = true) (ha : (T (Fe.pos T (Fe.nk N) n)).a = N.data) : Fe.askS ep n T N = ⟨2, T (Fe.pos T (Fe.nk N) n), 0⟩ := by
  unfold Fe.askS
  rw [if_pos ⟨(Fe.okB_iff _ _).2 ho, hr⟩, if_neg he, if_pos hh, if_pos ha]
/-- Served again, the answer is the same. -/
theorem serve_twice {R : List Int} {q : Cq} (hI : CInv R q) (N : Note) (ho : N.order < 4294967296) (he : N.epoch < 4294967296) (h8 : (serveS q N).a.kind = 8) : (serveS (serveS q N).q N).a = (serveS q N).a := by
  have hI2 := hI.serve N ho he
  rcases serve_split hI N ho with ⟨c, hc, e⟩ | ⟨h1, e⟩ | ⟨k, hr, h3, h4, hk, ha, e⟩ | ⟨a, hA, hr, h3, h4, h5, hn, e⟩
  · rw [e] at h8; have h : (6 : Int) = 8 := h8; exact absurd h (by decide)
  · rw [e] at h8; have h : (9 : Int) = 8 := h8; exact absurd h (by decide)
  · rw [e] at hI2 ⊢
    subst hk
    have h := ask_again' (ep := N.epoch) hI2.ok hr (Nat.lt_irrefl _) h4 ha
    rw [serve_again h]
  · rw [e] at hI2 ⊢
    have hpl := Fe.pos_le q.f.T (Fe.nk N) q.f.n
    obtain ⟨hp, hh⟩ := Fe.has_of hI2.ok (q := Fe.nk N) (i := Fe.pos q.f.T (Fe.nk N) q.f.n) (Nat.lt_succ_of_le hpl) (by show (Fe.ins _ _ _ _).k = _; rw [ins_at])
    have h := ask_again' (ep := N.epoch) hI2.ok hr (Nat.lt_irrefl _) hh (by rw [hp]; show (Fe.ins _ _ _ _).a = _; rw [ins_at])
    rw [serve_again h, hp]
    show doneN N (Fe.ins _ _ _ _).c (Fe.ins _ _ _ _).r = _
    rw [ins_at]

end Go.Proofs.YtpbclmnhkmcknaaGreat

namespace Go.Proofs.YtpbclmnhkmcknaaGreat
open Go.RowKit
open Fe (Lies Own Bys Reads NF Kx Kp Note)
set_option maxRecDepth 100000
set_option linter.unusedVariables false
set_option linter.unusedSimpArgs false

/-- A note's bytes, at hand, and no crew's. -/
structure Kn (w : World) (b : CB) (A : Option Addr) (c : Nat) (l : List Nat) : Prop where
  i : InBytes w A l.length c l
  lt : ∀ i, (Value.slice A l.length c).ownBlock = some i → i < w.heap.size
  far : ∀ i, (Value.slice A l.length c).ownBlock = some i → ¬ b.foot i
theorem Kn.below {w w' : World} {b : CB} {A : Option Addr} {c : Nat} {l : List Nat} (h : Kn w b A c l) (hb : Below w.heap.size w w') : Kn w' b A c l := ⟨h.i.below hb, fun i hi => Nat.lt_of_lt_of_le (h.lt i hi) hb.size, h.far⟩
theorem Kn.serve {w w' : World} {b b' : CB} {A : Option Addr} {c : Nat} {l : List Nat} (h : Kn w b A c l) (hg : Chg b.foot w w') (hf : ∀ i, b'.foot i → b.foot i ∨ w.heap.size ≤ i) : Kn w' b' A c l :=
  ⟨⟨Bys_chg h.i.1 hg (fun i hi e => h.far i e hi), h.i.2⟩, fun i hi => Nat.lt_of_lt_of_le (h.lt i hi) hg.size, fun i hi hn => by
    rcases hf i hn with h1 | h1
    · exact h.far i hi h1
    · have := h.lt i hi; omega⟩
theorem Kn.own {w : World} {B : Nat} {b : CB} {A : Option Addr} {c : Nat} {l : List Nat} (h : Own w B (.slice A l.length c) l) (hf : ∀ i, (Value.slice A l.length c).ownBlock = some i → ¬ b.foot i) : Kn w b A c l := ⟨Own.inb h, fun i hi => Fe.Own.lt h i hi, hf⟩
theorem Kn.ask {w wr W : World} {R : List Int} {cc : Nat} {b : CB} {q : Cq} {x : Ax} {A : Option Addr} {c : Nat} (hS : CW w wr R cc b q) (hx : AT w x) (hi : InBytes W A (askD x).length c (askD x))
    (ho : (A = x.B ∧ 0 < x.r.length) ∨ ∀ i, (Value.slice A (askD x).length c).ownBlock = some i → wr.heap.size ≤ i) (hl : ∀ i, (Value.slice A (askD x).length c).ownBlock = some i → i < W.heap.size) : Kn W b A c (askD x) :=
  ⟨hi, hl, fun i h1 h2 => by
    rcases ho with ⟨rfl, h0⟩ | ho
    · have a1 := hx.rr.lt h0 h1
      have a2 := hS.new i h2
      omega
    · have a1 := ho i h1
      have a2 := hS.at_.foot_lt h2
      omega⟩
/-- Serve, with such a note. -/
theorem kn_serve {w W : World} {R : List Int} {cc : Nat} {b : CB} {q : Cq} {A : Option Addr} {c : Nat} {l : List Nat} (hS : CW w W R cc b q) (hk : Kn W b A c l) {ep o : Nat} {s : Int} (u : Bool) (hep : ep < 4294967296) (ho : o < 4294967296) (hs : Fe.in64 s) (hl : l.length ≤ 200000) :
    Calls Tryz.prog 23 #[.pointer (some ⟨cc, 0, none⟩), .agg #[.int .i64 7, .int .u32 (ep : Int), .int .u32 0, .int .u64 0, .int .u64 0, .int .u32 (o : Int), .int .i64 s, .bool u, .int .i64 0, .slice none 0 0, .slice A l.length c]] W (CwServe w W R cc b (serveS q (stN ep o s u l))) :=
  cw_serve hS (stN ep o s u l) A c 0 (ent_st hk.i s u hep ho) hs hl (fun i h1 h2 => hk.far i h1 h2)
theorem askD_big {x : Ax} (h : x.k.x.length ≤ 500 ∧ x.r.length ≤ 500) : (askD x).length ≤ 200000 := Nat.le_trans (askD_len h) (by omega)

end Go.Proofs.YtpbclmnhkmcknaaGreat

namespace Go.Proofs.YtpbclmnhkmcknaaGreat
open Go.RowKit
open Fe (Lies Own Bys Reads NF Kx Kp Note)
set_option maxRecDepth 100000
set_option linter.unusedVariables false
set_option linter.unusedSimpArgs false

/-- What a step notes. -/
def noteM (u : Bool) (l : List Nat) : List (List Nat) := match decS l with | none => [] | some k => if k.t = 6 then [if u = true then 33 :: k.x else k.x] else []
theorem noteM_some {u : Bool} {l : List Nat} {k : Wk} (h : decS l = some k) : noteM u l = if k.t = 6 then [if u = true then 33 :: k.x else k.x] else [] := by unfold noteM; rw [h]
theorem fwd_M (q : Cq) (o : Nat) (k : Wk) : (fwdS q o k).q.M = q.M ++ (if k.t = 6 then [k.x] else []) := by
  unfold fwdS
  by_cases h6 : k.t = 6
  · rw [if_neg (by omega), if_neg (by omega), if_neg (by omega), if_neg (by omega), if_neg (by omega), if_pos h6, if_pos h6]
  · rw [if_neg (c := k.t = 6) h6, if_neg (c := k.t = 6) h6, List.append_nil]
    repeat' split
    all_goals rfl
theorem bwd_M (q : Cq) (o : Nat) (k : Wk) : (bwdS q o k).q.M = q.M ++ (if k.t = 6 then [33 :: k.x] else []) := by
  unfold bwdS
  by_cases h6 : k.t = 6
  · rw [if_neg (by omega), if_neg (by omega), if_neg (by omega), if_neg (by omega), if_pos h6, if_pos h6]
  · rw [if_neg (c := k.t = 6) h6, if_neg (c := k.t = 6) h6, List.append_nil]
    repeat' split
    all_goals rfl
theorem exec_M {q : Cq} {o : Nat} {u : Bool} {l : List Nat} : (execS q o u l).q.M = q.M ++ noteM u l := by
  unfold execS noteM
  cases hd : decS l with
  | none => simp
  | some k =>
    cases u
    · exact fwd_M q o k
    · exact bwd_M q o k
/-- What a served step notes: where one took effect more. -/
theorem serve_M {R : List Int} {q : Cq} (hI : CInv R q) (N : Note) (ho : N.order < 4294967296) :
    ((serveS q N).q.E.length = q.E.length ∧ (serveS q N).q.M = q.M) ∨ ((serveS q N).q.E.length = q.E.length + 1 ∧ (serveS q N).q.M = q.M ++ noteM N.undo N.data) := by
  rcases serve_split hI N ho with ⟨c, -, e⟩ | ⟨-, e⟩ | ⟨k, -, -, -, -, -, e⟩ | ⟨a, -, -, -, -, -, -, e⟩
  · rw [e]; exact .inl ⟨rfl, rfl⟩
  · rw [e]; exact .inl ⟨rfl, rfl⟩
  · rw [e]; exact .inl ⟨rfl, rfl⟩
  · rw [e]
    rcases decide_one hI ho a with hq | ⟨-, -, -, hq⟩
    · left
      show (decideS q a N).q.E.length = q.E.length ∧ (decideS q a N).q.M = q.M
      rw [hq]; exact ⟨rfl, rfl⟩
    · right
      show (decideS q a N).q.E.length = q.E.length + 1 ∧ (decideS q a N).q.M = _
      rw [hq]
      refine ⟨?_, exec_M⟩
      show ((execS q N.order N.undo N.data).q.E ++ [_]).length = _
      rw [(exec_E q _ _ _).1]; simp

end Go.Proofs.YtpbclmnhkmcknaaGreat

namespace Go.Proofs.YtpbclmnhkmcknaaGreat
open Go.RowKit
open Fe (Lies Own Bys Reads NF Kx Kp Note)
set_option maxRecDepth 100000
set_option linter.unusedVariables false
set_option linter.unusedSimpArgs false

theorem flatV (l : List Sl) : St.flat encV l = l.map Sl.v := by
  unfold St.flat
  induction l with
  | nil => rfl
  | cons x r ih => rw [List.flatMap_cons, ih]; rfl
theorem V_row {w : World} {B : Nat} {v : Value} {l : List Sl} (h : OwnV w B v l) : ∃ A c, v = .slice A l.length c ∧ (l.length : Int) ≤ 9223372036854775807 ∧ ∀ (i : Nat) (hi : i < l.length), ∃ g, A = some ⟨g, 0, none⟩ ∧ B ≤ g ∧ g < w.heap.size ∧ w.cell? ⟨g, i, none⟩ = some l[i].v ∧ w.frozen? ⟨g, i, none⟩ = false := by
  have hm : ∀ n c : Nat, n ≤ c → c ≤ maxLen → (n : Int) ≤ 9223372036854775807 := fun n c h1 h2 => by unfold maxLen at h2; omega
  rcases h.form with ⟨rfl, rfl⟩ | ⟨g, cap, cur, rfl, -⟩
  · exact ⟨none, 0, rfl, by simp, fun i hi => absurd hi (Nat.not_lt_zero i)⟩
  · obtain ⟨-, h1, h2, -, hc⟩ := St.OwnE.cell h (fun _ => rfl)
    refine ⟨_, _, rfl, hm _ _ h1 h2, fun i hi => ?_⟩
    obtain ⟨g', e, h3, h4, hj⟩ := hc i hi
    have := hj 0 (by omega)
    rw [Nat.mul_one, Nat.add_zero] at this
    exact ⟨g', e, h3, h4, this.1, this.2⟩
theorem OwnV_put {w : World} {B g n c : Nat} {l : List Sl} (h : OwnV w B (.slice (some ⟨g, 0, none⟩) n c) l) (k : Nat) (hk : k < l.length) (s : Sl) : OwnV (w.setCell ⟨g, k, none⟩ s.v) B (.slice (some ⟨g, 0, none⟩) n c) (l.set k s) := by
  rcases h.form with ⟨e, -⟩ | ⟨g', cap, cur, e, hb, hL, hn, hm, hs, ht⟩
  · cases e
  · injection e with e1 e2 e3
    injection e1 with e1
    injection e1 with e1
    subst e1 e2 e3
    rw [Nat.mul_one] at ht hs
    refine ⟨by simp [flatV], .inr ⟨g, c, cur.setIfInBounds k s.v, by rw [List.length_set], hb, hL.put k _, by rw [List.length_set]; exact hn, hm, by rw [Array.size_setIfInBounds, Nat.mul_one]; exact hs, ?_⟩⟩
    rw [Nat.mul_one, List.length_set, Array.toList_setIfInBounds, List.take_set, ht, flatV, flatV, List.map_set]
theorem Nt.bys {w : World} {s : Sl} {l : List Nat} (h : Nt w s l) : Bys w s.A s.n l ∧ (s.A = none → s.c = 0) ∧ s.n = l.length := by
  obtain ⟨A, c, e, h1, h2, h3, h4⟩ := h.reads
  have hn := h.1
  obtain ⟨sA, sn, sc⟩ := s
  injection e with e1 e2 e3
  subst e1 e3
  dsimp only at hn ⊢
  subst hn
  exact ⟨h1, h4, rfl⟩
/-- Slices of the caller's own, each in a block of its own. -/
structure NtO (w : World) (B : Nat) (v : Value) (V : List Sl) (M : List (List Nat)) : Prop where
  row : OwnV w B v V
  len : V.length = M.length
  own : ∀ i (h1 : i < V.length) (h2 : i < M.length), Own w B V[i].v M[i]
def NR (w : World) (v : Value) (V0 : List Sl) (M : List (List Nat)) (i : Value) (wr : World) : Prop :=
  ∃ (k : Nat) (V : List Sl), k ≤ V0.length ∧ i = .int .i64 (k : Int) ∧ V.length = V0.length ∧ OwnV wr w.heap.size v V ∧ Below w.heap.size w wr ∧ (∀ j (h1 : j < V.length) (h2 : j < M.length), j < k → Own wr w.heap.size V[j].v M[j]) ∧ (∀ j (h1 : j < V.length) (h2 : j < V0.length), k ≤ j → V[j] = V0[j])
set_option maxHeartbeats 4000000 in
theorem notices_crew {R : List Int} {b : CB} {q : Cq} (w : World) (h : CAt w b q) (hI : CInv R q) : Calls Tryz.prog 27 #[.pointer (some ⟨b.c, 0, none⟩)] w fun x w' => ∃ v V, x = .returned v ∧ NtO w' w.heap.size v V q.M ∧ Below w.heap.size w w' := by
  obtain ⟨c0, c1, c2, c3, c4, c5, c6⟩ := Lies_cells7 h.c
  have hml : q.M.length ≤ 200 := by have h1 := hI.ml; have h2 := hI.n; omega
  have hvl := h.nt.1
  have HN := Lib.hid h.nt
  have HMX := Lib.hid hI.mx
  have C := Lib.hid (cloneV_any w h.m (by omega))
  clear h hI
  obtain ⟨M, hM⟩ : ∃ M, q.M = M := ⟨_, rfl⟩
  rw [hM] at hml hvl HN HMX ⊢
  clear hM
  go_enter Tryz.func27, Tryz.ntmps27
  go_wp2_with fail
  with_reducible refine C.out.mono ?_
  rintro x w1 ⟨v, rfl, ho, hb⟩
  obtain ⟨A, c, rfl, hlm, -⟩ := V_row ho
  have HO := Lib.hid ho
  have HB := Lib.hid hb
  clear ho hb C c0 c1 c2 c3 c4 c5 c6
  obtain ⟨V0, hV0⟩ : ∃ V, b.V = V := ⟨_, rfl⟩
  rw [hV0] at hvl HN HO hlm ⊢
  clear hV0
  have HVL := Lib.hid hvl
  have HML := Lib.hid hml
  clear hvl hml
  go_wp2_with fail
  go_loopw [14] (fun i wr => NR w (.slice A V0.length c) V0 M i wr) (fun i _ => V0.length + 1 - (intOf i).toNat)
  case atStart => exact ⟨0, V0, by omega, rfl, rfl, HO.out, HB.out, fun j _ _ hj => absurd hj (Nat.not_lt_zero j), fun _ _ _ _ => rfl⟩
  case round =>
    obtain ⟨k, V, hk, rfl, hl, hO, hbr, hown, hold⟩ := hrel
    have HO2 := Lib.hid hO
    have HBR := Lib.hid hbr
    have HOWN := Lib.hid hown
    have HOLD := Lib.hid hold
    have HL := Lib.hid hl
    clear hO hbr hown hold hl
    by_cases hlt : k < V0.length
    · have e1 : (k : Int) < (V0.length : Int) := by omega
      have e2 : decide ((k : Int) < (V0.length : Int)) = true := by simp; omega
      have hkV : k < V.length := by rw [HL.out]; exact hlt
      have hkM : k < M.length := by rw [← HVL.out]; exact hlt
      obtain ⟨A', c', e', -, hc⟩ := V_row HO2.out
      injection e' with e' t1 t2
      clear t1 t2
      subst e'
      obtain ⟨g, rfl, hgB, hgl, y0, -⟩ := hc k hkV
      clear hc
      rw [HOLD.out k hkV hlt (Nat.le_refl k)] at y0
      have hnt := HN.out.2 k hlt hkM
      obtain ⟨s, hs⟩ : ∃ s, V0[k] = s := ⟨_, rfl⟩
      obtain ⟨m, hm⟩ : ∃ m, M[k] = m := ⟨_, rfl⟩
      rw [hs] at y0 hnt
      rw [hm] at hnt
      obtain ⟨hby, hA0, hn⟩ := hnt.bys
      obtain ⟨sA, sn, sc⟩ := s
      dsimp only at hby hA0 hn
      have y0 : wr.cell? ⟨g, k, none⟩ = some (.slice sA sn sc) := y0
      have hmx : m.length ≤ 33 := by rw [← hm]; exact HMX.out _ (List.getElem_mem hkM)
      have C2 := Lib.hid (Fe.bclone_any sA sn sc m wr (hby.below HBR.out) hA0 (by omega))
      have HM := Lib.hid hm
      have HG := Lib.hid (And.intro hgB hgl)
      clear hs hnt hby hA0 hn hmx hm hgB hgl
      go_wp2_with fail
      with_reducible refine C2.out.mono ?_
      rintro e w2 ⟨v1, rfl, ho1, hb1⟩
      obtain ⟨A1, c1, rfl, -, -⟩ := ho1.slice
      have HO3 := Lib.hid (HO2.out.below hb1)
      have z0 : w2.cell? ⟨g, k, none⟩ = some (.slice sA sn sc) := by rw [hb1.cell (p := ⟨g, k, none⟩) HG.out.2]; exact y0
      have z1 : w2.frozen? ⟨g, k, none⟩ = false := by
        obtain ⟨A', c', e', -, hc⟩ := V_row HO3.out
        injection e' with e' t1 t2
        obtain ⟨g', e2, -, -, -, hf⟩ := hc k hkV
        rw [e2] at e'
        injection e' with e'
        injection e' with e'
        subst e'
        exact hf
      have HO1 := Lib.hid ho1
      have HB1 := Lib.hid hb1
      clear ho1 hb1 y0
      go_wp2
      go_roundw
      case rel =>
        have hL : ∃ cs, Lies w2 g 22 cs := by
          rcases St.OwnE.form HO3.out with ⟨e, -⟩ | ⟨g', cap, cur, e, -, hL, -⟩
          · cases e
          · injection e with e
            injection e with e
            injection e with e
            subst e
            exact ⟨_, hL⟩
        obtain ⟨cs, hL⟩ := hL
        refine ⟨k + 1, V.set k ⟨A1, m.length, c1⟩, by omega, by go_num, by rw [List.length_set]; exact HL.out, OwnV_put HO3.out k hkV ⟨A1, m.length, c1⟩, (HBR.out.trans (HB1.out.mono HBR.out.size)).setCell (p := ⟨g, k, none⟩) HG.out.1 _, fun j h1 h2 hj => ?_, fun j h1 h2 hj => ?_⟩
        · by_cases hjk : j = k
          · subst hjk
            rw [List.getElem_set_self, HM.out]
            exact Own_lies_put (HO1.out.mono HBR.out.size) hL (by decide) _ _
          · rw [List.getElem_set_ne (fun e => hjk e.symm)]
            rw [List.length_set] at h1
            exact Own_lies_put ((HOWN.out j h1 h2 (by omega)).belowOwn HB1.out) hL (by decide) _ _
        · rw [List.getElem_set_ne (by omega)]
          rw [List.length_set] at h1
          exact HOLD.out j h1 h2 (by omega)
      case measure => simp [intOf]; omega
    · have e2 : decide ((k : Int) < (V0.length : Int)) = false := by simp; omega
      have e2b : decide (k < V0.length) = false := by simpa using hlt
      go_wp2
      go_ret
      refine ⟨_, V, rfl, ⟨HO2.out, by rw [HL.out]; exact HVL.out, fun i h1 h2 => HOWN.out i h1 h2 (by have := HL.out; omega)⟩, HBR.out⟩
theorem cw_notices {w w' : World} {R : List Int} {cc : Nat} {b : CB} {q : Cq} (h : CW w w' R cc b q) : Calls Tryz.prog 27 #[.pointer (some ⟨cc, 0, none⟩)] w' fun x w'' => ∃ v V, x = .returned v ∧ NtO w'' w'.heap.size v V q.M ∧ Below w'.heap.size w' w'' := by
  have C := notices_crew w' h.at_ h.inv
  rwa [h.c] at C
/-! ### a row of strings -/
def encT (x : List Nat) : List Value := [.string (Fe.str x)]
theorem encT_len (x : List Nat) : (encT x).length = 1 := rfl
theorem encT_one (x : List Nat) : ∀ v ∈ encT x, v.oneCell' = true := by
  intro v hv
  simp [encT] at hv
  subst hv
  rfl
abbrev OwnT (w : World) (B : Nat) (v : Value) (l : List (List Nat)) : Prop := St.OwnE encT 9 1 w B v l
theorem T_row {w : World} {B : Nat} {v : Value} {l : List (List Nat)} (h : OwnT w B v l) : ∃ A c, v = .slice A l.length c ∧ (l.length : Int) ≤ 9223372036854775807 ∧ ∀ (i : Nat) (hi : i < l.length), ∃ g, A = some ⟨g, 0, none⟩ ∧ w.cell? ⟨g, i, none⟩ = some (.string (Fe.str l[i])) := by
  have hm : ∀ n c : Nat, n ≤ c → c ≤ maxLen → (n : Int) ≤ 9223372036854775807 := fun n c h1 h2 => by unfold maxLen at h2; omega
  rcases h.form with ⟨rfl, rfl⟩ | ⟨g, cap, cur, rfl, -⟩
  · exact ⟨none, 0, rfl, by simp, fun i hi => absurd hi (Nat.not_lt_zero i)⟩
  · obtain ⟨-, h1, h2, -, hc⟩ := St.OwnE.cell h (fun _ => rfl)
    refine ⟨_, _, rfl, hm _ _ h1 h2, fun i hi => ?_⟩
    obtain ⟨g', e, -, -, hj⟩ := hc i hi
    have := hj 0 (by omega)
    rw [Nat.mul_one, Nat.add_zero] at this
    exact ⟨g', e, this.1⟩
theorem T_serve {w w' : World} {b : CB} {q : Cq} {B : Nat} {v : Value} {l : List (List Nat)} (h : OwnT w B v l) (hA : CAt w b q) (hg : Chg b.foot w w') : OwnT w' B v l :=
  h.same fun i hi => hg.block i (St.OwnE.block h i hi).2 (hA.far (Kb.row h hi) (by decide))
theorem wpl_appT {ops : Array Oper} {rest : List Oper} {a : Act} {w : World} {Q : Exit → Act → World → Prop} (dst : Option Tmp) (ty : TypeId) (pos : String) (aft : Array Edge) (s x : Operand)
    (B : Nat) (v : Value) (l : List (List Nat)) (g : Nat) (y : List Nat)
    (hs : a.eval s = v) (hx : a.eval x = .slice (some ⟨g, 0, none⟩) 1 1) (hown : OwnT w B v l) (hsrc : Lies w g 9 #[.string (Fe.str y)]) (hsm : l.length ≤ 100000) (hB : B ≤ w.heap.size)
    (h : ∀ v' w', OwnT w' B v' (l ++ [y]) → w.grownBy w' v.ownBlock → (v'.ownBlock = v.ownBlock ∨ v'.ownBlock = some w.heap.size) → wpList Tryz.prog ops Q rest (a.put dst v') w') :
    wpList Tryz.prog ops Q (⟨dst, .call { callee := .builtin .append, args := #[s, x], argTypes := #[88, 88] }, ty, pos, aft, none⟩ :: rest) a w :=
  St.wpl_app1 88 _ _ 16 Tryz.underlying88 Tryz.type9 rfl rfl rfl rfl (by decide) (by decide) encT_len encT_one dst ty pos aft s x B v l g y hs hx hown hsrc hsm hB h
theorem str_cat (x : List Nat) : (⟨#[33]⟩ : ByteArray) ++ Fe.str x = Fe.str (33 :: x) := by
  apply ByteArray.ext
  simp [Fe.str, strOfNums]

end Go.Proofs.YtpbclmnhkmcknaaGreat

namespace Go.Proofs.YtpbclmnhkmcknaaGreat
open Go.RowKit
open Fe (Lies Own Bys Reads NF Kx Kp Note)
set_option maxRecDepth 100000
set_option linter.unusedVariables false
set_option linter.unusedSimpArgs false

/-- Over the asks. -/
def NoR (w : World) (cc n : Nat) (t v : Value) (wr : World) : Prop := ∃ (j : Nat) (b : CB) (q : Cq), j ≤ 60 ∧ j ≤ n ∧ v = .int .i64 (j : Int) ∧ ∃ A c, t = .slice A q.M.length c ∧ CW w wr smR cc b q ∧ OwnT wr w.heap.size (.slice A q.M.length c) q.M
/-- Behind them. -/
def NoE (w : World) (cc : Nat) (t : Value) (wr : World) : Prop := ∃ (b : CB) (q : Cq) (A : Option Addr) (c : Nat), t = .slice A q.M.length c ∧ CW w wr smR cc b q ∧ OwnT wr w.heap.size (.slice A q.M.length c) q.M
/-- Over the notices. -/
def NpR (w : World) (m : Nat) (v : Value) (wr : World) : Prop := ∃ i : Nat, i ≤ m ∧ v = .int .i64 (i : Int) ∧ Below w.heap.size w wr
theorem T_one {w : World} {B : Nat} {v : Value} {l : List (List Nat)} (h : OwnT w B v l) : v.oneCell' = true := by
  rcases h.form with ⟨rfl, _⟩ | ⟨g', cap, cur, rfl, _⟩ <;> rfl
set_option maxHeartbeats 16000000 in
theorem crewNotices_walk (A : Option Addr) (n c : Nat) (X : Nat → Ax) (w : World) (hA : AV w A n c X) :
    Calls Tryz.prog 8 #[.slice A n c] w fun e w' => e = .returned (.bool true) ∧ Below w.heap.size w w' := by
  have HA := Lib.hid hA
  have hn : (n : Int) ≤ 9223372036854775807 := by have h1 := hA.1; have h2 := hA.2.1; unfold maxLen at h2; omega
  clear hA
  go_enter Tryz.func8, Tryz.ntmps8
  go_wp2_with fail
  with_reducible refine (small_any w).mono ?_
  rintro e w1 ⟨b, rfl, hs⟩
  have S_1 := Lib.hid hs
  clear hs
  obtain ⟨cc, hcc⟩ : ∃ cc, b.c = cc := ⟨_, rfl⟩
  rw [hcc] at S_1 ⊢
  clear hcc
  go_wp2_with fail
  with_reducible refine (long_any A n c X w1 (HA.out.below S_1.out.bel)).mono ?_
  rintro e w2 ⟨hb, t, rfl, ht⟩
  have S_2 := Lib.hid (S_1.out.below hb)
  have HT := Lib.hid ht
  clear hb ht S_1
  cases t
  · have HS : Hid (ShortA n X) := Lib.hid (HT.out rfl)
    clear HT
    go_upto_block 0 with (fail)
    go_cut [4, 5] (fun s4 s5 W => NoE w cc s4 W)
    case first =>
      go_wp2_with fail
      go_loopw [4, 5] (fun t i wr => NoR w cc n t i wr) (fun _ i _ => 61 - (intOf i).toNat)
      case atStart => exact ⟨0, b, smQ, by omega, by omega, rfl, none, 0, rfl, S_2.out, St.OwnE.nil _ _⟩
      case round =>
        clear S_2
        obtain ⟨j, b, q, hj, hjn, rfl, At, ct, rfl, hS, hT⟩ := hrel
        have S_4 := Lib.hid hS
        have OT_4 := Lib.hid hT
        have HAr := Lib.hid (HA.out.below hS.bel)
        clear hS hT
        by_cases hlt : j < n
        · by_cases h60 : j < 60
          · have hlt2 : (j : Int) < (n : Int) := by omega
            have hlt3 : decide ((j : Int) < (n : Int)) = true := by simp; omega
            have h3 : decide ((j : Int) < 60) = true := by simp; omega
            obtain ⟨g, o, rfl, -⟩ := HAr.out.2.2.2.1 (by omega)
            obtain ⟨x0, x1, x2, x3, x4, x5, x6, x7⟩ := HAr.out.2.2.2.at j hlt
            have HX := Lib.hid (HAr.out.2.2.2.2 j hlt)
            have HX0 := Lib.hid (HA.out.2.2.2.2 j hlt)
            have HSX := Lib.hid (HS.out j hlt (by omega))
            obtain ⟨x, hx⟩ : ∃ x, X j = x := ⟨_, rfl⟩
            rw [hx] at x0 x1 x2 x3 x4 x5 x6 x7 HX HX0 HSX
            clear hx
            go_wp2_with fail
            with_reducible refine (asknote_any2 x wr HX.out).mono ?_
            rintro e w5 ⟨hb, A2, c2, rfl, hin, hown, hlt5⟩
            obtain ⟨ep, hep, hee⟩ : ∃ ep : Nat, (1 : Int) + (x.e : Int) % 3 = (ep : Int) ∧ ep < 4294967296 := ⟨1 + x.e % 3, by omega, by omega⟩
            have HEP := Lib.hid hee
            clear hee x0 x1 x2 x3 x4 x5 x6 x7
            obtain ⟨w6, HW, hl, hs, hk6, ht6⟩ : ∃ W, W = w5.alloc (.cells #[.int .i64 7, .int .u32 (ep : Int), .int .u32 0, .int .u64 0, .int .u64 0, .int .u32 (x.o : Int), .int .i64 x.s, .bool x.u, .int .i64 0, .slice none 0 0, .slice A2 (askD x).length c2] 55) ∧ Lies W w5.heap.size 55 #[.int .i64 7, .int .u32 (ep : Int), .int .u32 0, .int .u64 0, .int .u64 0, .int .u32 (x.o : Int), .int .i64 x.s, .bool x.u, .int .i64 0, .slice none 0 0, .slice A2 (askD x).length c2] ∧ CW w W smR cc b q ∧ Kn W b A2 c2 (askD x) ∧ OwnT W w.heap.size (.slice At q.M.length ct) q.M := ⟨_, rfl, Lies.made w5 55 _, (S_4.out.below hb).alloc _, (Kn.ask S_4.out HX0.out hin hown hlt5).below (Fe.below1 _ _), (OT_4.out.below hb).alloc _⟩
            have S_6 := Lib.hid hs
            have LN_6 := Lib.hid hl
            have KN_6 := Lib.hid hk6
            have OT_6 := Lib.hid ht6
            clear hb hin hl hs hk6 ht6 hown hlt5 S_4 OT_4 HX HAr
            go_wp2_with fail
            try rw [hep]
            rw [← HW]
            clear HW hep
            with_reducible refine (cw_effects S_6.out).mono ?_
            rintro e w7 ⟨ve, rfl, hr, hb⟩
            obtain ⟨Ae, ce, rfl, hme, -⟩ := F_row hr
            have S_7 := Lib.hid (S_6.out.below hb)
            have LN_7 := Lib.hid (LN_6.out.below hb LN_6.out.lt)
            have KN_7 := Lib.hid (KN_6.out.below hb)
            have OT_7 := Lib.hid (OT_6.out.below hb)
            clear hr hb S_6 LN_6 KN_6 OT_6
            obtain ⟨n0, n1, n2, n3, n4, n5, n6, n7, n8, n9, n10⟩ := LN_7.out.cells11
            have C := Lib.hid (kn_serve S_7.out KN_7.out x.u HEP.out HX0.out.o HX0.out.s (askD_big HSX.out))
            have HM := Lib.hid (serve_M S_7.out.inv (stN ep x.o x.s x.u (askD x)) HX0.out.o)
            go_wp2_with fail
            with_reducible refine C.out.mono ?_
            rintro e w8 ⟨b8, v8, he, hO, hv, hs, hg, hf⟩
            have S_8 := Lib.hid hs
            have KN_8 := Lib.hid (KN_7.out.serve hg hf)
            have LN_8 := Lib.hid (far55 LN_7.out S_7.out.at_ hg)
            have OT_8 := Lib.hid (T_serve OT_7.out S_7.out.at_ hg)
            clear n0 n1 n2 n3 n4 n5 n6 n7 n8 n9 n10 hO hv hs hg hf C S_7 KN_7 LN_7 OT_7
            subst he
            obtain ⟨q8, hq⟩ : ∃ a, (serveS q (stN ep x.o x.s x.u (askD x))).q = a := ⟨_, rfl⟩
            rw [hq] at S_8 HM
            clear hq
            obtain ⟨a8, ha⟩ : ∃ a, (serveS q (stN ep x.o x.s x.u (askD x))).a = a := ⟨_, rfl⟩
            rw [ha]
            clear ha
            obtain ⟨k1, e1, x3, x4, x5, od, st, un, cd, ky, dt⟩ := a8
            have CD := Lib.hid (decode_any (askD x) A2 (askD x).length c2 w8 KN_8.out.i.1 (askD_big HSX.out))
            obtain ⟨n0, n1, n2, n3, n4, n5, n6, n7, n8, n9, n10⟩ := LN_8.out.cells11
            go_wp2_with fail
            with_reducible refine CD.out.mono ?_
            rintro e w9 ⟨hb, hd⟩
            have S_9 := Lib.hid (S_8.out.below hb)
            have LN_9 := Lib.hid (LN_8.out.below hb LN_8.out.lt)
            have OT_9 := Lib.hid (OT_8.out.below hb)
            clear n0 n1 n2 n3 n4 n5 n6 n7 n8 n9 n10 hb CD S_8 LN_8 OT_8 KN_8
            have HQE : Hid (q8.E.length ≤ 200) := Lib.hid (by have h1 := S_9.out.inv.el; have h2 := S_9.out.inv.n; omega)
            have HQM : Hid (q8.M.length ≤ 200) := Lib.hid (by have h1 := S_9.out.inv.ml; have h2 := S_9.out.inv.n; omega)
            rcases hd with ⟨hd, rfl⟩ | ⟨k, s, hk, hsn, rfl, hso⟩
            · obtain ⟨w10, HW, hl, hs, hln, ht, hb10⟩ : ∃ W, W = w9.alloc (.cells #[.int .i64 0, .int .i64 0, .slice none 0 0] 24) ∧ Lies W w9.heap.size 24 #[.int .i64 0, .int .i64 0, .slice none 0 0] ∧ CW w W smR cc b8 q8 ∧ Lies W w5.heap.size 55 #[.int .i64 7, .int .u32 (ep : Int), .int .u32 0, .int .u64 0, .int .u64 0, .int .u32 (x.o : Int), .int .i64 x.s, .bool x.u, .int .i64 0, .slice none 0 0, .slice A2 (askD x).length c2] ∧ OwnT W w.heap.size (.slice At q.M.length ct) q.M ∧ Below w9.heap.size w9 W := ⟨_, rfl, Lies.made w9 24 _, S_9.out.alloc _, LN_9.out.alloc _, OT_9.out.alloc _, Fe.below1 _ _⟩
              have S_10 := Lib.hid hs
              have LW_10 := Lib.hid hl
              have LN_10 := Lib.hid hln
              have OT_10 := Lib.hid ht
              clear hl hs hln ht S_9 LN_9 OT_9
              go_wp2_with fail
              rw [← HW]
              clear HW
              with_reducible refine (cw_effects S_10.out).mono ?_
              rintro e w11 ⟨vf, rfl, hr, hb⟩
              obtain ⟨Af, cf, rfl, hmf, -⟩ := F_row hr
              have S_11 := Lib.hid (S_10.out.below hb)
              have LN_11 := Lib.hid (LN_10.out.below hb LN_10.out.lt)
              have LW_11 := Lib.hid (LW_10.out.below hb LW_10.out.lt)
              have OT_11 := Lib.hid (OT_10.out.below hb)
              have HB11 := Lib.hid (hb10.trans (hb.mono hb10.size))
              clear hr hb hb10 S_10 LN_10 LW_10 OT_10
              obtain ⟨l0, l1, l2⟩ := LW_11.out.cells3
              rcases HM.out with ⟨he, hm⟩ | ⟨he, hm⟩
              · have g1 : ¬ ((q.E.length : Int) < (q8.E.length : Int)) := by omega
                have g2 : decide ((q.E.length : Int) < (q8.E.length : Int)) = false := decide_eq_false g1
                have g3 : decide (q.E.length < q8.E.length) = false := decide_eq_false (by omega)
                go_wp2
                go_roundw
                case rel => exact ⟨j + 1, b8, q8, by omega, by omega, by go_num, At, ct, by rw [hm], S_11.out, by rw [hm]; exact OT_11.out⟩
                case measure => simp [intOf]; omega
              · have hmn : q8.M = q.M := by rw [hm]; unfold noteM; show q.M ++ (match decS (askD x) with | none => [] | some k => _) = q.M; rw [hd]; simp
                have g1 : ((q.E.length : Int) < (q8.E.length : Int)) := by omega
                have g2 : decide ((q.E.length : Int) < (q8.E.length : Int)) = true := decide_eq_true g1
                have g3 : decide (q.E.length < q8.E.length) = true := decide_eq_true (by omega)
                go_wp2
                go_roundw
                case rel => exact ⟨j + 1, b8, q8, by omega, by omega, by go_num, At, ct, by rw [hmn], S_11.out, by rw [hmn]; exact OT_11.out⟩
                case measure => simp [intOf]; omega
            · obtain ⟨sA, sn, sc⟩ := s
              dsimp only at hsn
              subst hsn
              have HDE := Lib.hid hk
              have HOS9 := Lib.hid hso
              obtain ⟨w10, HW, hl, hs, hln, ht, hb10⟩ : ∃ W, W = w9.alloc (.cells #[.int .i64 k.t, .int .i64 k.n, .slice sA k.x.length sc] 24) ∧ Lies W w9.heap.size 24 #[.int .i64 k.t, .int .i64 k.n, .slice sA k.x.length sc] ∧ CW w W smR cc b8 q8 ∧ Lies W w5.heap.size 55 #[.int .i64 7, .int .u32 (ep : Int), .int .u32 0, .int .u64 0, .int .u64 0, .int .u32 (x.o : Int), .int .i64 x.s, .bool x.u, .int .i64 0, .slice none 0 0, .slice A2 (askD x).length c2] ∧ OwnT W w.heap.size (.slice At q.M.length ct) q.M ∧ Below w9.heap.size w9 W := ⟨_, rfl, Lies.made w9 24 _, S_9.out.alloc _, LN_9.out.alloc _, OT_9.out.alloc _, Fe.below1 _ _⟩
              have S_10 := Lib.hid hs
              have LW_10 := Lib.hid hl
              have LN_10 := Lib.hid hln
              have OT_10 := Lib.hid ht
              clear hl hs hln ht S_9 LN_9 OT_9
              go_wp2_with fail
              rw [← HW]
              clear HW
              with_reducible refine (cw_effects S_10.out).mono ?_
              rintro e w11 ⟨vf, rfl, hr, hb⟩
              obtain ⟨Af, cf, rfl, hmf, -⟩ := F_row hr
              have S_11 := Lib.hid (S_10.out.below hb)
              have LN_11 := Lib.hid (LN_10.out.below hb LN_10.out.lt)
              have LW_11 := Lib.hid (LW_10.out.below hb LW_10.out.lt)
              have OT_11 := Lib.hid (OT_10.out.below hb)
              have HB11 := Lib.hid (hb10.trans (hb.mono hb10.size))
              clear hr hb hb10 S_10 LN_10 LW_10 OT_10
              have HOS := Lib.hid (HOS9.out.belowOwn HB11.out)
              obtain ⟨l0, l1, l2⟩ := LW_11.out.cells3
              rcases HM.out with ⟨he, hm⟩ | ⟨he, hm⟩
              · have g1 : ¬ ((q.E.length : Int) < (q8.E.length : Int)) := by omega
                have g2 : decide ((q.E.length : Int) < (q8.E.length : Int)) = false := decide_eq_false g1
                have g3 : decide (q.E.length < q8.E.length) = false := decide_eq_false (by omega)
                go_wp2
                go_roundw
                case rel => exact ⟨j + 1, b8, q8, by omega, by omega, by go_num, At, ct, by rw [hm], S_11.out, by rw [hm]; exact OT_11.out⟩
                case measure => simp [intOf]; omega
              · by_cases h6 : k.t = 6
                · have hm6 : q8.M = q.M ++ [if x.u = true then 33 :: k.x else k.x] := by rw [hm]; show q.M ++ noteM x.u (askD x) = _; rw [noteM_some HDE.out, if_pos h6]
                  have HM6 := Lib.hid hm6
                  clear hm hm6
                  have k6 : (k.t == 6) = true := by simpa using h6
                  clear h6
                  have g1 : ((q.E.length : Int) < (q8.E.length : Int)) := by omega
                  have g2 : decide ((q.E.length : Int) < (q8.E.length : Int)) = true := decide_eq_true g1
                  have g3 : decide (q.E.length < q8.E.length) = true := decide_eq_true (by omega)
                  have HG3 := Lib.hid g3
                  have hso := HOS.out
                  have HLB := Lib.hid hso.bys.1
                  have u1 := Fe.run_str hso.bys.1 sc
                  clear hso
                  obtain ⟨n0, n1, n2, n3, n4, n5, n6, n7, n8, n9, n10⟩ := LN_11.out.cells11
                  obtain ⟨xu, hxu⟩ : ∃ u, x.u = u := ⟨_, rfl⟩
                  rw [hxu] at HM6 n7 ⊢
                  clear hxu
                  cases xu
                  · have HLS := Lib.hid (Lies.made w11 9 #[.string (Fe.str (k.x))])
                    have HOA := Lib.hid (OT_11.out.alloc (.cells #[.string (Fe.str (k.x))] 9))
                    have HQM2 : Hid (q.M.length ≤ 100000) := Lib.hid (by have h1 := HQM.out; rw [HM6.out] at h1; simp at h1; omega)
                    have HZ : Hid (w.heap.size ≤ (w11.alloc (.cells #[.string (Fe.str (k.x))] 9)).heap.size) := Lib.hid (S_11.out.alloc _).bel.size
                    go_wp2_with (first
                      | ((with_reducible refine wpl_appT (some 82) _ _ _ (.tmp 79) (.tmp 81) w.heap.size (.slice At q.M.length ct) q.M w11.heap.size (k.x) ?hs ?hx HOA.out HLS.out HQM2.out HZ.out ?_); (case hs => rfl); (case hx => rfl); (intro v12 w12 ho hg hbk); (obtain ⟨A12, c12, rfl, -, -⟩ := T_row ho); (have HO12 := Lib.hid ho); (have HG12 := Lib.hid hg); (clear ho hg hbk)))
                    have S_12 : Hid (CW w w12 smR cc b8 q8) := Lib.hid (by
                      have hS := S_11.out.alloc (.cells #[.string (Fe.str (k.x))] 9)
                      refine ⟨hS.bel.grown HG12.out hS.bel.size (fun k hk => ?_), hS.c, hS.at_.same fun i hi => HG12.out.block i (hS.at_.foot_lt hi) (fun e => ?_), hS.inv, hS.new⟩
                      · exact (St.OwnE.block HOA.out k hk).1
                      · exact absurd hi ((hS.at_).far (Kb.row HOA.out (i := i) e.symm) (by decide)))
                    go_wp2
                    go_roundw
                    case rel => exact ⟨j + 1, b8, q8, by omega, by omega, by go_num, A12, c12, by rw [HM6.out]; simp, S_12.out, by rw [HM6.out]; exact HO12.out⟩
                    case measure => simp [intOf]; omega
                  · have HLS := Lib.hid (Lies.made w11 9 #[.string (Fe.str (33 :: k.x))])
                    have HOA := Lib.hid (OT_11.out.alloc (.cells #[.string (Fe.str (33 :: k.x))] 9))
                    have HQM2 : Hid (q.M.length ≤ 100000) := Lib.hid (by have h1 := HQM.out; rw [HM6.out] at h1; simp at h1; omega)
                    have HZ : Hid (w.heap.size ≤ (w11.alloc (.cells #[.string (Fe.str (33 :: k.x))] 9)).heap.size) := Lib.hid (S_11.out.alloc _).bel.size
                    have hcat := str_cat k.x
                    have hsz : ¬ (9223372036854775807 < 1 + (Fe.str k.x).size) := by rw [Fe.str_size]; have := ((wkB_iff k).1 (decS_some HDE.out).2.2).2.2.2.2; omega
                    go_wp2_with (first
                      | ((with_reducible refine wpl_appT (some 82) _ _ _ (.tmp 79) (.tmp 81) w.heap.size (.slice At q.M.length ct) q.M w11.heap.size (33 :: k.x) ?hs2 ?hx2 HOA.out HLS.out HQM2.out HZ.out ?_); (case hs2 => rfl); (case hx2 => rfl); (intro v12 w12 ho hg hbk); (obtain ⟨A12, c12, rfl, -, -⟩ := T_row ho); (have HO12 := Lib.hid ho); (have HG12 := Lib.hid hg); (clear ho hg hbk)))
                    have S_12 : Hid (CW w w12 smR cc b8 q8) := Lib.hid (by
                      have hS := S_11.out.alloc (.cells #[.string (Fe.str (33 :: k.x))] 9)
                      refine ⟨hS.bel.grown HG12.out hS.bel.size (fun k hk => ?_), hS.c, hS.at_.same fun i hi => HG12.out.block i (hS.at_.foot_lt hi) (fun e => ?_), hS.inv, hS.new⟩
                      · exact (St.OwnE.block HOA.out k hk).1
                      · exact absurd hi ((hS.at_).far (Kb.row HOA.out (i := i) e.symm) (by decide)))
                    go_wp2
                    go_roundw
                    case rel => exact ⟨j + 1, b8, q8, by omega, by omega, by go_num, A12, c12, by rw [HM6.out]; simp, S_12.out, by rw [HM6.out]; exact HO12.out⟩
                    case measure => simp [intOf]; omega
                · have hmn : q8.M = q.M := by rw [hm]; show q.M ++ noteM x.u (askD x) = _; rw [noteM_some HDE.out, if_neg h6]; simp
                  have k6 : (k.t == 6) = false := beq_eq_false_iff_ne.2 h6
                  clear h6
                  have g1 : ((q.E.length : Int) < (q8.E.length : Int)) := by omega
                  have g2 : decide ((q.E.length : Int) < (q8.E.length : Int)) = true := decide_eq_true g1
                  have g3 : decide (q.E.length < q8.E.length) = true := decide_eq_true (by omega)
                  go_wp2
                  go_roundw
                  case rel => exact ⟨j + 1, b8, q8, by omega, by omega, by go_num, At, ct, by rw [hmn], S_11.out, by rw [hmn]; exact OT_11.out⟩
                  case measure => simp [intOf]; omega
          · have h3 : decide ((j : Int) < 60) = false := by simp; omega
            have hlt2 : (j : Int) < (n : Int) := by omega
            go_wp2
            go_meet
            exact ⟨b, q, At, ct, rfl, S_4.out, OT_4.out⟩
        · have hlt3 : decide ((j : Int) < (n : Int)) = false := by simp; omega
          go_wp2
          go_meet
          exact ⟨b, q, At, ct, rfl, S_4.out, OT_4.out⟩
    obtain ⟨b, q, A3, c3, rfl, hS, hT⟩ := hcut
    have S_4 := Lib.hid hS
    have OT_4 := Lib.hid hT
    clear hS hT S_2
    go_wp2_with fail
    with_reducible refine (cw_notices S_4.out).mono ?_
    rintro e w6 ⟨vn, V, rfl, hN, hb⟩
    have S_6 := Lib.hid (S_4.out.below hb)
    have OT_6 := Lib.hid (OT_4.out.below hb)
    obtain ⟨A1, c1, rfl, hme, -⟩ := V_row hN.row
    have HN := Lib.hid hN
    have HVL := Lib.hid hN.len
    clear hN hb S_4 OT_4
    have hvl := HVL.out
    obtain ⟨M, hM⟩ : ∃ M, q.M = M := ⟨_, rfl⟩
    rw [hM] at HN HVL OT_6 hvl ⊢
    clear hM
    rw [hvl] at hme ⊢
    have q1 : ((M.length : Int) != (M.length : Int)) = false := by simp
    have q2 : (M.length != M.length) = false := by simp
    have HV2 : Hid (∃ B, OwnV w6 B (.slice A1 M.length c1) V) := Lib.hid (by have h := HN.out.row; rw [hvl] at h; exact ⟨_, h⟩)
    clear hvl
    go_wp2_with fail
    go_loopw [12] (fun v wr => NpR w6 M.length v wr) (fun i _ => M.length + 1 - (intOf i).toNat)
    case atStart => exact ⟨0, by omega, rfl, Below.refl _ _⟩
    case round =>
      clear q1 q2
      obtain ⟨i, hi, rfl, hbr⟩ := hrel
      have HBR := Lib.hid hbr
      clear hbr
      by_cases hli : i < M.length
      · have hlt2 : (i : Int) < (M.length : Int) := by omega
        have hlt3 : decide ((i : Int) < (M.length : Int)) = true := by simp; omega
        have hlv : i < V.length := by rw [HVL.out]; exact hli
        obtain ⟨BV, hBV⟩ := HV2.out
        obtain ⟨A', c', e', -, hc⟩ := V_row (hBV.below HBR.out)
        injection e' with e' t1 t2
        clear t1 t2
        subst e'
        obtain ⟨g1, rfl, -, -, y0, -⟩ := hc i hlv
        clear hc
        obtain ⟨A', c', e', -, hc⟩ := T_row (OT_6.out.below HBR.out)
        injection e' with e' t1 t2
        clear t1 t2
        subst e'
        obtain ⟨g2, rfl, z0⟩ := hc i hli
        clear hc
        have hown := (HN.out.own i hlv hli).belowOwn HBR.out
        obtain ⟨s, hs⟩ : ∃ p, V[i] = p := ⟨_, rfl⟩
        obtain ⟨m, hm⟩ : ∃ p, M[i] = p := ⟨_, rfl⟩
        rw [hs] at y0 hown
        rw [hm] at z0 hown
        clear hs hm
        obtain ⟨sA, sn, sc⟩ := s
        have hby : Bys wr sA sn m := hown.bys.1
        have y0 : wr.cell? ⟨g1, i, none⟩ = some (.slice sA sn sc) := y0
        have hq : ((Fe.str m).toList == (Fe.str m).toList) = true := by simp
        have hq2 : ((Fe.str m).toList != (Fe.str m).toList) = false := by simp
        clear hown
        go_wp2_with fail
        refine wp_region_noPanic ?_
        refine wp_region_held_drew (S := fun W => W.cell? ⟨g1, i, none⟩ = some (.slice sA sn sc) ∧ W.cell? ⟨g2, i, none⟩ = some (.string (Fe.str m)) ∧ Bys W sA sn m) (by kernel_rfl) (⟨y0, z0, hby⟩) (fun hH0 => ?_)
        refine Fe.any_take 0 96 ?vt2 rfl rfl (by kernel_rfl) (by kernel_rfl) (by kernel_rfl) (fun _ _ _ h => h) (by rfl) ?ht2 hH0 ?rt2
        case ht2 => ((intro W hSw); obtain ⟨q0, q1, q2⟩ := hSw; have q3 := Fe.run_str q2 sc; go_simp; (try with_reducible rfl))
        try simp only [Act.put, List.setIfInBounds_toArray, List.set_cons_zero, List.set_cons_succ]
        refine Fe.any_take 1 97 ?vt3 rfl rfl (by kernel_rfl) (by kernel_rfl) (by kernel_rfl) (fun _ _ _ h => h) (by rfl) ?ht3 hH0 ?rt3
        case ht3 => ((intro W hSw); obtain ⟨q0, q1, q2⟩ := hSw; have q3 := Fe.run_str q2 sc; go_simp; (try with_reducible rfl))
        try simp only [Act.put, List.setIfInBounds_toArray, List.set_cons_zero, List.set_cons_succ]
        refine Fe.any_take 2 98 ?vt4 rfl rfl (by kernel_rfl) (by kernel_rfl) (by kernel_rfl) (fun _ _ _ h => h) (by rfl) ?ht4 hH0 ?rt4
        case ht4 => ((intro W hSw); obtain ⟨q0, q1, q2⟩ := hSw; have q3 := Fe.run_str q2 sc; go_simp; (try with_reducible rfl))
        try simp only [Act.put, List.setIfInBounds_toArray, List.set_cons_zero, List.set_cons_succ]
        refine Fe.any_take 3 99 ?vt5 rfl rfl (by kernel_rfl) (by kernel_rfl) (by kernel_rfl) (fun _ _ _ h => h) (by rfl) ?ht5 hH0 ?rt5
        case ht5 => ((intro W hSw); obtain ⟨q0, q1, q2⟩ := hSw; have q3 := Fe.run_str q2 sc; go_simp; (try with_reducible rfl))
        try simp only [Act.put, List.setIfInBounds_toArray, List.set_cons_zero, List.set_cons_succ]
        refine Fe.any_take 4 100 ?vt6 rfl rfl (by kernel_rfl) (by kernel_rfl) (by kernel_rfl) (fun _ _ _ h => h) (by rfl) ?ht6 hH0 ?rt6
        case ht6 => ((intro W hSw); obtain ⟨q0, q1, q2⟩ := hSw; have q3 := Fe.run_str q2 sc; go_simp; (try with_reducible rfl))
        try simp only [Act.put, List.setIfInBounds_toArray, List.set_cons_zero, List.set_cons_succ]
        refine Fe.any_take 5 101 ?vt7 rfl rfl (by kernel_rfl) (by kernel_rfl) (by kernel_rfl) (fun _ _ _ h => h) (by rfl) ?ht7 hH0 ?rt7
        case ht7 => ((intro W hSw); obtain ⟨q0, q1, q2⟩ := hSw; have q3 := Fe.run_str q2 sc; go_simp; (try with_reducible rfl))
        try simp only [Act.put, List.setIfInBounds_toArray, List.set_cons_zero, List.set_cons_succ]
        refine Fe.any_take 6 102 ?vt8 rfl rfl (by kernel_rfl) (by kernel_rfl) (by kernel_rfl) (fun _ _ _ h => h) (by rfl) ?ht8 hH0 ?rt8
        case ht8 => ((intro W hSw); obtain ⟨q0, q1, q2⟩ := hSw; have q3 := Fe.run_str q2 sc; go_simp; (try with_reducible rfl))
        try simp only [Act.put, List.setIfInBounds_toArray, List.set_cons_zero, List.set_cons_succ]
        refine Fe.any_take 7 103 ?vt9 rfl rfl (by kernel_rfl) (by kernel_rfl) (by kernel_rfl) (fun _ _ _ h => h) (by rfl) ?ht9 hH0 ?rt9
        case ht9 => ((intro W hSw); obtain ⟨q0, q1, q2⟩ := hSw; have q3 := Fe.run_str q2 sc; go_simp; (try with_reducible rfl))
        try simp only [Act.put, List.setIfInBounds_toArray, List.set_cons_zero, List.set_cons_succ]
        refine Fe.any_take 8 104 ?vt10 rfl rfl (by kernel_rfl) (by kernel_rfl) (by kernel_rfl) (fun _ _ _ h => h) (by rfl) ?ht10 hH0 ?rt10
        case ht10 => ((intro W hSw); obtain ⟨q0, q1, q2⟩ := hSw; have q3 := Fe.run_str q2 sc; go_simp; (try with_reducible rfl))
        try simp only [Act.put, List.setIfInBounds_toArray, List.set_cons_zero, List.set_cons_succ]
        refine Fe.any_take 9 105 ?vt11 rfl rfl (by kernel_rfl) (by kernel_rfl) (by kernel_rfl) (fun _ _ _ h => h) (by rfl) ?ht11 hH0 ?rt11
        case ht11 => ((intro W hSw); obtain ⟨q0, q1, q2⟩ := hSw; have q3 := Fe.run_str q2 sc; go_simp; (try with_reducible rfl))
        try simp only [Act.put, List.setIfInBounds_toArray, List.set_cons_zero, List.set_cons_succ]
        clear hH0
        refine wpAnyH_done (by kernel_rfl) ?_ _
        refine NoPanic.normal ?_
        go_wp2
        go_roundw
        case rel => exact ⟨i + 1, by omega, by go_num, HBR.out.drew⟩
        case measure => simp [intOf]; omega
      · have hlt3 : decide ((i : Int) < (M.length : Int)) = false := by simp; omega
        have hlt4 : decide (i < M.length) = false := by simpa using hli
        have S_7 := Lib.hid (S_6.out.below HBR.out)
        go_wp2_with fail
        with_reducible refine (known_any _).mono ?_
        rintro e w90 ⟨rfl, hb⟩
        have S_90 := Lib.hid (S_7.out.below hb)
        clear hb
        go_wp2
        go_ret
        exact ⟨rfl, S_90.out.bel⟩
  · clear HT
    go_wp2_with fail
    with_reducible refine (known_any _).mono ?_
    rintro e w90 ⟨rfl, hb⟩
    have S_90 := Lib.hid (S_2.out.below hb)
    clear hb
    go_wp2
    go_ret
    exact ⟨rfl, S_90.out.bel⟩

end Go.Proofs.YtpbclmnhkmcknaaGreat
