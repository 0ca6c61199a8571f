/-
  Texts of one proof, in their order: COnceM, CKp.
-/
import Derived.Test.YtpbclmnhkmcknaaGreatB22
namespace Go.Proofs.YtpbclmnhkmcknaaGreat
open Go.RowKit
open Fe (Lies Own Bys Reads NF Kx Kp Note)
set_option maxRecDepth 100000
set_option linter.unusedVariables false
set_option linter.unusedSimpArgs false

/-- The same key. -/
def SK (x : Kp) (e : Ef) : Prop := x.o = e.o ∧ x.s = e.s ∧ x.u = e.u
theorem SK.k {x : Kp} {e : Ef} (h : SK x e) : x.k = Fe.kn e.o e.s e.u := by show Fe.kn x.o x.s x.u = _; rw [h.1, h.2.1, h.2.2]
/-- What holds of the effects of a crew. -/
structure EInv (q : Cq) : Prop where
  a : ∀ i (hi : i < q.E.length), ∃ p, p < q.f.n ∧ SK (q.f.T p) q.E[i]
  b : ∀ k i (hk : k < i) (hi : i < q.E.length), q.E[k].o = q.E[i].o → q.E[k].s = q.E[i].s → q.E[k].u = false ∧ q.E[i].u = true
  c : ∀ i (hi : i < q.E.length), q.E[i].u = true → ∃ k, ∃ hk : k < i, q.E[k].o = q.E[i].o ∧ q.E[k].s = q.E[i].s
  d : ∀ p, p < q.f.n → (q.f.T p).u = false → (q.f.T p).c = 1 → ∃ i, ∃ hi : i < q.E.length, SK (q.f.T p) q.E[i]
theorem EInv.start {K : List St.Kd} {P : List Pu.Kd} {R : List Int} : EInv (newQ K P R) :=
  ⟨fun i hi => absurd hi (Nat.not_lt_zero i), fun k i _ hi => absurd hi (Nat.not_lt_zero i), fun i hi => absurd hi (Nat.not_lt_zero i), fun p hp => absurd hp (Nat.not_lt_zero p)⟩
theorem EInv.same {q q' : Cq} (h : EInv q) (hE : q'.E = q.E) (hn : q'.f.n = q.f.n) (hT : q'.f.T = q.f.T) : EInv q' := by
  obtain ⟨s, p, d, ⟨ep, n, T⟩, E, M⟩ := q
  obtain ⟨s', p', d', ⟨ep', n', T'⟩, E', M'⟩ := q'
  dsimp only at hE hn hT
  subst hE hn hT
  exact ⟨h.a, h.b, h.c, h.d⟩
theorem act_one {n : Nat} {T : Nat → Kp} (hk : Fe.okT n T) {N : Note} (h : Fe.actN n T N = 1) : (N.undo = false → Fe.has n T (Fe.nk' N) = false) ∧ (N.undo = true → Fe.has n T (Fe.nk' N) = true ∧ (T (Fe.pos T (Fe.nk' N) n)).c = 1) := by
  unfold Fe.actN at h
  split at h
  · cases h
  rename_i c1
  split at h
  · cases h
  rename_i c2
  refine ⟨fun hu => ?_, fun hu => ?_⟩
  · cases hq : Fe.has n T (Fe.nk' N)
    · rfl
    · exact absurd ⟨hu, hq⟩ c1
  · have h1 : Fe.has n T (Fe.nk' N) = true := by
      cases hq : Fe.has n T (Fe.nk' N)
      · exact absurd ⟨hu, .inl hq⟩ c2
      · rfl
    refine ⟨h1, ?_⟩
    have h2 := (Fe.has_at h1).1
    have h3 := ((Fe.vk_iff _).1 (hk.2 _ h2).1).2.2.2.2.2
    rcases h3 with h3 | h3
    · exact h3
    · exact absurd ⟨hu, .inr h3⟩ c2
theorem decide_four {R : List Int} {q : Cq} (h : CInv R q) {N : Note} (ho : N.order < 4294967296) {a : Nat} (ha : a = 1 ∨ a = 3 ∨ a = 4) :
    (a = 3 ∧ (decideS q a N).v = 2 ∧ (decideS q a N).q = q) ∨ (a = 4 ∧ (decideS q a N).q = q) ∨ (a = 1 ∧ (decideS q a N).v = 2 ∧ (decideS q a N).q = q) ∨
    (a = 1 ∧ (decideS q a N).v = 1 ∧ (decideS q a N).q.E = q.E ++ [⟨N.order, N.step, N.undo⟩]) := by
  rcases ha with rfl | rfl | rfl
  · right; right
    have h1 := (exec_ok h ho N.undo N.data).1
    have e : decideS q 1 N = effS (execS q N.order N.undo N.data) ⟨N.order, N.step, N.undo⟩ := rfl
    rw [e]
    unfold effS
    split
    · rename_i c
      right
      refine ⟨rfl, c, ?_⟩
      show (execS q N.order N.undo N.data).q.E ++ [_] = _
      rw [(exec_E q _ _ _).1]
    · rename_i c
      have c2 : (execS q N.order N.undo N.data).v = 2 := by omega
      exact .inl ⟨rfl, c2, exec_no c2⟩
  · exact .inl ⟨rfl, rfl, rfl⟩
  · exact .inr (.inl ⟨rfl, rfl⟩)
theorem act_four {n : Nat} {T : Nat → Kp} {N : Note} (h : Fe.actN n T N = 4) : N.undo = true := by
  unfold Fe.actN at h
  split at h
  · cases h
  split at h
  · rename_i c; exact c.1
  · cases h
theorem EInv.serve {R : List Int} {q : Cq} (h : EInv q) (hI : CInv R q) (N : Note) (ho : N.order < 4294967296) : EInv (serveS q N).q := by
  rcases serve_split hI N ho with ⟨c, -, e⟩ | ⟨-, e⟩ | ⟨k, -, -, -, -, -, e⟩ | ⟨a, ha, hr, h3, h4, h5, hn, e⟩
  · rw [e]; exact h
  · rw [e]; exact h
  · rw [e]; exact h.same rfl rfl rfl
  · rw [e]
    obtain ⟨r1, r2, r3, r4, r5, r6⟩ := req_ok hr
    have hpl := Fe.pos_le q.f.T (Fe.nk N) q.f.n
    obtain ⟨x, hx⟩ : ∃ x, x = Fe.newK N (decideS q a N).v (decideS q a N).r := ⟨_, rfl⟩
    obtain ⟨T', hT⟩ : ∃ T', T' = Fe.ins (Fe.pos q.f.T (Fe.nk N) q.f.n) x q.f.T := ⟨_, rfl⟩
    have hold : ∀ p, p < q.f.n → ∃ p', p' < q.f.n + 1 ∧ T' p' = q.f.T p := fun p hp => by rw [hT]; exact ins_old hpl hp
    have hcas : ∀ p, p < q.f.n + 1 → T' p = x ∨ ∃ p0, p0 < q.f.n ∧ T' p = q.f.T p0 := fun p hp => by rw [hT]; exact ins_cases hpl hp
    have hnew : ∃ p, p < q.f.n + 1 ∧ T' p = x := ⟨_, Nat.lt_succ_of_le hpl, by rw [hT]; exact ins_at⟩
    have hs64 : Fe.in64 N.step := by unfold Fe.in64; omega
    have hin : ∀ p, p < q.f.n → Fe.in64 (q.f.T p).s := fun p hp => by
      have hv := (Fe.vk_iff _).1 (hI.ok.2 p hp).1
      unfold Fe.in64; omega
    have ho' := h
    have hdec := decide_four hI ho (N := N) ha
    rw [← hx, ← hT]
    have hxu : x.u = N.undo := by rw [hx]
    have hxc : x.c = (decideS q a N).v := by rw [hx]
    have hxo : SK x ⟨N.order, N.step, N.undo⟩ := by rw [hx]; exact ⟨rfl, rfl, rfl⟩
    clear hx hT e
    obtain ⟨d, hd⟩ : ∃ d, decideS q a N = d := ⟨_, rfl⟩
    rw [hd] at hdec hxc ⊢
    clear hd
    by_cases hE : d.q.E = q.E
    · have hx1 : x.u = false → x.c = 1 → False := fun hu hc => by
        rcases hdec with ⟨-, h1, -⟩ | ⟨h1, -⟩ | ⟨-, h1, -⟩ | ⟨-, -, h1⟩
        · rw [hxc, h1] at hc; cases hc
        · rw [h1] at h5
          rw [hxu, act_four h5] at hu; cases hu
        · rw [hxc, h1] at hc; cases hc
        · rw [hE] at h1
          have := congrArg List.length h1
          simp at this
      have key : EInv { q with f := ⟨N.epoch, q.f.n + 1, T'⟩ } := by
        refine ⟨fun i hi => ?_, h.b, h.c, fun p hp hu hc => ?_⟩
        · obtain ⟨p, hp, hk⟩ := h.a i hi
          obtain ⟨p', hp', e⟩ := hold p hp
          exact ⟨p', hp', by show SK (T' p') _; rw [e]; exact hk⟩
        · rcases hcas p hp with e | ⟨p0, hp0, e⟩
          · change (T' p).u = false at hu
            change (T' p).c = 1 at hc
            rw [e] at hu hc
            exact (hx1 hu hc).elim
          · change (T' p).u = false at hu
            change (T' p).c = 1 at hc
            rw [e] at hu hc
            obtain ⟨i, hi, hk⟩ := h.d p0 hp0 hu hc
            exact ⟨i, hi, by show SK (T' p) _; rw [e]; exact hk⟩
      exact key.same hE rfl rfl
    · rcases hdec with ⟨-, -, h1⟩ | ⟨-, h1⟩ | ⟨-, -, h1⟩ | ⟨h1, h2, hE2⟩
      · exact absurd (by rw [h1]) hE
      · exact absurd (by rw [h1]) hE
      · exact absurd (by rw [h1]) hE
      · rw [h1] at h5
        obtain ⟨g1, g2⟩ := act_one hI.ok h5
        have hno := Fe.has_no hI.ok h4
        have key : EInv { q with E := q.E ++ [⟨N.order, N.step, N.undo⟩], f := ⟨N.epoch, q.f.n + 1, T'⟩ } := by
          have hL : (q.E ++ [(⟨N.order, N.step, N.undo⟩ : Ef)]).length = q.E.length + 1 := by simp
          have hlo : ∀ i (hi : i < q.E.length) (hi' : i < (q.E ++ [(⟨N.order, N.step, N.undo⟩ : Ef)]).length), (q.E ++ [(⟨N.order, N.step, N.undo⟩ : Ef)])[i] = q.E[i] := fun i hi hi' => List.getElem_append_left hi
          have hat : ∀ (hi' : q.E.length < (q.E ++ [(⟨N.order, N.step, N.undo⟩ : Ef)]).length), (q.E ++ [(⟨N.order, N.step, N.undo⟩ : Ef)])[q.E.length] = ⟨N.order, N.step, N.undo⟩ := fun hi' => by simp
          refine ⟨fun i hi => ?_, fun k i hk hi e1 e2 => ?_, fun i hi hu => ?_, fun p hp hu hc => ?_⟩
          · change i < (q.E ++ [_]).length at hi
            rcases (by omega : i < q.E.length ∨ i = q.E.length) with hi2 | rfl
            · obtain ⟨p, hp, hk⟩ := h.a i hi2
              obtain ⟨p', hp', e⟩ := hold p hp
              exact ⟨p', hp', by show SK (T' p') ((q.E ++ [_])[i]); rw [e, hlo i hi2 hi]; exact hk⟩
            · obtain ⟨p', hp', e⟩ := hnew
              exact ⟨p', hp', by show SK (T' p') ((q.E ++ [_])[q.E.length]); rw [e, hat hi]; exact hxo⟩
          · change i < (q.E ++ [_]).length at hi
            change (q.E ++ [_])[k].o = (q.E ++ [_])[i].o at e1
            change (q.E ++ [_])[k].s = (q.E ++ [_])[i].s at e2
            show (q.E ++ [_])[k].u = false ∧ (q.E ++ [_])[i].u = true
            rcases (by omega : i < q.E.length ∨ i = q.E.length) with hi2 | rfl
            · rw [hlo k (by omega) (by omega), hlo i hi2 hi] at e1 e2 ⊢
              exact h.b k i hk hi2 e1 e2
            · rw [hlo k hk (by omega), hat hi] at e1 e2 ⊢
              obtain ⟨p, hp, hkk⟩ := h.a k hk
              have e0 := hkk.k
              rw [e1, e2] at e0
              change (q.f.T p).k = Fe.kn N.order N.step _ at e0
              show q.E[k].u = false ∧ N.undo = true
              cases hu : N.undo
              · cases hv : q.E[k].u
                · rw [hv] at e0; exact absurd (by rw [e0]; show _ = Fe.kn N.order N.step N.undo; rw [hu]) (hno p hp)
                · rw [hv] at e0
                  have := (Fe.has_of hI.ok hp (q := Fe.nk' N) (by rw [e0]; show _ = Fe.kn N.order N.step (!N.undo); rw [hu]; rfl)).2
                  rw [g1 hu] at this; cases this
              · cases hv : q.E[k].u
                · exact ⟨rfl, rfl⟩
                · rw [hv] at e0; exact absurd (by rw [e0]; show _ = Fe.kn N.order N.step N.undo; rw [hu]) (hno p hp)
          · change i < (q.E ++ [_]).length at hi
            change (q.E ++ [_])[i].u = true at hu
            rcases (by omega : i < q.E.length ∨ i = q.E.length) with hi2 | rfl
            · rw [hlo i hi2 hi] at hu
              obtain ⟨k, hk, e1, e2⟩ := h.c i hi2 hu
              exact ⟨k, hk, by show (q.E ++ [_])[k].o = (q.E ++ [_])[i].o; rw [hlo k (by omega) (by omega), hlo i hi2 hi]; exact e1, by show (q.E ++ [_])[k].s = (q.E ++ [_])[i].s; rw [hlo k (by omega) (by omega), hlo i hi2 hi]; exact e2⟩
            · rw [hat hi] at hu
              obtain ⟨b1, b2⟩ := g2 hu
              obtain ⟨hp, hpk⟩ := Fe.has_at b1
              have hpk2 : Fe.kn (q.f.T (Fe.pos q.f.T (Fe.nk' N) q.f.n)).o (q.f.T (Fe.pos q.f.T (Fe.nk' N) q.f.n)).s (q.f.T (Fe.pos q.f.T (Fe.nk' N) q.f.n)).u = Fe.kn N.order N.step (!N.undo) := hpk
              obtain ⟨k1, k2, k3⟩ := Fe.kn_inj (hin _ hp) hs64 hpk2
              have hu' : N.undo = true := hu
              rw [hu'] at k3
              obtain ⟨i, hi2, hk⟩ := h.d _ hp k3 b2
              exact ⟨i, hi2, by show (q.E ++ [_])[i].o = (q.E ++ [_])[q.E.length].o; rw [hlo i hi2 (by omega), hat hi]; exact hk.1.symm.trans k1, by show (q.E ++ [_])[i].s = (q.E ++ [_])[q.E.length].s; rw [hlo i hi2 (by omega), hat hi]; exact hk.2.1.symm.trans k2⟩
          · change (T' p).u = false at hu
            change (T' p).c = 1 at hc
            rcases hcas p hp with e | ⟨p0, hp0, e⟩
            · exact ⟨q.E.length, by show _ < (q.E ++ [_]).length; omega, by show SK (T' p) ((q.E ++ [_])[q.E.length]); rw [e, hat (by omega)]; exact hxo⟩
            · rw [e] at hu hc
              obtain ⟨i, hi, hk⟩ := h.d p0 hp0 hu hc
              exact ⟨i, by show i < (q.E ++ [_]).length; omega, by show SK (T' p) ((q.E ++ [_])[i]); rw [e, hlo i hi (by omega)]; exact hk⟩
        exact key.same hE2 rfl rfl
theorem ask_again' {ep n : Nat} {T : Nat → Kp} {N : Note} (ho : Fe.okT n T) (hr : Fe.reqB N = true) (he : ¬ N.epoch < ep) (hh : Fe.has n T (Fe.nk N) = true) (ha : (T (Fe.pos T (Fe.nk N) n)).a = N.data) : Fe.askS ep n T N = ⟨2, T (Fe.pos T (Fe.nk N) n), 0⟩ := by
  unfold Fe.askS
  rw [if_pos ⟨(Fe.okB_iff _ _).2 ho, hr⟩, if_neg he, if_pos hh, if_pos ha]
/-- Served again, the answer is the same. -/
theorem serve_twice {R : List Int} {q : Cq} (hI : CInv R q) (N : Note) (ho : N.order < 4294967296) (he : N.epoch < 4294967296) (h8 : (serveS q N).a.kind = 8) : (serveS (serveS q N).q N).a = (serveS q N).a := by
  have hI2 := hI.serve N ho he
  rcases serve_split hI N ho with ⟨c, hc, e⟩ | ⟨h1, e⟩ | ⟨k, hr, h3, h4, hk, ha, e⟩ | ⟨a, hA, hr, h3, h4, h5, hn, e⟩
  · rw [e] at h8; have h : (6 : Int) = 8 := h8; exact absurd h (by decide)
  · rw [e] at h8; have h : (9 : Int) = 8 := h8; exact absurd h (by decide)
  · rw [e] at hI2 ⊢
    subst hk
    have h := ask_again' (ep := N.epoch) hI2.ok hr (Nat.lt_irrefl _) h4 ha
    rw [serve_again h]
  · rw [e] at hI2 ⊢
    have hpl := Fe.pos_le q.f.T (Fe.nk N) q.f.n
    obtain ⟨hp, hh⟩ := Fe.has_of hI2.ok (q := Fe.nk N) (i := Fe.pos q.f.T (Fe.nk N) q.f.n) (Nat.lt_succ_of_le hpl) (by show (Fe.ins _ _ _ _).k = _; rw [ins_at])
    have h := ask_again' (ep := N.epoch) hI2.ok hr (Nat.lt_irrefl _) hh (by rw [hp]; show (Fe.ins _ _ _ _).a = _; rw [ins_at])
    rw [serve_again h, hp]
    show doneN N (Fe.ins _ _ _ _).c (Fe.ins _ _ _ _).r = _
    rw [ins_at]

end Go.Proofs.YtpbclmnhkmcknaaGreat

namespace Go.Proofs.YtpbclmnhkmcknaaGreat
open Go.RowKit
open Fe (Lies Own Bys Reads NF Kx Kp Note)
set_option maxRecDepth 100000
set_option linter.unusedVariables false
set_option linter.unusedSimpArgs false

/-- A note's bytes, at hand, and no crew's. -/
structure Kn (w : World) (b : CB) (A : Option Addr) (c : Nat) (l : List Nat) : Prop where
  i : InBytes w A l.length c l
  lt : ∀ i, (Value.slice A l.length c).ownBlock = some i → i < w.heap.size
  far : ∀ i, (Value.slice A l.length c).ownBlock = some i → ¬ b.foot i
theorem Kn.below {w w' : World} {b : CB} {A : Option Addr} {c : Nat} {l : List Nat} (h : Kn w b A c l) (hb : Below w.heap.size w w') : Kn w' b A c l := ⟨h.i.below hb, fun i hi => Nat.lt_of_lt_of_le (h.lt i hi) hb.size, h.far⟩
theorem Kn.serve {w w' : World} {b b' : CB} {A : Option Addr} {c : Nat} {l : List Nat} (h : Kn w b A c l) (hg : Chg b.foot w w') (hf : ∀ i, b'.foot i → b.foot i ∨ w.heap.size ≤ i) : Kn w' b' A c l :=
  ⟨⟨Bys_chg h.i.1 hg (fun i hi e => h.far i e hi), h.i.2⟩, fun i hi => Nat.lt_of_lt_of_le (h.lt i hi) hg.size, fun i hi hn => by
    rcases hf i hn with h1 | h1
    · exact h.far i hi h1
    · have := h.lt i hi; omega⟩
theorem Kn.own {w : World} {B : Nat} {b : CB} {A : Option Addr} {c : Nat} {l : List Nat} (h : Own w B (.slice A l.length c) l) (hf : ∀ i, (Value.slice A l.length c).ownBlock = some i → ¬ b.foot i) : Kn w b A c l := ⟨Own.inb h, fun i hi => Fe.Own.lt h i hi, hf⟩
theorem Kn.ask {w wr W : World} {R : List Int} {cc : Nat} {b : CB} {q : Cq} {x : Ax} {A : Option Addr} {c : Nat} (hS : CW w wr R cc b q) (hx : AT w x) (hi : InBytes W A (askD x).length c (askD x))
    (ho : (A = x.B ∧ 0 < x.r.length) ∨ ∀ i, (Value.slice A (askD x).length c).ownBlock = some i → wr.heap.size ≤ i) (hl : ∀ i, (Value.slice A (askD x).length c).ownBlock = some i → i < W.heap.size) : Kn W b A c (askD x) :=
  ⟨hi, hl, fun i h1 h2 => by
    rcases ho with ⟨rfl, h0⟩ | ho
    · have a1 := hx.rr.lt h0 h1
      have a2 := hS.new i h2
      omega
    · have a1 := ho i h1
      have a2 := hS.at_.foot_lt h2
      omega⟩
/-- Serve, with such a note. -/
theorem kn_serve {w W : World} {R : List Int} {cc : Nat} {b : CB} {q : Cq} {A : Option Addr} {c : Nat} {l : List Nat} (hS : CW w W R cc b q) (hk : Kn W b A c l) {ep o : Nat} {s : Int} (u : Bool) (hep : ep < 4294967296) (ho : o < 4294967296) (hs : Fe.in64 s) (hl : l.length ≤ 200000) :
    Calls Tryz.prog 23 #[.pointer (some ⟨cc, 0, none⟩), .agg #[.int .i64 7, .int .u32 (ep : Int), .int .u32 0, .int .u64 0, .int .u64 0, .int .u32 (o : Int), .int .i64 s, .bool u, .int .i64 0, .slice none 0 0, .slice A l.length c]] W (CwServe w W R cc b (serveS q (stN ep o s u l))) :=
  cw_serve hS (stN ep o s u l) A c 0 (ent_st hk.i s u hep ho) hs hl (fun i h1 h2 => hk.far i h1 h2)
theorem askD_big {x : Ax} (h : x.k.x.length ≤ 500 ∧ x.r.length ≤ 500) : (askD x).length ≤ 200000 := Nat.le_trans (askD_len h) (by omega)

end Go.Proofs.YtpbclmnhkmcknaaGreat
