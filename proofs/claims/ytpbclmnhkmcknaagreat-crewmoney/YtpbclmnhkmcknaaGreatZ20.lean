/-
  Texts of one proof, in their order: CInvM, DoLayS, DoCmp, DoRowE, DoSortE.
-/
import Derived.Shelf.SlSortCmp.NoneTotal
import Derived.Lib.Walk
import Derived.Maps.AppendAt
import Derived.Laws.MakeOwn
import Derived.Sort.OwnSorted
import Derived.Test.YtpbclmnhkmcknaaGreatCServe
namespace Go.Proofs.YtpbclmnhkmcknaaGreat
open Go.RowKit
open Fe (Kp Note)
set_option maxRecDepth 100000
set_option linter.unusedVariables false
set_option linter.unusedSimpArgs false

theorem ins_lt {m : Nat} {x : Kp} {T : Nat → Kp} {i : Nat} (h : i < m) : Fe.ins m x T i = T i := by unfold Fe.ins; rw [if_pos h]
theorem ins_at {m : Nat} {x : Kp} {T : Nat → Kp} : Fe.ins m x T m = x := by unfold Fe.ins; rw [if_neg (by omega), if_pos rfl]
theorem ins_gt {m : Nat} {x : Kp} {T : Nat → Kp} {i : Nat} (h : m < i) : Fe.ins m x T i = T (i - 1) := by unfold Fe.ins; rw [if_neg (by omega), if_neg (by omega)]
theorem ins_old {m n : Nat} {x : Kp} {T : Nat → Kp} (hm : m ≤ n) {p : Nat} (hp : p < n) : ∃ q, q < n + 1 ∧ Fe.ins m x T q = T p := by
  by_cases h : p < m
  · exact ⟨p, by omega, ins_lt h⟩
  · exact ⟨p + 1, by omega, by rw [ins_gt (by omega), Nat.add_sub_cancel]⟩
theorem ins_cases {m n : Nat} {x : Kp} {T : Nat → Kp} (hm : m ≤ n) {q : Nat} (hq : q < n + 1) : Fe.ins m x T q = x ∨ ∃ p, p < n ∧ Fe.ins m x T q = T p := by
  by_cases h : q < m
  · exact .inr ⟨q, by omega, ins_lt h⟩
  · by_cases h2 : q = m
    · subst h2; exact .inl ins_at
    · exact .inr ⟨q - 1, by omega, ins_gt (by omega)⟩
theorem ok_ins {n : Nat} {T : Nat → Kp} {x : Kp} (h : Fe.okT n T) (hx : Fe.vk x = true) (hn : n < 200) (hno : Fe.has n T x.k = false) : Fe.okT (n + 1) (Fe.ins (Fe.pos T x.k n) x T) := by
  obtain ⟨p1, p2⟩ := Fe.pos_spec h x.k
  have hp := Fe.pos_le T x.k n
  have hne := Fe.has_no h hno
  generalize Fe.pos T x.k n = m at *
  refine ⟨by omega, fun i hi => ⟨?_, fun h0 => ?_⟩⟩
  · rcases ins_cases (x := x) (T := T) hp hi with e | ⟨p, hp2, e⟩
    · rw [e]; exact hx
    · rw [e]; exact (h.2 p hp2).1
  · by_cases c1 : i < m
    · rw [ins_lt c1, ins_lt (by omega)]; exact (h.2 i (by omega)).2 h0
    · by_cases c2 : i = m
      · subst c2
        rw [ins_at, ins_lt (by omega)]; exact p1 _ (by omega)
      · by_cases c3 : i = m + 1
        · subst c3
          rw [Nat.add_sub_cancel, ins_at, ins_gt (show m < m + 1 by omega), Nat.add_sub_cancel]
          have h1 := p2 m (Nat.le_refl _) (by omega)
          have h2 := hne m (by omega)
          omega
        · rw [ins_gt (by omega), ins_gt (by omega)]
          have := (h.2 (i - 1) (by omega)).2 (by omega)
          exact this

theorem verdS (b : Bool) : St.verd b = 1 ∨ St.verd b = 2 := by cases b; exact .inr rfl; exact .inl rfl
theorem verdP (b : Bool) : Pu.verd b = 1 ∨ Pu.verd b = 2 := by cases b; exact .inr rfl; exact .inl rfl
theorem verdD (b : Bool) : Do.verd b = 1 ∨ Do.verd b = 2 := by cases b; exact .inr rfl; exact .inl rfl
/-- What one step may do to a crew. -/
structure Step1 (R : List Int) (q q' : Cq) : Prop where
  s : St.Inv q'.s
  p : Pu.Inv q'.p
  d : Do.Inv R q'.d
  f : q'.f = q.f
  sl : q'.s.H.length ≤ q.s.H.length + 1
  pl : q'.p.H.length ≤ q.p.H.length + 1
  dl : q'.d.H.length ≤ q.d.H.length + 1
  el : q'.E.length ≤ q.E.length + 1
  ml : q'.M.length ≤ q.M.length + 1
  mx : ∀ x ∈ q'.M, x.length ≤ 33
theorem Step1.same {R : List Int} {q : Cq} (h : CInv R q) : Step1 R q q := ⟨h.s, h.p, h.d, rfl, by omega, by omega, by omega, by omega, by omega, h.mx⟩
theorem Step1.ofS {R : List Int} {q : Cq} (h : CInv R q) {s : St.Ss} (hs : St.Inv s) (hl : s.H.length ≤ q.s.H.length + 1) : Step1 R q { q with s := s } := ⟨hs, h.p, h.d, rfl, hl, Nat.le_succ _, Nat.le_succ _, Nat.le_succ _, Nat.le_succ _, h.mx⟩
theorem Step1.ofP {R : List Int} {q : Cq} (h : CInv R q) {s : Pu.Ss} (hs : Pu.Inv s) (hl : s.H.length ≤ q.p.H.length + 1) : Step1 R q { q with p := s } := ⟨h.s, hs, h.d, rfl, Nat.le_succ _, hl, Nat.le_succ _, Nat.le_succ _, Nat.le_succ _, h.mx⟩
theorem Step1.ofD {R : List Int} {q : Cq} (h : CInv R q) {s : Do.Ss} (hs : Do.Inv R s) (hl : s.H.length ≤ q.d.H.length + 1) : Step1 R q { q with d := s } := ⟨h.s, h.p, hs, rfl, Nat.le_succ _, Nat.le_succ _, hl, Nat.le_succ _, Nat.le_succ _, h.mx⟩
theorem Step1.ofM {R : List Int} {q : Cq} (h : CInv R q) {x : List Nat} (hx : x.length ≤ 33) : Step1 R q { q with M := q.M ++ [x] } :=
  ⟨h.s, h.p, h.d, rfl, Nat.le_succ _, Nat.le_succ _, Nat.le_succ _, Nat.le_succ _, by simp, fun y hy => by
    rcases List.mem_append.1 hy with hy | hy
    · exact h.mx y hy
    · simp at hy; subst hy; exact hx⟩
theorem fwd_ok {R : List Int} {q : Cq} (h : CInv R q) {o : Nat} (ho : o < 4294967296) {k : Wk} (hk : wkB k = true) : ((fwdS q o k).v = 1 ∨ (fwdS q o k).v = 2) ∧ (fwdS q o k).r.length ≤ 1 ∧ Step1 R q (fwdS q o k).q := by
  obtain ⟨h1, h2, h3, h4, h5⟩ := (wkB_iff k).1 hk
  unfold fwdS
  split
  · exact ⟨verdS _, Nat.zero_le _, Step1.ofS h (h.s.hold ho _ _) (St.holdS_len _ _ _ _).1⟩
  · split
    · exact ⟨verdS _, Nat.zero_le _, Step1.ofS h (h.s.fin o true) (Nat.le_succ_of_le (St.endS_len _ _ _).1)⟩
    · split
      · exact ⟨verdP _, Nat.zero_le _, Step1.ofP h (h.p.auth ho _ _) (Pu.authS_len _ _ _ _).1⟩
      · split
        · exact ⟨verdP _, Nat.zero_le _, Step1.ofP h (h.p.mov o (by omega)) (Nat.le_succ_of_le (Pu.movS_len _ _ _).1)⟩
        · split
          · split
            · exact ⟨.inr rfl, Nat.zero_le _, Step1.same h⟩
            · exact ⟨.inl rfl, Nat.le_refl _, Step1.ofD h (h.d.book ho _ _) (Do.bookS_len _ _ _ _).1⟩
          · split
            · exact ⟨.inl rfl, Nat.zero_le _, Step1.ofM h (by omega)⟩
            · exact ⟨.inr rfl, Nat.zero_le _, Step1.same h⟩
theorem bwd_ok {R : List Int} {q : Cq} (h : CInv R q) {o : Nat} {k : Wk} (hk : wkB k = true) : ((bwdS q o k).v = 1 ∨ (bwdS q o k).v = 2) ∧ (bwdS q o k).r.length ≤ 1 ∧ Step1 R q (bwdS q o k).q := by
  obtain ⟨h1, h2, h3, h4, h5⟩ := (wkB_iff k).1 hk
  unfold bwdS
  split
  · exact ⟨verdS _, Nat.zero_le _, Step1.ofS h (h.s.fin o false) (Nat.le_succ_of_le (St.endS_len _ _ _).1)⟩
  · split
    · exact ⟨verdP _, Nat.zero_le _, Step1.ofP h (h.p.mov o (by omega)) (Nat.le_succ_of_le (Pu.movS_len _ _ _).1)⟩
    · split
      · exact ⟨verdP _, Nat.zero_le _, Step1.ofP h (h.p.mov o (by omega)) (Nat.le_succ_of_le (Pu.movS_len _ _ _).1)⟩
      · split
        · exact ⟨verdD _, Nat.zero_le _, Step1.ofD h (h.d.canc o) (Nat.le_succ_of_le (Do.cancS_len _ _).1)⟩
        · split
          · exact ⟨.inl rfl, Nat.zero_le _, Step1.ofM h (by simp; omega)⟩
          · exact ⟨.inr rfl, Nat.zero_le _, Step1.same h⟩
theorem exec_ok {R : List Int} {q : Cq} (h : CInv R q) {o : Nat} (ho : o < 4294967296) (u : Bool) (l : List Nat) : ((execS q o u l).v = 1 ∨ (execS q o u l).v = 2) ∧ (execS q o u l).r.length ≤ 1 ∧ Step1 R q (execS q o u l).q := by
  unfold execS
  split
  · exact ⟨.inr rfl, Nat.zero_le _, Step1.same h⟩
  · rename_i k hk
    have hw := (decS_some hk).2.2
    split
    · exact bwd_ok h hw
    · exact fwd_ok h ho hw
theorem decide_ok {R : List Int} {q : Cq} (h : CInv R q) {N : Note} (ho : N.order < 4294967296) (a : Nat) : ((decideS q a N).v = 1 ∨ (decideS q a N).v = 2) ∧ (decideS q a N).r.length ≤ 1 ∧ Step1 R q (decideS q a N).q ∧ (a = 3 → (decideS q a N).v = 2) ∧ (a = 4 → (decideS q a N).v = 1) := by
  unfold decideS
  split
  · rename_i e; exact ⟨.inr rfl, Nat.zero_le _, Step1.same h, fun _ => rfl, fun e' => by omega⟩
  · split
    · exact ⟨.inl rfl, Nat.zero_le _, Step1.same h, fun e' => by omega, fun _ => rfl⟩
    · obtain ⟨h1, h2, h3⟩ := exec_ok h ho N.undo N.data
      unfold effS
      split
      · refine ⟨h1, h2, ⟨h3.s, h3.p, h3.d, h3.f, h3.sl, h3.pl, h3.dl, ?_, h3.ml, h3.mx⟩, fun e' => by omega, fun e' => by omega⟩
        show ((execS q N.order N.undo N.data).q.E ++ [_]).length ≤ _
        rw [(exec_E q _ _ _).1]
        simp
      · exact ⟨h1, h2, h3, fun e' => by omega, fun e' => by omega⟩
theorem mayB_ok {a : Nat} {v : Int} (ha : a = 1 ∨ a = 3 ∨ a = 4) (h0 : v = 1 ∨ v = 2) (h3 : a = 3 → v = 2) (h4 : a = 4 → v = 1) : Fe.mayB a v = true := by
  unfold Fe.mayB
  split
  · rename_i e; rw [h3 e]; rfl
  · split
    · rename_i e; rw [h4 e]; rfl
    · simpa using h0
theorem keep_zero {ep n : Nat} {T : Nat → Kp} {N : Note} {a : Nat} {v : Int} {r : List Nat} (ha : a = 1 ∨ a = 3 ∨ a = 4) (h : Fe.askS ep n T N = ⟨a, Fe.kz, 0⟩) (hn : n ≠ 200) (hm : Fe.mayB a v = true) (hr : r.length ≤ 255) : Fe.keepE ep n T N v r = 0 := by
  unfold Fe.keepE
  rw [h]
  dsimp only
  rw [if_neg (by decide), if_neg (by rw [hm]; simp; omega), if_neg (by omega), if_neg hn]
theorem serve_hd {R : List Int} {q : Cq} (h : CInv R q) {N : Note} (ho : N.order < 4294967296) : ∀ a, (a = 1 ∨ a = 3 ∨ a = 4) → Fe.in64 (decideS q a N).v ∧ (decideS q a N).r.length ≤ 255 ∧ (Fe.askS q.f.ep q.f.n q.f.T N = ⟨a, Fe.kz, 0⟩ → q.f.n ≠ 200 → Fe.keepE q.f.ep q.f.n q.f.T N (decideS q a N).v (decideS q a N).r = 0) := by
  intro a ha
  obtain ⟨h1, h2, h3, h4, h5⟩ := decide_ok h ho a
  refine ⟨by unfold Fe.in64; omega, by omega, fun e hn => keep_zero ha e hn (mayB_ok ha h1 h4 h5) (by omega)⟩
/-- A new step: what is known of it. -/
theorem ask_new {ep n : Nat} {T : Nat → Kp} {N : Note} {a : Nat} (ha : a = 1 ∨ a = 3 ∨ a = 4) (h : Fe.askS ep n T N = ⟨a, Fe.kz, 0⟩) :
    Fe.okB n T = true ∧ Fe.reqB N = true ∧ ¬ N.epoch < ep ∧ Fe.has n T (Fe.nk N) = false ∧ Fe.actN n T N = a := by
  unfold Fe.askS at h
  split at h
  · rename_i c
    split at h
    · injection h with h1 h2 h3; omega
    · rename_i c2
      split at h
      · split at h
        · injection h with h1 h2 h3; omega
        · injection h with h1 h2 h3; omega
      · rename_i c3
        injection h with h1 h2 h3
        exact ⟨c.1, c.2, c2, by simpa using c3, h1⟩
  · injection h with h1 h2 h3; omega
theorem ask_again {ep n : Nat} {T : Nat → Kp} {N : Note} {k : Kp} (h : Fe.askS ep n T N = ⟨2, k, 0⟩) :
    Fe.okB n T = true ∧ Fe.reqB N = true ∧ ¬ N.epoch < ep ∧ ((Fe.has n T (Fe.nk N) = true ∧ k = T (Fe.pos T (Fe.nk N) n) ∧ k.a = N.data)) := by
  unfold Fe.askS at h
  split at h
  · rename_i c
    split at h
    · injection h with h1 h2 h3; cases h1
    · rename_i c2
      split at h
      · rename_i c3
        split at h
        · rename_i c4
          injection h with h1 h2 h3
          exact ⟨c.1, c.2, c2, c3, h2.symm, by rw [← h2]; exact c4⟩
        · injection h with h1 h2 h3; cases h1
      · injection h with h1 h2 h3
        unfold Fe.actN at h1
        split at h1
        · cases h1
        · split at h1 <;> cases h1
  · injection h with h1 h2 h3; cases h1
theorem ask_staleS {ep n : Nat} {T : Nat → Kp} {N : Note} (h : Fe.askS ep n T N = ⟨0, Fe.kz, 72⟩) : Fe.okB n T = true ∧ Fe.reqB N = true ∧ N.epoch < ep := by
  unfold Fe.askS at h
  split at h
  · rename_i c
    split at h
    · rename_i c2; exact ⟨c.1, c.2, c2⟩
    · split at h
      · split at h
        · injection h with h1 h2 h3; cases h3
        · injection h with h1 h2 h3; cases h3
      · injection h with h1 h2 h3; cases h3
  · injection h with h1 h2 h3; cases h3
theorem req_ok {N : Note} (h : Fe.reqB N = true) : N.kind = 7 ∧ 1 ≤ N.epoch ∧ 1 ≤ N.order ∧ 0 ≤ N.step ∧ N.step < 16 ∧ N.data.length ≤ 255 := by
  obtain ⟨h1, h2, h3, h4⟩ := Fe.req_small h
  unfold Fe.reqB at h
  simp only [Bool.and_eq_true, decide_eq_true_eq] at h
  obtain ⟨h5, h6, h7, h8⟩ := h
  exact ⟨h2, by omega, by omega, h3, h4, h1⟩
/-- What a served step comes to. -/
theorem serve_split {R : List Int} {q : Cq} (h : CInv R q) (N : Note) (ho : N.order < 4294967296) :
    (∃ c, (c = 1 ∨ c = 2 ∨ c = 3) ∧ serveS q N = ⟨noN q.f.ep c, q⟩) ∨
    (N.epoch < q.f.ep ∧ serveS q N = ⟨fenceN q.f.ep N, q⟩) ∨
    (∃ k, Fe.reqB N = true ∧ ¬ N.epoch < q.f.ep ∧ Fe.has q.f.n q.f.T (Fe.nk N) = true ∧ k = q.f.T (Fe.pos q.f.T (Fe.nk N) q.f.n) ∧ k.a = N.data ∧ serveS q N = ⟨doneN N k.c k.r, { q with f := ⟨N.epoch, q.f.n, q.f.T⟩ }⟩) ∨
    (∃ a, (a = 1 ∨ a = 3 ∨ a = 4) ∧ Fe.reqB N = true ∧ ¬ N.epoch < q.f.ep ∧ Fe.has q.f.n q.f.T (Fe.nk N) = false ∧ Fe.actN q.f.n q.f.T N = a ∧ q.f.n < 200 ∧
      serveS q N = ⟨doneN N (decideS q a N).v (decideS q a N).r, { (decideS q a N).q with f := ⟨N.epoch, q.f.n + 1, Fe.ins (Fe.pos q.f.T (Fe.nk N) q.f.n) (Fe.newK N (decideS q a N).v (decideS q a N).r) q.f.T⟩ }⟩) := by
  rcases ask_cases q.f.ep q.f.n q.f.T N with e | e | e | ⟨k, e, -⟩ | ⟨a, ha, e, -⟩
  · exact .inl ⟨1, .inl rfl, serve_bad e⟩
  · exact .inr (.inl ⟨(ask_staleS e).2.2, serve_stale e⟩)
  · exact .inl ⟨2, .inr (.inl rfl), serve_clash e⟩
  · obtain ⟨h1, h2, h3, h4, h5, h6⟩ := ask_again e
    exact .inr (.inr (.inl ⟨k, h2, h3, h4, h5, h6, by rw [serve_again e, (see_ok h1 h3).2]⟩))
  · obtain ⟨h1, h2, h3, h4, h5⟩ := ask_new ha e
    by_cases hn : q.f.n = 200
    · exact .inl ⟨3, .inr (.inr rfl), serve_full ha e hn⟩
    · refine .inr (.inr (.inr ⟨a, ha, h2, h3, h4, h5, by have := h.n; omega, ?_⟩))
      rw [serve_new ha e hn]
      unfold Fe.keepF
      rw [if_pos ((serve_hd h ho a ha).2.2 e hn)]
theorem CInv.serve {R : List Int} {q : Cq} (h : CInv R q) (N : Note) (ho : N.order < 4294967296) (he : N.epoch < 4294967296) : CInv R (serveS q N).q := by
  rcases serve_split h N ho with ⟨c, -, e⟩ | ⟨-, e⟩ | ⟨k, -, -, -, -, -, e⟩ | ⟨a, ha, hr, h3, h4, h5, hn, e⟩
  · rw [e]; exact h
  · rw [e]; exact h
  · rw [e]; exact ⟨h.s, h.p, h.d, h.ok, he, h.sl, h.pl, h.dl, h.el, h.ml, h.mx⟩
  · rw [e]
    obtain ⟨d1, d2, d3, d4, d5⟩ := decide_ok h ho a
    obtain ⟨r1, r2, r3, r4, r5, r6⟩ := req_ok hr
    have hv : Fe.vk (Fe.newK N (decideS q a N).v (decideS q a N).r) = true := (Fe.vk_iff _).2 ⟨r3, r4, by show N.step ≤ 15; omega, r6, by show (decideS q a N).r.length ≤ 255; omega, d1⟩
    have hok : Fe.okT (q.f.n + 1) (Fe.ins (Fe.pos q.f.T (Fe.nk N) q.f.n) (Fe.newK N (decideS q a N).v (decideS q a N).r) q.f.T) := ok_ins (x := Fe.newK N (decideS q a N).v (decideS q a N).r) h.ok hv hn h4
    refine ⟨d3.s, d3.p, d3.d, hok, (show N.epoch < 4294967296 from he), ?_, ?_, ?_, ?_, ?_, d3.mx⟩
    · have := d3.sl; have := h.sl; show (decideS q a N).q.s.H.length ≤ q.f.n + 1; omega
    · have := d3.pl; have := h.pl; show (decideS q a N).q.p.H.length ≤ q.f.n + 1; omega
    · have := d3.dl; have := h.dl; show (decideS q a N).q.d.H.length ≤ q.f.n + 1; omega
    · have := d3.el; have := h.el; show (decideS q a N).q.E.length ≤ q.f.n + 1; omega
    · have := d3.ml; have := h.ml; show (decideS q a N).q.M.length ≤ q.f.n + 1; omega
/-- Serve, where its answer is known as the chapter says. -/
theorem serve_crew {R : List Int} {b : CB} {q : Cq} (N : Note) (A1 A2 : Option Addr) (c1 c2 : Nat) (w : World) (h : CAt w b q) (hI : CInv R q) (hN : Fe.EntV w N A1 A2 c1 c2) (hs : Fe.in64 N.step) (hl : N.data.length ≤ 200000)
    (hNF : ∀ i, b.foot i → (Value.slice A1 N.key.length c1).ownBlock ≠ some i ∧ (Value.slice A2 N.data.length c2).ownBlock ≠ some i) :
    Calls Tryz.prog 23 #[.pointer (some ⟨b.c, 0, none⟩), .agg (Fe.evs N (.slice A1 N.key.length c1) (.slice A2 N.data.length c2))] w (SvPost w b (serveS q N)) :=
  serve_any N A1 A2 c1 c2 w h hI hN hs hl hNF (serve_hd hI hN.b.order)

end Go.Proofs.YtpbclmnhkmcknaaGreat

namespace Go.Proofs.YtpbclmnhkmcknaaGreat.Do
open Go.Proofs Go.Shelf Go.RowKit Go.Lib Go.Sort
set_option maxRecDepth 100000

end Go.Proofs.YtpbclmnhkmcknaaGreat.Do

namespace Go.Proofs.YtpbclmnhkmcknaaGreat.Do
open Go.Proofs Go.Shelf Go.RowKit Go.Lib Go.Sort
set_option maxRecDepth 100000
set_option linter.unusedVariables false
set_option linter.unusedSimpArgs false

theorem cmp31 (x y : Int) (w : World) :
    Calls Tryz.prog 149 #[.int .i64 x, .int .i64 y] w fun e w' => e = .returned (.int .i64 (Lib.compareInt x y)) ∧ w = w' := by
  go_enter Tryz.func149, Tryz.ntmps149
  go_wp2
  all_goals (go_ret; refine ⟨?_, rfl⟩; unfold Lib.compareInt; (repeat' split) <;> first | rfl | (exfalso; omega))
theorem cmp32 (x y : Int) (w : World) :
    Calls Tryz.prog 148 #[.int .u32 x, .int .u32 y] w fun e w' => e = .returned (.int .i64 (Lib.compareInt x y)) ∧ w = w' := by
  go_enter Tryz.func148, Tryz.ntmps148
  go_wp2
  all_goals (go_ret; refine ⟨?_, rfl⟩; unfold Lib.compareInt; (repeat' split) <;> first | rfl | (exfalso; omega))
def orI (a b : Int) : Int := if a = 0 then b else a
def OrR (a : Int) (b : Int) (v : Value) : Prop := ∃ j : Nat, j ≤ 2 ∧ v = .int .i64 (j : Int) ∧ (1 ≤ j → a = 0) ∧ (2 ≤ j → b = 0)
theorem or30 (a b : Int) (g : Nat) (w : World) (hL : Lies w g 3 #[.int .i64 a, .int .i64 b]) :
    Calls Tryz.prog 147 #[.slice (some ⟨g, 0, none⟩) 2 2] w fun e w' => e = .returned (.int .i64 (orI a b)) ∧ w = w' := by
  have c0 : w.cell? ⟨g, 0, none⟩ = some (.int .i64 a) := hL.cell 0
  have c1 : w.cell? ⟨g, 1, none⟩ = some (.int .i64 b) := hL.cell 1
  clear hL
  go_enter Tryz.func147, Tryz.ntmps147
  go_wp2_with fail
  go_loop [8] (fun v => OrR a b v) (fun i => 2 - (intOf i).toNat)
  case atStart => exact ⟨0, by omega, rfl, fun h => by omega, fun h => by omega⟩
  case round =>
    obtain ⟨j, hj, rfl, h1, h2⟩ := hrel
    rcases (by omega : j = 0 ∨ j = 1 ∨ j = 2) with rfl | rfl | rfl
    · rw [show ((0 : Nat) : Int) = 0 from rfl]
      by_cases ha : a = 0
      · have e1 : (a == 0) = true := by simpa using ha
        have e2 : (a != 0) = false := by simpa using ha
        have HA := Lib.hid ha
        clear ha h1 h2
        go_wp2
        go_round
        case rel => exact ⟨1, by omega, rfl, fun _ => HA.out, fun h => by omega⟩
        case measure => simp [intOf]
      · have e1 : (a == 0) = false := by simpa using ha
        have e2 : (a != 0) = true := by simpa using ha
        have HA : Hid (orI a b = a) := Lib.hid (by unfold orI; rw [if_neg ha])
        clear ha h1 h2
        go_wp2
        go_ret
        exact ⟨by rw [HA.out]; rfl, rfl⟩
    · rw [show ((1 : Nat) : Int) = 1 from rfl]
      have HO : Hid (orI a b = b) := Lib.hid (by unfold orI; rw [if_pos (h1 (by omega))])
      have H1 := Lib.hid (h1 (by omega))
      by_cases hb : b = 0
      · have e1 : (b == 0) = true := by simpa using hb
        have e2 : (b != 0) = false := by simpa using hb
        have HB := Lib.hid hb
        clear hb h1 h2
        go_wp2
        go_round
        case rel => exact ⟨2, by omega, rfl, fun _ => H1.out, fun _ => HB.out⟩
        case measure => simp [intOf]
      · have e1 : (b == 0) = false := by simpa using hb
        have e2 : (b != 0) = true := by simpa using hb
        clear hb h1 h2
        go_wp2
        go_ret
        exact ⟨by rw [HO.out]; rfl, rfl⟩
    · rw [show ((2 : Nat) : Int) = 2 from rfl]
      have HO : Hid (orI a b = 0) := Lib.hid (by unfold orI; rw [if_pos (h1 (by omega)), h2 (by omega)])
      clear h1 h2
      go_wp2
      go_ret
      exact ⟨by rw [HO.out]; rfl, rfl⟩

def encH (h : Hd) : List Value := [.int .u32 (h.o : Int), .int .i64 (h.d : Int), .int .i64 h.k]
def cfH (x y : Hd) : Int := orI (Lib.compareInt x.d y.d) (Lib.compareInt x.o y.o)

theorem ltH (x y : Hd) : ltOf cfH x y = decide (Go.Proofs.YtpbclmnhkmcknaaGreat.Do.ahead x y) := by
  unfold ltOf cfH orI Lib.compareInt Go.Proofs.YtpbclmnhkmcknaaGreat.Do.ahead
  by_cases h1 : x.d < y.d
  · have e1 : (x.d : Int) < (y.d : Int) := by omega
    simp [e1, h1]
  · have e1 : ¬ (x.d : Int) < (y.d : Int) := by omega
    by_cases h2 : y.d < x.d
    · have e2 : (y.d : Int) < (x.d : Int) := by omega
      have e3 : ¬ x.d = y.d := by omega
      simp [e1, e2, h1, e3]
    · have e2 : ¬ (y.d : Int) < (x.d : Int) := by omega
      have e3 : x.d = y.d := by omega
      by_cases h3 : x.o < y.o
      · have e4 : (x.o : Int) < (y.o : Int) := by omega
        simp [e1, e2, h1, e3, e4, h3]
      · have e4 : ¬ (x.o : Int) < (y.o : Int) := by omega
        by_cases h4 : y.o < x.o
        · have e5 : (y.o : Int) < (x.o : Int) := by omega
          simp [e1, e2, h1, e3, e4, e5, h3]
        · have e5 : ¬ (y.o : Int) < (x.o : Int) := by omega
          simp [e1, e2, h1, e3, e4, e5, h3]
theorem swoH : SWO (ltOf cfH) where
  irrefl x := by rw [ltH]; exact decide_eq_false (ahead_irrefl x)
  trans x y z h1 h2 := by rw [ltH] at *; simp at *; exact ahead_trans h1 h2
  ntrans x y z h1 h2 := by rw [ltH] at *; simp only [decide_eq_false_iff_not] at *; unfold Go.Proofs.YtpbclmnhkmcknaaGreat.Do.ahead at *; omega

end Go.Proofs.YtpbclmnhkmcknaaGreat.Do

namespace Go.Proofs.YtpbclmnhkmcknaaGreat.Do
open Go.Proofs Go.Shelf Go.RowKit Go.Lib Go.Sort
set_option maxRecDepth 100000
set_option linter.unusedVariables false
set_option linter.unusedSimpArgs false

section
variable {α : Type} (enc : α → List Value) (e : TypeId) (k : Nat)

/-- The cells of these elements. -/
def flat (l : List α) : List Value := l.flatMap enc
variable {enc} {k}
theorem flat_len (hk : ∀ x, (enc x).length = k) : ∀ l : List α, (flat enc l).length = l.length * k
  | [] => by simp [flat]
  | x :: r => by
    have := flat_len hk r
    unfold flat at this ⊢
    rw [List.flatMap_cons, List.length_append, this, hk, List.length_cons, Nat.add_mul]; omega
theorem flat_get (hk : ∀ x, (enc x).length = k) : ∀ (l : List α) (i : Nat) (hi : i < l.length) (j : Nat), j < k → (flat enc l)[i * k + j]? = (enc (l[i]'hi))[j]?
  | [], i, hi, _, _ => absurd hi (by simp)
  | x :: r, 0, hi, j, hj => by
    unfold flat
    rw [List.flatMap_cons, List.getElem?_append_left (by rw [hk]; omega)]
    simp
  | x :: r, i + 1, hi, j, hj => by
    have := flat_get hk r i (by simpa using hi) j hj
    unfold flat at this ⊢
    rw [List.flatMap_cons, List.getElem?_append_right (by rw [hk, Nat.add_mul]; omega), hk]
    rw [show (i + 1) * k + j - k = i * k + j from by rw [Nat.add_mul]; omega, this]
    simp
theorem flat_flatK [Inhabited α] (hk : ∀ x, (enc x).length = k) (hk0 : 0 < k) (l : List α) : flatK enc k l.toArray = (flat enc l).toArray := by
  have hl := flat_len hk l
  refine ext_get! (by rw [size_flatK]; simp [hl]) fun t ht => ?_
  have ht' : t < l.length * k := by simpa using ht
  rw [get_flatK _ _ _ t (by simpa using ht')]
  have hq : t / k < l.length := Nat.div_lt_of_lt_mul (by rw [Nat.mul_comm]; exact ht')
  have hm : t % k < k := Nat.mod_lt _ hk0
  have h := flat_get hk l (t / k) hq (t % k) hm
  rw [show t / k * k + t % k = t from by rw [Nat.mul_comm]; exact Nat.div_add_mod t k] at h
  have e1 : l.toArray[t / k]! = l[t / k] := by simp [hq]
  rw [e1]
  have h2 : t < (flat enc l).length := by rw [hl]; exact ht'
  have e2 : (flat enc l).toArray[t]! = (flat enc l)[t] := by simp [h2]
  rw [e2]
  have h3 : t % k < (enc l[t / k]).length := by rw [hk]; exact hm
  rw [List.getElem?_eq_getElem h2, List.getElem?_eq_getElem h3] at h
  have e3 : (enc l[t / k])[t % k]! = (enc l[t / k])[t % k] := by simp [h3]
  rw [e3]
  exact (Option.some.inj h).symm

variable (enc) (k)
/-- The slice v owns a row, not below B, that reads as l. -/
def OwnE (w : World) (B : Nat) (v : Value) (l : List α) : Prop := w.ownsRow B e k v l.length (flat enc l)
variable {enc} {e} {k}

theorem OwnE.form {w : World} {B : Nat} {v : Value} {l : List α} (h : OwnE enc e k w B v l) :
    (v = .slice none 0 0 ∧ l = []) ∨ ∃ g cap cur, v = .slice (some ⟨g, 0, none⟩) l.length cap ∧ B ≤ g ∧ Lies w g e cur ∧ l.length ≤ cap ∧ cap ≤ maxLen ∧ cur.size = cap * k ∧ cur.toList.take (l.length * k) = flat enc l := by
  obtain ⟨_, h1 | ⟨g, cap, cur, hv, hb, hg, hn, hm, hs, ht⟩⟩ := h
  · exact .inl ⟨h1.1, List.eq_nil_of_length_eq_zero h1.2⟩
  · exact .inr ⟨g, cap, cur, hv, hb, hg, hn, hm, hs, ht⟩
theorem OwnE.nil (w : World) (B : Nat) : OwnE enc e k w B (.slice none 0 0) [] := ⟨by simp [flat], .inl ⟨rfl, rfl⟩⟩
theorem OwnE.made (w : World) (B n : Nat) (z : Array Value) (hB : B ≤ w.heap.size) (hn : n ≤ maxLen) : OwnE enc e k (w.alloc (.cells (madeCells z (n * k)) e)) B (.slice (some ⟨w.heap.size, 0, none⟩) 0 n) [] :=
  World.ownsRow_made w _ n hB hn (size_madeCells _ _)
theorem OwnE.block {w : World} {B : Nat} {v : Value} {l : List α} (h : OwnE enc e k w B v l) : ∀ b, v.ownBlock = some b → B ≤ b ∧ b < w.heap.size := by
  intro b hb
  rcases h.form with ⟨rfl, _⟩ | ⟨g, cap, cur, rfl, h1, h2, _⟩
  · cases hb
  · have : g = b := by simpa [Value.ownBlock] using hb
    subst this
    exact ⟨h1, h2.lt⟩
theorem OwnE.same {w w' : World} {B : Nat} {v : Value} {l : List α} (h : OwnE enc e k w B v l) (hb : ∀ b, v.ownBlock = some b → w'.heap[b]? = w.heap[b]?) : OwnE enc e k w' B v l := by
  obtain ⟨h0, h1⟩ := h
  refine ⟨h0, ?_⟩
  rcases h1 with h1 | ⟨g, cap, cur, rfl, r1, r2, r3⟩
  · exact .inl h1
  · exact .inr ⟨g, cap, cur, rfl, r1, (hb g rfl).trans r2, r3⟩
theorem OwnE.grown {w w' : World} {B : Nat} {v : Value} {l : List α} {row : Option Nat} (h : OwnE enc e k w B v l) (hg : w.grownBy w' row) (hne : ∀ b, v.ownBlock = some b → some b ≠ row) : OwnE enc e k w' B v l :=
  h.same fun b hb => hg.block b (h.block b hb).2 (hne b hb)
theorem OwnE.below {w w' : World} {B : Nat} {v : Value} {l : List α} (h : OwnE enc e k w B v l) (hb : Below w.heap.size w w') : OwnE enc e k w' B v l :=
  h.same fun b hv => hb.block b (h.block b hv).2
theorem OwnE.alloc {w : World} {B : Nat} {v : Value} {l : List α} (h : OwnE enc e k w B v l) (o : Obj) : OwnE enc e k (w.alloc o) B v l := h.below (below1 w o)
theorem OwnE.drew {w : World} {B : Nat} {v : Value} {l : List α} (h : OwnE enc e k w B v l) : OwnE enc e k w.drew B v l := h
theorem OwnE.low {w : World} {B B' : Nat} {v : Value} {l : List α} (h : OwnE enc e k w B v l) (hB : B' ≤ B) : OwnE enc e k w B' v l := by
  obtain ⟨h0, h1⟩ := h
  refine ⟨h0, ?_⟩
  rcases h1 with h1 | ⟨g, cap, cur, rfl, r1, r2⟩
  · exact .inl h1
  · exact .inr ⟨g, cap, cur, rfl, Nat.le_trans hB r1, r2⟩
/-- Element i's cell j. -/
theorem OwnE.cell {w : World} {B : Nat} {A : Option Addr} {n c : Nat} {l : List α} (h : OwnE enc e k w B (.slice A n c) l) (hk : ∀ x, (enc x).length = k) : n = l.length ∧ n ≤ c ∧ c ≤ maxLen ∧ (A = none → n = 0) ∧
    ∀ (i : Nat) (hi : i < l.length), ∃ g, A = some ⟨g, 0, none⟩ ∧ B ≤ g ∧ g < w.heap.size ∧ ∀ j, j < k → w.cell? ⟨g, i * k + j, none⟩ = (enc (l[i]'hi))[j]? ∧ w.frozen? ⟨g, i * k + j, none⟩ = false := by
  rcases h.form with ⟨hv, hl⟩ | ⟨g, cap, cur, hv, h1, h2, h3, h4, h5, h6⟩
  · injection hv with q1 q2 q3
    subst q1 q2 q3 hl
    exact ⟨rfl, Nat.le_refl _, by unfold maxLen; omega, fun _ => rfl, fun i hi => absurd hi (by simp)⟩
  · injection hv with q1 q2 q3
    subst q1 q2 q3
    refine ⟨rfl, h3, h4, (fun h => by cases h), fun i hi => ⟨g, rfl, h1, h2.lt, fun j hj => ⟨?_, h2.free _⟩⟩⟩
    rw [h2.cell, ← flat_get hk l i hi j hj, ← h6, List.getElem?_take_of_lt, Array.getElem?_toList]
    have := Nat.mul_le_mul_right k (show i + 1 ≤ l.length from hi)
    rw [Nat.add_mul] at this
    omega

/-- 'append' of one element. -/
theorem wpl_app1 (t : TypeId) (inf : TypeInfo) (z : Value) (by_ : Nat) (ht : Tryz.prog.underlying t = some (.slice e)) (hi : Tryz.prog.info? e = some inf) (hz : inf.zero = some z) (hsz : inf.size = k) (hby : inf.bytes = by_) (hzs : z.cells.size = k) (hk0 : 0 < k) (hb48 : by_ ≤ 1000)
    (hk : ∀ x, (enc x).length = k) (h1c : ∀ x, ∀ v ∈ enc x, v.oneCell' = true)
    {ops : Array Oper} {rest : List Oper} {a : Act} {w : World} {Q : Exit → Act → World → Prop} (dst : Option Tmp) (ty : TypeId) (pos : String) (aft : Array Edge) (s x : Operand)
    (B : Nat) (v : Value) (l : List α) (g : Nat) (y : α)
    (hs : a.eval s = v) (hx : a.eval x = .slice (some ⟨g, 0, none⟩) 1 1) (hown : OwnE enc e k w B v l) (hsrc : Lies w g e (enc y).toArray) (hsm : l.length ≤ 100000) (hB : B ≤ w.heap.size)
    (h : ∀ v' w', OwnE enc e k w' B v' (l ++ [y]) → w.grownBy w' v.ownBlock → (v'.ownBlock = v.ownBlock ∨ v'.ownBlock = some w.heap.size) → wpList Tryz.prog ops Q rest (a.put dst v') w') :
    wpList Tryz.prog ops Q (⟨dst, .call { callee := .builtin .append, args := #[s, x], argTypes := #[t, t] }, ty, pos, aft, none⟩ :: rest) a w := by
  refine wpList_append_own_at (w := w) (o := ⟨dst, .call { callee := .builtin .append, args := #[s, x], argTypes := #[t, t] }, ty, pos, aft, none⟩) rfl s x t rfl B e inf z k by_ ht hi hz hsz hby hzs hk0 v l.length (flat enc l) hs hown
    ⟨g, 0, none⟩ 1 1 (enc y) hx (by rw [hk]; omega) (fun j u hu => ?_) (h1c y) (by unfold maxLen; omega) ?_ hB ?_
  · rw [Addr.add_mid, Nat.zero_add, hsrc.cell]
    simpa using hu
  · have : (l.length + 1) * by_ ≤ 100001 * 1000 := Nat.mul_le_mul (by omega) hb48
    omega
  · intro v' w' r1 r2 _ r4
    refine h v' w' ?_ r2 r4
    show w'.ownsRow B e k v' (l ++ [y]).length (flat enc (l ++ [y]))
    rw [List.length_append, show flat enc (l ++ [y]) = flat enc l ++ enc y from by simp [flat]]
    exact r1

/-- What a sort leaves. -/
theorem sorted_form [Inhabited α] {w : World} {g n : Nat} {os : Array Obj} {cur : Array Value} (d : List α) (hk : ∀ x, (enc x).length = k) (hk0 : 0 < k) (hb : Lies w g e cur) (hn : d.length * k ≤ cur.size) :
    ∃ cur', Lies (grow (putRowK enc k (Sort.ahead w n) g 0 d.toArray) os) g e cur' ∧ cur'.size = cur.size ∧ cur'.toList.take (d.length * k) = flat enc d := by
  have hg : g < w.heap.size := hb.lt
  refine ⟨putCells id 0 (flat enc d).toArray cur, ?_, by simp [putCells], ?_⟩
  · unfold Lies at hb ⊢
    rw [heap_grow_old _ _ (by simpa [putRowK] using hg)]
    unfold putRowK
    rw [flat_flatK hk hk0]
    simp [putRow, mapBlock, Sort.ahead, Array.getElem?_modify, hb, onCells]
  · have hl := flat_len hk d
    rw [← hl] at hn ⊢
    apply List.ext_getElem?
    intro j
    by_cases hj : j < (flat enc d).length
    · rw [List.getElem?_take_of_lt hj, Array.getElem?_toList]
      simp [putCells, hj, show j < cur.size by omega]
    · rw [List.getElem?_take_eq_none (by omega), List.getElem?_eq_none (by omega)]
theorem grownBy_sortK [Inhabited α] {w : World} {g n : Nat} {os : Array Obj} (d : Array α) : w.grownBy (grow (putRowK enc k (Sort.ahead w n) g 0 d) os) (some g) := by
  refine ⟨rfl, rfl, rfl, by simp [putRowK], fun i hi hne => ?_⟩
  rw [heap_grow_old _ _ (by simpa [putRowK] using hi)]
  have : g ≠ i := fun e => hne (by rw [e])
  simp [putRowK, putRow, mapBlock, Sort.ahead, Array.getElem?_modify, this]
theorem holdsK_of [Inhabited α] {w : World} {g : Nat} {cur : Array Value} {l : List α} (hk : ∀ x, (enc x).length = k) (hk0 : 0 < k) (hb : Lies w g e cur) (ht : cur.toList.take (l.length * k) = flat enc l) : HoldsK enc k w g 0 l.toArray := by
  unfold HoldsK
  rw [flat_flatK hk hk0]
  have hl := flat_len hk l
  intro j hj
  have hj' : j < (flat enc l).length := by simpa using hj
  refine ⟨?_, hb.free _⟩
  rw [Nat.zero_add, hb.cell]
  have h1 : (cur.toList.take (l.length * k))[j]? = (flat enc l)[j]? := by rw [ht]
  rw [List.getElem?_take_of_lt (by omega), Array.getElem?_toList] at h1
  rw [h1, List.getElem?_eq_getElem hj']
  simp [hj']

theorem perm_sorted [Inhabited α] {lt : α → α → Bool} {l : List α} {d' : Array α} (hp : PermIn 0 l.toArray.size l.toArray d') (hs : SortedIn lt 0 l.toArray.size d') :
    d'.toList.Perm l ∧ d'.toList.Pairwise (fun x y => lt y x = false) := by
  obtain ⟨hsz, _, hperm⟩ := hp
  have e1 : d'.extract 0 l.toArray.size = d' := by rw [← hsz]; exact Array.extract_size
  rw [e1, Array.extract_size] at hperm
  refine ⟨by simpa using hperm, ?_⟩
  rw [List.pairwise_iff_getElem]
  intro i j hi hj hij
  have hi' : i < d'.size := by simpa using hi
  have hj' : j < d'.size := by simpa using hj
  have := hs i j (Nat.zero_le _) hij (by omega)
  rw [getElem!_pos d' j hj', getElem!_pos d' i hi'] at this
  simpa using this
end

end Go.Proofs.YtpbclmnhkmcknaaGreat.Do

namespace Go.Proofs.YtpbclmnhkmcknaaGreat.Do
open Go.Proofs Go.Shelf Go.RowKit Go.Lib Go.Sort
set_option maxRecDepth 100000
set_option linter.unusedVariables false
set_option linter.unusedSimpArgs false

def encI (z : Int) : List Value := [.int .i64 z]
theorem encI_len (x : Int) : (encI x).length = 1 := rfl
theorem encI_one (x : Int) : ∀ v ∈ encI x, v.oneCell' = true := by
  intro v hv
  simp [encI] at hv
  subst hv
  rfl
theorem encH_len (x : Hd) : (encH x).length = 3 := rfl
theorem encH_one (x : Hd) : ∀ v ∈ encH x, v.oneCell' = true := by
  intro v hv
  simp [encH] at hv
  rcases hv with rfl | rfl | rfl <;> rfl
abbrev OwnI (w : World) (B : Nat) (v : Value) (l : List Int) : Prop := OwnE encI 3 1 w B v l
abbrev OwnR (w : World) (B : Nat) (v : Value) (l : List Hd) : Prop := OwnE encH 160 3 w B v l

def SortPost {α : Type} (lt : α → α → Bool) (own : World → Value → List α → Prop) (w : World) (v : Value) (l : List α) (e : Ending) (w' : World) : Prop :=
  e = .returned (.tuple #[]) ∧ ∃ l', l'.Perm l ∧ l'.Pairwise (fun x y => lt y x = false) ∧ own w' v l' ∧ w.grownBy w' v.ownBlock

theorem holds_eq {H L : List Hd} {l' : List Hd} (hs : HSort H) (hp : L.Perm H) (h1 : l'.Perm L) (h2 : l'.Pairwise (fun x y => ltOf cfH y x = false)) : l' = H := by
  have hp2 : l'.Perm H := h1.trans hp
  refine List.Perm.eq_of_pairwise (le := fun x y => ltOf cfH y x = false) (fun a b ha hb q1 q2 => ?_) h2 ?_ hp2
  · rw [ltH] at q1 q2
    simp only [decide_eq_false_iff_not] at q1 q2
    refine hs.uniq (hp2.mem_iff.1 ha) hb ?_
    unfold Go.Proofs.YtpbclmnhkmcknaaGreat.Do.ahead at q1 q2
    omega
  · refine hs.p.imp fun hlt => ?_
    rw [ltH]
    exact decide_eq_false (ahead_asymm hlt)
end Go.Proofs.YtpbclmnhkmcknaaGreat.Do
