/-
  Texts of one proof, in their order: CInvM, DoLayS, DoCmp, DoRowE, DoSortE, DoAppE, CRead, FeFld, FeNum, FeROne.
-/
import Derived.Shelf.SlSortCmp.NoneTotal
import Derived.Lib.Walk
import Derived.Maps.AppendAt
import Derived.Laws.MakeOwn
import Derived.Sort.OwnSorted
import Derived.IntWalk
import Derived.Test.YtpbclmnhkmcknaaGreatB16
namespace Go.Proofs.YtpbclmnhkmcknaaGreat
open Go.RowKit
open Fe (Kp Note)
set_option maxRecDepth 100000
set_option linter.unusedVariables false
set_option linter.unusedSimpArgs false

theorem ins_lt {m : Nat} {x : Kp} {T : Nat → Kp} {i : Nat} (h : i < m) : Fe.ins m x T i = T i := by unfold Fe.ins; rw [if_pos h]
theorem ins_at {m : Nat} {x : Kp} {T : Nat → Kp} : Fe.ins m x T m = x := by unfold Fe.ins; rw [if_neg (by omega), if_pos rfl]
theorem ins_gt {m : Nat} {x : Kp} {T : Nat → Kp} {i : Nat} (h : m < i) : Fe.ins m x T i = T (i - 1) := by unfold Fe.ins; rw [if_neg (by omega), if_neg (by omega)]
theorem ins_old {m n : Nat} {x : Kp} {T : Nat → Kp} (hm : m ≤ n) {p : Nat} (hp : p < n) : ∃ q, q < n + 1 ∧ Fe.ins m x T q = T p := by
  by_cases h : p < m
  · exact ⟨p, by omega, ins_lt h⟩
  · exact ⟨p + 1, by omega, by rw [ins_gt (by omega), Nat.add_sub_cancel]⟩
theorem ins_cases {m n : Nat} {x : Kp} {T : Nat → Kp} (hm : m ≤ n) {q : Nat} (hq : q < n + 1) : Fe.ins m x T q = x ∨ ∃ p, p < n ∧ Fe.ins m x T q = T p := by
  by_cases h : q < m
  · exact .inr ⟨q, by omega, ins_lt h⟩
  · by_cases h2 : q = m
    · subst h2; exact .inl ins_at
    · exact .inr ⟨q - 1, by omega, ins_gt (by omega)⟩
theorem ok_ins {n : Nat} {T : Nat → Kp} {x : Kp} (h : Fe.okT n T) (hx : Fe.vk x = true) (hn : n < 200) (hno : Fe.has n T x.k = false) : Fe.okT (n + 1) (Fe.ins (Fe.pos T x.k n) x T) := by
  obtain ⟨p1, p2⟩ := Fe.pos_spec h x.k
  have hp := Fe.pos_le T x.k n
  have hne := Fe.has_no h hno
  generalize Fe.pos T x.k n = m at *
  refine ⟨by omega, fun i hi => ⟨?_, fun h0 => ?_⟩⟩
  · rcases ins_cases (x := x) (T := T) hp hi with e | ⟨p, hp2, e⟩
    · rw [e]; exact hx
    · rw [e]; exact (h.2 p hp2).1
  · by_cases c1 : i < m
    · rw [ins_lt c1, ins_lt (by omega)]; exact (h.2 i (by omega)).2 h0
    · by_cases c2 : i = m
      · subst c2
        rw [ins_at, ins_lt (by omega)]; exact p1 _ (by omega)
      · by_cases c3 : i = m + 1
        · subst c3
          rw [Nat.add_sub_cancel, ins_at, ins_gt (show m < m + 1 by omega), Nat.add_sub_cancel]
          have h1 := p2 m (Nat.le_refl _) (by omega)
          have h2 := hne m (by omega)
          omega
        · rw [ins_gt (by omega), ins_gt (by omega)]
          have := (h.2 (i - 1) (by omega)).2 (by omega)
          exact this

theorem verdS (b : Bool) : St.verd b = 1 ∨ St.verd b = 2 := by cases b; exact .inr rfl; exact .inl rfl
theorem verdP (b : Bool) : Pu.verd b = 1 ∨ Pu.verd b = 2 := by cases b; exact .inr rfl; exact .inl rfl
theorem verdD (b : Bool) : Do.verd b = 1 ∨ Do.verd b = 2 := by cases b; exact .inr rfl; exact .inl rfl
/-- What one step may do to a crew. -/
structure Step1 (R : List Int) (q q' : Cq) : Prop where
  s : St.Inv q'.s
  p : Pu.Inv q'.p
  d : Do.Inv R q'.d
  f : q'.f = q.f
  sl : q'.s.H.length ≤ q.s.H.length + 1
  pl : q'.p.H.length ≤ q.p.H.length + 1
  dl : q'.d.H.length ≤ q.d.H.length + 1
  el : q'.E.length ≤ q.E.length + 1
  ml : q'.M.length ≤ q.M.length + 1
  mx : ∀ x ∈ q'.M, x.length ≤ 33
theorem Step1.same {R : List Int} {q : Cq} (h : CInv R q) : Step1 R q q := ⟨h.s, h.p, h.d, rfl, by omega, by omega, by omega, by omega, by omega, h.mx⟩
theorem Step1.ofS {R : List Int} {q : Cq} (h : CInv R q) {s : St.Ss} (hs : St.Inv s) (hl : s.H.length ≤ q.s.H.length + 1) : Step1 R q { q with s := s } := ⟨hs, h.p, h.d, rfl, hl, Nat.le_succ _, Nat.le_succ _, Nat.le_succ _, Nat.le_succ _, h.mx⟩
theorem Step1.ofP {R : List Int} {q : Cq} (h : CInv R q) {s : Pu.Ss} (hs : Pu.Inv s) (hl : s.H.length ≤ q.p.H.length + 1) : Step1 R q { q with p := s } := ⟨h.s, hs, h.d, rfl, Nat.le_succ _, hl, Nat.le_succ _, Nat.le_succ _, Nat.le_succ _, h.mx⟩
theorem Step1.ofD {R : List Int} {q : Cq} (h : CInv R q) {s : Do.Ss} (hs : Do.Inv R s) (hl : s.H.length ≤ q.d.H.length + 1) : Step1 R q { q with d := s } := ⟨h.s, h.p, hs, rfl, Nat.le_succ _, Nat.le_succ _, hl, Nat.le_succ _, Nat.le_succ _, h.mx⟩
theorem Step1.ofM {R : List Int} {q : Cq} (h : CInv R q) {x : List Nat} (hx : x.length ≤ 33) : Step1 R q { q with M := q.M ++ [x] } :=
  ⟨h.s, h.p, h.d, rfl, Nat.le_succ _, Nat.le_succ _, Nat.le_succ _, Nat.le_succ _, by simp, fun y hy => by
    rcases List.mem_append.1 hy with hy | hy
    · exact h.mx y hy
    · simp at hy; subst hy; exact hx⟩
theorem fwd_ok {R : List Int} {q : Cq} (h : CInv R q) {o : Nat} (ho : o < 4294967296) {k : Wk} (hk : wkB k = true) : ((fwdS q o k).v = 1 ∨ (fwdS q o k).v = 2) ∧ (fwdS q o k).r.length ≤ 1 ∧ Step1 R q (fwdS q o k).q := by
  obtain ⟨h1, h2, h3, h4, h5⟩ := (wkB_iff k).1 hk
  unfold fwdS
  split
  · exact ⟨verdS _, Nat.zero_le _, Step1.ofS h (h.s.hold ho _ _) (St.holdS_len _ _ _ _).1⟩
  · split
    · exact ⟨verdS _, Nat.zero_le _, Step1.ofS h (h.s.fin o true) (Nat.le_succ_of_le (St.endS_len _ _ _).1)⟩
    · split
      · exact ⟨verdP _, Nat.zero_le _, Step1.ofP h (h.p.auth ho _ _) (Pu.authS_len _ _ _ _).1⟩
      · split
        · exact ⟨verdP _, Nat.zero_le _, Step1.ofP h (h.p.mov o (by omega)) (Nat.le_succ_of_le (Pu.movS_len _ _ _).1)⟩
        · split
          · split
            · exact ⟨.inr rfl, Nat.zero_le _, Step1.same h⟩
            · exact ⟨.inl rfl, Nat.le_refl _, Step1.ofD h (h.d.book ho _ _) (Do.bookS_len _ _ _ _).1⟩
          · split
            · exact ⟨.inl rfl, Nat.zero_le _, Step1.ofM h (by omega)⟩
            · exact ⟨.inr rfl, Nat.zero_le _, Step1.same h⟩
theorem bwd_ok {R : List Int} {q : Cq} (h : CInv R q) {o : Nat} {k : Wk} (hk : wkB k = true) : ((bwdS q o k).v = 1 ∨ (bwdS q o k).v = 2) ∧ (bwdS q o k).r.length ≤ 1 ∧ Step1 R q (bwdS q o k).q := by
  obtain ⟨h1, h2, h3, h4, h5⟩ := (wkB_iff k).1 hk
  unfold bwdS
  split
  · exact ⟨verdS _, Nat.zero_le _, Step1.ofS h (h.s.fin o false) (Nat.le_succ_of_le (St.endS_len _ _ _).1)⟩
  · split
    · exact ⟨verdP _, Nat.zero_le _, Step1.ofP h (h.p.mov o (by omega)) (Nat.le_succ_of_le (Pu.movS_len _ _ _).1)⟩
    · split
      · exact ⟨verdP _, Nat.zero_le _, Step1.ofP h (h.p.mov o (by omega)) (Nat.le_succ_of_le (Pu.movS_len _ _ _).1)⟩
      · split
        · exact ⟨verdD _, Nat.zero_le _, Step1.ofD h (h.d.canc o) (Nat.le_succ_of_le (Do.cancS_len _ _).1)⟩
        · split
          · exact ⟨.inl rfl, Nat.zero_le _, Step1.ofM h (by simp; omega)⟩
          · exact ⟨.inr rfl, Nat.zero_le _, Step1.same h⟩
theorem exec_ok {R : List Int} {q : Cq} (h : CInv R q) {o : Nat} (ho : o < 4294967296) (u : Bool) (l : List Nat) : ((execS q o u l).v = 1 ∨ (execS q o u l).v = 2) ∧ (execS q o u l).r.length ≤ 1 ∧ Step1 R q (execS q o u l).q := by
  unfold execS
  split
  · exact ⟨.inr rfl, Nat.zero_le _, Step1.same h⟩
  · rename_i k hk
    have hw := (decS_some hk).2.2
    split
    · exact bwd_ok h hw
    · exact fwd_ok h ho hw
theorem decide_ok {R : List Int} {q : Cq} (h : CInv R q) {N : Note} (ho : N.order < 4294967296) (a : Nat) : ((decideS q a N).v = 1 ∨ (decideS q a N).v = 2) ∧ (decideS q a N).r.length ≤ 1 ∧ Step1 R q (decideS q a N).q ∧ (a = 3 → (decideS q a N).v = 2) ∧ (a = 4 → (decideS q a N).v = 1) := by
  unfold decideS
  split
  · rename_i e; exact ⟨.inr rfl, Nat.zero_le _, Step1.same h, fun _ => rfl, fun e' => by omega⟩
  · split
    · exact ⟨.inl rfl, Nat.zero_le _, Step1.same h, fun e' => by omega, fun _ => rfl⟩
    · obtain ⟨h1, h2, h3⟩ := exec_ok h ho N.undo N.data
      unfold effS
      split
      · refine ⟨h1, h2, ⟨h3.s, h3.p, h3.d, h3.f, h3.sl, h3.pl, h3.dl, ?_, h3.ml, h3.mx⟩, fun e' => by omega, fun e' => by omega⟩
        show ((execS q N.order N.undo N.data).q.E ++ [_]).length ≤ _
        rw [(exec_E q _ _ _).1]
        simp
      · exact ⟨h1, h2, h3, fun e' => by omega, fun e' => by omega⟩
theorem mayB_ok {a : Nat} {v : Int} (ha : a = 1 ∨ a = 3 ∨ a = 4) (h0 : v = 1 ∨ v = 2) (h3 : a = 3 → v = 2) (h4 : a = 4 → v = 1) : Fe.mayB a v = true := by
  unfold Fe.mayB
  split
  · rename_i e; rw [h3 e]; rfl
  · split
    · rename_i e; rw [h4 e]; rfl
    · simpa using h0
theorem keep_zero {ep n : Nat} {T : Nat → Kp} {N : Note} {a : Nat} {v : Int} {r : List Nat} (ha : a = 1 ∨ a = 3 ∨ a = 4) (h : Fe.askS ep n T N = ⟨a, Fe.kz, 0⟩) (hn : n ≠ 200) (hm : Fe.mayB a v = true) (hr : r.length ≤ 255) : Fe.keepE ep n T N v r = 0 := by
  unfold Fe.keepE
  rw [h]
  dsimp only
  rw [if_neg (by decide), if_neg (by rw [hm]; simp; omega), if_neg (by omega), if_neg hn]
theorem serve_hd {R : List Int} {q : Cq} (h : CInv R q) {N : Note} (ho : N.order < 4294967296) : ∀ a, (a = 1 ∨ a = 3 ∨ a = 4) → Fe.in64 (decideS q a N).v ∧ (decideS q a N).r.length ≤ 255 ∧ (Fe.askS q.f.ep q.f.n q.f.T N = ⟨a, Fe.kz, 0⟩ → q.f.n ≠ 200 → Fe.keepE q.f.ep q.f.n q.f.T N (decideS q a N).v (decideS q a N).r = 0) := by
  intro a ha
  obtain ⟨h1, h2, h3, h4, h5⟩ := decide_ok h ho a
  refine ⟨by unfold Fe.in64; omega, by omega, fun e hn => keep_zero ha e hn (mayB_ok ha h1 h4 h5) (by omega)⟩
/-- A new step: what is known of it. -/
theorem ask_new {ep n : Nat} {T : Nat → Kp} {N : Note} {a : Nat} (ha : a = 1 ∨ a = 3 ∨ a = 4) (h : Fe.askS ep n T N = ⟨a, Fe.kz, 0⟩) :
    Fe.okB n T = true ∧ Fe.reqB N = true ∧ ¬ N.epoch < ep ∧ Fe.has n T (Fe.nk N) = false ∧ Fe.actN n T N = a := by
  unfold Fe.askS at h
  split at h
  · rename_i c
    split at h
    · injection h with h1 h2 h3; omega
    · rename_i c2
      split at h
      · split at h
        · injection h with h1 h2 h3; omega
        · injection h with h1 h2 h3; omega
      · rename_i c3
        injection h with h1 h2 h3
        exact ⟨c.1, c.2, c2, by simpa using c3, h1⟩
  · injection h with h1 h2 h3; omega
theorem ask_again {ep n : Nat} {T : Nat → Kp} {N : Note} {k : Kp} (h : Fe.askS ep n T N = ⟨2, k, 0⟩) :
    Fe.okB n T = true ∧ Fe.reqB N = true ∧ ¬ N.epoch < ep ∧ ((Fe.has n T (Fe.nk N) = true ∧ k = T (Fe.pos T (Fe.nk N) n) ∧ k.a = N.data)) := by
  unfold Fe.askS at h
  split at h
  · rename_i c
    split at h
    · injection h with h1 h2 h3; cases h1
    · rename_i c2
      split at h
      · rename_i c3
        split at h
        · rename_i c4
          injection h with h1 h2 h3
          exact ⟨c.1, c.2, c2, c3, h2.symm, by rw [← h2]; exact c4⟩
        · injection h with h1 h2 h3; cases h1
      · injection h with h1 h2 h3
        unfold Fe.actN at h1
        split at h1
        · cases h1
        · split at h1 <;> cases h1
  · injection h with h1 h2 h3; cases h1
theorem ask_staleS {ep n : Nat} {T : Nat → Kp} {N : Note} (h : Fe.askS ep n T N = ⟨0, Fe.kz, 72⟩) : Fe.okB n T = true ∧ Fe.reqB N = true ∧ N.epoch < ep := by
  unfold Fe.askS at h
  split at h
  · rename_i c
    split at h
    · rename_i c2; exact ⟨c.1, c.2, c2⟩
    · split at h
      · split at h
        · injection h with h1 h2 h3; cases h3
        · injection h with h1 h2 h3; cases h3
      · injection h with h1 h2 h3; cases h3
  · injection h with h1 h2 h3; cases h3
theorem req_ok {N : Note} (h : Fe.reqB N = true) : N.kind = 7 ∧ 1 ≤ N.epoch ∧ 1 ≤ N.order ∧ 0 ≤ N.step ∧ N.step < 16 ∧ N.data.length ≤ 255 := by
  obtain ⟨h1, h2, h3, h4⟩ := Fe.req_small h
  unfold Fe.reqB at h
  simp only [Bool.and_eq_true, decide_eq_true_eq] at h
  obtain ⟨h5, h6, h7, h8⟩ := h
  exact ⟨h2, by omega, by omega, h3, h4, h1⟩
/-- What a served step comes to. -/
theorem serve_split {R : List Int} {q : Cq} (h : CInv R q) (N : Note) (ho : N.order < 4294967296) :
    (∃ c, (c = 1 ∨ c = 2 ∨ c = 3) ∧ serveS q N = ⟨noN q.f.ep c, q⟩) ∨
    (N.epoch < q.f.ep ∧ serveS q N = ⟨fenceN q.f.ep N, q⟩) ∨
    (∃ k, Fe.reqB N = true ∧ ¬ N.epoch < q.f.ep ∧ Fe.has q.f.n q.f.T (Fe.nk N) = true ∧ k = q.f.T (Fe.pos q.f.T (Fe.nk N) q.f.n) ∧ k.a = N.data ∧ serveS q N = ⟨doneN N k.c k.r, { q with f := ⟨N.epoch, q.f.n, q.f.T⟩ }⟩) ∨
    (∃ a, (a = 1 ∨ a = 3 ∨ a = 4) ∧ Fe.reqB N = true ∧ ¬ N.epoch < q.f.ep ∧ Fe.has q.f.n q.f.T (Fe.nk N) = false ∧ Fe.actN q.f.n q.f.T N = a ∧ q.f.n < 200 ∧
      serveS q N = ⟨doneN N (decideS q a N).v (decideS q a N).r, { (decideS q a N).q with f := ⟨N.epoch, q.f.n + 1, Fe.ins (Fe.pos q.f.T (Fe.nk N) q.f.n) (Fe.newK N (decideS q a N).v (decideS q a N).r) q.f.T⟩ }⟩) := by
  rcases ask_cases q.f.ep q.f.n q.f.T N with e | e | e | ⟨k, e, -⟩ | ⟨a, ha, e, -⟩
  · exact .inl ⟨1, .inl rfl, serve_bad e⟩
  · exact .inr (.inl ⟨(ask_staleS e).2.2, serve_stale e⟩)
  · exact .inl ⟨2, .inr (.inl rfl), serve_clash e⟩
  · obtain ⟨h1, h2, h3, h4, h5, h6⟩ := ask_again e
    exact .inr (.inr (.inl ⟨k, h2, h3, h4, h5, h6, by rw [serve_again e, (see_ok h1 h3).2]⟩))
  · obtain ⟨h1, h2, h3, h4, h5⟩ := ask_new ha e
    by_cases hn : q.f.n = 200
    · exact .inl ⟨3, .inr (.inr rfl), serve_full ha e hn⟩
    · refine .inr (.inr (.inr ⟨a, ha, h2, h3, h4, h5, by have := h.n; omega, ?_⟩))
      rw [serve_new ha e hn]
      unfold Fe.keepF
      rw [if_pos ((serve_hd h ho a ha).2.2 e hn)]
theorem CInv.serve {R : List Int} {q : Cq} (h : CInv R q) (N : Note) (ho : N.order < 4294967296) (he : N.epoch < 4294967296) : CInv R (serveS q N).q := by
  rcases serve_split h N ho with ⟨c, -, e⟩ | ⟨-, e⟩ | ⟨k, -, -, -, -, -, e⟩ | ⟨a, ha, hr, h3, h4, h5, hn, e⟩
  · rw [e]; exact h
  · rw [e]; exact h
  · rw [e]; exact ⟨h.s, h.p, h.d, h.ok, he, h.sl, h.pl, h.dl, h.el, h.ml, h.mx⟩
  · rw [e]
    obtain ⟨d1, d2, d3, d4, d5⟩ := decide_ok h ho a
    obtain ⟨r1, r2, r3, r4, r5, r6⟩ := req_ok hr
    have hv : Fe.vk (Fe.newK N (decideS q a N).v (decideS q a N).r) = true := (Fe.vk_iff _).2 ⟨r3, r4, by show N.step ≤ 15; omega, r6, by show (decideS q a N).r.length ≤ 255; omega, d1⟩
    have hok : Fe.okT (q.f.n + 1) (Fe.ins (Fe.pos q.f.T (Fe.nk N) q.f.n) (Fe.newK N (decideS q a N).v (decideS q a N).r) q.f.T) := ok_ins (x := Fe.newK N (decideS q a N).v (decideS q a N).r) h.ok hv hn h4
    refine ⟨d3.s, d3.p, d3.d, hok, (show N.epoch < 4294967296 from he), ?_, ?_, ?_, ?_, ?_, d3.mx⟩
    · have := d3.sl; have := h.sl; show (decideS q a N).q.s.H.length ≤ q.f.n + 1; omega
    · have := d3.pl; have := h.pl; show (decideS q a N).q.p.H.length ≤ q.f.n + 1; omega
    · have := d3.dl; have := h.dl; show (decideS q a N).q.d.H.length ≤ q.f.n + 1; omega
    · have := d3.el; have := h.el; show (decideS q a N).q.E.length ≤ q.f.n + 1; omega
    · have := d3.ml; have := h.ml; show (decideS q a N).q.M.length ≤ q.f.n + 1; omega
/-- Serve, where its answer is known as the chapter says. -/
theorem serve_crew {R : List Int} {b : CB} {q : Cq} (N : Note) (A1 A2 : Option Addr) (c1 c2 : Nat) (w : World) (h : CAt w b q) (hI : CInv R q) (hN : Fe.EntV w N A1 A2 c1 c2) (hs : Fe.in64 N.step) (hl : N.data.length ≤ 200000)
    (hNF : ∀ i, b.foot i → (Value.slice A1 N.key.length c1).ownBlock ≠ some i ∧ (Value.slice A2 N.data.length c2).ownBlock ≠ some i) :
    Calls Tryz.prog 23 #[.pointer (some ⟨b.c, 0, none⟩), .agg (Fe.evs N (.slice A1 N.key.length c1) (.slice A2 N.data.length c2))] w (SvPost w b (serveS q N)) :=
  serve_any N A1 A2 c1 c2 w h hI hN hs hl hNF (serve_hd hI hN.b.order)

end Go.Proofs.YtpbclmnhkmcknaaGreat

namespace Go.Proofs.YtpbclmnhkmcknaaGreat.Do
open Go.Proofs Go.Shelf Go.RowKit Go.Lib Go.Sort
set_option maxRecDepth 100000

end Go.Proofs.YtpbclmnhkmcknaaGreat.Do

namespace Go.Proofs.YtpbclmnhkmcknaaGreat.Do
open Go.Proofs Go.Shelf Go.RowKit Go.Lib Go.Sort
set_option maxRecDepth 100000
set_option linter.unusedVariables false
set_option linter.unusedSimpArgs false

def OrR (a : Int) (b : Int) (v : Value) : Prop := ∃ j : Nat, j ≤ 2 ∧ v = .int .i64 (j : Int) ∧ (1 ≤ j → a = 0) ∧ (2 ≤ j → b = 0)
end Go.Proofs.YtpbclmnhkmcknaaGreat.Do

namespace Go.Proofs.YtpbclmnhkmcknaaGreat.Do
open Go.Proofs Go.Shelf Go.RowKit Go.Lib Go.Sort
set_option maxRecDepth 100000
set_option linter.unusedVariables false
set_option linter.unusedSimpArgs false

section
variable {α : Type} (enc : α → List Value) (e : TypeId) (k : Nat)

/-- The cells of these elements. -/
def flat (l : List α) : List Value := l.flatMap enc
variable {enc} {k}
theorem flat_len (hk : ∀ x, (enc x).length = k) : ∀ l : List α, (flat enc l).length = l.length * k
  | [] => by simp [flat]
  | x :: r => by
    have := flat_len hk r
    unfold flat at this ⊢
    rw [List.flatMap_cons, List.length_append, this, hk, List.length_cons, Nat.add_mul]; omega
theorem flat_get (hk : ∀ x, (enc x).length = k) : ∀ (l : List α) (i : Nat) (hi : i < l.length) (j : Nat), j < k → (flat enc l)[i * k + j]? = (enc (l[i]'hi))[j]?
  | [], i, hi, _, _ => absurd hi (by simp)
  | x :: r, 0, hi, j, hj => by
    unfold flat
    rw [List.flatMap_cons, List.getElem?_append_left (by rw [hk]; omega)]
    simp
  | x :: r, i + 1, hi, j, hj => by
    have := flat_get hk r i (by simpa using hi) j hj
    unfold flat at this ⊢
    rw [List.flatMap_cons, List.getElem?_append_right (by rw [hk, Nat.add_mul]; omega), hk]
    rw [show (i + 1) * k + j - k = i * k + j from by rw [Nat.add_mul]; omega, this]
    simp
variable (enc) (k)
/-- The slice v owns a row, not below B, that reads as l. -/
def OwnE (w : World) (B : Nat) (v : Value) (l : List α) : Prop := w.ownsRow B e k v l.length (flat enc l)
variable {enc} {e} {k}

theorem OwnE.form {w : World} {B : Nat} {v : Value} {l : List α} (h : OwnE enc e k w B v l) :
    (v = .slice none 0 0 ∧ l = []) ∨ ∃ g cap cur, v = .slice (some ⟨g, 0, none⟩) l.length cap ∧ B ≤ g ∧ Lies w g e cur ∧ l.length ≤ cap ∧ cap ≤ maxLen ∧ cur.size = cap * k ∧ cur.toList.take (l.length * k) = flat enc l := by
  obtain ⟨_, h1 | ⟨g, cap, cur, hv, hb, hg, hn, hm, hs, ht⟩⟩ := h
  · exact .inl ⟨h1.1, List.eq_nil_of_length_eq_zero h1.2⟩
  · exact .inr ⟨g, cap, cur, hv, hb, hg, hn, hm, hs, ht⟩
theorem OwnE.nil (w : World) (B : Nat) : OwnE enc e k w B (.slice none 0 0) [] := ⟨by simp [flat], .inl ⟨rfl, rfl⟩⟩
theorem OwnE.block {w : World} {B : Nat} {v : Value} {l : List α} (h : OwnE enc e k w B v l) : ∀ b, v.ownBlock = some b → B ≤ b ∧ b < w.heap.size := by
  intro b hb
  rcases h.form with ⟨rfl, _⟩ | ⟨g, cap, cur, rfl, h1, h2, _⟩
  · cases hb
  · have : g = b := by simpa [Value.ownBlock] using hb
    subst this
    exact ⟨h1, h2.lt⟩
theorem OwnE.same {w w' : World} {B : Nat} {v : Value} {l : List α} (h : OwnE enc e k w B v l) (hb : ∀ b, v.ownBlock = some b → w'.heap[b]? = w.heap[b]?) : OwnE enc e k w' B v l := by
  obtain ⟨h0, h1⟩ := h
  refine ⟨h0, ?_⟩
  rcases h1 with h1 | ⟨g, cap, cur, rfl, r1, r2, r3⟩
  · exact .inl h1
  · exact .inr ⟨g, cap, cur, rfl, r1, (hb g rfl).trans r2, r3⟩
theorem OwnE.below {w w' : World} {B : Nat} {v : Value} {l : List α} (h : OwnE enc e k w B v l) (hb : Below w.heap.size w w') : OwnE enc e k w' B v l :=
  h.same fun b hv => hb.block b (h.block b hv).2
theorem OwnE.alloc {w : World} {B : Nat} {v : Value} {l : List α} (h : OwnE enc e k w B v l) (o : Obj) : OwnE enc e k (w.alloc o) B v l := h.below (below1 w o)
end

end Go.Proofs.YtpbclmnhkmcknaaGreat.Do

namespace Go.Proofs.YtpbclmnhkmcknaaGreat.Do
open Go.Proofs Go.Shelf Go.RowKit Go.Lib Go.Sort
set_option maxRecDepth 100000
set_option linter.unusedVariables false
set_option linter.unusedSimpArgs false

def encI (z : Int) : List Value := [.int .i64 z]
theorem encI_len (x : Int) : (encI x).length = 1 := rfl
theorem encI_one (x : Int) : ∀ v ∈ encI x, v.oneCell' = true := by
  intro v hv
  simp [encI] at hv
  subst hv
  rfl
abbrev OwnI (w : World) (B : Nat) (v : Value) (l : List Int) : Prop := OwnE encI 3 1 w B v l
def SortPost {α : Type} (lt : α → α → Bool) (own : World → Value → List α → Prop) (w : World) (v : Value) (l : List α) (e : Ending) (w' : World) : Prop :=
  e = .returned (.tuple #[]) ∧ ∃ l', l'.Perm l ∧ l'.Pairwise (fun x y => lt y x = false) ∧ own w' v l' ∧ w.grownBy w' v.ownBlock

end Go.Proofs.YtpbclmnhkmcknaaGreat.Do

namespace Go.Proofs.YtpbclmnhkmcknaaGreat.Do
open Go.Proofs Go.RowKit Go.Maps
set_option maxRecDepth 100000
set_option linter.unusedVariables false
set_option linter.unusedSimpArgs false

section
variable {α : Type} {enc : α → List Value} {e : TypeId} {k : Nat}
/-- 'append' of many elements. -/
theorem wpl_appN (t : TypeId) (inf : TypeInfo) (z : Value) (by_ : Nat) (ht : Tryz.prog.underlying t = some (.slice e)) (hi : Tryz.prog.info? e = some inf) (hz : inf.zero = some z) (hsz : inf.size = k) (hby : inf.bytes = by_) (hzs : z.cells.size = k) (hk0 : 0 < k) (hb48 : by_ ≤ 1000)
    (hk : ∀ x, (enc x).length = k) (h1c : ∀ x, ∀ v ∈ enc x, v.oneCell' = true)
    {ops : Array Oper} {rest : List Oper} {a : Act} {w : World} {Q : Exit → Act → World → Prop} (dst : Option Tmp) (ty : TypeId) (pos : String) (aft : Array Edge) (s x : Operand)
    (B : Nat) (v : Value) (l y : List α) (b o c m : Nat) (hm : y.length = m)
    (hs : a.eval s = v) (hx : a.eval x = .slice (some ⟨b, o, none⟩) m c) (hown : OwnE enc e k w B v l) (hsrc : ∀ (i : Nat) (hi : i < y.length) (j : Nat), j < k → w.cell? ⟨b, o + i * k + j, none⟩ = (enc y[i])[j]?) (hsm : l.length + y.length ≤ 100000) (hB : B ≤ w.heap.size)
    (h : ∀ v' w', OwnE enc e k w' B v' (l ++ y) → w.grownBy w' v.ownBlock → (v'.ownBlock = v.ownBlock ∨ v'.ownBlock = some w.heap.size) → wpList Tryz.prog ops Q rest (a.put dst v') w') :
    wpList Tryz.prog ops Q (⟨dst, .call { callee := .builtin .append, args := #[s, x], argTypes := #[t, t] }, ty, pos, aft, none⟩ :: rest) a w := by
  subst hm
  refine wpList_append_own_at (w := w) (o := ⟨dst, .call { callee := .builtin .append, args := #[s, x], argTypes := #[t, t] }, ty, pos, aft, none⟩) rfl s x t rfl B e inf z k by_ ht hi hz hsz hby hzs hk0 v l.length (flat enc l) hs hown
    ⟨b, o, none⟩ y.length c (flat enc y) hx (flat_len hk y) (fun j u hu => ?_) (fun u hu => ?_) (by unfold maxLen; omega) ?_ hB ?_
  · have hj : j < y.length * k := by have := (List.getElem?_eq_some_iff.1 hu).1; rwa [flat_len hk] at this
    have hq : j / k < y.length := Nat.div_lt_of_lt_mul (by rw [Nat.mul_comm]; exact hj)
    have hm : j % k < k := Nat.mod_lt _ hk0
    have hjj : j / k * k + j % k = j := by rw [Nat.mul_comm]; exact Nat.div_add_mod j k
    have e := flat_get hk y (j / k) hq (j % k) hm
    rw [hjj, hu] at e
    rw [Addr.add_mid]
    have := hsrc (j / k) hq (j % k) hm
    rw [Nat.add_assoc, hjj] at this
    rw [this]
    exact e.symm
  · obtain ⟨z, -, hz⟩ := List.mem_flatMap.1 hu
    exact h1c z u hz
  · have : (l.length + y.length) * by_ ≤ 100000 * 1000 := Nat.mul_le_mul hsm hb48
    omega
  · intro v' w' r1 r2 _ r4
    refine h v' w' ?_ r2 r4
    show w'.ownsRow B e k v' (l ++ y).length (flat enc (l ++ y))
    rw [List.length_append, show flat enc (l ++ y) = flat enc l ++ flat enc y from by simp [flat]]
    exact r1
end
theorem wpl_appIs {ops : Array Oper} {rest : List Oper} {a : Act} {w : World} {Q : Exit → Act → World → Prop} (dst : Option Tmp) (ty : TypeId) (pos : String) (aft : Array Edge) (s x : Operand)
    (B : Nat) (v : Value) (l y : List Int) (b o c m : Nat) (hm : y.length = m)
    (hs : a.eval s = v) (hx : a.eval x = .slice (some ⟨b, o, none⟩) m c) (hown : OwnI w B v l) (hsrc : ∀ (i : Nat) (hi : i < y.length) (j : Nat), j < 1 → w.cell? ⟨b, o + i * 1 + j, none⟩ = (encI y[i])[j]?) (hsm : l.length + y.length ≤ 100000) (hB : B ≤ w.heap.size)
    (h : ∀ v' w', OwnI w' B v' (l ++ y) → w.grownBy w' v.ownBlock → (v'.ownBlock = v.ownBlock ∨ v'.ownBlock = some w.heap.size) → wpList Tryz.prog ops Q rest (a.put dst v') w') :
    wpList Tryz.prog ops Q (⟨dst, .call { callee := .builtin .append, args := #[s, x], argTypes := #[41, 41] }, ty, pos, aft, none⟩ :: rest) a w :=
  wpl_appN 41 _ _ 8 Tryz.underlying41 Tryz.type3 rfl rfl rfl rfl (by decide) (by decide) encI_len encI_one dst ty pos aft s x B v l y b o c m hm hs hx hown hsrc hsm hB h
/-! 'append' of nothing -/
end Go.Proofs.YtpbclmnhkmcknaaGreat.Do

namespace Go.Proofs.YtpbclmnhkmcknaaGreat
open Go.RowKit
open Fe (Lies Own Bys Reads NF Kx Kp Note)
set_option maxRecDepth 100000
set_option linter.unusedVariables false
set_option linter.unusedSimpArgs false

theorem wpl_appN68 {ops : Array Oper} {rest : List Oper} {a : Act} {w : World} {Q : Exit → Act → World → Prop} (dst : Option Tmp) (ty : TypeId) (pos : String) (aft : Array Edge) (s x : Operand)
    (B : Nat) (v : Value) (l y : List Ef) (b o c m : Nat) (hm : y.length = m)
    (hs : a.eval s = v) (hx : a.eval x = .slice (some ⟨b, o, none⟩) m c) (hown : OwnF w B v l) (hsrc : ∀ (i : Nat) (hi : i < y.length) (j : Nat), j < 3 → w.cell? ⟨b, o + i * 3 + j, none⟩ = (encF y[i])[j]?) (hsm : l.length + y.length ≤ 100000) (hB : B ≤ w.heap.size)
    (h : ∀ v' w', OwnF w' B v' (l ++ y) → w.grownBy w' v.ownBlock → (v'.ownBlock = v.ownBlock ∨ v'.ownBlock = some w.heap.size) → wpList Tryz.prog ops Q rest (a.put dst v') w') :
    wpList Tryz.prog ops Q (⟨dst, .call { callee := .builtin .append, args := #[s, x], argTypes := #[68, 68] }, ty, pos, aft, none⟩ :: rest) a w :=
  Do.wpl_appN (enc := encF) (e := 83) (k := 3) 68 _ _ 24 Tryz.underlying68 Tryz.type83 rfl rfl rfl rfl (by decide) (by decide) encF_len encF_one dst ty pos aft s x B v l y b o c m hm hs hx hown hsrc hsm hB h
theorem wpl_appN69 {ops : Array Oper} {rest : List Oper} {a : Act} {w : World} {Q : Exit → Act → World → Prop} (dst : Option Tmp) (ty : TypeId) (pos : String) (aft : Array Edge) (s x : Operand)
    (B : Nat) (v : Value) (l y : List Sl) (b o c m : Nat) (hm : y.length = m)
    (hs : a.eval s = v) (hx : a.eval x = .slice (some ⟨b, o, none⟩) m c) (hown : OwnV w B v l) (hsrc : ∀ (i : Nat) (hi : i < y.length) (j : Nat), j < 1 → w.cell? ⟨b, o + i * 1 + j, none⟩ = (encV y[i])[j]?) (hsm : l.length + y.length ≤ 100000) (hB : B ≤ w.heap.size)
    (h : ∀ v' w', OwnV w' B v' (l ++ y) → w.grownBy w' v.ownBlock → (v'.ownBlock = v.ownBlock ∨ v'.ownBlock = some w.heap.size) → wpList Tryz.prog ops Q rest (a.put dst v') w') :
    wpList Tryz.prog ops Q (⟨dst, .call { callee := .builtin .append, args := #[s, x], argTypes := #[69, 69] }, ty, pos, aft, none⟩ :: rest) a w :=
  Do.wpl_appN (enc := encV) (e := 22) (k := 1) 69 _ _ 24 Tryz.underlying69 Tryz.type22 rfl rfl rfl rfl (by decide) (by decide) encV_len encV_one dst ty pos aft s x B v l y b o c m hm hs hx hown hsrc hsm hB h

theorem run_nilS68 (a : Option Addr) (n c : Nat) (w : World) : (binOp .eql 68 (.slice a n c) (.slice none 0 0)).run Tryz.prog w = .ok (.bool a.isNone) w := by
  have h := run_equal_slice_nil (P := Tryz.prog) w 68 83 a n c Tryz.underlying68
  simp only [binOp, Sem.run_bind, h, Result.andThen_ok, Sem.run_pure]
theorem OwnF_made0 (w : World) : OwnF (w.alloc (.cells #[] 83)) w.heap.size (.slice (some ⟨w.heap.size, 0, none⟩) 0 0) [] :=
  World.ownsRow_made w #[] 0 (Nat.le_refl _) (by unfold maxLen; omega) rfl
set_option maxHeartbeats 1000000 in
theorem cloneF_any {B : Nat} {v : Value} {l : List Ef} (w : World) (h : OwnF w B v l) (hl : l.length ≤ 1000) :
    Calls Tryz.prog 75 #[v] w fun x w' => ∃ v', x = .returned v' ∧ OwnF w' w.heap.size v' l ∧ Below w.heap.size w w' := by
  rcases St.OwnE.form h with ⟨rfl, rfl⟩ | ⟨g, cap, cur, rfl, h1, h2, h3, h4, h5, h6⟩
  · have hq := run_nilS68 none 0 0
    rw [show (none : Option Addr).isNone = true from rfl] at hq
    clear h
    go_enter Tryz.func75, Tryz.ntmps75
    go_wp2
    go_ret
    exact ⟨_, rfl, St.OwnE.nil _ _, Below.refl _ _⟩
  · have hq := run_nilS68 (some ⟨g, 0, none⟩) l.length cap
    rw [show (some (⟨g, 0, none⟩ : Addr)).isNone = false from rfl] at hq
    have HO := Lib.hid (OwnF_made0 w)
    have HB := Lib.hid (Fe.below1 w (.cells #[] 83))
    have HBZ : Hid (w.heap.size ≤ (w.alloc (.cells #[] 83)).heap.size) := Lib.hid (by simp)
    have HLL := Lib.hid (Eq.refl l.length)
    have HSRC : Hid (∀ (i : Nat) (hi : i < l.length) (j : Nat), j < 3 → (w.alloc (.cells #[] 83)).cell? ⟨g, 0 + i * 3 + j, none⟩ = (encF l[i])[j]?) := Lib.hid (fun i hi j hj => by
      obtain ⟨g', e1, -, -, hc⟩ := (St.OwnE.cell h encF_len).2.2.2.2 i hi
      injection e1 with e1
      injection e1 with e1
      subst e1
      have := HB.out.cell (p := ⟨g, i * 3 + j, none⟩) h2.lt
      rw [Nat.zero_add, this]
      exact (hc j hj).1)
    have HSM : Hid (([] : List Ef).length + l.length ≤ 100000) := Lib.hid (by simp; omega)
    clear h h1 h2 h3 h4 h5 h6
    go_enter Tryz.func75, Tryz.ntmps75
    go_wp2_with (first
      | ((with_reducible refine wpl_appN68 (some 7) _ _ _ (.tmp 5) (.tmp 6) w.heap.size (.slice (some ⟨w.heap.size, 0, none⟩) 0 0) [] l g 0 cap l.length HLL.out ?hs ?hx HO.out HSRC.out HSM.out HBZ.out ?_); (case hs => rfl); (case hx => rfl); (intro v4 w4 ho4 hg4 hb4)))
    go_ret
    exact ⟨_, rfl, ho4, HB.out.grown hg4 HBZ.out (fun q hq => by
      have e : w.heap.size = q := by simpa [Value.ownBlock] using hq
      exact Nat.le_of_eq e)⟩

theorem run_nilS69 (a : Option Addr) (n c : Nat) (w : World) : (binOp .eql 69 (.slice a n c) (.slice none 0 0)).run Tryz.prog w = .ok (.bool a.isNone) w := by
  have h := run_equal_slice_nil (P := Tryz.prog) w 69 22 a n c Tryz.underlying69
  simp only [binOp, Sem.run_bind, h, Result.andThen_ok, Sem.run_pure]
theorem OwnV_made0 (w : World) : OwnV (w.alloc (.cells #[] 22)) w.heap.size (.slice (some ⟨w.heap.size, 0, none⟩) 0 0) [] :=
  World.ownsRow_made w #[] 0 (Nat.le_refl _) (by unfold maxLen; omega) rfl
set_option maxHeartbeats 1000000 in
theorem cloneV_any {B : Nat} {v : Value} {l : List Sl} (w : World) (h : OwnV w B v l) (hl : l.length ≤ 1000) :
    Calls Tryz.prog 73 #[v] w fun x w' => ∃ v', x = .returned v' ∧ OwnV w' w.heap.size v' l ∧ Below w.heap.size w w' := by
  rcases St.OwnE.form h with ⟨rfl, rfl⟩ | ⟨g, cap, cur, rfl, h1, h2, h3, h4, h5, h6⟩
  · have hq := run_nilS69 none 0 0
    rw [show (none : Option Addr).isNone = true from rfl] at hq
    clear h
    go_enter Tryz.func73, Tryz.ntmps73
    go_wp2
    go_ret
    exact ⟨_, rfl, St.OwnE.nil _ _, Below.refl _ _⟩
  · have hq := run_nilS69 (some ⟨g, 0, none⟩) l.length cap
    rw [show (some (⟨g, 0, none⟩ : Addr)).isNone = false from rfl] at hq
    have HO := Lib.hid (OwnV_made0 w)
    have HB := Lib.hid (Fe.below1 w (.cells #[] 22))
    have HBZ : Hid (w.heap.size ≤ (w.alloc (.cells #[] 22)).heap.size) := Lib.hid (by simp)
    have HLL := Lib.hid (Eq.refl l.length)
    have HSRC : Hid (∀ (i : Nat) (hi : i < l.length) (j : Nat), j < 1 → (w.alloc (.cells #[] 22)).cell? ⟨g, 0 + i * 1 + j, none⟩ = (encV l[i])[j]?) := Lib.hid (fun i hi j hj => by
      obtain ⟨g', e1, -, -, hc⟩ := (St.OwnE.cell h encV_len).2.2.2.2 i hi
      injection e1 with e1
      injection e1 with e1
      subst e1
      have := HB.out.cell (p := ⟨g, i * 1 + j, none⟩) h2.lt
      rw [Nat.zero_add, this]
      exact (hc j hj).1)
    have HSM : Hid (([] : List Sl).length + l.length ≤ 100000) := Lib.hid (by simp; omega)
    clear h h1 h2 h3 h4 h5 h6
    go_enter Tryz.func73, Tryz.ntmps73
    go_wp2_with (first
      | ((with_reducible refine wpl_appN69 (some 7) _ _ _ (.tmp 5) (.tmp 6) w.heap.size (.slice (some ⟨w.heap.size, 0, none⟩) 0 0) [] l g 0 cap l.length HLL.out ?hs ?hx HO.out HSRC.out HSM.out HBZ.out ?_); (case hs => rfl); (case hx => rfl); (intro v4 w4 ho4 hg4 hb4)))
    go_ret
    exact ⟨_, rfl, ho4, HB.out.grown hg4 HBZ.out (fun q hq => by
      have e : w.heap.size = q := by simpa [Value.ownBlock] using hq
      exact Nat.le_of_eq e)⟩

set_option maxHeartbeats 1000000 in
theorem epoch_crew {b : CB} {q : Cq} (w : World) (h : CAt w b q) : Calls Tryz.prog 26 #[.pointer (some ⟨b.c, 0, none⟩)] w fun x w' => x = .returned (.int .u32 (q.f.ep : Int)) ∧ w = w' := by
  obtain ⟨c0, c1, c2, c3, c4, c5, c6⟩ := Lies_cells7 h.c
  clear h
  go_enter Tryz.func26, Tryz.ntmps26
  go_wp2
  go_ret
  exact ⟨rfl, rfl⟩

set_option maxHeartbeats 1000000 in
theorem effects_crew {R : List Int} {b : CB} {q : Cq}  (w : World) (h : CAt w b q) (hI : CInv R q) : Calls Tryz.prog 29 #[.pointer (some ⟨b.c, 0, none⟩)] w fun x w' => ∃ v, x = .returned v ∧ OwnF w' w.heap.size v q.E ∧ Below w.heap.size w w' := by
  obtain ⟨c0, c1, c2, c3, c4, c5, c6⟩ := Lies_cells7 h.c
  have C := Lib.hid (cloneF_any w h.e (by have h1 := hI.el; have h2 := hI.n; omega))
  clear h hI
  go_enter Tryz.func29, Tryz.ntmps29
  go_wp2_with fail
  with_reducible refine C.out.mono ?_
  rintro x w1 ⟨v, rfl, ho, hb⟩
  go_wp2
  go_ret
  exact ⟨_, rfl, ho, hb⟩

set_option maxHeartbeats 1000000 in
theorem goods_crew {R : List Int} {b : CB} {q : Cq}  (w : World) (h : CAt w b q) (hI : CInv R q) : Calls Tryz.prog 32 #[.pointer (some ⟨b.c, 0, none⟩)] w fun x w' => ∃ v, x = .returned v ∧ St.OwnG w' w.heap.size v (St.goodsL q.s.K) ∧ Below w.heap.size w w' := by
  obtain ⟨c0, c1, c2, c3, c4, c5, c6⟩ := Lies_cells7 h.c
  have C := Lib.hid (St.goods_any b.s q.s w h.s hI.s.ks (by have h1 := hI.s.kz; omega))
  clear h hI
  go_enter Tryz.func32, Tryz.ntmps32
  go_wp2_with fail
  with_reducible refine C.out.mono ?_
  rintro x w1 ⟨v, rfl, ho, hb⟩
  go_wp2
  go_ret
  exact ⟨_, rfl, ho, hb⟩

set_option maxHeartbeats 1000000 in
theorem accts_crew {R : List Int} {b : CB} {q : Cq}  (w : World) (h : CAt w b q) (hI : CInv R q) : Calls Tryz.prog 35 #[.pointer (some ⟨b.c, 0, none⟩)] w fun x w' => ∃ v, x = .returned v ∧ Pu.OwnG w' w.heap.size v q.p.K ∧ Below w.heap.size w w' := by
  obtain ⟨c0, c1, c2, c3, c4, c5, c6⟩ := Lies_cells7 h.c
  have C := Lib.hid (Pu.accts_any b.p q.p w h.p hI.p.ks (by have h1 := hI.p.kz; omega))
  clear h hI
  go_enter Tryz.func35, Tryz.ntmps35
  go_wp2_with fail
  with_reducible refine C.out.mono ?_
  rintro x w1 ⟨v, rfl, ho, hb⟩
  go_wp2
  go_ret
  exact ⟨_, rfl, ho, hb⟩

end Go.Proofs.YtpbclmnhkmcknaaGreat

namespace Go.Proofs.YtpbclmnhkmcknaaGreat.Fe
open Go.RowKit
set_option maxRecDepth 100000
set_option linter.unusedSimpArgs false
set_option linter.unusedVariables false

/-- A field: its size, its number, its text. -/
structure Fld where
  size : Nat
  n : Nat
  T : Value
  t : List Nat
def Fld.cells (f : Fld) : List Value := [.int .i64 (f.size : Nat), .int .u64 (f.n : Nat), f.T]
def Fld.enc (f : Fld) : List Nat := if f.size = 0 then Ent.txt f.t else Ent.be f.size f.n
/-- It may be a field, and lies there. -/
structure Fld.Good (w : World) (f : Fld) : Prop where
  s : f.size = 0 ∨ f.size = 1 ∨ f.size = 4 ∨ f.size = 8
  n : f.n < 256 ^ f.size
  T : ∃ A c, f.T = .slice A f.t.length c ∧ Bys w A f.t.length f.t ∧ (A = none → c = 0)
  t : f.size ≠ 0 → f.t = []
  l : f.t.length ≤ 255
abbrev num (s n : Nat) : Fld := ⟨s, n, .slice none 0 0, []⟩

end Go.Proofs.YtpbclmnhkmcknaaGreat.Fe

namespace Go.Proofs.YtpbclmnhkmcknaaGreat.Fe
open Go.RowKit
set_option maxRecDepth 100000


/-- The j lowest bytes of n, the lowest first. -/
def lel (j n : Nat) : List Nat := (List.range j).map fun i => n / 256 ^ i % 256
theorem lel_len (j n : Nat) : (lel j n).length = j := by simp [lel]
theorem lel_succ (j n : Nat) : lel (j + 1) n = lel j n ++ [n / 256 ^ j % 256] := by
  unfold lel; rw [List.range_succ, List.map_append]; rfl
theorem lel_at (j n i : Nat) (h : i < j) : (lel j n).getD i 0 = n / 256 ^ i % 256 := by simp [lel, List.getD, h]
theorem be_at (k n i : Nat) (h : i < k) : (Ent.be k n).getD i 0 = n / 256 ^ (k - 1 - i) % 256 := by
  simp [Ent.be, List.getD, h]
  rw [show (256 : Nat) = 2 ^ 8 from rfl, ← Nat.pow_mul]

def Nu1R (w : World) (n k : Nat) (x v i : Value) (wr : World) : Prop :=
  ∃ j : Nat, j ≤ k ∧ i = .int .i64 j ∧ x = .int .u64 (n / 256 ^ j : Nat) ∧ Own wr w.heap.size v (lel j n) ∧ Below w.heap.size w wr
def Nu2R (w2 : World) (n k : Nat) (v i : Value) (wr : World) : Prop :=
  ∃ j : Nat, j ≤ k ∧ i = .int .i64 ((j : Int) - 1) ∧ Own wr w2.heap.size v ((Ent.be k n).take (k - j)) ∧ Below w2.heap.size w2 wr
def NumPost (w : World) (n k : Nat) (e : Ending) (w' : World) : Prop := ∃ v, e = .returned v ∧ Own w' w.heap.size v (Ent.be k n) ∧ Below w.heap.size w w'

set_option maxHeartbeats 1000000 in
theorem num_any (n k : Nat) (w : World) (hk : k ≤ 8) (hn : n ≤ 18446744073709551615) :
    Calls Tryz.prog 122 #[.int .u64 n, .int .i64 k] w (NumPost w n k) := by
  go_enter Tryz.func122, Tryz.ntmps122
  go_wp2_with fail
  go_loopw [0, 5, 6] (Nu1R w n k) (fun _ _ i _ => k - (intOf i).toNat)
  case atStart => exact ⟨0, by omega, rfl, val_int (by rw [Nat.pow_zero, Nat.div_one]), Own.nil _ _, Below.refl _ _⟩
  case round =>
    obtain ⟨j, hj, rfl, rfl, hO, hbel⟩ := hrel
    have hxl : n / 256 ^ j ≤ 18446744073709551615 := Nat.le_trans (Nat.div_le_self _ _) hn
    have hsu := lel_succ j n
    have hll := lel_len j n
    by_cases hlt : j < k
    · have hdiv : n / 256 ^ (j + 1) = n / 256 ^ j / 256 := by rw [Nat.pow_succ, Nat.div_div_eq_div_mul]
      generalize n / 256 ^ j = x at *
      have hx : x % 256 < 256 := Nat.mod_lt _ (by decide)
      have HO := Lib.hid hO
      have HSU := Lib.hid hsu
      have HDIV := Lib.hid hdiv
      have HLL := Lib.hid hll
      clear hO hsu hdiv hll
      have hbys : ∀ W : World, Bys (W.alloc (.cells #[.int .u8 ((x : Int) % 256)] 5)) (some ⟨W.heap.size, 0, none⟩) 1 [x % 256] := fun W => Bys.const W _ [x % 256] (0, 0) 1 (by simp) rfl (by simpa using hx)
      have HBYS := Lib.hid hbys
      clear hbys
      go_wp2_with (first
        | ((with_reducible refine wpl_append (some 19) _ _ _ (.tmp 14) (.tmp 18) w.heap.size _ (lel j n) (some ⟨wr.heap.size, 0, none⟩) 1 1 [x % 256] ?hs ?hx (HO.out.alloc _) (HBYS.out _) ?ha ?hm ?hz ?_); (case hs => rfl); (case hx => rfl); (case ha => (intro h; cases h)); (case hm => (rw [HLL.out]; omega)); (case hz => exact Nat.le_trans hbel.size (by simp)); (intro v' w' ho hg hv)))
      go_roundw
      case rel => exact ⟨j + 1, by omega, by go_num, val_int (by rw [HDIV.out]; omega), by rw [HSU.out]; exact ho, (HO.out.alloc _).grows hg (hbel.alloc hbel.size _) (Nat.le_refl _) (Nat.le_trans hbel.size (by simp))⟩
      case measure => simp [intOf]; omega
    · have hjk : j = k := by omega
      subst hjk
      obtain ⟨A, c, rfl, hB, _, _, _⟩ := hO.slice
      rw [hll] at hB ⊢
      have HB := Lib.hid hB
      clear hO hB hsu hll hxl
      generalize n / 256 ^ j = x0
      obtain ⟨w2, hw2⟩ : ∃ w2, w2 = wr := ⟨wr, rfl⟩
      subst hw2
      go_wp2_with fail
      go_loopw [7, 8] (Nu2R w2 n j) (fun _ i _ => ((intOf i) + 1).toNat)
      case atStart => exact ⟨j, Nat.le_refl _, rfl, by rw [Nat.sub_self, List.take_zero]; exact Own.nil _ _, Below.refl _ _⟩
      case round =>
        obtain ⟨i, hi, rfl, hO, hb2⟩ := hrel
        rcases i with _ | i
        · rw [show ((0 : Nat) : Int) - 1 = -1 from rfl]
          rw [Nat.sub_zero, List.take_of_length_le (by rw [Ent.be_len]; exact Nat.le_refl _)] at hO
          have HO := Lib.hid hO
          clear hO
          go_wp2
          go_ret
          exact ⟨_, rfl, HO.out.mono hbel.size, hbel.trans (hb2.mono hbel.size)⟩
        · rw [show ((i + 1 : Nat) : Int) - 1 = (i : Int) from by omega]
          obtain ⟨b, off, rfl, hc⟩ := HB.out.2.2 (by omega)
          have hci := hc i (by omega)
          rw [lel_at j n i (by omega)] at hci
          have hcw := (hb2.cell (block_lt_of_cell hci)).trans hci
          have htk : (Ent.be j n).take (j - i) = (Ent.be j n).take (j - (i + 1)) ++ [n / 256 ^ i % 256] := by
            rw [show j - i = j - (i + 1) + 1 by omega, take_one _ _ (by rw [Ent.be_len]; omega), be_at j n _ (by omega), show j - 1 - (j - (i + 1)) = i by omega]
          have hy : n / 256 ^ i % 256 < 256 := Nat.mod_lt _ (by decide)
          have htl : ((Ent.be j n).take (j - (i + 1))).length ≤ 8 := by rw [List.length_take, Ent.be_len]; omega
          generalize n / 256 ^ i % 256 = y at *
          have HO := Lib.hid hO
          have HTK := Lib.hid htk
          clear hO htk hc hci
          go_wp2_with (first
            | ((with_reducible refine wpl_append (some 34) _ _ _ (.tmp 28) (.tmp 33) w2.heap.size _ ((Ent.be j n).take (j - (i + 1))) (some ⟨wr.heap.size, 0, none⟩) 1 1 [y] ?hs ?hx (HO.out.alloc _) (Bys.const wr _ [y] (0, 0) 1 rfl rfl ?hb) ?ha ?hm ?hz ?_); (case hs => rfl); (case hx => rfl); (case hb => (simp; omega)); (case ha => (intro h; cases h)); (case hm => omega); (case hz => exact Nat.le_trans hb2.size (by simp)); (intro v' w' ho hg hv)))
          go_roundw
          case rel => exact ⟨i, by omega, rfl, by rw [HTK.out]; exact ho, (HO.out.alloc _).grows hg (hb2.alloc hb2.size _) (Nat.le_refl _) (Nat.le_trans hb2.size (by simp))⟩
          case measure => simp [intOf]


end Go.Proofs.YtpbclmnhkmcknaaGreat.Fe

namespace Go.Proofs.YtpbclmnhkmcknaaGreat.Fe
open Go.RowKit
set_option maxRecDepth 100000
set_option linter.unusedVariables false

def OnePost (l : List Nat) (w : World) (x : Ending) (w' : World) : Prop :=
  ∃ v, x = .returned (.tuple #[v, .int .i64 0]) ∧ Own w' w.heap.size v l ∧ Below w.heap.size w w'

set_option maxRecDepth 100000 in
set_option maxHeartbeats 1000000 in
theorem one_text (A : Option Addr) (c : Nat) (t : List Nat) (w : World) (hB : Bys w A t.length t) (hA : A = none → c = 0) (hl : t.length ≤ 255) :
    Calls Tryz.prog 83 #[.agg #[.int .i64 0, .int .u64 0, .slice A t.length c]] w (OnePost (Ent.txt t) w) := by
  obtain ⟨n, hn⟩ : ∃ n, t.length = n := ⟨_, rfl⟩
  rw [hn] at hB hl ⊢
  have HB := Lib.hid hB
  have HA := Lib.hid hA
  have hown : Own ((w.alloc (.cells #[.int .i64 0, .int .u64 0, .slice A n c] 101)).alloc (.cells #[.int .u8 (n : Nat)] 5)) w.heap.size (.slice (some ⟨w.heap.size + 1, 0, none⟩) 1 1) [n] :=
    Own.made (l := [n]) (Lies.made2 w _ 5 _) (by omega) (by simp; omega) (by unfold maxLen; simp)
  have HO := Lib.hid hown
  have hb2 := below2 w (.cells #[.int .i64 0, .int .u64 0, .slice A n c] 101) (.cells #[.int .u8 (n : Nat)] 5)
  have HB2 := Lib.hid (HB.out.below hb2)
  have HBB := Lib.hid hb2
  have he : Ent.txt t = [n] ++ t := by unfold Ent.txt; rw [hn, Ent.be_one n (by omega)]
  have HEE := Lib.hid he
  clear hB hA hown hb2 he hn
  go_enter Tryz.func83, Tryz.ntmps83
  go_wp2_with (first
    | ((with_reducible refine wpl_append (some 24) _ _ _ (.tmp 21) (.tmp 23) w.heap.size (.slice (some ⟨w.heap.size + 1, 0, none⟩) 1 1) [n] A n c t ?hs ?hx HO.out HB2.out HA.out ?hm ?hz ?_); (case hs => rfl); (case hx => rfl); (case hm => (simp; omega)); (case hz => (simp; omega)); (intro v' w' ho hg hv); (have HO2 := Lib.hid ho); (have HG := Lib.hid hg); (clear ho hg hv)))
  go_ret2
  exact ⟨_, rfl, by rw [HEE.out]; exact HO2.out, HO.out.grows HG.out HBB.out (Nat.le_refl _) HBB.out.size⟩

set_option maxRecDepth 100000 in
set_option maxHeartbeats 1000000 in
theorem one_1 (n : Nat) (w : World) (hn : n < 256) : Calls Tryz.prog 83 #[.agg #[.int .i64 1, .int .u64 (n : Nat), .slice none 0 0]] w (OnePost (Ent.be 1 n) w) := by
  have C1 := Lib.hid (fun W => num_any n 1 W (by omega) (by omega))
  rw [show ((1 : Nat) : Int) = 1 from rfl] at C1
  go_enter Tryz.func83, Tryz.ntmps83
  go_wp2_with fail
  with_reducible refine (C1.out _).mono ?_
  rintro x w1 ⟨v, rfl, hO, hb⟩
  have HO := Lib.hid hO
  clear hO
  go_wp2
  go_ret2
  exact ⟨v, rfl, HO.out.mono (by simp), ((Below.refl w.heap.size w).alloc (Nat.le_refl _) _).trans (hb.mono (by simp))⟩
set_option maxRecDepth 100000 in
set_option maxHeartbeats 1000000 in
theorem one_4 (n : Nat) (w : World) (hn : n < 4294967296) : Calls Tryz.prog 83 #[.agg #[.int .i64 4, .int .u64 (n : Nat), .slice none 0 0]] w (OnePost (Ent.be 4 n) w) := by
  have C1 := Lib.hid (fun W => num_any n 4 W (by omega) (by omega))
  rw [show ((4 : Nat) : Int) = 4 from rfl] at C1
  have p1 : (2 : Int) ^ 32 = 4294967296 := by rfl
  have p2 : (2 : Nat) ^ 32 = 4294967296 := by rfl
  have hd : decide ((4294967296 : Int) ≤ ((n : Nat) : Int)) = false := by rw [decide_eq_false_iff_not]; omega
  have hd2 : decide ((4294967296 : Nat) ≤ n) = false := by rw [decide_eq_false_iff_not]; omega
  go_enter Tryz.func83, Tryz.ntmps83
  go_wp2_with fail
  with_reducible refine (C1.out _).mono ?_
  rintro x w1 ⟨v, rfl, hO, hb⟩
  have HO := Lib.hid hO
  clear hO
  go_wp2
  go_ret2
  exact ⟨v, rfl, HO.out.mono (by simp), ((Below.refl w.heap.size w).alloc (Nat.le_refl _) _).trans (hb.mono (by simp))⟩
set_option maxRecDepth 100000 in
set_option maxHeartbeats 1000000 in
theorem one_8 (n : Nat) (w : World) (hn : n < 18446744073709551616) : Calls Tryz.prog 83 #[.agg #[.int .i64 8, .int .u64 (n : Nat), .slice none 0 0]] w (OnePost (Ent.be 8 n) w) := by
  have C1 := Lib.hid (fun W => num_any n 8 W (by omega) (by omega))
  rw [show ((8 : Nat) : Int) = 8 from rfl] at C1
  go_enter Tryz.func83, Tryz.ntmps83
  go_wp2_with fail
  with_reducible refine (C1.out _).mono ?_
  rintro x w1 ⟨v, rfl, hO, hb⟩
  have HO := Lib.hid hO
  clear hO
  go_wp2
  go_ret2
  exact ⟨v, rfl, HO.out.mono (by simp), ((Below.refl w.heap.size w).alloc (Nat.le_refl _) _).trans (hb.mono (by simp))⟩

/-- A field that may be: a number without a text, or a text without a number. -/
def Fld.May (w : World) (f : Fld) : Prop :=
  (f.size = 1 ∧ f.n < 256 ∧ f.T = .slice none 0 0) ∨ (f.size = 4 ∧ f.n < 4294967296 ∧ f.T = .slice none 0 0) ∨ (f.size = 8 ∧ f.n < 18446744073709551616 ∧ f.T = .slice none 0 0) ∨
  (f.size = 0 ∧ f.n = 0 ∧ ∃ A c, f.T = .slice A f.t.length c ∧ Bys w A f.t.length f.t ∧ (A = none → c = 0) ∧ f.t.length ≤ 255)
theorem Fld.May.below {w w' : World} {f : Fld} (h : f.May w) (hb : Below w.heap.size w w') : f.May w' := by
  rcases h with h | h | h | ⟨h1, h2, A, c, h3, h4, h5⟩
  · exact .inl h
  · exact .inr (.inl h)
  · exact .inr (.inr (.inl h))
  · exact .inr (.inr (.inr ⟨h1, h2, A, c, h3, h4.below hb, h5⟩))
theorem one_any (f : Fld) (w : World) (h : f.May w) : Calls Tryz.prog 83 #[.agg #[.int .i64 (f.size : Nat), .int .u64 (f.n : Nat), f.T]] w (OnePost f.enc w) := by
  obtain ⟨s, n, T, t⟩ := f
  rcases h with ⟨h1, h2, h3⟩ | ⟨h1, h2, h3⟩ | ⟨h1, h2, h3⟩ | ⟨h1, h2, A, c, h3, h4, h5, h6⟩
  all_goals simp only at h1 h2 h3
  · subst h1 h3; exact one_1 n w h2
  · subst h1 h3; exact one_4 n w h2
  · subst h1 h3; exact one_8 n w h2
  · subst h1 h2 h3; exact one_text A c t w h4 h5 h6

/-- A slice of fields. -/
def Flds (w : World) (g : Nat) (fs : List Fld) : Prop :=
  ∀ i (h : i < fs.length), fs[i].May w ∧ w.cell? ⟨g, i * 3, none⟩ = some (.int .i64 (fs[i].size : Nat)) ∧ w.cell? ⟨g, i * 3 + 1, none⟩ = some (.int .u64 (fs[i].n : Nat)) ∧ w.cell? ⟨g, i * 3 + 2, none⟩ = some fs[i].T
theorem Flds.below {w w' : World} {g : Nat} {fs : List Fld} (h : Flds w g fs) (hb : Below w.heap.size w w') : Flds w' g fs := fun i hi => by
  obtain ⟨h1, h2, h3, h4⟩ := h i hi
  exact ⟨h1.below hb, (hb.cell (block_lt_of_cell h2)).trans h2, (hb.cell (block_lt_of_cell h3)).trans h3, (hb.cell (block_lt_of_cell h4)).trans h4⟩

def RpR (w : World) (n : Nat) (fs : List Fld) (o i : Value) (wr : World) : Prop :=
  ∃ k : Nat, k ≤ n ∧ i = .int .i64 k ∧ Own wr w.heap.size o ((fs.take k).flatMap Fld.enc) ∧ Below w.heap.size w wr

theorem enc_le (w : World) (f : Fld) (h : f.May w) : f.enc.length ≤ 256 := by
  unfold Fld.enc
  rcases h with ⟨h1, _⟩ | ⟨h1, _⟩ | ⟨h1, _⟩ | ⟨h1, _, _, _, _, _, _, h6⟩
  · rw [h1, if_neg (by decide), Ent.be_len]; decide
  · rw [h1, if_neg (by decide), Ent.be_len]; decide
  · rw [h1, if_neg (by decide), Ent.be_len]; decide
  · rw [if_pos h1]; unfold Ent.txt; rw [List.length_append, Ent.be_len]; omega
theorem flat_le (w : World) : ∀ (fs : List Fld), (∀ f ∈ fs, f.May w) → (fs.flatMap Fld.enc).length ≤ fs.length * 256
  | [], _ => by simp
  | f :: r, h => by
    have h1 := enc_le w f (h f (by simp))
    have h2 := flat_le w r (fun x hx => h x (by simp [hx]))
    rw [List.flatMap_cons, List.length_append, List.length_cons]
    omega

set_option maxRecDepth 100000 in
set_option maxHeartbeats 2000000 in
theorem rput_any (g n cap : Nat) (fs : List Fld) (w : World) (hF : Flds w g fs) (hn : fs.length = n) (hl : n ≤ 2000) :
    Calls Tryz.prog 48 #[.slice (some ⟨g, 0, none⟩) n cap] w (OnePost (fs.flatMap Fld.enc) w) := by
  have hmay : ∀ k, ((fs.take k).flatMap Fld.enc).length ≤ 512000 := fun k => by
    have := flat_le w (fs.take k) (fun f hf => by
      obtain ⟨i, hi, rfl⟩ := List.mem_iff_getElem.1 (List.mem_of_mem_take hf)
      exact (hF i hi).1)
    rw [List.length_take] at this
    omega
  have HF := Lib.hid hF
  have HN := Lib.hid hn
  have HMAY := Lib.hid hmay
  clear hF hn hmay
  go_enter Tryz.func48, Tryz.ntmps48
  go_wp2_with fail
  go_loopw [4, 5] (RpR w n fs) (fun _ i _ => n - (intOf i).toNat)
  case atStart => exact ⟨0, by omega, rfl, by rw [List.take_zero]; exact Own.nil _ _, Below.refl _ _⟩
  case round =>
    obtain ⟨k, hk, rfl, hO, hbel⟩ := hrel
    have HO := Lib.hid hO
    have HBE := Lib.hid hbel
    clear hO hbel
    by_cases hlt : k < n
    · have hkl : k < fs.length := by rw [HN.out]; exact hlt
      obtain ⟨f1, f2, f3, f4⟩ := (HF.out.below HBE.out) k hkl
      have C1 := Lib.hid (one_any (fs[k]'hkl) wr f1)
      have hel := enc_le wr _ f1
      have htk : (fs.take (k + 1)).flatMap Fld.enc = (fs.take k).flatMap Fld.enc ++ (fs[k]'hkl).enc := by
        rw [List.take_succ_eq_append_getElem hkl, List.flatMap_append]; simp
      have hT : ∃ A m c, (fs[k]'hkl).T = .slice A m c := by
        rcases f1 with ⟨_, _, h⟩ | ⟨_, _, h⟩ | ⟨_, _, h⟩ | ⟨_, _, A, c, h, _⟩
        · exact ⟨_, _, _, h⟩
        · exact ⟨_, _, _, h⟩
        · exact ⟨_, _, _, h⟩
        · exact ⟨_, _, _, h⟩
      obtain ⟨A0, m0, c0, hT⟩ := hT
      rw [hT] at f4 C1
      have hi1 : (k : Int) < (n : Int) := by omega
      have HTK := Lib.hid htk
      clear htk f1
      generalize (fs[k]'hkl) = f at *
      have hmk := HMAY.out k
      have HMK := Lib.hid hmk
      clear hT hmk
      go_wp2_with fail
      with_reducible refine C1.out.mono ?_
      rintro x w2 ⟨v2, rfl, hO2, hb2⟩
      obtain ⟨A2, c2, rfl, hB2, _, _, hA2⟩ := hO2.slice
      obtain ⟨m2, hm2⟩ : ∃ q, f.enc.length = q := ⟨_, rfl⟩
      rw [hm2] at hB2 hel ⊢
      have HB2 := Lib.hid hB2
      have HA2 := Lib.hid hA2
      have HO1 := Lib.hid (HO.out.belowOwn hb2)
      have BB2 := Lib.hid (HBE.out.trans (hb2.mono HBE.out.size))
      clear hO2 hB2 hA2 hb2 f2 f3 f4 C1
      go_wp2_with (first
        | ((with_reducible refine wpl_append (some 27) _ _ _ (.tmp 25) (.tmp 26) w.heap.size _ ((fs.take k).flatMap Fld.enc) A2 m2 c2 f.enc ?hs ?hx HO1.out HB2.out HA2.out ?hm ?hz ?_); (case hs => rfl); (case hx => rfl); (case hm => (have := HMK.out; omega)); (case hz => exact BB2.out.size); (intro v' w' ho hg hv); (have HO3 := Lib.hid ho); (have HG3 := Lib.hid hg); (clear ho hg hv)))
      go_roundw
      case rel => exact ⟨k + 1, by omega, by go_num, by rw [HTK.out]; exact HO3.out, HO1.out.grows HG3.out BB2.out (Nat.le_refl _) BB2.out.size⟩
      case measure => simp [intOf]; omega
    · have hkn : k = n := by omega
      subst hkn
      have htk : fs.take k = fs := List.take_of_length_le (by rw [HN.out]; exact Nat.le_refl _)
      have HTK := Lib.hid htk
      clear htk
      go_wp2
      go_ret2
      exact ⟨_, rfl, by have := HO.out; rw [HTK.out] at this; exact this, HBE.out⟩

end Go.Proofs.YtpbclmnhkmcknaaGreat.Fe
