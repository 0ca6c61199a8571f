/-
  A dock that a law walks with: all its calls, in one form.
-/
import Derived.Test.YtnajombhlmbopaaSameE
import Derived.Test.YtnajombhlmbopaaHelp
import Derived.Test.YtnajombhlmbopaaBks
namespace Go.Proofs.Ytnajombhlmbopaa
open Go.Proofs Go.RowKit
set_option maxRecDepth 100000
set_option linter.unusedVariables false
set_option linter.unusedSimpArgs false

/-- A dock of the law's own, with this room at first. -/
structure SW (w0 w : World) (R : List Int) (b : SB) (q : Ss) : Prop where
  ok : At w b q
  inv : Inv R q
  bel : Below w0.heap.size w0 w
  lo : w0.heap.size ≤ b.s ∧ ∀ i, b.isMap i → w0.heap.size ≤ i
section
variable {w0 w w' : World} {R : List Int} {b : SB} {q q' : Ss}
theorem SW.frm (h : SW w0 w R b q) (hA : At w' b q') (hI : Inv R q') (hF : Frm w w' b) : SW w0 w' R b q' :=
  ⟨hA, hI, hF.below h.bel h.bel.size h.lo.2, h.lo⟩
theorem SW.below (h : SW w0 w R b q) (hb : Below w.heap.size w w') : SW w0 w' R b q :=
  ⟨h.ok.below hb, h.inv, h.bel.trans (hb.mono h.bel.size), h.lo⟩
theorem SW.alloc (h : SW w0 w R b q) (o : Obj) : SW w0 (w.alloc o) R b q := h.below (below1 w o)
theorem SW.drewN (h : SW w0 w R b q) (n : Nat) : SW w0 (w.drewN n) R b q := h.below (below_drewN (Below.refl _ _) n)
theorem SW.drew (h : SW w0 w R b q) : SW w0 w.drew R b q := h.below ((Below.refl _ _).drew)
theorem SW.fl (h : SW w0 w R b q) : q.F.length ≤ 1000 := by have := h.inv.fl; have := h.inv.fz; omega
end

/-- A row of numbers, of bookings, that the dock's calls leave alone. -/
def RI (w : World) (b : SB) (v : Value) (l : List Int) : Prop := ∃ B, OwnI w B v l ∧ ∀ i, b.isMap i → i < B
def RH (w : World) (b : SB) (v : Value) (l : List Hd) : Prop := ∃ B, OwnR w B v l ∧ ∀ i, b.isMap i → i < B
section
variable {w w' : World} {b : SB} {v : Value} {l : List Int} {L : List Hd}
theorem RI.frm (h : RI w b v l) (hF : Frm w w' b) : RI w' b v l := by
  obtain ⟨B, h1, h2⟩ := h
  exact ⟨B, h1.same fun k hk => hF.block k (h1.block k hk).2 (fun hm => by have := (h1.block k hk).1; have := h2 k hm; omega), h2⟩
theorem RH.frm (h : RH w b v L) (hF : Frm w w' b) : RH w' b v L := by
  obtain ⟨B, h1, h2⟩ := h
  exact ⟨B, h1.same fun k hk => hF.block k (h1.block k hk).2 (fun hm => by have := (h1.block k hk).1; have := h2 k hm; omega), h2⟩
theorem RI.below (h : RI w b v l) (hb : Below w.heap.size w w') : RI w' b v l := h.frm (Frm.of_below b hb)
theorem RH.below (h : RH w b v L) (hb : Below w.heap.size w w') : RH w' b v L := h.frm (Frm.of_below b hb)
theorem RI.drewN (h : RI w b v l) (n : Nat) : RI (w.drewN n) b v l := h.below (below_drewN (Below.refl _ _) n)
theorem RH.drewN (h : RH w b v L) (n : Nat) : RH (w.drewN n) b v L := h.below (below_drewN (Below.refl _ _) n)
theorem RI.iin (h : RI w b v l) : ∃ A c, v = .slice A l.length c ∧ Iin w A l.length l ∧ l.length ≤ c ∧ c ≤ maxLen := h.choose_spec.1.iin
theorem RH.hin (h : RH w b v L) : ∃ A c, v = .slice A L.length c ∧ Hin w A L.length L ∧ L.length ≤ c ∧ c ≤ maxLen := h.choose_spec.1.hin
/-- The cells of one place. -/
theorem RI.at {A : Option Addr} {n c : Nat} (h : RI w b (.slice A n c) l) (i : Nat) (hi : i < l.length) : ∃ g o, A = some ⟨g, o, none⟩ ∧ g < w.heap.size ∧ w.cell? ⟨g, o + i, none⟩ = some (.int .i64 l[i]) := by
  obtain ⟨A', c', e, hg, -⟩ := h.iin
  injection e with q1 q2 q3
  subst q1 q2 q3
  obtain ⟨g, o, e, hl, hc⟩ := hg.2 (by omega)
  exact ⟨g, o, e, hl, hc i hi⟩
theorem RH.at {A : Option Addr} {n c : Nat} (h : RH w b (.slice A n c) L) (i : Nat) (hi : i < L.length) : ∃ g o, A = some ⟨g, o, none⟩ ∧ g < w.heap.size ∧ w.cell? ⟨g, o + i * 3, none⟩ = some (.int .u32 (L[i].o : Int)) ∧ w.cell? ⟨g, o + i * 3 + 1, none⟩ = some (.int .i64 (L[i].d : Int)) ∧ w.cell? ⟨g, o + i * 3 + 2, none⟩ = some (.int .i64 L[i].k) := by
  obtain ⟨A', c', e, hg, -⟩ := h.hin
  injection e with q1 q2 q3
  subst q1 q2 q3
  obtain ⟨g, o, e, hl, hc⟩ := hg.2 (by omega)
  exact ⟨g, o, e, hl, hc i hi⟩
end

def SwPost (w0 w : World) (R : List Int) (b : SB) (q : Ss) (v : Int) (e : Ending) (w' : World) : Prop := e = .returned (.int .i64 v) ∧ SW w0 w' R b q ∧ Frm w w' b
def SwPost2 (w0 w : World) (R : List Int) (b : SB) (q : Ss) (u v : Int) (e : Ending) (w' : World) : Prop := e = .returned (.tuple #[.int .i64 u, .int .i64 v]) ∧ SW w0 w' R b q ∧ Frm w w' b
def SwH (w0 w : World) (R : List Int) (b : SB) (q : Ss) (e : Ending) (w' : World) : Prop := ∃ v, e = .returned v ∧ RH w' b v q.H ∧ SW w0 w' R b q ∧ Below w.heap.size w w'
def SwI (w0 w : World) (R : List Int) (b : SB) (q : Ss) (n : Nat) (e : Ending) (w' : World) : Prop := ∃ v, e = .returned v ∧ RI w' b v (roomsL q.F n) ∧ SW w0 w' R b q ∧ Below w.heap.size w w'
def SwN1 (w0 w : World) (R : List Int) (b : SB) (q : Ss) (v : Int) (e : Ending) (w' : World) : Prop := e = .returned (.int .i64 v) ∧ SW w0 w' R b q ∧ Below w.heap.size w w'
def SwS (w0 w : World) (R : List Int) (b : SB) (q : Ss) (e : Ending) (w' : World) : Prop := e = .returned (.bool true) ∧ SW w0 w' R b q ∧ Below w.heap.size w w'

section
variable {w0 w : World} {R : List Int} {b : SB} {q : Ss}
theorem sw_book (h : SW w0 w R b q) (o : Nat) (f n : Int) (ho : o < 4294967296) (hf : in64 f) (hn : in64 n) (hl : q.H.length ≤ 1000) :
    Calls Try.prog 23 #[.pointer (some ⟨b.s, 0, none⟩), .int .u32 (o : Int), .int .i64 f, .int .i64 n] w (SwPost2 w0 w R b (bookS q o f n) (dayI (bookD q o f n)) (verd (bookD q o f n).isSome)) :=
  (book_any R b q o f n w h.ok h.inv ho hf hn hl).mono fun e w' ⟨h1, h2, h3⟩ => ⟨h1, h.frm h2 (h.inv.book ho f n) h3, h3⟩
theorem sw_canc (h : SW w0 w R b q) (o : Nat) (ho : o < 4294967296) :
    Calls Try.prog 22 #[.pointer (some ⟨b.s, 0, none⟩), .int .u32 (o : Int)] w (SwPost w0 w R b (cancS q o) (verd (findH q.H o).isSome)) :=
  (canc_any R b q o w h.ok h.inv ho).mono fun e w' ⟨h1, h2, h3⟩ => ⟨h1, h.frm h2 (h.inv.canc o) h3, h3⟩
theorem sw_act (h : SW w0 w R b q) (t : Int) (o : Nat) (f n : Int) (ho : o < 4294967296) (hf : in64 f) (hn : in64 n) (hl : q.H.length ≤ 1000) :
    Calls Try.prog 12 #[.pointer (some ⟨b.s, 0, none⟩), .agg #[.int .i64 t, .int .u32 (o : Int), .int .i64 f, .int .i64 n]] w (SwPost2 w0 w R b (actS q ⟨t, o, f, n⟩) (actD q ⟨t, o, f, n⟩) (verd (actV q ⟨t, o, f, n⟩))) :=
  (act_any R b q ⟨t, o, f, n⟩ w h.ok h.inv ho hf hn hl).mono fun e w' ⟨h1, h2, h3⟩ => ⟨h1, h.frm h2 (h.inv.act ho) h3, h3⟩
theorem sw_bks (h : SW w0 w R b q) (hl : q.H.length ≤ 1000) : Calls Try.prog 15 #[.pointer (some ⟨b.s, 0, none⟩)] w (SwH w0 w R b q) :=
  (bks_any b q w h.ok h.inv.hs hl).mono fun e w' ⟨v, h1, h2, h3⟩ => ⟨v, h1, ⟨_, h2, fun i hi => h.ok.map_lt hi⟩, h.below h3, h3⟩
theorem sw_rooms (h : SW w0 w R b q) (n : Nat) (hn : n ≤ 1000) : Calls Try.prog 20 #[.pointer (some ⟨b.s, 0, none⟩), .int .i64 (n : Int)] w (SwI w0 w R b q n) :=
  (rooms_any b q n w h.ok h.fl hn).mono fun e w' ⟨v, h1, h2, h3⟩ => ⟨v, h1, ⟨_, h2, fun i hi => h.ok.map_lt hi⟩, h.below h3, h3⟩
theorem sw_room (h : SW w0 w R b q) (d : Int) : Calls Try.prog 18 #[.pointer (some ⟨b.s, 0, none⟩), .int .i64 d] w (SwN1 w0 w R b q (roomI q.F d)) :=
  (room_any b q d w h.ok h.fl).mono fun e w' ⟨h1, h2⟩ => ⟨h1, h.below h2, h2⟩
theorem sw_sameH (h : SW w0 w R b q) {v1 v2 : Value} {l : List Hd} (h1 : RH w b v1 l) (h2 : RH w b v2 l) (hn : l.length ≤ 1000000) : Calls Try.prog 16 #[v1, v2] w (SwS w0 w R b q) := by
  obtain ⟨B1, o1, -⟩ := h1
  obtain ⟨B2, o2, -⟩ := h2
  exact (sameH_own B1 B2 v1 v2 l w o1 o2 hn).mono fun e w' ⟨he, hb⟩ => ⟨he, h.below hb, hb⟩
theorem sw_sameI (h : SW w0 w R b q) {v1 v2 : Value} {l : List Int} (h1 : RI w b v1 l) (h2 : RI w b v2 l) (hn : l.length ≤ 1000000) : Calls Try.prog 21 #[v1, v2] w (SwS w0 w R b q) := by
  obtain ⟨B1, o1, -⟩ := h1
  obtain ⟨B2, o2, -⟩ := h2
  exact (sameI_own B1 B2 v1 v2 l w o1 o2 hn).mono fun e w' ⟨he, hb⟩ => ⟨he, h.below hb, hb⟩
end

/-- A new dock, in these words. -/
def SwN (w0 w : World) (l : List Int) (e : Ending) (w' : World) : Prop :=
  Below w.heap.size w w' ∧ ((newOf l = none ∧ e = .returned (.tuple #[.pointer none, .int .i64 2])) ∨
    ∃ b, newOf l = some l ∧ e = .returned (.tuple #[.pointer (some ⟨b.s, 0, none⟩), .int .i64 0]) ∧ SW w0 w' l b ⟨l, []⟩ ∧ w.heap.size ≤ b.s ∧ ∀ i, b.isMap i → w.heap.size ≤ i)
theorem sw_new {w0 w : World} (hb : Below w0.heap.size w0 w) (A : Option Addr) (n c : Nat) (l : List Int) (hG : Iin w A n l) (hn : n ≤ 1000) : Calls Try.prog 10 #[.slice A n c] w (SwN w0 w l) :=
  (new_any A n c l w hG hn).mono fun e w' ⟨h1, h2⟩ => ⟨h1, h2.elim .inl fun ⟨R, b, h3, h4, h5, h6, h7⟩ => by
    obtain ⟨rfl, -, -⟩ := newOf_some h3
    exact .inr ⟨b, h3, h4, ⟨h5, newInv h3, hb.trans (h1.mono hb.size), by have := hb.size; omega, fun i hi => Nat.le_trans hb.size (h7 i hi)⟩, h6, h7⟩⟩

end Go.Proofs.Ytnajombhlmbopaa
