/-
  A stock that a law walks with: all its calls, in one form.
-/
import Derived.Test.YtlgdjmmhdfpfeaaSameE
import Derived.Test.YtlgdjmmhdfpfeaaHelp
import Derived.Test.YtlgdjmmhdfpfeaaAccts
import Derived.Test.YtlgdjmmhdfpfeaaPays
import Derived.Test.YtlgdjmmhdfpfeaaNewF
namespace Go.Proofs.Ytlgdjmmhdfpfeaa
open Go.Proofs Go.RowKit
set_option maxRecDepth 100000
set_option linter.unusedVariables false

/-- A stock of the law's own. -/
structure SW (w0 w : World) (b : SB) (q : Ss) : Prop where
  ok : At w b q
  inv : Inv q
  bel : Below w0.heap.size w0 w
  lo : w0.heap.size ≤ b.s ∧ ∀ i, b.isMap i → w0.heap.size ≤ i
theorem SW.frm {w0 w w' : World} {b : SB} {q q' : Ss} (h : SW w0 w b q) (hA : At w' b q') (hI : Inv q') (hF : Frm w w' b) : SW w0 w' b q' :=
  ⟨hA, hI, hF.below h.bel h.bel.size h.lo.2, h.lo⟩
theorem SW.below {w0 w w' : World} {b : SB} {q : Ss} (h : SW w0 w b q) (hb : Below w.heap.size w w') : SW w0 w' b q :=
  ⟨h.ok.below hb, h.inv, h.bel.trans (hb.mono h.bel.size), h.lo⟩
theorem SW.alloc {w0 w : World} {b : SB} {q : Ss} (h : SW w0 w b q) (o : Obj) : SW w0 (w.alloc o) b q := h.below (below1 w o)
theorem SW.drewN {w0 w : World} {b : SB} {q : Ss} (h : SW w0 w b q) (n : Nat) : SW w0 (w.drewN n) b q := h.below (below_drewN (Below.refl _ _) n)
theorem SW.drew {w0 w : World} {b : SB} {q : Ss} (h : SW w0 w b q) : SW w0 w.drew b q := h.below ((Below.refl _ _).drew)

/-- A row of goods, of holds, that the stock's calls leave alone. -/
def RG (w : World) (b : SB) (v : Value) (l : List Kd) : Prop := ∃ B, OwnG w B v l ∧ ∀ i, b.isMap i → i < B
def RH (w : World) (b : SB) (v : Value) (l : List Hd) : Prop := ∃ B, OwnR w B v l ∧ ∀ i, b.isMap i → i < B
theorem RG.frm {w w' : World} {b : SB} {v : Value} {l : List Kd} (h : RG w b v l) (hF : Frm w w' b) : RG w' b v l := by
  obtain ⟨B, h1, h2⟩ := h
  exact ⟨B, h1.same fun k hk => hF.block k (h1.block k hk).2 (fun hm => by have := (h1.block k hk).1; have := h2 k hm; omega), h2⟩
theorem RH.frm {w w' : World} {b : SB} {v : Value} {l : List Hd} (h : RH w b v l) (hF : Frm w w' b) : RH w' b v l := by
  obtain ⟨B, h1, h2⟩ := h
  exact ⟨B, h1.same fun k hk => hF.block k (h1.block k hk).2 (fun hm => by have := (h1.block k hk).1; have := h2 k hm; omega), h2⟩
theorem RG.below {w w' : World} {b : SB} {v : Value} {l : List Kd} (h : RG w b v l) (hb : Below w.heap.size w w') : RG w' b v l := h.frm (Frm.of_below b hb)
theorem RH.below {w w' : World} {b : SB} {v : Value} {l : List Hd} (h : RH w b v l) (hb : Below w.heap.size w w') : RH w' b v l := h.frm (Frm.of_below b hb)
theorem RG.gin {w : World} {b : SB} {v : Value} {l : List Kd} (h : RG w b v l) : ∃ A c, v = .slice A l.length c ∧ Gin w A l.length l ∧ l.length ≤ c ∧ c ≤ maxLen := h.choose_spec.1.gin
theorem RH.hin {w : World} {b : SB} {v : Value} {l : List Hd} (h : RH w b v l) : ∃ A c, v = .slice A l.length c ∧ Hin w A l.length l ∧ l.length ≤ c ∧ c ≤ maxLen := h.choose_spec.1.hin
theorem Gin.frm {w w' : World} {b : SB} {A : Option Addr} {n : Nat} {l : List Kd} {w0 : World} (h : Gin w0 A n l) (hb : Below w0.heap.size w0 w) : Gin w A n l := h.below hb

def SwPost (w0 w : World) (b : SB) (q : Ss) (v : Int) (e : Ending) (w' : World) : Prop := e = .returned (.int .i64 v) ∧ SW w0 w' b q ∧ Frm w w' b
def SwG (w0 w : World) (b : SB) (q : Ss) (e : Ending) (w' : World) : Prop := ∃ v, e = .returned v ∧ RG w' b v (q.K) ∧ SW w0 w' b q ∧ Below w.heap.size w w'
def SwH (w0 w : World) (b : SB) (q : Ss) (e : Ending) (w' : World) : Prop := ∃ v, e = .returned v ∧ RH w' b v q.H ∧ SW w0 w' b q ∧ Below w.heap.size w w'

section
variable {w0 w : World} {b : SB} {q : Ss}
theorem sw_auth (h : SW w0 w b q) (o : Nat) (x : List UInt8) (n : Int) (ho : o < 4294967296) (hx : x.length ≤ maxLen) (hn : in64 n) (hl : q.H.length ≤ 1000) :
    Calls Try.prog 24 #[.pointer (some ⟨b.s, 0, none⟩), .int .u32 (o : Int), encStr x, .int .i64 n] w (SwPost w0 w b (authS q o x n) (verd (authV q o x n))) :=
  (auth_any b q o x n w h.ok h.inv ho hx hn hl).mono fun e w' ⟨h1, h2, h3⟩ => ⟨h1, h.frm h2 (h.inv.auth ho x n) h3, h3⟩
theorem sw_capture (h : SW w0 w b q) (o : Nat) (ho : o < 4294967296) (hl : q.H.length ≤ 1000) :
    Calls Try.prog 26 #[.pointer (some ⟨b.s, 0, none⟩), .int .u32 (o : Int)] w (SwPost w0 w b (movS q o 0) (verd (movV q o 0))) :=
  (capture_any b q o w h.ok h.inv ho hl).mono fun e w' ⟨h1, h2, h3⟩ => ⟨h1, h.frm h2 (h.inv.mov o (by decide)) h3, h3⟩
theorem sw_void (h : SW w0 w b q) (o : Nat) (ho : o < 4294967296) (hl : q.H.length ≤ 1000) :
    Calls Try.prog 27 #[.pointer (some ⟨b.s, 0, none⟩), .int .u32 (o : Int)] w (SwPost w0 w b (movS q o 1) (verd (movV q o 1))) :=
  (void_any b q o w h.ok h.inv ho hl).mono fun e w' ⟨h1, h2, h3⟩ => ⟨h1, h.frm h2 (h.inv.mov o (by decide)) h3, h3⟩
theorem sw_refund (h : SW w0 w b q) (o : Nat) (ho : o < 4294967296) (hl : q.H.length ≤ 1000) :
    Calls Try.prog 25 #[.pointer (some ⟨b.s, 0, none⟩), .int .u32 (o : Int)] w (SwPost w0 w b (movS q o 2) (verd (movV q o 2))) :=
  (refund_any b q o w h.ok h.inv ho hl).mono fun e w' ⟨h1, h2, h3⟩ => ⟨h1, h.frm h2 (h.inv.mov o (by decide)) h3, h3⟩
theorem sw_act (h : SW w0 w b q) (t : Int) (o : Nat) (x : List UInt8) (n : Int) (ho : o < 4294967296) (hx : x.length ≤ maxLen) (hn : in64 n) (hl : q.H.length ≤ 1000) :
    Calls Try.prog 13 #[.pointer (some ⟨b.s, 0, none⟩), .agg #[.int .i64 t, .int .u32 (o : Int), encStr x, .int .i64 n]] w (SwPost w0 w b (actS q ⟨t, o, x, n⟩) (verd (actV q ⟨t, o, x, n⟩))) :=
  (act_any b q ⟨t, o, x, n⟩ w h.ok h.inv ho hx hn hl).mono fun e w' ⟨h1, h2, h3⟩ => ⟨h1, h.frm h2 (h.inv.act ho) h3, h3⟩
theorem sw_goods (h : SW w0 w b q) : Calls Try.prog 16 #[.pointer (some ⟨b.s, 0, none⟩)] w (SwG w0 w b q) :=
  (accts_any b q w h.ok h.inv.ks (by have := h.inv.kz; omega)).mono fun e w' ⟨v, h1, h2, h3⟩ => ⟨v, h1, ⟨_, h2, fun i hi => h.ok.map_lt hi⟩, h.below h3, h3⟩
theorem sw_holds (h : SW w0 w b q) (hl : q.H.length ≤ 1000) : Calls Try.prog 17 #[.pointer (some ⟨b.s, 0, none⟩)] w (SwH w0 w b q) :=
  (pays_any b q w h.ok h.inv hl).mono fun e w' ⟨v, h1, h2, h3⟩ => ⟨v, h1, ⟨_, h2, fun i hi => h.ok.map_lt hi⟩, h.below h3, h3⟩
theorem sw_taken (h : SW w0 w b q) (hl : q.H.length ≤ 1000) : Calls Try.prog 22 #[.pointer (some ⟨b.s, 0, none⟩)] w fun e w' => e = .returned (.int .i64 (tot q.H 2)) ∧ SW w0 w' b q ∧ Below w.heap.size w w' :=
  (taken_any b q w h.ok h.inv hl).mono fun e w' ⟨h1, h2⟩ => ⟨h1, h.below h2, h2⟩
end

/-- A new stock, in these words. -/
def SwN (w0 w : World) (l : List Kd) (e : Ending) (w' : World) : Prop :=
  Below w.heap.size w w' ∧ ((newOf l = none ∧ e = .returned (.tuple #[.pointer none, .int .i64 2])) ∨
    ∃ K b, newOf l = some K ∧ e = .returned (.tuple #[.pointer (some ⟨b.s, 0, none⟩), .int .i64 0]) ∧ SW w0 w' b ⟨K, []⟩ ∧ w.heap.size ≤ b.s ∧ ∀ i, b.isMap i → w.heap.size ≤ i)
theorem sw_new {w0 w : World} (hb : Below w0.heap.size w0 w) (A : Option Addr) (n c : Nat) (l : List Kd) (hG : Gin w A n l) (hn : n ≤ 1000) (hL : ∀ g ∈ l, g.n.length ≤ 1000000) : Calls Try.prog 11 #[.slice A n c] w (SwN w0 w l) :=
  (new_any A n c l w hG hn hL).mono fun e w' ⟨h1, h2⟩ => ⟨h1, h2.elim .inl fun ⟨K, b, h3, h4, h5, h6, h7⟩ =>
    .inr ⟨K, b, h3, h4, ⟨h5, newInv h3, hb.trans (h1.mono hb.size), by have := hb.size; omega, fun i hi => Nat.le_trans hb.size (h7 i hi)⟩, h6, h7⟩⟩

end Go.Proofs.Ytlgdjmmhdfpfeaa
