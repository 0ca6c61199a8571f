/-
  Texts of one proof, in their order: FeNWr, FeNVal, FeKRow, FeNRd.
-/
import Derived.Deep.RegionHeld3
import Derived.Maps.AppendAt
import Derived.Laws.AppendOwnNone
import Derived.Laws.OwnMore
import Derived.Deep.AppendLies
import Derived.Laws.MakeOwn
import Derived.IntWalk
import Derived.Test.YtpbclmnhkmcknaaGreatZ03
namespace Go.Proofs.YtpbclmnhkmcknaaGreat.Fe
open Go.RowKit
attribute [local go_sem ↓] Go.wp_at_zero Go.wp_at_succ
set_option linter.unusedVariables false

theorem Wr.drew {w : World} {p B : Nat} {l : List Nat} (h : Wr w p B l) : Wr w.drew p B l := h
theorem Wr.size {w : World} {p B : Nat} {l : List Nat} (h : Wr w p B l) : B ≤ w.heap.size := by
  obtain ⟨h1, v, hL, _⟩ := h
  exact Nat.le_trans h1 (Nat.le_of_lt hL.lt)
def WritePost (w : World) (p B : Nat) (l : List Nat) (e : Ending) (w' : World) : Prop := e = .returned (.tuple #[]) ∧ Wr w' p B l ∧ Below B w w' ∧ Keep w w'
theorem flag_any (u : Bool) (w : World) : Calls Tryz.prog 151 #[.bool u] w fun x w' => x = .returned (.int .u8 (Ent.b2n u : Nat)) ∧ w = w' := by
  cases u
  · go_enter Tryz.func151, Tryz.ntmps151
    go_wp2
    go_ret
    exact ⟨rfl, rfl⟩
  · go_enter Tryz.func151, Tryz.ntmps151
    go_wp2
    go_ret
    exact ⟨rfl, rfl⟩

/-- A note's texts lie there, below B. -/
structure Txt (w : World) (B : Nat) (e : Note) (A1 A2 : Option Addr) (c1 c2 : Nat) : Prop where
  k : Bys w A1 e.key.length e.key
  kl : Low B A1 e.key.length
  ka : A1 = none → c1 = 0
  d : Bys w A2 e.data.length e.data
  dl : Low B A2 e.data.length
  da : A2 = none → c2 = 0
theorem Txt.below {w w' : World} {B : Nat} {e : Note} {A1 A2 : Option Addr} {c1 c2 : Nat} (h : Txt w B e A1 A2 c1 c2) (hb : Below B w w') : Txt w' B e A1 A2 c1 c2 :=
  ⟨h.k.belowB h.kl hb, h.kl, h.ka, h.d.belowB h.dl hb, h.dl, h.da⟩
theorem Low.mono {B B' : Nat} {A : Option Addr} {n : Nat} (h : Low B A n) (hb : B ≤ B') : Low B' A n := fun h0 => by
  obtain ⟨b, off, h1, h2⟩ := h h0
  exact ⟨b, off, h1, by omega⟩
theorem Txt.mono {w : World} {B B' : Nat} {e : Note} {A1 A2 : Option Addr} {c1 c2 : Nat} (h : Txt w B e A1 A2 c1 c2) (hb : B ≤ B') : Txt w B' e A1 A2 c1 c2 :=
  ⟨h.k, h.kl.mono hb, h.ka, h.d, h.dl.mono hb, h.da⟩

end Go.Proofs.YtpbclmnhkmcknaaGreat.Fe

namespace Go.Proofs.YtpbclmnhkmcknaaGreat.Fe
open Go.RowKit

theorem cast_beq (x y : Nat) : (((x : Nat) : Int) == ((y : Nat) : Int)) = (x == y) := by rw [Bool.eq_iff_iff]; simp; omega
/-- The same notes? -/
def sameE (a b : Note) : Bool := (a.kind == b.kind) && ((a.epoch == b.epoch) && ((a.old == b.old) && ((a.lsn == b.lsn) && ((a.tick == b.tick) && ((a.order == b.order) && ((a.step == b.step) && ((a.undo == b.undo) && ((a.code == b.code) && (sameB a.key b.key && (sameB a.data b.data))))))))))
theorem sameE_iff (a b : Note) : sameE a b = true ↔ a = b := by
  unfold sameE sameB
  simp only [Bool.and_eq_true, beq_iff_eq, decide_eq_true_eq]
  constructor
  · rintro ⟨h1, h2, h3, h4, h5, h6, h7, h8, h9, h10, h11⟩
    cases a; cases b
    simp only at h1 h2 h3 h4 h5 h6 h7 h8 h9 h10 h11
    subst h1 h2 h3 h4 h5 h6 h7 h8 h9 h10 h11
    rfl
  · rintro rfl; simp
theorem sameE_self (a : Note) : sameE a a = true := (sameE_iff a a).2 rfl
theorem sameE_ne {a b : Note} (h : a ≠ b) : sameE a b = false := by
  cases hh : sameE a b
  · rfl
  · exact absurd ((sameE_iff a b).1 hh) h

/-- A note's slices read as its texts. -/
structure EntV (w : World) (e : Note) (A1 A2 : Option Addr) (c1 c2 : Nat) : Prop where
  k : Bys w A1 e.key.length e.key
  kc : e.key.length ≤ c1
  km : c1 ≤ maxLen
  ka : A1 = none → c1 = 0
  d : Bys w A2 e.data.length e.data
  dc : e.data.length ≤ c2
  dm : c2 ≤ maxLen
  da : A2 = none → c2 = 0
  b : Ent.Bnd e
theorem EntV.below {w w' : World} {e : Note} {A1 A2 : Option Addr} {c1 c2 : Nat} (h : EntV w e A1 A2 c1 c2) (hb : Below w.heap.size w w') : EntV w' e A1 A2 c1 c2 :=
  ⟨h.k.below hb, h.kc, h.km, h.ka, h.d.below hb, h.dc, h.dm, h.da, h.b⟩
theorem EntV.txt {w : World} {e : Note} {A1 A2 : Option Addr} {c1 c2 : Nat} (h : EntV w e A1 A2 c1 c2) : Txt w w.heap.size e A1 A2 c1 c2 :=
  ⟨h.k, h.k.low (Nat.le_refl _), h.ka, h.d, h.d.low (Nat.le_refl _), h.da⟩
theorem EntV.own {w : World} {B : Nat} {e : Note} {K D : Value} (hK : Own w B K e.key) (hD : Own w B D e.data) (hb : Ent.Bnd e) : ∃ A1 A2 c1 c2, K = .slice A1 e.key.length c1 ∧ D = .slice A2 e.data.length c2 ∧ EntV w e A1 A2 c1 c2 := by
  obtain ⟨A1, c1, h1, h2, h3, h4, h5⟩ := hK.slice
  obtain ⟨A2, c2, k1, k2, k3, k4, k5⟩ := hD.slice
  exact ⟨A1, A2, c1, c2, h1, k1, h2, h3, h4, h5, k2, k3, k4, k5, hb⟩
theorem EntV.nil (w : World) (e : Note) (hk : e.key = []) (hd : e.data = []) (hb : Ent.Bnd e) : EntV w e none none 0 0 := by
  refine ⟨?_, by rw [hk]; exact Nat.le_refl _, by unfold maxLen; omega, fun _ => rfl, ?_, by rw [hd]; exact Nat.le_refl _, by unfold maxLen; omega, fun _ => rfl, hb⟩
  · rw [hk]; exact Bys.none_ w
  · rw [hd]; exact Bys.none_ w



end Go.Proofs.YtpbclmnhkmcknaaGreat.Fe

namespace Go.Proofs.YtpbclmnhkmcknaaGreat.Fe
open Go.RowKit
set_option maxRecDepth 100000
set_option linter.unusedVariables false

/-- A kept step in memory: with the values of its two slices. -/
structure Kx where
  k : Kp
  K : Value
  D : Value
/-- Its cells. -/
abbrev kc (x : Kx) : Array Value := #[.int .u32 (x.k.o : Int), .int .i64 x.k.s, .bool x.k.u, x.K, .int .i64 x.k.c, x.D]
/-- Its slices are values of one cell. -/
def One (x : Kx) : Prop := x.K.oneCell' = true ∧ x.D.oneCell' = true
/-- The cells of n of them, six each. -/
def kv (n : Nat) (X : Nat → Kx) : List Value := (List.range n).flatMap fun i => (kc (X i)).toList
theorem kv_zero (X : Nat → Kx) : kv 0 X = [] := rfl
theorem kv_succ (n : Nat) (X : Nat → Kx) : kv (n + 1) X = kv n X ++ (kc (X n)).toList := by simp [kv, List.range_succ]
theorem kv_length (n : Nat) (X : Nat → Kx) : (kv n X).length = n * 6 := by
  induction n with
  | zero => rfl
  | succ n ih => rw [kv_succ, List.length_append, ih]; simp; omega
theorem kv_at (n : Nat) (X : Nat → Kx) (i j : Nat) (hi : i < n) (hj : j < 6) : (kv n X)[i * 6 + j]? = (kc (X i)).toList[j]? := by
  induction n with
  | zero => omega
  | succ n ih =>
    rw [kv_succ]
    by_cases h : i < n
    · rw [List.getElem?_append_left (by rw [kv_length]; omega)]
      exact ih h
    · have : i = n := by omega
      subst this
      rw [List.getElem?_append_right (by rw [kv_length]; omega), kv_length]
      congr 1; omega
theorem kv_congr {n : Nat} {X X' : Nat → Kx} (h : ∀ i, i < n → X i = X' i) : kv n X = kv n X' := by
  induction n with
  | zero => rfl
  | succ n ih => rw [kv_succ, kv_succ, ih (fun i hi => h i (by omega)), h n (by omega)]
theorem kv_ext {n : Nat} {X : Nat → Kx} {xs : List Value} (hl : xs.length = n * 6) (h : ∀ i j, i < n → j < 6 → xs[i * 6 + j]? = (kc (X i)).toList[j]?) : xs = kv n X := by
  apply List.ext_getElem?
  intro k
  by_cases hk : k < n * 6
  · have e : k = (k / 6) * 6 + k % 6 := by omega
    rw [e, h (k / 6) (k % 6) (by omega) (by omega), kv_at n X (k / 6) (k % 6) (by omega) (by omega)]
  · rw [List.getElem?_eq_none (by omega), List.getElem?_eq_none (by rw [kv_length]; omega)]
theorem kv_add (n m : Nat) (X Y : Nat → Kx) : kv n X ++ kv m Y = kv (n + m) (fun i => if i < n then X i else Y (i - n)) := by
  refine kv_ext (by rw [List.length_append, kv_length, kv_length]; omega) (fun i j hi hj => ?_)
  by_cases h : i < n
  · rw [List.getElem?_append_left (by rw [kv_length]; omega), kv_at n X i j h hj, if_pos h]
  · rw [List.getElem?_append_right (by rw [kv_length]; omega), kv_length, if_neg h, show i * 6 + j - n * 6 = (i - n) * 6 + j by omega]
    exact kv_at m Y (i - n) j (by omega) hj
theorem kc_one (x : Kx) (h : One x) : ∀ u ∈ (kc x).toList, u.oneCell' = true := by
  intro u hu
  simp at hu
  rcases hu with rfl | rfl | rfl | rfl | rfl | rfl
  · rfl
  · rfl
  · rfl
  · exact h.1
  · rfl
  · exact h.2
theorem kv_one (n : Nat) (X : Nat → Kx) (h : ∀ i, i < n → One (X i)) : ∀ u ∈ kv n X, u.oneCell' = true := by
  induction n with
  | zero => intro u hu; simp [kv] at hu
  | succ n ih =>
    intro u hu
    rw [kv_succ] at hu
    rcases List.mem_append.1 hu with h' | h'
    · exact ih (fun i hi => h i (by omega)) u h'
    · exact kc_one _ (h n (by omega)) u h'

/-- What an element's slices read. -/
structure KT (w : World) (x : Kx) : Prop where
  a : Reads w x.K x.k.a
  r : Reads w x.D x.k.r
  o : x.k.o < 4294967296
  s : in64 x.k.s
  c : in64 x.k.c
theorem KT.below {w w' : World} {x : Kx} (h : KT w x) (hb : Below w.heap.size w w') : KT w' x := ⟨h.a.below hb, h.r.below hb, h.o, h.s, h.c⟩
theorem KT.drew {w : World} {x : Kx} (h : KT w x) : KT w.drew x := ⟨h.a, h.r, h.o, h.s, h.c⟩
theorem KT.one {w : World} {x : Kx} (h : KT w x) : One x := ⟨h.a.one, h.r.one⟩
/-- A slice of n kept steps. -/
def Ks (w : World) (A : Option Addr) (n : Nat) (X : Nat → Kx) : Prop :=
  (0 < n → ∃ b off, A = some ⟨b, off, none⟩ ∧ ∀ i, i < n → ∀ j, j < 6 → w.cell? ⟨b, off + i * 6 + j, none⟩ = (kc (X i)).toList[j]?) ∧ ∀ i, i < n → KT w (X i)
theorem Ks.below {w w' : World} {A : Option Addr} {n : Nat} {X : Nat → Kx} (h : Ks w A n X) (hb : Below w.heap.size w w') : Ks w' A n X := by
  refine ⟨fun h0 => ?_, fun i hi => (h.2 i hi).below hb⟩
  obtain ⟨b, off, e, hc⟩ := h.1 h0
  refine ⟨b, off, e, fun i hi j hj => ?_⟩
  have := hc i hi j hj
  have hs : (kc (X i)).toList[j]? = some ((kc (X i)).toList[j]'(by simpa using hj)) := List.getElem?_eq_getElem _
  rw [hs] at this ⊢
  rw [hb.cell (block_lt_of_cell this)]
  exact this
theorem Ks.drew {w : World} {A : Option Addr} {n : Nat} {X : Nat → Kx} (h : Ks w A n X) : Ks w.drew A n X := ⟨h.1, fun i hi => (h.2 i hi).drew⟩
theorem Ks.none_ (w : World) (A : Option Addr) (X : Nat → Kx) : Ks w A 0 X := ⟨fun h => by omega, fun i hi => by omega⟩

theorem Ks.at {w : World} {b off n : Nat} {X : Nat → Kx} (h : Ks w (some ⟨b, off, none⟩) n X) (i : Nat) (hi : i < n) :
    w.cell? ⟨b, off + i * 6, none⟩ = some (.int .u32 ((X i).k.o : Int)) ∧ w.cell? ⟨b, off + i * 6 + 1, none⟩ = some (.int .i64 (X i).k.s) ∧ w.cell? ⟨b, off + i * 6 + 2, none⟩ = some (.bool (X i).k.u) ∧ w.cell? ⟨b, off + i * 6 + 3, none⟩ = some ((X i).K) ∧ w.cell? ⟨b, off + i * 6 + 4, none⟩ = some (.int .i64 (X i).k.c) ∧ w.cell? ⟨b, off + i * 6 + 5, none⟩ = some ((X i).D) := by
  obtain ⟨b', off', e, hc⟩ := h.1 (by omega)
  injection e with e
  injection e with e1 e2 _
  subst e1 e2
  exact ⟨hc i hi 0 (by omega), hc i hi 1 (by omega), hc i hi 2 (by omega), hc i hi 3 (by omega), hc i hi 4 (by omega), hc i hi 5 (by omega)⟩
theorem Ks.cellsA {w : World} {A : Option Addr} {n : Nat} {X : Nat → Kx} (h : Ks w A n X) (ad : Addr) (hA : A = some ad) : ∀ j u, (kv n X)[j]? = some u → w.cell? (ad.add j) = some u := by
  intro j u hu
  have hj : j < n * 6 := by have := (List.getElem?_eq_some_iff.1 hu).1; rwa [kv_length] at this
  obtain ⟨b, off, e, hc⟩ := h.1 (by omega)
  rw [hA] at e
  injection e with e
  subst e
  have e6 : j = (j / 6) * 6 + j % 6 := by omega
  have := hc (j / 6) (by omega) (j % 6) (by omega)
  rw [e6, kv_at n X _ _ (by omega) (by omega)] at hu
  rw [add_off, e6, ← Nat.add_assoc, this, hu]
theorem Ks.congr {w : World} {A : Option Addr} {n : Nat} {X X' : Nat → Kx} (h : Ks w A n X) (e : ∀ i, i < n → X i = X' i) : Ks w A n X' := by
  refine ⟨fun h0 => ?_, fun i hi => e i hi ▸ h.2 i hi⟩
  obtain ⟨b, off, e1, hc⟩ := h.1 h0
  exact ⟨b, off, e1, fun i hi j hj => by rw [← e i hi]; exact hc i hi j hj⟩
/-- A fence's list that came in: its value, its length, its elements. -/
def FV (w : World) (A : Option Addr) (n c : Nat) (T : Nat → Kp) : Prop := n ≤ c ∧ c ≤ maxLen ∧ (A = none → c = 0) ∧ ∃ X, Ks w A n X ∧ ∀ i, i < n → (X i).k = T i
theorem FV.below {w w' : World} {A : Option Addr} {n c : Nat} {T : Nat → Kp} (h : FV w A n c T) (hb : Below w.heap.size w w') : FV w' A n c T := by
  obtain ⟨h1, h2, h3, X, h4, h5⟩ := h
  exact ⟨h1, h2, h3, X, h4.below hb, h5⟩
theorem FV.drew {w : World} {A : Option Addr} {n c : Nat} {T : Nat → Kp} (h : FV w A n c T) : FV w.drew A n c T := by
  obtain ⟨h1, h2, h3, X, h4, h5⟩ := h
  exact ⟨h1, h2, h3, X, h4.drew, h5⟩
theorem FV.alloc {w : World} {A : Option Addr} {n c : Nat} {T : Nat → Kp} (h : FV w A n c T) (o : Obj) : FV (w.alloc o) A n c T := h.below (below1 w o)
theorem FV.congr {w : World} {A : Option Addr} {n c : Nat} {T T' : Nat → Kp} (h : FV w A n c T) (e : ∀ i, i < n → T i = T' i) : FV w A n c T' := by
  obtain ⟨h1, h2, h3, X, h4, h5⟩ := h
  exact ⟨h1, h2, h3, X, h4, fun i hi => (h5 i hi).trans (e i hi)⟩
theorem FV.nil (w : World) (T : Nat → Kp) : FV w none 0 0 T := ⟨Nat.le_refl _, by unfold maxLen; omega, fun _ => rfl, fun _ => ⟨kz, .slice none 0 0, .slice none 0 0⟩, Ks.none_ w _ _, fun i hi => by omega⟩
theorem FV.nil_of {w : World} {n c : Nat} {T : Nat → Kp} (h : FV w none n c T) : n = 0 ∧ c = 0 := by
  have := h.2.2.1 rfl
  exact ⟨by have := h.1; omega, this⟩

/-- A row of n kept steps that lies in a block of its own, not below B. -/
def OwnK (w : World) (B : Nat) (v : Value) (n : Nat) (X : Nat → Kx) : Prop := w.ownsRow B 130 6 v n (kv n X)
theorem OwnK.nil (w : World) (B : Nat) (X : Nat → Kx) : OwnK w B (.slice none 0 0) 0 X := ⟨rfl, .inl ⟨rfl, rfl⟩⟩
theorem OwnK.block {w : World} {B : Nat} {v : Value} {n : Nat} {X : Nat → Kx} (h : OwnK w B v n X) : ∀ k, v.ownBlock = some k → B ≤ k := by
  intro k hk
  rcases h.2 with ⟨rfl, _⟩ | ⟨g, cap, cur, rfl, hb, _⟩
  · cases hk
  · simp [Value.ownBlock] at hk; omega
theorem OwnK.blockLt {w : World} {B : Nat} {v : Value} {n : Nat} {X : Nat → Kx} (h : OwnK w B v n X) : ∀ k, v.ownBlock = some k → k < w.heap.size := by
  intro k hk
  rcases h.2 with ⟨rfl, _⟩ | ⟨g, cap, cur, rfl, hb, hg, _⟩
  · cases hk
  · simp [Value.ownBlock] at hk
    subst hk
    exact Lies.lt (t := 130) hg
theorem OwnK.same {w w' : World} {B : Nat} {v : Value} {n : Nat} {X : Nat → Kx} (h : OwnK w B v n X) (hs : ∀ k, v.ownBlock = some k → w'.heap[k]? = w.heap[k]?) : OwnK w' B v n X := by
  obtain ⟨h0, h1⟩ := h
  refine ⟨h0, ?_⟩
  rcases h1 with h1 | ⟨g, cap, cur, hv, hg0, hg, hr⟩
  · exact .inl h1
  · exact .inr ⟨g, cap, cur, hv, hg0, (hs g (by rw [hv]; rfl)).trans hg, hr⟩
theorem OwnK.belowT {w w' : World} {B : Nat} {v : Value} {n : Nat} {X : Nat → Kx} (h : OwnK w B v n X) (hb : Below w.heap.size w w') : OwnK w' B v n X :=
  h.same (fun k hk => hb.block k (h.blockLt k hk))
theorem OwnK.alloc {w : World} {B : Nat} {v : Value} {n : Nat} {X : Nat → Kx} (h : OwnK w B v n X) (o : Obj) : OwnK (w.alloc o) B v n X := h.belowT (below1 w o)
theorem OwnK.drew {w : World} {B : Nat} {v : Value} {n : Nat} {X : Nat → Kx} (h : OwnK w B v n X) : OwnK w.drew B v n X := h
theorem OwnK.mono {w : World} {B B' : Nat} {v : Value} {n : Nat} {X : Nat → Kx} (h : OwnK w B v n X) (hb : B' ≤ B) : OwnK w B' v n X := by
  obtain ⟨h0, h1⟩ := h
  refine ⟨h0, ?_⟩
  rcases h1 with h1 | ⟨g, cap, cur, hv, hg0, hr⟩
  · exact .inl h1
  · exact .inr ⟨g, cap, cur, hv, Nat.le_trans hb hg0, hr⟩
theorem OwnK.congr {w : World} {B : Nat} {v : Value} {n : Nat} {X X' : Nat → Kx} (h : OwnK w B v n X) (hT : ∀ i, i < n → X i = X' i) : OwnK w B v n X' := by
  unfold OwnK; rw [← kv_congr hT]; exact h
theorem OwnK.grows {w w' a : World} {B B0 : Nat} {v : Value} {n : Nat} {X : Nat → Kx} (h : OwnK w B v n X) (hg : w.grownBy w' v.ownBlock) (hb : Below B0 a w) (h1 : B0 ≤ B) (h2 : B0 ≤ w.heap.size) : Below B0 a w' :=
  hb.grown hg h2 (fun k hk => Nat.le_trans h1 (h.block k hk))
theorem OwnK.ne {w : World} {B p : Nat} {v : Value} {n : Nat} {X : Nat → Kx} {t : TypeId} {cs : Array Value} (h : OwnK w B v n X) (hp : Lies w p t cs) (ht : t ≠ 130) : some p ≠ v.ownBlock := by
  rcases h.2 with ⟨rfl, _⟩ | ⟨g, cap, cur, rfl, _, hg, _⟩
  · simp [Value.ownBlock]
  · intro e
    have : p = g := by simpa [Value.ownBlock] using e
    subst this
    unfold Lies at hp
    rw [hg] at hp
    injection hp with hp
    injection hp with _ h2
    exact ht h2.symm
/-- A row of bytes behind an append to a row of kept steps. -/
theorem Own.grownK {w w' : World} {B B' : Nat} {v : Value} {n : Nat} {X : Nat → Kx} {u : Value} {l : List Nat} (h : Own w B u l) (hr : OwnK w B' v n X) (hg : w.grownBy w' v.ownBlock) : Own w' B u l := by
  refine h.grownOther hg (fun g e1 e2 => ?_)
  rcases h.form with ⟨rfl, _⟩ | ⟨g', cap, cur, rfl, _, hL, _⟩
  · cases e1
  · have : g' = g := by simpa [Value.ownBlock] using e1
    subst this
    exact hr.ne hL (by decide) e2.symm

/-- Six cells at a place of a block. -/
abbrev st6 (w : World) (g o : Nat) (a0 a1 a2 a3 a4 a5 : Value) : World := (((((w.setCell ⟨g, o, none⟩ a0).setCell ⟨g, o + 1, none⟩ a1).setCell ⟨g, o + 2, none⟩ a2).setCell ⟨g, o + 3, none⟩ a3).setCell ⟨g, o + 4, none⟩ a4).setCell ⟨g, o + 5, none⟩ a5
theorem Lies.st6_other {w : World} {g g' o : Nat} {t : TypeId} {cs : Array Value} (h : Lies w g t cs) (hn : g ≠ g') (a0 a1 a2 a3 a4 a5 : Value) : Lies (st6 w g' o a0 a1 a2 a3 a4 a5) g t cs := ((((((h.other (a := ⟨g', o, none⟩) hn a0).other (a := ⟨g', o + 1, none⟩) hn a1).other (a := ⟨g', o + 2, none⟩) hn a2).other (a := ⟨g', o + 3, none⟩) hn a3).other (a := ⟨g', o + 4, none⟩) hn a4).other (a := ⟨g', o + 5, none⟩) hn a5)
theorem below_st6 {B g o : Nat} {w0 w : World} (h : Below B w0 w) (hg : B ≤ g) (a0 a1 a2 a3 a4 a5 : Value) : Below B w0 (st6 w g o a0 a1 a2 a3 a4 a5) := ((((((h.setCell (p := ⟨g, o, none⟩) hg a0).setCell (p := ⟨g, o + 1, none⟩) hg a1).setCell (p := ⟨g, o + 2, none⟩) hg a2).setCell (p := ⟨g, o + 3, none⟩) hg a3).setCell (p := ⟨g, o + 4, none⟩) hg a4).setCell (p := ⟨g, o + 5, none⟩) hg a5)
theorem getElem_st6 (cur : Array Value) (o : Nat) (a0 a1 a2 a3 a4 a5 : Value) (ho : o + 6 ≤ cur.size) (k : Nat) :
    (((((((cur.setIfInBounds (o) a0).setIfInBounds (o + 1) a1).setIfInBounds (o + 2) a2).setIfInBounds (o + 3) a3).setIfInBounds (o + 4) a4).setIfInBounds (o + 5) a5))[k]? = if k = o then some a0 else if k = o + 1 then some a1 else if k = o + 2 then some a2 else if k = o + 3 then some a3 else if k = o + 4 then some a4 else if k = o + 5 then some a5 else cur[k]? := by
  simp only [Array.getElem?_setIfInBounds, Array.size_setIfInBounds]
  by_cases h0 : k = o
  · subst h0; simp; omega
  · by_cases h1 : k = o + 1
    · subst h1; simp; omega
    · by_cases h2 : k = o + 2
      · subst h2; simp; omega
      · by_cases h3 : k = o + 3
        · subst h3; simp; omega
        · by_cases h4 : k = o + 4
          · subst h4; simp; omega
          · by_cases h5 : k = o + 5
            · subst h5; simp; omega
            · rw [if_neg (by omega), if_neg (by omega), if_neg (by omega), if_neg (by omega), if_neg (by omega), if_neg (by omega), if_neg h0, if_neg h1, if_neg h2, if_neg h3, if_neg h4, if_neg h5]
/-- What can be said of the slice itself. -/
theorem OwnK.slice {w : World} {B : Nat} {v : Value} {n : Nat} {X : Nat → Kx} (h : OwnK w B v n X) :
    ∃ A c, v = .slice A n c ∧ n ≤ c ∧ c ≤ maxLen ∧ (A = none → c = 0) ∧ (0 < n → ∃ b off, A = some ⟨b, off, none⟩ ∧ off = 0 ∧ B ≤ b ∧ b < w.heap.size) := by
  rcases h.2 with ⟨h1, h2⟩ | ⟨g, cap, cur, hv, hb, hg, hn, hm, _⟩
  · subst h2
    exact ⟨none, 0, h1, by omega, by unfold maxLen; omega, fun _ => rfl, fun h => by omega⟩
  · exact ⟨_, cap, hv, hn, hm, fun h => (by cases h), fun _ => ⟨g, 0, rfl, rfl, hb, Lies.lt (t := 130) hg⟩⟩
theorem OwnK.ks {w : World} {B c : Nat} {A : Option Addr} {n : Nat} {X : Nat → Kx} (h : OwnK w B (.slice A n c) n X) (hk : ∀ i, i < n → KT w (X i)) : Ks w A n X := by
  refine ⟨fun h0 => ?_, hk⟩
  rcases h.2 with ⟨h1, h2⟩ | ⟨g, cap, cur, hv, hb, hg, hn, hm, hs, ht⟩
  · omega
  · injection hv with q1 q2 q3
    refine ⟨g, 0, q1, fun i hi j hj => ?_⟩
    rw [Lies.cell (t := 130) hg, Nat.zero_add, ← kv_at n X i j hi hj, ← ht, List.getElem?_take, if_pos (by omega), Array.getElem?_toList]
theorem OwnK.free {w : World} {B b off c : Nat} {n : Nat} {X : Nat → Kx} (h : OwnK w B (.slice (some ⟨b, off, none⟩) n c) n X) (k : Nat) : w.frozen? ⟨b, k, none⟩ = false := by
  rcases h.2 with ⟨h1, h2⟩ | ⟨g, cap, cur, hv, hb, hg, hn, hm, hs, ht⟩
  · cases h1
  · injection hv with q1 q2 q3
    injection q1 with q1
    injection q1 with q1 q4 _
    subst q1
    exact Lies.free (t := 130) hg _
/-- The cells of the element at place i. -/
theorem OwnK.at {w : World} {B b off c : Nat} {n : Nat} {X : Nat → Kx} (h : OwnK w B (.slice (some ⟨b, off, none⟩) n c) n X) (i : Nat) (hi : i < n) :
    (w.cell? ⟨b, off + i * 6, none⟩ = some (.int .u32 ((X i).k.o : Int)) ∧ w.cell? ⟨b, off + i * 6 + 1, none⟩ = some (.int .i64 (X i).k.s) ∧ w.cell? ⟨b, off + i * 6 + 2, none⟩ = some (.bool (X i).k.u) ∧ w.cell? ⟨b, off + i * 6 + 3, none⟩ = some ((X i).K) ∧ w.cell? ⟨b, off + i * 6 + 4, none⟩ = some (.int .i64 (X i).k.c) ∧ w.cell? ⟨b, off + i * 6 + 5, none⟩ = some ((X i).D)) ∧
    (w.frozen? ⟨b, off + i * 6, none⟩ = false ∧ w.frozen? ⟨b, off + i * 6 + 1, none⟩ = false ∧ w.frozen? ⟨b, off + i * 6 + 2, none⟩ = false ∧ w.frozen? ⟨b, off + i * 6 + 3, none⟩ = false ∧ w.frozen? ⟨b, off + i * 6 + 4, none⟩ = false ∧ w.frozen? ⟨b, off + i * 6 + 5, none⟩ = false) := by
  rcases h.2 with ⟨h1, h2⟩ | ⟨g, cap, cur, hv, hb, hg, hn, hm, hs, ht⟩
  · cases h1
  · injection hv with q1 q2 q3
    injection q1 with q1
    injection q1 with q1 q4 _
    subst q1 q4
    have e : ∀ j, j < 6 → w.cell? ⟨b, 0 + i * 6 + j, none⟩ = (kc (X i)).toList[j]? := fun j hj => by
      rw [Lies.cell (t := 130) hg, Nat.zero_add, ← kv_at n X i j hi hj, ← ht, List.getElem?_take, if_pos (by omega), Array.getElem?_toList]
    exact ⟨⟨e 0 (by omega), e 1 (by omega), e 2 (by omega), e 3 (by omega), e 4 (by omega), e 5 (by omega)⟩, Lies.free (t := 130) hg _, Lies.free (t := 130) hg _, Lies.free (t := 130) hg _, Lies.free (t := 130) hg _, Lies.free (t := 130) hg _, Lies.free (t := 130) hg _⟩
/-- An element is stored at place i. -/
theorem OwnK.set {w : World} {B b off c : Nat} {n : Nat} {X : Nat → Kx} (h : OwnK w B (.slice (some ⟨b, off, none⟩) n c) n X) (i : Nat) (hi : i < n) (x : Kx) :
    OwnK (st6 w b (off + i * 6) (.int .u32 (x.k.o : Int)) (.int .i64 x.k.s) (.bool x.k.u) (x.K) (.int .i64 x.k.c) (x.D)) B (.slice (some ⟨b, off, none⟩) n c) n (fun j => if j = i then x else X j) := by
  refine ⟨kv_length _ _, ?_⟩
  rcases h.2 with ⟨h1, h2⟩ | ⟨g, cap, cur, hv, hb, hg, hn, hm, hs, ht⟩
  · cases h1
  · have hv' := hv
    injection hv with q1 q2 q3
    injection q1 with q1
    injection q1 with q1 q4 _
    subst q1 q4 q3
    rw [Nat.zero_add]
    refine .inr ⟨b, c, _, rfl, hb, (((((Lies.put (t := 130) hg (i * 6) _).put (i * 6 + 1) _).put (i * 6 + 2) _).put (i * 6 + 3) _).put (i * 6 + 4) _).put (i * 6 + 5) _, hn, hm, by simpa using hs, ?_⟩
    refine kv_ext (by simp [hs]; omega) (fun k j hk hj => ?_)
    rw [List.getElem?_take, if_pos (by omega), Array.getElem?_toList, getElem_st6 _ _ _ _ _ _ _ _ (by rw [hs]; omega)]
    by_cases hki : k = i
    · subst hki
      rw [if_pos rfl]
      rcases j with _ | _ | _ | _ | _ | _ | j
      · rw [if_pos (by omega)]; rfl
      · rw [if_neg (by omega), if_pos (by omega)]; rfl
      · rw [if_neg (by omega), if_neg (by omega), if_pos (by omega)]; rfl
      · rw [if_neg (by omega), if_neg (by omega), if_neg (by omega), if_pos (by omega)]; rfl
      · rw [if_neg (by omega), if_neg (by omega), if_neg (by omega), if_neg (by omega), if_pos (by omega)]; rfl
      · rw [if_neg (by omega), if_neg (by omega), if_neg (by omega), if_neg (by omega), if_neg (by omega), if_pos (by omega)]; rfl
      · omega
    · rw [if_neg (by omega), if_neg (by omega), if_neg (by omega), if_neg (by omega), if_neg (by omega), if_neg (by omega), if_neg hki, ← kv_at n X k j hk hj, ← ht, List.getElem?_take, if_pos (by omega), Array.getElem?_toList]

def zK : Value := .agg #[.int .u32 0, .int .i64 0, .bool false, .slice none 0 0, .int .i64 0, .slice none 0 0]
/-- 'append' of kept steps onto a row of the call's own. -/
theorem wpl_appendK {ops : Array Oper} {rest : List Oper} {a : Act} {w : World} {Q : Exit → Act → World → Prop} (dst : Option Tmp) (ty : TypeId) (pos : String) (aft : Array Edge) (s x : Operand)
    (B : Nat) (v : Value) (n : Nat) (X : Nat → Kx) (A : Option Addr) (m c : Nat) (Y : Nat → Kx)
    (hs : a.eval s = v) (hx : a.eval x = .slice A m c) (hown : OwnK w B v n X) (hsrc : Ks w A m Y) (hA : A = none → c = 0 ∧ m = 0) (hsm : n + m ≤ 100000) (hB : B ≤ w.heap.size)
    (h : ∀ v' w', OwnK w' B v' (n + m) (fun i => if i < n then X i else Y (i - n)) → w.grownBy w' v.ownBlock → (v'.ownBlock = v.ownBlock ∨ v'.ownBlock = some w.heap.size) → wpList Tryz.prog ops Q rest (a.put dst v') w') :
    wpList Tryz.prog ops Q (⟨dst, .call { callee := .builtin .append, args := #[s, x], argTypes := #[62, 62] }, ty, pos, aft, none⟩ :: rest) a w := by
  rcases A with _ | ad
  · obtain ⟨hc0, hm⟩ := hA rfl
    subst hm hc0
    refine wpList_append_own_none (o := ⟨dst, .call { callee := .builtin .append, args := #[s, x], argTypes := #[62, 62] }, ty, pos, aft, none⟩) rfl s x 62 rfl B 130 _ 6 Tryz.underlying62 Tryz.type130 v n (kv n X) hs hown hx ?_
    exact h v w (hown.congr (fun i hi => by rw [if_pos hi])) (World.grownBy.refl w _) (.inl rfl)
  · refine wpList_append_own_at (w := w) (o := ⟨dst, .call { callee := .builtin .append, args := #[s, x], argTypes := #[62, 62] }, ty, pos, aft, none⟩) rfl s x 62 rfl B 130 _ zK 6 80 Tryz.underlying62 Tryz.type130 rfl rfl rfl rfl (by decide) v n (kv n X) hs hown
      ad m c (kv m Y) hx (by rw [kv_length]) (hsrc.cellsA ad rfl) (kv_one m Y (fun i hi => (hsrc.2 i hi).one)) (by unfold maxLen; omega) (by omega) hB ?_
    intro v' w' h1 h2 _ h4
    refine h v' w' ?_ h2 h4
    unfold OwnK
    rw [← kv_add]
    exact h1
/-- 'append' of one kept step where the order is open. -/
theorem stp_appendK {ops : Array Oper} {a : Act} {w : World} {K : Act → World → Prop} {Q : Exit → Act → World → Prop} {E : Prop} (dst : Option Tmp) (ty : TypeId) (pos : String) (aft : Array Edge) (s x : Operand)
    (B : Nat) (v : Value) (n : Nat) (X : Nat → Kx) (g0 : Nat) (y : Kx)
    (hs : a.eval s = v) (hx : a.eval x = .slice (some ⟨g0, 0, none⟩) 1 1) (hown : OwnK w B v n X) (hg : Lies w g0 130 (kc y)) (hy : One y) (hsm : n ≤ 100000) (hB : B ≤ w.heap.size)
    (h : ∀ g cap w', OwnK w' B (.slice (some ⟨g, 0, none⟩) (n + 1) cap) (n + 1) (fun i => if i = n then y else X i) → w.grownBy w' v.ownBlock → (v.ownBlock = some g ∨ g = w.heap.size) → K (a.put dst (.slice (some ⟨g, 0, none⟩) (n + 1) cap)) w') :
    if Region.wanted ⟨dst, .call { callee := .builtin .append, args := #[s, x], argTypes := #[62, 62] }, ty, pos, aft, none⟩ (yielded ops a.tmps) = true then Oper.wp Tryz.prog ⟨dst, .call { callee := .builtin .append, args := #[s, x], argTypes := #[62, 62] }, ty, pos, aft, none⟩ a w K Q else E := by
  refine step_append_lies w (o := ⟨dst, .call { callee := .builtin .append, args := #[s, x], argTypes := #[62, 62] }, ty, pos, aft, none⟩) rfl s x 62 rfl B 130 _ zK 6 80 Tryz.underlying62 Tryz.type130 rfl rfl rfl rfl (by decide) v n (kv n X) hs hown
      ⟨g0, 0, none⟩ 1 1 (kc y).toList hx rfl (fun j u hu => by rw [add_off, Nat.zero_add, hg.cell]; simpa using hu) (kc_one y hy) (by decide) (by unfold maxLen; omega) (by omega) hB w.heap.size rfl ?_
  intro g cap w' h1 h2 h3 _
  refine h g cap w' ?_ h2 h3
  unfold OwnK
  rw [kv_succ, if_pos rfl, ← kv_congr (n := n) (X := X) (fun i hi => by rw [if_neg (by omega)])]
  exact h1

/-- A list that a call has made: its row and its texts lie in blocks of their own, each in one. -/
structure NF (w : World) (B : Nat) (v : Value) (n : Nat) (X : Nat → Kx) : Prop where
  row : OwnK w B v n X
  a : ∀ i, i < n → Own w B (X i).K (X i).k.a
  r : ∀ i, i < n → Own w B (X i).D (X i).k.r
  b : ∀ i, i < n → (X i).k.o < 4294967296 ∧ in64 (X i).k.s ∧ in64 (X i).k.c
  da : ∀ i j, i < n → j < i → ∀ g, (X j).K.ownBlock = some g → (X i).K.ownBlock ≠ some g
  dr : ∀ i j, i < n → j < i → ∀ g, (X j).D.ownBlock = some g → (X i).D.ownBlock ≠ some g
theorem NF.nil (w : World) (B : Nat) (X : Nat → Kx) : NF w B (.slice none 0 0) 0 X := ⟨OwnK.nil w B X, fun i hi => (by omega), fun i hi => (by omega), fun i hi => (by omega), fun i j hi => (by omega), fun i j hi => (by omega)⟩
theorem NF.kt {w : World} {B : Nat} {v : Value} {n : Nat} {X : Nat → Kx} (h : NF w B v n X) : ∀ i, i < n → KT w (X i) := fun i hi => ⟨(h.a i hi).reads, (h.r i hi).reads, (h.b i hi).1, (h.b i hi).2.1, (h.b i hi).2.2⟩
theorem NF.below {w w' : World} {B : Nat} {v : Value} {n : Nat} {X : Nat → Kx} (h : NF w B v n X) (hb : Below w.heap.size w w') : NF w' B v n X :=
  ⟨h.row.belowT hb, fun i hi => (h.a i hi).belowOwn hb, fun i hi => (h.r i hi).belowOwn hb, h.b, h.da, h.dr⟩
theorem NF.mono {w : World} {B B' : Nat} {v : Value} {n : Nat} {X : Nat → Kx} (h : NF w B v n X) (hb : B' ≤ B) : NF w B' v n X :=
  ⟨h.row.mono hb, fun i hi => (h.a i hi).mono hb, fun i hi => (h.r i hi).mono hb, h.b, h.da, h.dr⟩
theorem NF.fv {w : World} {B : Nat} {v : Value} {n : Nat} {X : Nat → Kx} {T : Nat → Kp} (h : NF w B v n X) (e : ∀ i, i < n → (X i).k = T i) : ∃ A c, v = .slice A n c ∧ FV w A n c T := by
  obtain ⟨A, c, rfl, h1, h2, h3, _⟩ := h.row.slice
  exact ⟨A, c, rfl, h1, h2, h3, X, h.row.ks h.kt, e⟩

end Go.Proofs.YtpbclmnhkmcknaaGreat.Fe

namespace Go.Proofs.YtpbclmnhkmcknaaGreat.Fe
open Go.RowKit
set_option linter.unusedVariables false

def one : Nat → Bool := fun n => n == 1
abbrev nilV : Value := .slice none 0 0
/-- All blocks but two are as they were. -/
structure Still (p q : Nat) (w w' : World) : Prop where
  os : w'.os = w.os
  tape : w'.tape = w.tape
  output : w'.output = w.output
  size : w.heap.size ≤ w'.heap.size
  block : ∀ k, k < w.heap.size → k ≠ p → k ≠ q → w'.heap[k]? = w.heap[k]?
theorem Still.below {p q B : Nat} {w w' : World} (h : Still p q w w') (hp : B ≤ p) (hq : B ≤ q) (hB : B ≤ w.heap.size) : Below B w w' :=
  ⟨h.os, h.tape, h.output, h.size, fun k hk => h.block k (by omega) (by omega) (by omega)⟩
theorem Still.lies {p q : Nat} {w w' : World} (h : Still p q w w') {g : Nat} {t : TypeId} {cs : Array Value} (hp : g ≠ p) (hq : g ≠ q) (hL : Lies w g t cs) : Lies w' g t cs := (h.block g hL.lt hp hq).trans hL
theorem Still.it {p q : Nat} {w w' : World} (h : Still p q w w') {k : Nat} {s : List Nat} {j : Nat} (hp : k ≠ p) (hq : k ≠ q) (hI : It w k s j) : It w' k s j := (h.block k hI.lt hp hq).trans hI
theorem Still.of {p q o : Nat} {w w' : World} (h : w.grownBy w' (some p)) (v : Value) : Still p q w (w'.setCell ⟨q, o, none⟩ v) :=
  ⟨h.os, h.tape, h.output, by simpa [World.setCell] using h.size, fun k hk hp hq => (heap_setCell_other w' ⟨q, o, none⟩ k v hq).trans (h.block k hk (fun e => hp (by injection e)))⟩
theorem Rd.setq {T : TypeId} {w : World} {p q : Nat} {s : Ent.St} {l : List Nat} (h : Rd T w p s l) (hpq : p < q) (o : Nat) (u : Value) : Rd T (w.setCell ⟨q, o, none⟩ u) p s l := by
  obtain ⟨A, c, hL, hB, h3, h4⟩ := h
  exact ⟨A, c, hL.other (a := ⟨q, o, none⟩) (by show p ≠ q; omega) u, hB.setOther (fun ad e => by have := h3 ad e; omega) u, h3, h4⟩
/-- A note lies at q, its texts are the call's own, the reader is at its place. -/
def NoteAt (w : World) (p q B0 : Nat) (l : List Nat) (x : Note × Ent.St) : Prop :=
  ∃ K D, Lies w q 55 (evs x.1 K D) ∧ Own w B0 K x.1.key ∧ Own w B0 D x.1.data ∧ (∀ g, K.ownBlock = some g → D.ownBlock ≠ some g) ∧ Rd 166 w p x.2 l
def ReadPost (w : World) (p q B0 : Nat) (l : List Nat) (x : Note × Ent.St) (y : Ending) (w' : World) : Prop :=
  y = .returned (.tuple #[]) ∧ NoteAt w' p q B0 l x ∧ Still p q w w'
theorem read_close {w w1 : World} {p q B0 i : Nat} {l : List Nat} {s1 : Ent.St} {e e' : Note} {K D K' D' v : Value} (hR1 : Rd 166 w1 p s1 l) (hg1 : w.grownBy w1 (some p)) (hE : Lies w q 55 (evs e K D)) (hpq : p < q)
    (hput : (evs e K D).setIfInBounds i v = evs e' K' D') (hK : Own w1 B0 K' e'.key) (hD : Own w1 B0 D' e'.data) (hne : ∀ g, K'.ownBlock = some g → D'.ownBlock ≠ some g) :
    ReadPost w p q B0 l (e', s1) (.returned (.tuple #[])) (w1.setCell ⟨q, i, none⟩ v) := by
  have hL := hE.grown hg1 (fun h => by injection h; omega)
  refine ⟨rfl, ⟨K', D', ?_, hK.setOther (a := ⟨q, i, none⟩) (hK.ne hL (by decide)) v, hD.setOther (a := ⟨q, i, none⟩) (hD.ne hL (by decide)) v, hne, hR1.setq hpq i v⟩, Still.of hg1 v⟩
  show Lies _ q 55 (evs e' K' D')
  rw [← hput]
  exact hL.put i v
theorem Rd.own_ne {w : World} {p B0 : Nat} {s : Ent.St} {l : List Nat} {v : Value} {x : List Nat} (h : Rd 166 w p s l) (hO : Own w B0 v x) : ∀ g, v.ownBlock = some g → some p ≠ some g := fun g hg e => by
  obtain ⟨A, c, hL, _⟩ := h
  exact hO.ne hL (by decide) (e.trans hg.symm)

end Go.Proofs.YtpbclmnhkmcknaaGreat.Fe
