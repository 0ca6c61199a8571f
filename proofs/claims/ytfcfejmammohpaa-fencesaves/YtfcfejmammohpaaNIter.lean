/-
  A range over a text of letters: the iterator, and what stays while it moves.
-/
import Derived.Test.YtfcfejmammohpaaNBox
import Derived.Test.YtfcfejmammohpaaRd2
import Derived.Test.YtfcfejmammohpaaOwnMem
namespace Go.Proofs.Ytfcfejmammohpaa
open Go.RowKit
set_option maxRecDepth 100000

theorem str_size (l : List Nat) : (str l).size = l.length := by
  have := congrArg List.length (str_data l)
  simpa using this
theorem str_at (l : List Nat) (hl : ∀ c ∈ l, c < 128) (i : Nat) (h : i < (str l).size) : ((str l)[i]'h).toNat = l.getD i 0 := by
  have hi : i < l.length := by rw [← str_size]; exact h
  have e : (str l)[i]'h = UInt8.ofNat l[i] := by
    show (str l).data[i] = _
    have h2 : (str l).data.toList[i]'(by rw [str_data]; simpa using hi) = UInt8.ofNat l[i] := by
      simp only [str_data, List.getElem_map]
    rw [← h2, Array.getElem_toList]
  rw [e]
  have : l[i] < 128 := hl _ (List.getElem_mem hi)
  simp [List.getD, hi]
  omega
/-- The iterator at block k, over the text of these letters, ahead of letter j. -/
def It (w : World) (k : Nat) (s : List Nat) (j : Nat) : Prop := w.heap[k]? = some (.stringIter (str s) j)
abbrev mv (w : World) (k : Nat) (s : List Nat) (j : Nat) : World := w.iterAt k (str s) j
theorem next_str {w : World} {k : Nat} {s : List Nat} {j : Nat} (h : It w k s j) (hj : j < s.length) (hs : ∀ c ∈ s, c < 128) (ty : TypeId) :
    (Instr.next (.pointer (some ⟨k, 0, none⟩)) true ty).run Try.prog w = .ok (.tuple #[.bool true, .int .i64 (j : Nat), .int .i32 ((s.getD j 0 : Nat) : Int)]) (mv w k s (j + 1)) := by
  have hsz : j < (str s).size := by rw [str_size]; exact hj
  have hb := str_at s hs j hsz
  have hl : s.getD j 0 < 128 := by
    rw [List.getD_eq_getElem?_getD, List.getElem?_eq_getElem hj]; exact hs _ (List.getElem_mem hj)
  rw [Lib.run_next_ascii_at w k (str s) j ty h hsz (by rw [hb]; exact hl), hb]
theorem next_fin {w : World} {k : Nat} {s : List Nat} {j : Nat} (h : It w k s j) (hj : ¬ j < s.length) (ty : TypeId) :
    (Instr.next (.pointer (some ⟨k, 0, none⟩)) true ty).run Try.prog w = .ok (.tuple #[.bool false]) w :=
  Lib.run_next_end_at w k (str s) j ty h (by rw [str_size]; exact hj)
theorem It.made (w : World) (s : List Nat) : It (w.iter (str s) 0) w.heap.size s 0 := World.iter_heap w (str s) 0
theorem It.mv {w : World} {k : Nat} {s : List Nat} {j : Nat} (h : It w k s j) (j' : Nat) : It (mv w k s j') k s j' := Lib.iterAt_heap w k (str s) j j' h
theorem It.lt {w : World} {k : Nat} {s : List Nat} {j : Nat} (h : It w k s j) : k < w.heap.size := heap_lt h
theorem It.below {w w' : World} {k B : Nat} {s : List Nat} {j : Nat} (h : It w k s j) (hb : Below B w w') (hk : k < B) : It w' k s j := (hb.block k hk).trans h
theorem It.keep {w w' : World} {k : Nat} {s : List Nat} {j : Nat} (h : It w k s j) (hk : Keep w w') : It w' k s j := hk.iter h
theorem It.pos {w : World} {k : Nat} {s : List Nat} {j : Nat} (h : It w k s j) : w.iterPos k = j := by
  unfold World.iterPos
  unfold It at h
  rw [h]
theorem It.grown {w w' : World} {k : Nat} {s : List Nat} {j : Nat} {r : Option Nat} (h : It w k s j) (hg : w.grownBy w' r) (hr : some k ≠ r) : It w' k s j := (hg.block k h.lt hr).trans h
/-- Nothing else changes. -/
theorem mv_grown (w : World) (k : Nat) (s : List Nat) (j : Nat) : w.grownBy (mv w k s j) (some k) :=
  ⟨rfl, rfl, rfl, by rw [Lib.iterAt_size]; exact Nat.le_refl _, fun i _ hne => Lib.iterAt_other w k i (str s) j (fun e => hne (by rw [e]))⟩
theorem It.ne {w : World} {k : Nat} {s : List Nat} {j g : Nat} {t : TypeId} {cs : Array Value} (h : It w k s j) (hL : Lies w g t cs) : g ≠ k := by
  intro e
  subst e
  unfold Lies at hL
  unfold It at h
  rw [h] at hL
  cases hL
theorem Lies.mv {w : World} {g : Nat} {t : TypeId} {cs : Array Value} (h : Lies w g t cs) {k : Nat} {s : List Nat} {j : Nat} (hk : It w k s j) (j' : Nat) : Lies (mv w k s j') g t cs :=
  h.grown (mv_grown w k s j') (fun e => hk.ne h (by injection e))
theorem Own.mv {w : World} {B : Nat} {v : Value} {l : List Nat} (h : Own w B v l) {k : Nat} {s : List Nat} {j : Nat} (hk : It w k s j) (j' : Nat) : Own (mv w k s j') B v l := by
  refine h.grownOther (mv_grown w k s j') (fun g hg e => ?_)
  injection e with e
  subst e
  rcases h.1.2 with ⟨rfl, _⟩ | ⟨g', cap, cur, rfl, _, hgg, _⟩
  · cases hg
  · have : g' = k := by simpa [Value.ownBlock] using hg
    subst this
    exact hk.ne (t := 5) hgg rfl
theorem Wr.mv {w : World} {p B : Nat} {l : List Nat} (h : Wr w p B l) {k : Nat} {s : List Nat} {j : Nat} (hk : It w k s j) (j' : Nat) : Wr (mv w k s j') p B l := by
  obtain ⟨h1, v, h2, h3⟩ := h
  exact ⟨h1, v, h2.mv hk j', h3.mv hk j'⟩
theorem below_mv {B : Nat} {a w : World} (h : Below B a w) {k : Nat} (hk : B ≤ k) (s : List Nat) (j : Nat) : Below B a (mv w k s j) := Lib.below_iterAt h hk (str s) j
theorem Bys.grownOther {w w' : World} {a : Option Addr} {n : Nat} {l : List Nat} {r : Option Nat} (h : Bys w a n l) (hg : w.grownBy w' r) (hne : ∀ ad, a = some ad → 0 < n → r ≠ some ad.block) : Bys w' a n l := by
  obtain ⟨h1, h2, h3⟩ := h
  refine ⟨h1, h2, fun h0 => ?_⟩
  obtain ⟨b, off, e, hc⟩ := h3 h0
  refine ⟨b, off, e, fun i hi => ?_⟩
  have hcell := hc i hi
  rw [← hcell]
  unfold World.cell?
  rw [hg.block b (by have := block_lt_of_cell hcell; simpa using this) (fun e2 => hne _ e h0 e2.symm)]
theorem Bys.mv {w : World} {a : Option Addr} {n : Nat} {l : List Nat} (h : Bys w a n l) {k : Nat} {s : List Nat} {j : Nat} (hk : It w k s j) (j' : Nat) : Bys (mv w k s j') a n l := by
  refine h.grownOther (mv_grown w k s j') (fun ad e h0 e2 => ?_)
  obtain ⟨b, off, e3, hc⟩ := h.2.2 h0
  rw [e] at e3
  injection e3 with e3
  subst e3
  injection e2 with e2
  have hcell := hc 0 h0
  unfold World.cell? at hcell
  have e2 : k = b := e2
  subst e2
  unfold It at hk
  rw [hk] at hcell
  cases hcell
theorem Rd.mv {T : TypeId} {w : World} {p : Nat} {s : Ent.St} {l : List Nat} (h : Rd T w p s l) {k : Nat} {c : List Nat} {j : Nat} (hk : It w k c j) (j' : Nat) : Rd T (mv w k c j') p s l := by
  obtain ⟨A, c', hL, hB, h3⟩ := h
  exact ⟨A, c', hL.mv hk j', hB.mv hk j', h3⟩
theorem Keep.mv {a w : World} {k : Nat} {s : List Nat} {j : Nat} (h : Keep a w) (hk : It w k s j) (hn : ∀ o, a.heap[k]? = some o → ¬ Aside o) (j' : Nat) : Keep a (mv w k s j') := fun g o h1 h3 => by
  have hh := h g o h1 h3
  refine ((mv_grown w k s j').block g (heap_lt hh) (fun e => ?_)).trans hh
  injection e with e
  subst e
  exact hn _ h3 h1

end Go.Proofs.Ytfcfejmammohpaa
