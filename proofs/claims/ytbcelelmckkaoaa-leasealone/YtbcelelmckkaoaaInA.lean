/-
  Asks that came in.
-/
import Derived.Test.YtbcelelmckkaoaaIn
namespace Go.Proofs.Ytbcelelmckkaoaa
open Go.RowKit Go.ChangeShapes Go.WideShapes

section
variable {H : Type} {enc : TypeId × Value → H} {w : World}

theorem in_u16 {fuel : Nat} {c : Value} {x : DataW H × List MemPlace} (h : DataW.trod enc Try.prog w 0 (fun _ => true) true fuel 50 [c] = some x) : ∃ n : Nat, c = .int .u16 (n : Nat) ∧ n < 65536 := by
  obtain ⟨z, h1, _, h2⟩ := DataW.trod_int Try.underlying50 h
  simp only [List.cons.injEq, and_true] at h1
  have := bounds_u16 h2
  exact ⟨z.toNat, by rw [h1, Int.toNat_of_nonneg this.1], by omega⟩

set_option maxRecDepth 100000 in
/-- An ask's cells, one by one. -/
theorem in_ask {fuel : Nat} {cs : List Value} {x : DataW H × List MemPlace} (h : DataW.trod enc Try.prog w 0 (fun _ => true) true fuel 52 cs = some x) :
    ∃ (kind : Int) (wt : Nat) (wh : Int) (ln : Nat) (md : Int), cs = [.int .i64 kind, .int .u16 (wt : Int), .int .i64 wh, .int .u16 (ln : Int), .int .i64 md] ∧ wt < 65536 ∧ ln < 65536 := by
  have k50 : Try.prog.cellsOf 50 = 1 := by kernel_rfl
  have k3 : Try.prog.cellsOf 3 = 1 := by kernel_rfl
  have k52 : Try.prog.cellsOf 52 = 5 := by kernel_rfl
  obtain ⟨xs, n, _, _, hlen, hxl, hg⟩ := DataW.trod_struct Try.underlying52 h
  rw [k52] at hlen
  match cs, hlen, xs, hxl with
  | [c0, c1, c2, c3, c4], _, [y0, y1, y2, y3, y4], _ =>
    have t0 : DataW.trod enc Try.prog w 0 (fun _ => true) true n 3 [c0] = some y0 := by
      have := hg 0 _ rfl
      change DataW.trod enc Try.prog w 0 (fun _ => true) true n 3 (([c0, c1, c2, c3, c4].drop 0).take (Try.prog.cellsOf 3)) = some y0 at this
      rw [k3] at this
      exact this
    have t1 : DataW.trod enc Try.prog w 0 (fun _ => true) true n 50 [c1] = some y1 := by
      have := hg 1 _ rfl
      change DataW.trod enc Try.prog w 0 (fun _ => true) true n 50 (([c0, c1, c2, c3, c4].drop 1).take (Try.prog.cellsOf 50)) = some y1 at this
      rw [k50] at this
      exact this
    have t2 : DataW.trod enc Try.prog w 0 (fun _ => true) true n 3 [c2] = some y2 := by
      have := hg 2 _ rfl
      change DataW.trod enc Try.prog w 0 (fun _ => true) true n 3 (([c0, c1, c2, c3, c4].drop 2).take (Try.prog.cellsOf 3)) = some y2 at this
      rw [k3] at this
      exact this
    have t3 : DataW.trod enc Try.prog w 0 (fun _ => true) true n 50 [c3] = some y3 := by
      have := hg 3 _ rfl
      change DataW.trod enc Try.prog w 0 (fun _ => true) true n 50 (([c0, c1, c2, c3, c4].drop 3).take (Try.prog.cellsOf 50)) = some y3 at this
      rw [k50] at this
      exact this
    have t4 : DataW.trod enc Try.prog w 0 (fun _ => true) true n 3 [c4] = some y4 := by
      have := hg 4 _ rfl
      change DataW.trod enc Try.prog w 0 (fun _ => true) true n 3 (([c0, c1, c2, c3, c4].drop 4).take (Try.prog.cellsOf 3)) = some y4 at this
      rw [k3] at this
      exact this
    obtain ⟨z0, rfl, b0⟩ := in_i64 t0
    obtain ⟨z1, rfl, b1⟩ := in_u16 t1
    obtain ⟨z2, rfl, b2⟩ := in_i64 t2
    obtain ⟨z3, rfl, b3⟩ := in_u16 t3
    obtain ⟨z4, rfl, b4⟩ := in_i64 t4
    exact ⟨z0, z1, z2, z3, z4, rfl, b1, b3⟩
end

/-- A slice of asks that came in. -/
def InAsks (w : World) (a : Option Addr) (len cap : Nat) : Prop :=
  len ≤ cap ∧ cap ≤ maxLen ∧ (0 < len → ∃ b off, a = some ⟨b, off, none⟩ ∧ ∀ i, i < len → ∃ (kind : Int) (wt : Nat) (wh : Int) (ln : Nat) (md : Int), (wt < 65536 ∧ ln < 65536) ∧
    w.cell? ⟨b, off + i * 5, none⟩ = some (.int .i64 kind) ∧ w.cell? ⟨b, off + i * 5 + 1, none⟩ = some (.int .u16 (wt : Int)) ∧ w.cell? ⟨b, off + i * 5 + 2, none⟩ = some (.int .i64 wh) ∧ w.cell? ⟨b, off + i * 5 + 3, none⟩ = some (.int .u16 (ln : Int)) ∧ w.cell? ⟨b, off + i * 5 + 4, none⟩ = some (.int .i64 md))

section
variable {H : Type} {enc : TypeId × Value → H} {w : World}
set_option maxRecDepth 100000 in
theorem in_asks {a : Option Addr} {len cap : Nat} {d : DataW H} {p : List MemPlace} (h : DataW.Trod enc Try.prog w 0 (fun _ => true) true 43 (.slice a len cap) d p) :
    InAsks w a len cap := by
  have k52 : Try.prog.cellsOf 52 = 5 := by kernel_rfl
  obtain ⟨fuel, hf⟩ := h
  rcases Deep.open_slice Try.underlying43 hf with ⟨hcs, _⟩ | ⟨x, l, c, m, n, D, Pl, hcs, _, hl, hm, hmm, _, hi⟩
  · simp [Value.cells] at hcs
    obtain ⟨rfl, rfl, rfl⟩ := hcs
    exact ⟨Nat.le_refl _, by unfold maxLen; omega, fun h => by omega⟩
  · simp [Value.cells] at hcs
    obtain ⟨rfl, rfl, rfl⟩ := hcs
    have hm2 : m = cap := by rw [hmm]; rfl
    subst hm2
    refine ⟨hl, hm, fun h0 => ?_⟩
    have each : ∀ i, i < len → ∃ (kind : Int) (wt : Nat) (wh : Int) (ln : Nat) (md : Int), (wt < 65536 ∧ ln < 65536) ∧ ∀ j v, [Value.int .i64 kind, .int .u16 (wt : Int), .int .i64 wh, .int .u16 (ln : Int), .int .i64 md][j]? = some v → w.cell? (x.add (i * 5 + j)) = some v := fun i hi2 => by
      obtain ⟨cs', hc, ht⟩ := hi i (by omega)
      rw [k52] at hc
      obtain ⟨kind, wt, wh, ln, md, h1, h2⟩ := in_ask ht
      obtain ⟨_, hcl, hat⟩ := World.cells?_some hc
      refine ⟨kind, wt, wh, ln, md, h2, fun j v hj => ?_⟩
      rw [← h1] at hj
      have hjl : j < 5 := by have := (List.getElem?_eq_some_iff.1 hj).1; omega
      rw [← Go.Deep.add_add, hat j hjl, hj]
    obtain ⟨b, off, spot⟩ := x
    have hspot : spot = none := by
      obtain ⟨_, _, _, _, _, _, hc⟩ := each 0 h0
      have := hc 0 _ rfl
      simpa [Addr.add] using World.cell?_spot this
    subst hspot
    refine ⟨b, off, rfl, fun i hi2 => ?_⟩
    obtain ⟨kind, wt, wh, ln, md, h2, hc⟩ := each i hi2
    have c0 := hc 0 _ rfl
    have c1 := hc 1 _ rfl
    have c2 := hc 2 _ rfl
    have c3 := hc 3 _ rfl
    have c4 := hc 4 _ rfl
    rw [add_off] at c0 c1 c2 c3 c4
    exact ⟨kind, wt, wh, ln, md, h2, c0, c1, c2, c3, c4⟩
end

end Go.Proofs.Ytbcelelmckkaoaa
