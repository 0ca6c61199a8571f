/-
  A slice of bytes that came in, as the contracts want it.
-/
import Derived.Test.YtjjkjppaiejajaaSame
import Derived.ProofKit
import Derived.OpenShut
namespace Go.Proofs.Ytjjkjppaiejajaa
open Go.RowKit


/-- A slice of integers that came in: nil, or a row of 'cap' cells. -/
def IsRow (k : IntKind) (w : World) (a : Option Addr) (len cap : Nat) (zs : List Int) : Prop :=
  (a = none ∧ len = 0 ∧ cap = 0 ∧ zs = []) ∨
  ∃ x, a = some x ∧ len ≤ cap ∧ cap ≤ maxLen ∧ zs.length = cap ∧ (∀ i, i < zs.length → w.cell? (x.add i) = some (.int k (zs.getD i 0))) ∧ ∀ n ∈ zs, (Lit.int k n).wf = true

theorem IsRow.bys {w : World} {a : Option Addr} {len cap : Nat} {zs : List Int} (h : IsRow .u8 w a len cap zs) :
    ∃ l, Bys w a len l ∧ len ≤ cap ∧ cap ≤ maxLen ∧ (a = none → cap = 0) := by
  rcases h with ⟨rfl, rfl, rfl, rfl⟩ | ⟨x, rfl, hl, hm, hz, hcell, hwz⟩
  · exact ⟨[], Bys.none_ w, Nat.le_refl _, by unfold maxLen; omega, fun _ => rfl⟩
  · refine ⟨(zs.take len).map Int.toNat, ⟨by simp; omega, ?_, fun h0 => ?_⟩, hl, hm, fun h => by cases h⟩
    · intro c hc
      obtain ⟨z, hz1, rfl⟩ := List.mem_map.1 hc
      have := bounds_u8 (hwz z (List.mem_of_mem_take hz1))
      omega
    · obtain ⟨b, off, spot⟩ := x
      have hc0 := hcell 0 (by omega)
      have hspot : spot = none := by simpa [Addr.add] using World.cell?_spot hc0
      subst hspot
      refine ⟨b, off, rfl, fun i hi => ?_⟩
      have h1 := hcell i (by omega)
      rw [add_off] at h1
      rw [h1]
      have hlt : i < zs.length := by omega
      have hb := bounds_u8 (hwz zs[i] (List.getElem_mem hlt))
      have e : (((zs.take len).map Int.toNat).getD i 0 : Nat) = zs[i].toNat := by simp [List.getD, hi, hlt]
      have e2 : zs.getD i 0 = zs[i] := by simp [List.getD, hlt]
      rw [e, e2, Int.toNat_of_nonneg hb.1]


end Go.Proofs.Ytjjkjppaiejajaa
