/-
  The contract of the document's Same: for all notes.
-/
import Derived.Test.YtjjkjppaiejajaaNVal
namespace Go.Proofs.Ytjjkjppaiejajaa
open Go.RowKit

set_option maxRecDepth 100000 in
set_option maxHeartbeats 4000000 in
theorem same5_any (a b : Note) (A1 A2 B1 B2 : Option Addr) (c1 c2 d1 d2 : Nat) (w : World) (hA : EntV w a A1 A2 c1 c2) (hB : EntV w b B1 B2 d1 d2) :
    Calls Try.prog 24 #[.agg (evs a (.slice A1 a.key.length c1) (.slice A2 a.data.length c2)), .agg (evs b (.slice B1 b.key.length d1) (.slice B2 b.data.length d2))] w fun x w' => x = .returned (.bool (sameE a b)) ∧ Below w.heap.size w w' := by
  have b2 := fun o p => below2 w o p
  have r1 := fun o p => run_str (hA.k.below (b2 o p)) c1
  have r2 := fun o p => run_str (hA.d.below (b2 o p)) c2
  have r3 := fun o p => run_str (hB.k.below (b2 o p)) d1
  have r4 := fun o p => run_str (hB.d.below (b2 o p)) d2
  have t1 := str_eq a.key b.key hA.b.key hB.b.key
  have t2 := str_eq a.data b.data hA.b.data hB.b.data
  unfold sameE
  obtain ⟨q0, h0⟩ : ∃ q, (a.kind == b.kind) = q := ⟨_, rfl⟩
  rw [h0]
  have h1 := cast_beq a.epoch b.epoch
  generalize (a.epoch == b.epoch) = q1 at *
  have h2 := cast_beq a.old b.old
  generalize (a.old == b.old) = q2 at *
  have h3 := cast_beq a.lsn b.lsn
  generalize (a.lsn == b.lsn) = q3 at *
  have h4 := cast_beq a.tick b.tick
  generalize (a.tick == b.tick) = q4 at *
  have h5 := cast_beq a.order b.order
  generalize (a.order == b.order) = q5 at *
  obtain ⟨q6, h6⟩ : ∃ q, (a.step == b.step) = q := ⟨_, rfl⟩
  rw [h6]
  obtain ⟨q7, h7⟩ : ∃ q, (a.undo == b.undo) = q := ⟨_, rfl⟩
  rw [h7]
  obtain ⟨q8, h8⟩ : ∃ q, (a.code == b.code) = q := ⟨_, rfl⟩
  rw [h8]
  generalize sameB a.key b.key = q9 at *
  generalize sameB a.data b.data = q10 at *
  generalize a.key.length = n1 at *
  generalize a.data.length = n2 at *
  generalize b.key.length = m1 at *
  generalize b.data.length = m2 at *
  clear hA hB
  cases q0
  · go_enter Try.func24, Try.ntmps24
    go_wp2
    go_ret
    exact ⟨rfl, b2 _ _⟩
  cases q1
  · go_enter Try.func24, Try.ntmps24
    go_wp2
    go_ret
    exact ⟨rfl, b2 _ _⟩
  cases q2
  · go_enter Try.func24, Try.ntmps24
    go_wp2
    go_ret
    exact ⟨rfl, b2 _ _⟩
  cases q3
  · go_enter Try.func24, Try.ntmps24
    go_wp2
    go_ret
    exact ⟨rfl, b2 _ _⟩
  cases q4
  · go_enter Try.func24, Try.ntmps24
    go_wp2
    go_ret
    exact ⟨rfl, b2 _ _⟩
  cases q5
  · go_enter Try.func24, Try.ntmps24
    go_wp2
    go_ret
    exact ⟨rfl, b2 _ _⟩
  cases q6
  · go_enter Try.func24, Try.ntmps24
    go_wp2
    go_ret
    exact ⟨rfl, b2 _ _⟩
  cases q7
  · go_enter Try.func24, Try.ntmps24
    go_wp2
    go_ret
    exact ⟨rfl, b2 _ _⟩
  cases q8
  · go_enter Try.func24, Try.ntmps24
    go_wp2
    go_ret
    exact ⟨rfl, b2 _ _⟩
  cases q9
  · go_enter Try.func24, Try.ntmps24
    go_wp2
    go_ret
    exact ⟨rfl, b2 _ _⟩
  cases q10
  · go_enter Try.func24, Try.ntmps24
    go_wp2
    go_ret
    exact ⟨rfl, b2 _ _⟩
  go_enter Try.func24, Try.ntmps24
  go_wp2
  go_ret
  exact ⟨rfl, b2 _ _⟩

end Go.Proofs.Ytjjkjppaiejajaa
