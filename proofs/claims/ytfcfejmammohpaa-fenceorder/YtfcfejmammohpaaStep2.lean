/-
  The contract of step, with the place of the text.
-/
import Derived.Test.YtfcfejmammohpaaStep
namespace Go.Proofs.Ytfcfejmammohpaa
open Go.RowKit
set_option maxRecDepth 100000
set_option linter.unusedVariables false
set_option linter.unusedSimpArgs false

def StepAt (w : World) (N : Note) (x : Ending) (w' : World) : Prop := ∃ c, x = .returned (.agg (evs N (.slice none 0 0) (.slice (some ⟨w.heap.size + 1, 0, none⟩) N.data.length c))) ∧ EntV w' N none (some ⟨w.heap.size + 1, 0, none⟩) 0 c ∧ Below w.heap.size w w'
set_option maxHeartbeats 1000000 in
theorem step_at (ep od : Nat) (st : Int) (un : Bool) (l : List Nat) (s : ByteArray) (w : World) (hl : ∀ c ∈ l, c < 256) (h : s.data.toList = l.map UInt8.ofNat) (hs : l.length ≤ 1000) (h1 : ep < 4294967296) (h2 : od < 4294967296) :
    Calls Try.prog 31 #[.int .u32 (ep : Int), .int .u32 (od : Int), .int .i64 st, .bool un, .string s] w (StepAt w (stN ep od st un l)) := by
  have hsz : s.size = l.length := by
    have : s.data.toList.length = l.length := by rw [h]; simp
    simpa using this
  have hq := run_bytes_of_string (P := Try.prog) (w.alloc (.cells NZ 29)) 9 27 5 s Try.underlying9 Try.underlying27 Try.underlying5
  have hgc := grownCap_ge (w.alloc (.cells NZ 29)) s.size 0 5
  have hgm := grownCap_le_maxLen (w.alloc (.cells NZ 29)) s.size 0 5 (by unfold maxLen; omega)
  have HROW := Lib.hid (fun i hi => bytesRow_at s l hl h (grownCap (w.alloc (.cells NZ 29)) s.size 0 5) i hi)
  generalize grownCap (w.alloc (.cells NZ 29)) s.size 0 5 = gc at *
  generalize bytesRow s gc = row at *
  rw [hsz] at hq hgc
  have HL := Lib.hid hl
  clear hl h hsz
  go_enter Try.func31, Try.ntmps31
  go_wp2
  have L1 : Lies ((w.alloc (.cells #[.int .i64 7, .int .u32 (ep : Int), .int .u32 0, .int .u64 0, .int .u64 0, .int .u32 (od : Int), .int .i64 st, .bool un, .int .i64 0, .slice none 0 0, .slice (some ⟨w.heap.size + 1, 0, none⟩) l.length gc] 29)).alloc (.cells row 5 (row.size, row.size + 1))).drew w.heap.size 29 #[.int .i64 7, .int .u32 (ep : Int), .int .u32 0, .int .u64 0, .int .u64 0, .int .u32 (od : Int), .int .i64 st, .bool un, .int .i64 0, .slice none 0 0, .slice (some ⟨w.heap.size + 1, 0, none⟩) l.length gc] := (Lies.made w 29 _).alloc _
  have HB : Below w.heap.size w ((w.alloc (.cells #[.int .i64 7, .int .u32 (ep : Int), .int .u32 0, .int .u64 0, .int .u64 0, .int .u32 (od : Int), .int .i64 st, .bool un, .int .i64 0, .slice none 0 0, .slice (some ⟨w.heap.size + 1, 0, none⟩) l.length gc] 29)).alloc (.cells row 5 (row.size, row.size + 1))).drew := (below2 w _ _).drew
  refine ret_note w.heap.size 29 _ rfl rfl L1 rfl rfl ⟨gc, rfl, ?_, HB⟩
  refine ⟨Bys.none_ _, Nat.le_refl _, by unfold maxLen; omega, fun _ => rfl, ⟨rfl, HL.out, fun _ => ⟨w.heap.size + 1, 0, rfl, fun i hi => ?_⟩⟩, hgc, hgm, (fun h => by cases h), ⟨h1, (show (0 : Nat) < 4294967296 by omega), (show (0 : Nat) < 18446744073709551616 by omega), (show (0 : Nat) < 18446744073709551616 by omega), h2, (fun c hc => by cases hc), HL.out⟩⟩
  have L2 : ((w.alloc (.cells #[.int .i64 7, .int .u32 (ep : Int), .int .u32 0, .int .u64 0, .int .u64 0, .int .u32 (od : Int), .int .i64 st, .bool un, .int .i64 0, .slice none 0 0, .slice (some ⟨w.heap.size + 1, 0, none⟩) l.length gc] 29)).alloc (.cells row 5 (row.size, row.size + 1))).drew.heap[w.heap.size + 1]? = some (.cells row 5 (row.size, row.size + 1)) := by
    have := heap_alloc_new (w.alloc (.cells #[.int .i64 7, .int .u32 (ep : Int), .int .u32 0, .int .u64 0, .int .u64 0, .int .u32 (od : Int), .int .i64 st, .bool un, .int .i64 0, .slice none 0 0, .slice (some ⟨w.heap.size + 1, 0, none⟩) l.length gc] 29)) (.cells row 5 (row.size, row.size + 1))
    rwa [size_one] at this
  rw [cell_of_row _ _ _ _ 5 _ L2, Nat.zero_add]
  exact HROW.out i hi

end Go.Proofs.Ytfcfejmammohpaa
