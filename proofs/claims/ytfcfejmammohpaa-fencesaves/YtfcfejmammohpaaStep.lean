/-
  The contract of step: a note that asks for one.
-/
import Derived.Test.YtfcfejmammohpaaKRet
import Derived.Laws.IdiomStrings
namespace Go.Proofs.Ytfcfejmammohpaa
open Go.RowKit
set_option maxRecDepth 100000
set_option linter.unusedVariables false
set_option linter.unusedSimpArgs false

abbrev stN (ep od : Nat) (st : Int) (un : Bool) (l : List Nat) : Note := ⟨7, ep, 0, 0, 0, od, st, un, 0, [], l⟩
abbrev NZ : Array Value := #[.int .i64 0, .int .u32 0, .int .u32 0, .int .u64 0, .int .u64 0, .int .u32 0, .int .i64 0, .bool false, .int .i64 0, .slice none 0 0, .slice none 0 0]
def StepPost (w : World) (N : Note) (x : Ending) (w' : World) : Prop := ∃ A c, x = .returned (.agg (evs N (.slice none 0 0) (.slice A N.data.length c))) ∧ EntV w' N none A 0 c ∧ Below w.heap.size w w'
theorem bytesRow_at (s : ByteArray) (l : List Nat) (hl : ∀ c ∈ l, c < 256) (h : s.data.toList = l.map UInt8.ofNat) (cap i : Nat) (hi : i < l.length) : (bytesRow s cap)[i]? = some (.int .u8 (l.getD i 0 : Nat)) := by
  have hs : s.data = (l.map UInt8.ofNat).toArray := by rw [← h]
  obtain ⟨d⟩ := s
  simp only at hs
  subst hs
  have := hl _ (List.getElem_mem hi)
  unfold bytesRow
  rw [Array.getElem?_append_left (by simpa using hi)]
  simp [hi, List.getD, Nat.mod_eq_of_lt this]
theorem setCells11 (w : World) (g : Nat) (v0 v1 v2 v3 v4 v5 v6 v7 v8 v9 v10 : Value) : (((((((((((w.setCell ⟨g, 0, none⟩ v0).setCell ⟨g, 1, none⟩ v1).setCell ⟨g, 2, none⟩ v2).setCell ⟨g, 3, none⟩ v3).setCell ⟨g, 4, none⟩ v4).setCell ⟨g, 5, none⟩ v5).setCell ⟨g, 6, none⟩ v6).setCell ⟨g, 7, none⟩ v7).setCell ⟨g, 8, none⟩ v8).setCell ⟨g, 9, none⟩ v9).setCell ⟨g, 10, none⟩ v10) = w.setCells g 0 (#[v0, v1, v2, v3, v4, v5, v6, v7, v8, v9, v10] : Array Value).toList := rfl
set_option maxHeartbeats 1000000 in
theorem step_any (ep od : Nat) (st : Int) (un : Bool) (l : List Nat) (s : ByteArray) (w : World) (hl : ∀ c ∈ l, c < 256) (h : s.data.toList = l.map UInt8.ofNat) (hs : l.length ≤ 1000) (h1 : ep < 4294967296) (h2 : od < 4294967296) :
    Calls Try.prog 31 #[.int .u32 (ep : Int), .int .u32 (od : Int), .int .i64 st, .bool un, .string s] w (StepPost w (stN ep od st un l)) := by
  have hsz : s.size = l.length := by
    have : s.data.toList.length = l.length := by rw [h]; simp
    simpa using this
  have hq := run_bytes_of_string (P := Try.prog) (w.alloc (.cells NZ 29)) 9 27 5 s Try.underlying9 Try.underlying27 Try.underlying5
  have hgc := grownCap_ge (w.alloc (.cells NZ 29)) s.size 0 5
  have hgm := grownCap_le_maxLen (w.alloc (.cells NZ 29)) s.size 0 5 (by unfold maxLen; omega)
  have HROW := Lib.hid (fun i hi => bytesRow_at s l hl h (grownCap (w.alloc (.cells NZ 29)) s.size 0 5) i hi)
  generalize grownCap (w.alloc (.cells NZ 29)) s.size 0 5 = gc at *
  generalize bytesRow s gc = row at *
  rw [hsz] at hq hgc
  have HL := Lib.hid hl
  clear hl h hsz
  go_enter Try.func31, Try.ntmps31
  go_wp2
  have L1 : Lies ((w.alloc (.cells #[.int .i64 7, .int .u32 (ep : Int), .int .u32 0, .int .u64 0, .int .u64 0, .int .u32 (od : Int), .int .i64 st, .bool un, .int .i64 0, .slice none 0 0, .slice (some ⟨w.heap.size + 1, 0, none⟩) l.length gc] 29)).alloc (.cells row 5 (row.size, row.size + 1))).drew w.heap.size 29 #[.int .i64 7, .int .u32 (ep : Int), .int .u32 0, .int .u64 0, .int .u64 0, .int .u32 (od : Int), .int .i64 st, .bool un, .int .i64 0, .slice none 0 0, .slice (some ⟨w.heap.size + 1, 0, none⟩) l.length gc] := (Lies.made w 29 _).alloc _
  have HB : Below w.heap.size w ((w.alloc (.cells #[.int .i64 7, .int .u32 (ep : Int), .int .u32 0, .int .u64 0, .int .u64 0, .int .u32 (od : Int), .int .i64 st, .bool un, .int .i64 0, .slice none 0 0, .slice (some ⟨w.heap.size + 1, 0, none⟩) l.length gc] 29)).alloc (.cells row 5 (row.size, row.size + 1))).drew := (below2 w _ _).drew
  refine ret_note w.heap.size 29 _ rfl rfl L1 rfl rfl ⟨some ⟨w.heap.size + 1, 0, none⟩, gc, rfl, ?_, HB⟩
  refine ⟨Bys.none_ _, Nat.le_refl _, by unfold maxLen; omega, fun _ => rfl, ⟨rfl, HL.out, fun _ => ⟨w.heap.size + 1, 0, rfl, fun i hi => ?_⟩⟩, hgc, hgm, (fun h => by cases h), ⟨h1, (show (0 : Nat) < 4294967296 by omega), (show (0 : Nat) < 18446744073709551616 by omega), (show (0 : Nat) < 18446744073709551616 by omega), h2, (fun c hc => by cases hc), HL.out⟩⟩
  have L2 : ((w.alloc (.cells #[.int .i64 7, .int .u32 (ep : Int), .int .u32 0, .int .u64 0, .int .u64 0, .int .u32 (od : Int), .int .i64 st, .bool un, .int .i64 0, .slice none 0 0, .slice (some ⟨w.heap.size + 1, 0, none⟩) l.length gc] 29)).alloc (.cells row 5 (row.size, row.size + 1))).drew.heap[w.heap.size + 1]? = some (.cells row 5 (row.size, row.size + 1)) := by
    have := heap_alloc_new (w.alloc (.cells #[.int .i64 7, .int .u32 (ep : Int), .int .u32 0, .int .u64 0, .int .u64 0, .int .u32 (od : Int), .int .i64 st, .bool un, .int .i64 0, .slice none 0 0, .slice (some ⟨w.heap.size + 1, 0, none⟩) l.length gc] 29)) (.cells row 5 (row.size, row.size + 1))
    rwa [size_one] at this
  rw [cell_of_row _ _ _ _ 5 _ L2, Nat.zero_add]
  exact HROW.out i hi

end Go.Proofs.Ytfcfejmammohpaa
