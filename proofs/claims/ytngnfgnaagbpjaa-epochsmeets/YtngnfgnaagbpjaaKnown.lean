/-
  The contract of known: the chapter's example.
-/
import Derived.Test.YtngnfgnaagbpjaaEndF
import Derived.Test.YtngnfgnaagbpjaaForkF
import Derived.Test.YtngnfgnaagbpjaaRCut
namespace Go.Proofs.Ytngnfgnaagbpjaa
open Go.RowKit

def kA : Tbl := [(1, 1), (3, 5)]
def kB : Tbl := [(1, 1), (2, 4)]
abbrev oA : Obj := .cells #[.int .u32 1, .int .u64 1, .int .u32 3, .int .u64 5] 37
abbrev oB : Obj := .cells #[.int .u32 1, .int .u64 1, .int .u32 2, .int .u64 4] 37
theorem tab_A (w : World) : Tab (w.alloc oA) (some ⟨w.heap.size, 0, none⟩) 2 kA := by
  refine ⟨rfl, fun i => ?_, fun _ => ⟨_, _, rfl, fun i hi => ?_⟩⟩
  · rcases i with _ | _ | i <;> simp [kA, ep, ls]
  · have hL := Lies.made w 37 #[.int .u32 1, .int .u64 1, .int .u32 3, .int .u64 5]
    rcases i with _ | _ | i
    · exact ⟨hL.cell 0, hL.cell 1⟩
    · exact ⟨hL.cell 2, hL.cell 3⟩
    · omega
theorem tab_B (w : World) (o : Obj) : Tab ((w.alloc o).alloc oB) (some ⟨w.heap.size + 1, 0, none⟩) 2 kB := by
  refine ⟨rfl, fun i => ?_, fun _ => ⟨_, _, rfl, fun i hi => ?_⟩⟩
  · rcases i with _ | _ | i <;> simp [kB, ep, ls]
  · have hL := Lies.made2 w o 37 #[.int .u32 1, .int .u64 1, .int .u32 2, .int .u64 4]
    rcases i with _ | _ | i
    · exact ⟨hL.cell 0, hL.cell 1⟩
    · exact ⟨hL.cell 2, hL.cell 3⟩
    · omega
theorem k1 : ((atS kA 4 : Nat) : Int) = 1 := by decide +kernel
theorem k2 : ((atS kB 4 : Nat) : Int) = 2 := by decide +kernel
theorem k3 : ((endS kA 9 2 : Nat) : Int) = 4 := by decide +kernel
theorem k4 : ((forkS kA 9 kB 6 : Nat) : Int) = 3 := by decide +kernel
theorem k5 : ((chk kA : Nat) : Int) = 0 := by decide +kernel
theorem k6 : ((chk [(0, 0)] : Nat) : Int) = 60 := by decide +kernel

set_option maxRecDepth 100000 in
set_option maxHeartbeats 2000000 in
theorem known_any (w : World) : Calls Try.prog 11 #[] w fun e w' => e = .returned (.bool true) ∧ Below w.heap.size w w' := by
  have c1 : ∀ (A : Option Addr) (W : World), Tab W A 2 kA → Calls Try.prog 14 #[.slice A 2 2, .int .u64 4] W fun x w' => x = .returned (.int .u32 1) ∧ Below W.heap.size W w' := fun A W h => by rw [← k1]; exact at_any A 2 2 4 kA W h (by decide)
  have c2 : ∀ (A : Option Addr) (W : World), Tab W A 2 kB → Calls Try.prog 14 #[.slice A 2 2, .int .u64 4] W fun x w' => x = .returned (.int .u32 2) ∧ Below W.heap.size W w' := fun A W h => by rw [← k2]; exact at_any A 2 2 4 kB W h (by decide)
  have c3 : ∀ (A : Option Addr) (W : World), Tab W A 2 kA → Calls Try.prog 15 #[.slice A 2 2, .int .u64 9, .int .u32 2] W fun x w' => x = .returned (.int .u64 4) ∧ Below W.heap.size W w' := fun A W h => by rw [← k3]; exact end_any A 2 2 9 2 kA W h (by decide) (by decide)
  have c4 : ∀ (A B : Option Addr) (W : World), Tab W A 2 kA → Tab W B 2 kB → Calls Try.prog 20 #[.slice A 2 2, .int .u64 9, .slice B 2 2, .int .u64 6] W fun x w' => x = .returned (.int .u64 3) ∧ Below W.heap.size W w' := fun A B W h k => by rw [← k4]; exact fork_any A B 2 2 2 2 9 6 kA kB W h k (by decide) (by decide)
  have c5 : ∀ (A : Option Addr) (W : World), Tab W A 2 kA → Calls Try.prog 13 #[.slice A 2 2] W fun x w' => x = .returned (.int .i64 0) ∧ Below W.heap.size W w' := fun A W h => by rw [← k5]; exact check_any A 2 2 kA W h (small_len _ (by decide))
  have c6 : ∀ (A : Option Addr) (W : World), Tab W A 1 [(0, 0)] → Calls Try.prog 13 #[.slice A 1 1] W fun x w' => x = .returned (.int .i64 60) ∧ Below W.heap.size W w' := fun A W h => by rw [← k6]; exact check_any A 1 1 _ W h (small_len _ (by decide))
  have C1 := Lib.hid c1
  have C2 := Lib.hid c2
  have C3 := Lib.hid c3
  have C4 := Lib.hid c4
  have C5 := Lib.hid c5
  have C6 := Lib.hid c6
  have HA := Lib.hid ((tab_A w).below (below1 _ oB))
  have HB := Lib.hid (tab_B w oA)
  have H0 := Lib.hid (below2 w oA oB)
  clear c1 c2 c3 c4 c5 c6
  go_enter Try.func11, Try.ntmps11
  go_wp2_with fail
  with_reducible refine (C1.out _ _ HA.out).mono ?_
  rintro x w1 ⟨rfl, hb⟩
  have HA1 := Lib.hid (HA.out.below hb)
  have HB1 := Lib.hid (HB.out.below hb)
  have H1 := Lib.hid (H0.out.trans (hb.mono H0.out.size))
  clear hb
  go_wp2_with fail
  with_reducible refine (C2.out _ _ HB1.out).mono ?_
  rintro x w2 ⟨rfl, hb⟩
  have HA2 := Lib.hid (HA1.out.below hb)
  have HB2 := Lib.hid (HB1.out.below hb)
  have H2 := Lib.hid (H1.out.trans (hb.mono H1.out.size))
  clear hb
  go_wp2_with fail
  with_reducible refine (C3.out _ _ HA2.out).mono ?_
  rintro x w3 ⟨rfl, hb⟩
  have HA3 := Lib.hid (HA2.out.below hb)
  have HB3 := Lib.hid (HB2.out.below hb)
  have H3 := Lib.hid (H2.out.trans (hb.mono H2.out.size))
  clear hb
  go_wp2_with fail
  with_reducible refine (C4.out _ _ _ HA3.out HB3.out).mono ?_
  rintro x w4 ⟨rfl, hb⟩
  have HA4 := Lib.hid (HA3.out.below hb)
  have H4 := Lib.hid (H3.out.trans (hb.mono H3.out.size))
  clear hb
  go_wp2_with fail
  with_reducible refine (C5.out _ _ HA4.out).mono ?_
  rintro x w5 ⟨rfl, hb⟩
  have H5 := Lib.hid (H4.out.trans (hb.mono H4.out.size))
  have HT6 : Tab (w5.alloc (.cells #[.int .u32 0, .int .u64 0] 37)) (some ⟨w5.heap.size, 0, none⟩) 1 [(0, 0)] := tab_one w5 0 0 (by decide) (by decide)
  have HT7 := Lib.hid HT6
  have H6 := Lib.hid (H5.out.alloc H5.out.size (.cells #[.int .u32 0, .int .u64 0] 37))
  clear hb HT6
  go_wp2_with fail
  with_reducible refine (C6.out _ _ HT7.out).mono ?_
  rintro x w6 ⟨rfl, hb⟩
  go_wp2
  go_ret
  exact ⟨rfl, H6.out.trans (hb.mono H6.out.size)⟩

end Go.Proofs.Ytngnfgnaagbpjaa
