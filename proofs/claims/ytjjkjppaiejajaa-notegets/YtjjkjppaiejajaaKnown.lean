/-
  The contract of 'known': the chapter's examples hold: it returns true.
-/
import Derived.Test.YtjjkjppaiejajaaNVal
import Derived.Test.YtjjkjppaiejajaaNGet
namespace Go.Proofs.Ytjjkjppaiejajaa
open Go.RowKit

theorem GetPost.of_some {l : List Nat} {w w' : World} {x : Ending} {e : Note} (h : GetPost l w x w') (hg : Ent.get one l = some e) :
    ∃ K D, x = .returned (.tuple #[.agg (evs e K D), .int .i64 0]) ∧ Own w' w.heap.size K e.key ∧ Own w' w.heap.size D e.data ∧ (∀ g, K.ownBlock = some g → D.ownBlock ≠ some g) ∧ Below w.heap.size w w' := by
  obtain ⟨hb, ⟨e2, K, D, hg2, hx, hK, hD, hn⟩ | ⟨hg2, _⟩⟩ := h
  · rw [hg] at hg2
    injection hg2 with hg2
    subst hg2
    exact ⟨K, D, hx, hK, hD, hn, hb⟩
  · rw [hg] at hg2; cases hg2
theorem GetPost.of_none {l : List Nat} {w w' : World} {x : Ending} (h : GetPost l w x w') (hg : Ent.get one l = none) :
    x = .returned (.tuple #[.agg (evs Ent.zero nilV nilV), .int .i64 50]) ∧ Below w.heap.size w w' := by
  obtain ⟨hb, ⟨e2, K, D, hg2, hx, hK, hD, hn⟩ | ⟨hg2, hx⟩⟩ := h
  · rw [hg] at hg2; cases hg2
  · exact ⟨hx, hb⟩

def kA : Note := ⟨2, 2, 0, 258, 0, 0, 0, false, 0, [], []⟩
def kQ : Note := ⟨12, 0, 0, 0, 0, 0, 0, false, 0, [97, 98], []⟩
def kAb : List Nat := [2, 0, 0, 0, 2, 0, 0, 0, 0, 0, 0, 1, 2]
def kQb : List Nat := [12, 2, 97, 98]
theorem kA_ok : Ent.ok kA = true := by decide +kernel
theorem kA_enc : Ent.enc kA = kAb := by decide +kernel
theorem kA_put : putB kA = kAb := by unfold putB; rw [if_pos kA_ok, kA_enc]
theorem kA_chk : chkN kA = 0 := by unfold chkN; rw [if_pos kA_ok]
theorem kQ_ok : Ent.ok kQ = true := by decide +kernel
theorem kQ_enc : Ent.enc kQ = kQb := by decide +kernel
theorem kQ_put : putB kQ = kQb := by unfold putB; rw [if_pos kQ_ok, kQ_enc]
theorem kQ_chk : chkN kQ = 0 := by unfold chkN; rw [if_pos kQ_ok]
theorem zero_chk : chkN Ent.zero = 50 := by decide +kernel
theorem kA_bnd : Ent.Bnd kA := ⟨by decide, by decide, by decide, by decide, by decide, by decide, by decide⟩
theorem kQ_bnd : Ent.Bnd kQ := ⟨by decide, by decide, by decide, by decide, by decide, by decide, by decide⟩
theorem kQ_get : Ent.get one kQb = some kQ := by rw [← kQ_enc]; exact Ent.get_enc one rfl rfl kQ kQ_bnd kQ_ok

set_option maxRecDepth 100000 in
set_option maxHeartbeats 4000000 in
theorem known_any (w : World) : Calls Try.prog 11 #[] w fun e w' => e = .returned (.bool true) ∧ Below w.heap.size w w' := by
  have c1 : ∀ W, Calls Try.prog 13 #[.agg #[.int .i64 2, .int .u32 2, .int .u32 0, .int .u64 258, .int .u64 0, .int .u32 0, .int .i64 0, .bool false, .int .i64 0, .slice none 0 0, .slice none 0 0]] W (PutPost kA W) := fun W => put_any kA none none 0 0 W kA_bnd (EntV.nil W kA rfl rfl kA_bnd).txt
  unfold PutPost at c1
  rw [kA_chk, kA_put] at c1
  have C1 := Lib.hid c1
  have c2 : ∀ (W : World) (h : Nat) (fr : Nat × Nat), W.heap.size = h → Calls Try.prog 13 #[.agg #[.int .i64 12, .int .u32 0, .int .u32 0, .int .u64 0, .int .u64 0, .int .u32 0, .int .i64 0, .bool false, .int .i64 0, .slice (some ⟨h, 0, none⟩) 2 2, .slice none 0 0]] (W.alloc (.cells #[.int .u8 97, .int .u8 98] 5 fr)) (PutPost kQ (W.alloc (.cells #[.int .u8 97, .int .u8 98] 5 fr))) := fun W h fr e => by
    subst e
    have hb : Bys (W.alloc (.cells #[.int .u8 97, .int .u8 98] 5 fr)) (some ⟨W.heap.size, 0, none⟩) 2 [97, 98] := Bys.const W _ [97, 98] fr 2 rfl rfl (by decide)
    exact put_any kQ (some ⟨W.heap.size, 0, none⟩) none 2 0 _ kQ_bnd ⟨hb, hb.low (Nat.le_refl _), (fun h => by cases h), Bys.none_ _, (fun h => absurd h (by decide)), fun _ => rfl⟩
  unfold PutPost at c2
  rw [kQ_chk, kQ_put] at c2
  have C2 := Lib.hid c2
  have c5 : ∀ W : World, Calls Try.prog 14 #[.agg #[.int .i64 0, .int .u32 0, .int .u32 0, .int .u64 0, .int .u64 0, .int .u32 0, .int .i64 0, .bool false, .int .i64 0, .slice none 0 0, .slice none 0 0]] W (ChkPost Ent.zero W) := fun W => check_any Ent.zero none none 0 0 W
  unfold ChkPost at c5
  rw [zero_chk] at c5
  have C5 := Lib.hid c5
  have kc := fun (w : World) (C : Array Value) (n c : Nat) => Lib.run_convert_bytes_const (P := Try.prog) w 24 5 C n c Try.underlying24 Try.underlying5
  clear c1 c2 c5
  go_enter Try.func11, Try.ntmps11
  go_wp2_with fail
  with_reducible refine (C1.out _).mono ?_
  rintro x w1 ⟨v1, rfl, hO1, hb1⟩
  obtain ⟨A1, c1, rfl, hB1, _, _, _⟩ := hO1.slice
  rw [show kAb.length = 13 from rfl] at *
  have HB1 := Lib.hid hB1
  have BB1 := Lib.hid hb1
  clear hO1 hB1 hb1 C1
  go_wp2_with fail
  (with_reducible refine (C2.out _ _ _ ?hh).mono ?_)
  case hh => rfl
  rintro x w2 ⟨v2, rfl, hO2, hb2⟩
  obtain ⟨A2, c2, rfl, hB2, _, _, _⟩ := hO2.slice
  rw [show kQb.length = 4 from rfl] at *
  have HB1b := Lib.hid ((HB1.out.alloc _).below hb2)
  have BB2 := Lib.hid ((BB1.out.alloc BB1.out.size _).trans (hb2.mono (Nat.le_trans BB1.out.size (by simp))))
  have HB2 := Lib.hid hB2
  have C3 := Lib.hid (get_any A2 4 c2 kQb w2 hB2 (by omega))
  clear hO2 hB2 hb2 C2 HB1 BB1 kc
  go_wp2_with fail
  with_reducible refine C3.out.mono ?_
  intro x w3 hp3
  obtain ⟨K, D, rfl, hK, hD, _, hb3⟩ := hp3.of_some kQ_get
  clear hp3
  obtain ⟨A3, c3, rfl, hKB, hKc, hKm, hKA⟩ := hK.slice
  obtain ⟨A4, c4, rfl, hDB, hDc, hDm, hDA⟩ := hD.slice
  rw [show evs kQ (.slice A3 kQ.key.length c3) (.slice A4 kQ.data.length c4) = #[.int .i64 12, .int .u32 0, .int .u32 0, .int .u64 0, .int .u64 0, .int .u32 0, .int .i64 0, .bool false, .int .i64 0, .slice A3 2 c3, .slice A4 0 c4] from rfl]
  have BB3 := Lib.hid (BB2.out.trans (hb3.mono BB2.out.size))
  have r1 := fun o => run_str ((HB1b.out.below hb3).alloc o) c1
  have r2 := fun o => run_str ((HB2.out.below hb3).alloc o) c2
  have r3 := fun o => run_str (hKB.alloc o) c3
  have t1 : ((str kAb).toList == ([2, 0, 0, 0, 2, 0, 0, 0, 0, 0, 0, 1, 2] : List UInt8)) = true := by rw [str_toList]; rfl
  have t2 : ((str kQb).toList == ([12, 2, 97, 98] : List UInt8)) = true := by rw [str_toList]; rfl
  have t3 : ((str kQ.key).toList == ([97, 98] : List UInt8)) = true := by rw [str_toList]; rfl
  have t4 : ((str (Ent.lets 8)).toList == ([69, 79, 83, 85, 67, 68] : List UInt8)) = true := by rw [str_toList]; rfl
  rw [show kQ.key.length = 2 from rfl] at r3
  clear hK hD hKB hDB hKA hDA hKc hDc hKm hDm hb3 C3 BB2 HB1b HB2
  go_wp2_with fail
  with_reducible refine (names_any _ _).mono ?_
  rintro x w4 ⟨rfl, rfl⟩
  go_wp2_with fail
  with_reducible refine (C5.out _).mono ?_
  rintro x w5 ⟨rfl, hb5⟩
  go_wp2
  go_ret
  exact ⟨rfl, (BB3.out.alloc BB3.out.size _).trans (hb5.mono (Nat.le_trans BB3.out.size (by simp)))⟩

end Go.Proofs.Ytjjkjppaiejajaa
