/-
  The walk of NoteNames, out of the contracts.
-/
import Derived.Test.YtjjkjppaiejajaaInFn
import Derived.Test.YtjjkjppaiejajaaNmMath
import Derived.Test.YtjjkjppaiejajaaNIn
import Derived.IntWalk
namespace Go.Proofs.Ytjjkjppaiejajaa
open Go.RowKit

def NmR (w : World) (s : List Nat) (n : Nat) (a i : Value) (wr : World) : Prop :=
  ∃ j p : Nat, j ≤ n ∧ i = .int .i64 (j : Nat) ∧ a = .int .i64 (p : Nat) ∧ p ≤ 10 ∧ (s.drop j).Sublist (Ent.alpha.drop p) ∧ Below w.heap.size w wr
def NmI (w : World) (s : List Nat) (j : Nat) (a : Value) (wr : World) : Prop :=
  ∃ p : Nat, a = .int .i64 (p : Nat) ∧ p ≤ 10 ∧ (s.drop j).Sublist (Ent.alpha.drop p) ∧ Below w.heap.size w wr
def NmL (w : World) (q : Nat) (k : Int) (ep ls st cd : Nat) (s : List Nat) (n : Nat) (i : Value) (wr : World) : Prop :=
  ∃ j : Nat, j ≤ n ∧ i = .int .i64 (j : Nat) ∧ Below w.heap.size w wr ∧ ∃ A c, Lies wr q 26 (evs (Ent.nn k ep ls st cd (s.take j)) (.slice A (Ent.nn k ep ls st cd (s.take j)).key.length c) (.slice none 0 0))

set_option maxRecDepth 100000 in
set_option maxHeartbeats 4000000 in
theorem names_walk_in (k step code : Int) (ep ls : Nat) (w : World) (h1 : 1 ≤ k) (h2 : k ≤ 13) :
    Calls Try.prog 9 #[.int .i64 k, .int .u32 (ep : Nat), .int .u64 (ls : Nat), .int .i64 step, .int .i64 code] w fun x w' => x = .returned (.bool true) ∧ Below w.heap.size w w' := by
  obtain ⟨u, hu⟩ : ∃ u : Nat, IntKind.u64.wrap step = (u : Int) := ⟨(IntKind.u64.wrap step).toNat, by rw [IntKind.wrap_u64]; omega⟩
  obtain ⟨v, hv⟩ : ∃ v : Nat, IntKind.u64.wrap code = (v : Int) := ⟨(IntKind.u64.wrap code).toNat, by rw [IntKind.wrap_u64]; omega⟩
  obtain ⟨st, hst⟩ : ∃ q : Nat, u % 16 = q := ⟨_, rfl⟩
  obtain ⟨cd, hcd⟩ : ∃ q : Nat, v % 256 = q := ⟨_, rfl⟩
  have bs : st < 16 := by omega
  have bc : cd < 256 := by omega
  have hs1 : ((u : Nat) : Int) % 16 = (st : Int) := by omega
  have hc1 : ((v : Nat) : Int) % 256 = (cd : Int) := by omega
  have hs2 : IntKind.i64.wrap ((st : Nat) : Int) = (st : Int) := IntWalk.i64_in _ (by omega)
  have hc2 : IntKind.i64.wrap ((cd : Nat) : Int) = (cd : Int) := IntWalk.i64_in _ (by omega)
  have hok := Ent.nn_ok k ep ls st cd h1 h2 bs bc
  have CN := Lib.hid (fun W => names_any k W)
  unfold NamesPost at CN
  have HSUB := Lib.hid (Ent.lets_sub k)
  have HORD := Lib.hid (Ent.lets_order k)
  have hsz := str_size (Ent.lets k)
  have HGET := Lib.hid (str_get (Ent.lets k) (fun c hc => Ent.alpha_small c (Ent.lets_sub k c hc)))
  have hn6 := Ent.lets_len k
  have hne : Ent.lets k ≠ [] := by
    have := ((Ent.ok_iff _).2 ((Ent.ok_iff _).1 hok))
    rcases Ent.kinds k h1 h2 with h | h | h | h | h | h | h | h | h | h | h | h | h <;> rw [h] <;> decide
  have hnil := str_nil (Ent.lets k)
  rw [show decide (Ent.lets k = []) = false from decide_eq_false hne] at hnil
  have cchk : ∀ A c W, Calls Try.prog 14 #[.agg (evs (Ent.nn k ep ls st cd (Ent.lets k)) (.slice A (Ent.nn k ep ls st cd (Ent.lets k)).key.length c) (.slice none 0 0))] W (ChkPost (Ent.nn k ep ls st cd (Ent.lets k)) W) := fun A c W => check_any (Ent.nn k ep ls st cd (Ent.lets k)) A none c 0 W
  unfold ChkPost at cchk
  rw [show chkN (Ent.nn k ep ls st cd (Ent.lets k)) = 0 from by unfold chkN; rw [if_pos hok]] at cchk
  have CHK := Lib.hid cchk
  have hasz : ({ data := #[69, 80, 76, 84, 79, 83, 85, 67, 75, 68] } : ByteArray).size = 10 := rfl
  have HAG := Lib.hid (str_get Ent.alpha Ent.alpha_small)
  rw [show str Ent.alpha = ({ data := #[69, 80, 76, 84, 79, 83, 85, 67, 75, 68] } : ByteArray) from rfl] at HAG
  generalize str (Ent.lets k) = S at *
  generalize Ent.lets k = s at *
  generalize hn : s.length = n at *
  have HN := Lib.hid hn
  have HST := Lib.hid hst
  have HCD := Lib.hid hcd
  clear hn hok hne cchk hst hcd
  have kc := fun (w : World) (C : Array Value) (n c : Nat) => Lib.run_convert_bytes_const (P := Try.prog) w 24 5 C n c Try.underlying24 Try.underlying5
  go_enter Try.func9, Try.ntmps9
  go_wp2_with fail
  with_reducible refine (CN.out _).mono ?_
  rintro x w0 ⟨rfl, hw0⟩
  subst hw0
  go_wp2_with fail
  go_loopw [13, 14] (NmR w0 s n) (fun _ i _ => n - (intOf i).toNat)
  case atStart => exact ⟨0, 0, by omega, rfl, rfl, by omega, HORD.out, Below.refl _ _⟩
  case round =>
    obtain ⟨j, p0, hj, rfl, rfl, hp0, hsub, hbel⟩ := hrel
    have HSB := Lib.hid hsub
    have HBE := Lib.hid hbel
    clear hsub hbel
    by_cases hp : j < n
    · have hj2 : (j : Int) < (n : Int) := by omega
      have hvj := HGET.out j
      have hdj := Ent.drop_getD s j (by rw [HN.out]; exact hp)
      obtain ⟨c, hc⟩ : ∃ c, s.getD j 0 = c := ⟨_, rfl⟩
      rw [hc] at hvj hdj
      have HDJ := Lib.hid hdj
      clear hdj hc
      go_wp2_with fail
      go_loopw [13] (NmI w0 s j) (fun a _ => 10 - (intOf a).toNat)
      case atStart => exact ⟨p0, rfl, hp0, HSB.out, HBE.out⟩
      case round =>
        obtain ⟨p, rfl, hp10, hsub2, hbel2⟩ := hrel
        have HSB2 := Lib.hid hsub2
        have HBE2 := Lib.hid hbel2
        clear hsub2 hbel2
        have hlt : p < 10 := by
          refine Classical.byContradiction fun hh => ?_
          have h := HSB2.out
          rw [HDJ.out, List.drop_of_length_le (show Ent.alpha.length ≤ p from by show 10 ≤ p; omega)] at h
          cases h
        have hp2 : (p : Int) < (10 : Int) := by omega
        have hvp := HAG.out p
        have hdp := Ent.drop_getD Ent.alpha p hlt
        obtain ⟨d, hd⟩ : ∃ d, Ent.alpha.getD p 0 = d := ⟨_, rfl⟩
        rw [hd] at hvp hdp
        have hstep := HSB2.out
        rw [HDJ.out, hdp] at hstep
        have HSTEP := Lib.hid hstep
        clear hstep hdp hd
        by_cases he : d = c
        · have hb : (((d : Nat) : Int) == ((c : Nat) : Int)) = true := by rw [beq_iff_eq, he]
          have hb2 : (((d : Nat) : Int) != ((c : Nat) : Int)) = false := by rw [bne_eq_false_iff_eq, he]
          have hsub3 := HSTEP.out
          rw [he] at hsub3
          have HS3 := Lib.hid (Ent.sub_take hsub3)
          clear hsub3
          go_wp2_with fail
          go_quiet (fail)
          go_wp2
          go_roundw
          case rel => exact ⟨j + 1, p + 1, by omega, by go_num, by go_num, by omega, HS3.out, below_drewN HBE2.out _⟩
          case measure => simp [intOf]; omega
        · have hb : (((d : Nat) : Int) == ((c : Nat) : Int)) = false := by rw [beq_eq_false_iff_ne]; omega
          have hb2 : (((d : Nat) : Int) != ((c : Nat) : Int)) = true := by rw [bne_iff_ne]; omega
          have HS3 := Lib.hid (Ent.sub_pass HSTEP.out he)
          go_wp2_with fail
          go_quiet (fail)
          go_wp2
          go_roundw
          case rel => exact ⟨p + 1, by go_num, by omega, by rw [HDJ.out]; exact HS3.out, below_drewN HBE2.out _⟩
          case measure => simp [intOf]; omega
    · obtain ⟨q, hq⟩ : ∃ q, wr.heap.size = q := ⟨_, rfl⟩
      have le0 : Lies (wr.alloc (.cells #[.int .i64 k, .int .u32 0, .int .u32 0, .int .u64 0, .int .u64 0, .int .u32 0, .int .i64 0, .bool false, .int .i64 0, .slice none 0 0, .slice none 0 0] 26)) q 26 (evs (Ent.nn k ep ls st cd []) (.slice none 0 0) (.slice none 0 0)) := by rw [← hq]; exact Lies.made wr 26 _
      have LE0 := Lib.hid le0
      have BE0 := Lib.hid (HBE.out.alloc HBE.out.size (.cells #[.int .i64 k, .int .u32 0, .int .u32 0, .int .u64 0, .int .u64 0, .int .u32 0, .int .i64 0, .bool false, .int .i64 0, .slice none 0 0, .slice none 0 0] 26))
      have hwq : w0.heap.size ≤ q := by rw [← hq]; exact HBE.out.size
      clear le0 HBE HSB
      go_wp2_with fail
      clear hq
      go_loopw [16] (NmL w0 q k ep ls st cd s n) (fun i _ => n - (intOf i).toNat)
      case atStart => exact ⟨0, by omega, rfl, BE0.out, none, 0, LE0.out⟩
      case round =>
        obtain ⟨j2, hj2, rfl, hbel, A, cA, hL⟩ := hrel
        have HBE := Lib.hid hbel
        have hsw := hbel.size
        clear hbel LE0 BE0
        by_cases hp3 : j2 < n
        · have hj3 : (j2 : Int) < (n : Int) := by omega
          have hvj := HGET.out j2
          have hca := HSUB.out _ (getD_mem s j2 (by rw [HN.out]; exact hp3))
          have htk := take_one s j2 (by rw [HN.out]; exact hp3)
          obtain ⟨c, hc⟩ : ∃ c, s.getD j2 0 = c := ⟨_, rfl⟩
          rw [hc] at hvj hca htk
          have HTK := Lib.hid htk
          have f1 := hL.cell 1
          have f3 := hL.cell 3
          have f6 := hL.cell 6
          have f8 := hL.cell 8
          have f9 := hL.cell 9
          have hfz := hL.free
          have hlt := hL.lt
          have HL := Lib.hid hL
          clear htk hc hL
          rcases Ent.alpha_cases hca with h | h | h | h | h | h | h | h | h | h
          · subst h
            go_wp2
            go_roundw
            case rel => exact ⟨j2 + 1, by omega, by go_num, HBE.out.setCell (p := ⟨q, 1, none⟩) hwq _, A, cA, by rw [HTK.out, Ent.nn_E]; exact HL.out.put 1 _⟩
            case measure => simp [intOf]; omega
          · subst h
            go_wp2
            go_roundw
            case rel => exact ⟨j2 + 1, by omega, by go_num, HBE.out, A, cA, by rw [HTK.out, Ent.nn_o k ep ls st cd _ 80 (by decide)]; exact HL.out⟩
            case measure => simp [intOf]; omega
          · subst h
            go_wp2
            go_roundw
            case rel => exact ⟨j2 + 1, by omega, by go_num, HBE.out.setCell (p := ⟨q, 3, none⟩) hwq _, A, cA, by rw [HTK.out, Ent.nn_L]; exact HL.out.put 3 _⟩
            case measure => simp [intOf]; omega
          · subst h
            go_wp2
            go_roundw
            case rel => exact ⟨j2 + 1, by omega, by go_num, HBE.out, A, cA, by rw [HTK.out, Ent.nn_o k ep ls st cd _ 84 (by decide)]; exact HL.out⟩
            case measure => simp [intOf]; omega
          · subst h
            go_wp2
            go_roundw
            case rel => exact ⟨j2 + 1, by omega, by go_num, HBE.out, A, cA, by rw [HTK.out, Ent.nn_o k ep ls st cd _ 79 (by decide)]; exact HL.out⟩
            case measure => simp [intOf]; omega
          · subst h
            go_wp2
            go_roundw
            case rel => exact ⟨j2 + 1, by omega, by go_num, HBE.out.setCell (p := ⟨q, 6, none⟩) hwq _, A, cA, by rw [HTK.out, Ent.nn_S]; exact HL.out.put 6 _⟩
            case measure => simp [intOf]; omega
          · subst h
            go_wp2
            go_roundw
            case rel => exact ⟨j2 + 1, by omega, by go_num, HBE.out, A, cA, by rw [HTK.out, Ent.nn_o k ep ls st cd _ 85 (by decide)]; exact HL.out⟩
            case measure => simp [intOf]; omega
          · subst h
            go_wp2
            go_roundw
            case rel => exact ⟨j2 + 1, by omega, by go_num, HBE.out.setCell (p := ⟨q, 8, none⟩) hwq _, A, cA, by rw [HTK.out, Ent.nn_C]; exact HL.out.put 8 _⟩
            case measure => simp [intOf]; omega
          · subst h
            have hf9 := fun (o : Obj) => (HL.out.alloc o).cell 9
            have hg9 := fun (o : Obj) => (HL.out.alloc o).free 9
            go_wp2
            go_roundw
            case rel => exact ⟨j2 + 1, by omega, by go_num, (HBE.out.setCell (p := ⟨q, 9, none⟩) hwq _).alloc (HBE.out.setCell (p := ⟨q, 9, none⟩) hwq (.slice (some ⟨wr.heap.size, 0, none⟩) 1 1)).size _, some ⟨wr.heap.size, 0, none⟩, 1, by rw [HTK.out, Ent.nn_K]; exact (HL.out.put 9 _).alloc _⟩
            case measure => simp [intOf]; omega
          · subst h
            go_wp2
            go_roundw
            case rel => exact ⟨j2 + 1, by omega, by go_num, HBE.out, A, cA, by rw [HTK.out, Ent.nn_o k ep ls st cd _ 68 (by decide)]; exact HL.out⟩
            case measure => simp [intOf]; omega
        · have htk : s.take j2 = s := List.take_of_length_le (by rw [HN.out]; omega)
          rw [htk] at hL
          obtain ⟨e0, e1, e2, e3, e4, e5, e6, e7, e8, e9, e10⟩ := hL.cellsE
          have C14 := Lib.hid (CHK.out A cA)
          generalize Ent.nn k ep ls st cd s = N at *
          clear hL htk
          go_wp2_with fail
          with_reducible refine (C14.out _).mono ?_
          rintro x w5 ⟨rfl, hb5⟩
          go_wp2_with fail
          with_reducible refine (known_any _).mono ?_
          rintro x w6 ⟨rfl, hb6⟩
          go_wp2
          go_ret
          have b5 := HBE.out.trans (hb5.mono HBE.out.size)
          exact ⟨rfl, b5.trans (hb6.mono b5.size)⟩

set_option maxRecDepth 100000 in
set_option maxHeartbeats 1000000 in
theorem names_walk_out (k step code : Int) (ep ls : Nat) (w : World) (h : k < 1 ∨ 13 < k) :
    Calls Try.prog 9 #[.int .i64 k, .int .u32 (ep : Nat), .int .u64 (ls : Nat), .int .i64 step, .int .i64 code] w fun x w' => x = .returned (.bool true) ∧ Below w.heap.size w w' := by
  have cn := fun W => names_any k W
  unfold NamesPost at cn
  rw [Ent.lets_none k h, show str [] = ({ data := #[] } : ByteArray) from rfl] at cn
  have CN := Lib.hid cn
  clear cn
  by_cases h1 : k < 1
  · go_enter Try.func9, Try.ntmps9
    go_wp2_with fail
    with_reducible refine (CN.out _).mono ?_
    rintro x w0 ⟨rfl, hw0⟩
    subst hw0
    go_wp2_with fail
    refine wp_loop_once ?_
    go_wp2_with fail
    with_reducible refine (known_any _).mono ?_
    rintro x w2 ⟨rfl, hb2⟩
    go_wp2
    go_ret
    exact ⟨rfl, hb2⟩
  · have h2 : 13 < k := by omega
    go_enter Try.func9, Try.ntmps9
    go_wp2_with fail
    with_reducible refine (CN.out _).mono ?_
    rintro x w0 ⟨rfl, hw0⟩
    subst hw0
    go_wp2_with fail
    refine wp_loop_once ?_
    go_wp2_with fail
    with_reducible refine (known_any _).mono ?_
    rintro x w2 ⟨rfl, hb2⟩
    go_wp2
    go_ret
    exact ⟨rfl, hb2⟩

theorem noteNames_walk (k ep ls step code : Int) (w : World) (_hk : (Lit.int .i64 k).wf = true) (hep : (Lit.int .u32 ep).wf = true) (hls : (Lit.int .u64 ls).wf = true) (_hst : (Lit.int .i64 step).wf = true) (_hcd : (Lit.int .i64 code).wf = true) :
    Calls Try.prog 9 #[.int .i64 k, .int .u32 ep, .int .u64 ls, .int .i64 step, .int .i64 code] w fun x w' => x = .returned (.bool true) ∧ Below w.heap.size w w' := by
  have b1 := bounds_u32 hep
  have b2 := bounds_u64 hls
  obtain ⟨e, rfl⟩ : ∃ e : Nat, ep = (e : Int) := ⟨ep.toNat, by omega⟩
  obtain ⟨l, rfl⟩ : ∃ l : Nat, ls = (l : Int) := ⟨ls.toNat, by omega⟩
  by_cases h : k < 1 ∨ 13 < k
  · exact names_walk_out k step code e l w h
  · exact names_walk_in k step code e l w (by omega) (by omega)

end Go.Proofs.Ytjjkjppaiejajaa
