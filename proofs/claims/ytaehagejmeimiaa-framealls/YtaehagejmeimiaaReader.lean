/-
  The contracts of package field's reader, where enough bytes are left.
-/
import Derived.Test.YtaehagejmeimiaaPut
namespace Go.Proofs.Ytaehagejmeimiaa
open Go.RowKit

/-- A reader, at block p, at place i of l. -/
def Rd (w : World) (p B i : Nat) (l : List Nat) : Prop := B ≤ p ∧ ∃ v, Lies w p 78 #[v, .int .i64 i, .bool false] ∧ Own w B v l
theorem Rd.drewN {w : World} {p B i : Nat} {l : List Nat} (h : Rd w p B i l) (k : Nat) : Rd (w.drewN k) p B i l := h
theorem Rd.below {w w' : World} {p B i : Nat} {l : List Nat} (h : Rd w p B i l) (hb : Below w.heap.size w w') : Rd w' p B i l := by
  obtain ⟨h1, v, h2, h3⟩ := h
  exact ⟨h1, v, h2.below hb h2.lt, h3.belowOwn hb⟩

/-- The number that bytes are, the highest first. -/
def val (l : List Nat) : Nat := l.foldl (fun a c => a * 256 + c) 0
theorem val_snoc (l : List Nat) (c : Nat) : val (l ++ [c]) = val l * 256 + c := by simp [val]
theorem val_lt (l : List Nat) (h : ∀ c ∈ l, c < 256) : val l < 256 ^ l.length := by
  have : ∀ (l : List Nat), (∀ c ∈ l, c < 256) → ∀ a m, a < 256 ^ m → l.foldl (fun a c => a * 256 + c) a < 256 ^ (m + l.length) := by
    intro l
    induction l with
    | nil => intro _ a m ha; simpa using ha
    | cons c r ih =>
      intro hl a m ha
      rw [List.foldl_cons]
      have := ih (fun x hx => hl x (by simp [hx])) (a * 256 + c) (m + 1) (by
        have := hl c (by simp)
        rw [Nat.pow_succ]; omega)
      rw [List.length_cons]
      rwa [show m + (r.length + 1) = m + 1 + r.length by omega]
  have := this l h 0 0 (by simp)
  rwa [Nat.zero_add] at this

set_option maxHeartbeats 400000 in
theorem left_any (p B i : Nat) (l : List Nat) (w : World) (hR : Rd w p B i l) (hi : i ≤ l.length) (hl : l.length ≤ 1000) :
    Calls Try.prog 47 #[.pointer (some ⟨p, 0, none⟩)] w fun e w' => e = .returned (.int .i64 ((l.length - i : Nat) : Int)) ∧ ∃ k, w' = w.drewN k := by
  obtain ⟨_, v, hL, hO⟩ := hR
  obtain ⟨A, c, rfl, _, _, _, _⟩ := hO.slice
  have hc0 := hL.cell 0
  have hc1 := hL.cell 1
  clear hL hO
  go_enter Try.func47, Try.ntmps47
  go_wp2_with fail
  go_quiet (fail)
  go_wp2
  go_ret
  exact ⟨ret_int (by first | omega | (rw [IntWalk.i64_in _ (by omega)]; omega)), _, rfl⟩

set_option maxHeartbeats 400000 in
theorem has_any (p B i k : Nat) (l : List Nat) (w : World) (hR : Rd w p B i l) (hi : i + k ≤ l.length) (hl : l.length ≤ 1000) :
    Calls Try.prog 46 #[.pointer (some ⟨p, 0, none⟩), .int .i64 k] w fun e w' => e = .returned (.bool true) ∧ ∃ k, w' = w.drewN k := by
  have HR := Lib.hid hR
  obtain ⟨_, v, hL, hO⟩ := hR
  have hc2 := hL.cell 2
  clear hL hO
  go_enter Try.func46, Try.ntmps46
  go_wp2_with fail
  with_reducible refine (left_any _ _ _ _ _ HR.out (by omega) hl).mono ?_
  rintro e w2 ⟨rfl, q, rfl⟩
  have hd : decide (l.length - i < k) = false := by simp; omega
  generalize l.length - i = z at *
  go_wp2
  go_ret
  exact ⟨rfl, _, rfl⟩

theorem or_byte (x y : Nat) (hx : x < 16777216) (hy : y < 256) : bits .or .u64 ((x : Int) * 256) (y : Int) = ((x * 256 + y : Nat) : Int) := by
  have h := u64_or_nat (x * 256) y (by omega) (by omega)
  rw [show ((x * 256 : Nat) : Int) = (x : Int) * 256 from by omega] at h
  rw [h, show x * 256 = x <<< 8 from by rw [Nat.shiftLeft_eq], Nat.shiftLeft_add_eq_or_of_lt (by omega)]

def RnR (w : World) (p B i k : Nat) (l : List Nat) (x y : Value) (wr : World) : Prop :=
  ∃ j : Nat, j ≤ k ∧ y = .int .i64 j ∧ x = .int .u64 (val ((l.drop i).take j) : Nat) ∧ Rd wr p B i l ∧ Below B w wr

def RnPost (w : World) (p B i k : Nat) (l : List Nat) (e : Ending) (w' : World) : Prop :=
  e = .returned (.int .u64 (val ((l.drop i).take k) : Nat)) ∧ Rd w' p B (i + k) l ∧ Below B w w'

set_option maxHeartbeats 400000 in
theorem rnumber_any (p B i k : Nat) (l : List Nat) (w : World) (hR : Rd w p B i l) (hi : i + k ≤ l.length) (hk : k ≤ 4) (hl : l.length ≤ 1000) :
    Calls Try.prog 45 #[.pointer (some ⟨p, 0, none⟩), .int .i64 k] w (RnPost w p B i k l) := by
  have HR := Lib.hid hR
  clear hR
  go_enter Try.func45, Try.ntmps45
  go_wp2_with fail
  with_reducible refine (has_any _ _ _ _ _ _ HR.out hi hl).mono ?_
  rintro e w2 ⟨rfl, q, rfl⟩
  go_wp2_with fail
  go_loopw [5, 12] (RnR w p B i k l) (fun _ i _ => k - (intOf i).toNat)
  case atStart => exact ⟨0, by omega, rfl, rfl, HR.out.drewN _, below_drewN (Below.refl _ _) _⟩
  case round =>
    obtain ⟨j, hj, rfl, rfl, hR, hbel⟩ := hrel
    have HR1 := Lib.hid hR
    have HBE := Lib.hid hbel
    obtain ⟨hBp, v, hL, hO⟩ := hR
    have hc1 := hL.cell 1
    by_cases hlt : j < k
    · have hc0 := hL.cell 0
      obtain ⟨A, c, rfl, hB, _, _, _⟩ := hO.slice
      obtain ⟨b, off, rfl, hc⟩ := hB.2.2 (by omega)
      have hck := hc (i + j) (by omega)
      have hyb := getD_lt l hB.2.1 (i + j)
      have hv := val_lt ((l.drop i).take j) (fun c hc => hB.2.1 c (List.mem_of_mem_drop (List.mem_of_mem_take hc)))
      have hsn : val ((l.drop i).take (j + 1)) = val ((l.drop i).take j) * 256 + l.getD (i + j) 0 := by
        rw [take_one _ _ (by rw [List.length_drop]; omega), val_snoc]
        simp [List.getD]
      rw [List.length_take, List.length_drop, Nat.min_eq_left (by omega)] at hv
      have hv2 : val ((l.drop i).take j) < 16777216 := Nat.lt_of_lt_of_le hv (show 256 ^ j ≤ 256 ^ 3 from Nat.pow_le_pow_right (by decide) (by omega))
      have hq : IntKind.i64.wrap ((i : Int) + (j : Int)) = ((i + j : Nat) : Int) := by rw [IntWalk.i64_in _ (by omega)]; omega
      have hq1 : ((i + j : Nat) : Int) < (l.length : Int) := by omega
      have hi2 : i ≤ 1000 := by omega
      have HSN := Lib.hid hsn
      clear hL hO hB hc hv hsn HR
      generalize val ((l.drop i).take j) = x at *
      generalize l.getD (i + j) 0 = y at *
      generalize i + j = q1 at *
      have hor := or_byte x y hv2 hyb
      go_wp2_with fail
      go_quiet (fail)
      go_wp2
      go_roundw
      case rel => exact ⟨j + 1, by omega, by go_num, val_int (by rw [HSN.out]; omega), HR1.out.drewN _, below_drewN HBE.out _⟩
      case measure => simp [intOf]; omega
    · have hjk : j = k := by omega
      subst hjk
      have hf1 := hL.free 1
      have hi2 : i ≤ 1000 := by omega
      have HL := Lib.hid hL
      have HO := Lib.hid hO
      clear hL hO
      go_wp2
      go_ret
      have hL2 := HL.out.put 1 (.int .i64 ((i + j : Nat) : Int))
      exact ⟨rfl, ⟨hBp, v, hL2, HO.out.setOther (a := ⟨p, 1, none⟩) (HO.out.ne HL.out (by decide)) _⟩, HBE.out.setCell hBp _⟩

theorem Rd.val_le {l : List Nat} {i k : Nat} (hl : ∀ c ∈ l, c < 256) : val ((l.drop i).take k) < 256 ^ k := by
  have h1 := val_lt ((l.drop i).take k) (fun c hc => hl c (List.mem_of_mem_drop (List.mem_of_mem_take hc)))
  refine Nat.lt_of_lt_of_le h1 (Nat.pow_le_pow_right (by decide) ?_)
  rw [List.length_take]; omega

def Ru16Post (w : World) (p B i : Nat) (l : List Nat) (e : Ending) (w' : World) : Prop :=
  e = .returned (.int .u16 (val ((l.drop i).take 2) : Nat)) ∧ Rd w' p B (i + 2) l ∧ Below B w w'
def Ru32Post (w : World) (p B i : Nat) (l : List Nat) (e : Ending) (w' : World) : Prop :=
  e = .returned (.int .u32 (val ((l.drop i).take 4) : Nat)) ∧ Rd w' p B (i + 4) l ∧ Below B w w'

set_option maxHeartbeats 400000 in
theorem ru16_any (p B i : Nat) (l : List Nat) (w : World) (hR : Rd w p B i l) (hi : i + 2 ≤ l.length) (hl : l.length ≤ 1000) :
    Calls Try.prog 42 #[.pointer (some ⟨p, 0, none⟩)] w (Ru16Post w p B i l) := by
  have hb : ∀ c ∈ l, c < 256 := by
    obtain ⟨_, v, _, hO⟩ := hR
    exact hO.2
  have hv : val ((l.drop i).take 2) < 65536 := Rd.val_le hb
  have c2 := rnumber_any p B i 2 l w hR hi (by omega) hl
  rw [show ((2 : Nat) : Int) = 2 from rfl] at c2
  have C2 := Lib.hid c2
  clear c2 hR hb
  go_enter Try.func42, Try.ntmps42
  go_wp2_with fail
  with_reducible refine C2.out.mono ?_
  rintro e w2 ⟨rfl, hR2, hb2⟩
  have HR2 := Lib.hid hR2
  clear hR2 C2
  generalize hx : val ((l.drop i).take 2) = x at *
  have HX := Lib.hid hx
  clear hx
  go_wp2
  go_ret
  exact ⟨ret_int (by rw [HX.out]), HR2.out, hb2⟩

set_option maxHeartbeats 400000 in
theorem ru32_any (p B i : Nat) (l : List Nat) (w : World) (hR : Rd w p B i l) (hi : i + 4 ≤ l.length) (hl : l.length ≤ 1000) :
    Calls Try.prog 43 #[.pointer (some ⟨p, 0, none⟩)] w (Ru32Post w p B i l) := by
  have hb : ∀ c ∈ l, c < 256 := by
    obtain ⟨_, v, _, hO⟩ := hR
    exact hO.2
  have hv : val ((l.drop i).take 4) < 4294967296 := Rd.val_le hb
  have c2 := rnumber_any p B i 4 l w hR hi (by omega) hl
  rw [show ((4 : Nat) : Int) = 4 from rfl] at c2
  have C2 := Lib.hid c2
  clear c2 hR hb
  go_enter Try.func43, Try.ntmps43
  go_wp2_with fail
  with_reducible refine C2.out.mono ?_
  rintro e w2 ⟨rfl, hR2, hb2⟩
  have HR2 := Lib.hid hR2
  clear hR2 C2
  generalize hx : val ((l.drop i).take 4) = x at *
  have HX := Lib.hid hx
  clear hx
  go_wp2
  go_ret
  exact ⟨ret_int (by rw [HX.out]), HR2.out, hb2⟩

def NrPost (w : World) (l : List Nat) (e : Ending) (w' : World) : Prop :=
  e = .returned (.pointer (some ⟨w'.heap.size - 1, 0, none⟩)) ∧ Rd w' (w'.heap.size - 1) w.heap.size 0 l ∧ Below w.heap.size w w'

set_option maxHeartbeats 400000 in
theorem newReader_any (a : Option Addr) (n cap : Nat) (l : List Nat) (w : World) (hB : Bys w a n l) (hn : n ≤ 1000) :
    Calls Try.prog 41 #[.slice a n cap] w (NrPost w l) := by
  have HB := Lib.hid hB
  clear hB
  go_enter Try.func41, Try.ntmps41
  go_wp2_with fail
  with_reducible refine (fresh_any _ _ _ _ _ HB.out (by omega)).mono ?_
  rintro e w2 ⟨rfl, hO2, hb2⟩
  have HO2 := Lib.hid hO2
  clear hO2
  go_wp2
  go_ret
  have hs : ∀ o : Obj, (w2.alloc o).heap.size - 1 = w2.heap.size := fun o => by rw [size_one]; omega
  unfold NrPost
  rw [hs]
  exact ⟨rfl, ⟨hb2.size, _, Lies.made w2 78 _, HO2.out.alloc _⟩, hb2.alloc hb2.size _⟩

end Go.Proofs.Ytaehagejmeimiaa
