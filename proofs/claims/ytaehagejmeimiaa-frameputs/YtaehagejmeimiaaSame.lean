/-
  The contracts of Same and SameLists: for all slices of bytes.
-/
import Derived.Test.YtaehagejmeimiaaAll
namespace Go.Proofs.Ytaehagejmeimiaa
open Go.RowKit

theorem str_toList (a : List Nat) : (str a).toList = a.map UInt8.ofNat := by
  rw [ByteArray.toList_eq]
  simp [str, strOfNums]

theorem str_inj (a b : List Nat) (ha : ∀ c ∈ a, c < 256) (hb : ∀ c ∈ b, c < 256) (h : (str a).toList = (str b).toList) : a = b := by
  rw [str_toList, str_toList] at h
  have e : ∀ (l : List Nat), (∀ c ∈ l, c < 256) → (l.map UInt8.ofNat).map UInt8.toNat = l := by
    intro l hl
    rw [List.map_map]
    conv => rhs; rw [← List.map_id l]
    apply List.map_congr_left
    intro c hc
    simp
    exact hl c hc
  rw [← e a ha, ← e b hb, h]

/-- The same bytes? -/
def sameB (a b : List Nat) : Bool := decide (a = b)
theorem sameB_self (a : List Nat) : sameB a a = true := by simp [sameB]
theorem sameB_ne {a b : List Nat} (h : a ≠ b) : sameB a b = false := by simp [sameB, h]
theorem str_eq (a b : List Nat) (ha : ∀ c ∈ a, c < 256) (hb : ∀ c ∈ b, c < 256) : ((str a).toList == (str b).toList) = sameB a b := by
  by_cases h : a = b
  · subst h; rw [sameB_self]; simp
  · rw [sameB_ne h, beq_eq_false_iff_ne]
    exact fun hh => h (str_inj a b ha hb hh)

set_option maxHeartbeats 400000 in
theorem same_any (a b : Option Addr) (n m c d : Nat) (la lb : List Nat) (w : World) (hA : Bys w a n la) (hB : Bys w b m lb) :
    Calls Try.prog 17 #[.slice a n c, .slice b m d] w fun e w' => e = .returned (.bool (sameB la lb)) ∧ w = w' := by
  have r1 := run_str hA c
  have r2 := run_str hB d
  have r3 := str_eq la lb hA.2.1 hB.2.1
  clear hA hB
  go_enter Try.func17, Try.ntmps17
  go_wp2
  go_ret
  exact ⟨rfl, rfl⟩

/-- The same lists? -/
def sameLB (a b : List (List Nat)) : Bool := decide (a = b)
theorem sameLB_self (a : List (List Nat)) : sameLB a a = true := by simp [sameLB]
theorem sameLB_len {a b : List (List Nat)} (h : a.length ≠ b.length) : sameLB a b = false := by
  unfold sameLB; rw [decide_eq_false_iff_not]; rintro rfl; exact h rfl
theorem sameLB_at {a b : List (List Nat)} (k : Nat) (h1 : k < a.length) (h2 : k < b.length) (h : a[k] ≠ b[k]) : sameLB a b = false := by
  unfold sameLB; rw [decide_eq_false_iff_not]; rintro rfl; exact h rfl
theorem sameLB_all {a b : List (List Nat)} (h : a.length = b.length) (hk : ∀ j (h1 : j < a.length) (h2 : j < b.length), a[j] = b[j]) : sameLB a b = true := by
  unfold sameLB; rw [decide_eq_true_iff]; exact List.ext_getElem h hk

theorem Reads.drewN {w : World} {u : Value} {l : List Nat} (h : Reads w u l) (k : Nat) : Reads (w.drewN k) u l := h
theorem Cells.drewN {w : World} {a : Option Addr} {n : Nat} {vs : List Value} (h : Cells w a n vs) (k : Nat) : Cells (w.drewN k) a n vs := h
theorem AllRead.drewN {w : World} {vs : List Value} {ls : List (List Nat)} (h : AllRead w vs ls) (k : Nat) : AllRead (w.drewN k) vs ls := h

def SlR (w : World) (la lb : List (List Nat)) (n : Nat) (i : Value) (wr : World) : Prop :=
  ∃ k q : Nat, k ≤ n ∧ i = .int .i64 k ∧ wr = w.drewN q ∧ ∀ j (h1 : j < la.length) (h2 : j < lb.length), j < k → la[j] = lb[j]

def SlPost (w : World) (la lb : List (List Nat)) (e : Ending) (w' : World) : Prop := e = .returned (.bool (sameLB la lb)) ∧ ∃ k, w' = w.drewN k

set_option maxHeartbeats 400000 in
theorem sameLists_any (a b : Option Addr) (n m c d : Nat) (va vb : List Value) (la lb : List (List Nat)) (w : World) (hA : Cells w a n va) (hB : Cells w b m vb) (hRA : AllRead w va la) (hRB : AllRead w vb lb) (hna : n ≤ maxLen) (hmb : m ≤ maxLen) :
    Calls Try.prog 24 #[.slice a n c, .slice b m d] w (SlPost w la lb) := by
  unfold maxLen at hna hmb
  have hla : la.length = n := by rw [← hRA.1, hA.1]
  have hlb : lb.length = m := by rw [← hRB.1, hB.1]
  have HA := Lib.hid hA
  have HB := Lib.hid hB
  have HRA := Lib.hid hRA
  have HRB := Lib.hid hRB
  have HLA := Lib.hid hla
  have HLB := Lib.hid hlb
  clear hA hB hRA hRB hla hlb
  by_cases hnm : n = m
  · subst hnm
    go_enter Try.func24, Try.ntmps24
    go_wp2_with fail
    go_loopw [5] (SlR w la lb n) (fun i _ => n - (intOf i).toNat)
    case atStart => exact ⟨0, 0, by omega, rfl, rfl, fun j _ _ h => by omega⟩
    case round =>
      obtain ⟨k, q, hk, rfl, rfl, hall⟩ := hrel
      have HALL := Lib.hid hall
      clear hall
      by_cases hlt : k < n
      · obtain ⟨b1, o1, rfl, hc1⟩ := HA.out.2 (by omega)
        obtain ⟨b2, o2, rfl, hc2⟩ := HB.out.2 (by omega)
        have hck1 := hc1 k hlt
        have hck2 := hc2 k hlt
        rw [List.getElem?_eq_getElem (by rw [HA.out.1]; exact hlt)] at hck1
        rw [List.getElem?_eq_getElem (by rw [HB.out.1]; exact hlt)] at hck2
        obtain ⟨A1, e1, hv1, hb1, _⟩ := HRA.out.2 k (by rw [HA.out.1]; exact hlt) (by rw [HLA.out]; exact hlt)
        obtain ⟨A2, e2, hv2, hb2, _⟩ := HRB.out.2 k (by rw [HB.out.1]; exact hlt) (by rw [HLB.out]; exact hlt)
        rw [hv1] at hck1
        rw [hv2] at hck2
        have r1 : ∀ t, (convert 22 9 (.slice A1 (la[k]'(by rw [HLA.out]; exact hlt)).length e1)).run Try.prog (w.drewN t) = .ok (.string (str (la[k]'(by rw [HLA.out]; exact hlt)))) (w.drewN t) := fun t => run_str (hb1.drewN t) e1
        have r2 : ∀ t, (convert 22 9 (.slice A2 (lb[k]'(by rw [HLB.out]; exact hlt)).length e2)).run Try.prog (w.drewN t) = .ok (.string (str (lb[k]'(by rw [HLB.out]; exact hlt)))) (w.drewN t) := fun t => run_str (hb2.drewN t) e2
        have r3 := str_eq _ _ hb1.2.1 hb2.2.1
        have hno := sameLB_at (a := la) (b := lb) k (by rw [HLA.out]; exact hlt) (by rw [HLB.out]; exact hlt)
        have hyes : sameB (la[k]'(by rw [HLA.out]; exact hlt)) (lb[k]'(by rw [HLB.out]; exact hlt)) = true → ∀ j (h1 : j < la.length) (h2 : j < lb.length), j < k + 1 → la[j] = lb[j] := fun h j h1 h2 hj => by
          by_cases hjk : j = k
          · subst hjk
            simpa [sameB] using h
          · exact HALL.out j h1 h2 (by omega)
        have hno2 : sameB (la[k]'(by rw [HLA.out]; exact hlt)) (lb[k]'(by rw [HLB.out]; exact hlt)) = false → sameLB la lb = false := fun h => hno (by
          intro e
          rw [e, sameB_self] at h
          cases h)
        clear hc1 hc2 hv1 hv2 hb1 hb2 hno
        generalize la[k]'(by rw [HLA.out]; exact hlt) = xa at *
        generalize lb[k]'(by rw [HLB.out]; exact hlt) = xb at *
        generalize sameB xa xb = s at *
        have HYES := Lib.hid hyes
        have HNO := Lib.hid hno2
        have i1 : (k : Int) < (n : Int) := by omega
        clear hyes hno2
        cases s
        · go_wp2_with fail
          go_quiet (fail)
          go_wp2
          go_ret
          exact ⟨by rw [HNO.out trivial]; rfl, q + nq, by rw [World.drewN_drewN]⟩
        · go_wp2_with fail
          go_quiet (fail)
          go_wp2
          go_roundw
          case rel => exact ⟨k + 1, q + nq, by omega, by go_num, rfl, HYES.out trivial⟩
          case measure => simp [intOf]; omega
      · have hkn : k = n := by omega
        subst hkn
        go_wp2
        go_ret
        exact ⟨by rw [sameLB_all (by rw [HLA.out, HLB.out]) (fun j h1 h2 => HALL.out j h1 h2 (by rw [← HLA.out]; exact h1))]; rfl, q, rfl⟩
  · have hd : ((n : Int) != (m : Int)) = true := by rw [bne_iff_ne]; omega
    have hr := sameLB_len (a := la) (b := lb) (by rw [HLA.out, HLB.out]; exact hnm)
    have HR := Lib.hid hr
    clear hr
    go_enter Try.func24, Try.ntmps24
    go_wp2
    go_ret
    exact ⟨by rw [HR.out]; rfl, 0, rfl⟩

end Go.Proofs.Ytaehagejmeimiaa
