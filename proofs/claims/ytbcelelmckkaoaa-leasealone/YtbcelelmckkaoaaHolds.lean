/-
  The contracts of Holds, wrong and checkHolder.
-/
import Derived.Test.YtbcelelmckkaoaaFree
namespace Go.Proofs.Ytbcelelmckkaoaa
open Go.RowKit
set_option linter.unusedVariables false

set_option maxRecDepth 100000 in
theorem holds_any (e : Nat) (h : Int) (u : Nat) (m : Int) (who : Int) (now : Nat) (w : World) : Calls Try.prog 14 #[.agg #[.int .u32 (e : Int), .int .i64 h, .int .u64 (u : Int), .int .i64 m], .int .i64 who, .int .u64 (now : Int)] w fun x w' => x = .returned (.bool (hoS e h u m who now)) ∧ Below w.heap.size w w' := by
  have HB := Lib.hid (below1 w (.cells #[.int .u32 (e : Int), .int .i64 h, .int .u64 (u : Int), .int .i64 m] 25))
  have C := fun W => Lib.hid (check_any e h u m W)
  have S := fun W => Lib.hid (isSite_any who W)
  by_cases hv : vB e h u m
  · rw [show chkS e h u m = 0 from if_pos hv] at C
    by_cases hs : who = 1 ∨ who = 2
    · rw [show decide (who = 1 ∨ who = 2) = true from decide_eq_true hs] at S
      by_cases hh : h = who
      · have z1 : (h == who) = true := by simpa using hh
        have z2 : (h != who) = false := by simpa using hh
        by_cases hn : now ≤ u
        · have n1 : decide (now ≤ u) = true := decide_eq_true (by omega)
          have n2 : decide ((now : Int) ≤ (u : Int)) = true := decide_eq_true (by omega)
          have R : hoS e h u m who now = true := decide_eq_true ⟨hv, by omega, by omega, by omega⟩
          rw [R]; clear R
          clear hv
          try clear hh
          try clear hs
          go_enter Try.func14, Try.ntmps14
          go_wp2_with fail
          with_reducible refine (C _).out.mono ?_
          rintro x w1 ⟨rfl, hb⟩
          have L1 := (Lies.made w 25 #[.int .u32 (e : Int), .int .i64 h, .int .u64 (u : Int), .int .i64 m]).below hb (by simp)
          obtain ⟨c0, c1, c2, c3⟩ := L1.cells4
          have HB1 := Lib.hid (HB.out.trans (hb.mono HB.out.size))
          clear hb L1
          go_wp2_with fail
          with_reducible refine (S _).out.mono ?_
          rintro x w2 ⟨rfl, rfl⟩
          go_wp2
          go_ret
          exact ⟨rfl, HB1.out⟩
        · have n1 : decide (now ≤ u) = false := decide_eq_false (by omega)
          have n2 : decide ((now : Int) ≤ (u : Int)) = false := decide_eq_false (by omega)
          have R : hoS e h u m who now = false := decide_eq_false (fun ⟨a, b, c, d⟩ => by first | exact hv a | omega)
          rw [R]; clear R
          clear hv
          try clear hh
          try clear hs
          go_enter Try.func14, Try.ntmps14
          go_wp2_with fail
          with_reducible refine (C _).out.mono ?_
          rintro x w1 ⟨rfl, hb⟩
          have L1 := (Lies.made w 25 #[.int .u32 (e : Int), .int .i64 h, .int .u64 (u : Int), .int .i64 m]).below hb (by simp)
          obtain ⟨c0, c1, c2, c3⟩ := L1.cells4
          have HB1 := Lib.hid (HB.out.trans (hb.mono HB.out.size))
          clear hb L1
          go_wp2_with fail
          with_reducible refine (S _).out.mono ?_
          rintro x w2 ⟨rfl, rfl⟩
          go_wp2
          go_ret
          exact ⟨rfl, HB1.out⟩
      · have z1 : (h == who) = false := by simpa using hh
        have z2 : (h != who) = true := by simpa using hh
        have R : hoS e h u m who now = false := decide_eq_false (fun ⟨a, b, c, d⟩ => by first | exact hv a | omega)
        rw [R]; clear R
        clear hv
        try clear hh
        try clear hs
        go_enter Try.func14, Try.ntmps14
        go_wp2_with fail
        with_reducible refine (C _).out.mono ?_
        rintro x w1 ⟨rfl, hb⟩
        have L1 := (Lies.made w 25 #[.int .u32 (e : Int), .int .i64 h, .int .u64 (u : Int), .int .i64 m]).below hb (by simp)
        obtain ⟨c0, c1, c2, c3⟩ := L1.cells4
        have HB1 := Lib.hid (HB.out.trans (hb.mono HB.out.size))
        clear hb L1
        go_wp2_with fail
        with_reducible refine (S _).out.mono ?_
        rintro x w2 ⟨rfl, rfl⟩
        go_wp2
        go_ret
        exact ⟨rfl, HB1.out⟩
    · rw [show decide (who = 1 ∨ who = 2) = false from decide_eq_false hs] at S
      have R : hoS e h u m who now = false := decide_eq_false (fun ⟨a, b, c, d⟩ => by first | exact hv a | omega)
      rw [R]; clear R
      clear hv
      try clear hh
      try clear hs
      go_enter Try.func14, Try.ntmps14
      go_wp2_with fail
      with_reducible refine (C _).out.mono ?_
      rintro x w1 ⟨rfl, hb⟩
      have L1 := (Lies.made w 25 #[.int .u32 (e : Int), .int .i64 h, .int .u64 (u : Int), .int .i64 m]).below hb (by simp)
      obtain ⟨c0, c1, c2, c3⟩ := L1.cells4
      have HB1 := Lib.hid (HB.out.trans (hb.mono HB.out.size))
      clear hb L1
      go_wp2_with fail
      with_reducible refine (S _).out.mono ?_
      rintro x w2 ⟨rfl, rfl⟩
      go_wp2
      go_ret
      exact ⟨rfl, HB1.out⟩
  · rw [show chkS e h u m = 2 from if_neg hv] at C
    have R : hoS e h u m who now = false := decide_eq_false (fun ⟨a, b, c, d⟩ => by first | exact hv a | omega)
    rw [R]; clear R
    clear hv
    try clear hh
    try clear hs
    go_enter Try.func14, Try.ntmps14
    go_wp2_with fail
    with_reducible refine (C _).out.mono ?_
    rintro x w1 ⟨rfl, hb⟩
    have L1 := (Lies.made w 25 #[.int .u32 (e : Int), .int .i64 h, .int .u64 (u : Int), .int .i64 m]).below hb (by simp)
    obtain ⟨c0, c1, c2, c3⟩ := L1.cells4
    have HB1 := Lib.hid (HB.out.trans (hb.mono HB.out.size))
    clear hb L1
    go_wp2
    go_ret
    exact ⟨rfl, HB1.out⟩

set_option maxRecDepth 100000 in
theorem rholds_any (e : Nat) (h : Int) (u : Nat) (m : Int) (who : Int) (now : Nat) (w : World) : Calls Try.prog 15 #[.agg #[.int .u32 (e : Int), .int .i64 h, .int .u64 (u : Int), .int .i64 m], .int .i64 who, .int .u64 (now : Int)] w fun x w' => x = .returned (.bool (hoS e h u m who now)) ∧ Below w.heap.size w w' := by
  have HB := Lib.hid (below1 w (.cells #[.int .u32 (e : Int), .int .i64 h, .int .u64 (u : Int), .int .i64 m] 25))
  have C := fun W => Lib.hid (rcheck_any e h u m W)
  by_cases hv : vB e h u m
  · rw [show chkS e h u m = 0 from if_pos hv] at C
    by_cases hs : 1 ≤ who
    · have s1 : decide (1 ≤ who) = true := decide_eq_true (by omega)
      by_cases hh : h = who
      · have z1 : (h == who) = true := by simpa using hh
        have z2 : (h != who) = false := by simpa using hh
        by_cases hn : now ≤ u
        · have n1 : decide (now ≤ u) = true := decide_eq_true (by omega)
          have n2 : decide ((now : Int) ≤ (u : Int)) = true := decide_eq_true (by omega)
          have R : hoS e h u m who now = true := decide_eq_true ⟨hv, by (try unfold vB at hv); omega, by (try unfold vB at hv); omega, by (try unfold vB at hv); omega⟩
          rw [R]; clear R
          clear hv
          try clear hh
          try clear hs
          go_enter Try.func15, Try.ntmps15
          go_wp2_with fail
          with_reducible refine (C _).out.mono ?_
          rintro x w1 ⟨rfl, hb⟩
          have L1 := (Lies.made w 25 #[.int .u32 (e : Int), .int .i64 h, .int .u64 (u : Int), .int .i64 m]).below hb (by simp)
          obtain ⟨c0, c1, c2, c3⟩ := L1.cells4
          have HB1 := Lib.hid (HB.out.trans (hb.mono HB.out.size))
          clear hb L1
          go_wp2
          go_ret
          exact ⟨rfl, HB1.out⟩
        · have n1 : decide (now ≤ u) = false := decide_eq_false (by omega)
          have n2 : decide ((now : Int) ≤ (u : Int)) = false := decide_eq_false (by omega)
          have R : hoS e h u m who now = false := decide_eq_false (fun ⟨a, b, c, d⟩ => by first | exact hv a | omega)
          rw [R]; clear R
          clear hv
          try clear hh
          try clear hs
          go_enter Try.func15, Try.ntmps15
          go_wp2_with fail
          with_reducible refine (C _).out.mono ?_
          rintro x w1 ⟨rfl, hb⟩
          have L1 := (Lies.made w 25 #[.int .u32 (e : Int), .int .i64 h, .int .u64 (u : Int), .int .i64 m]).below hb (by simp)
          obtain ⟨c0, c1, c2, c3⟩ := L1.cells4
          have HB1 := Lib.hid (HB.out.trans (hb.mono HB.out.size))
          clear hb L1
          go_wp2
          go_ret
          exact ⟨rfl, HB1.out⟩
      · have z1 : (h == who) = false := by simpa using hh
        have z2 : (h != who) = true := by simpa using hh
        have R : hoS e h u m who now = false := decide_eq_false (fun ⟨a, b, c, d⟩ => by first | exact hv a | omega)
        rw [R]; clear R
        clear hv
        try clear hh
        try clear hs
        go_enter Try.func15, Try.ntmps15
        go_wp2_with fail
        with_reducible refine (C _).out.mono ?_
        rintro x w1 ⟨rfl, hb⟩
        have L1 := (Lies.made w 25 #[.int .u32 (e : Int), .int .i64 h, .int .u64 (u : Int), .int .i64 m]).below hb (by simp)
        obtain ⟨c0, c1, c2, c3⟩ := L1.cells4
        have HB1 := Lib.hid (HB.out.trans (hb.mono HB.out.size))
        clear hb L1
        go_wp2
        go_ret
        exact ⟨rfl, HB1.out⟩
    · have s1 : decide (1 ≤ who) = false := decide_eq_false (by omega)
      have R : hoS e h u m who now = false := decide_eq_false (fun ⟨a, b, c, d⟩ => by first | exact hv a | omega)
      rw [R]; clear R
      clear hv
      try clear hh
      try clear hs
      go_enter Try.func15, Try.ntmps15
      go_wp2_with fail
      with_reducible refine (C _).out.mono ?_
      rintro x w1 ⟨rfl, hb⟩
      have L1 := (Lies.made w 25 #[.int .u32 (e : Int), .int .i64 h, .int .u64 (u : Int), .int .i64 m]).below hb (by simp)
      obtain ⟨c0, c1, c2, c3⟩ := L1.cells4
      have HB1 := Lib.hid (HB.out.trans (hb.mono HB.out.size))
      clear hb L1
      go_wp2
      go_ret
      exact ⟨rfl, HB1.out⟩
  · rw [show chkS e h u m = 2 from if_neg hv] at C
    have R : hoS e h u m who now = false := decide_eq_false (fun ⟨a, b, c, d⟩ => by first | exact hv a | omega)
    rw [R]; clear R
    clear hv
    try clear hh
    try clear hs
    go_enter Try.func15, Try.ntmps15
    go_wp2_with fail
    with_reducible refine (C _).out.mono ?_
    rintro x w1 ⟨rfl, hb⟩
    have L1 := (Lies.made w 25 #[.int .u32 (e : Int), .int .i64 h, .int .u64 (u : Int), .int .i64 m]).below hb (by simp)
    obtain ⟨c0, c1, c2, c3⟩ := L1.cells4
    have HB1 := Lib.hid (HB.out.trans (hb.mono HB.out.size))
    clear hb L1
    go_wp2
    go_ret
    exact ⟨rfl, HB1.out⟩

set_option maxRecDepth 100000 in
theorem wrong_any (e : Nat) (h : Int) (u : Nat) (m : Int) (who : Int) (n : Nat) (w : World) : Calls Try.prog 28 #[.agg #[.int .u32 (e : Int), .int .i64 h, .int .u64 (u : Int), .int .i64 m], .int .i64 who, .int .u64 (n : Int)] w fun x w' => x = .returned (.bool (!decide (wrS e h u m who n))) ∧ Below w.heap.size w w' := by
  have HB := Lib.hid (below1 w (.cells #[.int .u32 (e : Int), .int .i64 h, .int .u64 (u : Int), .int .i64 m] 25))
  have C := fun W => Lib.hid (rcheck_any e h u m W)
  by_cases hv : vB e h u m
  · rw [show chkS e h u m = 0 from if_pos hv] at C
    by_cases h1 : who < 1
    · have f1 : decide (who < 1) = true := decide_eq_true (by omega)
      have R : decide (wrS e h u m who n) = false := decide_eq_false (fun ⟨a, b, c, d⟩ => by first | exact hv a | omega)
      rw [R]; clear R
      clear hv
      go_enter Try.func28, Try.ntmps28
      go_wp2_with fail
      with_reducible refine (C _).out.mono ?_
      rintro x w1 ⟨rfl, hb⟩
      have L1 := (Lies.made w 25 #[.int .u32 (e : Int), .int .i64 h, .int .u64 (u : Int), .int .i64 m]).below hb (by simp)
      obtain ⟨c0, c1, c2, c3⟩ := L1.cells4
      have HB1 := Lib.hid (HB.out.trans (hb.mono HB.out.size))
      clear hb L1
      go_wp2
      go_ret
      exact ⟨rfl, HB1.out⟩
    · have f1 : decide (who < 1) = false := decide_eq_false (by omega)
      by_cases h2 : 2 < who
      · have f2 : decide (2 < who) = true := decide_eq_true (by omega)
        have R : decide (wrS e h u m who n) = false := decide_eq_false (fun ⟨a, b, c, d⟩ => by first | exact hv a | omega)
        rw [R]; clear R
        clear hv
        go_enter Try.func28, Try.ntmps28
        go_wp2_with fail
        with_reducible refine (C _).out.mono ?_
        rintro x w1 ⟨rfl, hb⟩
        have L1 := (Lies.made w 25 #[.int .u32 (e : Int), .int .i64 h, .int .u64 (u : Int), .int .i64 m]).below hb (by simp)
        obtain ⟨c0, c1, c2, c3⟩ := L1.cells4
        have HB1 := Lib.hid (HB.out.trans (hb.mono HB.out.size))
        clear hb L1
        go_wp2
        go_ret
        exact ⟨rfl, HB1.out⟩
      · have f2 : decide (2 < who) = false := decide_eq_false (by omega)
        by_cases h3 : n < 1
        · have f3 : decide (n < 1) = true := decide_eq_true (by omega)
          have g3 : decide ((n : Int) < 1) = true := decide_eq_true (by omega)
          have R : decide (wrS e h u m who n) = false := decide_eq_false (fun ⟨a, b, c, d⟩ => by first | exact hv a | omega)
          rw [R]; clear R
          clear hv
          go_enter Try.func28, Try.ntmps28
          go_wp2_with fail
          with_reducible refine (C _).out.mono ?_
          rintro x w1 ⟨rfl, hb⟩
          have L1 := (Lies.made w 25 #[.int .u32 (e : Int), .int .i64 h, .int .u64 (u : Int), .int .i64 m]).below hb (by simp)
          obtain ⟨c0, c1, c2, c3⟩ := L1.cells4
          have HB1 := Lib.hid (HB.out.trans (hb.mono HB.out.size))
          clear hb L1
          go_wp2
          go_ret
          exact ⟨rfl, HB1.out⟩
        · have f3 : decide (n < 1) = false := decide_eq_false (by omega)
          have g3 : decide ((n : Int) < 1) = false := decide_eq_false (by omega)
          by_cases h4 : 10000 < n
          · have f4 : decide (10000 < n) = true := decide_eq_true (by omega)
            have g4 : decide ((10000 : Int) < (n : Int)) = true := decide_eq_true (by omega)
            have R : decide (wrS e h u m who n) = false := decide_eq_false (fun ⟨a, b, c, d⟩ => by first | exact hv a | omega)
            rw [R]; clear R
            clear hv
            go_enter Try.func28, Try.ntmps28
            go_wp2_with fail
            with_reducible refine (C _).out.mono ?_
            rintro x w1 ⟨rfl, hb⟩
            have L1 := (Lies.made w 25 #[.int .u32 (e : Int), .int .i64 h, .int .u64 (u : Int), .int .i64 m]).below hb (by simp)
            obtain ⟨c0, c1, c2, c3⟩ := L1.cells4
            have HB1 := Lib.hid (HB.out.trans (hb.mono HB.out.size))
            clear hb L1
            go_wp2
            go_ret
            exact ⟨rfl, HB1.out⟩
          · have f4 : decide (10000 < n) = false := decide_eq_false (by omega)
            have g4 : decide ((10000 : Int) < (n : Int)) = false := decide_eq_false (by omega)
            have R : decide (wrS e h u m who n) = true := decide_eq_true ⟨hv, by omega, by omega, by omega⟩
            rw [R]; clear R
            clear hv
            go_enter Try.func28, Try.ntmps28
            go_wp2_with fail
            with_reducible refine (C _).out.mono ?_
            rintro x w1 ⟨rfl, hb⟩
            have L1 := (Lies.made w 25 #[.int .u32 (e : Int), .int .i64 h, .int .u64 (u : Int), .int .i64 m]).below hb (by simp)
            obtain ⟨c0, c1, c2, c3⟩ := L1.cells4
            have HB1 := Lib.hid (HB.out.trans (hb.mono HB.out.size))
            clear hb L1
            go_wp2
            go_ret
            exact ⟨rfl, HB1.out⟩
  · rw [show chkS e h u m = 2 from if_neg hv] at C
    have R : decide (wrS e h u m who n) = false := decide_eq_false (fun ⟨a, b, c, d⟩ => by first | exact hv a | omega)
    rw [R]; clear R
    clear hv
    go_enter Try.func28, Try.ntmps28
    go_wp2_with fail
    with_reducible refine (C _).out.mono ?_
    rintro x w1 ⟨rfl, hb⟩
    have L1 := (Lies.made w 25 #[.int .u32 (e : Int), .int .i64 h, .int .u64 (u : Int), .int .i64 m]).below hb (by simp)
    obtain ⟨c0, c1, c2, c3⟩ := L1.cells4
    have HB1 := Lib.hid (HB.out.trans (hb.mono HB.out.size))
    clear hb L1
    go_wp2
    go_ret
    exact ⟨rfl, HB1.out⟩

set_option maxRecDepth 100000 in
theorem holder_any (e : Nat) (h : Int) (u : Nat) (m : Int) (now : Nat) (who : Int) (ep : Nat) (w : World) : Calls Try.prog 29 #[.agg #[.int .u32 (e : Int), .int .i64 h, .int .u64 (u : Int), .int .i64 m], .int .u64 (now : Int), .int .i64 who, .int .u32 (ep : Int)] w fun x w' => x = .returned (.int .i64 (hdS e h u now who ep)) ∧ Below w.heap.size w w' := by
  have HB := Lib.hid (below1 w (.cells #[.int .u32 (e : Int), .int .i64 h, .int .u64 (u : Int), .int .i64 m] 25))
  by_cases hh : h = who
  · have z1 : (h == who) = true := by simpa using hh
    have z2 : (h != who) = false := by simpa using hh
    by_cases he : e = ep
    · have y1 : ((e : Int) == (ep : Int)) = true := by simp; omega
      have y2 : ((e : Int) != (ep : Int)) = false := by simp; omega
      by_cases hn : u < now
      · have n1 : decide (u < now) = true := decide_eq_true (by omega)
        have n2 : decide ((u : Int) < (now : Int)) = true := decide_eq_true (by omega)
        have R : hdS e h u now who ep = 73 := (if_neg (by omega)).trans (if_pos (by omega))
        rw [R]; clear R
        try clear hh
        try clear he
        go_enter Try.func29, Try.ntmps29
        go_wp2
        go_ret
        exact ⟨rfl, HB.out⟩
      · have n1 : decide (u < now) = false := decide_eq_false (by omega)
        have n2 : decide ((u : Int) < (now : Int)) = false := decide_eq_false (by omega)
        have R : hdS e h u now who ep = 0 := (if_neg (by omega)).trans (if_neg (by omega))
        rw [R]; clear R
        try clear hh
        try clear he
        go_enter Try.func29, Try.ntmps29
        go_wp2
        go_ret
        exact ⟨rfl, HB.out⟩
    · have y1 : ((e : Int) == (ep : Int)) = false := by simp; omega
      have y2 : ((e : Int) != (ep : Int)) = true := by simp; omega
      have R : hdS e h u now who ep = 72 := if_pos (by omega)
      rw [R]; clear R
      try clear hh
      try clear he
      go_enter Try.func29, Try.ntmps29
      go_wp2
      go_ret
      exact ⟨rfl, HB.out⟩
  · have z1 : (h == who) = false := by simpa using hh
    have z2 : (h != who) = true := by simpa using hh
    have R : hdS e h u now who ep = 72 := if_pos (by omega)
    rw [R]; clear R
    try clear hh
    try clear he
    go_enter Try.func29, Try.ntmps29
    go_wp2
    go_ret
    exact ⟨rfl, HB.out⟩

end Go.Proofs.Ytbcelelmckkaoaa
