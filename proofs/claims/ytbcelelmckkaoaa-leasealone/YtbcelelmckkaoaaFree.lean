/-
  The contracts of the document's Check and of Free.
-/
import Derived.Test.YtbcelelmckkaoaaChk
namespace Go.Proofs.Ytbcelelmckkaoaa
open Go.RowKit
set_option linter.unusedVariables false

set_option maxRecDepth 100000 in
theorem rcheck_any (e : Nat) (h : Int) (u : Nat) (m : Int) (w : World) : Calls Try.prog 11 #[.agg #[.int .u32 (e : Int), .int .i64 h, .int .u64 (u : Int), .int .i64 m]] w fun x w' => x = .returned (.int .i64 (chkS e h u m)) ∧ Below w.heap.size w w' := by
  have HB := Lib.hid (below1 w (.cells #[.int .u32 (e : Int), .int .i64 h, .int .u64 (u : Int), .int .i64 m] 25))
  by_cases h1 : m < 1
  · have R : chkS e h u m = 2 := if_neg (by unfold vB; omega)
    have f1 : decide (m < 1) = true := decide_eq_true (by omega)
    rw [R]; clear R
    try clear hh
    try clear he
    try clear hz
    go_enter Try.func11, Try.ntmps11
    go_wp2
    go_ret
    exact ⟨rfl, HB.out⟩
  · by_cases h2 : 2 < m
    · have R : chkS e h u m = 2 := if_neg (by unfold vB; omega)
      have f1 : decide (m < 1) = false := decide_eq_false (by omega)
      have f2 : decide (2 < m) = true := decide_eq_true (by omega)
      rw [R]; clear R
      try clear hh
      try clear he
      try clear hz
      go_enter Try.func11, Try.ntmps11
      go_wp2
      go_ret
      exact ⟨rfl, HB.out⟩
    · by_cases h3 : h < 0
      · have R : chkS e h u m = 2 := if_neg (by unfold vB; omega)
        have f1 : decide (m < 1) = false := decide_eq_false (by omega)
        have f2 : decide (2 < m) = false := decide_eq_false (by omega)
        have f3 : decide (h < 0) = true := decide_eq_true (by omega)
        rw [R]; clear R
        try clear hh
        try clear he
        try clear hz
        go_enter Try.func11, Try.ntmps11
        go_wp2
        go_ret
        exact ⟨rfl, HB.out⟩
      · by_cases h4 : 2 < h
        · have R : chkS e h u m = 2 := if_neg (by unfold vB; omega)
          have f1 : decide (m < 1) = false := decide_eq_false (by omega)
          have f2 : decide (2 < m) = false := decide_eq_false (by omega)
          have f3 : decide (h < 0) = false := decide_eq_false (by omega)
          have f4 : decide (2 < h) = true := decide_eq_true (by omega)
          rw [R]; clear R
          try clear hh
          try clear he
          try clear hz
          go_enter Try.func11, Try.ntmps11
          go_wp2
          go_ret
          exact ⟨rfl, HB.out⟩
        · by_cases h5 : 4611686018427397904 < u
          · have R : chkS e h u m = 2 := if_neg (by unfold vB; omega)
            have f1 : decide (m < 1) = false := decide_eq_false (by omega)
            have f2 : decide (2 < m) = false := decide_eq_false (by omega)
            have f3 : decide (h < 0) = false := decide_eq_false (by omega)
            have f4 : decide (2 < h) = false := decide_eq_false (by omega)
            have f5 : decide (4611686018427397904 < u) = true := decide_eq_true (by omega)
            have g5 : decide ((4611686018427397904 : Int) < (u : Int)) = true := decide_eq_true (by omega)
            rw [R]; clear R
            try clear hh
            try clear he
            try clear hz
            go_enter Try.func11, Try.ntmps11
            go_wp2
            go_ret
            exact ⟨rfl, HB.out⟩
          · have f1 : decide (m < 1) = false := decide_eq_false (by omega)
            have f2 : decide (2 < m) = false := decide_eq_false (by omega)
            have f3 : decide (h < 0) = false := decide_eq_false (by omega)
            have f4 : decide (2 < h) = false := decide_eq_false (by omega)
            have f5 : decide (4611686018427397904 < u) = false := decide_eq_false (by omega)
            have g5 : decide ((4611686018427397904 : Int) < (u : Int)) = false := decide_eq_false (by omega)
            by_cases hh : h = 0
            · have z1 : (h == 0) = true := by simpa using hh
              have z2 : (h != 0) = false := by simpa using hh
              by_cases he : e = 0
              · have y1 : ((e : Int) == 0) = true := by simpa using he
                have y2 : ((e : Int) != 0) = false := by simpa using he
                by_cases hz : u = 0
                · have x1 : ((u : Int) == 0) = true := by simpa using hz
                  have x2 : ((u : Int) != 0) = false := by simpa using hz
                  have R : chkS e h u m = 0 := if_pos (by unfold vB; omega)
                  rw [R]; clear R
                  try clear hh
                  try clear he
                  try clear hz
                  go_enter Try.func11, Try.ntmps11
                  go_wp2
                  go_ret
                  exact ⟨rfl, HB.out⟩
                · have x1 : ((u : Int) == 0) = false := by simpa using hz
                  have x2 : ((u : Int) != 0) = true := by simpa using hz
                  have R : chkS e h u m = 2 := if_neg (by unfold vB; omega)
                  rw [R]; clear R
                  try clear hh
                  try clear he
                  try clear hz
                  go_enter Try.func11, Try.ntmps11
                  go_wp2
                  go_ret
                  exact ⟨rfl, HB.out⟩
              · have y1 : ((e : Int) == 0) = false := by simpa using he
                have y2 : ((e : Int) != 0) = true := by simpa using he
                have R : chkS e h u m = 2 := if_neg (by unfold vB; omega)
                rw [R]; clear R
                try clear hh
                try clear he
                try clear hz
                go_enter Try.func11, Try.ntmps11
                go_wp2
                go_ret
                exact ⟨rfl, HB.out⟩
            · have z1 : (h == 0) = false := by simpa using hh
              have z2 : (h != 0) = true := by simpa using hh
              by_cases he : e = 0
              · have y1 : ((e : Int) == 0) = true := by simpa using he
                have y2 : ((e : Int) != 0) = false := by simpa using he
                have R : chkS e h u m = 2 := if_neg (by unfold vB; omega)
                rw [R]; clear R
                try clear hh
                try clear he
                try clear hz
                go_enter Try.func11, Try.ntmps11
                go_wp2
                go_ret
                exact ⟨rfl, HB.out⟩
              · have y1 : ((e : Int) == 0) = false := by simpa using he
                have y2 : ((e : Int) != 0) = true := by simpa using he
                have R : chkS e h u m = 0 := if_pos (by unfold vB; omega)
                rw [R]; clear R
                try clear hh
                try clear he
                try clear hz
                go_enter Try.func11, Try.ntmps11
                go_wp2
                go_ret
                exact ⟨rfl, HB.out⟩

set_option maxRecDepth 100000 in
theorem free_any (e : Nat) (h : Int) (u : Nat) (m : Int) (now g : Nat) (w : World) (hnow : now < 18446744073709551616) (hg0 : g < 18446744073709551616) : Calls Try.prog 12 #[.agg #[.int .u32 (e : Int), .int .i64 h, .int .u64 (u : Int), .int .i64 m], .int .u64 (now : Int), .int .u64 (g : Int)] w fun x w' => x = .returned (.bool (frS e h u m now g)) ∧ Below w.heap.size w w' := by
  have HB := Lib.hid (below1 w (.cells #[.int .u32 (e : Int), .int .i64 h, .int .u64 (u : Int), .int .i64 m] 25))
  have C := fun W => Lib.hid (check_any e h u m W)
  by_cases hv : vB e h u m
  · rw [show chkS e h u m = 0 from if_pos hv] at C
    have hu : u ≤ 4611686018427397904 := hv.2.1
    by_cases hg : 10000 < g
    · have R : frS e h u m now g = false := decide_eq_false (fun ⟨a, b, c⟩ => by first | exact hv a | omega)
      have g1 : decide (10000 < g) = true := decide_eq_true (by omega)
      have g2 : decide ((10000 : Int) < (g : Int)) = true := decide_eq_true (by omega)
      rw [R]; clear R hv
      try clear hh
      go_enter Try.func12, Try.ntmps12
      go_wp2_with fail
      with_reducible refine (C _).out.mono ?_
      rintro x w1 ⟨rfl, hb⟩
      have L1 := (Lies.made w 25 #[.int .u32 (e : Int), .int .i64 h, .int .u64 (u : Int), .int .i64 m]).below hb (by simp)
      obtain ⟨c0, c1, c2, c3⟩ := L1.cells4
      have HB1 := Lib.hid (HB.out.trans (hb.mono HB.out.size))
      clear hb L1
      go_wp2
      go_ret
      exact ⟨rfl, HB1.out⟩
    · have g1 : decide (10000 < g) = false := decide_eq_false (by omega)
      have g2 : decide ((10000 : Int) < (g : Int)) = false := decide_eq_false (by omega)
      by_cases hh : h = 0
      · have R : frS e h u m now g = true := decide_eq_true ⟨hv, by omega, by omega⟩
        have z1 : (h == 0) = true := by simpa using hh
        have z2 : (h != 0) = false := by simpa using hh
        rw [R]; clear R hv
        try clear hh
        go_enter Try.func12, Try.ntmps12
        go_wp2_with fail
        with_reducible refine (C _).out.mono ?_
        rintro x w1 ⟨rfl, hb⟩
        have L1 := (Lies.made w 25 #[.int .u32 (e : Int), .int .i64 h, .int .u64 (u : Int), .int .i64 m]).below hb (by simp)
        obtain ⟨c0, c1, c2, c3⟩ := L1.cells4
        have HB1 := Lib.hid (HB.out.trans (hb.mono HB.out.size))
        clear hb L1
        go_wp2
        go_ret
        exact ⟨rfl, HB1.out⟩
      · have z1 : (h == 0) = false := by simpa using hh
        have z2 : (h != 0) = true := by simpa using hh
        by_cases hn : u + g < now
        · have R : frS e h u m now g = true := decide_eq_true ⟨hv, by omega, by omega⟩
          have n1 : decide (u + g < now) = true := decide_eq_true (by omega)
          have n2 : decide ((u : Int) + (g : Int) < (now : Int)) = true := decide_eq_true (by omega)
          rw [R]; clear R hv
          try clear hh
          go_enter Try.func12, Try.ntmps12
          go_wp2_with fail
          with_reducible refine (C _).out.mono ?_
          rintro x w1 ⟨rfl, hb⟩
          have L1 := (Lies.made w 25 #[.int .u32 (e : Int), .int .i64 h, .int .u64 (u : Int), .int .i64 m]).below hb (by simp)
          obtain ⟨c0, c1, c2, c3⟩ := L1.cells4
          have HB1 := Lib.hid (HB.out.trans (hb.mono HB.out.size))
          clear hb L1
          go_wp2
          go_ret
          exact ⟨rfl, HB1.out⟩
        · have R : frS e h u m now g = false := decide_eq_false (fun ⟨a, b, c⟩ => by first | exact hv a | omega)
          have n1 : decide (u + g < now) = false := decide_eq_false (by omega)
          have n2 : decide ((u : Int) + (g : Int) < (now : Int)) = false := decide_eq_false (by omega)
          rw [R]; clear R hv
          try clear hh
          go_enter Try.func12, Try.ntmps12
          go_wp2_with fail
          with_reducible refine (C _).out.mono ?_
          rintro x w1 ⟨rfl, hb⟩
          have L1 := (Lies.made w 25 #[.int .u32 (e : Int), .int .i64 h, .int .u64 (u : Int), .int .i64 m]).below hb (by simp)
          obtain ⟨c0, c1, c2, c3⟩ := L1.cells4
          have HB1 := Lib.hid (HB.out.trans (hb.mono HB.out.size))
          clear hb L1
          go_wp2
          go_ret
          exact ⟨rfl, HB1.out⟩
  · rw [show chkS e h u m = 2 from if_neg hv] at C
    have R : frS e h u m now g = false := decide_eq_false (fun ⟨a, b, c⟩ => by first | exact hv a | omega)
    rw [R]; clear R hv
    try clear hh
    go_enter Try.func12, Try.ntmps12
    go_wp2_with fail
    with_reducible refine (C _).out.mono ?_
    rintro x w1 ⟨rfl, hb⟩
    have L1 := (Lies.made w 25 #[.int .u32 (e : Int), .int .i64 h, .int .u64 (u : Int), .int .i64 m]).below hb (by simp)
    obtain ⟨c0, c1, c2, c3⟩ := L1.cells4
    have HB1 := Lib.hid (HB.out.trans (hb.mono HB.out.size))
    clear hb L1
    go_wp2
    go_ret
    exact ⟨rfl, HB1.out⟩

set_option maxRecDepth 100000 in
theorem rfree_any (e : Nat) (h : Int) (u : Nat) (m : Int) (now g : Nat) (w : World) (hnow : now < 18446744073709551616) (hg0 : g < 18446744073709551616) : Calls Try.prog 13 #[.agg #[.int .u32 (e : Int), .int .i64 h, .int .u64 (u : Int), .int .i64 m], .int .u64 (now : Int), .int .u64 (g : Int)] w fun x w' => x = .returned (.bool (frS e h u m now g)) ∧ Below w.heap.size w w' := by
  have HB := Lib.hid (below1 w (.cells #[.int .u32 (e : Int), .int .i64 h, .int .u64 (u : Int), .int .i64 m] 25))
  have C := fun W => Lib.hid (rcheck_any e h u m W)
  by_cases hv : vB e h u m
  · rw [show chkS e h u m = 0 from if_pos hv] at C
    have hu : u ≤ 4611686018427397904 := hv.2.1
    by_cases hg : 10000 < g
    · have R : frS e h u m now g = false := decide_eq_false (fun ⟨a, b, c⟩ => by first | exact hv a | omega)
      have g1 : decide (10000 < g) = true := decide_eq_true (by omega)
      have g2 : decide ((10000 : Int) < (g : Int)) = true := decide_eq_true (by omega)
      rw [R]; clear R hv
      try clear hh
      go_enter Try.func13, Try.ntmps13
      go_wp2_with fail
      with_reducible refine (C _).out.mono ?_
      rintro x w1 ⟨rfl, hb⟩
      have L1 := (Lies.made w 25 #[.int .u32 (e : Int), .int .i64 h, .int .u64 (u : Int), .int .i64 m]).below hb (by simp)
      obtain ⟨c0, c1, c2, c3⟩ := L1.cells4
      have HB1 := Lib.hid (HB.out.trans (hb.mono HB.out.size))
      clear hb L1
      go_wp2
      go_ret
      exact ⟨rfl, HB1.out⟩
    · have g1 : decide (10000 < g) = false := decide_eq_false (by omega)
      have g2 : decide ((10000 : Int) < (g : Int)) = false := decide_eq_false (by omega)
      by_cases hh : h = 0
      · have R : frS e h u m now g = true := decide_eq_true ⟨hv, by omega, by omega⟩
        have z1 : (h == 0) = true := by simpa using hh
        have z2 : (h != 0) = false := by simpa using hh
        rw [R]; clear R hv
        try clear hh
        go_enter Try.func13, Try.ntmps13
        go_wp2_with fail
        with_reducible refine (C _).out.mono ?_
        rintro x w1 ⟨rfl, hb⟩
        have L1 := (Lies.made w 25 #[.int .u32 (e : Int), .int .i64 h, .int .u64 (u : Int), .int .i64 m]).below hb (by simp)
        obtain ⟨c0, c1, c2, c3⟩ := L1.cells4
        have HB1 := Lib.hid (HB.out.trans (hb.mono HB.out.size))
        clear hb L1
        go_wp2
        go_ret
        exact ⟨rfl, HB1.out⟩
      · have z1 : (h == 0) = false := by simpa using hh
        have z2 : (h != 0) = true := by simpa using hh
        by_cases hn : u + g < now
        · have R : frS e h u m now g = true := decide_eq_true ⟨hv, by omega, by omega⟩
          have n1 : decide (u + g < now) = true := decide_eq_true (by omega)
          have n2 : decide ((u : Int) + (g : Int) < (now : Int)) = true := decide_eq_true (by omega)
          rw [R]; clear R hv
          try clear hh
          go_enter Try.func13, Try.ntmps13
          go_wp2_with fail
          with_reducible refine (C _).out.mono ?_
          rintro x w1 ⟨rfl, hb⟩
          have L1 := (Lies.made w 25 #[.int .u32 (e : Int), .int .i64 h, .int .u64 (u : Int), .int .i64 m]).below hb (by simp)
          obtain ⟨c0, c1, c2, c3⟩ := L1.cells4
          have HB1 := Lib.hid (HB.out.trans (hb.mono HB.out.size))
          clear hb L1
          go_wp2
          go_ret
          exact ⟨rfl, HB1.out⟩
        · have R : frS e h u m now g = false := decide_eq_false (fun ⟨a, b, c⟩ => by first | exact hv a | omega)
          have n1 : decide (u + g < now) = false := decide_eq_false (by omega)
          have n2 : decide ((u : Int) + (g : Int) < (now : Int)) = false := decide_eq_false (by omega)
          rw [R]; clear R hv
          try clear hh
          go_enter Try.func13, Try.ntmps13
          go_wp2_with fail
          with_reducible refine (C _).out.mono ?_
          rintro x w1 ⟨rfl, hb⟩
          have L1 := (Lies.made w 25 #[.int .u32 (e : Int), .int .i64 h, .int .u64 (u : Int), .int .i64 m]).below hb (by simp)
          obtain ⟨c0, c1, c2, c3⟩ := L1.cells4
          have HB1 := Lib.hid (HB.out.trans (hb.mono HB.out.size))
          clear hb L1
          go_wp2
          go_ret
          exact ⟨rfl, HB1.out⟩
  · rw [show chkS e h u m = 2 from if_neg hv] at C
    have R : frS e h u m now g = false := decide_eq_false (fun ⟨a, b, c⟩ => by first | exact hv a | omega)
    rw [R]; clear R hv
    try clear hh
    go_enter Try.func13, Try.ntmps13
    go_wp2_with fail
    with_reducible refine (C _).out.mono ?_
    rintro x w1 ⟨rfl, hb⟩
    have L1 := (Lies.made w 25 #[.int .u32 (e : Int), .int .i64 h, .int .u64 (u : Int), .int .i64 m]).below hb (by simp)
    obtain ⟨c0, c1, c2, c3⟩ := L1.cells4
    have HB1 := Lib.hid (HB.out.trans (hb.mono HB.out.size))
    clear hb L1
    go_wp2
    go_ret
    exact ⟨rfl, HB1.out⟩

end Go.Proofs.Ytbcelelmckkaoaa
