/-
  The contracts of Grant.
-/
import Derived.Test.YtbcelelmckkaoaaRet
namespace Go.Proofs.Ytbcelelmckkaoaa
open Go.RowKit
set_option linter.unusedVariables false

set_option maxRecDepth 100000 in
set_option maxHeartbeats 1000000 in
theorem grant_any (e : Nat) (h : Int) (u : Nat) (m : Int) (now : Nat) (who : Int) (n g : Nat) (w : World) (E : Nat) (H : Int) (U : Nat) (M c : Int) (hS : grS e h u m now who n g = (E, H, U, M, c)) (he0 : e < 4294967296) (hnow : now < 18446744073709551616) (hn0 : n < 18446744073709551616) (hg0 : g < 18446744073709551616) : Calls Try.prog 17 #[.agg #[.int .u32 (e : Int), .int .i64 h, .int .u64 (u : Int), .int .i64 m], .int .u64 (now : Int), .int .i64 who, .int .u64 (n : Int), .int .u64 (g : Int)] w fun x w' => x = .returned (.tuple #[.agg #[.int .u32 (E : Int), .int .i64 H, .int .u64 (U : Int), .int .i64 M], .int .i64 c]) ∧ Below w.heap.size w w' := by
  have HB := Lib.hid (below2 w (.cells #[.int .u32 (e : Int), .int .i64 h, .int .u64 (u : Int), .int .i64 m] 25) (.cells #[.int .u32 0, .int .i64 0, .int .u64 0, .int .i64 0] 25))
  have HL1 := Lib.hid ((Lies.made w 25 #[.int .u32 (e : Int), .int .i64 h, .int .u64 (u : Int), .int .i64 m]).alloc (.cells #[.int .u32 0, .int .i64 0, .int .u64 0, .int .i64 0] 25))
  have HL2 := Lib.hid (Lies.made2 w (.cells #[.int .u32 (e : Int), .int .i64 h, .int .u64 (u : Int), .int .i64 m] 25) 25 #[.int .u32 0, .int .i64 0, .int .u64 0, .int .i64 0])
  have C := fun W => Lib.hid (check_any e h u m W)
  have S := fun W => Lib.hid (isSite_any who W)
  have Q := fun W => Lib.hid (isLength_any n W)
  have F := fun W => Lib.hid (free_any e h u m now g W hnow hg0)
  by_cases hv : vB e h u m
  · rw [show chkS e h u m = 0 from if_pos hv] at C
    by_cases hs : who = 1 ∨ who = 2
    · rw [show decide (who = 1 ∨ who = 2) = true from decide_eq_true hs] at S
      by_cases hl : 1 ≤ n ∧ n ≤ 10000
      · rw [show decide (1 ≤ n ∧ n ≤ 10000) = true from decide_eq_true hl] at Q
        by_cases hg : 10000 < g
        · have k1 : decide (10000 < g) = true := decide_eq_true (by omega)
          have k1' : decide ((10000 : Int) < (g : Int)) = true := decide_eq_true (by omega)
          have R : grS e h u m now who n g = badS 2 := if_pos (fun a => by first | exact hv a.1.1 | exact hs a.1.2.1 | exact hl a.1.2.2 | omega)
          obtain ⟨rfl, rfl, rfl, rfl, rfl⟩ := ans_eq (R.symm.trans hS)
          clear R hS
          try clear hv
          try clear hh
          try clear he
          try clear hs
          try clear hl
          go_enter Try.func17, Try.ntmps17
          go_wp2_with fail
          with_reducible refine (C _).out.mono ?_
          rintro x w1 ⟨rfl, hb⟩
          have L1 := HL1.out.below hb (by have := HL1.out.lt; exact this)
          have L2 := HL2.out.below hb (by have := HL2.out.lt; exact this)
          obtain ⟨c10, c11, c12, c13⟩ := L1.cells4
          obtain ⟨d10, d11, d12, d13⟩ := L2.cells4
          obtain ⟨f10, f11, f12, f13⟩ := L2.free4
          obtain ⟨g10, g11, g12, g13⟩ := L1.free4
          have N1 := Lib.hid L1
          have M1 := Lib.hid L2
          have B1 := Lib.hid (HB.out.trans (hb.mono HB.out.size))
          clear hb L1 L2
          go_wp2_with fail
          with_reducible refine (S _).out.mono ?_
          rintro x w' ⟨rfl, rfl⟩
          go_wp2_with fail
          with_reducible refine (Q _).out.mono ?_
          rintro x w' ⟨rfl, rfl⟩
          go_wp2
          exact ret_put4 rfl rfl M1.out rfl B1.out (by omega) rfl
        · have k1 : decide (10000 < g) = false := decide_eq_false (by omega)
          have k1' : decide ((10000 : Int) < (g : Int)) = false := decide_eq_false (by omega)
          by_cases hn : 4611686018427387904 < now
          · have n1 : decide (4611686018427387904 < now) = true := decide_eq_true (by omega)
            have n1' : decide ((4611686018427387904 : Int) < (now : Int)) = true := decide_eq_true (by omega)
            have R : grS e h u m now who n g = badS 71 := (if_neg (not_not_intro ⟨⟨hv, hs, hl⟩, by omega⟩)).trans (if_pos (by omega))
            obtain ⟨rfl, rfl, rfl, rfl, rfl⟩ := ans_eq (R.symm.trans hS)
            clear R hS
            try clear hv
            try clear hh
            try clear he
            try clear hs
            try clear hl
            go_enter Try.func17, Try.ntmps17
            go_wp2_with fail
            with_reducible refine (C _).out.mono ?_
            rintro x w1 ⟨rfl, hb⟩
            have L1 := HL1.out.below hb (by have := HL1.out.lt; exact this)
            have L2 := HL2.out.below hb (by have := HL2.out.lt; exact this)
            obtain ⟨c10, c11, c12, c13⟩ := L1.cells4
            obtain ⟨d10, d11, d12, d13⟩ := L2.cells4
            obtain ⟨f10, f11, f12, f13⟩ := L2.free4
            obtain ⟨g10, g11, g12, g13⟩ := L1.free4
            have N1 := Lib.hid L1
            have M1 := Lib.hid L2
            have B1 := Lib.hid (HB.out.trans (hb.mono HB.out.size))
            clear hb L1 L2
            go_wp2_with fail
            with_reducible refine (S _).out.mono ?_
            rintro x w' ⟨rfl, rfl⟩
            go_wp2_with fail
            with_reducible refine (Q _).out.mono ?_
            rintro x w' ⟨rfl, rfl⟩
            go_wp2
            exact ret_put4 rfl rfl M1.out rfl B1.out (by omega) rfl
          · have n1 : decide (4611686018427387904 < now) = false := decide_eq_false (by omega)
            have n1' : decide ((4611686018427387904 : Int) < (now : Int)) = false := decide_eq_false (by omega)
            by_cases he : e = 4294967295
            · have y1 : ((e : Int) == 4294967295) = true := by simp; omega
              have R : grS e h u m now who n g = badS 71 := (if_neg (not_not_intro ⟨⟨hv, hs, hl⟩, by omega⟩)).trans (if_pos (by omega))
              obtain ⟨rfl, rfl, rfl, rfl, rfl⟩ := ans_eq (R.symm.trans hS)
              clear R hS
              try clear hv
              try clear hh
              try clear he
              try clear hs
              try clear hl
              go_enter Try.func17, Try.ntmps17
              go_wp2_with fail
              with_reducible refine (C _).out.mono ?_
              rintro x w1 ⟨rfl, hb⟩
              have L1 := HL1.out.below hb (by have := HL1.out.lt; exact this)
              have L2 := HL2.out.below hb (by have := HL2.out.lt; exact this)
              obtain ⟨c10, c11, c12, c13⟩ := L1.cells4
              obtain ⟨d10, d11, d12, d13⟩ := L2.cells4
              obtain ⟨f10, f11, f12, f13⟩ := L2.free4
              obtain ⟨g10, g11, g12, g13⟩ := L1.free4
              have N1 := Lib.hid L1
              have M1 := Lib.hid L2
              have B1 := Lib.hid (HB.out.trans (hb.mono HB.out.size))
              clear hb L1 L2
              go_wp2_with fail
              with_reducible refine (S _).out.mono ?_
              rintro x w' ⟨rfl, rfl⟩
              go_wp2_with fail
              with_reducible refine (Q _).out.mono ?_
              rintro x w' ⟨rfl, rfl⟩
              go_wp2
              exact ret_put4 rfl rfl M1.out rfl B1.out (by omega) rfl
            · have y1 : ((e : Int) == 4294967295) = false := by simp; omega
              by_cases hf : frS e h u m now g
              · rw [show frS e h u m now g = true from by simpa using hf] at F
                have R : grS e h u m now who n g = (e + 1, who, now + n, m, 0) := (if_neg (not_not_intro ⟨⟨hv, hs, hl⟩, by omega⟩)).trans ((if_neg (by omega)).trans (if_neg (by simpa using hf)))
                obtain ⟨rfl, rfl, rfl, rfl, rfl⟩ := ans_eq (R.symm.trans hS)
                clear R hS
                have o1 : e + 1 < 4294967296 := by omega
                have o2 : now + n < 18446744073709551616 := by omega
                rw [show ((e + 1 : Nat) : Int) = (e : Int) + 1 from rfl, show ((now + n : Nat) : Int) = (now : Int) + (n : Int) from rfl]
                try clear hv
                try clear hh
                try clear he
                try clear hs
                try clear hl
                go_enter Try.func17, Try.ntmps17
                go_wp2_with fail
                with_reducible refine (C _).out.mono ?_
                rintro x w1 ⟨rfl, hb⟩
                have L1 := HL1.out.below hb (by have := HL1.out.lt; exact this)
                have L2 := HL2.out.below hb (by have := HL2.out.lt; exact this)
                obtain ⟨c10, c11, c12, c13⟩ := L1.cells4
                obtain ⟨d10, d11, d12, d13⟩ := L2.cells4
                obtain ⟨f10, f11, f12, f13⟩ := L2.free4
                obtain ⟨g10, g11, g12, g13⟩ := L1.free4
                have N1 := Lib.hid L1
                have M1 := Lib.hid L2
                have B1 := Lib.hid (HB.out.trans (hb.mono HB.out.size))
                clear hb L1 L2
                go_wp2_with fail
                with_reducible refine (S _).out.mono ?_
                rintro x w' ⟨rfl, rfl⟩
                go_wp2_with fail
                with_reducible refine (Q _).out.mono ?_
                rintro x w' ⟨rfl, rfl⟩
                go_wp2_with fail
                with_reducible refine (F _).out.mono ?_
                rintro x w2 ⟨rfl, hb⟩
                have L1 := N1.out.below hb (by have := N1.out.lt; exact this)
                have L2 := M1.out.below hb (by have := M1.out.lt; exact this)
                obtain ⟨c20, c21, c22, c23⟩ := L1.cells4
                obtain ⟨d20, d21, d22, d23⟩ := L2.cells4
                obtain ⟨f20, f21, f22, f23⟩ := L2.free4
                obtain ⟨g20, g21, g22, g23⟩ := L1.free4
                have N2 := Lib.hid L1
                have M2 := Lib.hid L2
                have B2 := Lib.hid (B1.out.trans (hb.mono B1.out.size))
                clear hb L1 L2
                go_wp2
                exact ret_put4 rfl rfl M2.out rfl B2.out (by omega) rfl
              · rw [show frS e h u m now g = false from by simpa using hf] at F
                have R : grS e h u m now who n g = badS 70 := (if_neg (not_not_intro ⟨⟨hv, hs, hl⟩, by omega⟩)).trans ((if_neg (by omega)).trans (if_pos (by simpa using hf)))
                obtain ⟨rfl, rfl, rfl, rfl, rfl⟩ := ans_eq (R.symm.trans hS)
                clear R hS
                try clear hv
                try clear hh
                try clear he
                try clear hs
                try clear hl
                go_enter Try.func17, Try.ntmps17
                go_wp2_with fail
                with_reducible refine (C _).out.mono ?_
                rintro x w1 ⟨rfl, hb⟩
                have L1 := HL1.out.below hb (by have := HL1.out.lt; exact this)
                have L2 := HL2.out.below hb (by have := HL2.out.lt; exact this)
                obtain ⟨c10, c11, c12, c13⟩ := L1.cells4
                obtain ⟨d10, d11, d12, d13⟩ := L2.cells4
                obtain ⟨f10, f11, f12, f13⟩ := L2.free4
                obtain ⟨g10, g11, g12, g13⟩ := L1.free4
                have N1 := Lib.hid L1
                have M1 := Lib.hid L2
                have B1 := Lib.hid (HB.out.trans (hb.mono HB.out.size))
                clear hb L1 L2
                go_wp2_with fail
                with_reducible refine (S _).out.mono ?_
                rintro x w' ⟨rfl, rfl⟩
                go_wp2_with fail
                with_reducible refine (Q _).out.mono ?_
                rintro x w' ⟨rfl, rfl⟩
                go_wp2_with fail
                with_reducible refine (F _).out.mono ?_
                rintro x w2 ⟨rfl, hb⟩
                have L1 := N1.out.below hb (by have := N1.out.lt; exact this)
                have L2 := M1.out.below hb (by have := M1.out.lt; exact this)
                obtain ⟨c20, c21, c22, c23⟩ := L1.cells4
                obtain ⟨d20, d21, d22, d23⟩ := L2.cells4
                obtain ⟨f20, f21, f22, f23⟩ := L2.free4
                obtain ⟨g20, g21, g22, g23⟩ := L1.free4
                have N2 := Lib.hid L1
                have M2 := Lib.hid L2
                have B2 := Lib.hid (B1.out.trans (hb.mono B1.out.size))
                clear hb L1 L2
                go_wp2
                exact ret_put4 rfl rfl M2.out rfl B2.out (by omega) rfl
      · rw [show decide (1 ≤ n ∧ n ≤ 10000) = false from decide_eq_false hl] at Q
        have R : grS e h u m now who n g = badS 2 := if_pos (fun a => by first | exact hv a.1.1 | exact hs a.1.2.1 | exact hl a.1.2.2 | omega)
        obtain ⟨rfl, rfl, rfl, rfl, rfl⟩ := ans_eq (R.symm.trans hS)
        clear R hS
        try clear hv
        try clear hh
        try clear he
        try clear hs
        try clear hl
        go_enter Try.func17, Try.ntmps17
        go_wp2_with fail
        with_reducible refine (C _).out.mono ?_
        rintro x w1 ⟨rfl, hb⟩
        have L1 := HL1.out.below hb (by have := HL1.out.lt; exact this)
        have L2 := HL2.out.below hb (by have := HL2.out.lt; exact this)
        obtain ⟨c10, c11, c12, c13⟩ := L1.cells4
        obtain ⟨d10, d11, d12, d13⟩ := L2.cells4
        obtain ⟨f10, f11, f12, f13⟩ := L2.free4
        obtain ⟨g10, g11, g12, g13⟩ := L1.free4
        have N1 := Lib.hid L1
        have M1 := Lib.hid L2
        have B1 := Lib.hid (HB.out.trans (hb.mono HB.out.size))
        clear hb L1 L2
        go_wp2_with fail
        with_reducible refine (S _).out.mono ?_
        rintro x w' ⟨rfl, rfl⟩
        go_wp2_with fail
        with_reducible refine (Q _).out.mono ?_
        rintro x w' ⟨rfl, rfl⟩
        go_wp2
        exact ret_put4 rfl rfl M1.out rfl B1.out (by omega) rfl
    · rw [show decide (who = 1 ∨ who = 2) = false from decide_eq_false hs] at S
      have R : grS e h u m now who n g = badS 2 := if_pos (fun a => by first | exact hv a.1.1 | exact hs a.1.2.1 | exact hl a.1.2.2 | omega)
      obtain ⟨rfl, rfl, rfl, rfl, rfl⟩ := ans_eq (R.symm.trans hS)
      clear R hS
      try clear hv
      try clear hh
      try clear he
      try clear hs
      try clear hl
      go_enter Try.func17, Try.ntmps17
      go_wp2_with fail
      with_reducible refine (C _).out.mono ?_
      rintro x w1 ⟨rfl, hb⟩
      have L1 := HL1.out.below hb (by have := HL1.out.lt; exact this)
      have L2 := HL2.out.below hb (by have := HL2.out.lt; exact this)
      obtain ⟨c10, c11, c12, c13⟩ := L1.cells4
      obtain ⟨d10, d11, d12, d13⟩ := L2.cells4
      obtain ⟨f10, f11, f12, f13⟩ := L2.free4
      obtain ⟨g10, g11, g12, g13⟩ := L1.free4
      have N1 := Lib.hid L1
      have M1 := Lib.hid L2
      have B1 := Lib.hid (HB.out.trans (hb.mono HB.out.size))
      clear hb L1 L2
      go_wp2_with fail
      with_reducible refine (S _).out.mono ?_
      rintro x w' ⟨rfl, rfl⟩
      go_wp2
      exact ret_put4 rfl rfl M1.out rfl B1.out (by omega) rfl
  · rw [show chkS e h u m = 2 from if_neg hv] at C
    have R : grS e h u m now who n g = badS 2 := if_pos (fun a => by first | exact hv a.1.1 | exact hs a.1.2.1 | exact hl a.1.2.2 | omega)
    obtain ⟨rfl, rfl, rfl, rfl, rfl⟩ := ans_eq (R.symm.trans hS)
    clear R hS
    try clear hv
    try clear hh
    try clear he
    try clear hs
    try clear hl
    go_enter Try.func17, Try.ntmps17
    go_wp2_with fail
    with_reducible refine (C _).out.mono ?_
    rintro x w1 ⟨rfl, hb⟩
    have L1 := HL1.out.below hb (by have := HL1.out.lt; exact this)
    have L2 := HL2.out.below hb (by have := HL2.out.lt; exact this)
    obtain ⟨c10, c11, c12, c13⟩ := L1.cells4
    obtain ⟨d10, d11, d12, d13⟩ := L2.cells4
    obtain ⟨f10, f11, f12, f13⟩ := L2.free4
    obtain ⟨g10, g11, g12, g13⟩ := L1.free4
    have N1 := Lib.hid L1
    have M1 := Lib.hid L2
    have B1 := Lib.hid (HB.out.trans (hb.mono HB.out.size))
    clear hb L1 L2
    go_wp2
    exact ret_put4 rfl rfl M1.out rfl B1.out (by omega) rfl

set_option maxRecDepth 100000 in
set_option maxHeartbeats 1000000 in
theorem rgrant_any (e : Nat) (h : Int) (u : Nat) (m : Int) (now : Nat) (who : Int) (n g : Nat) (w : World) (E : Nat) (H : Int) (U : Nat) (M c : Int) (hS : grS e h u m now who n g = (E, H, U, M, c)) (he0 : e < 4294967296) (hnow : now < 18446744073709551616) (hn0 : n < 18446744073709551616) (hg0 : g < 18446744073709551616) : Calls Try.prog 18 #[.agg #[.int .u32 (e : Int), .int .i64 h, .int .u64 (u : Int), .int .i64 m], .int .u64 (now : Int), .int .i64 who, .int .u64 (n : Int), .int .u64 (g : Int)] w fun x w' => x = .returned (.tuple #[.agg #[.int .u32 (E : Int), .int .i64 H, .int .u64 (U : Int), .int .i64 M], .int .i64 c]) ∧ Below w.heap.size w w' := by
  have HB := Lib.hid (below2 w (.cells #[.int .u32 (e : Int), .int .i64 h, .int .u64 (u : Int), .int .i64 m] 25) (.cells #[.int .u32 0, .int .i64 0, .int .u64 0, .int .i64 0] 25))
  have HL1 := Lib.hid ((Lies.made w 25 #[.int .u32 (e : Int), .int .i64 h, .int .u64 (u : Int), .int .i64 m]).alloc (.cells #[.int .u32 0, .int .i64 0, .int .u64 0, .int .i64 0] 25))
  have HL2 := Lib.hid (Lies.made2 w (.cells #[.int .u32 (e : Int), .int .i64 h, .int .u64 (u : Int), .int .i64 m] 25) 25 #[.int .u32 0, .int .i64 0, .int .u64 0, .int .i64 0])
  have W := fun W => Lib.hid (wrong_any e h u m who n W)
  have F := fun W => Lib.hid (rfree_any e h u m now g W hnow hg0)
  by_cases hw : wrS e h u m who n
  · rw [show decide (wrS e h u m who n) = true from decide_eq_true hw] at W
    have ⟨hl1, hl2⟩ : 1 ≤ n ∧ n ≤ 10000 := hw.2.2
    by_cases hg : 10000 < g
    · have k1 : decide (10000 < g) = true := decide_eq_true (by omega)
      have k1' : decide ((10000 : Int) < (g : Int)) = true := decide_eq_true (by omega)
      have R : grS e h u m now who n g = badS 2 := if_pos (fun a => by first | exact hw a.1 | omega)
      obtain ⟨rfl, rfl, rfl, rfl, rfl⟩ := ans_eq (R.symm.trans hS)
      clear R hS
      try clear hv
      try clear hh
      try clear he
      try clear hs
      try clear hl
      try clear hw
      go_enter Try.func18, Try.ntmps18
      go_wp2_with fail
      with_reducible refine (W _).out.mono ?_
      rintro x w1 ⟨rfl, hb⟩
      have L1 := HL1.out.below hb (by have := HL1.out.lt; exact this)
      have L2 := HL2.out.below hb (by have := HL2.out.lt; exact this)
      obtain ⟨c10, c11, c12, c13⟩ := L1.cells4
      obtain ⟨d10, d11, d12, d13⟩ := L2.cells4
      obtain ⟨f10, f11, f12, f13⟩ := L2.free4
      obtain ⟨g10, g11, g12, g13⟩ := L1.free4
      have N1 := Lib.hid L1
      have M1 := Lib.hid L2
      have B1 := Lib.hid (HB.out.trans (hb.mono HB.out.size))
      clear hb L1 L2
      go_wp2
      exact ret_put4 rfl rfl M1.out rfl B1.out (by omega) rfl
    · have k1 : decide (10000 < g) = false := decide_eq_false (by omega)
      have k1' : decide ((10000 : Int) < (g : Int)) = false := decide_eq_false (by omega)
      by_cases hf : frS e h u m now g
      · rw [show frS e h u m now g = true from by simpa using hf] at F
        by_cases hn : 4611686018427387904 < now
        · have n1 : decide (4611686018427387904 < now) = true := decide_eq_true (by omega)
          have n1' : decide ((4611686018427387904 : Int) < (now : Int)) = true := decide_eq_true (by omega)
          have R : grS e h u m now who n g = badS 71 := (if_neg (not_not_intro ⟨hw, by omega⟩)).trans (if_pos (by omega))
          obtain ⟨rfl, rfl, rfl, rfl, rfl⟩ := ans_eq (R.symm.trans hS)
          clear R hS
          try clear hv
          try clear hh
          try clear he
          try clear hs
          try clear hl
          try clear hw
          go_enter Try.func18, Try.ntmps18
          go_wp2_with fail
          with_reducible refine (W _).out.mono ?_
          rintro x w1 ⟨rfl, hb⟩
          have L1 := HL1.out.below hb (by have := HL1.out.lt; exact this)
          have L2 := HL2.out.below hb (by have := HL2.out.lt; exact this)
          obtain ⟨c10, c11, c12, c13⟩ := L1.cells4
          obtain ⟨d10, d11, d12, d13⟩ := L2.cells4
          obtain ⟨f10, f11, f12, f13⟩ := L2.free4
          obtain ⟨g10, g11, g12, g13⟩ := L1.free4
          have N1 := Lib.hid L1
          have M1 := Lib.hid L2
          have B1 := Lib.hid (HB.out.trans (hb.mono HB.out.size))
          clear hb L1 L2
          go_wp2_with fail
          with_reducible refine (F _).out.mono ?_
          rintro x w2 ⟨rfl, hb⟩
          have L1 := N1.out.below hb (by have := N1.out.lt; exact this)
          have L2 := M1.out.below hb (by have := M1.out.lt; exact this)
          obtain ⟨c20, c21, c22, c23⟩ := L1.cells4
          obtain ⟨d20, d21, d22, d23⟩ := L2.cells4
          obtain ⟨f20, f21, f22, f23⟩ := L2.free4
          obtain ⟨g20, g21, g22, g23⟩ := L1.free4
          have N2 := Lib.hid L1
          have M2 := Lib.hid L2
          have B2 := Lib.hid (B1.out.trans (hb.mono B1.out.size))
          clear hb L1 L2
          go_wp2
          exact ret_put4 rfl rfl M2.out rfl B2.out (by omega) rfl
        · have n1 : decide (4611686018427387904 < now) = false := decide_eq_false (by omega)
          have n1' : decide ((4611686018427387904 : Int) < (now : Int)) = false := decide_eq_false (by omega)
          by_cases he : e = 4294967295
          · have y1 : ((e : Int) == 4294967295) = true := by simp; omega
            have R : grS e h u m now who n g = badS 71 := (if_neg (not_not_intro ⟨hw, by omega⟩)).trans (if_pos (by omega))
            obtain ⟨rfl, rfl, rfl, rfl, rfl⟩ := ans_eq (R.symm.trans hS)
            clear R hS
            try clear hv
            try clear hh
            try clear he
            try clear hs
            try clear hl
            try clear hw
            go_enter Try.func18, Try.ntmps18
            go_wp2_with fail
            with_reducible refine (W _).out.mono ?_
            rintro x w1 ⟨rfl, hb⟩
            have L1 := HL1.out.below hb (by have := HL1.out.lt; exact this)
            have L2 := HL2.out.below hb (by have := HL2.out.lt; exact this)
            obtain ⟨c10, c11, c12, c13⟩ := L1.cells4
            obtain ⟨d10, d11, d12, d13⟩ := L2.cells4
            obtain ⟨f10, f11, f12, f13⟩ := L2.free4
            obtain ⟨g10, g11, g12, g13⟩ := L1.free4
            have N1 := Lib.hid L1
            have M1 := Lib.hid L2
            have B1 := Lib.hid (HB.out.trans (hb.mono HB.out.size))
            clear hb L1 L2
            go_wp2_with fail
            with_reducible refine (F _).out.mono ?_
            rintro x w2 ⟨rfl, hb⟩
            have L1 := N1.out.below hb (by have := N1.out.lt; exact this)
            have L2 := M1.out.below hb (by have := M1.out.lt; exact this)
            obtain ⟨c20, c21, c22, c23⟩ := L1.cells4
            obtain ⟨d20, d21, d22, d23⟩ := L2.cells4
            obtain ⟨f20, f21, f22, f23⟩ := L2.free4
            obtain ⟨g20, g21, g22, g23⟩ := L1.free4
            have N2 := Lib.hid L1
            have M2 := Lib.hid L2
            have B2 := Lib.hid (B1.out.trans (hb.mono B1.out.size))
            clear hb L1 L2
            go_wp2
            exact ret_put4 rfl rfl M2.out rfl B2.out (by omega) rfl
          · have y1 : ((e : Int) == 4294967295) = false := by simp; omega
            have R : grS e h u m now who n g = (e + 1, who, now + n, m, 0) := (if_neg (not_not_intro ⟨hw, by omega⟩)).trans ((if_neg (by omega)).trans (if_neg (by simpa using hf)))
            obtain ⟨rfl, rfl, rfl, rfl, rfl⟩ := ans_eq (R.symm.trans hS)
            clear R hS
            have o1 : e + 1 < 4294967296 := by omega
            have o2 : now + n < 18446744073709551616 := by omega
            rw [show ((e + 1 : Nat) : Int) = (e : Int) + 1 from rfl, show ((now + n : Nat) : Int) = (now : Int) + (n : Int) from rfl]
            try clear hv
            try clear hh
            try clear he
            try clear hs
            try clear hl
            try clear hw
            go_enter Try.func18, Try.ntmps18
            go_wp2_with fail
            with_reducible refine (W _).out.mono ?_
            rintro x w1 ⟨rfl, hb⟩
            have L1 := HL1.out.below hb (by have := HL1.out.lt; exact this)
            have L2 := HL2.out.below hb (by have := HL2.out.lt; exact this)
            obtain ⟨c10, c11, c12, c13⟩ := L1.cells4
            obtain ⟨d10, d11, d12, d13⟩ := L2.cells4
            obtain ⟨f10, f11, f12, f13⟩ := L2.free4
            obtain ⟨g10, g11, g12, g13⟩ := L1.free4
            have N1 := Lib.hid L1
            have M1 := Lib.hid L2
            have B1 := Lib.hid (HB.out.trans (hb.mono HB.out.size))
            clear hb L1 L2
            go_wp2_with fail
            with_reducible refine (F _).out.mono ?_
            rintro x w2 ⟨rfl, hb⟩
            have L1 := N1.out.below hb (by have := N1.out.lt; exact this)
            have L2 := M1.out.below hb (by have := M1.out.lt; exact this)
            obtain ⟨c20, c21, c22, c23⟩ := L1.cells4
            obtain ⟨d20, d21, d22, d23⟩ := L2.cells4
            obtain ⟨f20, f21, f22, f23⟩ := L2.free4
            obtain ⟨g20, g21, g22, g23⟩ := L1.free4
            have N2 := Lib.hid L1
            have M2 := Lib.hid L2
            have B2 := Lib.hid (B1.out.trans (hb.mono B1.out.size))
            clear hb L1 L2
            go_wp2
            exact ret_put4 rfl rfl M2.out rfl B2.out (by omega) rfl
      · rw [show frS e h u m now g = false from by simpa using hf] at F
        by_cases hn : 4611686018427387904 < now
        · have n1 : decide (4611686018427387904 < now) = true := decide_eq_true (by omega)
          have n1' : decide ((4611686018427387904 : Int) < (now : Int)) = true := decide_eq_true (by omega)
          have R : grS e h u m now who n g = badS 71 := (if_neg (not_not_intro ⟨hw, by omega⟩)).trans (if_pos (by omega))
          obtain ⟨rfl, rfl, rfl, rfl, rfl⟩ := ans_eq (R.symm.trans hS)
          clear R hS
          try clear hv
          try clear hh
          try clear he
          try clear hs
          try clear hl
          try clear hw
          go_enter Try.func18, Try.ntmps18
          go_wp2_with fail
          with_reducible refine (W _).out.mono ?_
          rintro x w1 ⟨rfl, hb⟩
          have L1 := HL1.out.below hb (by have := HL1.out.lt; exact this)
          have L2 := HL2.out.below hb (by have := HL2.out.lt; exact this)
          obtain ⟨c10, c11, c12, c13⟩ := L1.cells4
          obtain ⟨d10, d11, d12, d13⟩ := L2.cells4
          obtain ⟨f10, f11, f12, f13⟩ := L2.free4
          obtain ⟨g10, g11, g12, g13⟩ := L1.free4
          have N1 := Lib.hid L1
          have M1 := Lib.hid L2
          have B1 := Lib.hid (HB.out.trans (hb.mono HB.out.size))
          clear hb L1 L2
          go_wp2_with fail
          with_reducible refine (F _).out.mono ?_
          rintro x w2 ⟨rfl, hb⟩
          have L1 := N1.out.below hb (by have := N1.out.lt; exact this)
          have L2 := M1.out.below hb (by have := M1.out.lt; exact this)
          obtain ⟨c20, c21, c22, c23⟩ := L1.cells4
          obtain ⟨d20, d21, d22, d23⟩ := L2.cells4
          obtain ⟨f20, f21, f22, f23⟩ := L2.free4
          obtain ⟨g20, g21, g22, g23⟩ := L1.free4
          have N2 := Lib.hid L1
          have M2 := Lib.hid L2
          have B2 := Lib.hid (B1.out.trans (hb.mono B1.out.size))
          clear hb L1 L2
          go_wp2
          exact ret_put4 rfl rfl M2.out rfl B2.out (by omega) rfl
        · have n1 : decide (4611686018427387904 < now) = false := decide_eq_false (by omega)
          have n1' : decide ((4611686018427387904 : Int) < (now : Int)) = false := decide_eq_false (by omega)
          by_cases he : e = 4294967295
          · have y1 : ((e : Int) == 4294967295) = true := by simp; omega
            have R : grS e h u m now who n g = badS 71 := (if_neg (not_not_intro ⟨hw, by omega⟩)).trans (if_pos (by omega))
            obtain ⟨rfl, rfl, rfl, rfl, rfl⟩ := ans_eq (R.symm.trans hS)
            clear R hS
            try clear hv
            try clear hh
            try clear he
            try clear hs
            try clear hl
            try clear hw
            go_enter Try.func18, Try.ntmps18
            go_wp2_with fail
            with_reducible refine (W _).out.mono ?_
            rintro x w1 ⟨rfl, hb⟩
            have L1 := HL1.out.below hb (by have := HL1.out.lt; exact this)
            have L2 := HL2.out.below hb (by have := HL2.out.lt; exact this)
            obtain ⟨c10, c11, c12, c13⟩ := L1.cells4
            obtain ⟨d10, d11, d12, d13⟩ := L2.cells4
            obtain ⟨f10, f11, f12, f13⟩ := L2.free4
            obtain ⟨g10, g11, g12, g13⟩ := L1.free4
            have N1 := Lib.hid L1
            have M1 := Lib.hid L2
            have B1 := Lib.hid (HB.out.trans (hb.mono HB.out.size))
            clear hb L1 L2
            go_wp2_with fail
            with_reducible refine (F _).out.mono ?_
            rintro x w2 ⟨rfl, hb⟩
            have L1 := N1.out.below hb (by have := N1.out.lt; exact this)
            have L2 := M1.out.below hb (by have := M1.out.lt; exact this)
            obtain ⟨c20, c21, c22, c23⟩ := L1.cells4
            obtain ⟨d20, d21, d22, d23⟩ := L2.cells4
            obtain ⟨f20, f21, f22, f23⟩ := L2.free4
            obtain ⟨g20, g21, g22, g23⟩ := L1.free4
            have N2 := Lib.hid L1
            have M2 := Lib.hid L2
            have B2 := Lib.hid (B1.out.trans (hb.mono B1.out.size))
            clear hb L1 L2
            go_wp2
            exact ret_put4 rfl rfl M2.out rfl B2.out (by omega) rfl
          · have y1 : ((e : Int) == 4294967295) = false := by simp; omega
            have R : grS e h u m now who n g = badS 70 := (if_neg (not_not_intro ⟨hw, by omega⟩)).trans ((if_neg (by omega)).trans (if_pos (by simpa using hf)))
            obtain ⟨rfl, rfl, rfl, rfl, rfl⟩ := ans_eq (R.symm.trans hS)
            clear R hS
            try clear hv
            try clear hh
            try clear he
            try clear hs
            try clear hl
            try clear hw
            go_enter Try.func18, Try.ntmps18
            go_wp2_with fail
            with_reducible refine (W _).out.mono ?_
            rintro x w1 ⟨rfl, hb⟩
            have L1 := HL1.out.below hb (by have := HL1.out.lt; exact this)
            have L2 := HL2.out.below hb (by have := HL2.out.lt; exact this)
            obtain ⟨c10, c11, c12, c13⟩ := L1.cells4
            obtain ⟨d10, d11, d12, d13⟩ := L2.cells4
            obtain ⟨f10, f11, f12, f13⟩ := L2.free4
            obtain ⟨g10, g11, g12, g13⟩ := L1.free4
            have N1 := Lib.hid L1
            have M1 := Lib.hid L2
            have B1 := Lib.hid (HB.out.trans (hb.mono HB.out.size))
            clear hb L1 L2
            go_wp2_with fail
            with_reducible refine (F _).out.mono ?_
            rintro x w2 ⟨rfl, hb⟩
            have L1 := N1.out.below hb (by have := N1.out.lt; exact this)
            have L2 := M1.out.below hb (by have := M1.out.lt; exact this)
            obtain ⟨c20, c21, c22, c23⟩ := L1.cells4
            obtain ⟨d20, d21, d22, d23⟩ := L2.cells4
            obtain ⟨f20, f21, f22, f23⟩ := L2.free4
            obtain ⟨g20, g21, g22, g23⟩ := L1.free4
            have N2 := Lib.hid L1
            have M2 := Lib.hid L2
            have B2 := Lib.hid (B1.out.trans (hb.mono B1.out.size))
            clear hb L1 L2
            go_wp2
            exact ret_put4 rfl rfl M2.out rfl B2.out (by omega) rfl
  · rw [show decide (wrS e h u m who n) = false from decide_eq_false hw] at W
    have R : grS e h u m now who n g = badS 2 := if_pos (fun a => by first | exact hw a.1 | omega)
    obtain ⟨rfl, rfl, rfl, rfl, rfl⟩ := ans_eq (R.symm.trans hS)
    clear R hS
    try clear hv
    try clear hh
    try clear he
    try clear hs
    try clear hl
    try clear hw
    go_enter Try.func18, Try.ntmps18
    go_wp2_with fail
    with_reducible refine (W _).out.mono ?_
    rintro x w1 ⟨rfl, hb⟩
    have L1 := HL1.out.below hb (by have := HL1.out.lt; exact this)
    have L2 := HL2.out.below hb (by have := HL2.out.lt; exact this)
    obtain ⟨c10, c11, c12, c13⟩ := L1.cells4
    obtain ⟨d10, d11, d12, d13⟩ := L2.cells4
    obtain ⟨f10, f11, f12, f13⟩ := L2.free4
    obtain ⟨g10, g11, g12, g13⟩ := L1.free4
    have N1 := Lib.hid L1
    have M1 := Lib.hid L2
    have B1 := Lib.hid (HB.out.trans (hb.mono HB.out.size))
    clear hb L1 L2
    go_wp2
    exact ret_put4 rfl rfl M1.out rfl B1.out (by omega) rfl

end Go.Proofs.Ytbcelelmckkaoaa
