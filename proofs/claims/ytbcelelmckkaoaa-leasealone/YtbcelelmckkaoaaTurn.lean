/-
  The contracts of Turn.
-/
import Derived.Test.YtbcelelmckkaoaaRet
namespace Go.Proofs.Ytbcelelmckkaoaa
open Go.RowKit
set_option linter.unusedVariables false

set_option maxRecDepth 100000 in
set_option maxHeartbeats 1000000 in
theorem turn_any (e : Nat) (h : Int) (u : Nat) (m : Int) (now : Nat) (who : Int) (ep : Nat) (md : Int) (w : World) (E : Nat) (H : Int) (U : Nat) (M c : Int) (hS : tnS e h u m now who ep md = (E, H, U, M, c)) : Calls Try.prog 21 #[.agg #[.int .u32 (e : Int), .int .i64 h, .int .u64 (u : Int), .int .i64 m], .int .u64 (now : Int), .int .i64 who, .int .u32 (ep : Int), .int .i64 md] w fun x w' => x = .returned (.tuple #[.agg #[.int .u32 (E : Int), .int .i64 H, .int .u64 (U : Int), .int .i64 M], .int .i64 c]) ∧ Below w.heap.size w w' := by
  have HB := Lib.hid (below2 w (.cells #[.int .u32 (e : Int), .int .i64 h, .int .u64 (u : Int), .int .i64 m] 25) (.cells #[.int .u32 0, .int .i64 0, .int .u64 0, .int .i64 0] 25))
  have HL1 := Lib.hid ((Lies.made w 25 #[.int .u32 (e : Int), .int .i64 h, .int .u64 (u : Int), .int .i64 m]).alloc (.cells #[.int .u32 0, .int .i64 0, .int .u64 0, .int .i64 0] 25))
  have HL2 := Lib.hid (Lies.made2 w (.cells #[.int .u32 (e : Int), .int .i64 h, .int .u64 (u : Int), .int .i64 m] 25) 25 #[.int .u32 0, .int .i64 0, .int .u64 0, .int .i64 0])
  have C := fun W => Lib.hid (check_any e h u m W)
  have S := fun W => Lib.hid (isSite_any who W)
  have Q := fun W => Lib.hid (isMode_any md W)
  have K := fun W => Lib.hid (holder_any e h u m now who ep W)
  by_cases hv : vB e h u m
  · rw [show chkS e h u m = 0 from if_pos hv] at C
    by_cases hs : who = 1 ∨ who = 2
    · rw [show decide (who = 1 ∨ who = 2) = true from decide_eq_true hs] at S
      by_cases hl : md = 1 ∨ md = 2
      · rw [show decide (md = 1 ∨ md = 2) = true from decide_eq_true hl] at Q
        by_cases hd : hdS e h u now who ep = 0
        · rw [hd] at K
          have R : tnS e h u m now who ep md = (e, h, u, md, 0) := (if_neg (not_not_intro ⟨hv, hs, hl⟩)).trans (if_neg (not_not_intro hd))
          obtain ⟨rfl, rfl, rfl, rfl, rfl⟩ := ans_eq (R.symm.trans hS)
          clear R hS
          try clear hv
          try clear hh
          try clear he
          try clear hs
          try clear hl
          try clear hw
          try clear hd
          go_enter Try.func21, Try.ntmps21
          go_wp2_with fail
          with_reducible refine (C _).out.mono ?_
          rintro x w1 ⟨rfl, hb⟩
          have L1 := HL1.out.below hb (by have := HL1.out.lt; exact this)
          have L2 := HL2.out.below hb (by have := HL2.out.lt; exact this)
          obtain ⟨c10, c11, c12, c13⟩ := L1.cells4
          obtain ⟨d10, d11, d12, d13⟩ := L2.cells4
          obtain ⟨f10, f11, f12, f13⟩ := L2.free4
          obtain ⟨g10, g11, g12, g13⟩ := L1.free4
          have N1 := Lib.hid L1
          have M1 := Lib.hid L2
          have B1 := Lib.hid (HB.out.trans (hb.mono HB.out.size))
          clear hb L1 L2
          go_wp2_with fail
          with_reducible refine (S _).out.mono ?_
          rintro x w' ⟨rfl, rfl⟩
          go_wp2_with fail
          with_reducible refine (Q _).out.mono ?_
          rintro x w' ⟨rfl, rfl⟩
          go_wp2_with fail
          with_reducible refine (K _).out.mono ?_
          rintro x w2 ⟨rfl, hb⟩
          have L1 := N1.out.below hb (by have := N1.out.lt; exact this)
          have L2 := M1.out.below hb (by have := M1.out.lt; exact this)
          obtain ⟨c20, c21, c22, c23⟩ := L1.cells4
          obtain ⟨d20, d21, d22, d23⟩ := L2.cells4
          obtain ⟨f20, f21, f22, f23⟩ := L2.free4
          obtain ⟨g20, g21, g22, g23⟩ := L1.free4
          have N2 := Lib.hid L1
          have M2 := Lib.hid L2
          have B2 := Lib.hid (B1.out.trans (hb.mono B1.out.size))
          clear hb L1 L2
          go_wp2
          exact ret_put4 rfl rfl (M2.out.other (a := ⟨w.heap.size, 3, none⟩) (by show w.heap.size + 1 ≠ w.heap.size; omega) _) rfl (B2.out.setCell (p := ⟨w.heap.size, 3, none⟩) (by show w.heap.size ≤ w.heap.size; omega) _) (by omega) rfl
        · have R : tnS e h u m now who ep md = badS (hdS e h u now who ep) := (if_neg (not_not_intro ⟨hv, hs, hl⟩)).trans (if_pos hd)
          obtain ⟨rfl, rfl, rfl, rfl, rfl⟩ := ans_eq (R.symm.trans hS)
          clear R hS
          have z9 : (hdS e h u now who ep != 0) = true := by simpa using hd
          try clear hd
          generalize hdS e h u now who ep = d at *
          try clear hv
          try clear hh
          try clear he
          try clear hs
          try clear hl
          try clear hw
          try clear hd
          go_enter Try.func21, Try.ntmps21
          go_wp2_with fail
          with_reducible refine (C _).out.mono ?_
          rintro x w1 ⟨rfl, hb⟩
          have L1 := HL1.out.below hb (by have := HL1.out.lt; exact this)
          have L2 := HL2.out.below hb (by have := HL2.out.lt; exact this)
          obtain ⟨c10, c11, c12, c13⟩ := L1.cells4
          obtain ⟨d10, d11, d12, d13⟩ := L2.cells4
          obtain ⟨f10, f11, f12, f13⟩ := L2.free4
          obtain ⟨g10, g11, g12, g13⟩ := L1.free4
          have N1 := Lib.hid L1
          have M1 := Lib.hid L2
          have B1 := Lib.hid (HB.out.trans (hb.mono HB.out.size))
          clear hb L1 L2
          go_wp2_with fail
          with_reducible refine (S _).out.mono ?_
          rintro x w' ⟨rfl, rfl⟩
          go_wp2_with fail
          with_reducible refine (Q _).out.mono ?_
          rintro x w' ⟨rfl, rfl⟩
          go_wp2_with fail
          with_reducible refine (K _).out.mono ?_
          rintro x w2 ⟨rfl, hb⟩
          have L1 := N1.out.below hb (by have := N1.out.lt; exact this)
          have L2 := M1.out.below hb (by have := M1.out.lt; exact this)
          obtain ⟨c20, c21, c22, c23⟩ := L1.cells4
          obtain ⟨d20, d21, d22, d23⟩ := L2.cells4
          obtain ⟨f20, f21, f22, f23⟩ := L2.free4
          obtain ⟨g20, g21, g22, g23⟩ := L1.free4
          have N2 := Lib.hid L1
          have M2 := Lib.hid L2
          have B2 := Lib.hid (B1.out.trans (hb.mono B1.out.size))
          clear hb L1 L2
          go_wp2
          exact ret_put4 rfl rfl M2.out rfl B2.out (by omega) rfl
      · rw [show decide (md = 1 ∨ md = 2) = false from decide_eq_false hl] at Q
        have R : tnS e h u m now who ep md = badS 2 := if_pos (fun a => by first | exact hv a.1 | exact hs a.2.1 | exact hl a.2.2)
        obtain ⟨rfl, rfl, rfl, rfl, rfl⟩ := ans_eq (R.symm.trans hS)
        clear R hS
        try clear hv
        try clear hh
        try clear he
        try clear hs
        try clear hl
        try clear hw
        try clear hd
        go_enter Try.func21, Try.ntmps21
        go_wp2_with fail
        with_reducible refine (C _).out.mono ?_
        rintro x w1 ⟨rfl, hb⟩
        have L1 := HL1.out.below hb (by have := HL1.out.lt; exact this)
        have L2 := HL2.out.below hb (by have := HL2.out.lt; exact this)
        obtain ⟨c10, c11, c12, c13⟩ := L1.cells4
        obtain ⟨d10, d11, d12, d13⟩ := L2.cells4
        obtain ⟨f10, f11, f12, f13⟩ := L2.free4
        obtain ⟨g10, g11, g12, g13⟩ := L1.free4
        have N1 := Lib.hid L1
        have M1 := Lib.hid L2
        have B1 := Lib.hid (HB.out.trans (hb.mono HB.out.size))
        clear hb L1 L2
        go_wp2_with fail
        with_reducible refine (S _).out.mono ?_
        rintro x w' ⟨rfl, rfl⟩
        go_wp2_with fail
        with_reducible refine (Q _).out.mono ?_
        rintro x w' ⟨rfl, rfl⟩
        go_wp2
        exact ret_put4 rfl rfl M1.out rfl B1.out (by omega) rfl
    · rw [show decide (who = 1 ∨ who = 2) = false from decide_eq_false hs] at S
      have R : tnS e h u m now who ep md = badS 2 := if_pos (fun a => by first | exact hv a.1 | exact hs a.2.1 | exact hl a.2.2)
      obtain ⟨rfl, rfl, rfl, rfl, rfl⟩ := ans_eq (R.symm.trans hS)
      clear R hS
      try clear hv
      try clear hh
      try clear he
      try clear hs
      try clear hl
      try clear hw
      try clear hd
      go_enter Try.func21, Try.ntmps21
      go_wp2_with fail
      with_reducible refine (C _).out.mono ?_
      rintro x w1 ⟨rfl, hb⟩
      have L1 := HL1.out.below hb (by have := HL1.out.lt; exact this)
      have L2 := HL2.out.below hb (by have := HL2.out.lt; exact this)
      obtain ⟨c10, c11, c12, c13⟩ := L1.cells4
      obtain ⟨d10, d11, d12, d13⟩ := L2.cells4
      obtain ⟨f10, f11, f12, f13⟩ := L2.free4
      obtain ⟨g10, g11, g12, g13⟩ := L1.free4
      have N1 := Lib.hid L1
      have M1 := Lib.hid L2
      have B1 := Lib.hid (HB.out.trans (hb.mono HB.out.size))
      clear hb L1 L2
      go_wp2_with fail
      with_reducible refine (S _).out.mono ?_
      rintro x w' ⟨rfl, rfl⟩
      go_wp2
      exact ret_put4 rfl rfl M1.out rfl B1.out (by omega) rfl
  · rw [show chkS e h u m = 2 from if_neg hv] at C
    have R : tnS e h u m now who ep md = badS 2 := if_pos (fun a => by first | exact hv a.1 | exact hs a.2.1 | exact hl a.2.2)
    obtain ⟨rfl, rfl, rfl, rfl, rfl⟩ := ans_eq (R.symm.trans hS)
    clear R hS
    try clear hv
    try clear hh
    try clear he
    try clear hs
    try clear hl
    try clear hw
    try clear hd
    go_enter Try.func21, Try.ntmps21
    go_wp2_with fail
    with_reducible refine (C _).out.mono ?_
    rintro x w1 ⟨rfl, hb⟩
    have L1 := HL1.out.below hb (by have := HL1.out.lt; exact this)
    have L2 := HL2.out.below hb (by have := HL2.out.lt; exact this)
    obtain ⟨c10, c11, c12, c13⟩ := L1.cells4
    obtain ⟨d10, d11, d12, d13⟩ := L2.cells4
    obtain ⟨f10, f11, f12, f13⟩ := L2.free4
    obtain ⟨g10, g11, g12, g13⟩ := L1.free4
    have N1 := Lib.hid L1
    have M1 := Lib.hid L2
    have B1 := Lib.hid (HB.out.trans (hb.mono HB.out.size))
    clear hb L1 L2
    go_wp2
    exact ret_put4 rfl rfl M1.out rfl B1.out (by omega) rfl

set_option maxRecDepth 100000 in
set_option maxHeartbeats 1000000 in
theorem rturn_any (e : Nat) (h : Int) (u : Nat) (m : Int) (now : Nat) (who : Int) (ep : Nat) (md : Int) (w : World) (E : Nat) (H : Int) (U : Nat) (M c : Int) (hS : tnS e h u m now who ep md = (E, H, U, M, c)) : Calls Try.prog 22 #[.agg #[.int .u32 (e : Int), .int .i64 h, .int .u64 (u : Int), .int .i64 m], .int .u64 (now : Int), .int .i64 who, .int .u32 (ep : Int), .int .i64 md] w fun x w' => x = .returned (.tuple #[.agg #[.int .u32 (E : Int), .int .i64 H, .int .u64 (U : Int), .int .i64 M], .int .i64 c]) ∧ Below w.heap.size w w' := by
  have HB := Lib.hid (below2 w (.cells #[.int .u32 (e : Int), .int .i64 h, .int .u64 (u : Int), .int .i64 m] 25) (.cells #[.int .u32 0, .int .i64 0, .int .u64 0, .int .i64 0] 25))
  have HL1 := Lib.hid ((Lies.made w 25 #[.int .u32 (e : Int), .int .i64 h, .int .u64 (u : Int), .int .i64 m]).alloc (.cells #[.int .u32 0, .int .i64 0, .int .u64 0, .int .i64 0] 25))
  have HL2 := Lib.hid (Lies.made2 w (.cells #[.int .u32 (e : Int), .int .i64 h, .int .u64 (u : Int), .int .i64 m] 25) 25 #[.int .u32 0, .int .i64 0, .int .u64 0, .int .i64 0])
  have W := fun W => Lib.hid (wrong_any e h u m who 1 W)
  rw [show ((1 : Nat) : Int) = 1 from rfl] at W
  by_cases hw : wrS e h u m who 1
  · rw [show decide (wrS e h u m who 1) = true from decide_eq_true hw] at W
    by_cases m1 : md < 1
    · have l1 : decide (md < 1) = true := decide_eq_true (by omega)
      have R : tnS e h u m now who ep md = badS 2 := if_pos (fun a => by first | exact hw ⟨a.1, a.2.1, by omega, by omega⟩ | omega)
      obtain ⟨rfl, rfl, rfl, rfl, rfl⟩ := ans_eq (R.symm.trans hS)
      clear R hS
      try clear hv
      try clear hh
      try clear he
      try clear hs
      try clear hl
      try clear hw
      try clear hd
      go_enter Try.func22, Try.ntmps22
      go_wp2_with fail
      with_reducible refine (W _).out.mono ?_
      rintro x w1 ⟨rfl, hb⟩
      have L1 := HL1.out.below hb (by have := HL1.out.lt; exact this)
      have L2 := HL2.out.below hb (by have := HL2.out.lt; exact this)
      obtain ⟨c10, c11, c12, c13⟩ := L1.cells4
      obtain ⟨d10, d11, d12, d13⟩ := L2.cells4
      obtain ⟨f10, f11, f12, f13⟩ := L2.free4
      obtain ⟨g10, g11, g12, g13⟩ := L1.free4
      have N1 := Lib.hid L1
      have M1 := Lib.hid L2
      have B1 := Lib.hid (HB.out.trans (hb.mono HB.out.size))
      clear hb L1 L2
      go_wp2
      exact ret_put4 rfl rfl M1.out rfl B1.out (by omega) rfl
    · have l1 : decide (md < 1) = false := decide_eq_false (by omega)
      by_cases m2 : 2 < md
      · have l2 : decide (2 < md) = true := decide_eq_true (by omega)
        have R : tnS e h u m now who ep md = badS 2 := if_pos (fun a => by first | exact hw ⟨a.1, a.2.1, by omega, by omega⟩ | omega)
        obtain ⟨rfl, rfl, rfl, rfl, rfl⟩ := ans_eq (R.symm.trans hS)
        clear R hS
        try clear hv
        try clear hh
        try clear he
        try clear hs
        try clear hl
        try clear hw
        try clear hd
        go_enter Try.func22, Try.ntmps22
        go_wp2_with fail
        with_reducible refine (W _).out.mono ?_
        rintro x w1 ⟨rfl, hb⟩
        have L1 := HL1.out.below hb (by have := HL1.out.lt; exact this)
        have L2 := HL2.out.below hb (by have := HL2.out.lt; exact this)
        obtain ⟨c10, c11, c12, c13⟩ := L1.cells4
        obtain ⟨d10, d11, d12, d13⟩ := L2.cells4
        obtain ⟨f10, f11, f12, f13⟩ := L2.free4
        obtain ⟨g10, g11, g12, g13⟩ := L1.free4
        have N1 := Lib.hid L1
        have M1 := Lib.hid L2
        have B1 := Lib.hid (HB.out.trans (hb.mono HB.out.size))
        clear hb L1 L2
        go_wp2
        exact ret_put4 rfl rfl M1.out rfl B1.out (by omega) rfl
      · have l2 : decide (2 < md) = false := decide_eq_false (by omega)
        by_cases hh : h = who
        · have z1 : (h == who) = true := by simpa using hh
          have z2 : (h != who) = false := by simpa using hh
          by_cases he : e = ep
          · have y1 : ((e : Int) == (ep : Int)) = true := by simp; omega
            have y2 : ((e : Int) != (ep : Int)) = false := by simp; omega
            by_cases hy : u < now
            · have u1 : decide (u < now) = true := decide_eq_true (by omega)
              have u2 : decide ((u : Int) < (now : Int)) = true := decide_eq_true (by omega)
              have hd : hdS e h u now who ep = 73 := (if_neg (by omega)).trans (if_pos (by omega))
              have R : tnS e h u m now who ep md = badS 73 := (if_neg (not_not_intro ⟨hw.1, hw.2.1, by omega⟩)).trans ((if_pos (by rw [hd]; decide)).trans (by rw [hd]))
              obtain ⟨rfl, rfl, rfl, rfl, rfl⟩ := ans_eq (R.symm.trans hS)
              clear R hS
              try clear hv
              try clear hh
              try clear he
              try clear hs
              try clear hl
              try clear hw
              try clear hd
              go_enter Try.func22, Try.ntmps22
              go_wp2_with fail
              with_reducible refine (W _).out.mono ?_
              rintro x w1 ⟨rfl, hb⟩
              have L1 := HL1.out.below hb (by have := HL1.out.lt; exact this)
              have L2 := HL2.out.below hb (by have := HL2.out.lt; exact this)
              obtain ⟨c10, c11, c12, c13⟩ := L1.cells4
              obtain ⟨d10, d11, d12, d13⟩ := L2.cells4
              obtain ⟨f10, f11, f12, f13⟩ := L2.free4
              obtain ⟨g10, g11, g12, g13⟩ := L1.free4
              have N1 := Lib.hid L1
              have M1 := Lib.hid L2
              have B1 := Lib.hid (HB.out.trans (hb.mono HB.out.size))
              clear hb L1 L2
              go_wp2
              exact ret_put4 rfl rfl M1.out rfl B1.out (by omega) rfl
            · have u1 : decide (u < now) = false := decide_eq_false (by omega)
              have u2 : decide ((u : Int) < (now : Int)) = false := decide_eq_false (by omega)
              have hd : hdS e h u now who ep = 0 := (if_neg (by omega)).trans (if_neg (by omega))
              have R : tnS e h u m now who ep md = (e, h, u, md, 0) := (if_neg (not_not_intro ⟨hw.1, hw.2.1, by omega⟩)).trans (if_neg (not_not_intro hd))
              obtain ⟨rfl, rfl, rfl, rfl, rfl⟩ := ans_eq (R.symm.trans hS)
              clear R hS
              try clear hv
              try clear hh
              try clear he
              try clear hs
              try clear hl
              try clear hw
              try clear hd
              go_enter Try.func22, Try.ntmps22
              go_wp2_with fail
              with_reducible refine (W _).out.mono ?_
              rintro x w1 ⟨rfl, hb⟩
              have L1 := HL1.out.below hb (by have := HL1.out.lt; exact this)
              have L2 := HL2.out.below hb (by have := HL2.out.lt; exact this)
              obtain ⟨c10, c11, c12, c13⟩ := L1.cells4
              obtain ⟨d10, d11, d12, d13⟩ := L2.cells4
              obtain ⟨f10, f11, f12, f13⟩ := L2.free4
              obtain ⟨g10, g11, g12, g13⟩ := L1.free4
              have N1 := Lib.hid L1
              have M1 := Lib.hid L2
              have B1 := Lib.hid (HB.out.trans (hb.mono HB.out.size))
              clear hb L1 L2
              go_wp2
              exact ret_put4 rfl rfl (M1.out.other (a := ⟨w.heap.size, 3, none⟩) (by show w.heap.size + 1 ≠ w.heap.size; omega) _) rfl (B1.out.setCell (p := ⟨w.heap.size, 3, none⟩) (by show w.heap.size ≤ w.heap.size; omega) _) (by omega) rfl
          · have y1 : ((e : Int) == (ep : Int)) = false := by simp; omega
            have y2 : ((e : Int) != (ep : Int)) = true := by simp; omega
            have hd : hdS e h u now who ep = 72 := if_pos (by omega)
            have R : tnS e h u m now who ep md = badS 72 := (if_neg (not_not_intro ⟨hw.1, hw.2.1, by omega⟩)).trans ((if_pos (by rw [hd]; decide)).trans (by rw [hd]))
            obtain ⟨rfl, rfl, rfl, rfl, rfl⟩ := ans_eq (R.symm.trans hS)
            clear R hS
            try clear hv
            try clear hh
            try clear he
            try clear hs
            try clear hl
            try clear hw
            try clear hd
            go_enter Try.func22, Try.ntmps22
            go_wp2_with fail
            with_reducible refine (W _).out.mono ?_
            rintro x w1 ⟨rfl, hb⟩
            have L1 := HL1.out.below hb (by have := HL1.out.lt; exact this)
            have L2 := HL2.out.below hb (by have := HL2.out.lt; exact this)
            obtain ⟨c10, c11, c12, c13⟩ := L1.cells4
            obtain ⟨d10, d11, d12, d13⟩ := L2.cells4
            obtain ⟨f10, f11, f12, f13⟩ := L2.free4
            obtain ⟨g10, g11, g12, g13⟩ := L1.free4
            have N1 := Lib.hid L1
            have M1 := Lib.hid L2
            have B1 := Lib.hid (HB.out.trans (hb.mono HB.out.size))
            clear hb L1 L2
            go_wp2
            exact ret_put4 rfl rfl M1.out rfl B1.out (by omega) rfl
        · have z1 : (h == who) = false := by simpa using hh
          have z2 : (h != who) = true := by simpa using hh
          have hd : hdS e h u now who ep = 72 := if_pos (by omega)
          have R : tnS e h u m now who ep md = badS 72 := (if_neg (not_not_intro ⟨hw.1, hw.2.1, by omega⟩)).trans ((if_pos (by rw [hd]; decide)).trans (by rw [hd]))
          obtain ⟨rfl, rfl, rfl, rfl, rfl⟩ := ans_eq (R.symm.trans hS)
          clear R hS
          try clear hv
          try clear hh
          try clear he
          try clear hs
          try clear hl
          try clear hw
          try clear hd
          go_enter Try.func22, Try.ntmps22
          go_wp2_with fail
          with_reducible refine (W _).out.mono ?_
          rintro x w1 ⟨rfl, hb⟩
          have L1 := HL1.out.below hb (by have := HL1.out.lt; exact this)
          have L2 := HL2.out.below hb (by have := HL2.out.lt; exact this)
          obtain ⟨c10, c11, c12, c13⟩ := L1.cells4
          obtain ⟨d10, d11, d12, d13⟩ := L2.cells4
          obtain ⟨f10, f11, f12, f13⟩ := L2.free4
          obtain ⟨g10, g11, g12, g13⟩ := L1.free4
          have N1 := Lib.hid L1
          have M1 := Lib.hid L2
          have B1 := Lib.hid (HB.out.trans (hb.mono HB.out.size))
          clear hb L1 L2
          go_wp2
          exact ret_put4 rfl rfl M1.out rfl B1.out (by omega) rfl
  · rw [show decide (wrS e h u m who 1) = false from decide_eq_false hw] at W
    have R : tnS e h u m now who ep md = badS 2 := if_pos (fun a => by first | exact hw ⟨a.1, a.2.1, by omega, by omega⟩ | omega)
    obtain ⟨rfl, rfl, rfl, rfl, rfl⟩ := ans_eq (R.symm.trans hS)
    clear R hS
    try clear hv
    try clear hh
    try clear he
    try clear hs
    try clear hl
    try clear hw
    try clear hd
    go_enter Try.func22, Try.ntmps22
    go_wp2_with fail
    with_reducible refine (W _).out.mono ?_
    rintro x w1 ⟨rfl, hb⟩
    have L1 := HL1.out.below hb (by have := HL1.out.lt; exact this)
    have L2 := HL2.out.below hb (by have := HL2.out.lt; exact this)
    obtain ⟨c10, c11, c12, c13⟩ := L1.cells4
    obtain ⟨d10, d11, d12, d13⟩ := L2.cells4
    obtain ⟨f10, f11, f12, f13⟩ := L2.free4
    obtain ⟨g10, g11, g12, g13⟩ := L1.free4
    have N1 := Lib.hid L1
    have M1 := Lib.hid L2
    have B1 := Lib.hid (HB.out.trans (hb.mono HB.out.size))
    clear hb L1 L2
    go_wp2
    exact ret_put4 rfl rfl M1.out rfl B1.out (by omega) rfl

end Go.Proofs.Ytbcelelmckkaoaa
