/-
  The contract of calls.
-/
import Derived.Test.YtfcfejmammohpaaCallV
import Derived.Test.YtfcfejmammohpaaCall1
import Derived.Test.YtfcfejmammohpaaCall2
import Derived.Test.YtfcfejmammohpaaCall3t
import Derived.Test.YtfcfejmammohpaaCall3f
import Derived.Test.YtfcfejmammohpaaCall4t
import Derived.Test.YtfcfejmammohpaaCall4f
import Derived.Test.YtfcfejmammohpaaCall5
import Derived.Test.YtfcfejmammohpaaCall6
namespace Go.Proofs.Ytfcfejmammohpaa
open Go.RowKit
set_option maxRecDepth 100000
set_option linter.unusedVariables false

theorem calls_any (w0 : World) (gs : Nat) (s : St) (x : Cx) (w : World) (hM : SM w0 gs s w) (hI : s.inv) (hx : CT w0 x) (hl : x.l.length ≤ 255) (hn : s.n < 200) (hb1 : s.nt < 200 ∧ s.nd < 200 ∧ s.no < 200) :
    Calls Try.prog 51 #[.pointer (some ⟨gs, 0, none⟩), .agg (cl6 x)] w (CallPost w0 gs s) := by
  obtain ⟨e, od, st, un, Ad, l, cd, gd⟩ := x
  obtain ⟨he, ho, hst, hB, hc, hcm, hA⟩ := hx
  dsimp only at *
  obtain ⟨E, hE'⟩ : ∃ E : Nat, E = 1 + e % 6 := ⟨_, rfl⟩
  obtain ⟨O, hO'⟩ : ∃ O : Nat, O = 1 + od % 4 := ⟨_, rfl⟩
  obtain ⟨S, hS⟩ : ∃ S, wrap64 ((IntKind.u64.wrap st).tmod 3) = S := ⟨_, rfl⟩
  have hE : (1 + (e : Int) % 6) = (E : Int) := by omega
  have hO : (1 + (od : Int) % 4) = (O : Int) := by omega
  have h3 := step3 st
  rw [hS] at h3
  have hq : Rq E O S l := ⟨by omega, by omega, by omega, by omega, h3.1, h3.2, hl⟩
  by_cases hs : E < s.ep
  · exact calls_stale w0 gs s e od st un Ad cd gd l w E O S hM hI he ho hB hc hcm hA hn hb1 hE hO hS hq hs
  · cases hh : has s.n (fun i => (s.Y i).k) (kn O S un)
    · rcases act_cases (E := E) (od := O) (st := S) (un := un) (l := l) hI with ⟨a, _⟩ | ⟨a, _⟩ | ⟨a, _⟩
      · cases hg : gd
        · exact calls_3f w0 gs s e od st un Ad cd _ l w E O S hM hI he ho hB hc hcm hA hn hb1 hE hO hS hq rfl hs hh a
        · exact calls_3t w0 gs s e od st un Ad cd _ l w E O S hM hI he ho hB hc hcm hA hn hb1 hE hO hS hq rfl hs hh a
      · cases hg : gd
        · exact calls_4f w0 gs s e od st un Ad cd _ l w E O S hM hI he ho hB hc hcm hA hn hb1 hE hO hS hq rfl hs hh a
        · exact calls_4t w0 gs s e od st un Ad cd _ l w E O S hM hI he ho hB hc hcm hA hn hb1 hE hO hS hq rfl hs hh a
      · cases hg : gd
        · exact calls_6 w0 gs s e od st un Ad cd _ l w E O S hM hI he ho hB hc hcm hA hn hb1 hE hO hS hq rfl hs hh a
        · exact calls_5 w0 gs s e od st un Ad cd _ l w E O S hM hI he ho hB hc hcm hA hn hb1 hE hO hS hq rfl hs hh a
    · by_cases ha : (s.Y (pos (fun i => (s.Y i).k) (kn O S un) s.n)).k.a = l
      · cases hg : gd
        · exact calls_again_f w0 gs s e od st un Ad cd _ l w E O S hM hI he ho hB hc hcm hA hn hb1 hE hO hS hq rfl hs hh ha
        · exact calls_again_t w0 gs s e od st un Ad cd _ l w E O S hM hI he ho hB hc hcm hA hn hb1 hE hO hS hq rfl hs hh ha
      · exact calls_clash w0 gs s e od st un Ad cd gd l w E O S hM hI he ho hB hc hcm hA hn hb1 hE hO hS hq hs hh ha

end Go.Proofs.Ytfcfejmammohpaa
