/-
  The contract of asks: whatever is asked.
-/
import Derived.Test.YtbcelelmckkaoaaAsk0
import Derived.Test.YtbcelelmckkaoaaAsk1
import Derived.Test.YtbcelelmckkaoaaAsk2
import Derived.Test.YtbcelelmckkaoaaAsk3
import Derived.Test.YtbcelelmckkaoaaAsk4
import Derived.Test.YtbcelelmckkaoaaAskN
import Derived.Test.YtbcelelmckkaoaaAskP
namespace Go.Proofs.Ytbcelelmckkaoaa
open Go.RowKit

theorem asks_any (k : Nat) (e : Nat) (h : Int) (u : Nat) (m : Int) (now n : Nat) (T : Nat → Ls) (v : Value) (R : Nat) (kind : Int) (wt : Nat) (wh : Int) (ln : Nat) (md : Int) (g : Nat) (w : World)
    (hk : k < 100) (hI : Inv k ⟨e, h, u, m⟩ now n T) (hL : Lies w R 48 (rc e h u m now v)) (hO : OwnF w (R + 1) v n T) (hwt : wt < 65536) (hln : ln < 65536) (hg : g < 30) :
    Calls Try.prog 24 #[.pointer (some ⟨R, 0, none⟩), .agg (ac kind wt wh ln md), .int .u64 (g : Int)] w (AskPost k R w) := by
  by_cases h0 : kind = 0
  · subst h0; exact asks_0 k e h u m now n T v R wt wh ln md g w hk hI hL hO hwt hln hg
  by_cases h1 : kind = 1
  · subst h1; exact asks_1 k e h u m now n T v R wt wh ln md g w hk hI hL hO hwt hln hg
  by_cases h2 : kind = 2
  · subst h2; exact asks_2 k e h u m now n T v R wt wh ln md g w hk hI hL hO hwt hln hg
  by_cases h3 : kind = 3
  · subst h3; exact asks_3 k e h u m now n T v R wt wh ln md g w hk hI hL hO hwt hln hg
  by_cases h4 : kind = 4
  · subst h4; exact asks_4 k e h u m now n T v R wt wh ln md g w hk hI hL hO hwt hln hg
  by_cases h5 : kind < 0
  · exact asks_N k e h u m now n T v R kind wt wh ln md g w hk hI hL hO hwt hln hg h5
  · exact asks_P k e h u m now n T v R kind wt wh ln md g w hk hI hL hO hwt hln hg (by omega)

end Go.Proofs.Ytbcelelmckkaoaa
