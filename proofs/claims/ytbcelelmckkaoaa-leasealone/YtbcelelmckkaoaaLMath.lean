/-
  Leases: the plain mathematics.
-/
import Derived.Test.YtbcelelmckkaoaaRows
namespace Go.Proofs.Ytbcelelmckkaoaa

/-- A lease that may be. -/
def vB (e : Nat) (h : Int) (u : Nat) (m : Int) : Prop := (m = 1 ∨ m = 2) ∧ u ≤ 4611686018427397904 ∧ ((h = 0 ∧ e = 0 ∧ u = 0) ∨ ((h = 1 ∨ h = 2) ∧ e ≠ 0))
instance (e : Nat) (h : Int) (u : Nat) (m : Int) : Decidable (vB e h u m) := by unfold vB; infer_instance
def chkS (e : Nat) (h : Int) (u : Nat) (m : Int) : Int := if vB e h u m then 0 else 2

def frS (e : Nat) (h : Int) (u : Nat) (m : Int) (now g : Nat) : Bool := decide (vB e h u m ∧ g ≤ 10000 ∧ (h = 0 ∨ u + g < now))
def hoS (e : Nat) (h : Int) (u : Nat) (m : Int) (who : Int) (now : Nat) : Bool := decide (vB e h u m ∧ (who = 1 ∨ who = 2) ∧ h = who ∧ now ≤ u)
/-- What a request to change a lease comes to, but for what may not be at all. -/
def hdS (e : Nat) (h : Int) (u : Nat) (now : Nat) (who : Int) (ep : Nat) : Int := if ¬ (h = who ∧ e = ep) then 72 else if u < now then 73 else 0
abbrev Ans := Nat × Int × Nat × Int × Int
def badS (c : Int) : Ans := (0, 0, 0, 0, c)
def wrS (e : Nat) (h : Int) (u : Nat) (m : Int) (who : Int) (n : Nat) : Prop := vB e h u m ∧ (who = 1 ∨ who = 2) ∧ 1 ≤ n ∧ n ≤ 10000
instance (e : Nat) (h : Int) (u : Nat) (m : Int) (who : Int) (n : Nat) : Decidable (wrS e h u m who n) := by unfold wrS; infer_instance
def grS (e : Nat) (h : Int) (u : Nat) (m : Int) (now : Nat) (who : Int) (n g : Nat) : Ans :=
  if ¬ (wrS e h u m who n ∧ g ≤ 10000) then badS 2
  else if 4611686018427387904 < now ∨ e = 4294967295 then badS 71
  else if frS e h u m now g = false then badS 70
  else (e + 1, who, now + n, m, 0)
def rnS (e : Nat) (h : Int) (u : Nat) (m : Int) (now : Nat) (who : Int) (ep n : Nat) : Ans :=
  if ¬ wrS e h u m who n then badS 2
  else if 4611686018427387904 < now then badS 71
  else if ¬ (hdS e h u now who ep = 0) then badS (hdS e h u now who ep)
  else (e, h, max u (now + n), m, 0)
def tnS (e : Nat) (h : Int) (u : Nat) (m : Int) (now : Nat) (who : Int) (ep : Nat) (md : Int) : Ans :=
  if ¬ (vB e h u m ∧ (who = 1 ∨ who = 2) ∧ (md = 1 ∨ md = 2)) then badS 2
  else if ¬ (hdS e h u now who ep = 0) then badS (hdS e h u now who ep)
  else (e, h, u, md, 0)

end Go.Proofs.Ytbcelelmckkaoaa
