/-
  The walk of NoteBare, out of the contracts.
-/
import Derived.Test.YtjjkjppaiejajaaInFn
import Derived.Test.YtjjkjppaiejajaaCutLaw
namespace Go.Proofs.Ytjjkjppaiejajaa
open Go.RowKit

/-- One of these letters is not zero, and not named. -/
def xtra (s : List Nat) (e : Note) (cs : List Nat) : Bool := cs.any fun c => !Ent.isZ c e && !s.contains c
theorem xtra_one (s : List Nat) (e : Note) (c : Nat) : xtra s e [c] = (!Ent.isZ c e && !s.contains c) := by simp [xtra]
theorem xtra_snoc (s : List Nat) (e : Note) (cs : List Nat) (c : Nat) : xtra s e (cs ++ [c]) = (xtra s e cs || (!Ent.isZ c e && !s.contains c)) := by simp [xtra]
theorem xtra_only (s : List Nat) (e : Note) : xtra s e Ent.alpha = !Ent.only s e := by
  unfold xtra Ent.only Ent.fine
  generalize Ent.alpha = l
  induction l with
  | nil => rfl
  | cons c r ih =>
    rw [List.any_cons, List.all_cons, ih]
    cases Ent.isZ c e <;> cases s.contains c <;> simp

def bR1 (W : World) (v0 v1 v2 v5 v6 : Value) (x : Bool) (a' : Act) (w' : World) : Prop :=
  W = w' ∧ ∃ u : Nat → Value, a' = ⟨#[v0, v1, v2, undef, .bool false, v5, v6, undef, undef, undef, u 10, u 11, u 12, u 13, u 14, u 15, u 16, u 17, u 18, u 19, u 20, u 21, u 22, u 23, u 24, u 25, u 26, u 27, u 28, u 29, u 30, .bool x, undef, undef, undef, undef, undef, undef, undef, undef, undef, undef, undef, undef, undef, undef, undef, undef, undef, undef, undef, undef, undef, undef, undef, undef, undef, undef, undef, undef, undef, undef, undef, undef, undef, undef, undef, undef, undef, undef, undef, undef, undef, undef, undef, undef, undef, undef, undef, undef, undef, undef, undef, undef, undef, undef, undef, undef, undef, undef, undef, undef, undef, undef, undef, undef, undef, undef, undef, undef, undef, undef, undef, undef, undef, undef, undef, undef, undef, undef, undef, undef, undef, undef, undef, undef, undef, undef, undef, undef, undef, undef, undef, undef, undef, undef, undef, undef, undef, undef, undef, undef, undef, undef, undef, undef, undef, undef, undef, undef, undef, undef, undef, undef, undef, undef, undef, undef, undef, undef, undef, undef], []⟩
theorem bR1_mk {W : World} {v0 v1 v2 v5 v6 : Value} {x : Bool} {a' : Act} (u : Nat → Value) (h : a' = ⟨#[v0, v1, v2, undef, .bool false, v5, v6, undef, undef, undef, u 10, u 11, u 12, u 13, u 14, u 15, u 16, u 17, u 18, u 19, u 20, u 21, u 22, u 23, u 24, u 25, u 26, u 27, u 28, u 29, u 30, .bool x, undef, undef, undef, undef, undef, undef, undef, undef, undef, undef, undef, undef, undef, undef, undef, undef, undef, undef, undef, undef, undef, undef, undef, undef, undef, undef, undef, undef, undef, undef, undef, undef, undef, undef, undef, undef, undef, undef, undef, undef, undef, undef, undef, undef, undef, undef, undef, undef, undef, undef, undef, undef, undef, undef, undef, undef, undef, undef, undef, undef, undef, undef, undef, undef, undef, undef, undef, undef, undef, undef, undef, undef, undef, undef, undef, undef, undef, undef, undef, undef, undef, undef, undef, undef, undef, undef, undef, undef, undef, undef, undef, undef, undef, undef, undef, undef, undef, undef, undef, undef, undef, undef, undef, undef, undef, undef, undef, undef, undef, undef, undef, undef, undef, undef, undef, undef, undef, undef, undef, undef], []⟩) : bR1 W v0 v1 v2 v5 v6 x a' W := ⟨rfl, u, h⟩
theorem bR1_of {W : World} {v0 v1 v2 v5 v6 : Value} {x : Bool} {a' : Act} (h : a' = ⟨#[v0, v1, v2, undef, .bool false, v5, v6, undef, undef, undef, (a'.tmps.getD 10 undef), (a'.tmps.getD 11 undef), (a'.tmps.getD 12 undef), (a'.tmps.getD 13 undef), (a'.tmps.getD 14 undef), (a'.tmps.getD 15 undef), (a'.tmps.getD 16 undef), (a'.tmps.getD 17 undef), (a'.tmps.getD 18 undef), (a'.tmps.getD 19 undef), (a'.tmps.getD 20 undef), (a'.tmps.getD 21 undef), (a'.tmps.getD 22 undef), (a'.tmps.getD 23 undef), (a'.tmps.getD 24 undef), (a'.tmps.getD 25 undef), (a'.tmps.getD 26 undef), (a'.tmps.getD 27 undef), (a'.tmps.getD 28 undef), (a'.tmps.getD 29 undef), (a'.tmps.getD 30 undef), .bool x, undef, undef, undef, undef, undef, undef, undef, undef, undef, undef, undef, undef, undef, undef, undef, undef, undef, undef, undef, undef, undef, undef, undef, undef, undef, undef, undef, undef, undef, undef, undef, undef, undef, undef, undef, undef, undef, undef, undef, undef, undef, undef, undef, undef, undef, undef, undef, undef, undef, undef, undef, undef, undef, undef, undef, undef, undef, undef, undef, undef, undef, undef, undef, undef, undef, undef, undef, undef, undef, undef, undef, undef, undef, undef, undef, undef, undef, undef, undef, undef, undef, undef, undef, undef, undef, undef, undef, undef, undef, undef, undef, undef, undef, undef, undef, undef, undef, undef, undef, undef, undef, undef, undef, undef, undef, undef, undef, undef, undef, undef, undef, undef, undef, undef, undef, undef, undef, undef, undef, undef], []⟩) : bR1 W v0 v1 v2 v5 v6 x a' W := bR1_mk (fun i => a'.tmps.getD i undef) h
def bR2 (W : World) (v0 v1 v2 v5 v6 : Value) (x : Bool) (a' : Act) (w' : World) : Prop :=
  W = w' ∧ ∃ u : Nat → Value, a' = ⟨#[v0, v1, v2, undef, .bool false, v5, v6, undef, undef, undef, u 10, u 11, u 12, u 13, u 14, u 15, u 16, u 17, u 18, u 19, u 20, u 21, u 22, u 23, u 24, u 25, u 26, u 27, u 28, u 29, u 30, u 31, u 32, u 33, u 34, u 35, u 36, u 37, u 38, u 39, u 40, .bool x, undef, undef, undef, undef, undef, undef, undef, undef, undef, undef, undef, undef, undef, undef, undef, undef, undef, undef, undef, undef, undef, undef, undef, undef, undef, undef, undef, undef, undef, undef, undef, undef, undef, undef, undef, undef, undef, undef, undef, undef, undef, undef, undef, undef, undef, undef, undef, undef, undef, undef, undef, undef, undef, undef, undef, undef, undef, undef, undef, undef, undef, undef, undef, undef, undef, undef, undef, undef, undef, undef, undef, undef, undef, undef, undef, undef, undef, undef, undef, undef, undef, undef, undef, undef, undef, undef, undef, undef, undef, undef, undef, undef, undef, undef, undef, undef, undef, undef, undef, undef, undef, undef, undef, undef, undef, undef, undef, undef, undef, undef], []⟩
theorem bR2_mk {W : World} {v0 v1 v2 v5 v6 : Value} {x : Bool} {a' : Act} (u : Nat → Value) (h : a' = ⟨#[v0, v1, v2, undef, .bool false, v5, v6, undef, undef, undef, u 10, u 11, u 12, u 13, u 14, u 15, u 16, u 17, u 18, u 19, u 20, u 21, u 22, u 23, u 24, u 25, u 26, u 27, u 28, u 29, u 30, u 31, u 32, u 33, u 34, u 35, u 36, u 37, u 38, u 39, u 40, .bool x, undef, undef, undef, undef, undef, undef, undef, undef, undef, undef, undef, undef, undef, undef, undef, undef, undef, undef, undef, undef, undef, undef, undef, undef, undef, undef, undef, undef, undef, undef, undef, undef, undef, undef, undef, undef, undef, undef, undef, undef, undef, undef, undef, undef, undef, undef, undef, undef, undef, undef, undef, undef, undef, undef, undef, undef, undef, undef, undef, undef, undef, undef, undef, undef, undef, undef, undef, undef, undef, undef, undef, undef, undef, undef, undef, undef, undef, undef, undef, undef, undef, undef, undef, undef, undef, undef, undef, undef, undef, undef, undef, undef, undef, undef, undef, undef, undef, undef, undef, undef, undef, undef, undef, undef, undef, undef, undef, undef, undef, undef], []⟩) : bR2 W v0 v1 v2 v5 v6 x a' W := ⟨rfl, u, h⟩
theorem bR2_of {W : World} {v0 v1 v2 v5 v6 : Value} {x : Bool} {a' : Act} (h : a' = ⟨#[v0, v1, v2, undef, .bool false, v5, v6, undef, undef, undef, (a'.tmps.getD 10 undef), (a'.tmps.getD 11 undef), (a'.tmps.getD 12 undef), (a'.tmps.getD 13 undef), (a'.tmps.getD 14 undef), (a'.tmps.getD 15 undef), (a'.tmps.getD 16 undef), (a'.tmps.getD 17 undef), (a'.tmps.getD 18 undef), (a'.tmps.getD 19 undef), (a'.tmps.getD 20 undef), (a'.tmps.getD 21 undef), (a'.tmps.getD 22 undef), (a'.tmps.getD 23 undef), (a'.tmps.getD 24 undef), (a'.tmps.getD 25 undef), (a'.tmps.getD 26 undef), (a'.tmps.getD 27 undef), (a'.tmps.getD 28 undef), (a'.tmps.getD 29 undef), (a'.tmps.getD 30 undef), (a'.tmps.getD 31 undef), (a'.tmps.getD 32 undef), (a'.tmps.getD 33 undef), (a'.tmps.getD 34 undef), (a'.tmps.getD 35 undef), (a'.tmps.getD 36 undef), (a'.tmps.getD 37 undef), (a'.tmps.getD 38 undef), (a'.tmps.getD 39 undef), (a'.tmps.getD 40 undef), .bool x, undef, undef, undef, undef, undef, undef, undef, undef, undef, undef, undef, undef, undef, undef, undef, undef, undef, undef, undef, undef, undef, undef, undef, undef, undef, undef, undef, undef, undef, undef, undef, undef, undef, undef, undef, undef, undef, undef, undef, undef, undef, undef, undef, undef, undef, undef, undef, undef, undef, undef, undef, undef, undef, undef, undef, undef, undef, undef, undef, undef, undef, undef, undef, undef, undef, undef, undef, undef, undef, undef, undef, undef, undef, undef, undef, undef, undef, undef, undef, undef, undef, undef, undef, undef, undef, undef, undef, undef, undef, undef, undef, undef, undef, undef, undef, undef, undef, undef, undef, undef, undef, undef, undef, undef, undef, undef, undef, undef, undef, undef], []⟩) : bR2 W v0 v1 v2 v5 v6 x a' W := bR2_mk (fun i => a'.tmps.getD i undef) h
def bR3 (W : World) (v0 v1 v2 v5 v6 : Value) (x : Bool) (a' : Act) (w' : World) : Prop :=
  W = w' ∧ ∃ u : Nat → Value, a' = ⟨#[v0, v1, v2, undef, .bool false, v5, v6, undef, undef, undef, u 10, u 11, u 12, u 13, u 14, u 15, u 16, u 17, u 18, u 19, u 20, u 21, u 22, u 23, u 24, u 25, u 26, u 27, u 28, u 29, u 30, u 31, u 32, u 33, u 34, u 35, u 36, u 37, u 38, u 39, u 40, u 41, u 42, u 43, u 44, u 45, u 46, u 47, u 48, u 49, u 50, .bool x, undef, undef, undef, undef, undef, undef, undef, undef, undef, undef, undef, undef, undef, undef, undef, undef, undef, undef, undef, undef, undef, undef, undef, undef, undef, undef, undef, undef, undef, undef, undef, undef, undef, undef, undef, undef, undef, undef, undef, undef, undef, undef, undef, undef, undef, undef, undef, undef, undef, undef, undef, undef, undef, undef, undef, undef, undef, undef, undef, undef, undef, undef, undef, undef, undef, undef, undef, undef, undef, undef, undef, undef, undef, undef, undef, undef, undef, undef, undef, undef, undef, undef, undef, undef, undef, undef, undef, undef, undef, undef, undef, undef, undef, undef, undef, undef, undef, undef, undef, undef], []⟩
theorem bR3_mk {W : World} {v0 v1 v2 v5 v6 : Value} {x : Bool} {a' : Act} (u : Nat → Value) (h : a' = ⟨#[v0, v1, v2, undef, .bool false, v5, v6, undef, undef, undef, u 10, u 11, u 12, u 13, u 14, u 15, u 16, u 17, u 18, u 19, u 20, u 21, u 22, u 23, u 24, u 25, u 26, u 27, u 28, u 29, u 30, u 31, u 32, u 33, u 34, u 35, u 36, u 37, u 38, u 39, u 40, u 41, u 42, u 43, u 44, u 45, u 46, u 47, u 48, u 49, u 50, .bool x, undef, undef, undef, undef, undef, undef, undef, undef, undef, undef, undef, undef, undef, undef, undef, undef, undef, undef, undef, undef, undef, undef, undef, undef, undef, undef, undef, undef, undef, undef, undef, undef, undef, undef, undef, undef, undef, undef, undef, undef, undef, undef, undef, undef, undef, undef, undef, undef, undef, undef, undef, undef, undef, undef, undef, undef, undef, undef, undef, undef, undef, undef, undef, undef, undef, undef, undef, undef, undef, undef, undef, undef, undef, undef, undef, undef, undef, undef, undef, undef, undef, undef, undef, undef, undef, undef, undef, undef, undef, undef, undef, undef, undef, undef, undef, undef, undef, undef, undef, undef], []⟩) : bR3 W v0 v1 v2 v5 v6 x a' W := ⟨rfl, u, h⟩
theorem bR3_of {W : World} {v0 v1 v2 v5 v6 : Value} {x : Bool} {a' : Act} (h : a' = ⟨#[v0, v1, v2, undef, .bool false, v5, v6, undef, undef, undef, (a'.tmps.getD 10 undef), (a'.tmps.getD 11 undef), (a'.tmps.getD 12 undef), (a'.tmps.getD 13 undef), (a'.tmps.getD 14 undef), (a'.tmps.getD 15 undef), (a'.tmps.getD 16 undef), (a'.tmps.getD 17 undef), (a'.tmps.getD 18 undef), (a'.tmps.getD 19 undef), (a'.tmps.getD 20 undef), (a'.tmps.getD 21 undef), (a'.tmps.getD 22 undef), (a'.tmps.getD 23 undef), (a'.tmps.getD 24 undef), (a'.tmps.getD 25 undef), (a'.tmps.getD 26 undef), (a'.tmps.getD 27 undef), (a'.tmps.getD 28 undef), (a'.tmps.getD 29 undef), (a'.tmps.getD 30 undef), (a'.tmps.getD 31 undef), (a'.tmps.getD 32 undef), (a'.tmps.getD 33 undef), (a'.tmps.getD 34 undef), (a'.tmps.getD 35 undef), (a'.tmps.getD 36 undef), (a'.tmps.getD 37 undef), (a'.tmps.getD 38 undef), (a'.tmps.getD 39 undef), (a'.tmps.getD 40 undef), (a'.tmps.getD 41 undef), (a'.tmps.getD 42 undef), (a'.tmps.getD 43 undef), (a'.tmps.getD 44 undef), (a'.tmps.getD 45 undef), (a'.tmps.getD 46 undef), (a'.tmps.getD 47 undef), (a'.tmps.getD 48 undef), (a'.tmps.getD 49 undef), (a'.tmps.getD 50 undef), .bool x, undef, undef, undef, undef, undef, undef, undef, undef, undef, undef, undef, undef, undef, undef, undef, undef, undef, undef, undef, undef, undef, undef, undef, undef, undef, undef, undef, undef, undef, undef, undef, undef, undef, undef, undef, undef, undef, undef, undef, undef, undef, undef, undef, undef, undef, undef, undef, undef, undef, undef, undef, undef, undef, undef, undef, undef, undef, undef, undef, undef, undef, undef, undef, undef, undef, undef, undef, undef, undef, undef, undef, undef, undef, undef, undef, undef, undef, undef, undef, undef, undef, undef, undef, undef, undef, undef, undef, undef, undef, undef, undef, undef, undef, undef, undef, undef, undef, undef, undef, undef], []⟩) : bR3 W v0 v1 v2 v5 v6 x a' W := bR3_mk (fun i => a'.tmps.getD i undef) h
def bR4 (W : World) (v0 v1 v2 v5 v6 : Value) (x : Bool) (a' : Act) (w' : World) : Prop :=
  W = w' ∧ ∃ u : Nat → Value, a' = ⟨#[v0, v1, v2, undef, .bool false, v5, v6, undef, undef, undef, u 10, u 11, u 12, u 13, u 14, u 15, u 16, u 17, u 18, u 19, u 20, u 21, u 22, u 23, u 24, u 25, u 26, u 27, u 28, u 29, u 30, u 31, u 32, u 33, u 34, u 35, u 36, u 37, u 38, u 39, u 40, u 41, u 42, u 43, u 44, u 45, u 46, u 47, u 48, u 49, u 50, u 51, u 52, u 53, u 54, u 55, u 56, u 57, u 58, u 59, u 60, .bool x, undef, undef, undef, undef, undef, undef, undef, undef, undef, undef, undef, undef, undef, undef, undef, undef, undef, undef, undef, undef, undef, undef, undef, undef, undef, undef, undef, undef, undef, undef, undef, undef, undef, undef, undef, undef, undef, undef, undef, undef, undef, undef, undef, undef, undef, undef, undef, undef, undef, undef, undef, undef, undef, undef, undef, undef, undef, undef, undef, undef, undef, undef, undef, undef, undef, undef, undef, undef, undef, undef, undef, undef, undef, undef, undef, undef, undef, undef, undef, undef, undef, undef, undef, undef, undef, undef, undef, undef, undef, undef], []⟩
theorem bR4_mk {W : World} {v0 v1 v2 v5 v6 : Value} {x : Bool} {a' : Act} (u : Nat → Value) (h : a' = ⟨#[v0, v1, v2, undef, .bool false, v5, v6, undef, undef, undef, u 10, u 11, u 12, u 13, u 14, u 15, u 16, u 17, u 18, u 19, u 20, u 21, u 22, u 23, u 24, u 25, u 26, u 27, u 28, u 29, u 30, u 31, u 32, u 33, u 34, u 35, u 36, u 37, u 38, u 39, u 40, u 41, u 42, u 43, u 44, u 45, u 46, u 47, u 48, u 49, u 50, u 51, u 52, u 53, u 54, u 55, u 56, u 57, u 58, u 59, u 60, .bool x, undef, undef, undef, undef, undef, undef, undef, undef, undef, undef, undef, undef, undef, undef, undef, undef, undef, undef, undef, undef, undef, undef, undef, undef, undef, undef, undef, undef, undef, undef, undef, undef, undef, undef, undef, undef, undef, undef, undef, undef, undef, undef, undef, undef, undef, undef, undef, undef, undef, undef, undef, undef, undef, undef, undef, undef, undef, undef, undef, undef, undef, undef, undef, undef, undef, undef, undef, undef, undef, undef, undef, undef, undef, undef, undef, undef, undef, undef, undef, undef, undef, undef, undef, undef, undef, undef, undef, undef, undef, undef], []⟩) : bR4 W v0 v1 v2 v5 v6 x a' W := ⟨rfl, u, h⟩
theorem bR4_of {W : World} {v0 v1 v2 v5 v6 : Value} {x : Bool} {a' : Act} (h : a' = ⟨#[v0, v1, v2, undef, .bool false, v5, v6, undef, undef, undef, (a'.tmps.getD 10 undef), (a'.tmps.getD 11 undef), (a'.tmps.getD 12 undef), (a'.tmps.getD 13 undef), (a'.tmps.getD 14 undef), (a'.tmps.getD 15 undef), (a'.tmps.getD 16 undef), (a'.tmps.getD 17 undef), (a'.tmps.getD 18 undef), (a'.tmps.getD 19 undef), (a'.tmps.getD 20 undef), (a'.tmps.getD 21 undef), (a'.tmps.getD 22 undef), (a'.tmps.getD 23 undef), (a'.tmps.getD 24 undef), (a'.tmps.getD 25 undef), (a'.tmps.getD 26 undef), (a'.tmps.getD 27 undef), (a'.tmps.getD 28 undef), (a'.tmps.getD 29 undef), (a'.tmps.getD 30 undef), (a'.tmps.getD 31 undef), (a'.tmps.getD 32 undef), (a'.tmps.getD 33 undef), (a'.tmps.getD 34 undef), (a'.tmps.getD 35 undef), (a'.tmps.getD 36 undef), (a'.tmps.getD 37 undef), (a'.tmps.getD 38 undef), (a'.tmps.getD 39 undef), (a'.tmps.getD 40 undef), (a'.tmps.getD 41 undef), (a'.tmps.getD 42 undef), (a'.tmps.getD 43 undef), (a'.tmps.getD 44 undef), (a'.tmps.getD 45 undef), (a'.tmps.getD 46 undef), (a'.tmps.getD 47 undef), (a'.tmps.getD 48 undef), (a'.tmps.getD 49 undef), (a'.tmps.getD 50 undef), (a'.tmps.getD 51 undef), (a'.tmps.getD 52 undef), (a'.tmps.getD 53 undef), (a'.tmps.getD 54 undef), (a'.tmps.getD 55 undef), (a'.tmps.getD 56 undef), (a'.tmps.getD 57 undef), (a'.tmps.getD 58 undef), (a'.tmps.getD 59 undef), (a'.tmps.getD 60 undef), .bool x, undef, undef, undef, undef, undef, undef, undef, undef, undef, undef, undef, undef, undef, undef, undef, undef, undef, undef, undef, undef, undef, undef, undef, undef, undef, undef, undef, undef, undef, undef, undef, undef, undef, undef, undef, undef, undef, undef, undef, undef, undef, undef, undef, undef, undef, undef, undef, undef, undef, undef, undef, undef, undef, undef, undef, undef, undef, undef, undef, undef, undef, undef, undef, undef, undef, undef, undef, undef, undef, undef, undef, undef, undef, undef, undef, undef, undef, undef, undef, undef, undef, undef, undef, undef, undef, undef, undef, undef, undef, undef], []⟩) : bR4 W v0 v1 v2 v5 v6 x a' W := bR4_mk (fun i => a'.tmps.getD i undef) h
def bR5 (W : World) (v0 v1 v2 v5 v6 : Value) (x : Bool) (a' : Act) (w' : World) : Prop :=
  W = w' ∧ ∃ u : Nat → Value, a' = ⟨#[v0, v1, v2, undef, .bool false, v5, v6, undef, undef, undef, u 10, u 11, u 12, u 13, u 14, u 15, u 16, u 17, u 18, u 19, u 20, u 21, u 22, u 23, u 24, u 25, u 26, u 27, u 28, u 29, u 30, u 31, u 32, u 33, u 34, u 35, u 36, u 37, u 38, u 39, u 40, u 41, u 42, u 43, u 44, u 45, u 46, u 47, u 48, u 49, u 50, u 51, u 52, u 53, u 54, u 55, u 56, u 57, u 58, u 59, u 60, u 61, u 62, u 63, u 64, u 65, u 66, u 67, u 68, u 69, u 70, .bool x, undef, undef, undef, undef, undef, undef, undef, undef, undef, undef, undef, undef, undef, undef, undef, undef, undef, undef, undef, undef, undef, undef, undef, undef, undef, undef, undef, undef, undef, undef, undef, undef, undef, undef, undef, undef, undef, undef, undef, undef, undef, undef, undef, undef, undef, undef, undef, undef, undef, undef, undef, undef, undef, undef, undef, undef, undef, undef, undef, undef, undef, undef, undef, undef, undef, undef, undef, undef, undef, undef, undef, undef, undef, undef, undef, undef, undef, undef, undef, undef], []⟩
theorem bR5_mk {W : World} {v0 v1 v2 v5 v6 : Value} {x : Bool} {a' : Act} (u : Nat → Value) (h : a' = ⟨#[v0, v1, v2, undef, .bool false, v5, v6, undef, undef, undef, u 10, u 11, u 12, u 13, u 14, u 15, u 16, u 17, u 18, u 19, u 20, u 21, u 22, u 23, u 24, u 25, u 26, u 27, u 28, u 29, u 30, u 31, u 32, u 33, u 34, u 35, u 36, u 37, u 38, u 39, u 40, u 41, u 42, u 43, u 44, u 45, u 46, u 47, u 48, u 49, u 50, u 51, u 52, u 53, u 54, u 55, u 56, u 57, u 58, u 59, u 60, u 61, u 62, u 63, u 64, u 65, u 66, u 67, u 68, u 69, u 70, .bool x, undef, undef, undef, undef, undef, undef, undef, undef, undef, undef, undef, undef, undef, undef, undef, undef, undef, undef, undef, undef, undef, undef, undef, undef, undef, undef, undef, undef, undef, undef, undef, undef, undef, undef, undef, undef, undef, undef, undef, undef, undef, undef, undef, undef, undef, undef, undef, undef, undef, undef, undef, undef, undef, undef, undef, undef, undef, undef, undef, undef, undef, undef, undef, undef, undef, undef, undef, undef, undef, undef, undef, undef, undef, undef, undef, undef, undef, undef, undef, undef], []⟩) : bR5 W v0 v1 v2 v5 v6 x a' W := ⟨rfl, u, h⟩
theorem bR5_of {W : World} {v0 v1 v2 v5 v6 : Value} {x : Bool} {a' : Act} (h : a' = ⟨#[v0, v1, v2, undef, .bool false, v5, v6, undef, undef, undef, (a'.tmps.getD 10 undef), (a'.tmps.getD 11 undef), (a'.tmps.getD 12 undef), (a'.tmps.getD 13 undef), (a'.tmps.getD 14 undef), (a'.tmps.getD 15 undef), (a'.tmps.getD 16 undef), (a'.tmps.getD 17 undef), (a'.tmps.getD 18 undef), (a'.tmps.getD 19 undef), (a'.tmps.getD 20 undef), (a'.tmps.getD 21 undef), (a'.tmps.getD 22 undef), (a'.tmps.getD 23 undef), (a'.tmps.getD 24 undef), (a'.tmps.getD 25 undef), (a'.tmps.getD 26 undef), (a'.tmps.getD 27 undef), (a'.tmps.getD 28 undef), (a'.tmps.getD 29 undef), (a'.tmps.getD 30 undef), (a'.tmps.getD 31 undef), (a'.tmps.getD 32 undef), (a'.tmps.getD 33 undef), (a'.tmps.getD 34 undef), (a'.tmps.getD 35 undef), (a'.tmps.getD 36 undef), (a'.tmps.getD 37 undef), (a'.tmps.getD 38 undef), (a'.tmps.getD 39 undef), (a'.tmps.getD 40 undef), (a'.tmps.getD 41 undef), (a'.tmps.getD 42 undef), (a'.tmps.getD 43 undef), (a'.tmps.getD 44 undef), (a'.tmps.getD 45 undef), (a'.tmps.getD 46 undef), (a'.tmps.getD 47 undef), (a'.tmps.getD 48 undef), (a'.tmps.getD 49 undef), (a'.tmps.getD 50 undef), (a'.tmps.getD 51 undef), (a'.tmps.getD 52 undef), (a'.tmps.getD 53 undef), (a'.tmps.getD 54 undef), (a'.tmps.getD 55 undef), (a'.tmps.getD 56 undef), (a'.tmps.getD 57 undef), (a'.tmps.getD 58 undef), (a'.tmps.getD 59 undef), (a'.tmps.getD 60 undef), (a'.tmps.getD 61 undef), (a'.tmps.getD 62 undef), (a'.tmps.getD 63 undef), (a'.tmps.getD 64 undef), (a'.tmps.getD 65 undef), (a'.tmps.getD 66 undef), (a'.tmps.getD 67 undef), (a'.tmps.getD 68 undef), (a'.tmps.getD 69 undef), (a'.tmps.getD 70 undef), .bool x, undef, undef, undef, undef, undef, undef, undef, undef, undef, undef, undef, undef, undef, undef, undef, undef, undef, undef, undef, undef, undef, undef, undef, undef, undef, undef, undef, undef, undef, undef, undef, undef, undef, undef, undef, undef, undef, undef, undef, undef, undef, undef, undef, undef, undef, undef, undef, undef, undef, undef, undef, undef, undef, undef, undef, undef, undef, undef, undef, undef, undef, undef, undef, undef, undef, undef, undef, undef, undef, undef, undef, undef, undef, undef, undef, undef, undef, undef, undef, undef], []⟩) : bR5 W v0 v1 v2 v5 v6 x a' W := bR5_mk (fun i => a'.tmps.getD i undef) h
def bR6 (W : World) (v0 v1 v2 v5 v6 : Value) (x : Bool) (a' : Act) (w' : World) : Prop :=
  W = w' ∧ ∃ u : Nat → Value, a' = ⟨#[v0, v1, v2, undef, .bool false, v5, v6, undef, undef, undef, u 10, u 11, u 12, u 13, u 14, u 15, u 16, u 17, u 18, u 19, u 20, u 21, u 22, u 23, u 24, u 25, u 26, u 27, u 28, u 29, u 30, u 31, u 32, u 33, u 34, u 35, u 36, u 37, u 38, u 39, u 40, u 41, u 42, u 43, u 44, u 45, u 46, u 47, u 48, u 49, u 50, u 51, u 52, u 53, u 54, u 55, u 56, u 57, u 58, u 59, u 60, u 61, u 62, u 63, u 64, u 65, u 66, u 67, u 68, u 69, u 70, u 71, u 72, u 73, u 74, u 75, u 76, u 77, u 78, u 79, u 80, .bool x, undef, undef, undef, undef, undef, undef, undef, undef, undef, undef, undef, undef, undef, undef, undef, undef, undef, undef, undef, undef, undef, undef, undef, undef, undef, undef, undef, undef, undef, undef, undef, undef, undef, undef, undef, undef, undef, undef, undef, undef, undef, undef, undef, undef, undef, undef, undef, undef, undef, undef, undef, undef, undef, undef, undef, undef, undef, undef, undef, undef, undef, undef, undef, undef, undef, undef, undef, undef, undef, undef], []⟩
theorem bR6_mk {W : World} {v0 v1 v2 v5 v6 : Value} {x : Bool} {a' : Act} (u : Nat → Value) (h : a' = ⟨#[v0, v1, v2, undef, .bool false, v5, v6, undef, undef, undef, u 10, u 11, u 12, u 13, u 14, u 15, u 16, u 17, u 18, u 19, u 20, u 21, u 22, u 23, u 24, u 25, u 26, u 27, u 28, u 29, u 30, u 31, u 32, u 33, u 34, u 35, u 36, u 37, u 38, u 39, u 40, u 41, u 42, u 43, u 44, u 45, u 46, u 47, u 48, u 49, u 50, u 51, u 52, u 53, u 54, u 55, u 56, u 57, u 58, u 59, u 60, u 61, u 62, u 63, u 64, u 65, u 66, u 67, u 68, u 69, u 70, u 71, u 72, u 73, u 74, u 75, u 76, u 77, u 78, u 79, u 80, .bool x, undef, undef, undef, undef, undef, undef, undef, undef, undef, undef, undef, undef, undef, undef, undef, undef, undef, undef, undef, undef, undef, undef, undef, undef, undef, undef, undef, undef, undef, undef, undef, undef, undef, undef, undef, undef, undef, undef, undef, undef, undef, undef, undef, undef, undef, undef, undef, undef, undef, undef, undef, undef, undef, undef, undef, undef, undef, undef, undef, undef, undef, undef, undef, undef, undef, undef, undef, undef, undef, undef], []⟩) : bR6 W v0 v1 v2 v5 v6 x a' W := ⟨rfl, u, h⟩
theorem bR6_of {W : World} {v0 v1 v2 v5 v6 : Value} {x : Bool} {a' : Act} (h : a' = ⟨#[v0, v1, v2, undef, .bool false, v5, v6, undef, undef, undef, (a'.tmps.getD 10 undef), (a'.tmps.getD 11 undef), (a'.tmps.getD 12 undef), (a'.tmps.getD 13 undef), (a'.tmps.getD 14 undef), (a'.tmps.getD 15 undef), (a'.tmps.getD 16 undef), (a'.tmps.getD 17 undef), (a'.tmps.getD 18 undef), (a'.tmps.getD 19 undef), (a'.tmps.getD 20 undef), (a'.tmps.getD 21 undef), (a'.tmps.getD 22 undef), (a'.tmps.getD 23 undef), (a'.tmps.getD 24 undef), (a'.tmps.getD 25 undef), (a'.tmps.getD 26 undef), (a'.tmps.getD 27 undef), (a'.tmps.getD 28 undef), (a'.tmps.getD 29 undef), (a'.tmps.getD 30 undef), (a'.tmps.getD 31 undef), (a'.tmps.getD 32 undef), (a'.tmps.getD 33 undef), (a'.tmps.getD 34 undef), (a'.tmps.getD 35 undef), (a'.tmps.getD 36 undef), (a'.tmps.getD 37 undef), (a'.tmps.getD 38 undef), (a'.tmps.getD 39 undef), (a'.tmps.getD 40 undef), (a'.tmps.getD 41 undef), (a'.tmps.getD 42 undef), (a'.tmps.getD 43 undef), (a'.tmps.getD 44 undef), (a'.tmps.getD 45 undef), (a'.tmps.getD 46 undef), (a'.tmps.getD 47 undef), (a'.tmps.getD 48 undef), (a'.tmps.getD 49 undef), (a'.tmps.getD 50 undef), (a'.tmps.getD 51 undef), (a'.tmps.getD 52 undef), (a'.tmps.getD 53 undef), (a'.tmps.getD 54 undef), (a'.tmps.getD 55 undef), (a'.tmps.getD 56 undef), (a'.tmps.getD 57 undef), (a'.tmps.getD 58 undef), (a'.tmps.getD 59 undef), (a'.tmps.getD 60 undef), (a'.tmps.getD 61 undef), (a'.tmps.getD 62 undef), (a'.tmps.getD 63 undef), (a'.tmps.getD 64 undef), (a'.tmps.getD 65 undef), (a'.tmps.getD 66 undef), (a'.tmps.getD 67 undef), (a'.tmps.getD 68 undef), (a'.tmps.getD 69 undef), (a'.tmps.getD 70 undef), (a'.tmps.getD 71 undef), (a'.tmps.getD 72 undef), (a'.tmps.getD 73 undef), (a'.tmps.getD 74 undef), (a'.tmps.getD 75 undef), (a'.tmps.getD 76 undef), (a'.tmps.getD 77 undef), (a'.tmps.getD 78 undef), (a'.tmps.getD 79 undef), (a'.tmps.getD 80 undef), .bool x, undef, undef, undef, undef, undef, undef, undef, undef, undef, undef, undef, undef, undef, undef, undef, undef, undef, undef, undef, undef, undef, undef, undef, undef, undef, undef, undef, undef, undef, undef, undef, undef, undef, undef, undef, undef, undef, undef, undef, undef, undef, undef, undef, undef, undef, undef, undef, undef, undef, undef, undef, undef, undef, undef, undef, undef, undef, undef, undef, undef, undef, undef, undef, undef, undef, undef, undef, undef, undef, undef], []⟩) : bR6 W v0 v1 v2 v5 v6 x a' W := bR6_mk (fun i => a'.tmps.getD i undef) h
def bR7 (W : World) (v0 v1 v2 v5 v6 : Value) (x : Bool) (a' : Act) (w' : World) : Prop :=
  W = w' ∧ ∃ u : Nat → Value, a' = ⟨#[v0, v1, v2, undef, .bool false, v5, v6, undef, undef, undef, u 10, u 11, u 12, u 13, u 14, u 15, u 16, u 17, u 18, u 19, u 20, u 21, u 22, u 23, u 24, u 25, u 26, u 27, u 28, u 29, u 30, u 31, u 32, u 33, u 34, u 35, u 36, u 37, u 38, u 39, u 40, u 41, u 42, u 43, u 44, u 45, u 46, u 47, u 48, u 49, u 50, u 51, u 52, u 53, u 54, u 55, u 56, u 57, u 58, u 59, u 60, u 61, u 62, u 63, u 64, u 65, u 66, u 67, u 68, u 69, u 70, u 71, u 72, u 73, u 74, u 75, u 76, u 77, u 78, u 79, u 80, u 81, u 82, u 83, u 84, u 85, u 86, u 87, u 88, u 89, .bool x, undef, undef, undef, undef, undef, undef, undef, undef, undef, undef, undef, undef, undef, undef, undef, undef, undef, undef, undef, undef, undef, undef, undef, undef, undef, undef, undef, undef, undef, undef, undef, undef, undef, undef, undef, undef, undef, undef, undef, undef, undef, undef, undef, undef, undef, undef, undef, undef, undef, undef, undef, undef, undef, undef, undef, undef, undef, undef, undef, undef, undef], []⟩
theorem bR7_mk {W : World} {v0 v1 v2 v5 v6 : Value} {x : Bool} {a' : Act} (u : Nat → Value) (h : a' = ⟨#[v0, v1, v2, undef, .bool false, v5, v6, undef, undef, undef, u 10, u 11, u 12, u 13, u 14, u 15, u 16, u 17, u 18, u 19, u 20, u 21, u 22, u 23, u 24, u 25, u 26, u 27, u 28, u 29, u 30, u 31, u 32, u 33, u 34, u 35, u 36, u 37, u 38, u 39, u 40, u 41, u 42, u 43, u 44, u 45, u 46, u 47, u 48, u 49, u 50, u 51, u 52, u 53, u 54, u 55, u 56, u 57, u 58, u 59, u 60, u 61, u 62, u 63, u 64, u 65, u 66, u 67, u 68, u 69, u 70, u 71, u 72, u 73, u 74, u 75, u 76, u 77, u 78, u 79, u 80, u 81, u 82, u 83, u 84, u 85, u 86, u 87, u 88, u 89, .bool x, undef, undef, undef, undef, undef, undef, undef, undef, undef, undef, undef, undef, undef, undef, undef, undef, undef, undef, undef, undef, undef, undef, undef, undef, undef, undef, undef, undef, undef, undef, undef, undef, undef, undef, undef, undef, undef, undef, undef, undef, undef, undef, undef, undef, undef, undef, undef, undef, undef, undef, undef, undef, undef, undef, undef, undef, undef, undef, undef, undef, undef], []⟩) : bR7 W v0 v1 v2 v5 v6 x a' W := ⟨rfl, u, h⟩
theorem bR7_of {W : World} {v0 v1 v2 v5 v6 : Value} {x : Bool} {a' : Act} (h : a' = ⟨#[v0, v1, v2, undef, .bool false, v5, v6, undef, undef, undef, (a'.tmps.getD 10 undef), (a'.tmps.getD 11 undef), (a'.tmps.getD 12 undef), (a'.tmps.getD 13 undef), (a'.tmps.getD 14 undef), (a'.tmps.getD 15 undef), (a'.tmps.getD 16 undef), (a'.tmps.getD 17 undef), (a'.tmps.getD 18 undef), (a'.tmps.getD 19 undef), (a'.tmps.getD 20 undef), (a'.tmps.getD 21 undef), (a'.tmps.getD 22 undef), (a'.tmps.getD 23 undef), (a'.tmps.getD 24 undef), (a'.tmps.getD 25 undef), (a'.tmps.getD 26 undef), (a'.tmps.getD 27 undef), (a'.tmps.getD 28 undef), (a'.tmps.getD 29 undef), (a'.tmps.getD 30 undef), (a'.tmps.getD 31 undef), (a'.tmps.getD 32 undef), (a'.tmps.getD 33 undef), (a'.tmps.getD 34 undef), (a'.tmps.getD 35 undef), (a'.tmps.getD 36 undef), (a'.tmps.getD 37 undef), (a'.tmps.getD 38 undef), (a'.tmps.getD 39 undef), (a'.tmps.getD 40 undef), (a'.tmps.getD 41 undef), (a'.tmps.getD 42 undef), (a'.tmps.getD 43 undef), (a'.tmps.getD 44 undef), (a'.tmps.getD 45 undef), (a'.tmps.getD 46 undef), (a'.tmps.getD 47 undef), (a'.tmps.getD 48 undef), (a'.tmps.getD 49 undef), (a'.tmps.getD 50 undef), (a'.tmps.getD 51 undef), (a'.tmps.getD 52 undef), (a'.tmps.getD 53 undef), (a'.tmps.getD 54 undef), (a'.tmps.getD 55 undef), (a'.tmps.getD 56 undef), (a'.tmps.getD 57 undef), (a'.tmps.getD 58 undef), (a'.tmps.getD 59 undef), (a'.tmps.getD 60 undef), (a'.tmps.getD 61 undef), (a'.tmps.getD 62 undef), (a'.tmps.getD 63 undef), (a'.tmps.getD 64 undef), (a'.tmps.getD 65 undef), (a'.tmps.getD 66 undef), (a'.tmps.getD 67 undef), (a'.tmps.getD 68 undef), (a'.tmps.getD 69 undef), (a'.tmps.getD 70 undef), (a'.tmps.getD 71 undef), (a'.tmps.getD 72 undef), (a'.tmps.getD 73 undef), (a'.tmps.getD 74 undef), (a'.tmps.getD 75 undef), (a'.tmps.getD 76 undef), (a'.tmps.getD 77 undef), (a'.tmps.getD 78 undef), (a'.tmps.getD 79 undef), (a'.tmps.getD 80 undef), (a'.tmps.getD 81 undef), (a'.tmps.getD 82 undef), (a'.tmps.getD 83 undef), (a'.tmps.getD 84 undef), (a'.tmps.getD 85 undef), (a'.tmps.getD 86 undef), (a'.tmps.getD 87 undef), (a'.tmps.getD 88 undef), (a'.tmps.getD 89 undef), .bool x, undef, undef, undef, undef, undef, undef, undef, undef, undef, undef, undef, undef, undef, undef, undef, undef, undef, undef, undef, undef, undef, undef, undef, undef, undef, undef, undef, undef, undef, undef, undef, undef, undef, undef, undef, undef, undef, undef, undef, undef, undef, undef, undef, undef, undef, undef, undef, undef, undef, undef, undef, undef, undef, undef, undef, undef, undef, undef, undef, undef, undef], []⟩) : bR7 W v0 v1 v2 v5 v6 x a' W := bR7_mk (fun i => a'.tmps.getD i undef) h
def bR8 (W : World) (v0 v1 v2 v5 v6 : Value) (x : Bool) (a' : Act) (w' : World) : Prop :=
  W = w' ∧ ∃ u : Nat → Value, a' = ⟨#[v0, v1, v2, undef, .bool false, v5, v6, undef, undef, undef, u 10, u 11, u 12, u 13, u 14, u 15, u 16, u 17, u 18, u 19, u 20, u 21, u 22, u 23, u 24, u 25, u 26, u 27, u 28, u 29, u 30, u 31, u 32, u 33, u 34, u 35, u 36, u 37, u 38, u 39, u 40, u 41, u 42, u 43, u 44, u 45, u 46, u 47, u 48, u 49, u 50, u 51, u 52, u 53, u 54, u 55, u 56, u 57, u 58, u 59, u 60, u 61, u 62, u 63, u 64, u 65, u 66, u 67, u 68, u 69, u 70, u 71, u 72, u 73, u 74, u 75, u 76, u 77, u 78, u 79, u 80, u 81, u 82, u 83, u 84, u 85, u 86, u 87, u 88, u 89, u 90, u 91, u 92, u 93, u 94, u 95, u 96, u 97, u 98, u 99, .bool x, undef, undef, undef, undef, undef, undef, undef, undef, undef, undef, undef, undef, undef, undef, undef, undef, undef, undef, undef, undef, undef, undef, undef, undef, undef, undef, undef, undef, undef, undef, undef, undef, undef, undef, undef, undef, undef, undef, undef, undef, undef, undef, undef, undef, undef, undef, undef, undef, undef, undef, undef], []⟩
theorem bR8_mk {W : World} {v0 v1 v2 v5 v6 : Value} {x : Bool} {a' : Act} (u : Nat → Value) (h : a' = ⟨#[v0, v1, v2, undef, .bool false, v5, v6, undef, undef, undef, u 10, u 11, u 12, u 13, u 14, u 15, u 16, u 17, u 18, u 19, u 20, u 21, u 22, u 23, u 24, u 25, u 26, u 27, u 28, u 29, u 30, u 31, u 32, u 33, u 34, u 35, u 36, u 37, u 38, u 39, u 40, u 41, u 42, u 43, u 44, u 45, u 46, u 47, u 48, u 49, u 50, u 51, u 52, u 53, u 54, u 55, u 56, u 57, u 58, u 59, u 60, u 61, u 62, u 63, u 64, u 65, u 66, u 67, u 68, u 69, u 70, u 71, u 72, u 73, u 74, u 75, u 76, u 77, u 78, u 79, u 80, u 81, u 82, u 83, u 84, u 85, u 86, u 87, u 88, u 89, u 90, u 91, u 92, u 93, u 94, u 95, u 96, u 97, u 98, u 99, .bool x, undef, undef, undef, undef, undef, undef, undef, undef, undef, undef, undef, undef, undef, undef, undef, undef, undef, undef, undef, undef, undef, undef, undef, undef, undef, undef, undef, undef, undef, undef, undef, undef, undef, undef, undef, undef, undef, undef, undef, undef, undef, undef, undef, undef, undef, undef, undef, undef, undef, undef, undef], []⟩) : bR8 W v0 v1 v2 v5 v6 x a' W := ⟨rfl, u, h⟩
theorem bR8_of {W : World} {v0 v1 v2 v5 v6 : Value} {x : Bool} {a' : Act} (h : a' = ⟨#[v0, v1, v2, undef, .bool false, v5, v6, undef, undef, undef, (a'.tmps.getD 10 undef), (a'.tmps.getD 11 undef), (a'.tmps.getD 12 undef), (a'.tmps.getD 13 undef), (a'.tmps.getD 14 undef), (a'.tmps.getD 15 undef), (a'.tmps.getD 16 undef), (a'.tmps.getD 17 undef), (a'.tmps.getD 18 undef), (a'.tmps.getD 19 undef), (a'.tmps.getD 20 undef), (a'.tmps.getD 21 undef), (a'.tmps.getD 22 undef), (a'.tmps.getD 23 undef), (a'.tmps.getD 24 undef), (a'.tmps.getD 25 undef), (a'.tmps.getD 26 undef), (a'.tmps.getD 27 undef), (a'.tmps.getD 28 undef), (a'.tmps.getD 29 undef), (a'.tmps.getD 30 undef), (a'.tmps.getD 31 undef), (a'.tmps.getD 32 undef), (a'.tmps.getD 33 undef), (a'.tmps.getD 34 undef), (a'.tmps.getD 35 undef), (a'.tmps.getD 36 undef), (a'.tmps.getD 37 undef), (a'.tmps.getD 38 undef), (a'.tmps.getD 39 undef), (a'.tmps.getD 40 undef), (a'.tmps.getD 41 undef), (a'.tmps.getD 42 undef), (a'.tmps.getD 43 undef), (a'.tmps.getD 44 undef), (a'.tmps.getD 45 undef), (a'.tmps.getD 46 undef), (a'.tmps.getD 47 undef), (a'.tmps.getD 48 undef), (a'.tmps.getD 49 undef), (a'.tmps.getD 50 undef), (a'.tmps.getD 51 undef), (a'.tmps.getD 52 undef), (a'.tmps.getD 53 undef), (a'.tmps.getD 54 undef), (a'.tmps.getD 55 undef), (a'.tmps.getD 56 undef), (a'.tmps.getD 57 undef), (a'.tmps.getD 58 undef), (a'.tmps.getD 59 undef), (a'.tmps.getD 60 undef), (a'.tmps.getD 61 undef), (a'.tmps.getD 62 undef), (a'.tmps.getD 63 undef), (a'.tmps.getD 64 undef), (a'.tmps.getD 65 undef), (a'.tmps.getD 66 undef), (a'.tmps.getD 67 undef), (a'.tmps.getD 68 undef), (a'.tmps.getD 69 undef), (a'.tmps.getD 70 undef), (a'.tmps.getD 71 undef), (a'.tmps.getD 72 undef), (a'.tmps.getD 73 undef), (a'.tmps.getD 74 undef), (a'.tmps.getD 75 undef), (a'.tmps.getD 76 undef), (a'.tmps.getD 77 undef), (a'.tmps.getD 78 undef), (a'.tmps.getD 79 undef), (a'.tmps.getD 80 undef), (a'.tmps.getD 81 undef), (a'.tmps.getD 82 undef), (a'.tmps.getD 83 undef), (a'.tmps.getD 84 undef), (a'.tmps.getD 85 undef), (a'.tmps.getD 86 undef), (a'.tmps.getD 87 undef), (a'.tmps.getD 88 undef), (a'.tmps.getD 89 undef), (a'.tmps.getD 90 undef), (a'.tmps.getD 91 undef), (a'.tmps.getD 92 undef), (a'.tmps.getD 93 undef), (a'.tmps.getD 94 undef), (a'.tmps.getD 95 undef), (a'.tmps.getD 96 undef), (a'.tmps.getD 97 undef), (a'.tmps.getD 98 undef), (a'.tmps.getD 99 undef), .bool x, undef, undef, undef, undef, undef, undef, undef, undef, undef, undef, undef, undef, undef, undef, undef, undef, undef, undef, undef, undef, undef, undef, undef, undef, undef, undef, undef, undef, undef, undef, undef, undef, undef, undef, undef, undef, undef, undef, undef, undef, undef, undef, undef, undef, undef, undef, undef, undef, undef, undef, undef], []⟩) : bR8 W v0 v1 v2 v5 v6 x a' W := bR8_mk (fun i => a'.tmps.getD i undef) h
def bR9 (W : World) (v0 v1 v2 v5 v6 : Value) (x : Bool) (a' : Act) (w' : World) : Prop :=
  W = w' ∧ ∃ u : Nat → Value, a' = ⟨#[v0, v1, v2, undef, .bool false, v5, v6, undef, undef, undef, u 10, u 11, u 12, u 13, u 14, u 15, u 16, u 17, u 18, u 19, u 20, u 21, u 22, u 23, u 24, u 25, u 26, u 27, u 28, u 29, u 30, u 31, u 32, u 33, u 34, u 35, u 36, u 37, u 38, u 39, u 40, u 41, u 42, u 43, u 44, u 45, u 46, u 47, u 48, u 49, u 50, u 51, u 52, u 53, u 54, u 55, u 56, u 57, u 58, u 59, u 60, u 61, u 62, u 63, u 64, u 65, u 66, u 67, u 68, u 69, u 70, u 71, u 72, u 73, u 74, u 75, u 76, u 77, u 78, u 79, u 80, u 81, u 82, u 83, u 84, u 85, u 86, u 87, u 88, u 89, u 90, u 91, u 92, u 93, u 94, u 95, u 96, u 97, u 98, u 99, u 100, u 101, u 102, u 103, u 104, u 105, u 106, u 107, u 108, u 109, u 110, .bool x, undef, undef, undef, undef, undef, undef, undef, undef, undef, undef, undef, undef, undef, undef, undef, undef, undef, undef, undef, undef, undef, undef, undef, undef, undef, undef, undef, undef, undef, undef, undef, undef, undef, undef, undef, undef, undef, undef, undef, undef], []⟩
theorem bR9_mk {W : World} {v0 v1 v2 v5 v6 : Value} {x : Bool} {a' : Act} (u : Nat → Value) (h : a' = ⟨#[v0, v1, v2, undef, .bool false, v5, v6, undef, undef, undef, u 10, u 11, u 12, u 13, u 14, u 15, u 16, u 17, u 18, u 19, u 20, u 21, u 22, u 23, u 24, u 25, u 26, u 27, u 28, u 29, u 30, u 31, u 32, u 33, u 34, u 35, u 36, u 37, u 38, u 39, u 40, u 41, u 42, u 43, u 44, u 45, u 46, u 47, u 48, u 49, u 50, u 51, u 52, u 53, u 54, u 55, u 56, u 57, u 58, u 59, u 60, u 61, u 62, u 63, u 64, u 65, u 66, u 67, u 68, u 69, u 70, u 71, u 72, u 73, u 74, u 75, u 76, u 77, u 78, u 79, u 80, u 81, u 82, u 83, u 84, u 85, u 86, u 87, u 88, u 89, u 90, u 91, u 92, u 93, u 94, u 95, u 96, u 97, u 98, u 99, u 100, u 101, u 102, u 103, u 104, u 105, u 106, u 107, u 108, u 109, u 110, .bool x, undef, undef, undef, undef, undef, undef, undef, undef, undef, undef, undef, undef, undef, undef, undef, undef, undef, undef, undef, undef, undef, undef, undef, undef, undef, undef, undef, undef, undef, undef, undef, undef, undef, undef, undef, undef, undef, undef, undef, undef], []⟩) : bR9 W v0 v1 v2 v5 v6 x a' W := ⟨rfl, u, h⟩
theorem bR9_of {W : World} {v0 v1 v2 v5 v6 : Value} {x : Bool} {a' : Act} (h : a' = ⟨#[v0, v1, v2, undef, .bool false, v5, v6, undef, undef, undef, (a'.tmps.getD 10 undef), (a'.tmps.getD 11 undef), (a'.tmps.getD 12 undef), (a'.tmps.getD 13 undef), (a'.tmps.getD 14 undef), (a'.tmps.getD 15 undef), (a'.tmps.getD 16 undef), (a'.tmps.getD 17 undef), (a'.tmps.getD 18 undef), (a'.tmps.getD 19 undef), (a'.tmps.getD 20 undef), (a'.tmps.getD 21 undef), (a'.tmps.getD 22 undef), (a'.tmps.getD 23 undef), (a'.tmps.getD 24 undef), (a'.tmps.getD 25 undef), (a'.tmps.getD 26 undef), (a'.tmps.getD 27 undef), (a'.tmps.getD 28 undef), (a'.tmps.getD 29 undef), (a'.tmps.getD 30 undef), (a'.tmps.getD 31 undef), (a'.tmps.getD 32 undef), (a'.tmps.getD 33 undef), (a'.tmps.getD 34 undef), (a'.tmps.getD 35 undef), (a'.tmps.getD 36 undef), (a'.tmps.getD 37 undef), (a'.tmps.getD 38 undef), (a'.tmps.getD 39 undef), (a'.tmps.getD 40 undef), (a'.tmps.getD 41 undef), (a'.tmps.getD 42 undef), (a'.tmps.getD 43 undef), (a'.tmps.getD 44 undef), (a'.tmps.getD 45 undef), (a'.tmps.getD 46 undef), (a'.tmps.getD 47 undef), (a'.tmps.getD 48 undef), (a'.tmps.getD 49 undef), (a'.tmps.getD 50 undef), (a'.tmps.getD 51 undef), (a'.tmps.getD 52 undef), (a'.tmps.getD 53 undef), (a'.tmps.getD 54 undef), (a'.tmps.getD 55 undef), (a'.tmps.getD 56 undef), (a'.tmps.getD 57 undef), (a'.tmps.getD 58 undef), (a'.tmps.getD 59 undef), (a'.tmps.getD 60 undef), (a'.tmps.getD 61 undef), (a'.tmps.getD 62 undef), (a'.tmps.getD 63 undef), (a'.tmps.getD 64 undef), (a'.tmps.getD 65 undef), (a'.tmps.getD 66 undef), (a'.tmps.getD 67 undef), (a'.tmps.getD 68 undef), (a'.tmps.getD 69 undef), (a'.tmps.getD 70 undef), (a'.tmps.getD 71 undef), (a'.tmps.getD 72 undef), (a'.tmps.getD 73 undef), (a'.tmps.getD 74 undef), (a'.tmps.getD 75 undef), (a'.tmps.getD 76 undef), (a'.tmps.getD 77 undef), (a'.tmps.getD 78 undef), (a'.tmps.getD 79 undef), (a'.tmps.getD 80 undef), (a'.tmps.getD 81 undef), (a'.tmps.getD 82 undef), (a'.tmps.getD 83 undef), (a'.tmps.getD 84 undef), (a'.tmps.getD 85 undef), (a'.tmps.getD 86 undef), (a'.tmps.getD 87 undef), (a'.tmps.getD 88 undef), (a'.tmps.getD 89 undef), (a'.tmps.getD 90 undef), (a'.tmps.getD 91 undef), (a'.tmps.getD 92 undef), (a'.tmps.getD 93 undef), (a'.tmps.getD 94 undef), (a'.tmps.getD 95 undef), (a'.tmps.getD 96 undef), (a'.tmps.getD 97 undef), (a'.tmps.getD 98 undef), (a'.tmps.getD 99 undef), (a'.tmps.getD 100 undef), (a'.tmps.getD 101 undef), (a'.tmps.getD 102 undef), (a'.tmps.getD 103 undef), (a'.tmps.getD 104 undef), (a'.tmps.getD 105 undef), (a'.tmps.getD 106 undef), (a'.tmps.getD 107 undef), (a'.tmps.getD 108 undef), (a'.tmps.getD 109 undef), (a'.tmps.getD 110 undef), .bool x, undef, undef, undef, undef, undef, undef, undef, undef, undef, undef, undef, undef, undef, undef, undef, undef, undef, undef, undef, undef, undef, undef, undef, undef, undef, undef, undef, undef, undef, undef, undef, undef, undef, undef, undef, undef, undef, undef, undef, undef], []⟩) : bR9 W v0 v1 v2 v5 v6 x a' W := bR9_mk (fun i => a'.tmps.getD i undef) h
def bR10 (W : World) (v0 v1 v2 v5 v6 : Value) (x : Bool) (a' : Act) (w' : World) : Prop :=
  W = w' ∧ ∃ u : Nat → Value, a' = ⟨#[v0, v1, v2, undef, .bool false, v5, v6, .bool x, undef, undef, u 10, u 11, u 12, u 13, u 14, u 15, u 16, u 17, u 18, u 19, u 20, u 21, u 22, u 23, u 24, u 25, u 26, u 27, u 28, u 29, u 30, u 31, u 32, u 33, u 34, u 35, u 36, u 37, u 38, u 39, u 40, u 41, u 42, u 43, u 44, u 45, u 46, u 47, u 48, u 49, u 50, u 51, u 52, u 53, u 54, u 55, u 56, u 57, u 58, u 59, u 60, u 61, u 62, u 63, u 64, u 65, u 66, u 67, u 68, u 69, u 70, u 71, u 72, u 73, u 74, u 75, u 76, u 77, u 78, u 79, u 80, u 81, u 82, u 83, u 84, u 85, u 86, u 87, u 88, u 89, u 90, u 91, u 92, u 93, u 94, u 95, u 96, u 97, u 98, u 99, u 100, u 101, u 102, u 103, u 104, u 105, u 106, u 107, u 108, u 109, u 110, u 111, u 112, u 113, u 114, u 115, u 116, u 117, u 118, u 119, u 120, u 121, undef, undef, undef, undef, undef, undef, undef, undef, undef, undef, undef, undef, undef, undef, undef, undef, undef, undef, undef, undef, undef, undef, undef, undef, undef, undef, undef, undef, undef, undef], []⟩
theorem bR10_mk {W : World} {v0 v1 v2 v5 v6 : Value} {x : Bool} {a' : Act} (u : Nat → Value) (h : a' = ⟨#[v0, v1, v2, undef, .bool false, v5, v6, .bool x, undef, undef, u 10, u 11, u 12, u 13, u 14, u 15, u 16, u 17, u 18, u 19, u 20, u 21, u 22, u 23, u 24, u 25, u 26, u 27, u 28, u 29, u 30, u 31, u 32, u 33, u 34, u 35, u 36, u 37, u 38, u 39, u 40, u 41, u 42, u 43, u 44, u 45, u 46, u 47, u 48, u 49, u 50, u 51, u 52, u 53, u 54, u 55, u 56, u 57, u 58, u 59, u 60, u 61, u 62, u 63, u 64, u 65, u 66, u 67, u 68, u 69, u 70, u 71, u 72, u 73, u 74, u 75, u 76, u 77, u 78, u 79, u 80, u 81, u 82, u 83, u 84, u 85, u 86, u 87, u 88, u 89, u 90, u 91, u 92, u 93, u 94, u 95, u 96, u 97, u 98, u 99, u 100, u 101, u 102, u 103, u 104, u 105, u 106, u 107, u 108, u 109, u 110, u 111, u 112, u 113, u 114, u 115, u 116, u 117, u 118, u 119, u 120, u 121, undef, undef, undef, undef, undef, undef, undef, undef, undef, undef, undef, undef, undef, undef, undef, undef, undef, undef, undef, undef, undef, undef, undef, undef, undef, undef, undef, undef, undef, undef], []⟩) : bR10 W v0 v1 v2 v5 v6 x a' W := ⟨rfl, u, h⟩
theorem bR10_of {W : World} {v0 v1 v2 v5 v6 : Value} {x : Bool} {a' : Act} (h : a' = ⟨#[v0, v1, v2, undef, .bool false, v5, v6, .bool x, undef, undef, (a'.tmps.getD 10 undef), (a'.tmps.getD 11 undef), (a'.tmps.getD 12 undef), (a'.tmps.getD 13 undef), (a'.tmps.getD 14 undef), (a'.tmps.getD 15 undef), (a'.tmps.getD 16 undef), (a'.tmps.getD 17 undef), (a'.tmps.getD 18 undef), (a'.tmps.getD 19 undef), (a'.tmps.getD 20 undef), (a'.tmps.getD 21 undef), (a'.tmps.getD 22 undef), (a'.tmps.getD 23 undef), (a'.tmps.getD 24 undef), (a'.tmps.getD 25 undef), (a'.tmps.getD 26 undef), (a'.tmps.getD 27 undef), (a'.tmps.getD 28 undef), (a'.tmps.getD 29 undef), (a'.tmps.getD 30 undef), (a'.tmps.getD 31 undef), (a'.tmps.getD 32 undef), (a'.tmps.getD 33 undef), (a'.tmps.getD 34 undef), (a'.tmps.getD 35 undef), (a'.tmps.getD 36 undef), (a'.tmps.getD 37 undef), (a'.tmps.getD 38 undef), (a'.tmps.getD 39 undef), (a'.tmps.getD 40 undef), (a'.tmps.getD 41 undef), (a'.tmps.getD 42 undef), (a'.tmps.getD 43 undef), (a'.tmps.getD 44 undef), (a'.tmps.getD 45 undef), (a'.tmps.getD 46 undef), (a'.tmps.getD 47 undef), (a'.tmps.getD 48 undef), (a'.tmps.getD 49 undef), (a'.tmps.getD 50 undef), (a'.tmps.getD 51 undef), (a'.tmps.getD 52 undef), (a'.tmps.getD 53 undef), (a'.tmps.getD 54 undef), (a'.tmps.getD 55 undef), (a'.tmps.getD 56 undef), (a'.tmps.getD 57 undef), (a'.tmps.getD 58 undef), (a'.tmps.getD 59 undef), (a'.tmps.getD 60 undef), (a'.tmps.getD 61 undef), (a'.tmps.getD 62 undef), (a'.tmps.getD 63 undef), (a'.tmps.getD 64 undef), (a'.tmps.getD 65 undef), (a'.tmps.getD 66 undef), (a'.tmps.getD 67 undef), (a'.tmps.getD 68 undef), (a'.tmps.getD 69 undef), (a'.tmps.getD 70 undef), (a'.tmps.getD 71 undef), (a'.tmps.getD 72 undef), (a'.tmps.getD 73 undef), (a'.tmps.getD 74 undef), (a'.tmps.getD 75 undef), (a'.tmps.getD 76 undef), (a'.tmps.getD 77 undef), (a'.tmps.getD 78 undef), (a'.tmps.getD 79 undef), (a'.tmps.getD 80 undef), (a'.tmps.getD 81 undef), (a'.tmps.getD 82 undef), (a'.tmps.getD 83 undef), (a'.tmps.getD 84 undef), (a'.tmps.getD 85 undef), (a'.tmps.getD 86 undef), (a'.tmps.getD 87 undef), (a'.tmps.getD 88 undef), (a'.tmps.getD 89 undef), (a'.tmps.getD 90 undef), (a'.tmps.getD 91 undef), (a'.tmps.getD 92 undef), (a'.tmps.getD 93 undef), (a'.tmps.getD 94 undef), (a'.tmps.getD 95 undef), (a'.tmps.getD 96 undef), (a'.tmps.getD 97 undef), (a'.tmps.getD 98 undef), (a'.tmps.getD 99 undef), (a'.tmps.getD 100 undef), (a'.tmps.getD 101 undef), (a'.tmps.getD 102 undef), (a'.tmps.getD 103 undef), (a'.tmps.getD 104 undef), (a'.tmps.getD 105 undef), (a'.tmps.getD 106 undef), (a'.tmps.getD 107 undef), (a'.tmps.getD 108 undef), (a'.tmps.getD 109 undef), (a'.tmps.getD 110 undef), (a'.tmps.getD 111 undef), (a'.tmps.getD 112 undef), (a'.tmps.getD 113 undef), (a'.tmps.getD 114 undef), (a'.tmps.getD 115 undef), (a'.tmps.getD 116 undef), (a'.tmps.getD 117 undef), (a'.tmps.getD 118 undef), (a'.tmps.getD 119 undef), (a'.tmps.getD 120 undef), (a'.tmps.getD 121 undef), undef, undef, undef, undef, undef, undef, undef, undef, undef, undef, undef, undef, undef, undef, undef, undef, undef, undef, undef, undef, undef, undef, undef, undef, undef, undef, undef, undef, undef, undef], []⟩) : bR10 W v0 v1 v2 v5 v6 x a' W := bR10_mk (fun i => a'.tmps.getD i undef) h

set_option maxRecDepth 100000 in
set_option maxHeartbeats 16000000 in
theorem bare_good (e : Note) (A1 A2 : Option Addr) (c1 c2 : Nat) (z : Int) (w : World) (hlong : longE e = false) (hok : Ent.ok e = true) :
    Calls Try.prog 7 #[.agg (evs e (.slice A1 e.key.length c1) (.slice A2 e.data.length c2)), .int .i64 z] w fun x w' => x = .returned (.bool true) ∧ Below w.heap.size w w' := by
  have hk := (Ent.ok_iff e).1 hok
  have hi := (Ent.inB_iff e).1 hk.i
  have C1 := fun W => Lib.hid (long_any e A1 A2 c1 c2 W)
  rw [hlong] at C1
  have CC := Lib.hid (fun W => check_any e A1 A2 c1 c2 W)
  unfold ChkPost at CC
  rw [show chkN e = 0 from by unfold chkN; rw [if_pos hok]] at CC
  have cx : ∀ W : World, Calls Try.prog 14 #[.agg #[.int .i64 z, .int .u32 (e.epoch : Nat), .int .u32 (e.old : Nat), .int .u64 (e.lsn : Nat), .int .u64 (e.tick : Nat), .int .u32 (e.order : Nat), .int .i64 e.step, .bool e.undo, .int .i64 e.code, .slice A1 e.key.length c1, .slice A2 e.data.length c2]] W (ChkPost { e with kind := z } W) := fun W => check_any { e with kind := z } A1 A2 c1 c2 W
  have CX := Lib.hid cx
  unfold ChkPost at CX
  have hcz : chkN { e with kind := z } = if (!decide (Ent.lets z = []) && (!xtra (Ent.lets z) e Ent.alpha && !Ent.lackK { e with kind := z })) = true then 0 else 50 := by
    rw [xtra_only, Bool.not_not]
    refine chkN_of ?_
    show (!decide (Ent.lets z = []) && (Ent.only (Ent.lets z) e && (Ent.inB e && !Ent.lackK { e with kind := z }))) = _
    rw [hk.i, Bool.true_and]
  have hlk : Ent.lackK { e with kind := z } = (decide (10 ≤ z) && (decide (z ≤ 12) && decide (e.key.length = 0))) := by
    show decide ((z = 10 ∨ z = 11 ∨ z = 12) ∧ e.key.length = 0) = _
    rw [Bool.eq_iff_iff]
    simp only [Bool.and_eq_true, decide_eq_true_eq]
    omega
  rw [hlk] at hcz
  have CN := Lib.hid (fun W => names_any z W)
  unfold NamesPost at CN
  have hnil := str_nil (Ent.lets z)
  have hin := fun c W => in_any (Ent.lets z) (fun x hx => Ent.alpha_small x (Ent.lets_sub z x hx)) (by have := Ent.lets_len z; omega) c W
  have q69 : ∀ W, Calls Try.prog 26 #[.string (str (Ent.lets z)), .int .u8 69] W fun x w' => x = .returned (.bool ((Ent.lets z).contains 69)) ∧ w' = W := fun W => hin 69 W
  have Q69 := Lib.hid q69
  have q80 : ∀ W, Calls Try.prog 26 #[.string (str (Ent.lets z)), .int .u8 80] W fun x w' => x = .returned (.bool ((Ent.lets z).contains 80)) ∧ w' = W := fun W => hin 80 W
  have Q80 := Lib.hid q80
  have q76 : ∀ W, Calls Try.prog 26 #[.string (str (Ent.lets z)), .int .u8 76] W fun x w' => x = .returned (.bool ((Ent.lets z).contains 76)) ∧ w' = W := fun W => hin 76 W
  have Q76 := Lib.hid q76
  have q84 : ∀ W, Calls Try.prog 26 #[.string (str (Ent.lets z)), .int .u8 84] W fun x w' => x = .returned (.bool ((Ent.lets z).contains 84)) ∧ w' = W := fun W => hin 84 W
  have Q84 := Lib.hid q84
  have q79 : ∀ W, Calls Try.prog 26 #[.string (str (Ent.lets z)), .int .u8 79] W fun x w' => x = .returned (.bool ((Ent.lets z).contains 79)) ∧ w' = W := fun W => hin 79 W
  have Q79 := Lib.hid q79
  have q83 : ∀ W, Calls Try.prog 26 #[.string (str (Ent.lets z)), .int .u8 83] W fun x w' => x = .returned (.bool ((Ent.lets z).contains 83)) ∧ w' = W := fun W => hin 83 W
  have Q83 := Lib.hid q83
  have q85 : ∀ W, Calls Try.prog 26 #[.string (str (Ent.lets z)), .int .u8 85] W fun x w' => x = .returned (.bool ((Ent.lets z).contains 85)) ∧ w' = W := fun W => hin 85 W
  have Q85 := Lib.hid q85
  have q67 : ∀ W, Calls Try.prog 26 #[.string (str (Ent.lets z)), .int .u8 67] W fun x w' => x = .returned (.bool ((Ent.lets z).contains 67)) ∧ w' = W := fun W => hin 67 W
  have Q67 := Lib.hid q67
  have q75 : ∀ W, Calls Try.prog 26 #[.string (str (Ent.lets z)), .int .u8 75] W fun x w' => x = .returned (.bool ((Ent.lets z).contains 75)) ∧ w' = W := fun W => hin 75 W
  have Q75 := Lib.hid q75
  have q68 : ∀ W, Calls Try.prog 26 #[.string (str (Ent.lets z)), .int .u8 68] W fun x w' => x = .returned (.bool ((Ent.lets z).contains 68)) ∧ w' = W := fun W => hin 68 W
  have Q68 := Lib.hid q68
  clear q69 q80 q76 q84 q79 q83 q85 q67 q75 q68 hin cx hlk
  generalize chkN { e with kind := z } = cz at *
  generalize str (Ent.lets z) = S at *
  generalize Ent.lets z = s at *
  have HCZ := Lib.hid hcz
  obtain ⟨n1, hn1⟩ : ∃ n, e.key.length = n := ⟨_, rfl⟩
  obtain ⟨n2, hn2⟩ : ∃ n, e.data.length = n := ⟨_, rfl⟩
  simp only [hn1, hn2] at C1 CC CX HCZ
  rw [hn1, hn2]
  have b0 := below1 w (.cells (evs e (.slice A1 n1 c1) (.slice A2 n2 c2)) 26)
  have HI := Lib.hid hi
  have HN1 := Lib.hid hn1
  have HN2 := Lib.hid hn2
  clear hn1 hn2 hok hk hi hlong hcz
  go_enter Try.func7, Try.ntmps7
  go_wp2_with fail
  with_reducible refine (C1 _).out.mono ?_
  rintro x w1 ⟨rfl, hb1⟩
  have L1 := (Lies.made w 26 (evs e (.slice A1 n1 c1) (.slice A2 n2 c2))).below hb1 (by simp)
  have b1 := b0.trans (hb1.mono b0.size)
  obtain ⟨e0, e1, e2, e3, e4, e5, e6, e7, e8, e9, e10⟩ := L1.cellsE
  have BB1 := Lib.hid b1
  have HL1 := Lib.hid L1
  clear L1 b1 b0 hb1 C1
  go_wp2_with fail
  with_reducible refine (CC.out _).mono ?_
  rintro x w2 ⟨rfl, hb2⟩
  have L2 := HL1.out.below hb2 HL1.out.lt
  have BB2 := Lib.hid (BB1.out.trans (hb2.mono BB1.out.size))
  clear e0 e1 e2 e3 e4 e5 e6 e7 e8 e9 e10
  obtain ⟨e0, e1, e2, e3, e4, e5, e6, e7, e8, e9, e10⟩ := L2.cellsE
  have hlt := L2.lt
  have hne : w.heap.size ≠ w2.heap.size := by omega
  have LN := (L2.alloc (.cells #[.int .i64 z, .int .u32 (e.epoch : Nat), .int .u32 (e.old : Nat), .int .u64 (e.lsn : Nat), .int .u64 (e.tick : Nat), .int .u32 (e.order : Nat), .int .i64 e.step, .bool e.undo, .int .i64 e.code, .slice A1 n1 c1, .slice A2 n2 c2] 26))
  have LX := Lies.made w2 26 #[.int .i64 z, .int .u32 (e.epoch : Nat), .int .u32 (e.old : Nat), .int .u64 (e.lsn : Nat), .int .u64 (e.tick : Nat), .int .u32 (e.order : Nat), .int .i64 e.step, .bool e.undo, .int .i64 e.code, .slice A1 n1 c1, .slice A2 n2 c2]
  have BN := Lib.hid (BB2.out.alloc BB2.out.size (.cells #[.int .i64 z, .int .u32 (e.epoch : Nat), .int .u32 (e.old : Nat), .int .u64 (e.lsn : Nat), .int .u64 (e.tick : Nat), .int .u32 (e.order : Nat), .int .i64 e.step, .bool e.undo, .int .i64 e.code, .slice A1 n1 c1, .slice A2 n2 c2] 26))
  clear L2 hb2 BB1 HL1 CC
  go_wp2_with fail
  with_reducible refine (CN.out _).mono ?_
  rintro x w3 ⟨rfl, hw3⟩
  rw [← hw3] at LN LX BN
  clear hw3
  go_upto_region 6 with fail
  clear e0 e1 e2 e3 e4 e5 e6 e7 e8 e9 e10
  obtain ⟨e0, e1, e2, e3, e4, e5, e6, e7, e8, e9, e10⟩ := LN.cellsE
  obtain ⟨z0, z1, z2, z3, z4, z5, z6, z7, z8, z9, z10⟩ : w3.cell? ⟨w2.heap.size, 0, none⟩ = some (.int .i64 z) ∧ w3.cell? ⟨w2.heap.size, 1, none⟩ = some (.int .u32 (e.epoch : Nat)) ∧ w3.cell? ⟨w2.heap.size, 2, none⟩ = some (.int .u32 (e.old : Nat)) ∧ w3.cell? ⟨w2.heap.size, 3, none⟩ = some (.int .u64 (e.lsn : Nat)) ∧ w3.cell? ⟨w2.heap.size, 4, none⟩ = some (.int .u64 (e.tick : Nat)) ∧ w3.cell? ⟨w2.heap.size, 5, none⟩ = some (.int .u32 (e.order : Nat)) ∧ w3.cell? ⟨w2.heap.size, 6, none⟩ = some (.int .i64 e.step) ∧ w3.cell? ⟨w2.heap.size, 7, none⟩ = some (.bool e.undo) ∧ w3.cell? ⟨w2.heap.size, 8, none⟩ = some (.int .i64 e.code) ∧ w3.cell? ⟨w2.heap.size, 9, none⟩ = some (.slice A1 n1 c1) ∧ w3.cell? ⟨w2.heap.size, 10, none⟩ = some (.slice A2 n2 c2) := ⟨LX.cell 0, LX.cell 1, LX.cell 2, LX.cell 3, LX.cell 4, LX.cell 5, LX.cell 6, LX.cell 7, LX.cell 8, LX.cell 9, LX.cell 10⟩
  clear LN LX
  refine wp_region_lit ?_
  simp only [List.append_eq, List.cons_append, List.nil_append]
  refine wpList_cutAt 9 (bR1 w3 (.agg (evs e (.slice A1 n1 c1) (.slice A2 n2 c2))) (.int .i64 z) (.pointer (some ⟨w.heap.size, 0, none⟩)) (.pointer (some ⟨w2.heap.size, 0, none⟩)) (.string S) (xtra s e [69])) ?_ ?_
  · simp only [List.take_succ_cons, List.take_zero]
    rw [xtra_one s e 69]
    have D := Lib.hid Q69.out
    generalize s.contains 69 = r at *
    cases hz : Ent.isZ 69 e
    · have hu : ¬ e.epoch = 0 := by simpa [Ent.isZ] using hz
      have hp : 0 < e.epoch := by omega
      have hd : decide (0 < e.epoch) = true := by rw [decide_eq_true_iff]; exact hp
      clear hz
      go_wp2_with fail
      with_reducible refine (D.out _).mono ?_
      rintro y w4 ⟨rfl, hw4⟩
      subst hw4
      cases r
      · go_wp2
        exact bR1_of rfl
      · go_wp2
        exact bR1_of rfl
    · have hu : e.epoch = 0 := by simpa [Ent.isZ] using hz
      rw [hu] at e1
      rw [show ((0 : Nat) : Int) = 0 from rfl] at e1
      clear hz
      go_wp2
      exact bR1_of rfl
  rintro a4 w4 ⟨hw4, u, rfl⟩
  subst hw4
  simp only [List.drop_succ_cons, List.drop_zero]
  refine wpList_cutAt 10 (bR2 w3 (.agg (evs e (.slice A1 n1 c1) (.slice A2 n2 c2))) (.int .i64 z) (.pointer (some ⟨w.heap.size, 0, none⟩)) (.pointer (some ⟨w2.heap.size, 0, none⟩)) (.string S) (xtra s e [69, 80])) ?_ ?_
  · simp only [List.take_succ_cons, List.take_zero]
    rw [show xtra s e [69, 80] = (xtra s e [69] || (!Ent.isZ 80 e && !s.contains 80)) from xtra_snoc s e [69] 80]
    have D := Lib.hid Q80.out
    generalize xtra s e [69] = x at *
    generalize s.contains 80 = r at *
    cases x
    · skip
      cases hz : Ent.isZ 80 e
      · have hu : ¬ e.old = 0 := by simpa [Ent.isZ] using hz
        have hp : 0 < e.old := by omega
        have hd : decide (0 < e.old) = true := by rw [decide_eq_true_iff]; exact hp
        clear hz
        go_wp2_with fail
        with_reducible refine (D.out _).mono ?_
        rintro y w4 ⟨rfl, hw4⟩
        subst hw4
        cases r
        · go_wp2
          exact bR2_of rfl
        · go_wp2
          exact bR2_of rfl
      · have hu : e.old = 0 := by simpa [Ent.isZ] using hz
        rw [hu] at e2
        rw [show ((0 : Nat) : Int) = 0 from rfl] at e2
        clear hz
        go_wp2
        exact bR2_of rfl
    · go_wp2
      exact bR2_of rfl
  rintro a4 w4 ⟨hw4, u, rfl⟩
  subst hw4
  simp only [List.drop_succ_cons, List.drop_zero]
  refine wpList_cutAt 10 (bR3 w3 (.agg (evs e (.slice A1 n1 c1) (.slice A2 n2 c2))) (.int .i64 z) (.pointer (some ⟨w.heap.size, 0, none⟩)) (.pointer (some ⟨w2.heap.size, 0, none⟩)) (.string S) (xtra s e [69, 80, 76])) ?_ ?_
  · simp only [List.take_succ_cons, List.take_zero]
    rw [show xtra s e [69, 80, 76] = (xtra s e [69, 80] || (!Ent.isZ 76 e && !s.contains 76)) from xtra_snoc s e [69, 80] 76]
    have D := Lib.hid Q76.out
    generalize xtra s e [69, 80] = x at *
    generalize s.contains 76 = r at *
    cases x
    · skip
      cases hz : Ent.isZ 76 e
      · have hu : ¬ e.lsn = 0 := by simpa [Ent.isZ] using hz
        have hp : 0 < e.lsn := by omega
        have hd : decide (0 < e.lsn) = true := by rw [decide_eq_true_iff]; exact hp
        clear hz
        go_wp2_with fail
        with_reducible refine (D.out _).mono ?_
        rintro y w4 ⟨rfl, hw4⟩
        subst hw4
        cases r
        · go_wp2
          exact bR3_of rfl
        · go_wp2
          exact bR3_of rfl
      · have hu : e.lsn = 0 := by simpa [Ent.isZ] using hz
        rw [hu] at e3
        rw [show ((0 : Nat) : Int) = 0 from rfl] at e3
        clear hz
        go_wp2
        exact bR3_of rfl
    · go_wp2
      exact bR3_of rfl
  rintro a4 w4 ⟨hw4, u, rfl⟩
  subst hw4
  simp only [List.drop_succ_cons, List.drop_zero]
  refine wpList_cutAt 10 (bR4 w3 (.agg (evs e (.slice A1 n1 c1) (.slice A2 n2 c2))) (.int .i64 z) (.pointer (some ⟨w.heap.size, 0, none⟩)) (.pointer (some ⟨w2.heap.size, 0, none⟩)) (.string S) (xtra s e [69, 80, 76, 84])) ?_ ?_
  · simp only [List.take_succ_cons, List.take_zero]
    rw [show xtra s e [69, 80, 76, 84] = (xtra s e [69, 80, 76] || (!Ent.isZ 84 e && !s.contains 84)) from xtra_snoc s e [69, 80, 76] 84]
    have D := Lib.hid Q84.out
    generalize xtra s e [69, 80, 76] = x at *
    generalize s.contains 84 = r at *
    cases x
    · skip
      cases hz : Ent.isZ 84 e
      · have hu : ¬ e.tick = 0 := by simpa [Ent.isZ] using hz
        have hp : 0 < e.tick := by omega
        have hd : decide (0 < e.tick) = true := by rw [decide_eq_true_iff]; exact hp
        clear hz
        go_wp2_with fail
        with_reducible refine (D.out _).mono ?_
        rintro y w4 ⟨rfl, hw4⟩
        subst hw4
        cases r
        · go_wp2
          exact bR4_of rfl
        · go_wp2
          exact bR4_of rfl
      · have hu : e.tick = 0 := by simpa [Ent.isZ] using hz
        rw [hu] at e4
        rw [show ((0 : Nat) : Int) = 0 from rfl] at e4
        clear hz
        go_wp2
        exact bR4_of rfl
    · go_wp2
      exact bR4_of rfl
  rintro a4 w4 ⟨hw4, u, rfl⟩
  subst hw4
  simp only [List.drop_succ_cons, List.drop_zero]
  refine wpList_cutAt 10 (bR5 w3 (.agg (evs e (.slice A1 n1 c1) (.slice A2 n2 c2))) (.int .i64 z) (.pointer (some ⟨w.heap.size, 0, none⟩)) (.pointer (some ⟨w2.heap.size, 0, none⟩)) (.string S) (xtra s e [69, 80, 76, 84, 79])) ?_ ?_
  · simp only [List.take_succ_cons, List.take_zero]
    rw [show xtra s e [69, 80, 76, 84, 79] = (xtra s e [69, 80, 76, 84] || (!Ent.isZ 79 e && !s.contains 79)) from xtra_snoc s e [69, 80, 76, 84] 79]
    have D := Lib.hid Q79.out
    generalize xtra s e [69, 80, 76, 84] = x at *
    generalize s.contains 79 = r at *
    cases x
    · skip
      cases hz : Ent.isZ 79 e
      · have hu : ¬ e.order = 0 := by simpa [Ent.isZ] using hz
        have hp : 0 < e.order := by omega
        have hd : decide (0 < e.order) = true := by rw [decide_eq_true_iff]; exact hp
        clear hz
        go_wp2_with fail
        with_reducible refine (D.out _).mono ?_
        rintro y w4 ⟨rfl, hw4⟩
        subst hw4
        cases r
        · go_wp2
          exact bR5_of rfl
        · go_wp2
          exact bR5_of rfl
      · have hu : e.order = 0 := by simpa [Ent.isZ] using hz
        rw [hu] at e5
        rw [show ((0 : Nat) : Int) = 0 from rfl] at e5
        clear hz
        go_wp2
        exact bR5_of rfl
    · go_wp2
      exact bR5_of rfl
  rintro a4 w4 ⟨hw4, u, rfl⟩
  subst hw4
  simp only [List.drop_succ_cons, List.drop_zero]
  refine wpList_cutAt 10 (bR6 w3 (.agg (evs e (.slice A1 n1 c1) (.slice A2 n2 c2))) (.int .i64 z) (.pointer (some ⟨w.heap.size, 0, none⟩)) (.pointer (some ⟨w2.heap.size, 0, none⟩)) (.string S) (xtra s e [69, 80, 76, 84, 79, 83])) ?_ ?_
  · simp only [List.take_succ_cons, List.take_zero]
    rw [show xtra s e [69, 80, 76, 84, 79, 83] = (xtra s e [69, 80, 76, 84, 79] || (!Ent.isZ 83 e && !s.contains 83)) from xtra_snoc s e [69, 80, 76, 84, 79] 83]
    have D := Lib.hid Q83.out
    generalize xtra s e [69, 80, 76, 84, 79] = x at *
    generalize s.contains 83 = r at *
    cases x
    · skip
      cases hz : Ent.isZ 83 e
      · have hu : ¬ e.step = 0 := by simpa [Ent.isZ] using hz
        have hp : 0 < e.step := by have := HI.out; omega
        have hd : decide (0 < e.step) = true := by rw [decide_eq_true_iff]; exact hp
        clear hz
        go_wp2_with fail
        with_reducible refine (D.out _).mono ?_
        rintro y w4 ⟨rfl, hw4⟩
        subst hw4
        cases r
        · go_wp2
          exact bR6_of rfl
        · go_wp2
          exact bR6_of rfl
      · have hu : e.step = 0 := by simpa [Ent.isZ] using hz
        rw [hu] at e6
        clear hz
        go_wp2
        exact bR6_of rfl
    · go_wp2
      exact bR6_of rfl
  rintro a4 w4 ⟨hw4, u, rfl⟩
  subst hw4
  simp only [List.drop_succ_cons, List.drop_zero]
  refine wpList_cutAt 9 (bR7 w3 (.agg (evs e (.slice A1 n1 c1) (.slice A2 n2 c2))) (.int .i64 z) (.pointer (some ⟨w.heap.size, 0, none⟩)) (.pointer (some ⟨w2.heap.size, 0, none⟩)) (.string S) (xtra s e [69, 80, 76, 84, 79, 83, 85])) ?_ ?_
  · simp only [List.take_succ_cons, List.take_zero]
    rw [show xtra s e [69, 80, 76, 84, 79, 83, 85] = (xtra s e [69, 80, 76, 84, 79, 83] || (!Ent.isZ 85 e && !s.contains 85)) from xtra_snoc s e [69, 80, 76, 84, 79, 83] 85]
    have D := Lib.hid Q85.out
    generalize xtra s e [69, 80, 76, 84, 79, 83] = x at *
    generalize s.contains 85 = r at *
    cases x
    · skip
      cases hz : Ent.isZ 85 e
      · have hu : e.undo = true := by simpa [Ent.isZ] using hz
        rw [hu] at e7
        clear hz
        go_wp2_with fail
        with_reducible refine (D.out _).mono ?_
        rintro y w4 ⟨rfl, hw4⟩
        subst hw4
        cases r
        · go_wp2
          exact bR7_of rfl
        · go_wp2
          exact bR7_of rfl
      · have hu : e.undo = false := by simpa [Ent.isZ] using hz
        rw [hu] at e7
        clear hz
        go_wp2
        exact bR7_of rfl
    · go_wp2
      exact bR7_of rfl
  rintro a4 w4 ⟨hw4, u, rfl⟩
  subst hw4
  simp only [List.drop_succ_cons, List.drop_zero]
  refine wpList_cutAt 10 (bR8 w3 (.agg (evs e (.slice A1 n1 c1) (.slice A2 n2 c2))) (.int .i64 z) (.pointer (some ⟨w.heap.size, 0, none⟩)) (.pointer (some ⟨w2.heap.size, 0, none⟩)) (.string S) (xtra s e [69, 80, 76, 84, 79, 83, 85, 67])) ?_ ?_
  · simp only [List.take_succ_cons, List.take_zero]
    rw [show xtra s e [69, 80, 76, 84, 79, 83, 85, 67] = (xtra s e [69, 80, 76, 84, 79, 83, 85] || (!Ent.isZ 67 e && !s.contains 67)) from xtra_snoc s e [69, 80, 76, 84, 79, 83, 85] 67]
    have D := Lib.hid Q67.out
    generalize xtra s e [69, 80, 76, 84, 79, 83, 85] = x at *
    generalize s.contains 67 = r at *
    cases x
    · skip
      cases hz : Ent.isZ 67 e
      · have hu : ¬ e.code = 0 := by simpa [Ent.isZ] using hz
        have hp : 0 < e.code := by have := HI.out; omega
        have hd : decide (0 < e.code) = true := by rw [decide_eq_true_iff]; exact hp
        clear hz
        go_wp2_with fail
        with_reducible refine (D.out _).mono ?_
        rintro y w4 ⟨rfl, hw4⟩
        subst hw4
        cases r
        · go_wp2
          exact bR8_of rfl
        · go_wp2
          exact bR8_of rfl
      · have hu : e.code = 0 := by simpa [Ent.isZ] using hz
        rw [hu] at e8
        clear hz
        go_wp2
        exact bR8_of rfl
    · go_wp2
      exact bR8_of rfl
  rintro a4 w4 ⟨hw4, u, rfl⟩
  subst hw4
  simp only [List.drop_succ_cons, List.drop_zero]
  refine wpList_cutAt 11 (bR9 w3 (.agg (evs e (.slice A1 n1 c1) (.slice A2 n2 c2))) (.int .i64 z) (.pointer (some ⟨w.heap.size, 0, none⟩)) (.pointer (some ⟨w2.heap.size, 0, none⟩)) (.string S) (xtra s e [69, 80, 76, 84, 79, 83, 85, 67, 75])) ?_ ?_
  · simp only [List.take_succ_cons, List.take_zero]
    rw [show xtra s e [69, 80, 76, 84, 79, 83, 85, 67, 75] = (xtra s e [69, 80, 76, 84, 79, 83, 85, 67] || (!Ent.isZ 75 e && !s.contains 75)) from xtra_snoc s e [69, 80, 76, 84, 79, 83, 85, 67] 75]
    have D := Lib.hid Q75.out
    generalize xtra s e [69, 80, 76, 84, 79, 83, 85, 67] = x at *
    generalize s.contains 75 = r at *
    cases x
    · skip
      cases hz : Ent.isZ 75 e
      · have hu : ¬ e.key.length = 0 := by simpa [Ent.isZ] using hz
        rw [HN1.out] at hu
        have hp : 0 < n1 := by omega
        have hd : decide (0 < n1) = true := by rw [decide_eq_true_iff]; exact hp
        clear hz
        go_wp2_with fail
        with_reducible refine (D.out _).mono ?_
        rintro y w4 ⟨rfl, hw4⟩
        subst hw4
        cases r
        · go_wp2
          exact bR9_of rfl
        · go_wp2
          exact bR9_of rfl
      · have hu : e.key.length = 0 := by simpa [Ent.isZ] using hz
        rw [HN1.out] at hu
        subst hu
        clear hz
        go_wp2
        exact bR9_of rfl
    · go_wp2
      exact bR9_of rfl
  rintro a4 w4 ⟨hw4, u, rfl⟩
  subst hw4
  simp only [List.drop_succ_cons, List.drop_zero]
  refine wpList_cutAt 11 (bR10 w3 (.agg (evs e (.slice A1 n1 c1) (.slice A2 n2 c2))) (.int .i64 z) (.pointer (some ⟨w.heap.size, 0, none⟩)) (.pointer (some ⟨w2.heap.size, 0, none⟩)) (.string S) (xtra s e [69, 80, 76, 84, 79, 83, 85, 67, 75, 68])) ?_ ?_
  · simp only [List.take_succ_cons, List.take_zero]
    rw [show xtra s e [69, 80, 76, 84, 79, 83, 85, 67, 75, 68] = (xtra s e [69, 80, 76, 84, 79, 83, 85, 67, 75] || (!Ent.isZ 68 e && !s.contains 68)) from xtra_snoc s e [69, 80, 76, 84, 79, 83, 85, 67, 75] 68]
    have D := Lib.hid Q68.out
    generalize xtra s e [69, 80, 76, 84, 79, 83, 85, 67, 75] = x at *
    generalize s.contains 68 = r at *
    cases x
    · skip
      cases hz : Ent.isZ 68 e
      · have hu : ¬ e.data.length = 0 := by simpa [Ent.isZ] using hz
        rw [HN2.out] at hu
        have hp : 0 < n2 := by omega
        have hd : decide (0 < n2) = true := by rw [decide_eq_true_iff]; exact hp
        clear hz
        go_wp2_with fail
        with_reducible refine (D.out _).mono ?_
        rintro y w4 ⟨rfl, hw4⟩
        subst hw4
        cases r
        · go_wp2
          exact bR10_of rfl
        · go_wp2
          exact bR10_of rfl
      · have hu : e.data.length = 0 := by simpa [Ent.isZ] using hz
        rw [HN2.out] at hu
        subst hu
        clear hz
        go_wp2
        exact bR10_of rfl
    · go_wp2
      exact bR10_of rfl
  rintro a4 w4 ⟨hw4, u, rfl⟩
  subst hw4
  simp only [List.drop_succ_cons, List.drop_zero]
  obtain ⟨r0, hr0⟩ : ∃ r, decide (s = []) = r := ⟨_, rfl⟩
  obtain ⟨X, hX⟩ : ∃ X, xtra s e [69, 80, 76, 84, 79, 83, 85, 67, 75, 68] = X := ⟨_, rfl⟩
  have hcz := HCZ.out
  rw [show xtra s e Ent.alpha = X from hX, hr0] at hcz
  rw [hr0] at hnil
  rw [hX]
  have hkc : z < 10 ∨ 12 < z ∨ (10 ≤ z ∧ z ≤ 12 ∧ n1 = 0) ∨ (10 ≤ z ∧ z ≤ 12 ∧ ¬ n1 = 0) := by omega
  have HCZ2 := Lib.hid hcz
  clear hcz hr0 hX HCZ Q69 Q80 Q76 Q84 Q79 Q83 Q85 Q67 Q75 Q68 HI HN1 HN2 e0 e1 e2 e3 e4 e5 e6 e7 e8 e10
  rcases hkc with h | h | ⟨ha, hb, h⟩ | ⟨ha, hb, h⟩
  · have d1 : decide (10 ≤ z) = false := by rw [decide_eq_false_iff_not]; omega
    have hv := HCZ2.out
    rw [d1] at hv
    clear HCZ2 d1
    cases r0
    · cases X
      · replace hv : cz = 0 := hv
        subst hv
        go_wp2_with fail
        with_reducible refine (CX.out _).mono ?_
        rintro y w5 ⟨rfl, hb5⟩
        go_wp2_with fail
        with_reducible refine (known_any _).mono ?_
        rintro y w6 ⟨rfl, hb6⟩
        go_wp2
        go_ret
        have b5 := BN.out.trans (hb5.mono BN.out.size)
        exact ⟨rfl, b5.trans (hb6.mono b5.size)⟩
      · replace hv : cz = 50 := hv
        subst hv
        go_wp2_with fail
        with_reducible refine (CX.out _).mono ?_
        rintro y w5 ⟨rfl, hb5⟩
        go_wp2_with fail
        with_reducible refine (known_any _).mono ?_
        rintro y w6 ⟨rfl, hb6⟩
        go_wp2
        go_ret
        have b5 := BN.out.trans (hb5.mono BN.out.size)
        exact ⟨rfl, b5.trans (hb6.mono b5.size)⟩
    · cases X
      · replace hv : cz = 50 := hv
        subst hv
        go_wp2_with fail
        with_reducible refine (CX.out _).mono ?_
        rintro y w5 ⟨rfl, hb5⟩
        go_wp2_with fail
        with_reducible refine (known_any _).mono ?_
        rintro y w6 ⟨rfl, hb6⟩
        go_wp2
        go_ret
        have b5 := BN.out.trans (hb5.mono BN.out.size)
        exact ⟨rfl, b5.trans (hb6.mono b5.size)⟩
      · replace hv : cz = 50 := hv
        subst hv
        go_wp2_with fail
        with_reducible refine (CX.out _).mono ?_
        rintro y w5 ⟨rfl, hb5⟩
        go_wp2_with fail
        with_reducible refine (known_any _).mono ?_
        rintro y w6 ⟨rfl, hb6⟩
        go_wp2
        go_ret
        have b5 := BN.out.trans (hb5.mono BN.out.size)
        exact ⟨rfl, b5.trans (hb6.mono b5.size)⟩
  · have d1 : decide (10 ≤ z) = true := by rw [decide_eq_true_iff]; omega
    have d2 : decide (z ≤ 12) = false := by rw [decide_eq_false_iff_not]; omega
    have hv := HCZ2.out
    rw [d1, d2] at hv
    clear HCZ2 d1 d2
    cases r0
    · cases X
      · replace hv : cz = 0 := hv
        subst hv
        go_wp2_with fail
        with_reducible refine (CX.out _).mono ?_
        rintro y w5 ⟨rfl, hb5⟩
        go_wp2_with fail
        with_reducible refine (known_any _).mono ?_
        rintro y w6 ⟨rfl, hb6⟩
        go_wp2
        go_ret
        have b5 := BN.out.trans (hb5.mono BN.out.size)
        exact ⟨rfl, b5.trans (hb6.mono b5.size)⟩
      · replace hv : cz = 50 := hv
        subst hv
        go_wp2_with fail
        with_reducible refine (CX.out _).mono ?_
        rintro y w5 ⟨rfl, hb5⟩
        go_wp2_with fail
        with_reducible refine (known_any _).mono ?_
        rintro y w6 ⟨rfl, hb6⟩
        go_wp2
        go_ret
        have b5 := BN.out.trans (hb5.mono BN.out.size)
        exact ⟨rfl, b5.trans (hb6.mono b5.size)⟩
    · cases X
      · replace hv : cz = 50 := hv
        subst hv
        go_wp2_with fail
        with_reducible refine (CX.out _).mono ?_
        rintro y w5 ⟨rfl, hb5⟩
        go_wp2_with fail
        with_reducible refine (known_any _).mono ?_
        rintro y w6 ⟨rfl, hb6⟩
        go_wp2
        go_ret
        have b5 := BN.out.trans (hb5.mono BN.out.size)
        exact ⟨rfl, b5.trans (hb6.mono b5.size)⟩
      · replace hv : cz = 50 := hv
        subst hv
        go_wp2_with fail
        with_reducible refine (CX.out _).mono ?_
        rintro y w5 ⟨rfl, hb5⟩
        go_wp2_with fail
        with_reducible refine (known_any _).mono ?_
        rintro y w6 ⟨rfl, hb6⟩
        go_wp2
        go_ret
        have b5 := BN.out.trans (hb5.mono BN.out.size)
        exact ⟨rfl, b5.trans (hb6.mono b5.size)⟩
  · have d1 : decide (10 ≤ z) = true := by rw [decide_eq_true_iff]; omega
    have d2 : decide (z ≤ 12) = true := by rw [decide_eq_true_iff]; omega
    have d3 : decide (n1 = 0) = true := by rw [decide_eq_true_iff]; exact h
    have hv := HCZ2.out
    rw [d1, d2, d3] at hv
    clear HCZ2 d1 d2 d3
    subst h
    cases r0
    · cases X
      · replace hv : cz = 50 := hv
        subst hv
        go_wp2_with fail
        with_reducible refine (CX.out _).mono ?_
        rintro y w5 ⟨rfl, hb5⟩
        go_wp2_with fail
        with_reducible refine (known_any _).mono ?_
        rintro y w6 ⟨rfl, hb6⟩
        go_wp2
        go_ret
        have b5 := BN.out.trans (hb5.mono BN.out.size)
        exact ⟨rfl, b5.trans (hb6.mono b5.size)⟩
      · replace hv : cz = 50 := hv
        subst hv
        go_wp2_with fail
        with_reducible refine (CX.out _).mono ?_
        rintro y w5 ⟨rfl, hb5⟩
        go_wp2_with fail
        with_reducible refine (known_any _).mono ?_
        rintro y w6 ⟨rfl, hb6⟩
        go_wp2
        go_ret
        have b5 := BN.out.trans (hb5.mono BN.out.size)
        exact ⟨rfl, b5.trans (hb6.mono b5.size)⟩
    · cases X
      · replace hv : cz = 50 := hv
        subst hv
        go_wp2_with fail
        with_reducible refine (CX.out _).mono ?_
        rintro y w5 ⟨rfl, hb5⟩
        go_wp2_with fail
        with_reducible refine (known_any _).mono ?_
        rintro y w6 ⟨rfl, hb6⟩
        go_wp2
        go_ret
        have b5 := BN.out.trans (hb5.mono BN.out.size)
        exact ⟨rfl, b5.trans (hb6.mono b5.size)⟩
      · replace hv : cz = 50 := hv
        subst hv
        go_wp2_with fail
        with_reducible refine (CX.out _).mono ?_
        rintro y w5 ⟨rfl, hb5⟩
        go_wp2_with fail
        with_reducible refine (known_any _).mono ?_
        rintro y w6 ⟨rfl, hb6⟩
        go_wp2
        go_ret
        have b5 := BN.out.trans (hb5.mono BN.out.size)
        exact ⟨rfl, b5.trans (hb6.mono b5.size)⟩
  · have d1 : decide (10 ≤ z) = true := by rw [decide_eq_true_iff]; omega
    have d2 : decide (z ≤ 12) = true := by rw [decide_eq_true_iff]; omega
    have d3 : decide (n1 = 0) = false := by rw [decide_eq_false_iff_not]; exact h
    have hnb : (((n1 : Nat) : Int) == 0) = false := by rw [beq_eq_false_iff_ne]; omega
    have hv := HCZ2.out
    rw [d1, d2, d3] at hv
    clear HCZ2 d1 d2 d3
    cases r0
    · cases X
      · replace hv : cz = 0 := hv
        subst hv
        go_wp2_with fail
        with_reducible refine (CX.out _).mono ?_
        rintro y w5 ⟨rfl, hb5⟩
        go_wp2_with fail
        with_reducible refine (known_any _).mono ?_
        rintro y w6 ⟨rfl, hb6⟩
        go_wp2
        go_ret
        have b5 := BN.out.trans (hb5.mono BN.out.size)
        exact ⟨rfl, b5.trans (hb6.mono b5.size)⟩
      · replace hv : cz = 50 := hv
        subst hv
        go_wp2_with fail
        with_reducible refine (CX.out _).mono ?_
        rintro y w5 ⟨rfl, hb5⟩
        go_wp2_with fail
        with_reducible refine (known_any _).mono ?_
        rintro y w6 ⟨rfl, hb6⟩
        go_wp2
        go_ret
        have b5 := BN.out.trans (hb5.mono BN.out.size)
        exact ⟨rfl, b5.trans (hb6.mono b5.size)⟩
    · cases X
      · replace hv : cz = 50 := hv
        subst hv
        go_wp2_with fail
        with_reducible refine (CX.out _).mono ?_
        rintro y w5 ⟨rfl, hb5⟩
        go_wp2_with fail
        with_reducible refine (known_any _).mono ?_
        rintro y w6 ⟨rfl, hb6⟩
        go_wp2
        go_ret
        have b5 := BN.out.trans (hb5.mono BN.out.size)
        exact ⟨rfl, b5.trans (hb6.mono b5.size)⟩
      · replace hv : cz = 50 := hv
        subst hv
        go_wp2_with fail
        with_reducible refine (CX.out _).mono ?_
        rintro y w5 ⟨rfl, hb5⟩
        go_wp2_with fail
        with_reducible refine (known_any _).mono ?_
        rintro y w6 ⟨rfl, hb6⟩
        go_wp2
        go_ret
        have b5 := BN.out.trans (hb5.mono BN.out.size)
        exact ⟨rfl, b5.trans (hb6.mono b5.size)⟩

end Go.Proofs.Ytjjkjppaiejajaa
