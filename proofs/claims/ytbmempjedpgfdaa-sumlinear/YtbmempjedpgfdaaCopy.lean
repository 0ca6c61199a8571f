/-
  The contract of Copy: for every slice of at most a million bytes; and what a row of bytes that a call has made is.
-/
import Derived.Test.YtbmempjedpgfdaaKnown
import Derived.Maps.AppendAt
import Derived.Laws.AppendOwnNone
import Derived.Laws.OwnMore
namespace Go.Proofs.Ytbmempjedpgfdaa
open Go.RowKit

abbrev vals (l : List Nat) : List Value := l.map (fun (c : Nat) => Value.int .u8 (c : Int))

/-- A row of bytes that lies in a block of its own, not below B. -/
def Own (w : World) (B : Nat) (v : Value) (l : List Nat) : Prop := w.ownsRow B 5 1 v l.length (vals l) ∧ ∀ c ∈ l, c < 256

theorem Own.nil (w : World) (B : Nat) : Own w B (.slice none 0 0) [] := ⟨⟨rfl, .inl ⟨rfl, rfl⟩⟩, by simp⟩

theorem Own.form {w : World} {B : Nat} {v : Value} {l : List Nat} (h : Own w B v l) :
    (v = .slice none 0 0 ∧ l = []) ∨ ∃ g cap cur, v = .slice (some ⟨g, 0, none⟩) l.length cap ∧ B ≤ g ∧ Lies w g 5 cur ∧ l.length ≤ cap ∧ cap ≤ maxLen ∧ cur.size = cap ∧ ∀ i, i < l.length → cur[i]? = some (.int .u8 (l.getD i 0 : Nat)) := by
  obtain ⟨⟨_, h1 | ⟨g, cap, cur, hv, hb, hg, hn, hm, hs, ht⟩⟩, _⟩ := h
  · exact .inl ⟨h1.1, List.eq_nil_of_length_eq_zero h1.2⟩
  · refine .inr ⟨g, cap, cur, hv, hb, hg, hn, hm, by simpa using hs, fun i hi => ?_⟩
    have e : (cur.toList.take (l.length * 1))[i]? = (vals l)[i]? := by rw [ht]
    rw [List.getElem?_take, if_pos (by omega)] at e
    rw [Array.getElem?_toList] at e
    rw [e]
    simp [vals, List.getD, hi]

theorem Own.bys {w : World} {B : Nat} {A : Option Addr} {n c : Nat} {l : List Nat} (h : Own w B (.slice A n c) l) : Bys w A n l ∧ n ≤ c ∧ c ≤ maxLen ∧ (A = none → n = 0 ∧ c = 0) := by
  rcases h.form with ⟨hv, hl⟩ | ⟨g, cap, cur, hv, hb, hg, hn, hm, hs, hc⟩
  · injection hv with h1 h2 h3
    subst h1 h2 h3 hl
    exact ⟨Bys.none_ w, Nat.le_refl _, by unfold maxLen; omega, fun _ => ⟨rfl, rfl⟩⟩
  · injection hv with h1 h2 h3
    subst h1 h2 h3
    refine ⟨⟨rfl, h.2, fun _ => ⟨g, 0, rfl, fun i hi => ?_⟩⟩, hn, hm, fun h => by cases h⟩
    rw [Nat.zero_add, hg.cell, hc i hi]

theorem add_off (b off i : Nat) : (⟨b, off, none⟩ : Addr).add i = ⟨b, off + i, none⟩ := Addr.add_mid b off i

theorem Bys.cells {w : World} {A : Option Addr} {m : Nat} {l : List Nat} (h : Bys w A m l) (ad : Addr) (hA : A = some ad) : ∀ j u, (vals l)[j]? = some u → w.cell? (ad.add j) = some u := by
  intro j u hu
  have hj : j < l.length := by
    have := (List.getElem?_eq_some_iff.1 hu).1
    simpa [vals] using this
  obtain ⟨b, off, e, hc⟩ := h.2.2 (by rw [← h.1]; omega)
  rw [hA] at e
  injection e with e
  subst e
  rw [add_off, hc j (by rw [← h.1]; exact hj), ← hu]
  simp [vals, List.getD, hj]

/-- 'append' of bytes onto a row of the call's own. -/
theorem wpl_append {ops : Array Oper} {rest : List Oper} {a : Act} {w : World} {Q : Exit → Act → World → Prop} (dst : Option Tmp) (ty : TypeId) (pos : String) (aft : Array Edge) (s x : Operand)
    (B : Nat) (v : Value) (l : List Nat) (A : Option Addr) (m c : Nat) (news : List Nat)
    (hs : a.eval s = v) (hx : a.eval x = .slice A m c) (hown : Own w B v l) (hsrc : Bys w A m news) (hA : A = none → c = 0) (hsm : l.length + m ≤ 1000000) (hB : B ≤ w.heap.size)
    (h : ∀ v' w', Own w' B v' (l ++ news) → w.grownBy w' v.ownBlock → (v'.ownBlock = v.ownBlock ∨ v'.ownBlock = some w.heap.size) → wpList Try.prog ops Q rest (a.put dst v') w') :
    wpList Try.prog ops Q (⟨dst, .call { callee := .builtin .append, args := #[s, x], argTypes := #[22, 22] }, ty, pos, aft, none⟩ :: rest) a w := by
  rcases A with _ | ad
  · have hm : m = 0 := by
      refine Classical.byContradiction fun h0 => ?_
      obtain ⟨b, off, e, _⟩ := hsrc.2.2 (by omega)
      cases e
    have hn : news = [] := List.eq_nil_of_length_eq_zero (by rw [hsrc.1]; exact hm)
    have hc0 := hA rfl
    subst hm hn hc0
    refine wpList_append_own_none (o := ⟨dst, .call { callee := .builtin .append, args := #[s, x], argTypes := #[22, 22] }, ty, pos, aft, none⟩) rfl s x 22 rfl B 5 _ 1 Try.underlying22 Try.type5 v l.length (vals l) hs hown.1 hx ?_
    exact h v w (by rw [List.append_nil]; exact hown) (World.grownBy.refl w _) (.inl rfl)
  · refine wpList_append_own_at (w := w) (o := ⟨dst, .call { callee := .builtin .append, args := #[s, x], argTypes := #[22, 22] }, ty, pos, aft, none⟩) rfl s x 22 rfl B 5 _ (.int .u8 0) 1 1 Try.underlying22 Try.type5 rfl rfl rfl rfl (by decide) v l.length (vals l) hs hown.1
      ad m c (vals news) hx (by simp [vals, hsrc.1]) (hsrc.cells ad rfl) (fun u hu => by simp only [vals, List.mem_map] at hu; obtain ⟨_, _, rfl⟩ := hu; rfl) (by unfold maxLen; omega) (by omega) hB ?_
    intro v' w' h1 h2 _ h4
    refine h v' w' ⟨?_, ?_⟩ h2 h4
    · rw [List.length_append, hsrc.1]
      show w'.ownsRow B 5 1 v' (l.length + m) (vals (l ++ news))
      rw [show vals (l ++ news) = vals l ++ vals news from by simp [vals]]
      exact h1
    · intro c hc
      rcases List.mem_append.1 hc with h' | h'
      · exact hown.2 c h'
      · exact hsrc.2.1 c h'

set_option maxHeartbeats 400000 in
theorem copy_any (a : Option Addr) (n cap : Nat) (l : List Nat) (w : World) (hB : Bys w a n l) (hA : a = none → cap = 0) (hn : n ≤ 1000000) :
    Calls Try.prog 17 #[.slice a n cap] w fun e w' => ∃ v, e = .returned v ∧ Own w' w.heap.size v l ∧ Below w.heap.size w w' := by
  have HB := Lib.hid hB
  have HA := Lib.hid hA
  clear hB hA
  go_enter Try.func17, Try.ntmps17
  go_wp2_with (first
    | ((with_reducible refine wpl_append (some 6) _ _ _ (.tmp 4) (.tmp 5) w.heap.size _ [] a n cap l ?hs ?hx (Own.nil _ _) HB.out HA.out ?hm (Nat.le_refl _) ?_); (case hs => rfl); (case hx => rfl); (case hm => simpa using hn); (intro v' w' ho hg hv)))
  go_ret
  exact ⟨_, rfl, ho, (Below.refl _ _).grown hg (Nat.le_refl _) (fun k hk => by cases hk)⟩

theorem Bys.below {w w' : World} {a : Option Addr} {n : Nat} {l : List Nat} (h : Bys w a n l) (hb : Below w.heap.size w w') : Bys w' a n l := by
  obtain ⟨h1, h2, h3⟩ := h
  refine ⟨h1, h2, fun h0 => ?_⟩
  obtain ⟨b, off, e, hc⟩ := h3 h0
  refine ⟨b, off, e, fun i hi => ?_⟩
  have := hc i hi
  rw [hb.cell (block_lt_of_cell this)]
  exact this

theorem Own.alloc {w : World} {B : Nat} {v : Value} {l : List Nat} (h : Own w B v l) (o : Obj) : Own (w.alloc o) B v l := by
  obtain ⟨⟨h0, h1⟩, h2⟩ := h
  refine ⟨⟨h0, ?_⟩, h2⟩
  rcases h1 with h1 | ⟨g, cap, cur, hv, hb, hg, hr⟩
  · exact .inl h1
  · exact .inr ⟨g, cap, cur, hv, hb, Lies.alloc hg o, hr⟩

theorem Own.block {w : World} {B : Nat} {v : Value} {l : List Nat} (h : Own w B v l) : ∀ k, v.ownBlock = some k → B ≤ k := by
  intro k hk
  obtain ⟨⟨_, h1⟩, _⟩ := h
  rcases h1 with ⟨rfl, _⟩ | ⟨g, cap, cur, rfl, hb, _⟩
  · cases hk
  · simp [Value.ownBlock] at hk; omega

/-- An append onto a row of its own changes nothing below it. -/
theorem Own.grows {w w' a : World} {B B0 : Nat} {v : Value} {l : List Nat} (h : Own w B v l) (hg : w.grownBy w' v.ownBlock) (hb : Below B0 a w) (h1 : B0 ≤ B) (h2 : B0 ≤ w.heap.size) : Below B0 a w' :=
  hb.grown hg h2 (fun k hk => Nat.le_trans h1 (h.block k hk))

theorem bys_le (w : World) (s : Nat) (hs : s < 4294967296) (fr : Nat × Nat) :
    Bys (w.alloc (.cells #[.int .u8 ((s : Int) % 256), .int .u8 ((s : Int) / 256 % 256), .int .u8 ((s : Int) / 65536 % 256), .int .u8 ((s : Int) / 16777216)] 5 fr)) (some ⟨w.heap.size, 0, none⟩) 4 (Crc.le s) := by
  refine Bys.const w _ (Crc.le s) fr 4 ?_ rfl ?_
  · have e : (s : Int) / 16777216 = ((s / 16777216 % 256 : Nat) : Int) := by omega
    rw [e]
    simp [Crc.le]
  · intro c hc
    simp [Crc.le] at hc
    omega

/-- The row that is not empty. -/
theorem Own.some_ {w : World} {B : Nat} {v : Value} {l : List Nat} (h : Own w B v l) (h0 : 0 < l.length) : ∃ g cap, v = .slice (some ⟨g, 0, none⟩) l.length cap ∧ Bys w (some ⟨g, 0, none⟩) l.length l ∧ l.length ≤ cap ∧ cap ≤ maxLen := by
  rcases h.form with ⟨_, hl⟩ | ⟨g, cap, cur, hv, _⟩
  · rw [hl] at h0; simp at h0
  · have h2 := h
    rw [hv] at h2
    have := h2.bys
    exact ⟨g, cap, hv, this.1, this.2.1, this.2.2.1⟩

end Go.Proofs.Ytbmempjedpgfdaa
