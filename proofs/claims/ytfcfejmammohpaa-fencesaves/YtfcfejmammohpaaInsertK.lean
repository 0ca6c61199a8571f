/-
  The contract of slices.Insert of one kept step into a row of the call's own.
-/
import Derived.Test.YtfcfejmammohpaaInsert
namespace Go.Proofs.Ytfcfejmammohpaa
open Go.RowKit Go.Lib
set_option maxRecDepth 100000
set_option linter.unusedVariables false
set_option linter.unusedSimpArgs false

def insX (m : Nat) (x : Kx) (X : Nat → Kx) : Nat → Kx := fun j => if j < m then X j else if j = m then x else X (j - 1)
theorem insX_k (m : Nat) (x : Kx) (X : Nat → Kx) (j : Nat) : (insX m x X j).k = ins m x.k (fun i => (X i).k) j := by
  unfold insX ins
  by_cases h : j < m
  · rw [if_pos h, if_pos h]
  · rw [if_neg h, if_neg h]
    by_cases h2 : j = m
    · rw [if_pos h2, if_pos h2]
    · rw [if_neg h2, if_neg h2]
theorem grown_of_below {w w' : World} (h : Below w.heap.size w w') (r : Option Nat) : w.grownBy w' r := ⟨h.os, h.tape, h.output, h.size, fun i hi _ => h.block i hi⟩
theorem grown_puts {a w : World} {g : Nat} (h : a.grownBy w (some g)) (vs : List Value) (o : Nat) : a.grownBy (w.setCells g o vs) (some g) := by
  induction vs generalizing w o with
  | nil => exact h
  | cons v r ih => exact ih (grown_put h o v) (o + 1)
/-- A row with one element more. -/
theorem ownK_ins {w : World} {B g G n i : Nat} {X : Nat → Kx} {y : Kx} {ds : Array Value} (hL : Lies w g 34 ds) (hB : B ≤ g) (hG : n + 1 ≤ G) (hm : G ≤ maxLen) (hs : ds.size = G * 6) (hi : i ≤ n)
    (hd : ∀ k j, k < n + 1 → j < 6 → ds[k * 6 + j]? = if k < i then (kv n X)[k * 6 + j]? else if k = i then (kc y).toList[j]? else (kv n X)[(k - 1) * 6 + j]?) :
    OwnK w B (.slice (some ⟨g, 0, none⟩) (n + 1) G) (n + 1) (insX i y X) := by
  refine ⟨kv_length _ _, .inr ⟨g, G, ds, rfl, hB, hL, hG, hm, hs, ?_⟩⟩
  refine kv_ext (by simp [hs]; omega) (fun k j hk hj => ?_)
  rw [List.getElem?_take, if_pos (by omega), Array.getElem?_toList, hd k j hk hj]
  unfold insX
  by_cases h : k < i
  · rw [if_pos h, if_pos h, kv_at n X k j (by omega) hj]
  · rw [if_neg h, if_neg h]
    by_cases h2 : k = i
    · rw [if_pos h2, if_pos h2]
    · rw [if_neg h2, if_neg h2, kv_at n X (k - 1) j (by omega) hj]
theorem shift_at (cs ys : List Value) (cur d1 d2 : Array Value) (n i : Nat) (hcl : cs.length = n * 6) (hyl : ys.length = 6) (hi : i < n) (hcur : ∀ j, j < n * 6 → cur[j]? = cs[j]?)
    (e1 : ∀ j, d1[j]? = if (i + 1) * 6 ≤ j ∧ j < (i + 1) * 6 + (cs.drop (i * 6)).length then (cs.drop (i * 6))[j - (i + 1) * 6]? else cur[j]?)
    (e2 : ∀ j, d2[j]? = if i * 6 ≤ j ∧ j < i * 6 + ys.length then ys[j - i * 6]? else d1[j]?) :
    ∀ k j, k < n + 1 → j < 6 → d2[k * 6 + j]? = if k < i then cs[k * 6 + j]? else if k = i then ys[j]? else cs[(k - 1) * 6 + j]? := by
  intro k j hk hj
  rw [e2, e1, List.length_drop, hcl, hyl]
  by_cases h : k < i
  · rw [if_neg (by omega), if_neg (by omega), if_pos h, hcur _ (by omega)]
  · rw [if_neg h]
    by_cases h2 : k = i
    · rw [if_pos (by omega), if_pos h2, show k * 6 + j - i * 6 = j by omega]
    · rw [if_neg (by omega), if_pos (by omega), if_neg h2, List.getElem?_drop, show i * 6 + (k * 6 + j - (i + 1) * 6) = (k - 1) * 6 + j by omega]
theorem grow_at (cs ys : List Value) (ROW d1 d2 : Array Value) (n i : Nat) (hcl : cs.length = n * 6) (hyl : ys.length = 6) (hi : i < n) (hRt : ∀ j, j < i * 6 → ROW[j]? = cs[j]?)
    (e1 : ∀ j, d1[j]? = if i * 6 ≤ j ∧ j < i * 6 + ys.length then ys[j - i * 6]? else ROW[j]?)
    (e2 : ∀ j, d2[j]? = if (i + 1) * 6 ≤ j ∧ j < (i + 1) * 6 + (cs.drop (i * 6)).length then (cs.drop (i * 6))[j - (i + 1) * 6]? else d1[j]?) :
    ∀ k j, k < n + 1 → j < 6 → d2[k * 6 + j]? = if k < i then cs[k * 6 + j]? else if k = i then ys[j]? else cs[(k - 1) * 6 + j]? := by
  intro k j hk hj
  rw [e2, e1, List.length_drop, hcl, hyl]
  by_cases h : k < i
  · rw [if_neg (by omega), if_neg (by omega), if_pos h, hRt _ (by omega)]
  · rw [if_neg h]
    by_cases h2 : k = i
    · rw [if_neg (by omega), if_pos (by omega), if_pos h2, show k * 6 + j - i * 6 = j by omega]
    · rw [if_pos (by omega), if_neg h2, List.getElem?_drop, show i * 6 + (k * 6 + j - (i + 1) * 6) = (k - 1) * 6 + j by omega]
theorem shape_lies {w : World} {g : Nat} {t : TypeId} {cs : Array Value} (h : Lies w g t cs) : w.shape? g = some (t, cs.size) := by
  unfold Lies at h
  simp [World.shape?, h]
set_option maxHeartbeats 1000000 in
theorem insert_end (B g0 n c : Nat) (A : Option Addr) (X : Nat → Kx) (y : Kx) (w : World) (hown : OwnK w B (.slice A n c) n X) (hy : KT w y) (hg : Lies w g0 34 (kc y)) (hn : n ≤ 1000) (hB : B ≤ w.heap.size) (hnc : n ≤ c) :
    Calls Try.prog 50 #[.slice A n c, .int .i64 (n : Int), .slice (some ⟨g0, 0, none⟩) 1 1] w fun e w' => ∃ v', e = .returned v' ∧ OwnK w' B v' (n + 1) (insX n y X) ∧ w.grownBy w' (Value.slice A n c).ownBlock := by
  have HO := Lib.hid hown
  have HS : Hid (Ks w (some ⟨g0, 0, none⟩) 1 (fun _ => y)) := Lib.hid (by
    refine ⟨fun _ => ⟨g0, 0, rfl, fun k hk j hj => ?_⟩, fun _ _ => hy⟩
    rw [hg.cell]
    obtain rfl : k = 0 := by omega
    simp)
  have HI : Hid (∀ k, k < n + 1 → (if k < n then X k else y) = insX n y X k) := Lib.hid (fun k hk => by
    unfold insX
    by_cases h : k < n
    · rw [if_pos h, if_pos h]
    · rw [if_neg h, if_neg h, if_pos (by omega)])
  clear hown hy hg
  have z1 : ((n : Int) == (n : Int)) = true := by simp
  have q2 : (n : Int) ≤ (n : Int) := by omega
  by_cases hcn : c = n
  · subst hcn
    go_enter Try.func50, Try.ntmps50
    go_wp2_with (first
      | ((with_reducible refine wpl_appendK (some 25) _ _ _ (.tmp 23) (.tmp 24) B (.slice A c c) c X (some ⟨g0, 0, none⟩) 1 1 (fun _ => y) ?hs ?hx HO.out HS.out ?ha ?hm ?hz ?_); (case hs => rfl); (case hx => rfl); (case ha => (intro h; cases h)); (case hm => omega); (case hz => exact hB); (intro v' w' ho hgr hv); (have HO2 := Lib.hid ho); (have HG2 := Lib.hid hgr); (clear ho hgr hv)))
    all_goals
      go_ret
      exact ⟨_, rfl, HO2.out.congr HI.out, HG2.out⟩
  · have q1 : (n : Int) ≤ (c : Int) := by omega
    go_enter Try.func50, Try.ntmps50
    go_wp2_with (first
      | ((with_reducible refine wpl_appendK (some 25) _ _ _ (.tmp 23) (.tmp 24) B (.slice A n c) n X (some ⟨g0, 0, none⟩) 1 1 (fun _ => y) ?hs ?hx HO.out HS.out ?ha ?hm ?hz ?_); (case hs => rfl); (case hx => rfl); (case ha => (intro h; cases h)); (case hm => omega); (case hz => exact hB); (intro v' w' ho hgr hv); (have HO2 := Lib.hid ho); (have HG2 := Lib.hid hgr); (clear ho hgr hv)))
    all_goals
      go_ret
      exact ⟨_, rfl, HO2.out.congr HI.out, HG2.out⟩
theorem insert_mid (B b g0 n c i : Nat) (X : Nat → Kx) (y : Kx) (w : World) (cur : Array Value) (hL : Lies w b 34 cur) (hb : B ≤ b) (hs : cur.size = c * 6) (hcur : ∀ j, j < n * 6 → cur[j]? = (kv n X)[j]?) (hX : ∀ i, i < n → One (X i)) (hy : One y) (hg : Lies w g0 34 (kc y)) (hgb : g0 ≠ b) (hi : i < n) (hn : n ≤ 1000) (hB : B ≤ w.heap.size) (hnc : n ≤ c) (hcm : c ≤ maxLen) :
    Calls Try.prog 50 #[.slice (some ⟨b, 0, none⟩) n c, .int .i64 (i : Int), .slice (some ⟨g0, 0, none⟩) 1 1] w fun e w' => ∃ v', e = .returned v' ∧ OwnK w' B v' (n + 1) (insX i y X) ∧ w.grownBy w' (some b) := by
  have hcs : ∀ j v, (kv n X)[j]? = some v → w.cell? ⟨b, j, none⟩ = some v := fun j v h => by
    have hj : j < n * 6 := by have := (List.getElem?_eq_some_iff.1 h).1; rwa [kv_length] at this
    rw [hL.cell, hcur j hj, h]
  have hvs : ∀ j v, (kc y).toList[j]? = some v → w.cell? ⟨g0, j, none⟩ = some v := fun j v h => by
    rw [hg.cell]; simpa using h
  have hyl : (kc y).toList.length = 6 := rfl
  have h1y := kc_one y hy
  have hsa := shape_lies hg
  have hga : (kc y).size = 6 := rfl
  rw [hga] at hsa
  have hf0 := hg.free 0
  have hf6 := hg.free 6
  have HI := fun (ds : Array Value) (W : World) (g G : Nat) (h1 : Lies W g 34 ds) (h2 : B ≤ g) (h3 : n + 1 ≤ G) (h4 : G ≤ maxLen) (h5 : ds.size = G * 6) h6 => ownK_ins (B := B) (n := n) (i := i) (X := X) (y := y) h1 h2 h3 h4 h5 (Nat.le_of_lt hi) h6
  generalize (kc y).toList = ys at *
  clear hg
  have hkl := kv_length n X
  have h1c := kv_one n X hX
  generalize kv n X = cs at *
  by_cases hroom : n + 1 ≤ c
  · have h63 : c ≤ 9223372036854775807 := by unfold maxLen at hcm; omega
    have hsp : ∀ j, j < (n + 1) * 6 → (w.cell? ⟨b, j, none⟩).isSome = true := fun j hj => by rw [hL.cell, Array.getElem?_eq_getElem (by omega)]; rfl
    have hsb := shape_lies hL
    have hk0 : cur.size ≠ 0 := by omega
    refine (insert_shift b n c i g0 cs ys w hi hroom h63 hgb hkl hyl hcs hsp (fun j => hL.free j) hvs h1c h1y 34 34 6 cur.size hsa hsb hk0 hf0 hf6).mono ?_
    rintro e w' ⟨rfl, rfl⟩
    have l1 : (i + 1) * 6 + (cs.drop (i * 6)).length ≤ cur.size := by rw [List.length_drop, hkl, hs]; omega
    obtain ⟨d1, k1, s1, e1⟩ := Lies.puts' (cs.drop (i * 6)) ((i + 1) * 6) w.drew cur hL l1
    have l2 : i * 6 + ys.length ≤ d1.size := by rw [s1, hs, hyl]; omega
    obtain ⟨d2, k2, s2, e2⟩ := Lies.puts' ys (i * 6) _ d1 k1 l2
    exact ⟨_, rfl, HI d2 _ b c k2 hb hroom hcm (by rw [s2, s1, hs]) (shift_at cs ys cur d1 d2 n i hkl hyl hi hcur e1 e2), grown_puts (grown_puts (grown_drew (World.grownBy.refl w _)) _ _) _ _⟩
  · refine (insert_grow b n c i g0 cs ys w hi hnc (by omega) (by omega) hkl hyl hcs hvs h1c h1y).mono ?_
    rintro e w' ⟨G, ROW, hG, hGm, hRs, hRt, rfl, rfl⟩
    have k0 : Lies (w.alloc (.cells ROW 34)).drew w.heap.size 34 ROW := Lies.made w 34 ROW
    have l1 : i * 6 + ys.length ≤ ROW.size := by rw [hRs, hyl]; omega
    obtain ⟨d1, k1, s1, e1⟩ := Lies.puts' ys (i * 6) _ ROW k0 l1
    have k1' : Lies ((w.alloc (.cells ROW 34)).drew.setCells w.heap.size (i * 6) ys).drew w.heap.size 34 d1 := k1
    have l2 : (i + 1) * 6 + (cs.drop (i * 6)).length ≤ d1.size := by rw [List.length_drop, hkl, s1, hRs]; omega
    obtain ⟨d2, k2, s2, e2⟩ := Lies.puts' (cs.drop (i * 6)) ((i + 1) * 6) _ d1 k1' l2
    exact ⟨_, rfl, HI d2 _ w.heap.size G k2 hB hG hGm (by rw [s2, s1, hRs]) (grow_at cs ys ROW d1 d2 n i hkl hyl hi hRt e1 e2), grown_of_below (below_puts ((below_puts (below1 w _).drew (Nat.le_refl _) _ _).drew) (Nat.le_refl _) _ _) _⟩
theorem insert_any (B g0 n i : Nat) (v : Value) (X : Nat → Kx) (y : Kx) (w : World) (hown : OwnK w B v n X) (hX : ∀ i, i < n → One (X i)) (hy : KT w y) (hg : Lies w g0 34 (kc y)) (hne : v.ownBlock ≠ some g0) (hi : i ≤ n) (hn : n ≤ 1000) (hB : B ≤ w.heap.size) :
    Calls Try.prog 50 #[v, .int .i64 (i : Int), .slice (some ⟨g0, 0, none⟩) 1 1] w fun e w' => ∃ v', e = .returned v' ∧ OwnK w' B v' (n + 1) (insX i y X) ∧ w.grownBy w' v.ownBlock := by
  by_cases hin : i = n
  · subst hin
    obtain ⟨A, c, rfl, hnc, hcm, hA, hat⟩ := hown.slice
    exact insert_end B g0 i c A X y w hown hy hg hn hB hnc
  · have hlt : i < n := by omega
    rcases hown.2 with ⟨h1, h2⟩ | ⟨g, cap, cur, hv, hb, hL, hnc, hcm, hs, ht⟩
    · omega
    · subst hv
      exact insert_mid B g g0 n cap i X y w cur hL hb hs (fun j hj => by rw [← ht, List.getElem?_take, if_pos hj, Array.getElem?_toList]) hX hy.one hg (fun e => hne (by rw [e]; rfl)) hlt hn hB hnc hcm

end Go.Proofs.Ytfcfejmammohpaa
