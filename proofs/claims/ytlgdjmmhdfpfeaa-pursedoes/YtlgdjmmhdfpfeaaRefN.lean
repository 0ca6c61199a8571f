/-
  The contract of the reference's New.
-/
import Derived.Test.YtlgdjmmhdfpfeaaRefF
import Derived.Test.YtlgdjmmhdfpfeaaNewF
import Derived.Sort.Walk0
namespace Go.Proofs.Ytlgdjmmhdfpfeaa
open Go.Proofs Go.RowKit Go.Maps
set_option maxRecDepth 100000
set_option linter.unusedVariables false
set_option linter.unusedSimpArgs false

theorem ins_at {K : List Kd} (hs : KSort K) (y : Kd) : ∀ {k : Nat}, k ≤ K.length → (∀ (i : Nat) (hi : i < K.length), i < k → K[i].n < y.n) → (∀ (h : k < K.length), ¬ K[k].n < y.n ∧ K[k].n ≠ y.n) → insK y K = K.take k ++ y :: K.drop k ∧ findK K y.n = none := by
  induction K with
  | nil => intro k hk _ _; have : k = 0 := by simpa using hk
           subst this; exact ⟨rfl, rfl⟩
  | cons c r ih =>
    obtain ⟨h1, h2⟩ := List.pairwise_cons.1 hs
    intro k hk hlt hge
    cases k with
    | zero =>
      have h := hge (by simp)
      rw [List.getElem_cons_zero] at h
      have hyc : y.n < c.n := nm_tri h.1 h.2
      refine ⟨by unfold insK; rw [if_pos hyc]; rfl, findK_none' fun z hz e => ?_⟩
      rcases List.mem_cons.1 hz with rfl | hz
      · exact h.2 e
      · have := nm_trans hyc (h1 z hz)
        rw [e] at this
        exact nm_irrefl _ this
    | succ k =>
      have hc := hlt 0 (by simp) (by omega)
      rw [List.getElem_cons_zero] at hc
      obtain ⟨e1, e2⟩ := ih h2 (k := k) (by simpa using hk) (fun i hi hik => by have := hlt (i + 1) (by simpa using hi) (by omega); simpa using this) (fun h => by have := hge (by simpa using h); simpa using this)
      refine ⟨by conv => lhs; unfold insK
                 rw [if_neg (nm_asymm hc), e1]; rfl, findK_none' fun z hz e => ?_⟩
      rcases List.mem_cons.1 hz with rfl | hz
      · rw [e] at hc; exact nm_irrefl _ hc
      · exact findK_none e2 z hz e
theorem addG_bad {K : List Kd} {g : Kd} (h : goodB g.n g.m g.h = false) : addG K g = none := by unfold addG; rw [h]; simp
theorem addG_twice {K : List Kd} {g : Kd} {k : Kd} (hk : k ∈ K) (e : k.n = g.n) : addG K g = none := by
  unfold addG
  cases hf : findK K g.n with
  | none => exact absurd e (findK_none hf k hk)
  | some z => simp
theorem addG_ins {K : List Kd} (hs : KSort K) {g : Kd} (hg : goodB g.n g.m g.h = true) {k : Nat} (hk : k ≤ K.length) (h1 : ∀ (i : Nat) (hi : i < K.length), i < k → K[i].n < g.n) (h2 : ∀ (h : k < K.length), ¬ K[k].n < g.n ∧ K[k].n ≠ g.n) :
    ∃ K', addG K g = some K' ∧ K' = K.take k ++ [g] ++ K.drop k := by
  obtain ⟨e1, e2⟩ := ins_at hs g hk h1 h2
  refine ⟨_, by unfold addG; rw [show findK K g.n = none from e2, hg]; rfl, ?_⟩
  rw [e1, List.append_assoc]
  rfl
theorem newOf_stop {l : List Kd} {j : Nat} (hj : newGo [] (l.take j) = none) : newOf l = none := by
  unfold newOf
  split
  · rfl
  · exact newGo_none hj

/-- 'append' of many goods. -/
theorem wpl_appGs {ops : Array Oper} {rest : List Oper} {a : Act} {w : World} {Q : Exit → Act → World → Prop} (dst : Option Tmp) (ty : TypeId) (pos : String) (aft : Array Edge) (s x : Operand)
    (B : Nat) (v : Value) (l y : List Kd) (b o c m : Nat) (hm : y.length = m)
    (hs : a.eval s = v) (hx : a.eval x = .slice (some ⟨b, o, none⟩) m c) (hown : OwnG w B v l) (hsrc : ∀ (i : Nat) (hi : i < y.length), w.cell? ⟨b, o + i * 3, none⟩ = some (encStr y[i].n) ∧ w.cell? ⟨b, o + i * 3 + 1, none⟩ = some (.int .i64 y[i].m) ∧ w.cell? ⟨b, o + i * 3 + 2, none⟩ = some (.int .i64 y[i].h)) (hsm : l.length + y.length ≤ 100000) (hB : B ≤ w.heap.size)
    (h : ∀ v' w', OwnG w' B v' (l ++ y) → w.grownBy w' v.ownBlock → (v'.ownBlock = v.ownBlock ∨ v'.ownBlock = some w.heap.size) → wpList Try.prog ops Q rest (a.put dst v') w') :
    wpList Try.prog ops Q (⟨dst, .call { callee := .builtin .append, args := #[s, x], argTypes := #[22, 22] }, ty, pos, aft, none⟩ :: rest) a w := by
  subst hm
  refine wpList_append_own_at (w := w) (o := ⟨dst, .call { callee := .builtin .append, args := #[s, x], argTypes := #[22, 22] }, ty, pos, aft, none⟩) rfl s x 22 rfl B 46 _ _ 3 32 Try.underlying22 Try.type46 rfl rfl rfl rfl (by decide) v l.length (flat encG l) hs hown
    ⟨b, o, none⟩ y.length c (flat encG y) hx (flat_len encG_len y) (fun j u hu => ?_) (fun u hu => ?_) (by unfold maxLen; omega) (by omega) hB ?_
  · have hj : j < y.length * 3 := by have := (List.getElem?_eq_some_iff.1 hu).1; rwa [flat_len encG_len] at this
    have hq : j / 3 < y.length := by omega
    have e := flat_get encG_len y (j / 3) hq (j % 3) (by omega)
    rw [show j / 3 * 3 + j % 3 = j from by omega, hu] at e
    rw [Addr.add_mid]
    obtain ⟨c1, c2, c3⟩ := hsrc (j / 3) hq
    rcases (by omega : j % 3 = 0 ∨ j % 3 = 1 ∨ j % 3 = 2) with hm | hm | hm
    · rw [hm] at e
      rw [show o + j = o + j / 3 * 3 from by omega, c1]
      exact e.symm
    · rw [hm] at e
      rw [show o + j = o + j / 3 * 3 + 1 from by omega, c2]
      exact e.symm
    · rw [hm] at e
      rw [show o + j = o + j / 3 * 3 + 2 from by omega, c3]
      exact e.symm
  · obtain ⟨z, -, hz⟩ := List.mem_flatMap.1 hu
    exact encG_one z u hz
  · intro v' w' r1 r2 _ r4
    refine h v' w' ?_ r2 r4
    show w'.ownsRow B 46 3 v' (l ++ y).length (flat encG (l ++ y))
    rw [List.length_append, show flat encG (l ++ y) = flat encG l ++ flat encG y from by simp [flat]]
    exact r1

theorem OwnE.addr {α : Type} {enc : α → List Value} {e : TypeId} {k : Nat} {w : World} {B : Nat} {A : Option Addr} {n c : Nat} {l : List α} (h : OwnE enc e k w B (.slice A n c) l) : (A = none ∧ c = 0 ∧ l = []) ∨ ∃ b o, A = some ⟨b, o, none⟩ := by
  rcases h.form with ⟨hv, hl⟩ | ⟨g, cap, cur, hv, _⟩
  · injection hv with q1 q2 q3
    exact .inl ⟨q1, q3, hl⟩
  · injection hv with q1 q2 q3
    exact .inr ⟨g, 0, q1⟩
theorem drop_cells {w : World} {B b o n c : Nat} {F : List Kd} (h : OwnG w B (.slice (some ⟨b, o, none⟩) n c) F) (k : Nat) : ∀ (i : Nat) (hi : i < (F.drop k).length), w.cell? ⟨b, o + k * 3 + i * 3, none⟩ = some (encStr (F.drop k)[i].n) ∧ w.cell? ⟨b, o + k * 3 + i * 3 + 1, none⟩ = some (.int .i64 (F.drop k)[i].m) ∧ w.cell? ⟨b, o + k * 3 + i * 3 + 2, none⟩ = some (.int .i64 (F.drop k)[i].h) := by
  intro i hi
  have hi2 : k + i < F.length := by rw [List.length_drop] at hi; omega
  obtain ⟨A, c', e, hH, -⟩ := h.gin
  injection e with q1 q2 q3
  subst q1
  obtain ⟨b0, o0, e2, -, hc⟩ := hH.2 (by omega)
  injection e2 with e2
  injection e2 with e2 e3
  subst e2 e3
  have := hc (k + i) hi2
  rw [List.getElem_drop]
  rw [show o + k * 3 + i * 3 = o + (k + i) * 3 from by omega]
  exact this
theorem rn_fin {w W2 w5 w6 : World} {g : Nat} {vF v5 : Value} {F F' : List Kd} (hg : g = w.heap.size) (h2 : RAt W2 w.heap.size g vF (.slice none 0 0) ⟨F, []⟩) (hBE : Below w.heap.size w W2) (hB5 : Below W2.heap.size W2 w5) (ho : OwnG w5 W2.heap.size v5 F') (hp : PutW w5 w6 g 63 #[v5, .slice none 0 0]) : RAt w6 w.heap.size g v5 (.slice none 0 0) ⟨F', []⟩ ∧ Below w.heap.size w w6 := by
  have hz := h2.c.lt
  refine ⟨⟨hp.lies, (ho.low hBE.size).grown hp.grown fun k hk e => ?_, OwnE.nil _ _, h2.lo⟩, ?_⟩
  · injection e with e
    have := (ho.block k hk).1
    omega
  · exact (hBE.trans (hB5.mono hBE.size)).grown hp.grown (by have := hBE.size; have := hB5.size; omega) (fun k hk => by injection hk with hk; omega)
theorem wpl_appG0 {ops : Array Oper} {rest : List Oper} {a : Act} {w : World} {Q : Exit → Act → World → Prop} (dst : Option Tmp) (ty : TypeId) (pos : String) (aft : Array Edge) (s x : Operand)
    (B : Nat) (v : Value) (l : List Kd) (hs : a.eval s = v) (hx : a.eval x = .slice none 0 0) (hown : OwnG w B v l)
    (h : wpList Try.prog ops Q rest (a.put dst v) w) :
    wpList Try.prog ops Q (⟨dst, .call { callee := .builtin .append, args := #[s, x], argTypes := #[22, 22] }, ty, pos, aft, none⟩ :: rest) a w := by
  refine wpList_plain rfl fun K' hK' => ?_
  unfold Oper.wp execOp
  simp only [resolve, invoke, builtin, Sem.run_bind, Sem.run_pure, Result.andThen_ok, List.map_toArray, List.map_cons, List.map_nil, hs, hx]
  have hr : (Builtin.append_ #[22, 22] ty #[v, .slice none 0 0]).run Try.prog w = .ok v w := by
    have hu := Try.underlying22
    rcases hown.form with ⟨rfl, _⟩ | ⟨g', cap, cur, rfl, h1, h2, h3, _⟩
    · simp [Builtin.append_, hu, Builtin.lenOf, Builtin.firstCells]
    · simp [Builtin.append_, hu, h3, Builtin.lenOf, Builtin.firstCells, storeCells]
  rw [hr]
  exact hK' _ _ h

def rz (vF : Value) : Array Value := #[vF, .slice none 0 0]
def RnPost (w : World) (l : List Kd) (e : Ending) (w' : World) : Prop :=
  Below w.heap.size w w' ∧ ((newOf l = none ∧ e = .returned (.tuple #[.pointer none, .int .i64 2])) ∨
    ∃ K g vF vL, newOf l = some K ∧ e = .returned (.tuple #[.pointer (some ⟨g, 0, none⟩), .int .i64 0]) ∧ RAt w' w.heap.size g vF vL ⟨K, []⟩)
def RnI (w : World) (l : List Kd) (g : Nat) (v5 : Value) (wr : World) : Prop := ∃ (j : Nat) (K : List Kd) (vF : Value), j ≤ l.length ∧ v5 = .int .i64 (j : Int) ∧ newGo [] (l.take j) = some K ∧ RAt wr w.heap.size g vF (.slice none 0 0) ⟨K, []⟩ ∧ Below w.heap.size w wr
def RnJ (F : List Kd) (x : List UInt8) (y : World) (v7 v8 : Value) (wq : World) : Prop := ∃ k : Nat, k ≤ F.length ∧ v8 = .int .i64 (k : Int) ∧ (∀ (i : Nat) (hi : i < F.length), i < k → F[i].n < x) ∧ OwnG wq y.heap.size v7 (F.take k) ∧ Below y.heap.size y wq

set_option maxHeartbeats 16000000 in
theorem rnew_any (A : Option Addr) (n c : Nat) (l : List Kd) (w : World) (hG : Gin w A n l) (hn : n ≤ 1000) :
    Calls Try.prog 12 #[.slice A n c] w (RnPost w l) := by
  have HG := Lib.hid hG
  have HLN := Lib.hid hG.1
  clear hG
  by_cases h50 : 50 < n
  · have hno : newOf l = none := by unfold newOf; rw [if_pos (by rw [HLN.out]; exact h50)]
    have HNO := Lib.hid hno
    have e0 : (50 : Int) < (n : Int) := by omega
    clear hno
    go_enter Try.func12, Try.ntmps12
    go_wp2
    go_ret2
    exact ⟨Below.refl _ _, .inl ⟨HNO.out, rfl⟩⟩
  · have e0 : decide ((50 : Int) < (n : Int)) = false := by simp; omega
    go_enter Try.func12, Try.ntmps12
    go_wp2_with fail
    obtain ⟨y, hy⟩ : ∃ y, y = w.alloc (.cells #[.slice none 0 0, .slice none 0 0] 63) := ⟨_, rfl⟩
    rw [← hy]
    have HR0 : Hid (RAt y w.heap.size w.heap.size (.slice none 0 0) (.slice none 0 0) ⟨[], []⟩) := Lib.hid (by
      rw [hy]
      exact ⟨Lies.made _ _ _, OwnE.nil _ _, OwnE.nil _ _, Nat.le_refl _⟩)
    have HB0 : Hid (Below w.heap.size w y) := Lib.hid (by rw [hy]; exact below1 _ _)
    clear hy
    obtain ⟨g, hg⟩ : ∃ g, g = w.heap.size := ⟨_, rfl⟩
    rw [← hg]
    have HGG := Lib.hid hg
    clear hg
    go_loopw [5] (fun v5 wr => RnI w l g v5 wr) (fun i _ => n - (intOf i).toNat)
    case atStart => exact ⟨0, [], _, by omega, rfl, rfl, by rw [HGG.out]; exact HR0.out, HB0.out⟩
    case round =>
      clear HR0 HB0
      obtain ⟨j, K, vF, hj, rfl, hgo, hR, hB⟩ := hrel
      have HR := Lib.hid hR
      have HB := Lib.hid hB
      have HGO := Lib.hid hgo
      clear hR hB hgo
      have hjn : j ≤ n := by have := HLN.out; omega
      by_cases hlt : j < n
      · have hlt2 : (j : Int) < (n : Int) := by omega
        have hlt3 : j < l.length := by have := HLN.out; omega
        obtain ⟨b0, off, rfl, hbl, hcell⟩ := HG.out.2 (by omega)
        obtain ⟨x0, x1, x2⟩ := hcell j hlt3
        obtain ⟨xx, hxx⟩ : ∃ q, l[j] = q := ⟨_, rfl⟩
        have HST := Lib.hid (newGo_step hlt3 HGO.out)
        rw [hxx] at x0 x1 x2 HST
        rw [← HB.out.cell (p := ⟨b0, off + j * 3, none⟩) hbl] at x0
        rw [← HB.out.cell (p := ⟨b0, off + j * 3 + 1, none⟩) hbl] at x1
        rw [← HB.out.cell (p := ⟨b0, off + j * 3 + 2, none⟩) hbl] at x2
        clear hcell hxx
        obtain ⟨xn, xm, xh⟩ := xx
        dsimp only at x0 x1 x2
        have HBE : Hid (Below w.heap.size w (wr.alloc (.cells #[encStr xn, .int .i64 xm, .int .i64 xh] 46))) := Lib.hid (HB.out.alloc HB.out.size _)
        by_cases b1 : xn.length < 1
        · have b1' : ((xn.length : Int) < 1) := by omega
          have HNO : Hid (newOf l = none) := Lib.hid (newOf_stop (j := j + 1) (by rw [HST.out]; refine addG_bad ?_; rw [← Bool.not_eq_true, goodB_iff]; dsimp only; omega))
          go_wp2
          go_ret2
          exact ⟨HBE.out, .inl ⟨HNO.out, rfl⟩⟩
        have b1' : decide ((xn.length : Int) < 1) = false := by simp; omega
        by_cases b2 : 32 < xn.length
        · have b2' : ((32 : Int) < (xn.length : Int)) := by omega
          have HNO : Hid (newOf l = none) := Lib.hid (newOf_stop (j := j + 1) (by rw [HST.out]; refine addG_bad ?_; rw [← Bool.not_eq_true, goodB_iff]; dsimp only; omega))
          go_wp2
          go_ret2
          exact ⟨HBE.out, .inl ⟨HNO.out, rfl⟩⟩
        have b2' : decide ((32 : Int) < (xn.length : Int)) = false := by simp; omega
        by_cases b3 : xm < 0
        · have HNO : Hid (newOf l = none) := Lib.hid (newOf_stop (j := j + 1) (by rw [HST.out]; refine addG_bad ?_; rw [← Bool.not_eq_true, goodB_iff]; dsimp only; omega))
          go_wp2
          go_ret2
          exact ⟨HBE.out, .inl ⟨HNO.out, rfl⟩⟩
        have b3' : decide (xm < 0) = false := by simpa using b3
        by_cases b4 : 1000000000 < xm
        · have HNO : Hid (newOf l = none) := Lib.hid (newOf_stop (j := j + 1) (by rw [HST.out]; refine addG_bad ?_; rw [← Bool.not_eq_true, goodB_iff]; dsimp only; omega))
          go_wp2
          go_ret2
          exact ⟨HBE.out, .inl ⟨HNO.out, rfl⟩⟩
        have b4' : decide (1000000000 < xm) = false := by simpa using b4
        by_cases b5 : xh ≠ 0
        · have b5' : (xh == 0) = false := by simpa using b5
          have b6' : (xh != 0) = true := by simpa using b5
          have HNO : Hid (newOf l = none) := Lib.hid (newOf_stop (j := j + 1) (by rw [HST.out]; refine addG_bad ?_; rw [← Bool.not_eq_true, goodB_iff]; dsimp only; omega))
          go_wp2
          go_ret2
          exact ⟨HBE.out, .inl ⟨HNO.out, rfl⟩⟩
        have b5' : (xh == 0) = true := by simpa using b5
        have b6' : (xh != 0) = false := by simpa using b5
        have HGD : Hid (goodB xn xm xh = true) := Lib.hid (goodB_iff.2 ⟨by omega, by omega, by omega, by omega, by omega⟩)
        have HKS := Lib.hid (NewK.go HGO.out).ks
        have HKZ : Hid (K.length = j) := Lib.hid (by have := (NewK.go HGO.out).len; rw [this, List.length_take]; omega)
        clear b1 b2 b3 b4 b5
        obtain ⟨W2, hW2⟩ : ∃ W2, W2 = wr.alloc (.cells #[encStr xn, .int .i64 xm, .int .i64 xh] 46) := ⟨_, rfl⟩
        go_wp2_with fail
        rw [← hW2]
        rw [← hW2] at HBE
        have L6 : Hid (Lies W2 wr.heap.size 46 #[encStr xn, .int .i64 xm, .int .i64 xh]) := Lib.hid (by rw [hW2]; exact Lies.made _ _ _)
        have HR2 : Hid (RAt W2 w.heap.size g vF (.slice none 0 0) ⟨K, []⟩) := Lib.hid (by rw [hW2]; exact HR.out.alloc _)
        clear hW2 x0 x1 x2 b1' b2' b3' b4' b5' b6' HB HR
        obtain ⟨F, hF⟩ : ∃ F, K = F := ⟨_, rfl⟩
        have HFZ : Hid (F.length = K.length) := Lib.hid (by rw [hF])
        have HFA : Hid (∀ (i : Nat) (hi : i < K.length) (hi2 : i < F.length), F[i] = K[i]) := Lib.hid (by subst hF; exact fun i hi hi2 => rfl)
        have HR2 : Hid (RAt W2 w.heap.size g vF (.slice none 0 0) ⟨F, []⟩) := Lib.hid (by rw [← hF]; exact HR2.out)
        have HFF := Lib.hid hF
        clear hF
        have HFL : Hid (F.length ≤ 1000) := Lib.hid (by have := HFZ.out; have := HKZ.out; omega)
        obtain ⟨AF, cF, rfl, -, hcf, -⟩ := HR2.out.f.gin
        have HCF : Hid (F.length ≤ cF) := Lib.hid hcf
        clear hcf
        have hfz : (F.length : Int) ≤ 1000 := by have := HFL.out; omega
        obtain ⟨bx, hbx⟩ : ∃ bx, bx = wr.heap.size := ⟨_, rfl⟩
        rw [← hbx]
        rw [← hbx] at L6
        clear hbx
        go_loopw [7, 8] (fun v7 v8 wq => RnJ F xn W2 v7 v8 wq) (fun _ i _ => F.length - (intOf i).toNat)
        case atStart => exact ⟨0, by omega, rfl, (fun i hi h => by omega), by rw [List.take_zero]; exact OwnE.nil _ _, Below.refl _ _⟩
        case round =>
          obtain ⟨k, hk, rfl, hall, hO, hB⟩ := hrel
          have HALL := Lib.hid hall
          have HO := Lib.hid hO
          have HB := Lib.hid hB
          have HRq := Lib.hid (HR2.out.below hB)
          have L6q := Lib.hid (L6.out.below hB L6.out.lt)
          clear hall hO hB
          obtain ⟨c0, c1⟩ := HRq.out.c.cells2
          obtain ⟨d0, d1, d2⟩ := L6q.out.cells3
          by_cases hk1 : k < F.length
          · have hk2 : (k : Int) < (F.length : Int) := by omega
            obtain ⟨A5, c5, e5, hH5, -⟩ := HRq.out.f.gin
            injection e5 with q1 q2 q3
            subst q1 q3
            obtain ⟨b1, o1, rfl, hb1, hcell⟩ := hH5.2 (by show 0 < F.length; omega)
            obtain ⟨y0, y1, y2⟩ := hcell k hk1
            obtain ⟨yy, hyy⟩ : ∃ z, F[k] = z := ⟨_, rfl⟩
            rw [hyy] at y0 y1 y2
            have HYY := Lib.hid hyy
            clear hcell hH5 hyy q2
            obtain ⟨yn, ym, yh⟩ := yy
            dsimp only at *
            by_cases hls : yn < xn
            · have hls2 : Op.bytesLess yn xn = true := by rw [bytesLess_eq]; simpa using hls
              have HST2 : Hid (F.take (k + 1) = F.take k ++ [⟨yn, ym, yh⟩]) := Lib.hid (by rw [List.take_succ_eq_append_getElem hk1, HYY.out])
              go_wp2_with fail
              go_quiet (fail)
              obtain ⟨wy, hwy⟩ : ∃ wy, wy = wr.drewN nq := ⟨_, rfl⟩
              rw [← hwy]
              have HBY : Hid (Below wr.heap.size wr wy) := Lib.hid (by rw [hwy]; exact below_drewN (Below.refl _ _) _)
              have HBW : Hid (Below W2.heap.size W2 wy) := Lib.hid (by rw [hwy]; exact below_drewN HB.out _)
              have c0' : wy.cell? ⟨g, 0, none⟩ = some (.slice (some ⟨b1, o1, none⟩) F.length cF) := by rw [hwy]; exact c0
              have y0' : wy.cell? ⟨b1, o1 + k * 3, none⟩ = some (encStr yn) := by rw [hwy]; exact y0
              have y1' : wy.cell? ⟨b1, o1 + k * 3 + 1, none⟩ = some (.int .i64 ym) := by rw [hwy]; exact y1
              have y2' : wy.cell? ⟨b1, o1 + k * 3 + 2, none⟩ = some (.int .i64 yh) := by rw [hwy]; exact y2
              clear hwy c0 c1 d0 d1 d2 y0 y1 y2 hls2
              have HO3 : Hid (OwnG (wy.alloc (.cells #[encStr yn, .int .i64 ym, .int .i64 yh] 46)) W2.heap.size u7 (F.take k)) := Lib.hid ((HO.out.below HBY.out).alloc _)
              have LN := Lib.hid (Lies.made wy 46 #[encStr yn, .int .i64 ym, .int .i64 yh])
              have HSM : Hid ((F.take k).length ≤ 100000) := Lib.hid (by rw [List.length_take]; have := HFL.out; omega)
              have HBZ : Hid (W2.heap.size ≤ (wy.alloc (.cells #[encStr yn, .int .i64 ym, .int .i64 yh] 46)).heap.size) := Lib.hid (by rw [size_one]; have := HBW.out.size; omega)
              have HBX := Lib.hid (HBW.out.alloc HBW.out.size (.cells #[encStr yn, .int .i64 ym, .int .i64 yh] 46))
              go_wp2_with (first
                | ((with_reducible refine wpl_appG (some 78) _ _ _ (.tmp 69) (.tmp 77) W2.heap.size u7 (F.take k) wy.heap.size yn ym yh ?hs ?hx HO3.out LN.out HSM.out HBZ.out ?_); (case hs => rfl); (case hx => rfl); (intro v4 w4 ho4 hg4 hb4; (have HO4 := Lib.hid ho4); (have HG4 := Lib.hid hg4); clear ho4 hg4 hb4)))
              go_roundw
              case rel =>
                refine ⟨k + 1, by omega, by go_num, fun i hi h => ?_, by rw [HST2.out]; exact HO4.out, HBX.out.grown HG4.out HBZ.out (fun q hq => (HO.out.block q hq).1)⟩
                by_cases e : i = k
                · subst e; rw [HYY.out]; exact hls
                · exact HALL.out i hi (by omega)
              case measure => simp [intOf]; omega
            · have hls2 : Op.bytesLess yn xn = false := by rw [bytesLess_eq]; simpa using hls
              go_wp2_with fail
              go_quiet (fail)
              revert nq
              intro nA
              by_cases hen : yn = xn
              · have hen2 : (yn == xn) = true := by simpa using hen
                have hen3 : decide (yn = xn) = true := by simpa using hen
                have HNO : Hid (newOf l = none) := Lib.hid (newOf_stop (j := j + 1) (by
                  rw [HST.out]
                  have h1 : k < K.length := by have := HFZ.out; omega
                  have h2 := HFA.out k h1 hk1
                  rw [HYY.out] at h2
                  exact addG_twice (List.getElem_mem h1) (by rw [← h2]; exact hen)))
                clear hen
                go_wp2_with fail
                go_quiet (fail)
                go_wp2
                go_ret2
                exact ⟨HBE.out.trans ((below_drewN (below_drewN HB.out _) _).mono HBE.out.size), .inl ⟨HNO.out, rfl⟩⟩
              have hen2 : (yn == xn) = false := by simpa using hen
              have hen3 : decide (yn = xn) = false := by simpa using hen
              have HAD := Lib.hid (addG_ins (g := ⟨xn, xm, xh⟩) HKS.out HGD.out (k := k) (by have := HFZ.out; omega) (fun i hi h => by
                have h1 := HFA.out i hi (by have := HFZ.out; omega)
                have h2 := HALL.out i (by have := HFZ.out; omega) h
                rw [h1] at h2
                exact h2) (fun h => by
                have h1 := HFA.out k h hk1
                rw [HYY.out] at h1
                exact ⟨by rw [← h1]; exact hls, by rw [← h1]; exact hen⟩))
              clear hen
              go_wp2_with fail
              go_quiet (fail)
              obtain ⟨wx, hwx⟩ : ∃ wx, wx = (wr.drewN nA).drewN nq := ⟨_, rfl⟩
              rw [← hwx]
              have HBY : Hid (Below wr.heap.size wr wx) := Lib.hid (by rw [hwx]; exact below_drewN (below_drewN (Below.refl _ _) _) _)
              have HBW : Hid (Below W2.heap.size W2 wx) := Lib.hid (by rw [hwx]; exact below_drewN (below_drewN HB.out _) _)
              have d0' : wx.cell? ⟨bx, 0, none⟩ = some (encStr xn) := by rw [hwx]; exact d0
              have d1' : wx.cell? ⟨bx, 1, none⟩ = some (.int .i64 xm) := by rw [hwx]; exact d1
              have d2' : wx.cell? ⟨bx, 2, none⟩ = some (.int .i64 xh) := by rw [hwx]; exact d2
              clear hwx c0 c1 d0 d1 d2
              have HO3 : Hid (OwnG (wx.alloc (.cells #[encStr xn, .int .i64 xm, .int .i64 xh] 46)) W2.heap.size u7 (F.take k)) := Lib.hid ((HO.out.below HBY.out).alloc _)
              have LN := Lib.hid (Lies.made wx 46 #[encStr xn, .int .i64 xm, .int .i64 xh])
              have HSM : Hid ((F.take k).length ≤ 100000) := Lib.hid (by rw [List.length_take]; have := HFL.out; omega)
              have HBZ : Hid (W2.heap.size ≤ (wx.alloc (.cells #[encStr xn, .int .i64 xm, .int .i64 xh] 46)).heap.size) := Lib.hid (by rw [size_one]; have := HBW.out.size; omega)
              have HBX := Lib.hid (HBW.out.alloc HBW.out.size (.cells #[encStr xn, .int .i64 xm, .int .i64 xh] 46))
              have HBG : Hid (∀ w4, (wx.alloc (.cells #[encStr xn, .int .i64 xm, .int .i64 xh] 46)).grownBy w4 u7.ownBlock → Below W2.heap.size W2 w4) := Lib.hid (fun w4 hg4 => HBX.out.grown hg4 HBZ.out (fun q hq => (HO.out.block q hq).1))
              have hkc : (k : Int) ≤ (F.length : Int) := by omega
              have hcc : (F.length : Int) ≤ (cF : Int) := by have := HCF.out; omega
              go_wp2_with (first
                | ((with_reducible refine wpl_appG (some 104) _ _ _ (.tmp 101) (.tmp 103) W2.heap.size u7 (F.take k) wx.heap.size xn xm xh ?hs ?hx HO3.out LN.out HSM.out HBZ.out ?_); (case hs => rfl); (case hx => rfl); (intro v4 w4 ho4 hg4 hb4; (have hB4 := HBG.out w4 hg4); (have HB4 := Lib.hid hB4); (have HR4 := Lib.hid (HR2.out.below hB4)); (have HO4 := Lib.hid ho4); (have HG4 := Lib.hid hg4); (have HQ4 := Lib.hid hb4); (obtain ⟨c0, c1⟩ := HR4.out.c.cells2); clear ho4 hg4 hb4 hB4))
                | ((with_reducible refine wpl_appGs (some 112) _ _ _ (.tmp 105) (.tmp 111) W2.heap.size v4 (F.take k ++ [⟨xn, xm, xh⟩]) (F.drop k) b1 (o1 + k * 3) (cF - k) (F.length - k) ?hm ?hs ?hx HO4.out ?src ?sm ?bz ?_); (case hm => simp); (case hs => rfl); (case hx => rfl); (case src => exact drop_cells HR4.out.f k); (case sm => simp; (have := HFL.out); omega); (case bz => exact HB4.out.size); (intro v5 w5 ho5 hg5 hb5; (have hB5 := HB4.out.grown hg5 HB4.out.size (fun q hq => (HO4.out.block q hq).1)); (have HB5 := Lib.hid hB5); (have HL5 := Lib.hid (HR2.out.below hB5).c); (have HO5 := Lib.hid ho5); (have HONE := Lib.hid ho5.one); clear ho5 hg5 hb5 hB5))
                | ((with_reducible refine wpl_putC none _ _ _ 22 (.tmp 116) (.tmp 114) g 0 63 _ v5 ?px ?py HL5.out ?pi ?ps HONE.out ?_); (case px => rfl); (case py => rfl); (case pi => simp); (case ps => kernel_rfl); (intro w6 hp6; (have HP6 := Lib.hid hp6); clear hp6)))
              go_roundw
              case rel =>
                obtain ⟨K', e1, e2⟩ := HAD.out
                have hq := rn_fin HGG.out HR2.out HBE.out HB5.out HO5.out HP6.out
                refine ⟨j + 1, K', v5, by omega, by go_num, HST.out.trans e1, ?_, hq.2⟩
                rw [e2, HFF.out]
                exact hq.1
              case measure => simp [intOf]; omega
          · have hk2 : decide ((k : Int) < (F.length : Int)) = false := by simp; omega
            rcases HR2.out.f.addr with ⟨hA0, hc0, hF0⟩ | ⟨b1, o1, hA1⟩
            · dsimp only at hF0
              subst hA0 hc0
              have HF0 : Hid (F.length = 0) := Lib.hid (by rw [hF0]; rfl)
              subst hF0
              obtain rfl : k = 0 := by simpa using hk
              go_wp2_with fail
              go_quiet (fail)
              revert nq
              intro nA
              have HAD := Lib.hid (addG_ins (g := ⟨xn, xm, xh⟩) HKS.out HGD.out (k := 0) (by have := HFZ.out; omega) (fun i hi h => by
                have h1 := HFA.out i hi (by have := HFZ.out; omega)
                have h2 := HALL.out i (by have := HFZ.out; omega) h
                rw [h1] at h2
                exact h2) (fun h => by have := HFZ.out; omega))
              go_wp2_with fail
              go_quiet (fail)
              obtain ⟨wx, hwx⟩ : ∃ wx, wx = (wr.drewN nA).drewN nq := ⟨_, rfl⟩
              rw [← hwx]
              have HBY : Hid (Below wr.heap.size wr wx) := Lib.hid (by rw [hwx]; exact below_drewN (below_drewN (Below.refl _ _) _) _)
              have HBW : Hid (Below W2.heap.size W2 wx) := Lib.hid (by rw [hwx]; exact below_drewN (below_drewN HB.out _) _)
              have d0' : wx.cell? ⟨bx, 0, none⟩ = some (encStr xn) := by rw [hwx]; exact d0
              have d1' : wx.cell? ⟨bx, 1, none⟩ = some (.int .i64 xm) := by rw [hwx]; exact d1
              have d2' : wx.cell? ⟨bx, 2, none⟩ = some (.int .i64 xh) := by rw [hwx]; exact d2
              clear hwx c0 c1 d0 d1 d2
              have HO3 : Hid (OwnG (wx.alloc (.cells #[encStr xn, .int .i64 xm, .int .i64 xh] 46)) W2.heap.size u7 (([] : List Kd).take (0 : Nat))) := Lib.hid ((HO.out.below HBY.out).alloc _)
              have LN := Lib.hid (Lies.made wx 46 #[encStr xn, .int .i64 xm, .int .i64 xh])
              have HSM : Hid ((([] : List Kd).take (0 : Nat)).length ≤ 100000) := Lib.hid (by rw [List.length_take]; have := HFL.out; omega)
              have HBZ : Hid (W2.heap.size ≤ (wx.alloc (.cells #[encStr xn, .int .i64 xm, .int .i64 xh] 46)).heap.size) := Lib.hid (by rw [size_one]; have := HBW.out.size; omega)
              have HBX := Lib.hid (HBW.out.alloc HBW.out.size (.cells #[encStr xn, .int .i64 xm, .int .i64 xh] 46))
              have HBG : Hid (∀ w4, (wx.alloc (.cells #[encStr xn, .int .i64 xm, .int .i64 xh] 46)).grownBy w4 u7.ownBlock → Below W2.heap.size W2 w4) := Lib.hid (fun w4 hg4 => HBX.out.grown hg4 HBZ.out (fun q hq => (HO.out.block q hq).1))
              have hkc : ((0 : Nat) : Int) ≤ (([] : List Kd).length : Int) := by omega
              go_wp2_with (first
                | ((with_reducible refine wpl_appG (some 104) _ _ _ (.tmp 101) (.tmp 103) W2.heap.size u7 (([] : List Kd).take (0 : Nat)) wx.heap.size xn xm xh ?hs ?hx HO3.out LN.out HSM.out HBZ.out ?_); (case hs => rfl); (case hx => rfl); (intro v4 w4 ho4 hg4 hb4; (have hB4 := HBG.out w4 hg4); (have HB4 := Lib.hid hB4); (have HR4 := Lib.hid (HR2.out.below hB4)); (have HO4 := Lib.hid ho4); (have HG4 := Lib.hid hg4); (have HQ4 := Lib.hid hb4); (obtain ⟨c0, c1⟩ := HR4.out.c.cells2); clear ho4 hg4 hb4 hB4))
                | ((with_reducible refine wpl_appG0 (some 112) _ _ _ (.tmp 105) (.tmp 111) W2.heap.size v4 (([] : List Kd).take (0 : Nat) ++ [⟨xn, xm, xh⟩]) ?hs ?hx HO4.out ?_); (case hs => rfl); (case hx => rfl); ((have HL5 := Lib.hid HR4.out.c); (have HONE := Lib.hid HO4.out.one)))
                | ((with_reducible refine wpl_putC none _ _ _ 22 (.tmp 116) (.tmp 114) g 0 63 _ v4 ?px ?py HL5.out ?pi ?ps HONE.out ?_); (case px => rfl); (case py => rfl); (case pi => simp); (case ps => kernel_rfl); (intro w6 hp6; (have HP6 := Lib.hid hp6); clear hp6)))
              go_roundw
              case rel =>
                obtain ⟨K', e1, e2⟩ := HAD.out
                have HO5 : Hid (OwnG w4 W2.heap.size v4 (([] : List Kd).take (0 : Nat) ++ [⟨xn, xm, xh⟩] ++ ([] : List Kd).drop (0 : Nat))) := Lib.hid (by rw [List.drop_of_length_le (by have := HF0.out; omega), List.append_nil]; exact HO4.out)
                have hq := rn_fin HGG.out HR2.out HBE.out HB4.out HO5.out HP6.out
                refine ⟨j + 1, K', v4, by omega, by go_num, HST.out.trans e1, ?_, hq.2⟩
                rw [e2, HFF.out]
                exact hq.1
              case measure => simp [intOf]; omega
            · subst hA1
              go_wp2_with fail
              go_quiet (fail)
              revert nq
              intro nA
              have HAD := Lib.hid (addG_ins (g := ⟨xn, xm, xh⟩) HKS.out HGD.out (k := k) (by have := HFZ.out; omega) (fun i hi h => by
                have h1 := HFA.out i hi (by have := HFZ.out; omega)
                have h2 := HALL.out i (by have := HFZ.out; omega) h
                rw [h1] at h2
                exact h2) (fun h => by have := HFZ.out; omega))
              go_wp2_with fail
              go_quiet (fail)
              obtain ⟨wx, hwx⟩ : ∃ wx, wx = (wr.drewN nA).drewN nq := ⟨_, rfl⟩
              rw [← hwx]
              have HBY : Hid (Below wr.heap.size wr wx) := Lib.hid (by rw [hwx]; exact below_drewN (below_drewN (Below.refl _ _) _) _)
              have HBW : Hid (Below W2.heap.size W2 wx) := Lib.hid (by rw [hwx]; exact below_drewN (below_drewN HB.out _) _)
              have d0' : wx.cell? ⟨bx, 0, none⟩ = some (encStr xn) := by rw [hwx]; exact d0
              have d1' : wx.cell? ⟨bx, 1, none⟩ = some (.int .i64 xm) := by rw [hwx]; exact d1
              have d2' : wx.cell? ⟨bx, 2, none⟩ = some (.int .i64 xh) := by rw [hwx]; exact d2
              clear hwx c0 c1 d0 d1 d2
              have HO3 : Hid (OwnG (wx.alloc (.cells #[encStr xn, .int .i64 xm, .int .i64 xh] 46)) W2.heap.size u7 (F.take k)) := Lib.hid ((HO.out.below HBY.out).alloc _)
              have LN := Lib.hid (Lies.made wx 46 #[encStr xn, .int .i64 xm, .int .i64 xh])
              have HSM : Hid ((F.take k).length ≤ 100000) := Lib.hid (by rw [List.length_take]; have := HFL.out; omega)
              have HBZ : Hid (W2.heap.size ≤ (wx.alloc (.cells #[encStr xn, .int .i64 xm, .int .i64 xh] 46)).heap.size) := Lib.hid (by rw [size_one]; have := HBW.out.size; omega)
              have HBX := Lib.hid (HBW.out.alloc HBW.out.size (.cells #[encStr xn, .int .i64 xm, .int .i64 xh] 46))
              have HBG : Hid (∀ w4, (wx.alloc (.cells #[encStr xn, .int .i64 xm, .int .i64 xh] 46)).grownBy w4 u7.ownBlock → Below W2.heap.size W2 w4) := Lib.hid (fun w4 hg4 => HBX.out.grown hg4 HBZ.out (fun q hq => (HO.out.block q hq).1))
              have hkc : (k : Int) ≤ (F.length : Int) := by omega
              have hcc : (F.length : Int) ≤ (cF : Int) := by have := HCF.out; omega
              go_wp2_with (first
                | ((with_reducible refine wpl_appG (some 104) _ _ _ (.tmp 101) (.tmp 103) W2.heap.size u7 (F.take k) wx.heap.size xn xm xh ?hs ?hx HO3.out LN.out HSM.out HBZ.out ?_); (case hs => rfl); (case hx => rfl); (intro v4 w4 ho4 hg4 hb4; (have hB4 := HBG.out w4 hg4); (have HB4 := Lib.hid hB4); (have HR4 := Lib.hid (HR2.out.below hB4)); (have HO4 := Lib.hid ho4); (have HG4 := Lib.hid hg4); (have HQ4 := Lib.hid hb4); (obtain ⟨c0, c1⟩ := HR4.out.c.cells2); clear ho4 hg4 hb4 hB4))
                | ((with_reducible refine wpl_appGs (some 112) _ _ _ (.tmp 105) (.tmp 111) W2.heap.size v4 (F.take k ++ [⟨xn, xm, xh⟩]) (F.drop k) b1 (if cF = k then o1 else o1 + k * 3) (cF - k) (F.length - k) ?hm ?hs ?hx HO4.out ?src ?sm ?bz ?_); (case hs => rfl); (case hx => (first | rfl | (simp [Act.eval]; done) | (simp [Act.eval]; split <;> simp_all))); (case hm => simp); (case src => (intro i hi; exfalso; rw [List.length_drop] at hi; omega)); (case sm => simp; (have := HFL.out); omega); (case bz => exact HB4.out.size); (intro v5 w5 ho5 hg5 hb5; (have hB5 := HB4.out.grown hg5 HB4.out.size (fun q hq => (HO4.out.block q hq).1)); (have HB5 := Lib.hid hB5); (have HL5 := Lib.hid (HR2.out.below hB5).c); (have HO5 := Lib.hid ho5); (have HONE := Lib.hid ho5.one); clear ho5 hg5 hb5 hB5))
                | ((with_reducible refine wpl_putC none _ _ _ 22 (.tmp 116) (.tmp 114) g 0 63 _ v5 ?px ?py HL5.out ?pi ?ps HONE.out ?_); (case px => rfl); (case py => rfl); (case pi => simp); (case ps => kernel_rfl); (intro w6 hp6; (have HP6 := Lib.hid hp6); clear hp6)))
              all_goals (
                go_roundw
                case rel =>
                  obtain ⟨K', e1, e2⟩ := HAD.out
                  have hq := rn_fin HGG.out HR2.out HBE.out HB5.out HO5.out HP6.out
                  refine ⟨j + 1, K', v5, by omega, by go_num, HST.out.trans e1, ?_, hq.2⟩
                  rw [e2, HFF.out]
                  exact hq.1
                case measure => simp [intOf]; omega)
      · have hlt2 : decide ((j : Int) < (n : Int)) = false := by simp; omega
        have HNO : Hid (newOf l = some K) := Lib.hid (by
          unfold newOf
          rw [if_neg (by rw [HLN.out]; omega)]
          have := HGO.out
          rwa [List.take_of_length_le (by have := HLN.out; omega)] at this)
        go_wp2
        go_ret2
        exact ⟨HB.out, .inr ⟨K, g, vF, _, HNO.out, rfl, HR.out⟩⟩

end Go.Proofs.Ytlgdjmmhdfpfeaa
