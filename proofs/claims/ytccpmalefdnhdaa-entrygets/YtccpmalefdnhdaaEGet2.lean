/-
  The contract of entry.Get: for every slice of bytes.
-/
import Derived.Test.YtccpmalefdnhdaaEGet
namespace Go.Proofs.Ytccpmalefdnhdaa
open Go.RowKit

def one : Nat → Bool := fun n => n == 1
/-- What Get answers. -/
def GetPost (l : List Nat) (w : World) (x : Ending) (w' : World) : Prop :=
  Below w.heap.size w w' ∧
  ((∃ e K D, Ent.get one l = some e ∧ x = .returned (.tuple #[.agg (evs e K D), .int .i64 0]) ∧ Own w' w.heap.size K e.key ∧ Own w' w.heap.size D e.data ∧ (∀ g, K.ownBlock = some g → D.ownBlock ≠ some g)) ∨
   (Ent.get one l = none ∧ x = .returned (.tuple #[.agg (evs Ent.zero nilV nilV), .int .i64 40])))

/-- The world behind the store of a whole entry. -/
theorem setCells_evs (w : World) (g : Nat) (e : Entry) (K D : Value) : w.setCells g 0 (evs e K D).toList = (((((((((((w.setCell ⟨g, 0, none⟩ (.int .i64 e.kind)).setCell ⟨g, 1, none⟩ (.int .u64 (e.lsn : Nat))).setCell ⟨g, 2, none⟩ (.int .u32 (e.epoch : Nat))).setCell ⟨g, 3, none⟩ (.int .u32 (e.order : Nat))).setCell ⟨g, 4, none⟩ (.int .i64 e.step)).setCell ⟨g, 5, none⟩ (.bool e.undo)).setCell ⟨g, 6, none⟩ (.int .i64 e.tri)).setCell ⟨g, 7, none⟩ (.int .i64 e.code)).setCell ⟨g, 8, none⟩ (.int .u64 (e.mark : Nat))).setCell ⟨g, 9, none⟩ (K)).setCell ⟨g, 10, none⟩ (D)) := rfl
theorem setCells_zero (w : World) (g : Nat) : w.setCells g 0 (evs Ent.zero nilV nilV).toList = (((((((((((w.setCell ⟨g, 0, none⟩ (.int .i64 0)).setCell ⟨g, 1, none⟩ (.int .u64 0)).setCell ⟨g, 2, none⟩ (.int .u32 0)).setCell ⟨g, 3, none⟩ (.int .u32 0)).setCell ⟨g, 4, none⟩ (.int .i64 0)).setCell ⟨g, 5, none⟩ (.bool false)).setCell ⟨g, 6, none⟩ (.int .i64 0)).setCell ⟨g, 7, none⟩ (.int .i64 0)).setCell ⟨g, 8, none⟩ (.int .u64 0)).setCell ⟨g, 9, none⟩ (.slice none 0 0)).setCell ⟨g, 10, none⟩ (.slice none 0 0)) := rfl

theorem Own.putsOther {w : World} {B : Nat} {v : Value} {l : List Nat} {b : Nat} (h : Own w B v l) (hb : some b ≠ v.ownBlock) (vs : List Value) (o : Nat) : Own (w.setCells b o vs) B v l := by
  induction vs generalizing w o with
  | nil => exact h
  | cons u r ih => exact ih (h.setOther (a := ⟨b, o, none⟩) hb u) (o + 1)

set_option maxRecDepth 100000 in
set_option maxHeartbeats 1000000 in
theorem get_any (a : Option Addr) (n cap : Nat) (l : List Nat) (w : World) (hB : Bys w a n l) (hn : n ≤ 100000) :
    Calls Try.prog 21 #[.slice a n cap] w (GetPost l w) := by
  have hlen := hB.1
  have hl : l.length ≤ 100000 := by omega
  have hsm := hB.2.1
  obtain ⟨k1, s1, h1⟩ : ∃ x s, Ent.rnum l 1 (0, false) = (x, s) := ⟨_, _, rfl⟩
  obtain ⟨lsn, s2, h2⟩ : ∃ x s, Ent.rnum l 8 s1 = (x, s) := ⟨_, _, rfl⟩
  obtain ⟨ep, s3, h3⟩ : ∃ x s, Ent.rnum l 4 s2 = (x, s) := ⟨_, _, rfl⟩
  have hk1 : k1 < 256 := by have := Ent.rnum_lt l hsm 1 (0, false); rw [h1] at this; exact this
  have hrd := Ent.rd_rest one l k1 lsn ep s1 s2 s3 h1 h2 h3
  have hbnd := Ent.rd_bnd one l hsm
  have HB := Lib.hid hB
  have H1 := Lib.hid h1
  have H2 := Lib.hid h2
  have H3 := Lib.hid h3
  have HRD := Lib.hid hrd
  have HBND := Lib.hid hbnd
  have HLEN := Lib.hid hlen
  clear hB h1 h2 h3 hrd hbnd hsm hlen
  go_enter Try.func21, Try.ntmps21
  go_wp2_with fail
  with_reducible refine (newReader_any _ _ _ _ _ (HB.out.alloc _) hn).mono ?_
  rintro x w1 ⟨p, rfl, hR1, hb1, hp1⟩
  have hp1 : w.heap.size + 1 ≤ p := by rw [size_one] at hp1; exact hp1
  have z1 : Lies w1 w.heap.size 26 (evs Ent.zero nilV nilV) := (Lies.made w 26 _).below hb1 (by simp)
  have Z1 := Lib.hid z1
  have BB1 := Lib.hid (((Below.refl w.heap.size w).alloc (Nat.le_refl _) (.cells (evs Ent.zero nilV nilV) 26)).trans (hb1.mono (by simp)))
  have cc := ru8_any p (0, false) l w1 hR1 hl
  unfold Ru8Post at cc
  rw [H1.out] at cc
  have C2 := Lib.hid cc
  clear cc z1 hR1 hb1
  go_wp2_with fail
  with_reducible refine C2.out.mono ?_
  rintro x w2 ⟨rfl, hR2, hg2⟩
  have Z2 := Lib.hid (Z1.out.grown hg2 (fun e => by injection e; omega))
  have BB2 := Lib.hid (BB1.out.grown hg2 BB1.out.size (fun k hk => by injection hk with hk; omega))
  have cc := ru64_any p s1 l w2 hR2 hl
  unfold Ru64Post at cc
  rw [H2.out] at cc
  have C3 := Lib.hid cc
  clear cc hR2 hg2 C2 Z1 BB1
  go_wp2_with fail
  with_reducible refine C3.out.mono ?_
  rintro x w3 ⟨rfl, hR3, hg3⟩
  have Z3 := Lib.hid (Z2.out.grown hg3 (fun e => by injection e; omega))
  have BB3 := Lib.hid (BB2.out.grown hg3 BB2.out.size (fun k hk => by injection hk with hk; omega))
  have cc := ru32_any p s2 l w3 hR3 hl
  unfold Ru32Post at cc
  rw [H3.out] at cc
  have C4 := Lib.hid cc
  clear cc hR3 hg3 C3 Z2 BB2
  go_wp2_with fail
  with_reducible refine C4.out.mono ?_
  rintro x w4 ⟨rfl, hR4, hg4⟩
  have Z4 := Lib.hid (Z3.out.grown hg4 (fun e => by injection e; omega))
  have BB4 := Lib.hid (BB3.out.grown hg4 BB3.out.size (fun k hk => by injection hk with hk; omega))
  have HR4 := Lib.hid hR4
  clear hR4 hg4 C4 Z3 BB3
  obtain ⟨q, hq⟩ : ∃ q, w4.heap.size = q := ⟨_, rfl⟩
  have hpq : p < q := by rw [← hq]; exact HR4.out.lt
  go_wp2_with fail
  with_reducible refine (partsOf_any _ _).mono ?_
  rintro x w5 ⟨rfl, hb5⟩
  have le5 : Lies w5 q 26 (evs (Ent.bare k1 lsn ep) nilV nilV) := by rw [← hq]; exact (Lies.made w4 26 _).below hb5 (by simp)
  have z5 := (Z4.out.alloc _).below hb5 (Nat.lt_of_lt_of_le Z4.out.lt (by simp))
  have hR5 := (HR4.out.below ((Below.refl _ _).alloc (Nat.le_refl _) _)).below hb5
  have bb5 := (BB4.out.alloc BB4.out.size _).trans (hb5.mono (Nat.le_trans BB4.out.size (by simp)))
  obtain ⟨er, her⟩ : ∃ e, Ent.rd one l = e := ⟨_, rfl⟩
  have cr : ∀ cs, Calls Try.prog 43 #[.agg (pvk k1), .pointer (some ⟨p, 0, none⟩), .pointer (some ⟨q, 0, none⟩)] (w5.alloc (.cells cs 63)) (ReadPost (w5.alloc (.cells cs 63)) p q w.heap.size er) := fun cs => by
    rw [← her, HRD.out]
    exact read_any p q w.heap.size l s3 k1 lsn ep _ (hR5.below ((Below.refl _ _).alloc (Nat.le_refl _) _)) (le5.alloc _) hpq (by omega) hl
  have hget : Ent.get one l = if Ent.ok er = true ∧ Ent.enc er = l then some er else none := by unfold Ent.get; rw [her]
  have HBND2 := Lib.hid (her ▸ HBND.out : Ent.Bnd er)
  have CR := Lib.hid cr
  have HGET := Lib.hid hget
  have Z5 := Lib.hid z5
  have BB5 := Lib.hid bb5
  have HQ := Lib.hid hq
  clear cr hget z5 bb5 hR5 le5 hb5 Z4 BB4 HR4 H1 H2 H3 HRD HBND her
  go_wp2_with fail
  with_reducible refine (CR.out _).mono ?_
  rintro x w6 ⟨rfl, K, D, hL6, hK6, hD6, hne, hb6, hk6⟩
  have hs5 : w.heap.size ≤ w5.heap.size := BB5.out.size
  have Z6 := Lib.hid (hk6 w.heap.size 26 _ (by omega) (by omega) (Z5.out.alloc _))
  have BB6 := Lib.hid ((BB5.out.alloc BB5.out.size _).trans hb6)
  have HK6 := Lib.hid (hK6.mono (Nat.le_trans hs5 (by simp)))
  have HD6 := Lib.hid (hD6.mono (Nat.le_trans hs5 (by simp)))
  obtain ⟨A1, c1, rfl, hKB, _, _, hKA⟩ := hK6.slice
  obtain ⟨A2, c2, rfl, hDB, _, _, hDA⟩ := hD6.slice
  have HNE := Lib.hid hne
  have hnk : some w.heap.size ≠ (Value.slice A1 er.key.length c1).ownBlock := fun e => by have := hK6.block _ e.symm; simp at this; omega
  have hnd : some w.heap.size ≠ (Value.slice A2 er.data.length c2).ownBlock := fun e => by have := hD6.block _ e.symm; simp at this; omega
  have HNK := Lib.hid hnk
  have HND := Lib.hid hnd
  clear hnk hnd
  have cp := put_any er A1 A2 c1 c2 w6 HBND2.out ⟨hKB, hKB.low (Nat.le_refl _), hKA, hDB, hDB.low (Nat.le_refl _), hDA⟩
  have CPUT := Lib.hid cp
  have L6 := Lib.hid hL6
  clear cp hKB hKA hDB hDA hK6 hD6 hne hL6 hb6 hk6 Z5 BB5 CR
  obtain ⟨e0, e1, e2, e3, e4, e5, e6, e7, e8, e9, e10⟩ := L6.out.cellsE
  go_wp2_with fail
  with_reducible refine CPUT.out.mono ?_
  rintro x w7 ⟨v7, rfl, hO7, hb7⟩
  clear e0 e1 e2 e3 e4 e5 e6 e7 e8 e9 e10
  have Z7 := Lib.hid (Z6.out.below hb7 Z6.out.lt)
  have L7 := Lib.hid (L6.out.below hb7 L6.out.lt)
  have BB7 := Lib.hid (BB6.out.trans (hb7.mono BB6.out.size))
  have HK7 := Lib.hid (HK6.out.belowOwn hb7)
  have HD7 := Lib.hid (HD6.out.belowOwn hb7)
  obtain ⟨A7, c7, rfl, hB7, _, _, _⟩ := hO7.slice
  have HB7 := Lib.hid hB7
  have HBW := Lib.hid (HB.out.below BB7.out)
  clear hO7 hb7 hB7 Z6 L6 BB6 HK6 HD6 CPUT
  have hzp : Lies (w7.setCells w.heap.size 0 (evs Ent.zero nilV nilV).toList) w.heap.size 26 (evs Ent.zero nilV nilV) ∧ Below w.heap.size w (w7.setCells w.heap.size 0 (evs Ent.zero nilV nilV).toList) := ⟨Z7.out.puts _ rfl, below_puts BB7.out (Nat.le_refl _) _ _⟩
  rw [setCells_zero] at hzp
  have HZP := Lib.hid hzp
  have hep : Lies (w7.setCells w.heap.size 0 (evs er (.slice A1 er.key.length c1) (.slice A2 er.data.length c2)).toList) w.heap.size 26 (evs er (.slice A1 er.key.length c1) (.slice A2 er.data.length c2)) ∧ Below w.heap.size w (w7.setCells w.heap.size 0 (evs er (.slice A1 er.key.length c1) (.slice A2 er.data.length c2)).toList) ∧ Own (w7.setCells w.heap.size 0 (evs er (.slice A1 er.key.length c1) (.slice A2 er.data.length c2)).toList) w.heap.size (.slice A1 er.key.length c1) er.key ∧ Own (w7.setCells w.heap.size 0 (evs er (.slice A1 er.key.length c1) (.slice A2 er.data.length c2)).toList) w.heap.size (.slice A2 er.data.length c2) er.data := ⟨Z7.out.puts _ rfl, below_puts BB7.out (Nat.le_refl _) _ _, HK7.out.putsOther HNK.out _ _, HD7.out.putsOther HND.out _ _⟩
  rw [setCells_evs] at hep
  have HEP := Lib.hid hep
  clear hzp hep
  obtain ⟨n7, hn7⟩ : ∃ n, (putB er).length = n := ⟨_, rfl⟩
  rw [hn7] at HB7 ⊢
  by_cases hok : Ent.ok er = true
  · have hc : chkN er = 0 := by unfold chkN; rw [if_pos hok]
    have hpb : putB er = Ent.enc er := by unfold putB; rw [if_pos hok]
    rw [hc]
    rw [hpb] at HB7
    have ceq := equal_any A7 a n7 n c7 cap (Ent.enc er) l w7 HB7.out HBW.out
    by_cases heq : Ent.enc er = l
    · rw [show sameB (Ent.enc er) l = true from by rw [heq]; exact sameB_self l] at ceq
      have CEQ := Lib.hid ceq
      clear ceq hc
      go_wp2_with fail
      with_reducible refine CEQ.out.mono ?_
      rintro x w8 ⟨rfl, rfl⟩
      obtain ⟨e0, e1, e2, e3, e4, e5, e6, e7, e8, e9, e10⟩ := L7.out.cellsE
      obtain ⟨z0, z1, z2, z3, z4, z5, z6, z7, z8, z9, z10⟩ := Z7.out.cellsE
      have hfz := Z7.out.free
      go_wp2
      refine ret_E w.heap.size 26 (evs er (.slice A1 er.key.length c1) (.slice A2 er.data.length c2)) rfl rfl HEP.out.1 rfl rfl ⟨HEP.out.2.1, .inl ⟨er, _, _, ?_, rfl, HEP.out.2.2.1, HEP.out.2.2.2, HNE.out⟩⟩
      rw [HGET.out, if_pos ⟨hok, heq⟩]
    · rw [show sameB (Ent.enc er) l = false from sameB_ne heq] at ceq
      have CEQ := Lib.hid ceq
      clear ceq hc
      go_wp2_with fail
      with_reducible refine CEQ.out.mono ?_
      rintro x w8 ⟨rfl, rfl⟩
      obtain ⟨z0, z1, z2, z3, z4, z5, z6, z7, z8, z9, z10⟩ := Z7.out.cellsE
      have hfz := Z7.out.free
      go_wp2
      refine ret_E w.heap.size 26 (evs Ent.zero nilV nilV) rfl rfl HZP.out.1 rfl rfl ⟨HZP.out.2, .inr ⟨?_, rfl⟩⟩
      rw [HGET.out, if_neg (fun h => heq h.2)]
  · have hc : chkN er = 40 := by unfold chkN; rw [if_neg hok]
    rw [hc]
    obtain ⟨z0, z1, z2, z3, z4, z5, z6, z7, z8, z9, z10⟩ := Z7.out.cellsE
    have hfz := Z7.out.free
    go_wp2
    refine ret_E w.heap.size 26 (evs Ent.zero nilV nilV) rfl rfl HZP.out.1 rfl rfl ⟨HZP.out.2, .inr ⟨?_, rfl⟩⟩
    rw [HGET.out, if_neg (fun h => hok h.1)]

end Go.Proofs.Ytccpmalefdnhdaa
