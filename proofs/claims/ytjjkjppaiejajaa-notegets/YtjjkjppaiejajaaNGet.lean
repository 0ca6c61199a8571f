/-
  The contract of note.Get: for every slice of bytes.
-/
import Derived.Test.YtjjkjppaiejajaaNRd
import Derived.Test.YtjjkjppaiejajaaNPut
import Derived.Laws.ResultCell
namespace Go.Proofs.Ytjjkjppaiejajaa
open Go.RowKit

set_option maxHeartbeats 400000 in
theorem equal_any (a b : Option Addr) (n m c d : Nat) (la lb : List Nat) (w : World) (hA : Bys w a n la) (hB : Bys w b m lb) :
    Calls Try.prog 40 #[.slice a n c, .slice b m d] w fun e w' => e = .returned (.bool (sameB la lb)) ∧ w = w' := by
  have r1 := run_str hA c
  have r2 := run_str hB d
  have r3 := str_eq la lb hA.2.1 hB.2.1
  clear hA hB
  go_enter Try.func40, Try.ntmps40
  go_wp2
  go_ret
  exact ⟨rfl, rfl⟩

/-- What Get answers. -/
def GetPost (l : List Nat) (w : World) (x : Ending) (w' : World) : Prop :=
  Below w.heap.size w w' ∧
  ((∃ e K D, Ent.get one l = some e ∧ x = .returned (.tuple #[.agg (evs e K D), .int .i64 0]) ∧ Own w' w.heap.size K e.key ∧ Own w' w.heap.size D e.data ∧ (∀ g, K.ownBlock = some g → D.ownBlock ≠ some g)) ∨
   (Ent.get one l = none ∧ x = .returned (.tuple #[.agg (evs Ent.zero nilV nilV), .int .i64 50])))

/-- The world behind the store of a whole note. -/
theorem setCells_evs (w : World) (g : Nat) (e : Note) (K D : Value) : w.setCells g 0 (evs e K D).toList = (((((((((((w.setCell ⟨g, 0, none⟩ (.int .i64 e.kind)).setCell ⟨g, 1, none⟩ (.int .u32 (e.epoch : Nat))).setCell ⟨g, 2, none⟩ (.int .u32 (e.old : Nat))).setCell ⟨g, 3, none⟩ (.int .u64 (e.lsn : Nat))).setCell ⟨g, 4, none⟩ (.int .u64 (e.tick : Nat))).setCell ⟨g, 5, none⟩ (.int .u32 (e.order : Nat))).setCell ⟨g, 6, none⟩ (.int .i64 e.step)).setCell ⟨g, 7, none⟩ (.bool e.undo)).setCell ⟨g, 8, none⟩ (.int .i64 e.code)).setCell ⟨g, 9, none⟩ (K)).setCell ⟨g, 10, none⟩ (D)) := rfl
theorem setCells_zero (w : World) (g : Nat) : w.setCells g 0 (evs Ent.zero nilV nilV).toList = (((((((((((w.setCell ⟨g, 0, none⟩ (.int .i64 0)).setCell ⟨g, 1, none⟩ (.int .u32 0)).setCell ⟨g, 2, none⟩ (.int .u32 0)).setCell ⟨g, 3, none⟩ (.int .u64 0)).setCell ⟨g, 4, none⟩ (.int .u64 0)).setCell ⟨g, 5, none⟩ (.int .u32 0)).setCell ⟨g, 6, none⟩ (.int .i64 0)).setCell ⟨g, 7, none⟩ (.bool false)).setCell ⟨g, 8, none⟩ (.int .i64 0)).setCell ⟨g, 9, none⟩ (.slice none 0 0)).setCell ⟨g, 10, none⟩ (.slice none 0 0)) := rfl

theorem Own.putsOther {w : World} {B : Nat} {v : Value} {l : List Nat} {b : Nat} (h : Own w B v l) (hb : some b ≠ v.ownBlock) (vs : List Value) (o : Nat) : Own (w.setCells b o vs) B v l := by
  induction vs generalizing w o with
  | nil => exact h
  | cons u r ih => exact ih (h.setOther (a := ⟨b, o, none⟩) hb u) (o + 1)

theorem results_cell_run {fn : Func} {p u : Tmp} {ty : TypeId} (h : fn.results = #[.cell p ty, .tmp u]) (tmps : Array Value) (w : World) (g : Nat) (cs : Array Value)
    (hp : tmps.getD p undef = .pointer (some ⟨g, 0, none⟩)) (hr : (loadVar ty ⟨g, 0, none⟩).run Try.prog w = .ok (.agg cs) w) :
    (results fn tmps).run Try.prog w = .ok (.tuple #[.agg cs, tmps.getD u undef]) w := by
  rw [results_cell_tmp h, hp]
  simp [asAddr, hr, Result.andThen]
set_option maxRecDepth 100000 in
theorem ret_E {fn : Func} {R : Ending → World → Prop} {a : Act} {w : World} {p u : Tmp} (g : Nat) (t : TypeId) (cs : Array Value) (h : fn.results = #[.cell p 26, .tmp u]) (hp : a.tmps.getD p undef = .pointer (some ⟨g, 0, none⟩)) (hg : Lies w g t cs) (hs : cs.size = 11) (hd : a.defers = [])
    (hR : R (.returned (.tuple #[.agg cs, a.tmps.getD u undef])) w) : bodyPost Try.prog fn R .ret a w :=
  bodyPost_ret (results_cell_run h _ _ g cs hp (run_loadVar_row w g t 26 cs (0, 0) _ hg Try.underlying26 rfl (by rw [hs]; kernel_rfl))) hd hR

/-- The reader behind the first j letters. -/
def GeR (w : World) (p q k : Nat) (l s : List Nat) (x0 : Note × Ent.St) (_ : Value) (wr : World) : Prop :=
  ∃ j : Nat, j ≤ s.length ∧ It wr k s j ∧ NoteAt wr p q w.heap.size l (Ent.rds one l (s.take j) x0) ∧ Lies wr w.heap.size 26 (evs Ent.zero nilV nilV) ∧ Below w.heap.size w wr
theorem rds_one (f : Nat → Bool) (l s : List Nat) (j : Nat) (hj : j < s.length) (x : Note × Ent.St) : Ent.rds f l (s.take (j + 1)) x = Ent.rdL f l (Ent.rds f l (s.take j) x) (s.getD j 0) := by
  unfold Ent.rds
  rw [take_one s j hj, List.foldl_append]
  rfl


set_option maxRecDepth 100000 in
set_option maxHeartbeats 1000000 in
theorem get_any (a : Option Addr) (n cap : Nat) (l : List Nat) (w : World) (hB : Bys w a n l) (hn : n ≤ 100000) :
    Calls Try.prog 22 #[.slice a n cap] w (GetPost l w) := by
  have hlen := hB.1
  have hl : l.length ≤ 100000 := by omega
  have hsm := hB.2.1
  obtain ⟨k1, s1, h1⟩ : ∃ x s, Ent.rnum l 1 (0, false) = (x, s) := ⟨_, _, rfl⟩
  have hk1 : k1 < 256 := by have := Ent.rnum_lt l hsm 1 (0, false); rw [h1] at this; exact this
  have hrd : Ent.rd one l = (Ent.rds one l (Ent.lets (k1 : Nat)) (Ent.bare (k1 : Nat), s1)).1 := by unfold Ent.rd; rw [h1]
  have hbnd := Ent.rd_bnd one l hsm
  have cnm := fun W => names_any ((k1 : Nat) : Int) W
  unfold NamesPost at cnm
  have HSUB := Lib.hid (Ent.lets_sub (k1 : Nat))
  generalize Ent.lets (k1 : Nat) = s at *
  have h128 : ∀ c ∈ s, c < 128 := fun c hc => Ent.alpha_small c (HSUB.out c hc)
  have H128 := Lib.hid h128
  have CN := Lib.hid cnm
  have HB := Lib.hid hB
  have H1 := Lib.hid h1
  have HRD := Lib.hid hrd
  have HBND := Lib.hid hbnd
  have HLEN := Lib.hid hlen
  clear hB h1 hrd hbnd hsm hlen cnm h128
  go_enter Try.func22, Try.ntmps22
  go_wp2_with fail
  with_reducible refine (newReader_any _ _ _ _ _ (HB.out.alloc _) hn).mono ?_
  rintro x w1 ⟨p, rfl, hR1, hb1, hp1⟩
  have hp1 : w.heap.size + 1 ≤ p := by rw [size_one] at hp1; exact hp1
  have z1 : Lies w1 w.heap.size 26 (evs Ent.zero nilV nilV) := (Lies.made w 26 _).below hb1 (by simp)
  have Z1 := Lib.hid z1
  have BB1 := Lib.hid ((below1 w (.cells (evs Ent.zero nilV nilV) 26)).trans (hb1.mono (by simp)))
  have cc := ru8_any p (0, false) l w1 hR1 hl
  unfold Ru8Post at cc
  rw [H1.out] at cc
  have C2 := Lib.hid cc
  clear cc z1 hR1 hb1
  go_wp2_with fail
  with_reducible refine C2.out.mono ?_
  rintro x w2 ⟨rfl, hR2, hg2⟩
  have Z2 := Lib.hid (Z1.out.grown hg2 (fun e => by injection e; omega))
  have BB2 := Lib.hid (BB1.out.grown hg2 BB1.out.size (fun k hk => by injection hk with hk; omega))
  have HR2 := Lib.hid hR2
  clear hR2 hg2 C2 Z1 BB1
  obtain ⟨q, hq⟩ : ∃ q, w2.heap.size = q := ⟨_, rfl⟩
  have hpq : p < q := by rw [← hq]; exact HR2.out.lt
  go_wp2_with fail
  with_reducible refine (CN.out _).mono ?_
  rintro x w3 ⟨rfl, rfl⟩
  have le3 : ∀ cs, cs = evs (Ent.bare (k1 : Nat)) nilV nilV → Lies (w2.alloc (.cells cs 26)) q 26 (evs (Ent.bare (k1 : Nat)) nilV nilV) := fun cs h => by rw [← hq, h]; exact Lies.made w2 26 _
  obtain ⟨k, hk⟩ : ∃ k, q + 1 = k := ⟨_, rfl⟩
  have it0 : ∀ cs, It ((w2.alloc (.cells cs 26)).iter (str s) 0) k s 0 := fun cs => by
    have := It.made (w2.alloc (.cells cs 26)) s
    rw [size_one, hq, hk] at this; exact this
  have na0 : ∀ cs, cs = evs (Ent.bare (k1 : Nat)) nilV nilV → NoteAt ((w2.alloc (.cells cs 26)).iter (str s) 0) p q w.heap.size l (Ent.bare (k1 : Nat), s1) := fun cs h =>
    ⟨nilV, nilV, (le3 cs h).alloc _, Own.nil _ _, Own.nil _ _, (fun g h => by cases h), (HR2.out.below (below1 w2 _)).below (below1 _ _)⟩
  have zz0 : ∀ cs, Lies ((w2.alloc (.cells cs 26)).iter (str s) 0) w.heap.size 26 (evs Ent.zero nilV nilV) := fun cs => (Z2.out.alloc _).alloc _
  have bb0 : ∀ cs, Below w.heap.size w ((w2.alloc (.cells cs 26)).iter (str s) 0) := fun cs => (BB2.out.alloc BB2.out.size _).alloc (Nat.le_trans BB2.out.size (by simp)) _
  have IT0 := Lib.hid it0
  have NA0 := Lib.hid na0
  have ZZ0 := Lib.hid zz0
  have BL0 := Lib.hid bb0
  have hwq : w.heap.size < q := by omega
  clear it0 na0 zz0 bb0 le3 HR2 Z2 BB2 H1
  go_wp2_with fail
  clear hq
  go_loopw [7] (GeR w p q k l s (Ent.bare (k1 : Nat), s1)) (fun _ wr => s.length - wr.iterPos k)
  case atStart => exact ⟨0, by omega, IT0.out _, NA0.out _ rfl, ZZ0.out _, BL0.out _⟩
  case round =>
    obtain ⟨j, hj, hit, hN, hZ, hbel⟩ := hrel
    have hpos := hit.pos
    have HIT := Lib.hid hit
    have HN := Lib.hid hN
    have HZ := Lib.hid hZ
    have HBE := Lib.hid hbel
    clear hit hN hZ hbel IT0 NA0 ZZ0 BL0
    by_cases hp : j < s.length
    · have hnx := next_str HIT.out hp H128.out
      have hca := HSUB.out _ (getD_mem s j hp)
      have hN2 : NoteAt (mv wr k s (j + 1)) p q w.heap.size l (Ent.rds one l (s.take j) (Ent.bare (k1 : Nat), s1)) := by
        obtain ⟨K, D, g1, g2, g3, g4, g5⟩ := HN.out
        exact ⟨K, D, g1.mv HIT.out _, g2.mv HIT.out _, g3.mv HIT.out _, g4, g5.mv HIT.out _⟩
      have HZ2 := Lib.hid (HZ.out.mv HIT.out (j + 1))
      have HIT2 := Lib.hid (HIT.out.mv (j + 1))
      have HBE2 := Lib.hid (below_mv HBE.out (k := k) (by omega) s (j + 1))
      have hro := rds_one one l s j hp (Ent.bare (k1 : Nat), s1)
      obtain ⟨W, hW⟩ : ∃ W, mv wr k s (j + 1) = W := ⟨_, rfl⟩
      rw [hW] at hN2 HZ2 HIT2 HBE2
      simp only [hW] at hnx
      obtain ⟨c, hcc⟩ : ∃ c, s.getD j 0 = c := ⟨_, rfl⟩
      rw [hcc] at hca hro
      simp only [hcc] at hnx
      have cr := read_any p q w.heap.size l _ c hca W hN2 hpq hl HBE2.out.size
      rw [← hro] at cr
      have CR := Lib.hid cr
      clear hcc hW HZ HIT HBE HN cr hro hN2
      go_wp2_with fail
      with_reducible refine CR.out.mono ?_
      rintro x w5 ⟨rfl, hN5, hst⟩
      have HN5 := Lib.hid hN5
      clear hN5
      go_wp2
      go_roundw
      case rel => exact ⟨j + 1, by omega, hst.it (by omega) (by omega) HIT2.out, HN5.out, hst.lies (by omega) (by omega) HZ2.out, HBE2.out.trans (hst.below (by omega) (by omega) HBE2.out.size)⟩
      case measure => rw [(hst.it (by omega) (by omega) HIT2.out).pos, hpos]; omega
    · have hnx := next_fin HIT.out hp
      have hjl : s.take j = s := List.take_of_length_le (by omega)
      have hN2 := HN.out
      rw [hjl] at hN2
      obtain ⟨er, her⟩ : ∃ e, Ent.rd one l = e := ⟨_, rfl⟩
      have her2 : (Ent.rds one l s (Ent.bare (k1 : Nat), s1)).1 = er := by rw [← HRD.out]; exact her
      obtain ⟨K, D, hL6, hK6, hD6, hne, _⟩ := hN2
      rw [her2] at hL6 hK6 hD6
      have hget : Ent.get one l = if Ent.ok er = true ∧ Ent.enc er = l then some er else none := by unfold Ent.get; rw [her]
      have HBND2 := Lib.hid (her ▸ HBND.out : Ent.Bnd er)
      have HGET := Lib.hid hget
      obtain ⟨A1, c1, rfl, hKB, _, _, hKA⟩ := hK6.slice
      obtain ⟨A2, c2, rfl, hDB, _, _, hDA⟩ := hD6.slice
      have HK6 := Lib.hid hK6
      have HD6 := Lib.hid hD6
      have HNE := Lib.hid hne
      have HNK := Lib.hid (hK6.ne HZ.out (by decide))
      have HND := Lib.hid (hD6.ne HZ.out (by decide))
      have cp := put_any er A1 A2 c1 c2 wr HBND2.out ⟨hKB, hKB.low (Nat.le_refl _), hKA, hDB, hDB.low (Nat.le_refl _), hDA⟩
      have CPUT := Lib.hid cp
      have L6 := Lib.hid hL6
      clear cp hKB hKA hDB hDA hK6 hD6 hne hL6 hget her her2 hjl HRD HBND HN
      obtain ⟨e0, e1, e2, e3, e4, e5, e6, e7, e8, e9, e10⟩ := L6.out.cellsE
      go_wp2_with fail
      with_reducible refine CPUT.out.mono ?_
      rintro x w7 ⟨v7, rfl, hO7, hb7⟩
      clear e0 e1 e2 e3 e4 e5 e6 e7 e8 e9 e10
      have Z7 := Lib.hid (HZ.out.below hb7 HZ.out.lt)
      have L7 := Lib.hid (L6.out.below hb7 L6.out.lt)
      have BB7 := Lib.hid (HBE.out.trans (hb7.mono HBE.out.size))
      have HK7 := Lib.hid (HK6.out.belowOwn hb7)
      have HD7 := Lib.hid (HD6.out.belowOwn hb7)
      obtain ⟨A7, c7, rfl, hB7, _, _, _⟩ := hO7.slice
      have HB7 := Lib.hid hB7
      have HBW := Lib.hid (HB.out.below BB7.out)
      clear hO7 hb7 hB7 HZ L6 HBE HK6 HD6 CPUT
      have hzp : Lies (w7.setCells w.heap.size 0 (evs Ent.zero nilV nilV).toList) w.heap.size 26 (evs Ent.zero nilV nilV) ∧ Below w.heap.size w (w7.setCells w.heap.size 0 (evs Ent.zero nilV nilV).toList) := ⟨Z7.out.puts _ rfl, below_puts BB7.out (Nat.le_refl _) _ _⟩
      rw [setCells_zero] at hzp
      have HZP := Lib.hid hzp
      have hep : Lies (w7.setCells w.heap.size 0 (evs er (.slice A1 er.key.length c1) (.slice A2 er.data.length c2)).toList) w.heap.size 26 (evs er (.slice A1 er.key.length c1) (.slice A2 er.data.length c2)) ∧ Below w.heap.size w (w7.setCells w.heap.size 0 (evs er (.slice A1 er.key.length c1) (.slice A2 er.data.length c2)).toList) ∧ Own (w7.setCells w.heap.size 0 (evs er (.slice A1 er.key.length c1) (.slice A2 er.data.length c2)).toList) w.heap.size (.slice A1 er.key.length c1) er.key ∧ Own (w7.setCells w.heap.size 0 (evs er (.slice A1 er.key.length c1) (.slice A2 er.data.length c2)).toList) w.heap.size (.slice A2 er.data.length c2) er.data := ⟨Z7.out.puts _ rfl, below_puts BB7.out (Nat.le_refl _) _ _, HK7.out.putsOther HNK.out _ _, HD7.out.putsOther HND.out _ _⟩
      rw [setCells_evs] at hep
      have HEP := Lib.hid hep
      clear hzp hep
      obtain ⟨n7, hn7⟩ : ∃ n, (putB er).length = n := ⟨_, rfl⟩
      rw [hn7] at HB7 ⊢
      by_cases hok : Ent.ok er = true
      · have hc : chkN er = 0 := by unfold chkN; rw [if_pos hok]
        have hpb : putB er = Ent.enc er := by unfold putB; rw [if_pos hok]
        rw [hc]
        rw [hpb] at HB7
        have ceq := equal_any A7 a n7 n c7 cap (Ent.enc er) l w7 HB7.out HBW.out
        by_cases heq : Ent.enc er = l
        · rw [show sameB (Ent.enc er) l = true from by rw [heq]; exact sameB_self l] at ceq
          have CEQ := Lib.hid ceq
          clear ceq hc
          go_wp2_with fail
          with_reducible refine CEQ.out.mono ?_
          rintro x w8 ⟨rfl, rfl⟩
          obtain ⟨e0, e1, e2, e3, e4, e5, e6, e7, e8, e9, e10⟩ := L7.out.cellsE
          obtain ⟨z0, z1, z2, z3, z4, z5, z6, z7, z8, z9, z10⟩ := Z7.out.cellsE
          have hfz := Z7.out.free
          go_wp2
          refine ret_E w.heap.size 26 (evs er (.slice A1 er.key.length c1) (.slice A2 er.data.length c2)) rfl rfl HEP.out.1 rfl rfl ⟨HEP.out.2.1, .inl ⟨er, _, _, ?_, rfl, HEP.out.2.2.1, HEP.out.2.2.2, HNE.out⟩⟩
          rw [HGET.out, if_pos ⟨hok, heq⟩]
        · rw [show sameB (Ent.enc er) l = false from sameB_ne heq] at ceq
          have CEQ := Lib.hid ceq
          clear ceq hc
          go_wp2_with fail
          with_reducible refine CEQ.out.mono ?_
          rintro x w8 ⟨rfl, rfl⟩
          obtain ⟨z0, z1, z2, z3, z4, z5, z6, z7, z8, z9, z10⟩ := Z7.out.cellsE
          have hfz := Z7.out.free
          go_wp2
          refine ret_E w.heap.size 26 (evs Ent.zero nilV nilV) rfl rfl HZP.out.1 rfl rfl ⟨HZP.out.2, .inr ⟨?_, rfl⟩⟩
          rw [HGET.out, if_neg (fun h => heq h.2)]
      · have hc : chkN er = 50 := by unfold chkN; rw [if_neg hok]
        rw [hc]
        obtain ⟨z0, z1, z2, z3, z4, z5, z6, z7, z8, z9, z10⟩ := Z7.out.cellsE
        have hfz := Z7.out.free
        go_wp2
        refine ret_E w.heap.size 26 (evs Ent.zero nilV nilV) rfl rfl HZP.out.1 rfl rfl ⟨HZP.out.2, .inr ⟨?_, rfl⟩⟩
        rw [HGET.out, if_neg (fun h => hok h.1)]

end Go.Proofs.Ytjjkjppaiejajaa
