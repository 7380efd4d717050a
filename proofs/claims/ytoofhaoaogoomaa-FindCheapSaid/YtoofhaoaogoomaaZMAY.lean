/- The landed index: Twins. No statement of the seat is proved here. -/
import Derived.Test.YtoofhaoaogoomaaIxLandD
import Derived.Test.YtoofhaoaogoomaaZMAX
import Derived.Test.YtoofhaoaogoomaaZMAC
import Derived.Laws.Tables
namespace Go.Proofs.Ytoofhaoaogoomaa
open Go Go.Maps Go.RowKit
set_option linter.unusedVariables false
set_option linter.unusedSimpArgs false
set_option maxRecDepth 100000

theorem below_of_grown {w w' : World} {B r : Nat} (h : w.grownBy w' (some r)) (hr : B ≤ r) (hB : B ≤ w.heap.size) : Below B w w' := ⟨h.os, h.tape, h.output, h.size, fun i hi => h.block i (by omega) fun e => by injection e with e; omega⟩
theorem grown_of_own {w w' : World} {B : Nat} {A : Option Addr} {n c : Nat} (h : w.grownBy w' (Value.slice A n c).ownBlock) (hl : ∀ k, (Value.slice A n c).ownBlock = some k → B ≤ k) (hB : B ≤ w.heap.size) : Below B w w' := ⟨h.os, h.tape, h.output, h.size, fun i hi => h.block i (by omega) fun e => by have := hl i e.symm; omega⟩
/-- A group's set, or nil where there is none. -/
theorem GrpT.grab {G : Type} [DecidableEq G] {t k0 : TypeId} {M : MK Try.prog t k0 100 G (Option Nat)} {w : World} {b : Nat} {F : Nat → Prop} {R : G → KeyT → Prop} {T : List (G × Nat)} (h : GrpT M w b F R T) (hz : M.zero = none) (d : G) :
    ∃ ob K, getM M (tm T) d = ob ∧ MapO mkS w ob (us K) ∧ K.Nodup ∧ (∀ k, k ∈ K ↔ R d k) ∧ ∀ x, ob = some x → F x := by
  by_cases hin : ∃ x, (d, x) ∈ T
  · obtain ⟨x, hx⟩ := hin
    obtain ⟨K, q1, q2, q3⟩ := h.each _ hx
    exact ⟨some x, K, h.get hx, q1, us_once q1, q3, fun y hy => by injection hy with hy; rw [← hy]; exact (h.blocks hx).2.2.1⟩
  · refine ⟨none, [], h.none_ hz fun x hx => hin ⟨x, hx⟩, rfl, List.nodup_nil, fun k => ⟨fun hk => (by cases hk), fun hk => ?_⟩, fun x hx => (by cases hx)⟩
    obtain ⟨x, hx⟩ := h.all _ _ hk
    exact absurd ⟨x, hx⟩ hin
theorem MapO.blk {α β : Type} {t k e : TypeId} {M : MK Try.prog t k e α β} {w w' : World} {ob : Option Nat} {L : List (α × β)} (h : MapO M w ob L) (hb : ∀ x, ob = some x → w'.heap[x]? = w.heap[x]?) : MapO M w' ob L := by
  cases ob with
  | none => exact h
  | some x => exact MapL.blk h (hb x rfl)
theorem twins_eq {L : List RowT} (h : RowsOk L) {d : List UInt8} {K l : List KeyT} (hn : K.Nodup) (hK : ∀ k, k ∈ K ↔ RT L d k) (hp : l.Perm K) (hs : l.Pairwise (fun a b => ¬ ordK b < ordK a)) : l = twinsX L d := by
  have hr : (twinsX L d).Pairwise (fun a b => ordK a < ordK b) := by
    unfold twinsX
    rw [List.pairwise_map]
    exact List.Pairwise.filter _ h.rise
  have hnd : (twinsX L d).Nodup := List.Pairwise.imp (fun hab e => by rw [e] at hab; omega) hr
  have hm : ∀ k, k ∈ l ↔ k ∈ twinsX L d := fun k => by
    rw [hp.mem_iff, hK k, mem_twinsX]
    rfl
  refine sorted_unique (lt := fun a b => ordK a < ordK b) (fun a ha b hb h1 h2 => ?_) ((List.perm_ext_iff_of_nodup (hp.nodup_iff.2 hn) hnd).2 hm) hs (hr.imp fun h => by omega)
  obtain ⟨_, p, hpa⟩ := mem_twinsX.1 ((hm a).1 ha)
  obtain ⟨_, q, hqb⟩ := mem_twinsX.1 ((hm b).1 hb)
  exact ordK_inj (h.key _ hpa) (h.key _ hqb) (by omega)
set_option maxRecDepth 100000 in
set_option maxHeartbeats 8000000 in
theorem twins_any (w : World) (s : Addr) (F : Nat → Prop) (L : List RowT) (h : Ist w s F L) (hl : L.length ≤ 10000) (d : List UInt8) (hd : d.length = 32) :
    Calls Try.prog 48 #[.pointer (some s), .agg (bv d).toArray] w fun e w' => ∃ A c, e = .returned (.slice A (twinsX L d).length c) ∧ RdK w' w'.heap.size A (twinsX L d) ∧ (twinsX L d).length ≤ c ∧ c ≤ maxLen ∧ (∀ ad, A = some ad → w.heap.size ≤ ad.block) ∧ Below w.heap.size w w' := by
  have hLok := h.ok
  obtain ⟨g, bp, bt, bs, FT, FH, rfl, hF, hi⟩ := h
  obtain ⟨S, hS⟩ : ∃ S, bv d = S := ⟨_, rfl⟩
  have hSl : S.length = 32 := by rw [← hS, bv_length]; exact hd
  obtain ⟨w1, hw1⟩ : ∃ w1, w.alloc (.cells S.toArray 35) = w1 := ⟨_, rfl⟩
  obtain ⟨sb, hsb⟩ : ∃ sb, w.heap.size = sb := ⟨_, rfl⟩
  have hs1 : w1.heap.size = sb + 1 := by rw [← hw1, ← hsb]; simp
  have hb1 : Below w.heap.size w w1 := hw1 ▸ (Below.refl _ _).alloc (Nat.le_refl _) _
  have hk1 : Blk w1 sb 35 S.toArray := by rw [← hsb, ← hw1]; exact Blk.new w _ _
  have hi1 := hi.on hb1
  obtain ⟨T, hT⟩ := hi1.tw
  obtain ⟨ob, K, hob, hO, hKn, hK, hobF⟩ := hT.grab rfl d
  have hKl : K.length ≤ 10000 := roomK (room_rt hl) hKn hK
  have hKok : ∀ k ∈ K, KeyT.Ok k := fun k hk => by
    obtain ⟨_, p, hp⟩ := (hK k).1 hk
    exact hLok.key _ hp
  have hobl : ∀ x, ob = some x → x < sb := fun x hx => hsb ▸ hi.tw.lt x (hobF x hx)
  obtain ⟨fs, es, hfs⟩ := sum_desc'
  obtain ⟨fk, hfk⟩ := key_desc'
  have c1 : w1.cell? ⟨g, 1, none⟩ = some (.map (some bt)) := hi1.blk.cell 1
  have HK := Lib.hid (And.intro hKn (And.intro hK (And.intro hKl hKok)))
  have HO := Lib.hid hO
  have HOL := Lib.hid hobl
  have HLK := Lib.hid (show (Instr.lookup 79 (.map (some bt)) (.agg S.toArray) false).run Try.prog w1.drew = .ok (.map ob) w1.drew from by
    have := (show MapL mkT w1.drew bt (tm T) from hT.map.blk rfl).look okT (q := d) hd
    rw [hob] at this
    rw [← hS]; exact this)
  have HW := Lib.hid (And.intro hw1 (And.intro hsb hs1))
  have HB := Lib.hid hb1
  have HK1 := Lib.hid hk1
  have HF := Lib.hid (And.intro hfs hfk)
  have HSS := Lib.hid (show (Try.prog.info? 35).map (·.size) = some S.length from by rw [hSl]; exact sum_size')
  have HLO := Lib.hid hLok
  rw [hS]
  clear hi hS hSl hw1 hsb hs1 hb1 hk1 hi1 hT hob hO hKn hK hobF hKl hKok hobl hfs hfk hLok hF
  go_enter Try.func48, Try.ntmps48
  go_upto_region 1 with fail
  rw [HW.out.1, HW.out.2.1]
  go_upto_region 4 with fail
  refine wp_region_still_tail 6 (by kernel_rfl) (by kernel_rfl) ?_
  simp only [List.take_succ_cons, List.take_zero, List.drop_succ_cons, List.drop_zero]
  still_step
  still_step
  still_step
  still_step
  refine wpStill_load_mid rfl 35 (.tmp 3) rfl sb 0 rfl S (.array fs es) (range_of_blk (show Blk w1.drew sb 35 S.toArray from HK1.out)) HF.out.1 rfl HSS.out ?_
  refine wpStill_look rfl 79 (.tmp 12) (.tmp 13) false rfl _ _ _ rfl rfl HLK.out ?_
  refine wpStill_nil ?_
  change wpList _ _ _ _ _ w1.drew
  refine wpList_range_g w1.drew rfl (.tmp 14) rfl okS ob rfl (HO.out.blk fun x _ => rfl) ?_
  intro w2 r1 r2 r3
  have r3 : w2.heap.size = w1.heap.size + 1 := r3
  have hr0 : (w1.drew).heap.size = w1.heap.size := rfl
  obtain ⟨rb, hrb⟩ : ∃ rb, w1.heap.size = rb := ⟨_, rfl⟩
  rw [hr0, hrb] at r1
  rw [hr0, hrb]
  have hb2 : Below rb w1 w2 := ⟨r2.os, r2.tape, r2.output, r2.size, fun i hi => r2.block i (by show i < w1.heap.size; omega) (by simp)⟩
  rw [hrb] at r3
  have HR1 := Lib.hid r1
  have HB2 := Lib.hid hb2
  have HRB := Lib.hid (And.intro hrb r3)
  clear r1 r2 r3 hr0 hrb hb2 c1
  go_frame
  go_wp2_with fail
  go_loopw [5] (fun v wr => ∃ (acc : List KeyT) (rest : List (KeyT × Unit)) (A : Option Addr) (c : Nat), v = .slice A acc.length c ∧ Hid (MapR mkS wr ob rb (us K) rest ∧ OwnG 38 33 kcs wr (rb + 1) A c acc ∧ (us acc ++ rest).Perm (us K) ∧ Below rb w1 wr)) (fun _ wr => leftO wr ob rb)
  case atStart => exact ⟨[], us K, none, 0, rfl, Lib.hid ⟨HR1.out, OwnG.nil _ _, List.Perm.refl _, HB2.out⟩⟩
  case round =>
    obtain ⟨acc, rest, A, c, rfl, hrel⟩ := hrel
    obtain ⟨hm, ho, hp, hb⟩ := hrel.out
    obtain ⟨n, hn⟩ : ∃ n, acc.length = n := ⟨_, rfl⟩
    rw [hn]
    have HN := Lib.hid hn
    have HM := Lib.hid hm
    have HOW := Lib.hid ho
    have HPM := Lib.hid hp
    have HBW := Lib.hid hb
    have hplen := hp.length_eq
    rw [List.length_append, us_length, us_length, hn] at hplen
    have HPL := Lib.hid hplen
    by_cases hne : rest = []
    · subst hne
      have HPA := Lib.hid (show acc.Perm K from by
        have := hp.map (·.1)
        rwa [List.append_nil, us_fst, us_fst] at this)
      have hok : ∀ x ∈ acc, KeyT.Ok x := fun x hx => HK.out.2.2.2 x (HPA.out.mem_iff.1 hx)
      have CS := Lib.hid (sort_keys acc hok ho (by have := HK.out.2.2.1; rw [← HPA.out.length_eq] at this; omega))
      rw [hn] at CS
      clear hm ho hp hb hn hplen hrel hok
      go_wp2_with (first
        | (refine wpList_next_g _ rfl (.tmp 15) rfl okS ob rb [] rfl HM.out (fun _ => ?_) (fun x c l' w' _ hpp => absurd hpp.length_eq (by simp)))
        | (go_at_call 61; (with_reducible refine CS.out.mono ?_); rintro e wq ⟨rfl, hq⟩; have HQ := Lib.hid hq; clear hq))
      go_ret
      obtain ⟨l', p1, p2, p3, p4⟩ := HQ.out
      have e1 := twins_eq HLO.out HK.out.1 HK.out.2.1 (p1.trans HPA.out) p2
      subst e1
      have hln : (twinsX L d).length = n := by rw [p1.length_eq, HN.out]
      have hok2 : ∀ x ∈ twinsX L d, KeyT.Ok x := fun x hx => HK.out.2.2.2 x (HPA.out.mem_iff.1 (p1.mem_iff.1 hx))
      have hrb := HRB.out
      have hbz : rb ≤ wr.heap.size := by have := HBW.out.size; omega
      have hbq : Below rb wr wq := grown_of_own p4 (fun k hk => by
        have hk2 : (Value.slice A acc.length c).ownBlock = some k := by rw [HN.out]; exact hk
        have := (HOW.out.lt hk2).1
        omega) hbz
      refine ⟨A, c, by rw [hln]; rfl, ⟨p3.rd keyE hok2, hok2⟩, p3.cap.1, p3.cap.2, fun ad hA => ?_, ?_⟩
      · have := (p3.adr ad hA).1
        rw [HW.out.2.1]
        have := HW.out.2.2
        omega
      · have e2 := HW.out.2.2
        have := (HBW.out.mono (B' := w.heap.size) (by rw [HW.out.2.1]; omega)).trans (hbq.mono (by rw [HW.out.2.1]; omega))
        exact HB.out.trans this
    · clear hm ho hp hb hn hplen hrel
      go_upto_region 6 with (refine wpList_next_g _ rfl (.tmp 15) rfl okS ob rb rest rfl HM.out (fun h => absurd h hne) ?_; intro y u rest' wn hyok hperm hmn hlt hgn hszn hen)
      have hyok : KeyT.Ok y := hyok
      obtain ⟨Y, hY⟩ : ∃ Y, kcs y = Y := ⟨_, rfl⟩
      have hYl : Y.length = 33 := by rw [← hY]; exact kcs_length hyok
      have hen2 : (Instr.entry (.pointer (some ⟨rb, 0, none⟩))).run Try.prog wn = .ok (.tuple #[.agg Y.toArray, .agg #[]]) wn := by rw [hen, ← hY]; rfl
      clear hen
      obtain ⟨wa, hwa⟩ : ∃ wa, wn.alloc (.cells Y.toArray 38) = wa := ⟨_, rfl⟩
      obtain ⟨wb, hwb⟩ : ∃ wb, wa.alloc (.cells (kcs y).toArray 38) = wb := ⟨_, rfl⟩
      have hrb := HRB.out
      have hbz : rb < wr.heap.size := HM.out.lt
      have hbn : Below rb wr wn := below_of_grown hgn (Nat.le_refl _) (by omega)
      have hba : Below wn.heap.size wn wa := hwa ▸ (Below.refl _ _).alloc (Nat.le_refl _) _
      have hbb : Below wa.heap.size wa wb := hwb ▸ (Below.refl _ _).alloc (Nat.le_refl _) _
      have hbab : Below wn.heap.size wn wb := hba.trans (hbb.mono hba.size)
      have hon : OwnG 38 33 kcs wn (rb + 1) A c acc := HOW.out.grown hgn fun k hk e => by
        have := (HOW.out.lt e).1
        injection hk with hk
        omega
      have hob : OwnG 38 33 kcs wb (rb + 1) A c acc := hon.on hbab
      have HBZ := Lib.hid (Blk.new wn 38 (kz 0))
      have HKS2 := Lib.hid (show (Try.prog.info? 38).map (·.size) = some Y.toArray.size from by rw [List.size_toArray, hYl]; exact key_size)
      have HOLD := Lib.hid (show (kz 0).size = Y.toArray.size from kz_size.trans (by rw [List.size_toArray, hYl]))
      have HONE := Lib.hid (show Y.toArray.all (·.oneCell') = true from by rw [← hY]; exact kcs_one)
      have HYS := Lib.hid (show (Try.prog.info? 38).map (·.size) = some Y.length from by rw [hYl]; exact key_size)
      have HWA := Lib.hid hwa
      have HWB := Lib.hid hwb
      have HY := Lib.hid hY
      have HYR := Lib.hid (show wa.rangeAt wn.heap.size 0 Y from range_of_blk (hwa ▸ Blk.new wn _ _))
      have HOB := Lib.hid hob
      have HRD := Lib.hid (show RdS wb wb.heap.size 33 (some ⟨wa.heap.size, 0, none⟩) ([y].map kcs) from by rw [← hwb]; exact rds_one wa y _ 33 kcs)
      have HY1 := Lib.hid hyok
      have HPE := Lib.hid hperm
      have HMN := Lib.hid hmn
      have HLT := Lib.hid hlt
      have HBN := Lib.hid (And.intro hbn hbab)
      have HRZ := Lib.hid (show rb + 1 ≤ wb.heap.size from by have := hbn.size; have := hbab.size; omega)
      have HNL := Lib.hid (show n ≤ 10000 by have := HPL.out; have := HK.out.2.2.1; omega)
      clear hyok hY hYl hwa hwb hbz hbn hba hbb hbab hon hob hperm hmn hlt hgn hszn hrb
      go_wp2_with (first
        | (refine wpList_store_row rfl 38 (.tmp 6) (.tmp 19) rfl wn.heap.size Y.toArray rfl rfl 38 (kz 0) HBZ.out HKS2.out HOLD.out HONE.out ?_; rw [setRow_alloc, HWA.out])
        | (refine wpList_load_mid rfl 38 (.tmp 6) rfl wn.heap.size 0 rfl Y (.struct fk) HYR.out HF.out.2 rfl HYS.out ?_)
        | (refine wpList_buildOne keyE rfl (.tmp 21) rfl (y := y) HY1.out (show _ = Value.agg (kcs y).toArray by rw [HY.out]; rfl) ?_; rw [HWB.out])
        | (refine wpList_append_g keyE rfl (.tmp 20) (.tmp 22) rfl (rb + 1) A c n acc HN.out rfl HOB.out wb.heap.size (some ⟨wa.heap.size, 0, none⟩) 1 1 [y] rfl rfl HRD.out (fun x hx => by rw [List.mem_singleton.1 hx]; exact HY1.out) (by have := HNL.out; omega) HRZ.out ?_; intro A' c' wc hoc hgc; have HOC := Lib.hid hoc; have HGC := Lib.hid hgc; clear hoc hgc))
      have hlow : ∀ k, (Value.slice A n c).ownBlock = some k → rb + 1 ≤ k := fun k hk => (HOW.out.lt (by rw [HN.out]; exact hk)).1
      have hbc := grown_of_own HGC.out hlow HRZ.out
      have hzn : rb + 1 ≤ wn.heap.size := HMN.out.lt
      have hbk : ∀ j, j < rb + 1 → wc.heap[j]? = wn.heap[j]? := fun j hj => (hbc.block j hj).trans (HBN.out.2.block j (by omega))
      have hobk : ∀ x, ob = some x → wc.heap[x]? = wn.heap[x]? := fun x hx => hbk x (by have := HOL.out x hx; have := HW.out.2.2; have := HRB.out.1; omega)
      refine ⟨⟨acc ++ [y], rest', A', c', by rw [List.length_append, HN.out]; rfl, Lib.hid ⟨HMN.out.kept hobk (hbk rb (by omega)), HOC.out, ?_, ?_⟩⟩, ?_⟩
      · have e1 : us (acc ++ [y]) = us acc ++ [(y, ())] := by simp [us]
        rw [e1, List.append_assoc]
        exact ((HPE.out.symm.append_left (us acc)).trans HPM.out)
      · exact ((HBW.out.trans HBN.out.1).trans (HBN.out.2.mono (by omega))).trans (hbc.mono (by omega))
      · rw [leftO_kept hobk (hbk rb (by omega))]
        exact HLT.out
end Go.Proofs.Ytoofhaoaogoomaa
/- The landed index: All. No statement of the seat is proved here. -/
namespace Go.Proofs.Ytoofhaoaogoomaa
open Go Go.Maps Go.RowKit
set_option linter.unusedVariables false
set_option linter.unusedSimpArgs false
set_option maxRecDepth 100000

/-- A struct literal of two parts. -/
theorem wpList_built {P : Program} {ops : Array Oper} {rest : List Oper} {o : Oper} {a : Act} {w : World} {Q : Exit → Act → World → Prop} (hgd : o.guard = none) (t : TypeId) (x y : Operand) (ho : o.op = .build t #[(0, x), (1, y)])
    (v1 v2 : Value) (hx : a.eval x = v1) (hy : a.eval y = v2) (cells : Array Value) (hc : P.built t [(0, v1), (1, v2)] = some cells) (h : wpList P ops Q rest (a.put o.dst (.agg cells)) w) : wpList P ops Q (o :: rest) a w :=
  wpList_plain hgd fun K hK => by
    have := run_build w t #[(0, v1), (1, v2)] cells hc
    unfold Oper.wp execOp
    simp only [ho, List.map_toArray, List.map_cons, List.map_nil, hx, hy, Sem.run_bind, this, Result.andThen_ok, Sem.run_pure]
    exact hK _ _ h
theorem wpStill_built {P : Program} {ops : Array Oper} {w : World} {Q : Act → Prop} {a : Act} {o : Oper} {rest : List Oper} (hgd : o.guard = none) (t : TypeId) (x y : Operand) (ho : o.op = .build t #[(0, x), (1, y)])
    (v1 v2 : Value) (hx : a.eval x = v1) (hy : a.eval y = v2) (cells : Array Value) (hc : P.built t [(0, v1), (1, v2)] = some cells) (h : wpStill P ops w Q rest (a.put o.dst (.agg cells))) : wpStill P ops w Q (o :: rest) a := by
  have hw : Region.wanted o (yielded ops a.tmps) = true := by simp [Region.wanted, hgd]
  have := run_build w t #[(0, v1), (1, v2)] cells hc
  refine wpStill_step fun K hK => ?_
  rw [if_pos hw]
  unfold Oper.still execOp
  simp only [ho, List.map_toArray, List.map_cons, List.map_nil, hx, hy, Sem.run_bind, this, Result.andThen_ok, Sem.run_pure]
  exact ⟨rfl, hK _ h⟩
theorem setRow_alloc2 (w : World) (t : TypeId) (cs ds : Array Value) (o : Obj) : ((w.alloc (.cells cs t)).alloc o).setRow w.heap.size ds = (w.alloc (.cells ds t)).alloc o := by
  have h1 := setRow_alloc w t cs ds
  unfold World.setRow at h1 ⊢
  have h2 := congrArg World.heap h1
  simp only [World.alloc] at h2 ⊢
  congr 1
  have e : ∀ (a : Array Obj) (i : Nat) (hi : i < a.size) (x : Obj) (f : Obj → Obj), (a.push x).modify i f = (a.modify i f).push x := fun a i hi x f => by
    apply Array.ext
    · simp
    · intro j h1 h2
      simp only [Array.size_modify, Array.size_push] at h1
      rw [Array.getElem_modify, Array.getElem_push, Array.getElem_push]
      by_cases hj : j < a.size
      · simp only [hj, Array.size_modify, dite_true, Array.getElem_modify]
      · have : i ≠ j := by omega
        simp [hj, this]
  rw [e _ _ (by simp), h2]
theorem all_eq {L l : List RowT} (h : RowsOk L) (hp : l.Perm L) (hs : l.Pairwise (fun a b => ¬ ordK b.1 < ordK a.1)) : l = L := by
  refine sorted_unique (lt := fun a b : RowT => ordK a.1 < ordK b.1) (fun a ha b hb h1 h2 => ?_) hp hs (h.rise.imp fun h => by omega)
  have ma := hp.mem_iff.1 ha
  have mb := hp.mem_iff.1 hb
  have e := ordK_inj (h.key _ ma) (h.key _ mb) (by omega)
  obtain ⟨a1, a2⟩ := a
  obtain ⟨b1, b2⟩ := b
  have e : a1 = b1 := e
  subst e
  rw [once_eq (rise_once h.rise) ma mb]
theorem rows_ok {L : List RowT} (h : RowsOk L) {r : RowT} (hr : r ∈ L) : RowT.Ok r := ⟨h.key r hr, (h.place r hr).1, (h.place r hr).2⟩
set_option maxRecDepth 100000 in
set_option maxHeartbeats 8000000 in
theorem all_any (w : World) (s : Addr) (F : Nat → Prop) (L : List RowT) (h : Ist w s F L) (hl : L.length ≤ 10000) :
    Calls Try.prog 17 #[.pointer (some s)] w fun e w' => ∃ A c, e = .returned (.slice A L.length c) ∧ RdRw w' w'.heap.size A L ∧ L.length ≤ c ∧ c ≤ maxLen ∧ (∀ ad, A = some ad → w.heap.size ≤ ad.block) ∧ Below w.heap.size w w' := by
  have hLok := h.ok
  obtain ⟨g, bp, bt, bs, FT, FH, rfl, hF, hi⟩ := h
  obtain ⟨fk, hfk⟩ := key_desc'
  obtain ⟨fp, hfp⟩ := place_desc
  have c0 : w.cell? ⟨g, 0, none⟩ = some (.map (some bp)) := hi.blk.cell 0
  have HPL := Lib.hid hi.places
  have HBP := Lib.hid (show bp < w.heap.size from hi.places.lt)
  have HF := Lib.hid (And.intro hfk hfp)
  have HLO := Lib.hid hLok
  have HL := Lib.hid hl
  obtain ⟨rb, hrb⟩ : ∃ rb, w.heap.size = rb := ⟨_, rfl⟩
  have HRB := Lib.hid hrb
  clear hi hfk hfp hLok hF hl hrb
  go_enter Try.func17, Try.ntmps17
  go_wp2_with (refine wpList_range_g w rfl (.tmp 11) rfl okP (some bp) rfl HPL.out ?_; intro w2 r1 r2 r3; rw [HRB.out] at r1 r3 ⊢; have HR1 := Lib.hid r1; have HB2 := Lib.hid (show Below rb w w2 from ⟨r2.os, r2.tape, r2.output, r2.size, fun i hi => r2.block i (by rw [HRB.out]; exact hi) (by simp)⟩); have HR3 := Lib.hid r3; clear r1 r2 r3 c0; go_frame)
  go_loopw [3] (fun v wr => ∃ (acc : List RowT) (rest : List RowT) (A : Option Addr) (c : Nat), v = .slice A acc.length c ∧ Hid (MapR mkP wr (some bp) rb L rest ∧ OwnG 42 35 rcs wr (rb + 1) A c acc ∧ (acc ++ rest).Perm L ∧ Below rb w wr)) (fun _ wr => leftO wr (some bp) rb)
  case atStart => exact ⟨[], L, none, 0, rfl, Lib.hid ⟨HR1.out, OwnG.nil _ _, List.Perm.refl _, HB2.out⟩⟩
  case round =>
    obtain ⟨acc, rest, A, c, rfl, hrel⟩ := hrel
    obtain ⟨hm, ho, hp, hb⟩ := hrel.out
    obtain ⟨n, hn⟩ : ∃ n, acc.length = n := ⟨_, rfl⟩
    rw [hn]
    have HN := Lib.hid hn
    have HM := Lib.hid hm
    have HOW := Lib.hid ho
    have HPM := Lib.hid hp
    have HBW := Lib.hid hb
    have hplen := hp.length_eq
    rw [List.length_append, hn] at hplen
    have HPN := Lib.hid hplen
    have hacc : ∀ x ∈ acc ++ rest, RowT.Ok x := fun x hx => rows_ok HLO.out (hp.mem_iff.1 hx)
    have HAC := Lib.hid hacc
    by_cases hne : rest = []
    · subst hne
      have HPA := Lib.hid (show acc.Perm L from by rwa [List.append_nil] at hp)
      have CS := Lib.hid (sort_rows acc (fun x hx => hacc x (by simpa using hx)) ho (by have := HL.out; rw [List.length_nil] at hplen; omega))
      rw [hn] at CS
      clear hm ho hp hb hn hplen hrel hacc
      go_wp2_with (first
        | (refine wpList_next_g _ rfl (.tmp 12) rfl okP (some bp) rb [] rfl HM.out (fun _ => ?_) (fun x c l' w' _ hpp => absurd hpp.length_eq (by simp)))
        | (go_at_call 38; (with_reducible refine CS.out.mono ?_); rintro e wq ⟨rfl, hq⟩; have HQ := Lib.hid hq; clear hq))
      go_ret
      obtain ⟨l', p1, p2, p3, p4⟩ := HQ.out
      have e1 := all_eq HLO.out (p1.trans HPA.out) p2
      subst e1
      have hln : l'.length = n := by rw [p1.length_eq, HN.out]
      have hok2 : ∀ x ∈ l', RowT.Ok x := fun x hx => rows_ok HLO.out hx
      have hrb := HRB.out
      have hbz : rb ≤ wr.heap.size := by have := HBW.out.size; omega
      have hbq : Below rb wr wq := grown_of_own p4 (fun k hk => by
        have hk2 : (Value.slice A acc.length c).ownBlock = some k := by rw [HN.out]; exact hk
        have := (HOW.out.lt hk2).1
        omega) hbz
      refine ⟨A, c, by rw [hln]; rfl, ⟨p3.rd rowE hok2, hok2⟩, p3.cap.1, p3.cap.2, fun ad hA => ?_, ?_⟩
      · have := (p3.adr ad hA).1
        omega
      · rw [hrb]
        exact HBW.out.trans hbq
    · clear hm ho hp hb hn hplen hrel hacc
      go_upto_region 6 with (refine wpList_next_g _ rfl (.tmp 12) rfl okP (some bp) rb rest rfl HM.out (fun h => absurd h hne) ?_; intro y u rest' wn hyok hperm hmn hlt hgn hszn hen)
      have hyok : KeyT.Ok y := hyok
      obtain ⟨p1, p2⟩ := u
      obtain ⟨Y, hY⟩ : ∃ Y, kcs y = Y := ⟨_, rfl⟩
      have hYl : Y.length = 33 := by rw [← hY]; exact kcs_length hyok
      have hrok : RowT.Ok (y, ((p1, p2) : Int × Int)) := HAC.out _ (List.mem_append.2 (.inr (hperm.mem_iff.2 List.mem_cons_self)))
      have hen2 : (Instr.entry (.pointer (some ⟨rb, 0, none⟩))).run Try.prog wn = .ok (.tuple #[.agg Y.toArray, .agg #[.int .i64 p1, .int .i64 p2]]) wn := by rw [hen, ← hY]; rfl
      clear hen
      obtain ⟨wa, hwa⟩ : ∃ wa, (wn.alloc (.cells Y.toArray 38)).alloc (.cells #[.int .i64 p1, .int .i64 p2] 40) = wa := ⟨_, rfl⟩
      obtain ⟨wb, hwb⟩ : ∃ wb, wa.alloc (.cells (rcs (y, ((p1, p2) : Int × Int))).toArray 42) = wb := ⟨_, rfl⟩
      have hz1 : (wn.alloc (.cells Y.toArray 38)).heap.size = wn.heap.size + 1 := by simp
      have hrb := HRB.out
      have hbz : rb < wr.heap.size := HM.out.lt
      have hbn : Below rb wr wn := below_of_grown hgn (Nat.le_refl _) (by omega)
      have hba1 : Below wn.heap.size wn (wn.alloc (.cells Y.toArray 38)) := (Below.refl _ _).alloc (Nat.le_refl _) _
      have hba : Below wn.heap.size wn wa := hwa ▸ hba1.alloc hba1.size _
      have hbb : Below wa.heap.size wa wb := hwb ▸ (Below.refl _ _).alloc (Nat.le_refl _) _
      have hbab : Below wn.heap.size wn wb := hba.trans (hbb.mono hba.size)
      have hon : OwnG 42 35 rcs wn (rb + 1) A c acc := HOW.out.grown hgn fun k hk e => by
        have := (HOW.out.lt e).1
        injection hk with hk
        omega
      have hob : OwnG 42 35 rcs wb (rb + 1) A c acc := hon.on hbab
      have hky : Blk wa wn.heap.size 38 Y.toArray := by
        have h1 : Blk (wn.alloc (.cells Y.toArray 38)) wn.heap.size 38 Y.toArray := Blk.new wn _ _
        have h2 : Below (wn.alloc (.cells Y.toArray 38)).heap.size (wn.alloc (.cells Y.toArray 38)) wa := hwa ▸ (Below.refl _ _).alloc (Nat.le_refl _) _
        exact h1.below h2 (by omega)
      have hpl : Blk wa (wn.heap.size + 1) 40 #[.int .i64 p1, .int .i64 p2] := by rw [← hwa, ← hz1]; exact Blk.new _ _ _
      have HBZ := Lib.hid (show Blk ((wn.alloc (.cells (kz 0) 38)).alloc (.cells #[.int .i64 0, .int .i64 0] 40)) wn.heap.size 38 (kz 0) from by
        have h1 : Blk (wn.alloc (.cells (kz 0) 38)) wn.heap.size 38 (kz 0) := Blk.new wn _ _
        exact h1.below ((Below.refl _ _).alloc (Nat.le_refl _) _) h1.lt)
      have HKS2 := Lib.hid (show (Try.prog.info? 38).map (·.size) = some Y.toArray.size from by rw [List.size_toArray, hYl]; exact key_size)
      have HOLD := Lib.hid (show (kz 0).size = Y.toArray.size from kz_size.trans (by rw [List.size_toArray, hYl]))
      have HONE := Lib.hid (show Y.toArray.all (·.oneCell') = true from by rw [← hY]; exact kcs_one)
      have HYS := Lib.hid (show (Try.prog.info? 38).map (·.size) = some Y.length from by rw [hYl]; exact key_size)
      have HPS := Lib.hid (show (Try.prog.info? 40).map (·.size) = some ([Value.int .i64 p1, Value.int .i64 p2]).length from place_size)
      have HWA := Lib.hid hwa
      have HWB := Lib.hid hwb
      have HBR := Lib.hid (show Try.prog.built 42 [(0, .agg Y.toArray), (1, .agg #[.int .i64 p1, .int .i64 p2])] = some (rcs (y, ((p1, p2) : Int × Int))).toArray from by rw [← hY]; exact built_row hyok (p1, p2))
      have HYR := Lib.hid (range_of_blk hky)
      have HPR := Lib.hid (show wa.rangeAt (wn.heap.size + 1) 0 [.int .i64 p1, .int .i64 p2] from range_of_blk hpl)
      have HOB := Lib.hid hob
      have HRD := Lib.hid (show RdS wb wb.heap.size 35 (some ⟨wa.heap.size, 0, none⟩) ([(y, ((p1, p2) : Int × Int))].map rcs) from by rw [← hwb]; exact rds_one wa (y, ((p1, p2) : Int × Int)) _ 35 rcs)
      have HY1 := Lib.hid hrok
      have HPE := Lib.hid hperm
      have HMN := Lib.hid hmn
      have HLT := Lib.hid hlt
      have HBN := Lib.hid (And.intro hbn hbab)
      have HRZ := Lib.hid (show rb + 1 ≤ wb.heap.size from by have := hbn.size; have := hbab.size; omega)
      have HNL := Lib.hid (show n ≤ 10000 by have := HPN.out; have := HL.out; omega)
      clear hyok hY hYl hwa hwb hz1 hbz hbn hba1 hba hbb hbab hon hob hky hpl hrok hperm hmn hlt hgn hszn hrb
      go_upto_region 7 with (refine wpList_store_row rfl 38 (.tmp 4) (.tmp 16) rfl wn.heap.size Y.toArray rfl rfl 38 (kz 0) HBZ.out HKS2.out HOLD.out HONE.out ?_; rw [setRow_alloc2])
      rw [HWA.out]
      go_wp2_with (first
        | (refine wpList_load_mid rfl 38 (.tmp 4) rfl wn.heap.size 0 rfl Y (.struct fk) HYR.out HF.out.1 rfl HYS.out ?_)
        | (refine wpList_load_mid rfl 40 (.tmp 5) rfl (wn.heap.size + 1) 0 rfl [.int .i64 p1, .int .i64 p2] (.struct fp) HPR.out HF.out.2 rfl HPS.out ?_)
        | (refine wpList_built rfl 42 (.tmp 19) (.tmp 20) rfl (.agg Y.toArray) (.agg #[.int .i64 p1, .int .i64 p2]) rfl rfl (rcs (y, ((p1, p2) : Int × Int))).toArray HBR.out ?_)
        | (refine wpList_buildOne rowE rfl (.tmp 21) rfl (y := (y, ((p1, p2) : Int × Int))) HY1.out rfl ?_; rw [HWB.out])
        | (refine wpList_append_g rowE rfl (.tmp 18) (.tmp 22) rfl (rb + 1) A c n acc HN.out rfl HOB.out wb.heap.size (some ⟨wa.heap.size, 0, none⟩) 1 1 [(y, ((p1, p2) : Int × Int))] rfl rfl HRD.out (fun x hx => by rw [List.mem_singleton.1 hx]; exact HY1.out) (by have := HNL.out; omega) HRZ.out ?_; intro A' c' wc hoc hgc; have HOC := Lib.hid hoc; have HGC := Lib.hid hgc; clear hoc hgc))
      have hlow : ∀ k, (Value.slice A n c).ownBlock = some k → rb + 1 ≤ k := fun k hk => (HOW.out.lt (by rw [HN.out]; exact hk)).1
      have hbc := grown_of_own HGC.out hlow HRZ.out
      have hzn : rb + 1 ≤ wn.heap.size := HMN.out.lt
      have hbk : ∀ j, j < rb + 1 → wc.heap[j]? = wn.heap[j]? := fun j hj => (hbc.block j hj).trans (HBN.out.2.block j (by omega))
      have hobk : ∀ x, some bp = some x → wc.heap[x]? = wn.heap[x]? := fun x hx => hbk x (by injection hx with hx; have := HBP.out; have := HRB.out; omega)
      refine ⟨⟨acc ++ [(y, (p1, p2))], rest', A', c', by rw [List.length_append, HN.out]; rfl, Lib.hid ⟨HMN.out.kept hobk (hbk rb (by omega)), HOC.out, ?_, ?_⟩⟩, ?_⟩
      · rw [List.append_assoc]
        exact ((HPE.out.symm.append_left acc).trans HPM.out)
      · exact ((HBW.out.trans HBN.out.1).trans (HBN.out.2.mono (by omega))).trans (hbc.mono (by omega))
      · rw [leftO_kept hobk (hbk rb (by omega))]
        exact HLT.out
end Go.Proofs.Ytoofhaoaogoomaa
