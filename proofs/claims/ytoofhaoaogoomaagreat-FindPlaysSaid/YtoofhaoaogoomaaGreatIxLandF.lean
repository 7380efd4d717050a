/- The landed index: All. No statement of the seat is proved here. -/
import Derived.Test.YtoofhaoaogoomaaGreatZLBI
namespace Go.Proofs.YtoofhaoaogoomaaGreat
open Go Go.Maps Go.RowKit
set_option linter.unusedVariables false
set_option linter.unusedSimpArgs false
set_option maxRecDepth 100000

/-- A struct literal of two parts. -/
theorem wpList_built {P : Program} {ops : Array Oper} {rest : List Oper} {o : Oper} {a : Act} {w : World} {Q : Exit → Act → World → Prop} (hgd : o.guard = none) (t : TypeId) (x y : Operand) (ho : o.op = .build t #[(0, x), (1, y)])
    (v1 v2 : Value) (hx : a.eval x = v1) (hy : a.eval y = v2) (cells : Array Value) (hc : P.built t [(0, v1), (1, v2)] = some cells) (h : wpList P ops Q rest (a.put o.dst (.agg cells)) w) : wpList P ops Q (o :: rest) a w :=
  wpList_plain hgd fun K hK => by
    have := run_build w t #[(0, v1), (1, v2)] cells hc
    unfold Oper.wp execOp
    simp only [ho, List.map_toArray, List.map_cons, List.map_nil, hx, hy, Sem.run_bind, this, Result.andThen_ok, Sem.run_pure]
    exact hK _ _ h
theorem wpStill_built {P : Program} {ops : Array Oper} {w : World} {Q : Act → Prop} {a : Act} {o : Oper} {rest : List Oper} (hgd : o.guard = none) (t : TypeId) (x y : Operand) (ho : o.op = .build t #[(0, x), (1, y)])
    (v1 v2 : Value) (hx : a.eval x = v1) (hy : a.eval y = v2) (cells : Array Value) (hc : P.built t [(0, v1), (1, v2)] = some cells) (h : wpStill P ops w Q rest (a.put o.dst (.agg cells))) : wpStill P ops w Q (o :: rest) a := by
  have hw : Region.wanted o (yielded ops a.tmps) = true := by simp [Region.wanted, hgd]
  have := run_build w t #[(0, v1), (1, v2)] cells hc
  refine wpStill_step fun K hK => ?_
  rw [if_pos hw]
  unfold Oper.still execOp
  simp only [ho, List.map_toArray, List.map_cons, List.map_nil, hx, hy, Sem.run_bind, this, Result.andThen_ok, Sem.run_pure]
  exact ⟨rfl, hK _ h⟩
theorem setRow_alloc2 (w : World) (t : TypeId) (cs ds : Array Value) (o : Obj) : ((w.alloc (.cells cs t)).alloc o).setRow w.heap.size ds = (w.alloc (.cells ds t)).alloc o := by
  have h1 := setRow_alloc w t cs ds
  unfold World.setRow at h1 ⊢
  have h2 := congrArg World.heap h1
  simp only [World.alloc] at h2 ⊢
  congr 1
  have e : ∀ (a : Array Obj) (i : Nat) (hi : i < a.size) (x : Obj) (f : Obj → Obj), (a.push x).modify i f = (a.modify i f).push x := fun a i hi x f => by
    apply Array.ext
    · simp
    · intro j h1 h2
      simp only [Array.size_modify, Array.size_push] at h1
      rw [Array.getElem_modify, Array.getElem_push, Array.getElem_push]
      by_cases hj : j < a.size
      · simp only [hj, Array.size_modify, dite_true, Array.getElem_modify]
      · have : i ≠ j := by omega
        simp [hj, this]
  rw [e _ _ (by simp), h2]
theorem all_eq {L l : List RowT} (h : RowsOk L) (hp : l.Perm L) (hs : l.Pairwise (fun a b => ¬ ordK b.1 < ordK a.1)) : l = L := by
  refine sorted_unique (lt := fun a b : RowT => ordK a.1 < ordK b.1) (fun a ha b hb h1 h2 => ?_) hp hs (h.rise.imp fun h => by omega)
  have ma := hp.mem_iff.1 ha
  have mb := hp.mem_iff.1 hb
  have e := ordK_inj (h.key _ ma) (h.key _ mb) (by omega)
  obtain ⟨a1, a2⟩ := a
  obtain ⟨b1, b2⟩ := b
  have e : a1 = b1 := e
  subst e
  rw [once_eq (rise_once h.rise) ma mb]
theorem rows_ok {L : List RowT} (h : RowsOk L) {r : RowT} (hr : r ∈ L) : RowT.Ok r := ⟨h.key r hr, (h.place r hr).1, (h.place r hr).2⟩
set_option maxRecDepth 100000 in
set_option maxHeartbeats 8000000 in
theorem all_any (w : World) (s : Addr) (F : Nat → Prop) (L : List RowT) (h : Ist w s F L) (hl : L.length ≤ 10000) :
    Calls Tryz.prog 52 #[.pointer (some s)] w fun e w' => ∃ A c, e = .returned (.slice A L.length c) ∧ RdRw w' w'.heap.size A L ∧ L.length ≤ c ∧ c ≤ maxLen ∧ (∀ ad, A = some ad → w.heap.size ≤ ad.block) ∧ Below w.heap.size w w' := by
  have hLok := h.ok
  obtain ⟨g, bp, bt, bs, FT, FH, rfl, hF, hi⟩ := h
  obtain ⟨fk, hfk⟩ := key_desc'
  obtain ⟨fp, hfp⟩ := place_desc
  have c0 : w.cell? ⟨g, 0, none⟩ = some (.map (some bp)) := hi.blk.cell 0
  have HPL := Lib.hid hi.places
  have HBP := Lib.hid (show bp < w.heap.size from hi.places.lt)
  have HF := Lib.hid (And.intro hfk hfp)
  have HLO := Lib.hid hLok
  have HL := Lib.hid hl
  obtain ⟨rb, hrb⟩ : ∃ rb, w.heap.size = rb := ⟨_, rfl⟩
  have HRB := Lib.hid hrb
  clear hi hfk hfp hLok hF hl hrb
  go_enter Tryz.func52, Tryz.ntmps52
  go_wp2_with (refine wpList_range_g w rfl (.tmp 11) rfl okP (some bp) rfl HPL.out ?_; intro w2 r1 r2 r3; rw [HRB.out] at r1 r3 ⊢; have HR1 := Lib.hid r1; have HB2 := Lib.hid (show Below rb w w2 from ⟨r2.os, r2.tape, r2.output, r2.size, fun i hi => r2.block i (by rw [HRB.out]; exact hi) (by simp)⟩); have HR3 := Lib.hid r3; clear r1 r2 r3 c0; go_frame)
  go_loopw [3] (fun v wr => ∃ (acc : List RowT) (rest : List RowT) (A : Option Addr) (c : Nat), v = .slice A acc.length c ∧ Hid (MapR mkP wr (some bp) rb L rest ∧ OwnG 42 35 rcs wr (rb + 1) A c acc ∧ (acc ++ rest).Perm L ∧ Below rb w wr)) (fun _ wr => leftO wr (some bp) rb)
  case atStart => exact ⟨[], L, none, 0, rfl, Lib.hid ⟨HR1.out, OwnG.nil _ _, List.Perm.refl _, HB2.out⟩⟩
  case round =>
    obtain ⟨acc, rest, A, c, rfl, hrel⟩ := hrel
    obtain ⟨hm, ho, hp, hb⟩ := hrel.out
    obtain ⟨n, hn⟩ : ∃ n, acc.length = n := ⟨_, rfl⟩
    rw [hn]
    have HN := Lib.hid hn
    have HM := Lib.hid hm
    have HOW := Lib.hid ho
    have HPM := Lib.hid hp
    have HBW := Lib.hid hb
    have hplen := hp.length_eq
    rw [List.length_append, hn] at hplen
    have HPN := Lib.hid hplen
    have hacc : ∀ x ∈ acc ++ rest, RowT.Ok x := fun x hx => rows_ok HLO.out (hp.mem_iff.1 hx)
    have HAC := Lib.hid hacc
    by_cases hne : rest = []
    · subst hne
      have HPA := Lib.hid (show acc.Perm L from by rwa [List.append_nil] at hp)
      have CS := Lib.hid (sort_rows acc (fun x hx => hacc x (by simpa using hx)) ho (by have := HL.out; rw [List.length_nil] at hplen; omega))
      rw [hn] at CS
      clear hm ho hp hb hn hplen hrel hacc
      go_wp2_with (first
        | (refine wpList_next_g _ rfl (.tmp 12) rfl okP (some bp) rb [] rfl HM.out (fun _ => ?_) (fun x c l' w' _ hpp => absurd hpp.length_eq (by simp)))
        | (go_at_call 70; (with_reducible refine CS.out.mono ?_); rintro e wq ⟨rfl, hq⟩; have HQ := Lib.hid hq; clear hq))
      go_ret
      obtain ⟨l', p1, p2, p3, p4⟩ := HQ.out
      have e1 := all_eq HLO.out (p1.trans HPA.out) p2
      subst e1
      have hln : l'.length = n := by rw [p1.length_eq, HN.out]
      have hok2 : ∀ x ∈ l', RowT.Ok x := fun x hx => rows_ok HLO.out hx
      have hrb := HRB.out
      have hbz : rb ≤ wr.heap.size := by have := HBW.out.size; omega
      have hbq : Below rb wr wq := grown_of_own p4 (fun k hk => by
        have hk2 : (Value.slice A acc.length c).ownBlock = some k := by rw [HN.out]; exact hk
        have := (HOW.out.lt hk2).1
        omega) hbz
      refine ⟨A, c, by rw [hln]; rfl, ⟨p3.rd rowE hok2, hok2⟩, p3.cap.1, p3.cap.2, fun ad hA => ?_, ?_⟩
      · have := (p3.adr ad hA).1
        omega
      · rw [hrb]
        exact HBW.out.trans hbq
    · clear hm ho hp hb hn hplen hrel hacc
      go_upto_region 6 with (refine wpList_next_g _ rfl (.tmp 12) rfl okP (some bp) rb rest rfl HM.out (fun h => absurd h hne) ?_; intro y u rest' wn hyok hperm hmn hlt hgn hszn hen)
      have hyok : KeyT.Ok y := hyok
      obtain ⟨p1, p2⟩ := u
      obtain ⟨Y, hY⟩ : ∃ Y, kcs y = Y := ⟨_, rfl⟩
      have hYl : Y.length = 33 := by rw [← hY]; exact kcs_length hyok
      have hrok : RowT.Ok (y, ((p1, p2) : Int × Int)) := HAC.out _ (List.mem_append.2 (.inr (hperm.mem_iff.2 List.mem_cons_self)))
      have hen2 : (Instr.entry (.pointer (some ⟨rb, 0, none⟩))).run Tryz.prog wn = .ok (.tuple #[.agg Y.toArray, .agg #[.int .i64 p1, .int .i64 p2]]) wn := by rw [hen, ← hY]; rfl
      clear hen
      obtain ⟨wa, hwa⟩ : ∃ wa, (wn.alloc (.cells Y.toArray 29)).alloc (.cells #[.int .i64 p1, .int .i64 p2] 40) = wa := ⟨_, rfl⟩
      obtain ⟨wb, hwb⟩ : ∃ wb, wa.alloc (.cells (rcs (y, ((p1, p2) : Int × Int))).toArray 42) = wb := ⟨_, rfl⟩
      have hz1 : (wn.alloc (.cells Y.toArray 29)).heap.size = wn.heap.size + 1 := by simp
      have hrb := HRB.out
      have hbz : rb < wr.heap.size := HM.out.lt
      have hbn : Below rb wr wn := below_of_grown hgn (Nat.le_refl _) (by omega)
      have hba1 : Below wn.heap.size wn (wn.alloc (.cells Y.toArray 29)) := (Below.refl _ _).alloc (Nat.le_refl _) _
      have hba : Below wn.heap.size wn wa := hwa ▸ hba1.alloc hba1.size _
      have hbb : Below wa.heap.size wa wb := hwb ▸ (Below.refl _ _).alloc (Nat.le_refl _) _
      have hbab : Below wn.heap.size wn wb := hba.trans (hbb.mono hba.size)
      have hon : OwnG 42 35 rcs wn (rb + 1) A c acc := HOW.out.grown hgn fun k hk e => by
        have := (HOW.out.lt e).1
        injection hk with hk
        omega
      have hob : OwnG 42 35 rcs wb (rb + 1) A c acc := hon.on hbab
      have hky : Blk wa wn.heap.size 29 Y.toArray := by
        have h1 : Blk (wn.alloc (.cells Y.toArray 29)) wn.heap.size 29 Y.toArray := Blk.new wn _ _
        have h2 : Below (wn.alloc (.cells Y.toArray 29)).heap.size (wn.alloc (.cells Y.toArray 29)) wa := hwa ▸ (Below.refl _ _).alloc (Nat.le_refl _) _
        exact h1.below h2 (by omega)
      have hpl : Blk wa (wn.heap.size + 1) 40 #[.int .i64 p1, .int .i64 p2] := by rw [← hwa, ← hz1]; exact Blk.new _ _ _
      have HBZ := Lib.hid (show Blk ((wn.alloc (.cells (kz 0) 29)).alloc (.cells #[.int .i64 0, .int .i64 0] 40)) wn.heap.size 29 (kz 0) from by
        have h1 : Blk (wn.alloc (.cells (kz 0) 29)) wn.heap.size 29 (kz 0) := Blk.new wn _ _
        exact h1.below ((Below.refl _ _).alloc (Nat.le_refl _) _) h1.lt)
      have HKS2 := Lib.hid (show (Tryz.prog.info? 29).map (·.size) = some Y.toArray.size from by rw [List.size_toArray, hYl]; exact key_size)
      have HOLD := Lib.hid (show (kz 0).size = Y.toArray.size from kz_size.trans (by rw [List.size_toArray, hYl]))
      have HONE := Lib.hid (show Y.toArray.all (·.oneCell') = true from by rw [← hY]; exact kcs_one)
      have HYS := Lib.hid (show (Tryz.prog.info? 29).map (·.size) = some Y.length from by rw [hYl]; exact key_size)
      have HPS := Lib.hid (show (Tryz.prog.info? 40).map (·.size) = some ([Value.int .i64 p1, Value.int .i64 p2]).length from place_size)
      have HWA := Lib.hid hwa
      have HWB := Lib.hid hwb
      have HBR := Lib.hid (show Tryz.prog.built 42 [(0, .agg Y.toArray), (1, .agg #[.int .i64 p1, .int .i64 p2])] = some (rcs (y, ((p1, p2) : Int × Int))).toArray from by rw [← hY]; exact built_row hyok (p1, p2))
      have HYR := Lib.hid (range_of_blk hky)
      have HPR := Lib.hid (show wa.rangeAt (wn.heap.size + 1) 0 [.int .i64 p1, .int .i64 p2] from range_of_blk hpl)
      have HOB := Lib.hid hob
      have HRD := Lib.hid (show RdS wb wb.heap.size 35 (some ⟨wa.heap.size, 0, none⟩) ([(y, ((p1, p2) : Int × Int))].map rcs) from by rw [← hwb]; exact rds_one wa (y, ((p1, p2) : Int × Int)) _ 35 rcs)
      have HY1 := Lib.hid hrok
      have HPE := Lib.hid hperm
      have HMN := Lib.hid hmn
      have HLT := Lib.hid hlt
      have HBN := Lib.hid (And.intro hbn hbab)
      have HRZ := Lib.hid (show rb + 1 ≤ wb.heap.size from by have := hbn.size; have := hbab.size; omega)
      have HNL := Lib.hid (show n ≤ 10000 by have := HPN.out; have := HL.out; omega)
      clear hyok hY hYl hwa hwb hz1 hbz hbn hba1 hba hbb hbab hon hob hky hpl hrok hperm hmn hlt hgn hszn hrb
      go_upto_region 7 with (refine wpList_store_row rfl 29 (.tmp 4) (.tmp 16) rfl wn.heap.size Y.toArray rfl rfl 29 (kz 0) HBZ.out HKS2.out HOLD.out HONE.out ?_; rw [setRow_alloc2])
      rw [HWA.out]
      go_wp2_with (first
        | (refine wpList_load_mid rfl 29 (.tmp 4) rfl wn.heap.size 0 rfl Y (.struct fk) HYR.out HF.out.1 rfl HYS.out ?_)
        | (refine wpList_load_mid rfl 40 (.tmp 5) rfl (wn.heap.size + 1) 0 rfl [.int .i64 p1, .int .i64 p2] (.struct fp) HPR.out HF.out.2 rfl HPS.out ?_)
        | (refine wpList_built rfl 42 (.tmp 19) (.tmp 20) rfl (.agg Y.toArray) (.agg #[.int .i64 p1, .int .i64 p2]) rfl rfl (rcs (y, ((p1, p2) : Int × Int))).toArray HBR.out ?_)
        | (refine wpList_buildOne rowE rfl (.tmp 21) rfl (y := (y, ((p1, p2) : Int × Int))) HY1.out rfl ?_; rw [HWB.out])
        | (refine wpList_append_g rowE rfl (.tmp 18) (.tmp 22) rfl (rb + 1) A c n acc HN.out rfl HOB.out wb.heap.size (some ⟨wa.heap.size, 0, none⟩) 1 1 [(y, ((p1, p2) : Int × Int))] rfl rfl HRD.out (fun x hx => by rw [List.mem_singleton.1 hx]; exact HY1.out) (by have := HNL.out; omega) HRZ.out ?_; intro A' c' wc hoc hgc; have HOC := Lib.hid hoc; have HGC := Lib.hid hgc; clear hoc hgc))
      have hlow : ∀ k, (Value.slice A n c).ownBlock = some k → rb + 1 ≤ k := fun k hk => (HOW.out.lt (by rw [HN.out]; exact hk)).1
      have hbc := grown_of_own HGC.out hlow HRZ.out
      have hzn : rb + 1 ≤ wn.heap.size := HMN.out.lt
      have hbk : ∀ j, j < rb + 1 → wc.heap[j]? = wn.heap[j]? := fun j hj => (hbc.block j hj).trans (HBN.out.2.block j (by omega))
      have hobk : ∀ x, some bp = some x → wc.heap[x]? = wn.heap[x]? := fun x hx => hbk x (by injection hx with hx; have := HBP.out; have := HRB.out; omega)
      refine ⟨⟨acc ++ [(y, (p1, p2))], rest', A', c', by rw [List.length_append, HN.out]; rfl, Lib.hid ⟨HMN.out.kept hobk (hbk rb (by omega)), HOC.out, ?_, ?_⟩⟩, ?_⟩
      · rw [List.append_assoc]
        exact ((HPE.out.symm.append_left acc).trans HPM.out)
      · exact ((HBW.out.trans HBN.out.1).trans (HBN.out.2.mono (by omega))).trans (hbc.mono (by omega))
      · rw [leftO_kept hobk (hbk rb (by omega))]
        exact HLT.out
end Go.Proofs.YtoofhaoaogoomaaGreat
