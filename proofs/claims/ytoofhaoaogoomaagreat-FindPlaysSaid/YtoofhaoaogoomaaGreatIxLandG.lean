/- The landed index: Shelf. No statement of the seat is proved here. -/
import Derived.Test.YtoofhaoaogoomaaGreatIxLandF
import Derived.Deep.RegionHeld
namespace Go.Proofs.YtoofhaoaogoomaaGreat
open Go Go.Maps Go.RowKit
set_option linter.unusedVariables false
set_option linter.unusedSimpArgs false
set_option maxRecDepth 100000

theorem insS_sorted {l : List RowT} {r : RowT} (h : l.Pairwise ltS) (hk : ∀ x ∈ l, ordK x.1 < ordK r.1) : (insS l r).Pairwise ltS := by
  induction l with
  | nil => simp [insS]
  | cons x l ih =>
    obtain ⟨h1, h2⟩ := List.pairwise_cons.1 h
    unfold insS
    by_cases hx : x.2.2 ≤ r.2.2
    · rw [List.takeWhile_cons, if_pos (by simpa using hx), List.dropWhile_cons, if_pos (by simpa using hx), List.cons_append]
      refine List.pairwise_cons.2 ⟨fun y hy => ?_, ih h2 fun y hy => hk y (by simp [hy])⟩
      have hy2 : y ∈ insS l r := hy
      rcases mem_insS.1 hy2 with rfl | hy2
      · have hkx := hk x (by simp)
        unfold ltS
        omega
      · exact h1 y hy2
    · rw [List.takeWhile_cons, if_neg (by simpa using hx), List.dropWhile_cons, if_neg (by simpa using hx), List.nil_append]
      refine List.pairwise_cons.2 ⟨fun y hy => ?_, h⟩
      rcases List.mem_cons.1 hy with rfl | hy
      · unfold ltS; omega
      · have := h1 y hy
        unfold ltS at this ⊢
        omega
theorem fold_sorted : ∀ (M l : List RowT), Rise M → l.Pairwise ltS → (∀ x ∈ l, ∀ y ∈ M, ordK x.1 < ordK y.1) → (M.foldl insS l).Pairwise ltS
  | [], l, _, h, _ => h
  | r :: M, l, hM, h, hk => by
    obtain ⟨m1, m2⟩ := List.pairwise_cons.1 hM
    refine fold_sorted M (insS l r) m2 (insS_sorted h fun x hx => hk x hx r (by simp)) fun x hx y hy => ?_
    rcases mem_insS.1 hx with rfl | hx
    · exact m1 y hy
    · exact hk x hx y (by simp [hy])
theorem shelf_sorted {L : List RowT} (h : RowsOk L) (at_ : Int) : (shelfX L at_).Pairwise ltS := fold_sorted _ _ (List.Pairwise.filter _ h.rise) List.Pairwise.nil (by simp)
theorem shelf_eq {L l : List RowT} (h : RowsOk L) {at_ : Int} (hn : l.Nodup) (hm : ∀ r, r ∈ l ↔ r ∈ L ∧ r.2.1 = at_) {l' : List RowT} (hp : l'.Perm l) (hs : l'.Pairwise (fun a b => ¬ ltS b a)) : l' = shelfX L at_ := by
  have hr := shelf_sorted h at_
  have hnd : (shelfX L at_).Nodup := List.Pairwise.imp (fun hab e => by rw [e] at hab; unfold ltS at hab; omega) hr
  have hmm : ∀ r, r ∈ l' ↔ r ∈ shelfX L at_ := fun r => by rw [hp.mem_iff, hm r, mem_shelfX]
  refine sorted_unique (lt := ltS) (fun a ha b hb h1 h2 => ?_) ((List.perm_ext_iff_of_nodup (hp.nodup_iff.2 hn) hnd).2 hmm) hs (hr.imp fun h => by unfold ltS at h ⊢; omega)
  have ma := (mem_shelfX.1 ((hmm a).1 ha)).1
  have mb := (mem_shelfX.1 ((hmm b).1 hb)).1
  have e := ordK_inj (h.key _ ma) (h.key _ mb) (by unfold ltS at h1 h2; omega)
  obtain ⟨a1, a2⟩ := a
  obtain ⟨b1, b2⟩ := b
  have e : a1 = b1 := e
  subst e
  rw [once_eq (rise_once h.rise) ma mb]
/-- The rows of a list of keys. -/
def rowsOf (L : List RowT) (K : List KeyT) : List RowT := K.map fun k => (k, getX L k)
theorem rowsOf_mem {L : List RowT} (h : RowsOk L) {at_ : Int} {K l : List KeyT} (hn : K.Nodup) (hK : ∀ k, k ∈ K ↔ RH L at_ k) (hp : l.Perm K) : (rowsOf L l).Nodup ∧ ∀ r, r ∈ rowsOf L l ↔ r ∈ L ∧ r.2.1 = at_ := by
  have hin : ∀ k, k ∈ l → ∃ p : Int × Int, p.1 = at_ ∧ (k, p) ∈ L ∧ getX L k = p := fun k hk => by
    obtain ⟨p, h1, h2⟩ := (hK k).1 (hp.mem_iff.1 hk)
    have hh := has_get h (hasX_iff.2 ⟨p, h2⟩)
    exact ⟨p, h1, h2, once_eq (rise_once h.rise) hh h2⟩
  refine ⟨?_, fun r => ?_⟩
  · unfold rowsOf
    refine List.pairwise_map.2 (List.Pairwise.imp ?_ (hp.nodup_iff.2 hn))
    intro a b hab e
    exact hab (Prod.mk.inj e).1
  · unfold rowsOf
    rw [List.mem_map]
    constructor
    · rintro ⟨k, hk, rfl⟩
      obtain ⟨p, h1, h2, h3⟩ := hin k hk
      rw [h3]
      exact ⟨h2, h1⟩
    · rintro ⟨h1, h2⟩
      obtain ⟨k, p⟩ := r
      have hk : k ∈ l := hp.mem_iff.2 ((hK k).2 ⟨p, h2, h1⟩)
      obtain ⟨q, _, h3, h4⟩ := hin k hk
      exact ⟨k, hk, by rw [h4, once_eq (rise_once h.rise) h3 h1]⟩
set_option maxRecDepth 100000 in
set_option maxHeartbeats 8000000 in
theorem shelf_any (w : World) (s : Addr) (F : Nat → Prop) (L : List RowT) (h : Ist w s F L) (hl : L.length ≤ 10000) (at_ : Int) (hat : In64 at_) :
    Calls Tryz.prog 55 #[.pointer (some s), .int .i64 at_] w fun e w' => ∃ A c, e = .returned (.slice A (shelfX L at_).length c) ∧ RdRw w' w'.heap.size A (shelfX L at_) ∧ (shelfX L at_).length ≤ c ∧ c ≤ maxLen ∧ (∀ ad, A = some ad → w.heap.size ≤ ad.block) ∧ Below w.heap.size w w' := by
  have hLok := h.ok
  obtain ⟨g, bp, bt, bs, FT, FH, rfl, hF, hi⟩ := h
  obtain ⟨T, hT⟩ := hi.sh
  obtain ⟨ob, K, hob, hO, hKn, hK, hobF⟩ := hT.grab rfl at_
  have hKl : K.length ≤ 10000 := roomK (room_rh hl) hKn hK
  have hobl : ∀ x, ob = some x → x < w.heap.size := fun x hx => hi.sh.lt x (hobF x hx)
  have hrow : ∀ k ∈ K, RowT.Ok (k, getX L k) := fun k hk => by
    obtain ⟨p, h1, h2⟩ := (hK k).1 hk
    exact rows_ok hLok (has_get hLok (hasX_iff.2 ⟨p, h2⟩))
  obtain ⟨fk, hfk⟩ := key_desc'
  obtain ⟨fp, hfp⟩ := place_desc
  have c2 : w.cell? ⟨g, 2, none⟩ = some (.map (some bs)) := hi.blk.cell 2
  have HBL := Lib.hid hi.blk
  have HPL := Lib.hid hi.places
  have HMT := Lib.hid hT.map
  have HGM := Lib.hid (show mkH.encV (getM mkH (tm T) at_) = .map ob by rw [hob]; rfl)
  have HO := Lib.hid hO
  have HK := Lib.hid (And.intro hKn (And.intro hK (And.intro hKl hrow)))
  have HF := Lib.hid (And.intro hfk hfp)
  have HLO := Lib.hid hLok
  obtain ⟨rb, hrb⟩ : ∃ rb, w.heap.size = rb := ⟨_, rfl⟩
  have HRB := Lib.hid hrb
  have HOL := Lib.hid (show ∀ x, ob = some x → x < rb by rw [← hrb]; exact hobl)
  have HLT := Lib.hid (show bp < rb ∧ g < rb by rw [← hrb]; exact ⟨hi.places.lt, hi.blk.lt⟩)
  clear hi hT hob hO hKn hK hobF hKl hobl hrow hfk hfp hLok hF hl hrb
  go_enter Tryz.func55, Tryz.ntmps55
  go_wp2_with (first
    | (refine wpList_look_g w rfl (.tmp 12) (.tmp 13) rfl okH rfl HMT.out at_ hat rfl (.map ob) HGM.out ?_)
    | (refine wpList_range_g w rfl (.tmp 14) rfl okS ob rfl HO.out ?_; intro w2 r1 r2 r3; rw [HRB.out] at r1 r3 ⊢; have HR1 := Lib.hid r1; have HB2 := Lib.hid (show Below rb w w2 from ⟨r2.os, r2.tape, r2.output, r2.size, fun i hi => r2.block i (by rw [HRB.out]; exact hi) (by simp)⟩); have HR3 := Lib.hid r3; clear r1 r2 r3 c2; go_frame))
  go_loopw [5] (fun v wr => ∃ (acc : List KeyT) (rest : List (KeyT × Unit)) (A : Option Addr) (c : Nat), v = .slice A acc.length c ∧ Hid (MapR mkS wr ob rb (us K) rest ∧ OwnG 42 35 rcs wr (rb + 1) A c (rowsOf L acc) ∧ (us acc ++ rest).Perm (us K) ∧ Below rb w wr)) (fun _ wr => leftO wr ob rb)
  case atStart => exact ⟨[], us K, none, 0, rfl, Lib.hid ⟨HR1.out, OwnG.nil _ _, List.Perm.refl _, HB2.out⟩⟩
  case round =>
    obtain ⟨acc, rest, A, c, rfl, hrel⟩ := hrel
    obtain ⟨hm, ho, hp, hb⟩ := hrel.out
    obtain ⟨n, hn⟩ : ∃ n, acc.length = n := ⟨_, rfl⟩
    rw [hn]
    have hnr : (rowsOf L acc).length = n := by unfold rowsOf; rw [List.length_map]; exact hn
    have HN := Lib.hid hnr
    have HM := Lib.hid hm
    have HOW := Lib.hid ho
    have HPM := Lib.hid hp
    have HBW := Lib.hid hb
    have hplen := hp.length_eq
    rw [List.length_append, us_length, us_length, hn] at hplen
    have HPN := Lib.hid hplen
    by_cases hne : rest = []
    · subst hne
      have hpa : acc.Perm K := by
        have := hp.map (·.1)
        rwa [List.append_nil, us_fst, us_fst] at this
      have HPA := Lib.hid hpa
      have CS := Lib.hid (sort_slots (rowsOf L acc) (fun x hx => by
        unfold rowsOf at hx
        obtain ⟨k, hk, rfl⟩ := List.mem_map.1 hx
        exact HK.out.2.2.2 k (hpa.mem_iff.1 hk)) ho (by have := HK.out.2.2.1; rw [List.length_nil] at hplen; omega))
      rw [hnr] at CS
      clear hm ho hp hb hn hnr hplen hrel hpa
      go_wp2_with (first
        | (refine wpList_next_g _ rfl (.tmp 15) rfl okS ob rb [] rfl HM.out (fun _ => ?_) (fun x c l' w' _ hpp => absurd hpp.length_eq (by simp)))
        | (go_at_call 70; (with_reducible refine CS.out.mono ?_); rintro e wq ⟨rfl, hq⟩; have HQ := Lib.hid hq; clear hq))
      go_ret
      obtain ⟨l', p1, p2, p3, p4⟩ := HQ.out
      obtain ⟨q1, q2⟩ := rowsOf_mem HLO.out HK.out.1 HK.out.2.1 HPA.out
      have e1 := shelf_eq HLO.out q1 q2 p1 p2
      subst e1
      have hln : (shelfX L at_).length = n := by rw [p1.length_eq, HN.out]
      have hok2 : ∀ x ∈ shelfX L at_, RowT.Ok x := fun x hx => rows_ok HLO.out (mem_shelfX.1 hx).1
      have hrb := HRB.out
      have hbz : rb ≤ wr.heap.size := by have := HBW.out.size; omega
      have hbq : Below rb wr wq := grown_of_own p4 (fun k hk => by
        have hk2 : (Value.slice A (rowsOf L acc).length c).ownBlock = some k := by rw [HN.out]; exact hk
        have := (HOW.out.lt hk2).1
        omega) hbz
      refine ⟨A, c, by rw [hln]; rfl, ⟨p3.rd rowE hok2, hok2⟩, p3.cap.1, p3.cap.2, fun ad hA => ?_, ?_⟩
      · have := (p3.adr ad hA).1
        omega
      · rw [hrb]
        exact HBW.out.trans hbq
    · clear hm ho hp hb hn hnr hplen hrel
      go_upto_region 6 with (refine wpList_next_g _ rfl (.tmp 15) rfl okS ob rb rest rfl HM.out (fun h => absurd h hne) ?_; intro y u rest' wn hyok hperm hmn hlt hgn hszn hen)
      have hyok : KeyT.Ok y := hyok
      have hyK : y ∈ K := by
        have h1 : (y, u) ∈ us acc ++ rest := List.mem_append.2 (.inr (hperm.mem_iff.2 List.mem_cons_self))
        exact mem_us.1 (HPM.out.mem_iff.1 h1)
      have hrok := HK.out.2.2.2 y hyK
      obtain ⟨⟨p1, p2⟩, hgp⟩ : ∃ p, getX L y = p := ⟨_, rfl⟩
      rw [hgp] at hrok
      obtain ⟨Y, hY⟩ : ∃ Y, kcs y = Y := ⟨_, rfl⟩
      have hYl : Y.length = 33 := by rw [← hY]; exact kcs_length hyok
      have hen2 : (Instr.entry (.pointer (some ⟨rb, 0, none⟩))).run Tryz.prog wn = .ok (.tuple #[.agg Y.toArray, .agg #[]]) wn := by rw [hen, ← hY]; rfl
      clear hen
      obtain ⟨wa, hwa⟩ : ∃ wa, wn.alloc (.cells Y.toArray 29) = wa := ⟨_, rfl⟩
      obtain ⟨wb, hwb⟩ : ∃ wb, wa.drew.alloc (.cells (rcs (y, ((p1, p2) : Int × Int))).toArray 42) = wb := ⟨_, rfl⟩
      have hrb := HRB.out
      have hbz : rb < wr.heap.size := HM.out.lt
      have hbn : Below rb wr wn := below_of_grown hgn (Nat.le_refl _) (by omega)
      have hba : Below wn.heap.size wn wa := hwa ▸ (Below.refl _ _).alloc (Nat.le_refl _) _
      have hbb : Below wa.heap.size wa wb := by
        have h1 : Below wa.heap.size wa wa.drew := ⟨rfl, rfl, rfl, Nat.le_refl _, fun _ _ => rfl⟩
        rw [← hwb]
        exact h1.alloc h1.size _
      have hbab : Below wn.heap.size wn wb := hba.trans (hbb.mono hba.size)
      have hon : OwnG 42 35 rcs wn (rb + 1) A c (rowsOf L acc) := HOW.out.grown hgn fun k hk e => by
        have := (HOW.out.lt e).1
        injection hk with hk
        omega
      have hob : OwnG 42 35 rcs wb (rb + 1) A c (rowsOf L acc) := hon.on hbab
      have hky : Blk wa wn.heap.size 29 Y.toArray := hwa ▸ Blk.new wn _ _
      have hba2 : Below rb w wa := ((HBW.out.trans hbn).trans (hba.mono (by have := hbn.size; omega)))
      have hw0 : rb ≤ w.heap.size := by omega
      have hrba : rb ≤ wa.heap.size := by have := hbn.size; have := hba.size; omega
      have HGB := Lib.hid (show ∀ W, Below (rb + 1) wa W ∧ W.heap[wn.heap.size]? = wa.heap[wn.heap.size]? → W.cell? ⟨g, 0, none⟩ = some (.map (some bp)) from fun W hW => ((HBL.out.below (hba2.trans (hW.1.mono (Nat.le_succ _))) HLT.out.2).cell 0))
      have HLK := Lib.hid (show ∀ W, Below (rb + 1) wa W ∧ W.heap[wn.heap.size]? = wa.heap[wn.heap.size]? → (Instr.lookup 101 (.map (some bp)) (.agg Y.toArray) false).run Tryz.prog W = .ok (.agg #[.int .i64 p1, .int .i64 p2]) W from fun W hW => by
        have := (HPL.out.blk ((hba2.trans (hW.1.mono (Nat.le_succ _))).block bp HLT.out.1)).look okP (q := y) hyok
        rw [getX_getM, hgp] at this
        rw [← hY]; exact this)
      have HBB := Lib.hid (show Below (rb + 1) wa wb ∧ wb.heap[wn.heap.size]? = wa.heap[wn.heap.size]? from ⟨hbb.mono (by have := hba.size; have := hbn.size; have := hky.lt; omega), hbb.block _ hky.lt⟩)
      have HLO2 := Lib.hid (show ∀ k, (Value.slice A n c).ownBlock = some k → rb + 1 ≤ k from fun k hk => (HOW.out.lt (by rw [HN.out]; exact hk)).1)
      have HS2 := Lib.hid (show ∀ wc : World, wb.grownBy wc (Value.slice A n c).ownBlock → Below (rb + 1) wa wc ∧ wc.heap[wn.heap.size]? = wa.heap[wn.heap.size]? from fun wc hg => ⟨HBB.out.1.trans (grown_of_own hg HLO2.out (by have := hbn.size; have := hbab.size; omega)), (hg.block _ (by have := hky.lt; have := hbb.size; omega) fun e => by
        have h1 := (hon.lt (by rw [HN.out]; exact e.symm)).2
        exact absurd h1 (Nat.lt_irrefl _)).trans HBB.out.2⟩)
      have HBZ := Lib.hid (Blk.new wn 29 (kz 0))
      have HKS2 := Lib.hid (show (Tryz.prog.info? 29).map (·.size) = some Y.toArray.size from by rw [List.size_toArray, hYl]; exact key_size)
      have HOLD := Lib.hid (show (kz 0).size = Y.toArray.size from kz_size.trans (by rw [List.size_toArray, hYl]))
      have HONE := Lib.hid (show Y.toArray.all (·.oneCell') = true from by rw [← hY]; exact kcs_one)
      have HYS := Lib.hid (show (Tryz.prog.info? 29).map (·.size) = some Y.length from by rw [hYl]; exact key_size)
      have HWA := Lib.hid hwa
      have HWB := Lib.hid hwb
      have HBR := Lib.hid (show Tryz.prog.built 42 [(0, .agg Y.toArray), (1, .agg #[.int .i64 p1, .int .i64 p2])] = some (rcs (y, ((p1, p2) : Int × Int))).toArray from by rw [← hY]; exact built_row hyok (p1, p2))
      have HYR := Lib.hid (show ∀ W, Below (rb + 1) wa W ∧ W.heap[wn.heap.size]? = wa.heap[wn.heap.size]? → W.rangeAt wn.heap.size 0 Y from fun W hW => range_of_blk (hky.same hW.2))
      have HOB := Lib.hid hob
      have HRD := Lib.hid (show RdS wb wb.heap.size 35 (some ⟨wa.heap.size, 0, none⟩) ([(y, ((p1, p2) : Int × Int))].map rcs) from by rw [← hwb]; exact rds_one wa.drew (y, ((p1, p2) : Int × Int)) _ 35 rcs)
      have HY1 := Lib.hid hrok
      have HGP := Lib.hid hgp
      have HPE := Lib.hid hperm
      have HMN := Lib.hid hmn
      have HLTT := Lib.hid hlt
      have HBN := Lib.hid (And.intro hbn hbab)
      have HRZ := Lib.hid (show rb + 1 ≤ wb.heap.size from by have := hbn.size; have := hbab.size; omega)
      have HNL := Lib.hid (show n ≤ 10000 by have := HPN.out; have := HK.out.2.2.1; omega)
      clear hyok hyK hY hYl hwa hwb hbz hbn hba hbb hbab hon hob hky hba2 hw0 hrba hrok hperm hmn hlt hgn hszn hrb hgp
      go_upto_region 7 with (refine wpList_store_row rfl 29 (.tmp 6) (.tmp 19) rfl wn.heap.size Y.toArray rfl rfl 29 (kz 0) HBZ.out HKS2.out HOLD.out HONE.out ?_; rw [setRow_alloc, HWA.out])
      have b0 : Below (rb + 1) wa wa.drew ∧ wa.drew.heap[wn.heap.size]? = wa.heap[wn.heap.size]? := ⟨⟨rfl, rfl, rfl, Nat.le_refl _, fun _ _ => rfl⟩, rfl⟩
      refine wp_region_held_drew (S := fun W => Below (rb + 1) wa W ∧ W.heap[wn.heap.size]? = wa.heap[wn.heap.size]?) (by kernel_rfl) b0 (fun hHeld => ?_)
      refine wpAnyH_take (i := 0) (oi := _) (v := .slice A n c) rfl (by kernel_rfl) (by kernel_rfl) (by kernel_rfl) (fun _ _ _ h => h) (Or.inl ⟨by rfl, by intro w hSw; go_simp⟩) b0 ?_
      simp only [List.getElem_toArray, List.getElem_cons_zero, List.getElem_cons_succ, Act.put, List.setIfInBounds_toArray, List.set_cons_zero, List.set_cons_succ]
      refine wpAnyH_take (i := 1) (oi := _) (v := .agg Y.toArray) rfl (by kernel_rfl) (by kernel_rfl) (by kernel_rfl) (fun _ _ _ h => h) (yields_mid (by rfl) 29 (.tmp 6) rfl wn.heap.size 0 rfl Y (.struct fk) (fun W hW => HYR.out W hW) HF.out.1 rfl HYS.out) b0 ?_
      simp only [List.getElem_toArray, List.getElem_cons_zero, List.getElem_cons_succ, Act.put, List.setIfInBounds_toArray, List.set_cons_zero, List.set_cons_succ]
      refine wpAnyH_take (i := 2) (oi := _) (v := .pointer (some ⟨g, 0, none⟩)) rfl (by kernel_rfl) (by kernel_rfl) (by kernel_rfl) (fun _ _ _ h => h) (Or.inl ⟨by rfl, by intro w hSw; go_simp⟩) b0 ?_
      simp only [List.getElem_toArray, List.getElem_cons_zero, List.getElem_cons_succ, Act.put, List.setIfInBounds_toArray, List.set_cons_zero, List.set_cons_succ]
      refine wpAnyH_take (i := 3) (oi := _) (v := .pointer (some ⟨g, 0, none⟩)) rfl (by kernel_rfl) (by kernel_rfl) (by kernel_rfl) (fun _ _ _ h => h) (Or.inl ⟨by rfl, by intro w hSw; go_simp⟩) b0 ?_
      simp only [List.getElem_toArray, List.getElem_cons_zero, List.getElem_cons_succ, Act.put, List.setIfInBounds_toArray, List.set_cons_zero, List.set_cons_succ]
      refine wpAnyH_take (i := 4) (oi := _) (v := .pointer (some ⟨g, 0, none⟩)) rfl (by kernel_rfl) (by kernel_rfl) (by kernel_rfl) (fun _ _ _ h => h) (Or.inl ⟨by rfl, by intro w hSw; go_simp⟩) b0 ?_
      simp only [List.getElem_toArray, List.getElem_cons_zero, List.getElem_cons_succ, Act.put, List.setIfInBounds_toArray, List.set_cons_zero, List.set_cons_succ]
      refine wpAnyH_take (i := 5) (oi := _) (v := .map (some bp)) rfl (by kernel_rfl) (by kernel_rfl) (by kernel_rfl) (fun _ _ _ h => h) (Or.inl ⟨by rfl, by intro w hSw; have hcc := HGB.out w hSw; go_simp⟩) b0 ?_
      simp only [List.getElem_toArray, List.getElem_cons_zero, List.getElem_cons_succ, Act.put, List.setIfInBounds_toArray, List.set_cons_zero, List.set_cons_succ]
      refine wpAnyH_take (i := 6) (oi := _) (v := .agg Y.toArray) rfl (by kernel_rfl) (by kernel_rfl) (by kernel_rfl) (fun _ _ _ h => h) (yields_mid (by rfl) 29 (.tmp 6) rfl wn.heap.size 0 rfl Y (.struct fk) (fun W hW => HYR.out W hW) HF.out.1 rfl HYS.out) b0 ?_
      simp only [List.getElem_toArray, List.getElem_cons_zero, List.getElem_cons_succ, Act.put, List.setIfInBounds_toArray, List.set_cons_zero, List.set_cons_succ]
      refine wpAnyH_take (i := 7) (oi := _) (v := .agg #[.int .i64 p1, .int .i64 p2]) rfl (by kernel_rfl) (by kernel_rfl) (by kernel_rfl) (fun _ _ _ h => h) (Or.inl ⟨by rfl, by intro w hSw; have hcc := HLK.out w hSw; go_simp⟩) b0 ?_
      simp only [List.getElem_toArray, List.getElem_cons_zero, List.getElem_cons_succ, Act.put, List.setIfInBounds_toArray, List.set_cons_zero, List.set_cons_succ]
      refine wpAnyH_take (i := 8) (oi := _) (v := .agg (rcs (y, ((p1, p2) : Int × Int))).toArray) rfl (by kernel_rfl) (by kernel_rfl) (by kernel_rfl) (fun _ _ _ h => h) (yields_build (by rfl) 42 #[(0, Operand.tmp 21), (1, Operand.tmp 27)] rfl _ (by simp only [List.map_toArray, List.map_cons, List.map_nil]; exact HBR.out)) b0 ?_
      simp only [List.getElem_toArray, List.getElem_cons_zero, List.getElem_cons_succ, Act.put, List.setIfInBounds_toArray, List.set_cons_zero, List.set_cons_succ]
      refine wpAnyH_ready (rs := [9]) (by kernel_rfl) (by simp) ?_
      refine AllReadyH.cons rfl (fun K hK => ?_) AllReadyH.nil
      refine wp_buildOne rowE (.tmp 28) rfl (y := (y, ((p1, p2) : Int × Int))) HY1.out rfl ?_
      rw [HWB.out]
      refine hK.out _ _ HBB.out (fun _ => ?_)
      clear hK K
      try simp only [List.getElem_toArray, List.getElem_cons_zero, List.getElem_cons_succ, Act.put, List.setIfInBounds_toArray, List.set_cons_zero, List.set_cons_succ]
      refine wpAnyH_ready (rs := [10]) (by kernel_rfl) (by simp) ?_
      refine AllReadyH.cons rfl (fun K hK => ?_) AllReadyH.nil
      refine wp_append_g rowE (.tmp 20) (.tmp 29) rfl (rb + 1) A c n (rowsOf L acc) HN.out rfl HOB.out wb.heap.size (some ⟨wa.heap.size, 0, none⟩) 1 1 [(y, ((p1, p2) : Int × Int))] rfl rfl HRD.out (fun x hx => by rw [List.mem_singleton.1 hx]; exact HY1.out) ?_ ?_ ?_
      case _ => have := HNL.out; omega
      case _ => exact HRZ.out
      intro A' c' wc hoc hgc
      have HOC := Lib.hid hoc
      have HGC := Lib.hid hgc
      have HSC := Lib.hid (HS2.out wc hgc)
      clear hoc hgc
      refine hK.out _ _ HSC.out (fun _ => ?_)
      clear hK K
      try simp only [List.getElem_toArray, List.getElem_cons_zero, List.getElem_cons_succ, Act.put, List.setIfInBounds_toArray, List.set_cons_zero, List.set_cons_succ]
      refine wpAnyH_take (i := 11) (oi := _) (v := .slice A' (n + 1) c') rfl (by kernel_rfl) (by kernel_rfl) (by kernel_rfl) (fun _ _ _ h => h) (Or.inl ⟨by rfl, by intro w hSw; go_simp⟩) HSC.out ?_
      simp only [List.getElem_toArray, List.getElem_cons_zero, List.getElem_cons_succ, Act.put, List.setIfInBounds_toArray, List.set_cons_zero, List.set_cons_succ]
      refine wpAnyH_done (by kernel_rfl) ?_ _
      go_wp2_with fail
      have hlow : ∀ k, (Value.slice A n c).ownBlock = some k → rb + 1 ≤ k := fun k hk => (HOW.out.lt (by rw [HN.out]; exact hk)).1
      have hbc := grown_of_own HGC.out hlow HRZ.out
      have hzn : rb + 1 ≤ wn.heap.size := HMN.out.lt
      have hbk : ∀ j, j < rb + 1 → wc.heap[j]? = wn.heap[j]? := fun j hj => (hbc.block j hj).trans (HBN.out.2.block j (by omega))
      have hobk : ∀ x, ob = some x → wc.heap[x]? = wn.heap[x]? := fun x hx => hbk x (by have := HOL.out x hx; omega)
      have hna : acc.length = n := by have := HN.out; unfold rowsOf at this; rwa [List.length_map] at this
      refine ⟨⟨acc ++ [y], rest', A', c', by rw [List.length_append, hna]; rfl, Lib.hid ⟨HMN.out.kept hobk (hbk rb (by omega)), ?_, ?_, ?_⟩⟩, ?_⟩
      · have e1 : rowsOf L (acc ++ [y]) = rowsOf L acc ++ [(y, ((p1, p2) : Int × Int))] := by unfold rowsOf; rw [List.map_append, ← HGP.out]; rfl
        rw [e1]
        exact HOC.out
      · have e1 : us (acc ++ [y]) = us acc ++ [(y, ())] := by simp [us]
        rw [e1, List.append_assoc]
        exact ((HPE.out.symm.append_left (us acc)).trans HPM.out)
      · exact ((HBW.out.trans HBN.out.1).trans (HBN.out.2.mono (by omega))).trans (hbc.mono (by omega))
      · rw [leftO_kept hobk (hbk rb (by omega))]
        exact HLTT.out
end Go.Proofs.YtoofhaoaogoomaaGreat
