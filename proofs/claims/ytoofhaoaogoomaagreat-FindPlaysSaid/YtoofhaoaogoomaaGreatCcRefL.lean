/- The reference's cache (cellarageref14): Load (written by gen/gen_ccload.py). No statement of the seat is proved here. -/
import Derived.Test.YtoofhaoaogoomaaGreatZLAM
import Derived.Test.YtoofhaoaogoomaaGreatZLAI
import Derived.Test.YtoofhaoaogoomaaGreatZLAC
import Derived.Deep.RegionHeld
namespace Go.Proofs.YtoofhaoaogoomaaGreat
open Go.RowKit
set_option linter.unusedVariables false
set_option linter.unusedSimpArgs false

theorem tab_places : ∃ fields, Tryz.prog.underlying 124 = some (.struct fields) ∧ fields.toList.mapM (fun f => (Tryz.prog.info? f.type).map fun i => (f.offset, i.size)) = some [(0, 1), (1, 1)] := ⟨_, Tryz.underlying124, by kernel_rfl⟩
theorem info_tab : (Tryz.prog.info? 124).map (fun i => i.zero) = some (some (.agg #[.int .i64 0, .slice none 0 0])) := by kernel_rfl
theorem built_tab (sh : Int) (ls : List RowT) (A : Option Addr) (n c : Nat) (hn : ls.length = n) : Tryz.prog.built 124 [(0, .int .i64 sh), (1, .slice A n c)] = some (tcs ((sh, ls), (A, c))).toArray := by
  subst hn
  obtain ⟨fields, hf, hm⟩ := tab_places
  have hz := info_tab
  cases hi : Tryz.prog.info? 124 with
  | none => rw [hi] at hz; cases hz
  | some it =>
    rw [hi] at hz
    simp only [Option.map_some, Option.some.injEq] at hz
    rw [built_two (v1 := .int .i64 sh) (v2 := .slice A ls.length c) (n1 := 1) (o2 := 1) (n2 := 1) #[.int .i64 sh, .slice none 0 0] hi hf hz hm rfl rfl rfl rfl (by decide) rfl (Nat.le_refl 2)]
    rfl
section
variable {w w9 : World} {d : Nat} {A : Option Addr} {c room : Nat} {ts : List TabT}
/-- One table more. -/
theorem rc_more {F : Nat → Prop} {c9 m : Nat} {A9 : Option Addr} {x : TabT} (hR : RCs w d A c ts room) (hFd : F d) (hFA : ∀ ad, A = some ad → F ad.block) (hFx : ∀ x ∈ ts, ∀ ad, x.2.1 = some ad → F ad.block) (hok : CS.Ok ⟨room, (ts ++ [x]).map (·.1)⟩)
    (ho : OwnG 124 2 tcs w9 0 A9 c9 (ts ++ [x])) (hm : (ts ++ [x]).length = m) (h9 : (Value.slice A9 m c9).ownBlock = (Value.slice A ts.length c).ownBlock ∨ ∃ k, (Value.slice A9 m c9).ownBlock = some k ∧ w.heap.size ≤ k)
    (hx : OwnG 42 35 rcs w9 w.heap.size x.2.1 x.2.2 x.1.2) (hon : Only (fun g => (Value.slice A ts.length c).ownBlock = some g) w w9) : Turned Rc w ⟨d, 0, none⟩ F (w9.setCell ⟨d, 0, none⟩ (.slice A9 m c9)) ⟨room, (ts ++ [x]).map (·.1)⟩ := by
  subst hm
  have hdl := hR.blk.lt
  have hdn : ¬ (Value.slice A ts.length c).ownBlock = some d := fun e => by
    obtain ⟨_, b1⟩ := hR.own.kind e
    exact blk_other b1 hR.blk (by decide) rfl
  have hbk9 : Blk w9 d 84 #[.slice A ts.length c, .int .i64 (room : Nat)] := hR.blk.same (hon.block d hdl hdn)
  have hbk := hbk9.set_ 0 (.slice A9 (ts ++ [x]).length c9)
  have hrow : ∀ y ∈ ts, OwnG 42 35 rcs w9 0 y.2.1 y.2.2 y.1.2 := fun y hy => ownsRow_same (hR.rows y hy) fun k hv hl => hon.block k hl fun e => (hR.rows y hy).apart hR.own (by decide) hv e
  have hne : ∀ {α : Type} {e : TypeId} {sz : Nat} {g : α → List Value} {B cc : Nat} {AA : Option Addr} {l : List α}, OwnG e sz g w9 B AA cc l → e ≠ 84 → OwnG e sz g (w9.setCell ⟨d, 0, none⟩ (.slice A9 (ts ++ [x]).length c9)) B AA cc l := fun h hne => h.grown (setCell_grown (World.grownBy.refl _ _)) fun r e e2 => by
    injection e with e
    subst e
    obtain ⟨_, b1⟩ := h.kind e2
    exact blk_other b1 hbk9 hne rfl
  have ho2 := hne ho (by decide)
  have hx2 := hne hx (by decide)
  have hall : ∀ y ∈ ts ++ [x], OwnG 42 35 rcs (w9.setCell ⟨d, 0, none⟩ (.slice A9 (ts ++ [x]).length c9)) 0 y.2.1 y.2.2 y.1.2 := fun y hy => by
    rcases List.mem_append.1 hy with hy | hy
    · exact hne (hrow y hy) (by decide)
    · rw [List.mem_singleton.1 hy]; exact hx2.base (Nat.zero_le _)
  refine ⟨fun g => g = d ∨ (∃ ad, A9 = some ad ∧ ad.block = g) ∨ ∃ y ∈ ts ++ [x], ∃ ad, y.2.1 = some ad ∧ ad.block = g, ⟨d, A9, c9, ts ++ [x], rfl, ⟨by simpa using hbk, ho2, hall, hok⟩, rfl, .inl rfl, fun ad e => .inr (.inl ⟨ad, e, rfl⟩), fun y hy ad e => .inr (.inr ⟨y, hy, ad, e, rfl⟩), ?_⟩, ?_, ?_⟩
  · rintro g (rfl | ⟨ad, e, rfl⟩ | ⟨y, hy, ad, e, rfl⟩)
    · exact hbk.lt
    · exact (ho2.adr ad e).2
    · exact ((hall y hy).adr ad e).2
  · rintro g (rfl | ⟨ad, e, rfl⟩ | ⟨y, hy, ad, e, rfl⟩)
    · exact .inl hFd
    · subst e
      have e9 : (Value.slice (some ad) (ts ++ [x]).length c9).ownBlock = some ad.block := rfl
      rcases h9 with h | ⟨k, h, hk⟩
      · rw [e9] at h
        obtain ⟨a2, e1, e2⟩ := own_adr _ h.symm
        exact .inl (e2 ▸ hFA a2 e1)
      · rw [e9] at h
        injection h with h
        exact .inr (h ▸ hk)
    · rcases List.mem_append.1 hy with hy | hy
      · exact .inl (hFx y hy ad e)
      · rw [List.mem_singleton.1 hy] at e
        exact .inr (hx.adr ad e).1
  · exact only_trans ⟨hon.os, hon.tape, hon.output, hon.size, fun g hg hn => hon.block g hg fun e => by
      obtain ⟨a2, e1, e2⟩ := own_adr _ e
      exact hn (e2 ▸ hFA a2 e1)⟩ (only_grown (grown_cell w9 d 0 _) hFd)
end
theorem shelves_app (room : Nat) (t : List (Int × List RowT)) (x : Int × List RowT) : (⟨room, t ++ [x]⟩ : CS) = ⟨room, t ++ [x]⟩ := rfl
/-- The last statement of Load: what it leaves. -/
theorem load_cell {wd w8 w9 : World} {d : Nat} {A : Option Addr} {c room m : Nat} {ts : List TabT} {x : TabT} (hR : RCs wd d A c ts room) (hm : ts.length = m) (hb : Below wd.heap.size wd (w8.alloc (.cells (tcs x).toArray 124))) (hg : (w8.alloc (.cells (tcs x).toArray 124)).grownBy w9 (Value.slice A m c).ownBlock) :
    w9.cell? ⟨d, 0, none⟩ = some (.slice A m c) ∧ w9.frozen? ⟨d, 0, none⟩ = false := by
  subst hm
  have hdn : ¬ (Value.slice A ts.length c).ownBlock = some d := fun e => by
    obtain ⟨_, b1⟩ := hR.own.kind e
    exact blk_other b1 hR.blk (by decide) rfl
  have h1 := hR.blk.below hb hR.blk.lt
  have h2 : Blk w9 d 84 #[.slice A ts.length c, .int .i64 (room : Nat)] := h1.same (hg.block d h1.lt fun e => hdn e.symm)
  exact ⟨h2.cell 0, h2.frozen 0⟩
theorem load_fin {wd w8 w9 : World} {d : Nat} {A A8 A9 : Option Addr} {c c8 c9 room m : Nat} {ts : List TabT} {sh : Int} {ls : List RowT} {F : Nat → Prop} (hR : RCs wd d A c ts room ∧ F d ∧ (∀ ad, A = some ad → F ad.block) ∧ (∀ x ∈ ts, ∀ ad, x.2.1 = some ad → F ad.block)) (hm : ts.length = m) (hok : CS.Ok ⟨room, ts.map (·.1) ++ [(sh, ls)]⟩)
    (hb : Below wd.heap.size wd (w8.alloc (.cells (tcs ((sh, ls), (A8, c8))).toArray 124))) (ho8 : OwnG 42 35 rcs (w8.alloc (.cells (tcs ((sh, ls), (A8, c8))).toArray 124)) wd.heap.size A8 c8 ls)
    (ho : OwnG 124 2 tcs w9 0 A9 c9 (ts ++ [((sh, ls), (A8, c8))])) (hg : (w8.alloc (.cells (tcs ((sh, ls), (A8, c8))).toArray 124)).grownBy w9 (Value.slice A m c).ownBlock)
    (h9 : (Value.slice A9 (m + 1) c9).ownBlock = (Value.slice A m c).ownBlock ∨ (Value.slice A9 (m + 1) c9).ownBlock = some (w8.alloc (.cells (tcs ((sh, ls), (A8, c8))).toArray 124)).heap.size) :
    Turned Rc wd ⟨d, 0, none⟩ F (w9.setCell ⟨d, 0, none⟩ (.slice A9 (m + 1) c9)) ⟨room, ts.map (·.1) ++ [(sh, ls)]⟩ := by
  subst hm
  have hown := hR.1.own
  have h8 : OwnG 42 35 rcs w9 wd.heap.size A8 c8 ls := ho8.grown hg fun r e e2 => (ho8.apart (hown.on hb) (by decide) e2) (by rw [e])
  have := rc_more (x := ((sh, ls), (A8, c8))) hR.1 hR.2.1 hR.2.2.1 hR.2.2.2 (by rw [List.map_append]; exact hok) ho (m := ts.length + 1) (by simp) (h9.imp id fun h => ⟨_, h, hb.size⟩) h8
    ⟨hg.os.trans hb.os, hg.tape.trans hb.tape, hg.output.trans hb.output, Nat.le_trans hb.size hg.size, fun k hk hn => (hg.block k (Nat.lt_of_lt_of_le hk hb.size) fun e => hn e.symm).trans (hb.block k hk)⟩
  rw [List.map_append] at this
  exact this
set_option maxRecDepth 100000 in
set_option maxHeartbeats 8000000 in
theorem rcload_any (s : Addr) (F : Nat → Prop) (S : CS) (sh : Int) (Al : Option Addr) (ls : List RowT) (n cl draw : Nat) (w : World) (h : Rc w s F S) (hok : S.Ok) (hs : In64 sh) (hd : draw < 18446744073709551616) (hl : ls.length = n) (hc : n ≤ cl) (hm : cl ≤ maxLen) (hn : n ≤ 1000) (hr : RdRw w w.heap.size Al ls) (ho : ∀ ad, Al = some ad → 0 < n → ¬ F ad.block) :
    Calls Tryz.prog 48 #[.pointer (some s), .int .i64 sh, .slice Al n cl, .int .u64 draw] w fun e w' => e = .returned (.tuple #[]) ∧ Turned Rc w s F w' (loadC S sh ls draw) := by
  have HT := Lib.hid (Turned.refl h)
  have hokl := hok.load hs (ls := ls) ⟨by omega, fun r hr' => ⟨(hr.each r hr').key, (hr.each r hr').shelf, (hr.each r hr').slot⟩⟩ draw
  obtain ⟨d, A, c, ts, rfl, hR, hst, hFd, hFA, hFx, hFl⟩ := id h
  obtain ⟨room, t⟩ := S
  simp only at hst hR
  subst hst
  have hc1 : w.cell? ⟨d, 1, none⟩ = some (.int .i64 (room : Nat)) := hR.blk.cell 1
  by_cases h0 : room = 0
  · have he : loadC ⟨room, ts.map (·.1)⟩ sh ls draw = ⟨room, ts.map (·.1)⟩ := by unfold loadC; rw [if_pos (.inl h0)]
    rw [he]
    subst h0
    clear h hR hFd hFA hFx hFl hokl hok hr ho he
    go_enter Tryz.func48, Tryz.ntmps48
    go_wp2_with fail
    refine bodyPost_ret (results_none rfl _ _ _) rfl ?_
    exact ⟨rfl, HT.out⟩
  · have KA := Lib.hid (rcat_st h sh)
    have h0i : ¬ (room : Int) = 0 := by omega
    obtain ⟨hl1, hl2, hl3⟩ := hR.len
    have hr4 : room ≤ 4096 := hok.room
    have HOK := Lib.hid (And.intro hok (And.intro hokl hs))
    have HRD := Lib.hid (And.intro hr ho)
    have HL := Lib.hid (And.intro hl (And.intro hc (And.intro hm hn)))
    have HR := Lib.hid (And.intro hR (And.intro hFd (And.intro hFA (And.intro hFx hFl))))
    have HH := Lib.hid h
    have hc0 : w.cell? ⟨d, 0, none⟩ = some (.slice A ts.length c) := hR.blk.cell 0
    obtain ⟨m, hmm⟩ : ∃ m, ts.length = m := ⟨_, rfl⟩
    rw [hmm] at hc0 hl1 hl2
    have HM := Lib.hid hmm
    clear h hR hFd hFA hFx hFl hokl hok hr ho hl hc hm hmm hs
    go_enter Tryz.func48, Tryz.ntmps48
    go_wp2_with fail
    refine KA.out.mono ?_
    rintro e w1 ⟨rfl, ⟨k, hk, hx, rfl⟩ | ⟨hno, rfl⟩⟩
    · have he : loadC ⟨room, ts.map (·.1)⟩ sh ls draw = ⟨room, ts.map (·.1)⟩ := by rw [loadC_had]; rw [← hx]; exact hasC_yes hk
      have HE := Lib.hid he
      have hk0 : (0 : Int) ≤ (k : Int) := by omega
      clear hx hk he KA
      go_wp2_with fail
      refine bodyPost_ret (results_none rfl _ _ _) rfl ?_
      exact ⟨rfl, by rw [HE.out]; exact HT.out⟩
    · have HNO := Lib.hid hno
      clear hno KA
      go_wp2_with fail
      go_quiet (fail)
      have up : ∀ q, Below w.heap.size w (w.drewN q) := fun q => below_drewN (Below.refl _ _) q
      by_cases hfull : m = room
      · obtain rfl : room = m := hfull.symm
        obtain ⟨k, hkk⟩ : ∃ k, draw % room = k := ⟨_, rfl⟩
        have hkm : k < room := by rw [← hkk]; exact Nat.mod_lt _ (by omega)
        have hrem : (draw : Int) % (room : Int) = (k : Int) := by rw [← hkk]; exact (Int.natCast_emod draw room).symm
        have KC := rccut_any ⟨d, 0, none⟩ F ⟨room, ts.map (·.1)⟩ k (w.drewN nq) (Rc.firm.keep (w := w) (w' := w.drewN nq) HH.out fun _ _ => rfl) (by simp only [List.length_map]; rw [HM.out]; exact hkm)
        have HEQ0 := Lib.hid (show loadC ⟨room, ts.map (·.1)⟩ sh ls draw = ⟨room, (ts.map (·.1)).eraseIdx k ++ [(sh, ls)]⟩ from by
          rw [loadC_new h0 HNO.out, if_pos (by rw [List.length_map, HM.out])]
          simp only [List.length_map]
          rw [HM.out, hkk])
        have HLE := Lib.hid (show ((ts.map (·.1)).eraseIdx k).length ≤ 4096 from Nat.le_trans (List.length_eraseIdx_le _ _) (by rw [List.length_map, HM.out]; exact hl1))
        replace KC := Lib.hid KC
        have HUP := Lib.hid (up nq)
        have hc0q : (w.drewN nq).cell? ⟨d, 0, none⟩ = some (.slice A room c) := hc0
        have hc1q : (w.drewN nq).cell? ⟨d, 1, none⟩ = some (.int .i64 (room : Nat)) := hc1
        clear hkk hc0 hc1 up
        generalize w.drewN nq = wq at *
        go_wp2_with fail
        (with_reducible refine KC.out.mono ?_)
        rintro e wx ⟨rfl, F2, ⟨d2, A2, c2, ts2, e2, hR2, hst2, hFd2, hFA2, hFx2, hFl2⟩, hF2, hon2⟩
        injection e2 with e2 _ _
        subst e2
        simp only at hst2 hR2
        have HEQ := Lib.hid (show loadC ⟨room, ts.map (·.1)⟩ sh ls draw = ⟨room, ts2.map (·.1) ++ [(sh, ls)]⟩ from by rw [HEQ0.out, hst2])
        have hokx := HOK.out.2.1
        rw [HEQ.out] at hokx
        have HOKX := Lib.hid hokx
        have hbd : Below wx.heap.size wx wx.drew := ⟨rfl, rfl, rfl, Nat.le_refl _, fun _ _ => rfl⟩
        obtain ⟨m2, hm2⟩ : ∃ m2, ts2.length = m2 := ⟨_, rfl⟩
        have hm2l : m2 ≤ 4096 := by have := HLE.out; rw [hst2, List.length_map, hm2] at this; exact this
        have HM2 := Lib.hid hm2
        have HRD2 := Lib.hid (show RCs wx.drew d A2 c2 ts2 room ∧ F2 d ∧ (∀ ad, A2 = some ad → F2 ad.block) ∧ (∀ x ∈ ts2, ∀ ad, x.2.1 = some ad → F2 ad.block) from ⟨hR2.on hbd, hFd2, hFA2, hFx2⟩)
        have HRX := Lib.hid (show RdRw wx.drew wx.drew.heap.size Al ls from by
          have h1 := (HRD.out.1.below HUP.out).more HUP.out.size
          refine ⟨fun h0 => ?_, h1.each⟩
          obtain ⟨g, off, e, hg, hc⟩ := h1.rows h0
          refine ⟨g, off, e, Nat.lt_of_lt_of_le hg hon2.size, fun j hj i v hv => ?_⟩
          have := hc j hj i v hv
          rw [← this]
          exact World.cell?_of_block (hon2.block g hg (HRD.out.2 _ e (by rw [← HL.out.1]; simpa using h0))))
        have BACK := Lib.hid (show ∀ w' S', Turned Rc wx.drew ⟨d, 0, none⟩ F2 w' S' → Turned Rc w ⟨d, 0, none⟩ F w' S' from fun w' S' h => Turned.step (fun g hg => (hF2 g hg).imp id fun h => Nat.le_trans HUP.out.size h) (show Only F w wx.drew from ⟨hon2.os.trans HUP.out.os, hon2.tape.trans HUP.out.tape, hon2.output.trans HUP.out.output, Nat.le_trans HUP.out.size hon2.size, fun g hg hn => (hon2.block g (Nat.lt_of_lt_of_le hg HUP.out.size) hn).trans (HUP.out.block g hg)⟩) h)
        clear hc0q hc1q hR2 hst2 hFd2 hFA2 hFx2 hFl2 hF2 hon2 hokx hbd hm2 KC
        go_upto_region 3 with fail
        have HCD := Lib.hid (show ∀ W, Below wx.drew.heap.size wx.drew W → W.cell? ⟨d, 0, none⟩ = some (.slice A2 m2 c2) ∧ W.frozen? ⟨d, 0, none⟩ = false from fun W hW => by
          have := (HRD2.out.1.blk).below hW HRD2.out.1.blk.lt
          rw [HM2.out] at this
          exact ⟨this.cell 0, this.frozen 0⟩)
        have hcd := (HCD.out _ (Below.refl _ _)).1
        refine wp_region_held_drew (S := fun _ => True) (by kernel_rfl) trivial (fun hHeld => ?_)
        clear hHeld
        generalize wx.drew = wd at *
        refine wpAnyH_take (i := 0) (oi := _) (v := .pointer (some ⟨d, 0, none⟩)) rfl (by kernel_rfl) (by kernel_rfl) (by kernel_rfl) (fun _ _ _ h => h) (Or.inl ⟨by rfl, by intro w hSw; go_simp⟩) trivial ?_
        simp only [List.getElem_toArray, List.getElem_cons_zero, List.getElem_cons_succ, Act.put, List.setIfInBounds_toArray, List.set_cons_zero, List.set_cons_succ]
        refine wpAnyH_take (i := 1) (oi := _) (v := .pointer (some ⟨d, 0, none⟩)) rfl (by kernel_rfl) (by kernel_rfl) (by kernel_rfl) (fun _ _ _ h => h) (Or.inl ⟨by rfl, by intro w hSw; go_simp⟩) trivial ?_
        simp only [List.getElem_toArray, List.getElem_cons_zero, List.getElem_cons_succ, Act.put, List.setIfInBounds_toArray, List.set_cons_zero, List.set_cons_succ]
        refine wpAnyH_take (i := 2) (oi := _) (v := .pointer (some ⟨d, 0, none⟩)) rfl (by kernel_rfl) (by kernel_rfl) (by kernel_rfl) (fun _ _ _ h => h) (Or.inl ⟨by rfl, by intro w hSw; go_simp⟩) trivial ?_
        simp only [List.getElem_toArray, List.getElem_cons_zero, List.getElem_cons_succ, Act.put, List.setIfInBounds_toArray, List.set_cons_zero, List.set_cons_succ]
        refine wpAnyH_take (i := 3) (oi := _) (v := .pointer (some ⟨d, 0, none⟩)) rfl (by kernel_rfl) (by kernel_rfl) (by kernel_rfl) (fun _ _ _ h => h) (Or.inl ⟨by rfl, by intro w hSw; go_simp⟩) trivial ?_
        simp only [List.getElem_toArray, List.getElem_cons_zero, List.getElem_cons_succ, Act.put, List.setIfInBounds_toArray, List.set_cons_zero, List.set_cons_succ]
        refine wpAnyH_take (i := 5) (oi := _) (v := .int .i64 sh) rfl (by kernel_rfl) (by kernel_rfl) (by kernel_rfl) (fun _ _ _ h => h) (Or.inl ⟨by rfl, by intro w hSw; go_simp⟩) trivial ?_
        simp only [List.getElem_toArray, List.getElem_cons_zero, List.getElem_cons_succ, Act.put, List.setIfInBounds_toArray, List.set_cons_zero, List.set_cons_succ]
        refine wpAnyH_take (i := 7) (oi := _) (v := .slice Al n cl) rfl (by kernel_rfl) (by kernel_rfl) (by kernel_rfl) (fun _ _ _ h => h) (Or.inl ⟨by rfl, by intro w hSw; go_simp⟩) trivial ?_
        simp only [List.getElem_toArray, List.getElem_cons_zero, List.getElem_cons_succ, Act.put, List.setIfInBounds_toArray, List.set_cons_zero, List.set_cons_succ]
        refine wpAnyH_ready (rs := [4, 6]) (by kernel_rfl) (by simp) ?_
        refine AllReadyH.cons rfl (fun K hK => ?_) (AllReadyH.cons rfl (fun K hK => ?_) AllReadyH.nil)
        · go_simp
          refine hK.out _ _ trivial (fun _ => ?_)
          clear hK K
          try simp only [List.getElem_toArray, List.getElem_cons_zero, List.getElem_cons_succ, Act.put, List.setIfInBounds_toArray, List.set_cons_zero, List.set_cons_succ]
          refine wpAnyH_ready (rs := [6]) (by kernel_rfl) (by simp) ?_
          refine AllReadyH.cons rfl (fun K hK => ?_) AllReadyH.nil
          refine wp_buildNil rowE rfl ?_
          refine hK.out _ _ trivial (fun _ => ?_)
          clear hK K
          try simp only [List.getElem_toArray, List.getElem_cons_zero, List.getElem_cons_succ, Act.put, List.setIfInBounds_toArray, List.set_cons_zero, List.set_cons_succ]
          have hal : Below wd.heap.size wd (wd.alloc (.cells #[] 42)) := (Below.refl _ _).alloc (Nat.le_refl _) _
          have HAL := Lib.hid hal
          have HE := Lib.hid (OwnG.empty (g := rcs) (e := 42) (sz := 35) wd)
          have HRT := Lib.hid (HRX.out.on hal)
          have hcd := (HCD.out _ hal).1
          clear hal
          refine wpAnyH_ready (rs := [8]) (by kernel_rfl) (by simp) ?_
          refine AllReadyH.cons rfl (fun K hK => ?_) AllReadyH.nil
          refine wp_append_g rowE (.tmp 46) (.tmp 47) rfl wd.heap.size _ 0 0 [] rfl rfl HE.out _ Al cl n ls rfl HL.out.1 HRT.out.rows HRT.out.each ?_ ?_ ?_
          case _ => have := HL.out.2.2.2; omega
          case _ => exact HAL.out.size
          intro A8 c8 w8 ho8 hg8
          rw [List.nil_append] at ho8
          rw [show 0 + n = n from Nat.zero_add n]
          have HB8 := Lib.hid (show Below wd.heap.size wd w8 from HAL.out.grown hg8 HAL.out.size fun r hr => (HE.out.lt hr).1)
          have HO8 := Lib.hid ho8
          have HBT := Lib.hid (built_tab sh ls A8 n c8 HL.out.1)
          have hcd := (HCD.out _ HB8.out).1
          clear ho8 hg8 HAL HE HRT
          refine hK.out _ _ trivial (fun _ => ?_)
          clear hK K
          try simp only [List.getElem_toArray, List.getElem_cons_zero, List.getElem_cons_succ, Act.put, List.setIfInBounds_toArray, List.set_cons_zero, List.set_cons_succ]
          refine wpAnyH_take (i := 9) (oi := _) (v := .agg (tcs ((sh, ls), (A8, c8))).toArray) rfl (by kernel_rfl) (by kernel_rfl) (by kernel_rfl) (fun _ _ _ h => h) (yields_build (by rfl) 124 #[(0, Operand.tmp 45), (1, Operand.tmp 48)] rfl _ (by simp only [List.map_toArray, List.map_cons, List.map_nil]; exact HBT.out)) trivial ?_
          simp only [List.getElem_toArray, List.getElem_cons_zero, List.getElem_cons_succ, Act.put, List.setIfInBounds_toArray, List.set_cons_zero, List.set_cons_succ]
          refine wpAnyH_ready (rs := [10]) (by kernel_rfl) (by simp) ?_
          refine AllReadyH.cons rfl (fun K hK => ?_) AllReadyH.nil
          refine wp_buildOne tabE (.tmp 49) rfl (y := ((sh, ls), (A8, c8))) trivial rfl ?_
          refine hK.out _ _ trivial (fun _ => ?_)
          clear hK K
          try simp only [List.getElem_toArray, List.getElem_cons_zero, List.getElem_cons_succ, Act.put, List.setIfInBounds_toArray, List.set_cons_zero, List.set_cons_succ]
          have hb10 : Below wd.heap.size wd (w8.alloc (.cells (tcs ((sh, ls), (A8, c8))).toArray 124)) := HB8.out.alloc HB8.out.size _
          have HB10 := Lib.hid hb10
          have HO10 := Lib.hid (HO8.out.on ((Below.refl w8.heap.size w8).alloc (Nat.le_refl _) (.cells (tcs ((sh, ls), (A8, c8))).toArray 124)))
          have HR1 := Lib.hid (rds_one w8 (((sh, ls), (A8, c8)) : TabT) 124 2 tcs)
          have HOW := Lib.hid (HRD2.out.1.on hb10).own
          have hcd := (HCD.out _ hb10).1
          clear hb10
          refine wpAnyH_ready (rs := [11]) (by kernel_rfl) (by simp) ?_
          refine AllReadyH.cons rfl (fun K hK => ?_) AllReadyH.nil
          refine wp_append_gat tabE (.tmp 44) (.tmp 50) rfl 0 A2 c2 m2 ts2 HM2.out rfl HOW.out _ (some ⟨w8.heap.size, 0, none⟩) 1 1 [((sh, ls), (A8, c8))] rfl rfl (by decide) HR1.out (fun _ _ => trivial) ?_ ?_ ?_
          case _ => omega
          case _ => exact Nat.zero_le _
          intro A9 c9 w9 ho9 hg9 h9
          have HFN := Lib.hid (load_fin HRD2.out HM2.out HOKX.out HB10.out HO10.out ho9 hg9 h9)
          obtain ⟨hcd9, hfz9⟩ := load_cell HRD2.out.1 HM2.out HB10.out hg9
          clear ho9 hg9 h9 HR1 HOW
          refine hK.out _ _ trivial (fun _ => ?_)
          clear hK K
          try simp only [List.getElem_toArray, List.getElem_cons_zero, List.getElem_cons_succ, Act.put, List.setIfInBounds_toArray, List.set_cons_zero, List.set_cons_succ]
          refine wpAnyH_take (i := 12) (oi := _) (v := .pointer (some ⟨d, 0, none⟩)) rfl (by kernel_rfl) (by kernel_rfl) (by kernel_rfl) (fun _ _ _ h => h) (Or.inl ⟨by rfl, by intro w hSw; go_simp⟩) trivial ?_
          simp only [List.getElem_toArray, List.getElem_cons_zero, List.getElem_cons_succ, Act.put, List.setIfInBounds_toArray, List.set_cons_zero, List.set_cons_succ]
          refine wpAnyH_take (i := 13) (oi := _) (v := .pointer (some ⟨d, 0, none⟩)) rfl (by kernel_rfl) (by kernel_rfl) (by kernel_rfl) (fun _ _ _ h => h) (Or.inl ⟨by rfl, by intro w hSw; go_simp⟩) trivial ?_
          simp only [List.getElem_toArray, List.getElem_cons_zero, List.getElem_cons_succ, Act.put, List.setIfInBounds_toArray, List.set_cons_zero, List.set_cons_succ]
          refine wpAnyH_ready (rs := [14]) (by kernel_rfl) (by simp) ?_
          refine AllReadyH.cons rfl (fun K hK => ?_) AllReadyH.nil
          go_simp
          refine hK.out _ _ trivial (fun _ => ?_)
          clear hK K
          try simp only [List.getElem_toArray, List.getElem_cons_zero, List.getElem_cons_succ, Act.put, List.setIfInBounds_toArray, List.set_cons_zero, List.set_cons_succ]
          refine wpAnyH_done (by kernel_rfl) ?_ _
          (try simp only [Exit.inBlock, Exit.then])
          go_end0
          exact ⟨rfl, by rw [HEQ.out]; exact BACK.out _ _ HFN.out⟩
        · refine wp_buildNil rowE rfl ?_
          refine hK.out _ _ trivial (fun _ => ?_)
          clear hK K
          try simp only [List.getElem_toArray, List.getElem_cons_zero, List.getElem_cons_succ, Act.put, List.setIfInBounds_toArray, List.set_cons_zero, List.set_cons_succ]
          have hal : Below wd.heap.size wd (wd.alloc (.cells #[] 42)) := (Below.refl _ _).alloc (Nat.le_refl _) _
          have HAL := Lib.hid hal
          have HE := Lib.hid (OwnG.empty (g := rcs) (e := 42) (sz := 35) wd)
          have HRT := Lib.hid (HRX.out.on hal)
          have hcd := (HCD.out _ hal).1
          clear hal
          refine wpAnyH_ready (rs := [4, 8]) (by kernel_rfl) (by simp) ?_
          refine AllReadyH.cons rfl (fun K hK => ?_) (AllReadyH.cons rfl (fun K hK => ?_) AllReadyH.nil)
          · go_simp
            refine hK.out _ _ trivial (fun _ => ?_)
            clear hK K
            try simp only [List.getElem_toArray, List.getElem_cons_zero, List.getElem_cons_succ, Act.put, List.setIfInBounds_toArray, List.set_cons_zero, List.set_cons_succ]
            refine wpAnyH_ready (rs := [8]) (by kernel_rfl) (by simp) ?_
            refine AllReadyH.cons rfl (fun K hK => ?_) AllReadyH.nil
            refine wp_append_g rowE (.tmp 46) (.tmp 47) rfl wd.heap.size _ 0 0 [] rfl rfl HE.out _ Al cl n ls rfl HL.out.1 HRT.out.rows HRT.out.each ?_ ?_ ?_
            case _ => have := HL.out.2.2.2; omega
            case _ => exact HAL.out.size
            intro A8 c8 w8 ho8 hg8
            rw [List.nil_append] at ho8
            rw [show 0 + n = n from Nat.zero_add n]
            have HB8 := Lib.hid (show Below wd.heap.size wd w8 from HAL.out.grown hg8 HAL.out.size fun r hr => (HE.out.lt hr).1)
            have HO8 := Lib.hid ho8
            have HBT := Lib.hid (built_tab sh ls A8 n c8 HL.out.1)
            have hcd := (HCD.out _ HB8.out).1
            clear ho8 hg8 HAL HE HRT
            refine hK.out _ _ trivial (fun _ => ?_)
            clear hK K
            try simp only [List.getElem_toArray, List.getElem_cons_zero, List.getElem_cons_succ, Act.put, List.setIfInBounds_toArray, List.set_cons_zero, List.set_cons_succ]
            refine wpAnyH_take (i := 9) (oi := _) (v := .agg (tcs ((sh, ls), (A8, c8))).toArray) rfl (by kernel_rfl) (by kernel_rfl) (by kernel_rfl) (fun _ _ _ h => h) (yields_build (by rfl) 124 #[(0, Operand.tmp 45), (1, Operand.tmp 48)] rfl _ (by simp only [List.map_toArray, List.map_cons, List.map_nil]; exact HBT.out)) trivial ?_
            simp only [List.getElem_toArray, List.getElem_cons_zero, List.getElem_cons_succ, Act.put, List.setIfInBounds_toArray, List.set_cons_zero, List.set_cons_succ]
            refine wpAnyH_ready (rs := [10]) (by kernel_rfl) (by simp) ?_
            refine AllReadyH.cons rfl (fun K hK => ?_) AllReadyH.nil
            refine wp_buildOne tabE (.tmp 49) rfl (y := ((sh, ls), (A8, c8))) trivial rfl ?_
            refine hK.out _ _ trivial (fun _ => ?_)
            clear hK K
            try simp only [List.getElem_toArray, List.getElem_cons_zero, List.getElem_cons_succ, Act.put, List.setIfInBounds_toArray, List.set_cons_zero, List.set_cons_succ]
            have hb10 : Below wd.heap.size wd (w8.alloc (.cells (tcs ((sh, ls), (A8, c8))).toArray 124)) := HB8.out.alloc HB8.out.size _
            have HB10 := Lib.hid hb10
            have HO10 := Lib.hid (HO8.out.on ((Below.refl w8.heap.size w8).alloc (Nat.le_refl _) (.cells (tcs ((sh, ls), (A8, c8))).toArray 124)))
            have HR1 := Lib.hid (rds_one w8 (((sh, ls), (A8, c8)) : TabT) 124 2 tcs)
            have HOW := Lib.hid (HRD2.out.1.on hb10).own
            have hcd := (HCD.out _ hb10).1
            clear hb10
            refine wpAnyH_ready (rs := [11]) (by kernel_rfl) (by simp) ?_
            refine AllReadyH.cons rfl (fun K hK => ?_) AllReadyH.nil
            refine wp_append_gat tabE (.tmp 44) (.tmp 50) rfl 0 A2 c2 m2 ts2 HM2.out rfl HOW.out _ (some ⟨w8.heap.size, 0, none⟩) 1 1 [((sh, ls), (A8, c8))] rfl rfl (by decide) HR1.out (fun _ _ => trivial) ?_ ?_ ?_
            case _ => omega
            case _ => exact Nat.zero_le _
            intro A9 c9 w9 ho9 hg9 h9
            have HFN := Lib.hid (load_fin HRD2.out HM2.out HOKX.out HB10.out HO10.out ho9 hg9 h9)
            obtain ⟨hcd9, hfz9⟩ := load_cell HRD2.out.1 HM2.out HB10.out hg9
            clear ho9 hg9 h9 HR1 HOW
            refine hK.out _ _ trivial (fun _ => ?_)
            clear hK K
            try simp only [List.getElem_toArray, List.getElem_cons_zero, List.getElem_cons_succ, Act.put, List.setIfInBounds_toArray, List.set_cons_zero, List.set_cons_succ]
            refine wpAnyH_take (i := 12) (oi := _) (v := .pointer (some ⟨d, 0, none⟩)) rfl (by kernel_rfl) (by kernel_rfl) (by kernel_rfl) (fun _ _ _ h => h) (Or.inl ⟨by rfl, by intro w hSw; go_simp⟩) trivial ?_
            simp only [List.getElem_toArray, List.getElem_cons_zero, List.getElem_cons_succ, Act.put, List.setIfInBounds_toArray, List.set_cons_zero, List.set_cons_succ]
            refine wpAnyH_take (i := 13) (oi := _) (v := .pointer (some ⟨d, 0, none⟩)) rfl (by kernel_rfl) (by kernel_rfl) (by kernel_rfl) (fun _ _ _ h => h) (Or.inl ⟨by rfl, by intro w hSw; go_simp⟩) trivial ?_
            simp only [List.getElem_toArray, List.getElem_cons_zero, List.getElem_cons_succ, Act.put, List.setIfInBounds_toArray, List.set_cons_zero, List.set_cons_succ]
            refine wpAnyH_ready (rs := [14]) (by kernel_rfl) (by simp) ?_
            refine AllReadyH.cons rfl (fun K hK => ?_) AllReadyH.nil
            go_simp
            refine hK.out _ _ trivial (fun _ => ?_)
            clear hK K
            try simp only [List.getElem_toArray, List.getElem_cons_zero, List.getElem_cons_succ, Act.put, List.setIfInBounds_toArray, List.set_cons_zero, List.set_cons_succ]
            refine wpAnyH_done (by kernel_rfl) ?_ _
            (try simp only [Exit.inBlock, Exit.then])
            go_end0
            exact ⟨rfl, by rw [HEQ.out]; exact BACK.out _ _ HFN.out⟩
          · refine wp_append_g rowE (.tmp 46) (.tmp 47) rfl wd.heap.size _ 0 0 [] rfl rfl HE.out _ Al cl n ls rfl HL.out.1 HRT.out.rows HRT.out.each ?_ ?_ ?_
            case _ => have := HL.out.2.2.2; omega
            case _ => exact HAL.out.size
            intro A8 c8 w8 ho8 hg8
            rw [List.nil_append] at ho8
            rw [show 0 + n = n from Nat.zero_add n]
            have HB8 := Lib.hid (show Below wd.heap.size wd w8 from HAL.out.grown hg8 HAL.out.size fun r hr => (HE.out.lt hr).1)
            have HO8 := Lib.hid ho8
            have HBT := Lib.hid (built_tab sh ls A8 n c8 HL.out.1)
            have hcd := (HCD.out _ HB8.out).1
            clear ho8 hg8 HAL HE HRT
            refine hK.out _ _ trivial (fun _ => ?_)
            clear hK K
            try simp only [List.getElem_toArray, List.getElem_cons_zero, List.getElem_cons_succ, Act.put, List.setIfInBounds_toArray, List.set_cons_zero, List.set_cons_succ]
            refine wpAnyH_take (i := 9) (oi := _) (v := .agg (tcs ((sh, ls), (A8, c8))).toArray) rfl (by kernel_rfl) (by kernel_rfl) (by kernel_rfl) (fun _ _ _ h => h) (yields_build (by rfl) 124 #[(0, Operand.tmp 45), (1, Operand.tmp 48)] rfl _ (by simp only [List.map_toArray, List.map_cons, List.map_nil]; exact HBT.out)) trivial ?_
            simp only [List.getElem_toArray, List.getElem_cons_zero, List.getElem_cons_succ, Act.put, List.setIfInBounds_toArray, List.set_cons_zero, List.set_cons_succ]
            refine wpAnyH_ready (rs := [4, 10]) (by kernel_rfl) (by simp) ?_
            refine AllReadyH.cons rfl (fun K hK => ?_) (AllReadyH.cons rfl (fun K hK => ?_) AllReadyH.nil)
            · go_simp
              refine hK.out _ _ trivial (fun _ => ?_)
              clear hK K
              try simp only [List.getElem_toArray, List.getElem_cons_zero, List.getElem_cons_succ, Act.put, List.setIfInBounds_toArray, List.set_cons_zero, List.set_cons_succ]
              refine wpAnyH_ready (rs := [10]) (by kernel_rfl) (by simp) ?_
              refine AllReadyH.cons rfl (fun K hK => ?_) AllReadyH.nil
              refine wp_buildOne tabE (.tmp 49) rfl (y := ((sh, ls), (A8, c8))) trivial rfl ?_
              refine hK.out _ _ trivial (fun _ => ?_)
              clear hK K
              try simp only [List.getElem_toArray, List.getElem_cons_zero, List.getElem_cons_succ, Act.put, List.setIfInBounds_toArray, List.set_cons_zero, List.set_cons_succ]
              have hb10 : Below wd.heap.size wd (w8.alloc (.cells (tcs ((sh, ls), (A8, c8))).toArray 124)) := HB8.out.alloc HB8.out.size _
              have HB10 := Lib.hid hb10
              have HO10 := Lib.hid (HO8.out.on ((Below.refl w8.heap.size w8).alloc (Nat.le_refl _) (.cells (tcs ((sh, ls), (A8, c8))).toArray 124)))
              have HR1 := Lib.hid (rds_one w8 (((sh, ls), (A8, c8)) : TabT) 124 2 tcs)
              have HOW := Lib.hid (HRD2.out.1.on hb10).own
              have hcd := (HCD.out _ hb10).1
              clear hb10
              refine wpAnyH_ready (rs := [11]) (by kernel_rfl) (by simp) ?_
              refine AllReadyH.cons rfl (fun K hK => ?_) AllReadyH.nil
              refine wp_append_gat tabE (.tmp 44) (.tmp 50) rfl 0 A2 c2 m2 ts2 HM2.out rfl HOW.out _ (some ⟨w8.heap.size, 0, none⟩) 1 1 [((sh, ls), (A8, c8))] rfl rfl (by decide) HR1.out (fun _ _ => trivial) ?_ ?_ ?_
              case _ => omega
              case _ => exact Nat.zero_le _
              intro A9 c9 w9 ho9 hg9 h9
              have HFN := Lib.hid (load_fin HRD2.out HM2.out HOKX.out HB10.out HO10.out ho9 hg9 h9)
              obtain ⟨hcd9, hfz9⟩ := load_cell HRD2.out.1 HM2.out HB10.out hg9
              clear ho9 hg9 h9 HR1 HOW
              refine hK.out _ _ trivial (fun _ => ?_)
              clear hK K
              try simp only [List.getElem_toArray, List.getElem_cons_zero, List.getElem_cons_succ, Act.put, List.setIfInBounds_toArray, List.set_cons_zero, List.set_cons_succ]
              refine wpAnyH_take (i := 12) (oi := _) (v := .pointer (some ⟨d, 0, none⟩)) rfl (by kernel_rfl) (by kernel_rfl) (by kernel_rfl) (fun _ _ _ h => h) (Or.inl ⟨by rfl, by intro w hSw; go_simp⟩) trivial ?_
              simp only [List.getElem_toArray, List.getElem_cons_zero, List.getElem_cons_succ, Act.put, List.setIfInBounds_toArray, List.set_cons_zero, List.set_cons_succ]
              refine wpAnyH_take (i := 13) (oi := _) (v := .pointer (some ⟨d, 0, none⟩)) rfl (by kernel_rfl) (by kernel_rfl) (by kernel_rfl) (fun _ _ _ h => h) (Or.inl ⟨by rfl, by intro w hSw; go_simp⟩) trivial ?_
              simp only [List.getElem_toArray, List.getElem_cons_zero, List.getElem_cons_succ, Act.put, List.setIfInBounds_toArray, List.set_cons_zero, List.set_cons_succ]
              refine wpAnyH_ready (rs := [14]) (by kernel_rfl) (by simp) ?_
              refine AllReadyH.cons rfl (fun K hK => ?_) AllReadyH.nil
              go_simp
              refine hK.out _ _ trivial (fun _ => ?_)
              clear hK K
              try simp only [List.getElem_toArray, List.getElem_cons_zero, List.getElem_cons_succ, Act.put, List.setIfInBounds_toArray, List.set_cons_zero, List.set_cons_succ]
              refine wpAnyH_done (by kernel_rfl) ?_ _
              (try simp only [Exit.inBlock, Exit.then])
              go_end0
              exact ⟨rfl, by rw [HEQ.out]; exact BACK.out _ _ HFN.out⟩
            · refine wp_buildOne tabE (.tmp 49) rfl (y := ((sh, ls), (A8, c8))) trivial rfl ?_
              refine hK.out _ _ trivial (fun _ => ?_)
              clear hK K
              try simp only [List.getElem_toArray, List.getElem_cons_zero, List.getElem_cons_succ, Act.put, List.setIfInBounds_toArray, List.set_cons_zero, List.set_cons_succ]
              have hb10 : Below wd.heap.size wd (w8.alloc (.cells (tcs ((sh, ls), (A8, c8))).toArray 124)) := HB8.out.alloc HB8.out.size _
              have HB10 := Lib.hid hb10
              have HO10 := Lib.hid (HO8.out.on ((Below.refl w8.heap.size w8).alloc (Nat.le_refl _) (.cells (tcs ((sh, ls), (A8, c8))).toArray 124)))
              have HR1 := Lib.hid (rds_one w8 (((sh, ls), (A8, c8)) : TabT) 124 2 tcs)
              have HOW := Lib.hid (HRD2.out.1.on hb10).own
              have hcd := (HCD.out _ hb10).1
              clear hb10
              refine wpAnyH_ready (rs := [4]) (by kernel_rfl) (by simp) ?_
              refine AllReadyH.cons rfl (fun K hK => ?_) AllReadyH.nil
              go_simp
              refine hK.out _ _ trivial (fun _ => ?_)
              clear hK K
              try simp only [List.getElem_toArray, List.getElem_cons_zero, List.getElem_cons_succ, Act.put, List.setIfInBounds_toArray, List.set_cons_zero, List.set_cons_succ]
              refine wpAnyH_ready (rs := [11]) (by kernel_rfl) (by simp) ?_
              refine AllReadyH.cons rfl (fun K hK => ?_) AllReadyH.nil
              refine wp_append_gat tabE (.tmp 44) (.tmp 50) rfl 0 A2 c2 m2 ts2 HM2.out rfl HOW.out _ (some ⟨w8.heap.size, 0, none⟩) 1 1 [((sh, ls), (A8, c8))] rfl rfl (by decide) HR1.out (fun _ _ => trivial) ?_ ?_ ?_
              case _ => omega
              case _ => exact Nat.zero_le _
              intro A9 c9 w9 ho9 hg9 h9
              have HFN := Lib.hid (load_fin HRD2.out HM2.out HOKX.out HB10.out HO10.out ho9 hg9 h9)
              obtain ⟨hcd9, hfz9⟩ := load_cell HRD2.out.1 HM2.out HB10.out hg9
              clear ho9 hg9 h9 HR1 HOW
              refine hK.out _ _ trivial (fun _ => ?_)
              clear hK K
              try simp only [List.getElem_toArray, List.getElem_cons_zero, List.getElem_cons_succ, Act.put, List.setIfInBounds_toArray, List.set_cons_zero, List.set_cons_succ]
              refine wpAnyH_take (i := 12) (oi := _) (v := .pointer (some ⟨d, 0, none⟩)) rfl (by kernel_rfl) (by kernel_rfl) (by kernel_rfl) (fun _ _ _ h => h) (Or.inl ⟨by rfl, by intro w hSw; go_simp⟩) trivial ?_
              simp only [List.getElem_toArray, List.getElem_cons_zero, List.getElem_cons_succ, Act.put, List.setIfInBounds_toArray, List.set_cons_zero, List.set_cons_succ]
              refine wpAnyH_take (i := 13) (oi := _) (v := .pointer (some ⟨d, 0, none⟩)) rfl (by kernel_rfl) (by kernel_rfl) (by kernel_rfl) (fun _ _ _ h => h) (Or.inl ⟨by rfl, by intro w hSw; go_simp⟩) trivial ?_
              simp only [List.getElem_toArray, List.getElem_cons_zero, List.getElem_cons_succ, Act.put, List.setIfInBounds_toArray, List.set_cons_zero, List.set_cons_succ]
              refine wpAnyH_ready (rs := [14]) (by kernel_rfl) (by simp) ?_
              refine AllReadyH.cons rfl (fun K hK => ?_) AllReadyH.nil
              go_simp
              refine hK.out _ _ trivial (fun _ => ?_)
              clear hK K
              try simp only [List.getElem_toArray, List.getElem_cons_zero, List.getElem_cons_succ, Act.put, List.setIfInBounds_toArray, List.set_cons_zero, List.set_cons_succ]
              refine wpAnyH_done (by kernel_rfl) ?_ _
              (try simp only [Exit.inBlock, Exit.then])
              go_end0
              exact ⟨rfl, by rw [HEQ.out]; exact BACK.out _ _ HFN.out⟩
      · have hfi : ¬ (m : Int) = (room : Int) := by omega
        have HEQ := Lib.hid (show loadC ⟨room, ts.map (·.1)⟩ sh ls draw = ⟨room, ts.map (·.1) ++ [(sh, ls)]⟩ from by
          rw [loadC_new h0 HNO.out, if_neg (by rw [List.length_map, HM.out]; exact hfull)])
        have hokx := HOK.out.2.1
        rw [HEQ.out] at hokx
        have HOKX := Lib.hid hokx
        clear hokx
        go_upto_region 3 with fail
        obtain ⟨wx, hwx⟩ : ∃ wx, w.drewN nq = wx := ⟨_, rfl⟩
        have hbx : Below w.heap.size w wx.drew := hwx ▸ ⟨(up nq).os, (up nq).tape, (up nq).output, (up nq).size, (up nq).block⟩
        have HBX := Lib.hid hbx
        have HM2 := HM
        have HRD2 := Lib.hid (show RCs wx.drew d A c ts room ∧ F d ∧ (∀ ad, A = some ad → F ad.block) ∧ (∀ x ∈ ts, ∀ ad, x.2.1 = some ad → F ad.block) from ⟨HR.out.1.on hbx, HR.out.2.1, HR.out.2.2.1, HR.out.2.2.2.1⟩)
        have HRX := Lib.hid (HRD.out.1.on hbx)
        have BACK := Lib.hid (show ∀ w' S', Turned Rc wx.drew ⟨d, 0, none⟩ F w' S' → Turned Rc w ⟨d, 0, none⟩ F w' S' from fun w' S' h => Turned.step (fun g hg => .inl hg) (Only.of_below (F := F) hbx) h)
        rw [hwx]
        clear hc0 hc1 hwx hbx up
        have HCD := Lib.hid (show ∀ W, Below wx.drew.heap.size wx.drew W → W.cell? ⟨d, 0, none⟩ = some (.slice A m c) ∧ W.frozen? ⟨d, 0, none⟩ = false from fun W hW => by
          have := (HRD2.out.1.blk).below hW HRD2.out.1.blk.lt
          rw [HM2.out] at this
          exact ⟨this.cell 0, this.frozen 0⟩)
        have hcd := (HCD.out _ (Below.refl _ _)).1
        refine wp_region_held_drew (S := fun _ => True) (by kernel_rfl) trivial (fun hHeld => ?_)
        clear hHeld
        generalize wx.drew = wd at *
        refine wpAnyH_take (i := 0) (oi := _) (v := .pointer (some ⟨d, 0, none⟩)) rfl (by kernel_rfl) (by kernel_rfl) (by kernel_rfl) (fun _ _ _ h => h) (Or.inl ⟨by rfl, by intro w hSw; go_simp⟩) trivial ?_
        simp only [List.getElem_toArray, List.getElem_cons_zero, List.getElem_cons_succ, Act.put, List.setIfInBounds_toArray, List.set_cons_zero, List.set_cons_succ]
        refine wpAnyH_take (i := 1) (oi := _) (v := .pointer (some ⟨d, 0, none⟩)) rfl (by kernel_rfl) (by kernel_rfl) (by kernel_rfl) (fun _ _ _ h => h) (Or.inl ⟨by rfl, by intro w hSw; go_simp⟩) trivial ?_
        simp only [List.getElem_toArray, List.getElem_cons_zero, List.getElem_cons_succ, Act.put, List.setIfInBounds_toArray, List.set_cons_zero, List.set_cons_succ]
        refine wpAnyH_take (i := 2) (oi := _) (v := .pointer (some ⟨d, 0, none⟩)) rfl (by kernel_rfl) (by kernel_rfl) (by kernel_rfl) (fun _ _ _ h => h) (Or.inl ⟨by rfl, by intro w hSw; go_simp⟩) trivial ?_
        simp only [List.getElem_toArray, List.getElem_cons_zero, List.getElem_cons_succ, Act.put, List.setIfInBounds_toArray, List.set_cons_zero, List.set_cons_succ]
        refine wpAnyH_take (i := 3) (oi := _) (v := .pointer (some ⟨d, 0, none⟩)) rfl (by kernel_rfl) (by kernel_rfl) (by kernel_rfl) (fun _ _ _ h => h) (Or.inl ⟨by rfl, by intro w hSw; go_simp⟩) trivial ?_
        simp only [List.getElem_toArray, List.getElem_cons_zero, List.getElem_cons_succ, Act.put, List.setIfInBounds_toArray, List.set_cons_zero, List.set_cons_succ]
        refine wpAnyH_take (i := 5) (oi := _) (v := .int .i64 sh) rfl (by kernel_rfl) (by kernel_rfl) (by kernel_rfl) (fun _ _ _ h => h) (Or.inl ⟨by rfl, by intro w hSw; go_simp⟩) trivial ?_
        simp only [List.getElem_toArray, List.getElem_cons_zero, List.getElem_cons_succ, Act.put, List.setIfInBounds_toArray, List.set_cons_zero, List.set_cons_succ]
        refine wpAnyH_take (i := 7) (oi := _) (v := .slice Al n cl) rfl (by kernel_rfl) (by kernel_rfl) (by kernel_rfl) (fun _ _ _ h => h) (Or.inl ⟨by rfl, by intro w hSw; go_simp⟩) trivial ?_
        simp only [List.getElem_toArray, List.getElem_cons_zero, List.getElem_cons_succ, Act.put, List.setIfInBounds_toArray, List.set_cons_zero, List.set_cons_succ]
        refine wpAnyH_ready (rs := [4, 6]) (by kernel_rfl) (by simp) ?_
        refine AllReadyH.cons rfl (fun K hK => ?_) (AllReadyH.cons rfl (fun K hK => ?_) AllReadyH.nil)
        · go_simp
          refine hK.out _ _ trivial (fun _ => ?_)
          clear hK K
          try simp only [List.getElem_toArray, List.getElem_cons_zero, List.getElem_cons_succ, Act.put, List.setIfInBounds_toArray, List.set_cons_zero, List.set_cons_succ]
          refine wpAnyH_ready (rs := [6]) (by kernel_rfl) (by simp) ?_
          refine AllReadyH.cons rfl (fun K hK => ?_) AllReadyH.nil
          refine wp_buildNil rowE rfl ?_
          refine hK.out _ _ trivial (fun _ => ?_)
          clear hK K
          try simp only [List.getElem_toArray, List.getElem_cons_zero, List.getElem_cons_succ, Act.put, List.setIfInBounds_toArray, List.set_cons_zero, List.set_cons_succ]
          have hal : Below wd.heap.size wd (wd.alloc (.cells #[] 42)) := (Below.refl _ _).alloc (Nat.le_refl _) _
          have HAL := Lib.hid hal
          have HE := Lib.hid (OwnG.empty (g := rcs) (e := 42) (sz := 35) wd)
          have HRT := Lib.hid (HRX.out.on hal)
          have hcd := (HCD.out _ hal).1
          clear hal
          refine wpAnyH_ready (rs := [8]) (by kernel_rfl) (by simp) ?_
          refine AllReadyH.cons rfl (fun K hK => ?_) AllReadyH.nil
          refine wp_append_g rowE (.tmp 46) (.tmp 47) rfl wd.heap.size _ 0 0 [] rfl rfl HE.out _ Al cl n ls rfl HL.out.1 HRT.out.rows HRT.out.each ?_ ?_ ?_
          case _ => have := HL.out.2.2.2; omega
          case _ => exact HAL.out.size
          intro A8 c8 w8 ho8 hg8
          rw [List.nil_append] at ho8
          rw [show 0 + n = n from Nat.zero_add n]
          have HB8 := Lib.hid (show Below wd.heap.size wd w8 from HAL.out.grown hg8 HAL.out.size fun r hr => (HE.out.lt hr).1)
          have HO8 := Lib.hid ho8
          have HBT := Lib.hid (built_tab sh ls A8 n c8 HL.out.1)
          have hcd := (HCD.out _ HB8.out).1
          clear ho8 hg8 HAL HE HRT
          refine hK.out _ _ trivial (fun _ => ?_)
          clear hK K
          try simp only [List.getElem_toArray, List.getElem_cons_zero, List.getElem_cons_succ, Act.put, List.setIfInBounds_toArray, List.set_cons_zero, List.set_cons_succ]
          refine wpAnyH_take (i := 9) (oi := _) (v := .agg (tcs ((sh, ls), (A8, c8))).toArray) rfl (by kernel_rfl) (by kernel_rfl) (by kernel_rfl) (fun _ _ _ h => h) (yields_build (by rfl) 124 #[(0, Operand.tmp 45), (1, Operand.tmp 48)] rfl _ (by simp only [List.map_toArray, List.map_cons, List.map_nil]; exact HBT.out)) trivial ?_
          simp only [List.getElem_toArray, List.getElem_cons_zero, List.getElem_cons_succ, Act.put, List.setIfInBounds_toArray, List.set_cons_zero, List.set_cons_succ]
          refine wpAnyH_ready (rs := [10]) (by kernel_rfl) (by simp) ?_
          refine AllReadyH.cons rfl (fun K hK => ?_) AllReadyH.nil
          refine wp_buildOne tabE (.tmp 49) rfl (y := ((sh, ls), (A8, c8))) trivial rfl ?_
          refine hK.out _ _ trivial (fun _ => ?_)
          clear hK K
          try simp only [List.getElem_toArray, List.getElem_cons_zero, List.getElem_cons_succ, Act.put, List.setIfInBounds_toArray, List.set_cons_zero, List.set_cons_succ]
          have hb10 : Below wd.heap.size wd (w8.alloc (.cells (tcs ((sh, ls), (A8, c8))).toArray 124)) := HB8.out.alloc HB8.out.size _
          have HB10 := Lib.hid hb10
          have HO10 := Lib.hid (HO8.out.on ((Below.refl w8.heap.size w8).alloc (Nat.le_refl _) (.cells (tcs ((sh, ls), (A8, c8))).toArray 124)))
          have HR1 := Lib.hid (rds_one w8 (((sh, ls), (A8, c8)) : TabT) 124 2 tcs)
          have HOW := Lib.hid (HRD2.out.1.on hb10).own
          have hcd := (HCD.out _ hb10).1
          clear hb10
          refine wpAnyH_ready (rs := [11]) (by kernel_rfl) (by simp) ?_
          refine AllReadyH.cons rfl (fun K hK => ?_) AllReadyH.nil
          refine wp_append_gat tabE (.tmp 44) (.tmp 50) rfl 0 A c m ts HM2.out rfl HOW.out _ (some ⟨w8.heap.size, 0, none⟩) 1 1 [((sh, ls), (A8, c8))] rfl rfl (by decide) HR1.out (fun _ _ => trivial) ?_ ?_ ?_
          case _ => omega
          case _ => exact Nat.zero_le _
          intro A9 c9 w9 ho9 hg9 h9
          have HFN := Lib.hid (load_fin HRD2.out HM2.out HOKX.out HB10.out HO10.out ho9 hg9 h9)
          obtain ⟨hcd9, hfz9⟩ := load_cell HRD2.out.1 HM2.out HB10.out hg9
          clear ho9 hg9 h9 HR1 HOW
          refine hK.out _ _ trivial (fun _ => ?_)
          clear hK K
          try simp only [List.getElem_toArray, List.getElem_cons_zero, List.getElem_cons_succ, Act.put, List.setIfInBounds_toArray, List.set_cons_zero, List.set_cons_succ]
          refine wpAnyH_take (i := 12) (oi := _) (v := .pointer (some ⟨d, 0, none⟩)) rfl (by kernel_rfl) (by kernel_rfl) (by kernel_rfl) (fun _ _ _ h => h) (Or.inl ⟨by rfl, by intro w hSw; go_simp⟩) trivial ?_
          simp only [List.getElem_toArray, List.getElem_cons_zero, List.getElem_cons_succ, Act.put, List.setIfInBounds_toArray, List.set_cons_zero, List.set_cons_succ]
          refine wpAnyH_take (i := 13) (oi := _) (v := .pointer (some ⟨d, 0, none⟩)) rfl (by kernel_rfl) (by kernel_rfl) (by kernel_rfl) (fun _ _ _ h => h) (Or.inl ⟨by rfl, by intro w hSw; go_simp⟩) trivial ?_
          simp only [List.getElem_toArray, List.getElem_cons_zero, List.getElem_cons_succ, Act.put, List.setIfInBounds_toArray, List.set_cons_zero, List.set_cons_succ]
          refine wpAnyH_ready (rs := [14]) (by kernel_rfl) (by simp) ?_
          refine AllReadyH.cons rfl (fun K hK => ?_) AllReadyH.nil
          go_simp
          refine hK.out _ _ trivial (fun _ => ?_)
          clear hK K
          try simp only [List.getElem_toArray, List.getElem_cons_zero, List.getElem_cons_succ, Act.put, List.setIfInBounds_toArray, List.set_cons_zero, List.set_cons_succ]
          refine wpAnyH_done (by kernel_rfl) ?_ _
          (try simp only [Exit.inBlock, Exit.then])
          go_end0
          exact ⟨rfl, by rw [HEQ.out]; exact BACK.out _ _ HFN.out⟩
        · refine wp_buildNil rowE rfl ?_
          refine hK.out _ _ trivial (fun _ => ?_)
          clear hK K
          try simp only [List.getElem_toArray, List.getElem_cons_zero, List.getElem_cons_succ, Act.put, List.setIfInBounds_toArray, List.set_cons_zero, List.set_cons_succ]
          have hal : Below wd.heap.size wd (wd.alloc (.cells #[] 42)) := (Below.refl _ _).alloc (Nat.le_refl _) _
          have HAL := Lib.hid hal
          have HE := Lib.hid (OwnG.empty (g := rcs) (e := 42) (sz := 35) wd)
          have HRT := Lib.hid (HRX.out.on hal)
          have hcd := (HCD.out _ hal).1
          clear hal
          refine wpAnyH_ready (rs := [4, 8]) (by kernel_rfl) (by simp) ?_
          refine AllReadyH.cons rfl (fun K hK => ?_) (AllReadyH.cons rfl (fun K hK => ?_) AllReadyH.nil)
          · go_simp
            refine hK.out _ _ trivial (fun _ => ?_)
            clear hK K
            try simp only [List.getElem_toArray, List.getElem_cons_zero, List.getElem_cons_succ, Act.put, List.setIfInBounds_toArray, List.set_cons_zero, List.set_cons_succ]
            refine wpAnyH_ready (rs := [8]) (by kernel_rfl) (by simp) ?_
            refine AllReadyH.cons rfl (fun K hK => ?_) AllReadyH.nil
            refine wp_append_g rowE (.tmp 46) (.tmp 47) rfl wd.heap.size _ 0 0 [] rfl rfl HE.out _ Al cl n ls rfl HL.out.1 HRT.out.rows HRT.out.each ?_ ?_ ?_
            case _ => have := HL.out.2.2.2; omega
            case _ => exact HAL.out.size
            intro A8 c8 w8 ho8 hg8
            rw [List.nil_append] at ho8
            rw [show 0 + n = n from Nat.zero_add n]
            have HB8 := Lib.hid (show Below wd.heap.size wd w8 from HAL.out.grown hg8 HAL.out.size fun r hr => (HE.out.lt hr).1)
            have HO8 := Lib.hid ho8
            have HBT := Lib.hid (built_tab sh ls A8 n c8 HL.out.1)
            have hcd := (HCD.out _ HB8.out).1
            clear ho8 hg8 HAL HE HRT
            refine hK.out _ _ trivial (fun _ => ?_)
            clear hK K
            try simp only [List.getElem_toArray, List.getElem_cons_zero, List.getElem_cons_succ, Act.put, List.setIfInBounds_toArray, List.set_cons_zero, List.set_cons_succ]
            refine wpAnyH_take (i := 9) (oi := _) (v := .agg (tcs ((sh, ls), (A8, c8))).toArray) rfl (by kernel_rfl) (by kernel_rfl) (by kernel_rfl) (fun _ _ _ h => h) (yields_build (by rfl) 124 #[(0, Operand.tmp 45), (1, Operand.tmp 48)] rfl _ (by simp only [List.map_toArray, List.map_cons, List.map_nil]; exact HBT.out)) trivial ?_
            simp only [List.getElem_toArray, List.getElem_cons_zero, List.getElem_cons_succ, Act.put, List.setIfInBounds_toArray, List.set_cons_zero, List.set_cons_succ]
            refine wpAnyH_ready (rs := [10]) (by kernel_rfl) (by simp) ?_
            refine AllReadyH.cons rfl (fun K hK => ?_) AllReadyH.nil
            refine wp_buildOne tabE (.tmp 49) rfl (y := ((sh, ls), (A8, c8))) trivial rfl ?_
            refine hK.out _ _ trivial (fun _ => ?_)
            clear hK K
            try simp only [List.getElem_toArray, List.getElem_cons_zero, List.getElem_cons_succ, Act.put, List.setIfInBounds_toArray, List.set_cons_zero, List.set_cons_succ]
            have hb10 : Below wd.heap.size wd (w8.alloc (.cells (tcs ((sh, ls), (A8, c8))).toArray 124)) := HB8.out.alloc HB8.out.size _
            have HB10 := Lib.hid hb10
            have HO10 := Lib.hid (HO8.out.on ((Below.refl w8.heap.size w8).alloc (Nat.le_refl _) (.cells (tcs ((sh, ls), (A8, c8))).toArray 124)))
            have HR1 := Lib.hid (rds_one w8 (((sh, ls), (A8, c8)) : TabT) 124 2 tcs)
            have HOW := Lib.hid (HRD2.out.1.on hb10).own
            have hcd := (HCD.out _ hb10).1
            clear hb10
            refine wpAnyH_ready (rs := [11]) (by kernel_rfl) (by simp) ?_
            refine AllReadyH.cons rfl (fun K hK => ?_) AllReadyH.nil
            refine wp_append_gat tabE (.tmp 44) (.tmp 50) rfl 0 A c m ts HM2.out rfl HOW.out _ (some ⟨w8.heap.size, 0, none⟩) 1 1 [((sh, ls), (A8, c8))] rfl rfl (by decide) HR1.out (fun _ _ => trivial) ?_ ?_ ?_
            case _ => omega
            case _ => exact Nat.zero_le _
            intro A9 c9 w9 ho9 hg9 h9
            have HFN := Lib.hid (load_fin HRD2.out HM2.out HOKX.out HB10.out HO10.out ho9 hg9 h9)
            obtain ⟨hcd9, hfz9⟩ := load_cell HRD2.out.1 HM2.out HB10.out hg9
            clear ho9 hg9 h9 HR1 HOW
            refine hK.out _ _ trivial (fun _ => ?_)
            clear hK K
            try simp only [List.getElem_toArray, List.getElem_cons_zero, List.getElem_cons_succ, Act.put, List.setIfInBounds_toArray, List.set_cons_zero, List.set_cons_succ]
            refine wpAnyH_take (i := 12) (oi := _) (v := .pointer (some ⟨d, 0, none⟩)) rfl (by kernel_rfl) (by kernel_rfl) (by kernel_rfl) (fun _ _ _ h => h) (Or.inl ⟨by rfl, by intro w hSw; go_simp⟩) trivial ?_
            simp only [List.getElem_toArray, List.getElem_cons_zero, List.getElem_cons_succ, Act.put, List.setIfInBounds_toArray, List.set_cons_zero, List.set_cons_succ]
            refine wpAnyH_take (i := 13) (oi := _) (v := .pointer (some ⟨d, 0, none⟩)) rfl (by kernel_rfl) (by kernel_rfl) (by kernel_rfl) (fun _ _ _ h => h) (Or.inl ⟨by rfl, by intro w hSw; go_simp⟩) trivial ?_
            simp only [List.getElem_toArray, List.getElem_cons_zero, List.getElem_cons_succ, Act.put, List.setIfInBounds_toArray, List.set_cons_zero, List.set_cons_succ]
            refine wpAnyH_ready (rs := [14]) (by kernel_rfl) (by simp) ?_
            refine AllReadyH.cons rfl (fun K hK => ?_) AllReadyH.nil
            go_simp
            refine hK.out _ _ trivial (fun _ => ?_)
            clear hK K
            try simp only [List.getElem_toArray, List.getElem_cons_zero, List.getElem_cons_succ, Act.put, List.setIfInBounds_toArray, List.set_cons_zero, List.set_cons_succ]
            refine wpAnyH_done (by kernel_rfl) ?_ _
            (try simp only [Exit.inBlock, Exit.then])
            go_end0
            exact ⟨rfl, by rw [HEQ.out]; exact BACK.out _ _ HFN.out⟩
          · refine wp_append_g rowE (.tmp 46) (.tmp 47) rfl wd.heap.size _ 0 0 [] rfl rfl HE.out _ Al cl n ls rfl HL.out.1 HRT.out.rows HRT.out.each ?_ ?_ ?_
            case _ => have := HL.out.2.2.2; omega
            case _ => exact HAL.out.size
            intro A8 c8 w8 ho8 hg8
            rw [List.nil_append] at ho8
            rw [show 0 + n = n from Nat.zero_add n]
            have HB8 := Lib.hid (show Below wd.heap.size wd w8 from HAL.out.grown hg8 HAL.out.size fun r hr => (HE.out.lt hr).1)
            have HO8 := Lib.hid ho8
            have HBT := Lib.hid (built_tab sh ls A8 n c8 HL.out.1)
            have hcd := (HCD.out _ HB8.out).1
            clear ho8 hg8 HAL HE HRT
            refine hK.out _ _ trivial (fun _ => ?_)
            clear hK K
            try simp only [List.getElem_toArray, List.getElem_cons_zero, List.getElem_cons_succ, Act.put, List.setIfInBounds_toArray, List.set_cons_zero, List.set_cons_succ]
            refine wpAnyH_take (i := 9) (oi := _) (v := .agg (tcs ((sh, ls), (A8, c8))).toArray) rfl (by kernel_rfl) (by kernel_rfl) (by kernel_rfl) (fun _ _ _ h => h) (yields_build (by rfl) 124 #[(0, Operand.tmp 45), (1, Operand.tmp 48)] rfl _ (by simp only [List.map_toArray, List.map_cons, List.map_nil]; exact HBT.out)) trivial ?_
            simp only [List.getElem_toArray, List.getElem_cons_zero, List.getElem_cons_succ, Act.put, List.setIfInBounds_toArray, List.set_cons_zero, List.set_cons_succ]
            refine wpAnyH_ready (rs := [4, 10]) (by kernel_rfl) (by simp) ?_
            refine AllReadyH.cons rfl (fun K hK => ?_) (AllReadyH.cons rfl (fun K hK => ?_) AllReadyH.nil)
            · go_simp
              refine hK.out _ _ trivial (fun _ => ?_)
              clear hK K
              try simp only [List.getElem_toArray, List.getElem_cons_zero, List.getElem_cons_succ, Act.put, List.setIfInBounds_toArray, List.set_cons_zero, List.set_cons_succ]
              refine wpAnyH_ready (rs := [10]) (by kernel_rfl) (by simp) ?_
              refine AllReadyH.cons rfl (fun K hK => ?_) AllReadyH.nil
              refine wp_buildOne tabE (.tmp 49) rfl (y := ((sh, ls), (A8, c8))) trivial rfl ?_
              refine hK.out _ _ trivial (fun _ => ?_)
              clear hK K
              try simp only [List.getElem_toArray, List.getElem_cons_zero, List.getElem_cons_succ, Act.put, List.setIfInBounds_toArray, List.set_cons_zero, List.set_cons_succ]
              have hb10 : Below wd.heap.size wd (w8.alloc (.cells (tcs ((sh, ls), (A8, c8))).toArray 124)) := HB8.out.alloc HB8.out.size _
              have HB10 := Lib.hid hb10
              have HO10 := Lib.hid (HO8.out.on ((Below.refl w8.heap.size w8).alloc (Nat.le_refl _) (.cells (tcs ((sh, ls), (A8, c8))).toArray 124)))
              have HR1 := Lib.hid (rds_one w8 (((sh, ls), (A8, c8)) : TabT) 124 2 tcs)
              have HOW := Lib.hid (HRD2.out.1.on hb10).own
              have hcd := (HCD.out _ hb10).1
              clear hb10
              refine wpAnyH_ready (rs := [11]) (by kernel_rfl) (by simp) ?_
              refine AllReadyH.cons rfl (fun K hK => ?_) AllReadyH.nil
              refine wp_append_gat tabE (.tmp 44) (.tmp 50) rfl 0 A c m ts HM2.out rfl HOW.out _ (some ⟨w8.heap.size, 0, none⟩) 1 1 [((sh, ls), (A8, c8))] rfl rfl (by decide) HR1.out (fun _ _ => trivial) ?_ ?_ ?_
              case _ => omega
              case _ => exact Nat.zero_le _
              intro A9 c9 w9 ho9 hg9 h9
              have HFN := Lib.hid (load_fin HRD2.out HM2.out HOKX.out HB10.out HO10.out ho9 hg9 h9)
              obtain ⟨hcd9, hfz9⟩ := load_cell HRD2.out.1 HM2.out HB10.out hg9
              clear ho9 hg9 h9 HR1 HOW
              refine hK.out _ _ trivial (fun _ => ?_)
              clear hK K
              try simp only [List.getElem_toArray, List.getElem_cons_zero, List.getElem_cons_succ, Act.put, List.setIfInBounds_toArray, List.set_cons_zero, List.set_cons_succ]
              refine wpAnyH_take (i := 12) (oi := _) (v := .pointer (some ⟨d, 0, none⟩)) rfl (by kernel_rfl) (by kernel_rfl) (by kernel_rfl) (fun _ _ _ h => h) (Or.inl ⟨by rfl, by intro w hSw; go_simp⟩) trivial ?_
              simp only [List.getElem_toArray, List.getElem_cons_zero, List.getElem_cons_succ, Act.put, List.setIfInBounds_toArray, List.set_cons_zero, List.set_cons_succ]
              refine wpAnyH_take (i := 13) (oi := _) (v := .pointer (some ⟨d, 0, none⟩)) rfl (by kernel_rfl) (by kernel_rfl) (by kernel_rfl) (fun _ _ _ h => h) (Or.inl ⟨by rfl, by intro w hSw; go_simp⟩) trivial ?_
              simp only [List.getElem_toArray, List.getElem_cons_zero, List.getElem_cons_succ, Act.put, List.setIfInBounds_toArray, List.set_cons_zero, List.set_cons_succ]
              refine wpAnyH_ready (rs := [14]) (by kernel_rfl) (by simp) ?_
              refine AllReadyH.cons rfl (fun K hK => ?_) AllReadyH.nil
              go_simp
              refine hK.out _ _ trivial (fun _ => ?_)
              clear hK K
              try simp only [List.getElem_toArray, List.getElem_cons_zero, List.getElem_cons_succ, Act.put, List.setIfInBounds_toArray, List.set_cons_zero, List.set_cons_succ]
              refine wpAnyH_done (by kernel_rfl) ?_ _
              (try simp only [Exit.inBlock, Exit.then])
              go_end0
              exact ⟨rfl, by rw [HEQ.out]; exact BACK.out _ _ HFN.out⟩
            · refine wp_buildOne tabE (.tmp 49) rfl (y := ((sh, ls), (A8, c8))) trivial rfl ?_
              refine hK.out _ _ trivial (fun _ => ?_)
              clear hK K
              try simp only [List.getElem_toArray, List.getElem_cons_zero, List.getElem_cons_succ, Act.put, List.setIfInBounds_toArray, List.set_cons_zero, List.set_cons_succ]
              have hb10 : Below wd.heap.size wd (w8.alloc (.cells (tcs ((sh, ls), (A8, c8))).toArray 124)) := HB8.out.alloc HB8.out.size _
              have HB10 := Lib.hid hb10
              have HO10 := Lib.hid (HO8.out.on ((Below.refl w8.heap.size w8).alloc (Nat.le_refl _) (.cells (tcs ((sh, ls), (A8, c8))).toArray 124)))
              have HR1 := Lib.hid (rds_one w8 (((sh, ls), (A8, c8)) : TabT) 124 2 tcs)
              have HOW := Lib.hid (HRD2.out.1.on hb10).own
              have hcd := (HCD.out _ hb10).1
              clear hb10
              refine wpAnyH_ready (rs := [4]) (by kernel_rfl) (by simp) ?_
              refine AllReadyH.cons rfl (fun K hK => ?_) AllReadyH.nil
              go_simp
              refine hK.out _ _ trivial (fun _ => ?_)
              clear hK K
              try simp only [List.getElem_toArray, List.getElem_cons_zero, List.getElem_cons_succ, Act.put, List.setIfInBounds_toArray, List.set_cons_zero, List.set_cons_succ]
              refine wpAnyH_ready (rs := [11]) (by kernel_rfl) (by simp) ?_
              refine AllReadyH.cons rfl (fun K hK => ?_) AllReadyH.nil
              refine wp_append_gat tabE (.tmp 44) (.tmp 50) rfl 0 A c m ts HM2.out rfl HOW.out _ (some ⟨w8.heap.size, 0, none⟩) 1 1 [((sh, ls), (A8, c8))] rfl rfl (by decide) HR1.out (fun _ _ => trivial) ?_ ?_ ?_
              case _ => omega
              case _ => exact Nat.zero_le _
              intro A9 c9 w9 ho9 hg9 h9
              have HFN := Lib.hid (load_fin HRD2.out HM2.out HOKX.out HB10.out HO10.out ho9 hg9 h9)
              obtain ⟨hcd9, hfz9⟩ := load_cell HRD2.out.1 HM2.out HB10.out hg9
              clear ho9 hg9 h9 HR1 HOW
              refine hK.out _ _ trivial (fun _ => ?_)
              clear hK K
              try simp only [List.getElem_toArray, List.getElem_cons_zero, List.getElem_cons_succ, Act.put, List.setIfInBounds_toArray, List.set_cons_zero, List.set_cons_succ]
              refine wpAnyH_take (i := 12) (oi := _) (v := .pointer (some ⟨d, 0, none⟩)) rfl (by kernel_rfl) (by kernel_rfl) (by kernel_rfl) (fun _ _ _ h => h) (Or.inl ⟨by rfl, by intro w hSw; go_simp⟩) trivial ?_
              simp only [List.getElem_toArray, List.getElem_cons_zero, List.getElem_cons_succ, Act.put, List.setIfInBounds_toArray, List.set_cons_zero, List.set_cons_succ]
              refine wpAnyH_take (i := 13) (oi := _) (v := .pointer (some ⟨d, 0, none⟩)) rfl (by kernel_rfl) (by kernel_rfl) (by kernel_rfl) (fun _ _ _ h => h) (Or.inl ⟨by rfl, by intro w hSw; go_simp⟩) trivial ?_
              simp only [List.getElem_toArray, List.getElem_cons_zero, List.getElem_cons_succ, Act.put, List.setIfInBounds_toArray, List.set_cons_zero, List.set_cons_succ]
              refine wpAnyH_ready (rs := [14]) (by kernel_rfl) (by simp) ?_
              refine AllReadyH.cons rfl (fun K hK => ?_) AllReadyH.nil
              go_simp
              refine hK.out _ _ trivial (fun _ => ?_)
              clear hK K
              try simp only [List.getElem_toArray, List.getElem_cons_zero, List.getElem_cons_succ, Act.put, List.setIfInBounds_toArray, List.set_cons_zero, List.set_cons_succ]
              refine wpAnyH_done (by kernel_rfl) ?_ _
              (try simp only [Exit.inBlock, Exit.then])
              go_end0
              exact ⟨rfl, by rw [HEQ.out]; exact BACK.out _ _ HFN.out⟩
end Go.Proofs.YtoofhaoaogoomaaGreat
