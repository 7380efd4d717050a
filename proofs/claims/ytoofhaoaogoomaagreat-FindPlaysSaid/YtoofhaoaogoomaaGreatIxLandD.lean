/- The landed index: Put. No statement of the seat is proved here. -/
import Derived.Test.YtoofhaoaogoomaaGreatZLBE
namespace Go.Proofs.YtoofhaoaogoomaaGreat
open Go Go.Maps Go.RowKit
set_option linter.unusedVariables false
set_option linter.unusedSimpArgs false
set_option maxRecDepth 100000

theorem plc_some (x : Nat) (W : World) : (binOp .eql 101 (.map (some x)) (.map none)).run Tryz.prog W = .ok (.bool false) W := by kernel_rfl
theorem range_pvs {w : World} {g : Nat} {p : Int × Int} (h : Blk w g 40 #[.int .i64 p.1, .int .i64 p.2]) : w.rangeAt g 0 [.int .i64 p.1, .int .i64 p.2] := range_of_blk h
/-- What has become of an index when a key was put into its three maps. -/
theorem put_done {w3 w4 w5 w6 : World} {g bp bt bs : Nat} {FT FH FT' FH' : Nat → Prop} {L : List RowT} {k : KeyT} {p : Int × Int} (hL : RowsOk L) (h : IstB w3 g bp bt bs FT FH (dropX L k)) (hk : k.Ok) (hp : PlOk p) (h4 : MapL mkP w4 bp (putM (dropX L k) k p)) (g4 : w3.grownBy w4 (some bp))
    (h5 : Grp mkT w5 bt FT' (fun d' k' => RT (dropX L k) d' k' ∨ (d' = k.1 ∧ k' = k))) (s5 : ∀ x, FT' x → FT x ∨ w4.heap.size ≤ x) (o5 : Only FT w4 w5) (h6 : Grp mkH w6 bs FH' (fun d' k' => RH (dropX L k) d' k' ∨ (d' = p.1 ∧ k' = k))) (s6 : ∀ x, FH' x → FH x ∨ w5.heap.size ≤ x) (o6 : Only FH w5 w6) :
    IstB w6 g bp bt bs FT' FH' (putX L k p) ∧ Only (IstF g bp FT FH) w3 w6 := by
  have z4 := g4.size
  have z5 := o5.size
  have hbg : g ≠ bp := fun e => map_ne_blk h.places h.blk e.symm
  have hTg := grp_ne_blk h.tw h.blk
  have hHg := grp_ne_blk h.sh h.blk
  obtain ⟨f1, f2, f3⟩ := h.far
  have b4 : ∀ x, x < w3.heap.size → x ≠ bp → w4.heap[x]? = w3.heap[x]? := fun x hx hne => g4.block x hx fun e => hne (by injection e)
  have lg := h.blk.lt
  have lp := h.places.lt
  have lT := h.tw.lt
  have lH := h.sh.lt
  have f4 : ∀ x, FT' x → ¬ FH x := fun x hx hy => by
    have := lH x hy
    rcases s5 x hx with h1 | h1
    · exact f3 x h1 hy
    · omega
  refine ⟨⟨?_, ?_, ?_, ?_, hL.put hk hp, fun hx => ?_, fun hx => ?_, fun x hx hy => ?_⟩, ?_⟩
  · exact h.blk.same ((o6.block g (by omega) hHg).trans ((o5.block g (by omega) hTg).trans (b4 g lg hbg)))
  · exact (h4.perm (putM_put hL hk hp)).blk ((o6.block bp (by omega) f2).trans (o5.block bp (by omega) f1))
  · exact (h5.keep fun x hx => o6.block x (h5.lt x hx) (f4 x hx)).rel (rt_put hL hk p)
  · exact h6.rel (rh_put hL hk p)
  · rcases s5 _ hx with h1 | h1
    · exact f1 h1
    · omega
  · rcases s6 _ hx with h1 | h1
    · exact f2 h1
    · omega
  · have l5 := h5.lt x hx
    rcases s6 x hy with h1 | h1
    · exact f4 x hx h1
    · omega
  · have o4 : Only (IstF g bp FT FH) w3 w4 := only_grown g4 (.inr (.inl rfl))
    exact (o4.trans (only_more o5 fun x hx => .inr (.inr (.inl hx))) fun x hx => .inl hx).trans (only_more o6 fun x hx => .inr (.inr (.inr hx))) fun x hx => .inl hx
set_option maxRecDepth 100000 in
set_option maxHeartbeats 8000000 in
theorem put_any (w : World) (s : Addr) (F : Nat → Prop) (L : List RowT) (h : Ist w s F L) (hl : L.length ≤ 10000) (k : KeyT) (hk : k.Ok) (p : Int × Int) (hp : PlOk p) :
    Calls Tryz.prog 32 #[.pointer (some s), kv k, pv p] w fun e w' => e = .returned (.bool (hasX L k)) ∧ Turned Ist w s F w' (putX L k p) := by
  have hLok := h.ok
  obtain ⟨g, bp, bt, bs, FT, FH, rfl, hF, hi⟩ := h
  obtain ⟨X, hX⟩ : ∃ X, kcs k = X := ⟨_, rfl⟩
  have hXl : X.length = 33 := by rw [← hX]; exact kcs_length hk
  obtain ⟨p1, p2⟩ := p
  obtain ⟨w1, hw1⟩ : ∃ w1, w.alloc (.cells X.toArray 29) = w1 := ⟨_, rfl⟩
  obtain ⟨w2, hw2⟩ : ∃ w2, w1.alloc (.cells #[.int .i64 p1, .int .i64 p2] 40) = w2 := ⟨_, rfl⟩
  obtain ⟨sb, hsb⟩ : ∃ sb, w.heap.size = sb := ⟨_, rfl⟩
  have hs1 : w1.heap.size = sb + 1 := by rw [← hw1, ← hsb]; simp
  have hs2 : w2.heap.size = sb + 2 := by rw [← hw2]; simp [hs1]
  have hb1 : Below w.heap.size w w1 := hw1 ▸ (Below.refl _ _).alloc (Nat.le_refl _) _
  have hb2 : Below w1.heap.size w1 w2 := hw2 ▸ (Below.refl _ _).alloc (Nat.le_refl _) _
  have hbw : Below w.heap.size w w2 := hb1.trans (hb2.mono hb1.size)
  have hk2 : Blk w2 sb 29 X.toArray := by rw [← hsb]; exact (hw1 ▸ Blk.new w _ _ : Blk w1 w.heap.size _ _).below hb2 (by rw [hs1, hsb]; omega)
  have hq2 : Blk w2 (sb + 1) 40 #[.int .i64 p1, .int .i64 p2] := by rw [← hs1, ← hw2]; exact Blk.new w1 _ _
  have hi2 := hi.on hbw
  have hfl : ∀ x, F x → x < sb := fun x hx => hsb ▸ hi.lt x ((hF x).1 hx)
  obtain ⟨fk, hfk⟩ := key_desc'
  obtain ⟨fs, es, hfs⟩ := sum_desc'
  obtain ⟨fp, hfp⟩ := place_desc
  have hXs : (Tryz.prog.info? 29).map (·.size) = some X.length := by rw [hXl]; exact key_size
  have hSs : (Tryz.prog.info? 26).map (·.size) = some (bv k.1).length := by rw [bv_length, hk.1]; exact sum_size'
  have CD := Lib.hid (drop_any w2 ⟨g, 0, none⟩ F L ⟨g, bp, bt, bs, FT, FH, rfl, hF, hi2⟩ k hk)
  have HFL := Lib.hid hfl
  have HW := Lib.hid (And.intro hw1 (And.intro hw2 (And.intro hsb (And.intro hs1 hs2))))
  have HB := Lib.hid hbw
  have HK2 := Lib.hid hk2
  have HQ2 := Lib.hid hq2
  have HF := Lib.hid (And.intro hfk (And.intro hfs hfp))
  have HXS := Lib.hid hXs
  have HSS := Lib.hid hSs
  have HPS := Lib.hid (show (Tryz.prog.info? 40).map (·.size) = some ([Value.int .i64 p1, Value.int .i64 p2]).length from place_size)
  have HXQ := Lib.hid (show X = kcs k from hX.symm)
  have HLO := Lib.hid (And.intro hLok (And.intro hl hp))
  have c0 : w2.cell? ⟨g, 0, none⟩ = some (.map (some bp)) := hi2.blk.cell 0
  have hcmp := plc_some bp
  obtain ⟨r, hr⟩ : ∃ r, hasX L k = r := ⟨_, rfl⟩
  rw [hr] at CD ⊢
  unfold kv at CD ⊢
  unfold pv
  rw [hX] at CD ⊢
  clear hi hi2 hX hXl hw1 hw2 hsb hs1 hs2 hb1 hb2 hbw hk2 hq2 hfl hfk hfs hfp hXs hSs hF hr hl hp hLok
  go_enter Tryz.func32, Tryz.ntmps32
  go_upto_region 1 with fail
  rw [HW.out.1, HW.out.2.1, HW.out.2.2.1]
  go_upto_region 6 with (first
    | (refine wpList_load_mid rfl 29 (.tmp 4) rfl sb 0 rfl X (.struct fk) (range_of_blk HK2.out) HF.out.1 rfl HXS.out ?_)
    | (go_at_call 39; (with_reducible refine CD.out.mono ?_); rintro e w3 ⟨rfl, ht⟩; have HT3 := Lib.hid ht; clear ht))
  obtain ⟨F1, ⟨g', bp', bt', bs', FT', FH', e1, hF1, hi3⟩, t2, t3⟩ := HT3.out
  obtain rfl : g = g' := by injection e1
  clear e1 c0 hcmp
  have hsz := HW.out.2.2.2.2
  have nF : ∀ x, sb ≤ x → ¬ F x := fun x hx hf => by have := HFL.out x hf; omega
  have hfl3 : ∀ x, IstF g bp' FT' FH' x → F x ∨ sb + 2 ≤ x := fun x hx => by
    have := t2 x ((hF1 x).2 hx)
    rwa [hsz] at this
  have nI : ∀ x, sb ≤ x → x < sb + 2 → ¬ IstF g bp' FT' FH' x := fun x h1 h2 hx => by
    rcases hfl3 x hx with h3 | h3
    · exact nF x h1 h3
    · omega
  have hk3 := HK2.out.same (t3.block sb HK2.out.lt (nF sb (Nat.le_refl _)))
  have hq3 := HQ2.out.same (t3.block (sb + 1) HQ2.out.lt (nF (sb + 1) (by omega)))
  have hz3 : sb + 2 ≤ w3.heap.size := by rw [← hsz]; exact t3.size
  have hl3 : (dropX L k).length ≤ 10000 := Nat.le_trans (dropX_length L HLO.out.1.rise hk HLO.out.1.key) HLO.out.2.1
  have HI3 := Lib.hid hi3
  have HFL3 := Lib.hid hfl3
  have HNI := Lib.hid nI
  have HT2 := Lib.hid t3
  have HL3 := Lib.hid hl3
  have HK3 := Lib.hid hk3
  have HQ3 := Lib.hid hq3
  have HZ3 := Lib.hid hz3
  have c0 : w3.cell? ⟨g, 0, none⟩ = some (.map (some bp')) := hi3.blk.cell 0
  clear hi3 hfl3 nI t2 t3 hl3 hk3 hq3 hz3 nF hsz hF1
  refine wp_region_still_tail 6 (by kernel_rfl) (by kernel_rfl) ?_
  simp only [List.take_succ_cons, List.take_zero, List.drop_succ_cons, List.drop_zero]
  still_step
  still_step
  still_step
  still_step
  refine wpStill_load_mid rfl 29 (.tmp 4) rfl sb 0 rfl X (.struct fk) (range_of_blk (show Blk w3.drew sb 29 X.toArray from HK3.out)) HF.out.1 rfl HXS.out ?_
  refine wpStill_load_mid rfl 40 (.tmp 5) rfl (sb + 1) 0 rfl [.int .i64 p1, .int .i64 p2] (.struct fp) (range_of_blk (show Blk w3.drew (sb + 1) 40 #[.int .i64 p1, .int .i64 p2] from HQ3.out)) HF.out.2.2 rfl HPS.out ?_
  refine wpStill_nil ?_
  change wpList _ _ _ _ _ w3.drew
  refine wpList_put_g w3.drew rfl (.tmp 26) (.tmp 27) (.tmp 28) rfl okP rfl (show MapL mkP w3.drew bp' (dropX L k) from HI3.out.places.blk rfl) (by have := HL3.out; unfold maxLen; omega) k hk (show _ = Value.agg (kcs k).toArray by rw [← HXQ.out]; rfl) ((p1, p2) : Int × Int) rfl ?_
  intro w4 m1 m2 m3
  have HM4 := Lib.hid m1
  have HG4 := Lib.hid (grown_undrew m2)
  have h4 : ∀ x, x < w3.heap.size → x ≠ bp' → w4.heap[x]? = w3.heap[x]? := fun x hx hne => m2.block x hx fun e => hne (by injection e)
  have hgb : g ≠ bp' := fun e => map_ne_blk HI3.out.places HI3.out.blk e.symm
  have hz3 := HZ3.out
  have hk4 := HK3.out.same (h4 sb HK3.out.lt fun e => HNI.out sb (Nat.le_refl _) (by omega) (.inr (.inl e)))
  have hq4 := HQ3.out.same (h4 (sb + 1) HQ3.out.lt fun e => HNI.out (sb + 1) (by omega) (by omega) (.inr (.inl e)))
  have hg4 := HI3.out.blk.same (h4 g HI3.out.blk.lt hgb)
  have hT4 : Grp mkT w4.drew bt' FT' (RT (dropX L k)) := HI3.out.tw.keep fun x hx => h4 x (HI3.out.tw.lt x hx) fun e => HI3.out.far.1 (e ▸ hx)
  have HS4 := Lib.hid (show Grp mkH w4 bs' FH' (RH (dropX L k)) from HI3.out.sh.keep fun x hx => h4 x (HI3.out.sh.lt x hx) fun e => HI3.out.far.2.1 (e ▸ hx))
  have CA := Lib.hid (addS_any w4.drew bt' FT' (RT (dropX L k)) k.1 hk.1 k hk hT4 (room_rt HL3.out))
  unfold kv at CA
  rw [← HXQ.out] at CA
  have HK4 := Lib.hid hk4
  have HQ4 := Lib.hid hq4
  have HGB4 := Lib.hid hg4
  have HZ4 := Lib.hid (show w3.heap.size ≤ w4.heap.size from m2.size)
  have c1 : w4.cell? ⟨g, 1, none⟩ = some (.map (some bt')) := hg4.cell 1
  have HRS := Lib.hid (show w4.drew.rangeAt sb 0 (bv k.1) from kcs_sum hk (by rw [← HXQ.out]; exact range_of_blk (show Blk w4.drew sb 29 X.toArray from hk4)))
  clear m1 m2 m3 h4 hgb hz3 hk4 hq4 hg4 hT4 c0
  go_wp2_with fail
  refine wp_region_still_tail 7 (by kernel_rfl) (by kernel_rfl) ?_
  simp only [List.take_succ_cons, List.take_zero, List.drop_succ_cons, List.drop_zero]
  still_step
  still_step
  still_step
  still_step
  still_step
  refine wpStill_load_mid rfl 26 (.tmp 33) rfl sb 0 rfl (bv k.1) (.array fs es) HRS.out HF.out.2.1 rfl HSS.out ?_
  refine wpStill_load_mid rfl 29 (.tmp 4) rfl sb 0 rfl X (.struct fk) (range_of_blk (show Blk w4.drew sb 29 X.toArray from HK4.out)) HF.out.1 rfl HXS.out ?_
  refine wpStill_nil ?_
  change wpList _ _ _ _ _ w4.drew
  go_wp2_with (go_at_call 57; (with_reducible refine CA.out.mono ?_); rintro e w5 ⟨rfl, hq⟩; have HD5 := Lib.hid hq; clear hq)
  obtain ⟨F5, h5, s5, o5⟩ := HD5.out
  have o5 := only_undrew o5
  have hz4 := HZ4.out
  have hz3 := HZ3.out
  have nT : ∀ x, sb ≤ x → x < sb + 2 → ¬ FT' x := fun x h1 h2 hf => HNI.out x h1 h2 (.inr (.inr (.inl hf)))
  have hk5 := HK4.out.same (o5.block sb HK4.out.lt (nT sb (Nat.le_refl _) (by omega)))
  have hq5 := HQ4.out.same (o5.block (sb + 1) HQ4.out.lt (nT (sb + 1) (by omega) (by omega)))
  have hg5 := HGB4.out.same (o5.block g HGB4.out.lt (grp_ne_blk HI3.out.tw HI3.out.blk))
  have hH5 : Grp mkH w5.drew bs' FH' (RH (dropX L k)) := HS4.out.keep fun x hx => o5.block x (HS4.out.lt x hx) fun hf => HI3.out.far.2.2 x hf hx
  have CH := Lib.hid (addH_any w5.drew bs' FH' (RH (dropX L k)) p1 HLO.out.2.2.1 k hk hH5 (room_rh HL3.out))
  unfold kv at CH
  rw [← HXQ.out] at CH
  have c2 : w5.cell? ⟨g, 2, none⟩ = some (.map (some bs')) := hg5.cell 2
  have c3 : w5.cell? ⟨sb + 1, 0, none⟩ = some (.int .i64 p1) := hq5.cell 0
  have HK5 := Lib.hid hk5
  clear o5 hz4 hz3 nT hk5 hq5 hg5 hH5 c1 h5 s5
  refine wp_region_still_tail 7 (by kernel_rfl) (by kernel_rfl) ?_
  simp only [List.take_succ_cons, List.take_zero, List.drop_succ_cons, List.drop_zero]
  still_step
  still_step
  still_step
  still_step
  still_step
  still_step
  refine wpStill_load_mid rfl 29 (.tmp 4) rfl sb 0 rfl X (.struct fk) (range_of_blk (show Blk w5.drew sb 29 X.toArray from HK5.out)) HF.out.1 rfl HXS.out ?_
  refine wpStill_nil ?_
  change wpList _ _ _ _ _ w5.drew
  go_wp2_with (go_at_call 58; (with_reducible refine CH.out.mono ?_); rintro e w6 ⟨rfl, hq⟩; have HD6 := Lib.hid hq; clear hq)
  go_ret
  obtain ⟨F5, h5, s5, o5⟩ := HD5.out
  obtain ⟨F6, h6, s6, o6⟩ := HD6.out
  have o5 := only_undrew o5
  obtain ⟨r1, r2⟩ := put_done HLO.out.1 HI3.out hk HLO.out.2.2 HM4.out HG4.out h5 s5 o5 h6 s6 (only_undrew o6)
  have hz4 := HZ4.out
  have hz3 := HZ3.out
  have hz5 := o5.size
  have hw := HW.out.2.2.1
  have oA : Only F w w3 := (Only.of_below (F := F) HB.out).trans HT2.out fun x hx => .inl hx
  refine ⟨rfl, IstF g bp' F5 F6, ⟨g, bp', bt', bs', F5, F6, rfl, fun x => Iff.rfl, r1⟩, fun x hx => ?_, oA.trans r2 fun x hx => ?_⟩
  · have hy : ∀ y, IstF g bp' FT' FH' y → F y ∨ w.heap.size ≤ y := fun y hy => by
      rcases HFL3.out y hy with h | h
      · exact .inl h
      · rw [hw]; exact .inr (by omega)
    rcases hx with h | h | h | h
    · exact hy x (.inl h)
    · exact hy x (.inr (.inl h))
    · rcases s5 x h with h1 | h1
      · exact hy x (.inr (.inr (.inl h1)))
      · have h1 : w4.heap.size ≤ x := h1
        rw [hw]; exact .inr (by omega)
    · rcases s6 x h with h1 | h1
      · exact hy x (.inr (.inr (.inr h1)))
      · have h1 : w5.heap.size ≤ x := h1
        rw [hw]; exact .inr (by omega)
  · rcases HFL3.out x hx with h | h
    · exact .inl h
    · rw [hw]; exact .inr (by omega)
end Go.Proofs.YtoofhaoaogoomaaGreat
