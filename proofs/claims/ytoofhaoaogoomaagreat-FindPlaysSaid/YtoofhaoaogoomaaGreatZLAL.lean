/- Rows (api.Row) and keys (api.Key) as elements of slices of the call's own; parts of a list of rows around a key. No statement of the seat is proved here. -/
import Derived.Test.YtoofhaoaogoomaaGreatZLAF
import Derived.Test.YtoofhaoaogoomaaGreatZLAD
import Derived.Test.YtoofhaoaogoomaaGreatZLAK
import Derived.Test.YtoofhaoaogoomaaGreatIxRef
import Derived.Test.YtoofhaoaogoomaaGreatZLAC
import Derived.Test.YtoofhaoaogoomaaGreatZLAB
import Derived.Great.BuildSlice
namespace Go.Proofs.YtoofhaoaogoomaaGreat
open Go.RowKit
set_option linter.unusedVariables false
set_option linter.unusedSimpArgs false

theorem rowE : Elem Tryz.prog 60 42 35 rcs RowT.Ok :=
  ⟨Tryz.underlying60, elem_info (by kernel_rfl), by decide, by decide, fun _ h => rcs_length h, fun r v hv => by
    have := rcs_one (r := r)
    rw [Array.all_eq_true_iff_forall_mem] at this
    exact this v (by simpa using hv)⟩
/-- What stands ahead of a key, and behind it. -/
theorem parts_at {L : List RowT} (h : RowsOk L) {k : List UInt8 × Nat} (hk : KeyOk k) : L.take (under L k).length = under L k ∧ (hasX L k = true → (under L k).length < L.length ∧ L.drop ((under L k).length + 1) = over L k) ∧ (hasX L k = false → L.drop (under L k).length = over L k) := by
  rcases rise_split h.rise hk h.key with ⟨h1, h2⟩ | ⟨p, h1, _, h2⟩
  · refine ⟨?_, fun e => (by rw [h1] at e; cases e), fun _ => ?_⟩
    · have := congrArg (List.take (under L k).length) h2
      rwa [List.take_left' rfl] at this
    · have := congrArg (List.drop (under L k).length) h2
      rwa [List.drop_left' rfl] at this
  · refine ⟨?_, fun _ => ⟨?_, ?_⟩, fun e => (by rw [h1] at e; cases e)⟩
    · have := congrArg (List.take (under L k).length) h2
      rwa [List.take_left' rfl] at this
    · have := congrArg List.length h2
      rw [List.length_append, List.length_cons] at this
      omega
    · have h3 : (under L k ++ (k, p) :: over L k).drop ((under L k).length + 1) = over L k := by
        rw [← List.drop_drop, List.drop_left' rfl]; rfl
      rw [← h2] at h3
      exact h3
theorem row_places : ∃ fields, Tryz.prog.underlying 42 = some (.struct fields) ∧ fields.toList.mapM (fun f => (Tryz.prog.info? f.type).map fun i => (f.offset, i.size)) = some [(0, 33), (33, 2)] := ⟨_, Tryz.underlying42, by kernel_rfl⟩
theorem info_row : (Tryz.prog.info? 42).map (fun i => i.zero) = some (some (.agg (kcs (List.replicate 32 0, 0) ++ [Value.int .i64 0, Value.int .i64 0]).toArray)) := by kernel_rfl
set_option maxRecDepth 100000 in
theorem built_row {k : KeyT} (hk : KeyT.Ok k) (p : Int × Int) : Tryz.prog.built 42 [(0, .agg (kcs k).toArray), (1, .agg (pvs p).toArray)] = some (rcs (k, p)).toArray := by
  obtain ⟨fields, hf, hm⟩ := row_places
  have hz := info_row
  cases hi : Tryz.prog.info? 42 with
  | none => rw [hi] at hz; cases hz
  | some it =>
    rw [hi] at hz
    simp only [Option.map_some, Option.some.injEq] at hz
    have hfold : ((kcs k).toArray.zipIdx.foldl (fun cs (c, j) => cs.setIfInBounds (0 + j) c) (Value.agg (kcs (List.replicate 32 0, 0) ++ [Value.int .i64 0, Value.int .i64 0]).toArray).cells) = (kcs k ++ [Value.int .i64 0, Value.int .i64 0]).toArray := by
      have := fold_head (kcs k) [] (kcs (List.replicate 32 0, 0)) [Value.int .i64 0, Value.int .i64 0] (by rw [kcs_length hk, kcs_length ⟨by simp, by decide⟩])
      rw [← Array.foldl_toList, Array.toList_zipIdx]
      exact this
    rw [built_two (v1 := .agg (kcs k).toArray) (v2 := .agg (pvs p).toArray) (n1 := 33) (o2 := 33) (n2 := 2) (kcs k ++ [Value.int .i64 0, Value.int .i64 0]).toArray hi hf hz hm rfl rfl (by show (kcs k).toArray.size = 33; simp [kcs_length hk]) rfl (by show 33 ≤ (kcs (List.replicate 32 0, 0) ++ [Value.int .i64 0, Value.int .i64 0]).toArray.size; rw [List.size_toArray, List.length_append, kcs_length ⟨by simp, by decide⟩]; exact Nat.le_add_right _ _) hfold (by simp [kcs_length hk])]
    congr 1
    show ((kcs k ++ [Value.int .i64 0, Value.int .i64 0]).toArray.setIfInBounds (33 + 0) (.int .i64 p.1)).setIfInBounds (33 + 1) (.int .i64 p.2) = _
    rw [List.setIfInBounds_toArray, List.setIfInBounds_toArray]
    congr 1
    rw [List.set_append_right _ _ (by rw [kcs_length hk]; omega), kcs_length hk, List.set_append_right _ _ (by rw [kcs_length hk]; omega), kcs_length hk]
    rfl
end Go.Proofs.YtoofhaoaogoomaaGreat
/- The reference's index (cellarageref13): Put. No statement of the seat is proved here. -/
namespace Go.Proofs.YtoofhaoaogoomaaGreat
open Go.RowKit
set_option linter.unusedVariables false
set_option linter.unusedSimpArgs false

/-- The reference's index as a state with a footprint. -/
def Rx (w : World) (s : Addr) (F : Nat → Prop) (L : List RowT) : Prop := ∃ d A c, s = ⟨d, 0, none⟩ ∧ RIx w d A c L ∧ F d ∧ (∀ ad, A = some ad → F ad.block) ∧ ∀ g, F g → g < w.heap.size
theorem Rx.firm : Firm Rx where
  lt := fun ⟨_, _, _, _, _, _, _, h⟩ => h
  keep := fun {w w'} {s F L} ⟨d, A, c, hs, h, hd, hA, hl⟩ hk => by
    have hsz : ∀ g, F g → g < w'.heap.size := fun g hg => by
      have h1 : w.heap[g]? = some (w.heap[g]'(hl g hg)) := Array.getElem?_eq_getElem (hl g hg)
      rw [← hk g hg] at h1
      exact (Array.getElem?_eq_some_iff.1 h1).1
    refine ⟨d, A, c, hs, ⟨(hk d hd).trans h.blk, ⟨fun hn => ?_, h.rows.each⟩, h.cap, h.most, h.ok⟩, hd, hA, hsz⟩
    obtain ⟨g, off, e, hg, hc⟩ := h.rows.rows hn
    have hF := hA _ e
    refine ⟨g, off, e, hsz g hF, fun j hj i v hv => ?_⟩
    have := hc j hj i v hv
    rw [← this]
    exact World.cell?_of_block (hk g hF)
theorem rx_fin {w w2 w9 : World} {d c c9 m : Nat} {A A9 : Option Addr} {L L' : List RowT} {F : Nat → Prop} (hR : RIx w2 d A c L) (hFd : F d) (hb12 : Below w.heap.size w w2) (hok : RowsOk L') (ho : OwnG 42 35 rcs w9 w2.heap.size A9 c9 L') (hm : L'.length = m) (hb : Below w2.heap.size w2 w9) :
    Turned Rx w ⟨d, 0, none⟩ F (w9.setCell ⟨d, 0, none⟩ (.slice A9 m c9)) L' := by
  subst hm
  have hdl := hR.blk.lt
  have hbk := (hR.blk.below hb hdl).set_ 0 (.slice A9 L'.length c9)
  have ho2 : OwnG 42 35 rcs (w9.setCell ⟨d, 0, none⟩ (.slice A9 L'.length c9)) w2.heap.size A9 c9 L' := ho.grown (setCell_grown (World.grownBy.refl _ _)) fun r e e2 => by injection e with e; have := (ho.lt e2).1; omega
  have hgood : ∀ x ∈ L', RowT.Ok x := fun x hx => ⟨hok.key x hx, (hok.place x hx).1, (hok.place x hx).2⟩
  refine ⟨fun g => g = d ∨ ∃ ad, A9 = some ad ∧ ad.block = g, ⟨d, A9, c9, rfl, ⟨by simpa using hbk, ⟨ho2.rd rowE hgood, hgood⟩, ho.cap.1, ho.cap.2, hok⟩, .inl rfl, fun ad e => .inr ⟨ad, e, rfl⟩, ?_⟩, ?_, ?_⟩
  · rintro g (rfl | ⟨ad, e, rfl⟩)
    · exact hbk.lt
    · exact (ho2.adr ad e).2
  · rintro g (rfl | ⟨ad, e, rfl⟩)
    · exact .inl hFd
    · exact .inr (Nat.le_trans hb12.size (ho2.adr ad e).1)
  · exact only_trans (Only.of_below (hb12.trans (hb.mono hb12.size))) (only_grown (grown_cell w9 d 0 _) hFd)
theorem boxes {w : World} {X : List Value} {p1 p2 : Int} : ∃ w1 w2 kb pb, w.alloc (.cells X.toArray 29) = w1 ∧ w.heap.size = kb ∧ w1.alloc (.cells #[.int .i64 p1, .int .i64 p2] 40) = w2 ∧ kb + 1 = pb ∧ w1.heap.size = pb ∧ Below w.heap.size w w2 ∧ Blk w2 kb 29 X.toArray ∧ Blk w2 pb 40 #[.int .i64 p1, .int .i64 p2] := by
  refine ⟨_, _, _, _, rfl, rfl, rfl, rfl, by simp, ?_, ?_, ?_⟩
  · have h1 : Below w.heap.size w (w.alloc (.cells X.toArray 29)) := (Below.refl _ _).alloc (Nat.le_refl _) _
    exact h1.alloc h1.size _
  · have h1 := Blk.new w 29 X.toArray
    exact h1.below ((Below.refl _ _).alloc (Nat.le_refl _) _) h1.lt
  · have := Blk.new (w.alloc (.cells X.toArray 29)) 40 #[.int .i64 p1, .int .i64 p2]
    simpa using this
set_option maxRecDepth 100000 in
set_option maxHeartbeats 8000000 in
theorem rput_any (s : Addr) (F : Nat → Prop) (L : List RowT) (k : KeyT) (p : Int × Int) (w : World) (h : Rx w s F L) (hl : L.length ≤ 9000) (hk : KeyT.Ok k) (hp : PlOk p) :
    Calls Tryz.prog 36 #[.pointer (some s), kv k, pv p] w fun e w' => e = .returned (.bool (hasX L k)) ∧ Turned Rx w s F w' (putX L k p) := by
  obtain ⟨d, A, c, rfl, hR, hFd, hFA, hFl⟩ := h
  obtain ⟨pt1, pt2, pt3⟩ := parts_at hR.ok hk
  have hput : putX L k p = (under L k ++ [(k, p)]) ++ over L k := by simp [putX]
  have hokp : RowsOk (putX L k p) := hR.ok.put hk hp
  have hgood : RowT.Ok (k, p) := ⟨hk, hp.1, hp.2⟩
  obtain ⟨X, hX⟩ : ∃ X, kcs k = X := ⟨_, rfl⟩
  have hXl : X.length = 33 := by rw [← hX]; exact kcs_length hk
  have hbr := built_row hk p
  have hrc : rcs (k, p) = X ++ pvs p := by rw [← hX]; rfl
  rw [hX] at hbr
  obtain ⟨p1, p2⟩ := p
  obtain ⟨w1, w2, kb, pb, hw1, hkb, hw2, hpb, hpb2, hb12, hk2, hp2⟩ := boxes (w := w) (X := X) (p1 := p1) (p2 := p2)
  have h2 := hR.on hb12
  have KA := rat_any w2 d A c L h2 (by omega) k hk
  obtain ⟨q, hq⟩ : ∃ q, (under L k).length = q := ⟨_, rfl⟩
  obtain ⟨hs, hhs⟩ : ∃ b, hasX L k = b := ⟨_, rfl⟩
  have hul := under_length L k
  unfold kv at KA ⊢
  rw [hX, hq, hhs] at KA
  rw [hq, hhs] at pt2
  rw [hhs] at pt3
  rw [hq] at pt1 pt3 hul
  rw [hX, hhs]
  obtain ⟨n, hN⟩ : ∃ n, L.length = n := ⟨_, rfl⟩
  have hcn := hR.cap
  have hcm := hR.most
  rw [hN] at hcn hl hul pt2
  have HPT := Lib.hid (And.intro pt1 (And.intro pt2 pt3))
  have HN := Lib.hid hN
  have HX := Lib.hid (show ∀ W, Below w2.heap.size w2 W → W.rangeAt kb 0 X from fun W hW => range_of_blk (hk2.below hW hk2.lt))
  have HXS := Lib.hid (show (Tryz.prog.info? 29).map (·.size) = some X.length from by rw [hXl]; exact key_size)
  have HC := Lib.hid (show ∀ W, Below w2.heap.size w2 W → W.cell? ⟨d, 0, none⟩ = some (.slice A n c) from fun W hW => by rw [← hN]; exact (h2.blk.below hW h2.blk.lt).cell 0)
  have HCF := Lib.hid (show ∀ W, Below w2.heap.size w2 W → W.frozen? ⟨d, 0, none⟩ = false from fun W hW => (h2.blk.below hW h2.blk.lt).frozen 0)
  have HP := Lib.hid (show ∀ W, Below w2.heap.size w2 W → W.cell? ⟨pb, 0, none⟩ = some (.int .i64 p1) ∧ W.cell? ⟨pb, 1, none⟩ = some (.int .i64 p2) from fun W hW => by
    have := hp2.below hW hp2.lt
    exact ⟨this.cell 0, this.cell 1⟩)
  have HR2 := Lib.hid (show ∀ W, Below w2.heap.size w2 W → RdRw W W.heap.size A L from fun W hW => h2.rows.on hW)
  have HW := Lib.hid (And.intro hw1 (And.intro hkb (And.intro hw2 hpb)))
  have HBR := Lib.hid hbr
  have HST := Lib.hid (And.intro h2 (And.intro hFd (And.intro hb12 hput)))
  have HOK := Lib.hid (And.intro hokp (And.intro hgood hrc))
  obtain ⟨fk, hfk⟩ := key_desc
  have HF := Lib.hid hfk
  replace KA := Lib.hid KA
  obtain ⟨A2, hA2⟩ : ∃ A2 : Option Addr, (if c = q then A else A.map (·.add (q * 35))) = A2 := ⟨_, rfl⟩
  obtain ⟨A3, hA3⟩ : ∃ A3 : Option Addr, (if c = q + 1 then A else A.map (·.add ((q + 1) * 35))) = A3 := ⟨_, rfl⟩
  have HA := Lib.hid (And.intro hA2 hA3)
  unfold maxLen at hcm
  have hqn : (q : Int) ≤ (n : Int) := by omega
  have hqc : (q : Int) ≤ (c : Int) := by omega
  have hnc : (n : Int) ≤ (c : Int) := by omega
  have hcm' : (c : Int) ≤ 9223372036854775807 := by omega
  clear hq hX hXl hbr hw1 hkb hw2 hpb hb12 hk2 hp2 hR h2 pt1 pt2 pt3 hN hput hokp hgood hfk hpb2 hrc hFl hp hk hhs
  go_enter Tryz.func36, Tryz.ntmps36
  go_upto_region 1 with fail
  rw [HW.out.1, HW.out.2.1, HW.out.2.2.1, HW.out.2.2.2]
  go_wp2_with (refine wpList_load_mid rfl 29 (.tmp 4) rfl kb 0 rfl X (.struct fk) (HX.out _ (Below.refl _ _)) HF.out rfl HXS.out ?_)
  refine KA.out.mono ?_
  rintro e w3 ⟨rfl, hb3⟩
  have HB3 := Lib.hid hb3
  have HE := Lib.hid (OwnG.empty (g := rcs) (e := 42) (sz := 35) w3)
  have hb4 : Below w2.heap.size w2 (w3.alloc (.cells #[] 42)) := hb3.alloc hb3.size _
  have hc4 := HC.out _ hb4
  have HB4 := Lib.hid hb4
  clear KA hb3 hb4
  have HTQ := Lib.hid (show (L.take q).length = q by rw [List.length_take, HN.out]; omega)
  have HE4 := Lib.hid (HE.out.base (B' := w2.heap.size) HB3.out.size)
  have HRT := Lib.hid ((HR2.out _ HB4.out).take q)
  go_upto_region 3 with (at_builtin; refine wpList_append_g rowE rfl (.tmp 16) (.tmp 22) rfl w2.heap.size _ 0 0 [] rfl rfl HE4.out _ A c q (L.take q) rfl HTQ.out HRT.out.rows HRT.out.each ?_ ?_ ?_)
  case _ => omega
  case _ => exact HB4.out.size
  intro A5 c5 w5 ho hg
  have H5 := Lib.hid (show OwnG 42 35 rcs w5 w2.heap.size A5 c5 (under L k) ∧ Below w2.heap.size w2 w5 from by
    rw [HPT.out.1] at ho
    exact ⟨ho, HB4.out.grown hg HB4.out.size fun r hr => (HE4.out.lt hr).1⟩)
  obtain ⟨hp0, hp1⟩ := HP.out _ H5.out.2
  clear ho hg HE HE4 HB4 HRT hc4
  have HUL := Lib.hid (show (under L k).length = q by rw [← HPT.out.1]; exact HTQ.out)
  have hb6 : Below w2.heap.size w2 (w5.alloc (.cells (rcs (k, (p1, p2))).toArray 42)) := H5.out.2.alloc H5.out.2.size _
  have HB6 := Lib.hid hb6
  have H6 := Lib.hid (H5.out.1.on ((Below.refl w5.heap.size w5).alloc (Nat.le_refl _) (.cells (rcs (k, (p1, p2))).toArray 42)))
  have HR1 := Lib.hid (rds_one w5 (k, (p1, p2)) 42 35 rcs)
  clear hb6 HTQ
  go_upto_region 4 with (first
    | (refine wpList_load_mid rfl 29 (.tmp 4) rfl kb 0 rfl X (.struct fk) (HX.out _ H5.out.2) HF.out rfl HXS.out ?_)
    | (refine wpList_buildTo rfl 42 #[(0, Operand.tmp 25), (1, Operand.tmp 26)] rfl (some 27) rfl (rcs (k, (p1, p2))).toArray (by simp only [List.map_toArray, List.map_cons, List.map_nil]; exact HBR.out) ?_)
    | (refine wpList_buildOne rowE rfl (.tmp 27) rfl HOK.out.2.1 rfl ?_)
    | (at_builtin; refine wpList_append_g rowE rfl (.tmp 24) (.tmp 28) rfl w2.heap.size A5 c5 q (under L k) HUL.out rfl H6.out _ (some ⟨w5.heap.size, 0, none⟩) 1 1 [(k, (p1, p2))] rfl rfl HR1.out (by intro y hy; rw [List.mem_singleton.1 hy]; exact HOK.out.2.1) ?_ ?_ ?_))
  case _ => omega
  case _ => exact HB6.out.size
  intro A7 c7 w7 ho hg
  have H7 := Lib.hid (show OwnG 42 35 rcs w7 w2.heap.size A7 c7 (under L k ++ [(k, (p1, p2))]) ∧ Below w2.heap.size w2 w7 from ⟨ho, HB6.out.grown hg HB6.out.size fun r hr => (H6.out.lt (by rw [HUL.out]; exact hr)).1⟩)
  have HL7 := Lib.hid (show (under L k ++ [(k, (p1, p2))]).length = q + 1 by rw [List.length_append, HUL.out]; rfl)
  have hc7 := HC.out _ H7.out.2
  clear ho hg HR1 H6 HB6 hp0 hp1 H5
  have FIN := Lib.hid (fun A9 c9 m w9 (ho : OwnG 42 35 rcs w9 w2.heap.size A9 c9 (putX L k (p1, p2))) (hm : (putX L k (p1, p2)).length = m) hb => rx_fin (F := F) HST.out.1 HST.out.2.1 HST.out.2.2.1 HOK.out.1 ho hm hb)
  cases hs with
  | false =>
    have HD := Lib.hid (HPT.out.2.2 rfl)
    have hrd := (HR2.out _ H7.out.2).drop (k := q) (c := c) (by rw [HN.out]; exact hcn)
    rw [hA2, HD.out] at hrd
    have HRD := Lib.hid hrd
    have HDL := Lib.hid (show (over L k).length = n - (q) by rw [← HD.out, List.length_drop, HN.out])
    have HPL := Lib.hid (show (putX L k (p1, p2)).length = q + 1 + (n - (q)) by rw [HST.out.2.2.2, List.length_append, HL7.out, HDL.out])
    clear hrd
    go_wp2_with (at_builtin; refine wpList_append_g rowE rfl (.tmp 34) (.tmp 40) rfl w2.heap.size A7 c7 (q + 1) (under L k ++ [(k, (p1, p2))]) HL7.out rfl H7.out.1 _ A2 (c - q) (n - q) (over L k) rfl HDL.out HRD.out.rows HRD.out.each ?_ ?_ ?_)
    case _ => omega
    case _ => exact H7.out.2.size
    intro A9 c9 w9 ho hg
    have HB9 := Lib.hid (show Below w2.heap.size w2 w9 from H7.out.2.grown hg H7.out.2.size fun r hr => (H7.out.1.lt (by rw [HL7.out]; exact hr)).1)
    have HFN := Lib.hid (FIN.out A9 c9 _ w9 (by exact ho) HPL.out HB9.out)
    have hc9 := HC.out _ HB9.out
    have hf9 := HCF.out _ HB9.out
    clear ho hg HRD hc7
    go_wp2_with fail
    go_ret
    exact ⟨rfl, HFN.out⟩
  | true =>
    have HD := Lib.hid (HPT.out.2.1 rfl)
    have hrd := (HR2.out _ H7.out.2).drop (k := q + 1) (c := c) (by rw [HN.out]; exact hcn)
    rw [hA3, HD.out.2] at hrd
    have HRD := Lib.hid hrd
    have HDL := Lib.hid (show (over L k).length = n - (q + 1) by rw [← HD.out.2, List.length_drop, HN.out])
    have HPL := Lib.hid (show (putX L k (p1, p2)).length = q + 1 + (n - (q + 1)) by rw [HST.out.2.2.2, List.length_append, HL7.out, HDL.out])
    clear hrd
    have hq1 : q < n := HD.out.1
    have hqn1 : (q : Int) + 1 ≤ (n : Int) := by omega
    have hqc1 : (q : Int) + 1 ≤ (c : Int) := by omega
    go_wp2_with (at_builtin; refine wpList_append_g rowE rfl (.tmp 34) (.tmp 40) rfl w2.heap.size A7 c7 (q + 1) (under L k ++ [(k, (p1, p2))]) HL7.out rfl H7.out.1 _ A3 (c - (q + 1)) (n - (q + 1)) (over L k) rfl HDL.out HRD.out.rows HRD.out.each ?_ ?_ ?_)
    case _ => omega
    case _ => exact H7.out.2.size
    intro A9 c9 w9 ho hg
    have HB9 := Lib.hid (show Below w2.heap.size w2 w9 from H7.out.2.grown hg H7.out.2.size fun r hr => (H7.out.1.lt (by rw [HL7.out]; exact hr)).1)
    have HFN := Lib.hid (FIN.out A9 c9 _ w9 (by exact ho) HPL.out HB9.out)
    have hc9 := HC.out _ HB9.out
    have hf9 := HCF.out _ HB9.out
    clear ho hg HRD hc7
    go_wp2_with fail
    go_ret
    exact ⟨rfl, HFN.out⟩
end Go.Proofs.YtoofhaoaogoomaaGreat
/- Plain mathematics for package cache: tables in the order in which they were loaded. No statement of the seat is proved here; nothing of the program is imported. -/
namespace Go.Proofs.YtoofhaoaogoomaaGreat
set_option linter.unusedVariables false

/-- Room, and the tables: a shelf and its rows. -/
structure CS where
  room : Nat
  t : List (Int × List RowT)
def hasC (S : CS) (sh : Int) : Bool := S.t.any fun x => decide (x.1 = sh)
def shelvesC (S : CS) : List Int := S.t.map (·.1)
def dropC (S : CS) (sh : Int) : CS := ⟨S.room, S.t.filter fun x => !decide (x.1 = sh)⟩
def loadC (S : CS) (sh : Int) (ls : List RowT) (draw : Nat) : CS :=
  if S.room = 0 ∨ hasC S sh = true then S else ⟨S.room, (if S.t.length = S.room then S.t.eraseIdx (draw % S.t.length) else S.t) ++ [(sh, ls)]⟩
/-- The first row with that key. -/
def findC (S : CS) (k : List UInt8 × Nat) : Option RowT := S.t.findSome? fun x => x.2.find? fun r => decide (r.1 = k)
def knowsC (S : CS) (k : List UInt8 × Nat) : Bool := (findC S k).isSome
def getC (S : CS) (k : List UInt8 × Nat) : Int × Int := match findC S k with
  | some r => r.2
  | none => (0, 0)
def In64C (x : Int) : Prop := -9223372036854775808 ≤ x ∧ x ≤ 9223372036854775807
structure RowOkC (r : RowT) : Prop where
  key : KeyOk r.1
  shelf : In64C r.2.1
  slot : In64C r.2.2
structure CS.Ok (S : CS) : Prop where
  room : S.room ≤ 4096
  len : S.t.length ≤ S.room
  once : (shelvesC S).Nodup
  shelf : ∀ x ∈ S.t, In64C x.1
  rows : ∀ x ∈ S.t, x.2.length ≤ 1000 ∧ ∀ r ∈ x.2, RowOkC r
theorem hasC_iff {S : CS} {sh : Int} : hasC S sh = true ↔ sh ∈ shelvesC S := by
  unfold hasC shelvesC
  rw [List.any_eq_true, List.mem_map]
  constructor
  · rintro ⟨x, hx, h⟩
    exact ⟨x, hx, by simpa using h⟩
  · rintro ⟨x, hx, h⟩
    exact ⟨x, hx, by simpa using h⟩
theorem CS.Ok.new {n : Nat} (h : n ≤ 4096) : CS.Ok ⟨n, []⟩ := ⟨h, Nat.zero_le _, List.nodup_nil, by simp, by simp⟩
theorem CS.Ok.drop {S : CS} (h : S.Ok) (sh : Int) : (dropC S sh).Ok :=
  ⟨h.room, Nat.le_trans (List.length_filter_le _ _) h.len, by
    unfold shelvesC dropC
    exact List.Nodup.sublist (List.Sublist.map _ List.filter_sublist) h.once, fun x hx => h.shelf x ((List.mem_filter.1 hx).1), fun x hx => h.rows x ((List.mem_filter.1 hx).1)⟩
theorem CS.Ok.load {S : CS} (h : S.Ok) {sh : Int} (hs : In64C sh) {ls : List RowT} (hl : ls.length ≤ 1000 ∧ ∀ r ∈ ls, RowOkC r) (draw : Nat) : (loadC S sh ls draw).Ok := by
  unfold loadC
  split
  · exact h
  · rename_i hc
    rw [not_or] at hc
    obtain ⟨h0, hn⟩ := hc
    have hn' : sh ∉ shelvesC S := fun hm => hn (hasC_iff.2 hm)
    have key : ∀ M : List (Int × List RowT), M.Sublist S.t → M.length < S.room → CS.Ok ⟨S.room, M ++ [(sh, ls)]⟩ := fun M hM hlt => by
      refine ⟨h.room, by simp; omega, ?_, fun x hx => ?_, fun x hx => ?_⟩
      · unfold shelvesC
        rw [List.map_append, List.nodup_append]
        refine ⟨List.Nodup.sublist (hM.map _) h.once, by simp, fun a ha b hb e => ?_⟩
        have : b = sh := by simpa using hb
        subst this
        exact hn' (e ▸ (hM.map Prod.fst).subset ha)
      · rcases List.mem_append.1 hx with hx | hx
        · exact h.shelf x (hM.subset hx)
        · rw [List.mem_singleton.1 hx]; exact hs
      · rcases List.mem_append.1 hx with hx | hx
        · exact h.rows x (hM.subset hx)
        · rw [List.mem_singleton.1 hx]; exact hl
    have hlen := h.len
    split
    · rename_i he
      refine key _ (List.eraseIdx_sublist _ _) ?_
      rw [List.length_eraseIdx]
      split
      · omega
      · rename_i hx
        exact absurd (Nat.mod_lt _ (by omega)) hx
    · exact key _ (List.Sublist.refl _) (by omega)
theorem loadC_had {S : CS} {sh : Int} (h : hasC S sh = true) (ls : List RowT) (draw : Nat) : loadC S sh ls draw = S := by
  unfold loadC
  rw [if_pos (.inr h)]
theorem loadC_new {S : CS} {sh : Int} (h0 : S.room ≠ 0) (h : hasC S sh = false) (ls : List RowT) (draw : Nat) : loadC S sh ls draw = ⟨S.room, (if S.t.length = S.room then S.t.eraseIdx (draw % S.t.length) else S.t) ++ [(sh, ls)]⟩ := by
  unfold loadC
  rw [if_neg (by rw [h]; simp [h0])]
theorem loadC_room (S : CS) (sh : Int) (ls : List RowT) (draw : Nat) : (loadC S sh ls draw).room = S.room := by
  unfold loadC
  split <;> rfl
theorem loadC_has {S : CS} {sh : Int} (h0 : S.room ≠ 0) (ls : List RowT) (draw : Nat) : hasC (loadC S sh ls draw) sh = true := by
  by_cases h : hasC S sh = true
  · rw [loadC_had h]; exact h
  · rw [loadC_new h0 (by simpa using h), hasC_iff]
    unfold shelvesC
    simp
theorem shelves_len (S : CS) : (shelvesC S).length = S.t.length := by simp [shelvesC]
theorem drop_has (S : CS) (sh : Int) : hasC (dropC S sh) sh = false := by
  rw [Bool.eq_false_iff]
  intro h
  rw [hasC_iff] at h
  unfold shelvesC dropC at h
  rw [List.mem_map] at h
  obtain ⟨x, hx, e⟩ := h
  rw [List.mem_filter] at hx
  simp [e] at hx
end Go.Proofs.YtoofhaoaogoomaaGreat
/- Integers as elements of slices of the call's own. No statement of the seat is proved here. -/
namespace Go.Proofs.YtoofhaoaogoomaaGreat
open Go.RowKit
set_option linter.unusedVariables false
set_option linter.unusedSimpArgs false

abbrev i1 (x : Int) : List Value := [.int .i64 x]
theorem intE : Elem Tryz.prog 98 3 1 i1 (fun _ => True) :=
  ⟨Tryz.underlying98, elem_info (by kernel_rfl), by decide, by decide, fun _ _ => rfl, fun x v hv => by rw [List.mem_singleton.1 hv]; rfl⟩
theorem flat_i1 (l : List Int) : l.flatMap i1 = iv l := by
  unfold i1 iv
  induction l with
  | nil => rfl
  | cons x l ih => rw [List.flatMap_cons, ih]; rfl
theorem OwnG.rdv {w : World} {B c : Nat} {A : Option Addr} {l : List Int} (h : OwnG 3 1 i1 w B A c l) : RdV w w.heap.size A (iv l) := fun h0 => by
  have h1 := h.rd intE (fun _ _ => trivial)
  obtain ⟨g, off, e, hg, hc⟩ := h1 (by simpa [iv] using h0)
  refine ⟨g, off, e, hg, fun j hj => ?_⟩
  have hj' : j < l.length := by simpa [iv] using hj
  have := hc j (by simpa using hj') 0 (.int .i64 l[j]) (by simp [i1])
  rw [Nat.mul_one, Nat.add_zero] at this
  rw [this]
  simp [iv]
theorem rds_of_rdv {w : World} {B : Nat} {A : Option Addr} {l : List Int} (h : RdV w B A (iv l)) : RdS w B 1 A (l.map i1) := fun h0 => by
  have h0' : 0 < l.length := by simpa using h0
  obtain ⟨g, off, e, hg, hc⟩ := h (by simpa [iv] using h0')
  refine ⟨g, off, e, hg, fun j hj i v hv => ?_⟩
  have hj' : j < l.length := by simpa using hj
  simp only [List.getElem_map, i1] at hv
  cases i with
  | zero =>
    simp at hv
    subst hv
    have := hc j (by simpa [iv] using hj')
    rw [Nat.mul_one, Nat.add_zero, this]
    simp [iv]
  | succ i => simp at hv
/-- '[]int{x}'. -/
theorem rds_int (w : World) (x : Int) : RdS (w.alloc (.cells #[.int .i64 x] 3)) (w.alloc (.cells #[.int .i64 x] 3)).heap.size 1 (some ⟨w.heap.size, 0, none⟩) ([x].map i1) := rds_one w x 3 1 i1
end Go.Proofs.YtoofhaoaogoomaaGreat
/- What the cache's two sides share: blocks told apart, rows cut out, the mathematics of drop. No statement of the seat is proved here. -/
namespace Go.Proofs.YtoofhaoaogoomaaGreat
open Go.RowKit
set_option linter.unusedVariables false
set_option linter.unusedSimpArgs false
section
variable {α : Type} {w w' : World} {e : TypeId} {sz : Nat} {g : α → List Value} {B c n : Nat} {A : Option Addr} {l : List α}
theorem own_adr (k : Nat) (h : (Value.slice A n c).ownBlock = some k) : ∃ ad, A = some ad ∧ ad.block = k := by
  rcases A with _ | ad
  · simp [Value.ownBlock] at h
  · exact ⟨ad, rfl, by simpa [Value.ownBlock] using h⟩
theorem OwnG.same (h : OwnG e sz g w B A c l) (hk : ∀ ad, A = some ad → w'.heap[ad.block]? = w.heap[ad.block]?) : OwnG e sz g w' B A c l := ownsRow_same h fun k hv _ => by
  obtain ⟨ad, e1, e2⟩ := own_adr k hv
  rw [← e2]
  exact hk ad e1
/-- A block of the slice's own is of its elements' type. -/
theorem OwnG.kind (h : OwnG e sz g w B A c l) {k : Nat} (hk : (Value.slice A l.length c).ownBlock = some k) : ∃ cur, Blk w k e cur := by
  obtain ⟨_, cur, hb, _⟩ := row_blk h k hk
  exact ⟨cur, hb⟩
theorem OwnG.apart {β : Type} {e2 : TypeId} {sz2 : Nat} {g2 : β → List Value} {B2 c2 : Nat} {A2 : Option Addr} {l2 : List β} (h : OwnG e sz g w B A c l) (h2 : OwnG e2 sz2 g2 w B2 A2 c2 l2) (hne : e ≠ e2) {k : Nat} (hk : (Value.slice A l.length c).ownBlock = some k) : (Value.slice A2 l2.length c2).ownBlock ≠ some k := fun hk2 => by
  obtain ⟨_, b1⟩ := h.kind hk
  obtain ⟨_, b2⟩ := h2.kind hk2
  exact blk_other b1 b2 hne rfl
end
theorem eraseIdx_map {α β : Type} (f : α → β) : ∀ (l : List α) (k : Nat), (l.eraseIdx k).map f = (l.map f).eraseIdx k
  | [], _ => rfl
  | x :: l, 0 => rfl
  | x :: l, k + 1 => by simp [eraseIdx_map f l k]
theorem cut_list {α : Type} (l : List α) (k : Nat) : l.take k ++ l.drop (k + 1) = l.eraseIdx k := (List.eraseIdx_eq_take_drop_succ l k).symm
theorem CS.Ok.cut {S : CS} (h : S.Ok) (k : Nat) : CS.Ok ⟨S.room, S.t.eraseIdx k⟩ :=
  ⟨h.room, Nat.le_trans (List.length_eraseIdx_le _ _) h.len, (h.once.sublist ((List.eraseIdx_sublist _ _).map _)), fun x hx => h.shelf x (List.mem_of_mem_eraseIdx hx), fun x hx => h.rows x (List.mem_of_mem_eraseIdx hx)⟩
theorem drop_cut {S : CS} (h : S.Ok) {k : Nat} (hk : k < S.t.length) : dropC S S.t[k].1 = ⟨S.room, S.t.eraseIdx k⟩ := by
  obtain ⟨room, t⟩ := S
  have hn : (t.map (·.1)).Nodup := h.once
  unfold dropC
  congr 1
  show t.filter (fun x => !decide (x.1 = t[k].1)) = t.eraseIdx k
  clear h
  induction t generalizing k with
  | nil => simp at hk
  | cons x t ih =>
    rw [List.map_cons, List.nodup_cons] at hn
    cases k with
    | zero =>
      have h1 : ∀ y ∈ t, ¬ y.1 = x.1 := fun y hy e => hn.1 (List.mem_map.2 ⟨y, hy, e⟩)
      simp only [List.getElem_cons_zero, List.eraseIdx_cons_zero]
      rw [List.filter_cons_of_neg (by simp)]
      exact List.filter_eq_self.2 fun y hy => by simpa using h1 y hy
    | succ k =>
      have hk' : k < t.length := by simpa using hk
      simp only [List.getElem_cons_succ, List.eraseIdx_cons_succ]
      have h1 : ¬ x.1 = t[k].1 := fun e => hn.1 (List.mem_map.2 ⟨t[k], List.getElem_mem hk', e.symm⟩)
      rw [List.filter_cons_of_pos (by simpa using h1), ih hk' hn.2]
theorem hasC_no {S : CS} {sh : Int} (h : ∀ j (hj : j < S.t.length), S.t[j].1 ≠ sh) : hasC S sh = false := by
  rw [Bool.eq_false_iff]
  intro hh
  rw [hasC_iff] at hh
  unfold shelvesC at hh
  obtain ⟨x, hx, e⟩ := List.mem_map.1 hh
  obtain ⟨j, hj, rfl⟩ := List.mem_iff_getElem.1 hx
  exact h j hj e
theorem hasC_yes {S : CS} {j : Nat} (hj : j < S.t.length) : hasC S S.t[j].1 = true := by
  rw [hasC_iff]
  exact List.mem_map.2 ⟨_, List.getElem_mem hj, rfl⟩
theorem dropC_no {S : CS} {sh : Int} (h : hasC S sh = false) : dropC S sh = S := by
  obtain ⟨room, t⟩ := S
  unfold dropC
  congr 1
  refine List.filter_eq_self.2 fun y hy => ?_
  have : ¬ y.1 = sh := fun e => by
    rw [Bool.eq_false_iff] at h
    exact h (by rw [hasC_iff]; exact List.mem_map.2 ⟨y, hy, e⟩)
  simpa using this
end Go.Proofs.YtoofhaoaogoomaaGreat
