/- The reference's index (cellarageref13): Put. No statement of the seat is proved here. -/
import Derived.Test.YteieaindejcfbaaIxRef
import Derived.Test.YteieaindejcfbaaIxRows
import Derived.Test.YteieaindejcfbaaResRow
import Derived.Test.YteieaindejcfbaaSameK
import Derived.Test.YteieaindejcfbaaAllocZ
import Derived.Test.YteieaindejcfbaaMidWant
import Derived.Great.BuildSlice
import Derived.Deep.WholeRow
import Derived.Deep.QuietTactic
import Derived.BigQuiet
namespace Go.Proofs.Yteieaindejcfbaa
open Go.RowKit
set_option linter.unusedVariables false
set_option linter.unusedSimpArgs false

/-- The reference's index as a state with a footprint. -/
def Rx (w : World) (s : Addr) (F : Nat → Prop) (L : List RowT) : Prop := ∃ d A c, s = ⟨d, 0, none⟩ ∧ RIx w d A c L ∧ F d ∧ (∀ ad, A = some ad → F ad.block) ∧ ∀ g, F g → g < w.heap.size
theorem Rx.firm : Firm Rx where
  lt := fun ⟨_, _, _, _, _, _, _, h⟩ => h
  keep := fun {w w'} {s F L} ⟨d, A, c, hs, h, hd, hA, hl⟩ hk => by
    have hsz : ∀ g, F g → g < w'.heap.size := fun g hg => by
      have h1 : w.heap[g]? = some (w.heap[g]'(hl g hg)) := Array.getElem?_eq_getElem (hl g hg)
      rw [← hk g hg] at h1
      exact (Array.getElem?_eq_some_iff.1 h1).1
    refine ⟨d, A, c, hs, ⟨(hk d hd).trans h.blk, ⟨fun hn => ?_, h.rows.each⟩, h.cap, h.most, h.ok⟩, hd, hA, hsz⟩
    obtain ⟨g, off, e, hg, hc⟩ := h.rows.rows hn
    have hF := hA _ e
    refine ⟨g, off, e, hsz g hF, fun j hj i v hv => ?_⟩
    have := hc j hj i v hv
    rw [← this]
    exact World.cell?_of_block (hk g hF)
theorem rx_fin {w w2 w9 : World} {d c c9 m : Nat} {A A9 : Option Addr} {L L' : List RowT} {F : Nat → Prop} (hR : RIx w2 d A c L) (hFd : F d) (hb12 : Below w.heap.size w w2) (hok : RowsOk L') (ho : OwnG 39 35 rcs w9 w2.heap.size A9 c9 L') (hm : L'.length = m) (hb : Below w2.heap.size w2 w9) :
    Turned Rx w ⟨d, 0, none⟩ F (w9.setCell ⟨d, 0, none⟩ (.slice A9 m c9)) L' := by
  subst hm
  have hdl := hR.blk.lt
  have hbk := (hR.blk.below hb hdl).set_ 0 (.slice A9 L'.length c9)
  have ho2 : OwnG 39 35 rcs (w9.setCell ⟨d, 0, none⟩ (.slice A9 L'.length c9)) w2.heap.size A9 c9 L' := ho.grown (setCell_grown (World.grownBy.refl _ _)) fun r e e2 => by injection e with e; have := (ho.lt e2).1; omega
  have hgood : ∀ x ∈ L', RowT.Ok x := fun x hx => ⟨hok.key x hx, (hok.place x hx).1, (hok.place x hx).2⟩
  refine ⟨fun g => g = d ∨ ∃ ad, A9 = some ad ∧ ad.block = g, ⟨d, A9, c9, rfl, ⟨by simpa using hbk, ⟨ho2.rd rowE hgood, hgood⟩, ho.cap.1, ho.cap.2, hok⟩, .inl rfl, fun ad e => .inr ⟨ad, e, rfl⟩, ?_⟩, ?_, ?_⟩
  · rintro g (rfl | ⟨ad, e, rfl⟩)
    · exact hbk.lt
    · exact (ho2.adr ad e).2
  · rintro g (rfl | ⟨ad, e, rfl⟩)
    · exact .inl hFd
    · exact .inr (Nat.le_trans hb12.size (ho2.adr ad e).1)
  · exact only_trans (Only.of_below (hb12.trans (hb.mono hb12.size))) (only_grown (grown_cell w9 d 0 _) hFd)
theorem boxes {w : World} {X : List Value} {p1 p2 : Int} : ∃ w1 w2 kb pb, w.alloc (.cells X.toArray 27) = w1 ∧ w.heap.size = kb ∧ w1.alloc (.cells #[.int .i64 p1, .int .i64 p2] 37) = w2 ∧ kb + 1 = pb ∧ w1.heap.size = pb ∧ Below w.heap.size w w2 ∧ Blk w2 kb 27 X.toArray ∧ Blk w2 pb 37 #[.int .i64 p1, .int .i64 p2] := by
  refine ⟨_, _, _, _, rfl, rfl, rfl, rfl, by simp, ?_, ?_, ?_⟩
  · have h1 : Below w.heap.size w (w.alloc (.cells X.toArray 27)) := (Below.refl _ _).alloc (Nat.le_refl _) _
    exact h1.alloc h1.size _
  · have h1 := Blk.new w 27 X.toArray
    exact h1.below ((Below.refl _ _).alloc (Nat.le_refl _) _) h1.lt
  · have := Blk.new (w.alloc (.cells X.toArray 27)) 37 #[.int .i64 p1, .int .i64 p2]
    simpa using this
set_option maxRecDepth 100000 in
set_option maxHeartbeats 8000000 in
theorem rput_any (s : Addr) (F : Nat → Prop) (L : List RowT) (k : KeyT) (p : Int × Int) (w : World) (h : Rx w s F L) (hl : L.length ≤ 9000) (hk : KeyT.Ok k) (hp : PlOk p) :
    Calls Try.prog 14 #[.pointer (some s), kv k, pv p] w fun e w' => e = .returned (.bool (hasX L k)) ∧ Turned Rx w s F w' (putX L k p) := by
  obtain ⟨d, A, c, rfl, hR, hFd, hFA, hFl⟩ := h
  obtain ⟨pt1, pt2, pt3⟩ := parts_at hR.ok hk
  have hput : putX L k p = (under L k ++ [(k, p)]) ++ over L k := by simp [putX]
  have hokp : RowsOk (putX L k p) := hR.ok.put hk hp
  have hgood : RowT.Ok (k, p) := ⟨hk, hp.1, hp.2⟩
  obtain ⟨X, hX⟩ : ∃ X, kcs k = X := ⟨_, rfl⟩
  have hXl : X.length = 33 := by rw [← hX]; exact kcs_length hk
  have hbr := built_row hk p
  have hrc : rcs (k, p) = X ++ pvs p := by rw [← hX]; rfl
  rw [hX] at hbr
  obtain ⟨p1, p2⟩ := p
  obtain ⟨w1, w2, kb, pb, hw1, hkb, hw2, hpb, hpb2, hb12, hk2, hp2⟩ := boxes (w := w) (X := X) (p1 := p1) (p2 := p2)
  have h2 := hR.on hb12
  have KA := rat_any w2 d A c L h2 (by omega) k hk
  obtain ⟨q, hq⟩ : ∃ q, (under L k).length = q := ⟨_, rfl⟩
  obtain ⟨hs, hhs⟩ : ∃ b, hasX L k = b := ⟨_, rfl⟩
  have hul := under_length L k
  unfold kv at KA ⊢
  rw [hX, hq, hhs] at KA
  rw [hq, hhs] at pt2
  rw [hhs] at pt3
  rw [hq] at pt1 pt3 hul
  rw [hX, hhs]
  obtain ⟨n, hN⟩ : ∃ n, L.length = n := ⟨_, rfl⟩
  have hcn := hR.cap
  have hcm := hR.most
  rw [hN] at hcn hl hul pt2
  have HPT := Lib.hid (And.intro pt1 (And.intro pt2 pt3))
  have HN := Lib.hid hN
  have HX := Lib.hid (show ∀ W, Below w2.heap.size w2 W → W.rangeAt kb 0 X from fun W hW => range_of_blk (hk2.below hW hk2.lt))
  have HXS := Lib.hid (show (Try.prog.info? 27).map (·.size) = some X.length from by rw [hXl]; exact key_size)
  have HC := Lib.hid (show ∀ W, Below w2.heap.size w2 W → W.cell? ⟨d, 0, none⟩ = some (.slice A n c) from fun W hW => by rw [← hN]; exact (h2.blk.below hW h2.blk.lt).cell 0)
  have HCF := Lib.hid (show ∀ W, Below w2.heap.size w2 W → W.frozen? ⟨d, 0, none⟩ = false from fun W hW => (h2.blk.below hW h2.blk.lt).frozen 0)
  have HP := Lib.hid (show ∀ W, Below w2.heap.size w2 W → W.cell? ⟨pb, 0, none⟩ = some (.int .i64 p1) ∧ W.cell? ⟨pb, 1, none⟩ = some (.int .i64 p2) from fun W hW => by
    have := hp2.below hW hp2.lt
    exact ⟨this.cell 0, this.cell 1⟩)
  have HR2 := Lib.hid (show ∀ W, Below w2.heap.size w2 W → RdRw W W.heap.size A L from fun W hW => h2.rows.on hW)
  have HW := Lib.hid (And.intro hw1 (And.intro hkb (And.intro hw2 hpb)))
  have HBR := Lib.hid hbr
  have HST := Lib.hid (And.intro h2 (And.intro hFd (And.intro hb12 hput)))
  have HOK := Lib.hid (And.intro hokp (And.intro hgood hrc))
  obtain ⟨fk, hfk⟩ := key_desc
  have HF := Lib.hid hfk
  replace KA := Lib.hid KA
  obtain ⟨A2, hA2⟩ : ∃ A2 : Option Addr, (if c = q then A else A.map (·.add (q * 35))) = A2 := ⟨_, rfl⟩
  obtain ⟨A3, hA3⟩ : ∃ A3 : Option Addr, (if c = q + 1 then A else A.map (·.add ((q + 1) * 35))) = A3 := ⟨_, rfl⟩
  have HA := Lib.hid (And.intro hA2 hA3)
  unfold maxLen at hcm
  have hqn : (q : Int) ≤ (n : Int) := by omega
  have hqc : (q : Int) ≤ (c : Int) := by omega
  have hnc : (n : Int) ≤ (c : Int) := by omega
  have hcm' : (c : Int) ≤ 9223372036854775807 := by omega
  clear hq hX hXl hbr hw1 hkb hw2 hpb hb12 hk2 hp2 hR h2 pt1 pt2 pt3 hN hput hokp hgood hfk hpb2 hrc hFl hp hk hhs
  go_enter Try.func14, Try.ntmps14
  go_upto_region 1 with fail
  rw [HW.out.1, HW.out.2.1, HW.out.2.2.1, HW.out.2.2.2]
  go_wp2_with (refine wpList_load_mid rfl 27 (.tmp 4) rfl kb 0 rfl X (.struct fk) (HX.out _ (Below.refl _ _)) HF.out rfl HXS.out ?_)
  refine KA.out.mono ?_
  rintro e w3 ⟨rfl, hb3⟩
  have HB3 := Lib.hid hb3
  have HE := Lib.hid (OwnG.empty (g := rcs) (e := 39) (sz := 35) w3)
  have hb4 : Below w2.heap.size w2 (w3.alloc (.cells #[] 39)) := hb3.alloc hb3.size _
  have hc4 := HC.out _ hb4
  have HB4 := Lib.hid hb4
  clear KA hb3 hb4
  have HTQ := Lib.hid (show (L.take q).length = q by rw [List.length_take, HN.out]; omega)
  have HE4 := Lib.hid (HE.out.base (B' := w2.heap.size) HB3.out.size)
  have HRT := Lib.hid ((HR2.out _ HB4.out).take q)
  go_upto_region 3 with (at_builtin; refine wpList_append_g rowE rfl (.tmp 16) (.tmp 22) rfl w2.heap.size _ 0 0 [] rfl rfl HE4.out _ A c q (L.take q) rfl HTQ.out HRT.out.rows HRT.out.each ?_ ?_ ?_)
  case _ => omega
  case _ => exact HB4.out.size
  intro A5 c5 w5 ho hg
  have H5 := Lib.hid (show OwnG 39 35 rcs w5 w2.heap.size A5 c5 (under L k) ∧ Below w2.heap.size w2 w5 from by
    rw [HPT.out.1] at ho
    exact ⟨ho, HB4.out.grown hg HB4.out.size fun r hr => (HE4.out.lt hr).1⟩)
  obtain ⟨hp0, hp1⟩ := HP.out _ H5.out.2
  clear ho hg HE HE4 HB4 HRT hc4
  have HUL := Lib.hid (show (under L k).length = q by rw [← HPT.out.1]; exact HTQ.out)
  have hb6 : Below w2.heap.size w2 (w5.alloc (.cells (rcs (k, (p1, p2))).toArray 39)) := H5.out.2.alloc H5.out.2.size _
  have HB6 := Lib.hid hb6
  have H6 := Lib.hid (H5.out.1.on ((Below.refl w5.heap.size w5).alloc (Nat.le_refl _) (.cells (rcs (k, (p1, p2))).toArray 39)))
  have HR1 := Lib.hid (rds_one w5 (k, (p1, p2)) 39 35 rcs)
  clear hb6 HTQ
  go_upto_region 4 with (first
    | (refine wpList_load_mid rfl 27 (.tmp 4) rfl kb 0 rfl X (.struct fk) (HX.out _ H5.out.2) HF.out rfl HXS.out ?_)
    | (refine wpList_buildTo rfl 39 #[(0, Operand.tmp 25), (1, Operand.tmp 26)] rfl (some 27) rfl (rcs (k, (p1, p2))).toArray (by simp only [List.map_toArray, List.map_cons, List.map_nil]; exact HBR.out) ?_)
    | (refine wpList_buildOne rowE rfl (.tmp 27) rfl HOK.out.2.1 rfl ?_)
    | (at_builtin; refine wpList_append_g rowE rfl (.tmp 24) (.tmp 28) rfl w2.heap.size A5 c5 q (under L k) HUL.out rfl H6.out _ (some ⟨w5.heap.size, 0, none⟩) 1 1 [(k, (p1, p2))] rfl rfl HR1.out (by intro y hy; rw [List.mem_singleton.1 hy]; exact HOK.out.2.1) ?_ ?_ ?_))
  case _ => omega
  case _ => exact HB6.out.size
  intro A7 c7 w7 ho hg
  have H7 := Lib.hid (show OwnG 39 35 rcs w7 w2.heap.size A7 c7 (under L k ++ [(k, (p1, p2))]) ∧ Below w2.heap.size w2 w7 from ⟨ho, HB6.out.grown hg HB6.out.size fun r hr => (H6.out.lt (by rw [HUL.out]; exact hr)).1⟩)
  have HL7 := Lib.hid (show (under L k ++ [(k, (p1, p2))]).length = q + 1 by rw [List.length_append, HUL.out]; rfl)
  have hc7 := HC.out _ H7.out.2
  clear ho hg HR1 H6 HB6 hp0 hp1 H5
  have FIN := Lib.hid (fun A9 c9 m w9 (ho : OwnG 39 35 rcs w9 w2.heap.size A9 c9 (putX L k (p1, p2))) (hm : (putX L k (p1, p2)).length = m) hb => rx_fin (F := F) HST.out.1 HST.out.2.1 HST.out.2.2.1 HOK.out.1 ho hm hb)
  cases hs with
  | false =>
    have HD := Lib.hid (HPT.out.2.2 rfl)
    have hrd := (HR2.out _ H7.out.2).drop (k := q) (c := c) (by rw [HN.out]; exact hcn)
    rw [hA2, HD.out] at hrd
    have HRD := Lib.hid hrd
    have HDL := Lib.hid (show (over L k).length = n - (q) by rw [← HD.out, List.length_drop, HN.out])
    have HPL := Lib.hid (show (putX L k (p1, p2)).length = q + 1 + (n - (q)) by rw [HST.out.2.2.2, List.length_append, HL7.out, HDL.out])
    clear hrd
    go_wp2_with (at_builtin; refine wpList_append_g rowE rfl (.tmp 34) (.tmp 40) rfl w2.heap.size A7 c7 (q + 1) (under L k ++ [(k, (p1, p2))]) HL7.out rfl H7.out.1 _ A2 (c - q) (n - q) (over L k) rfl HDL.out HRD.out.rows HRD.out.each ?_ ?_ ?_)
    case _ => omega
    case _ => exact H7.out.2.size
    intro A9 c9 w9 ho hg
    have HB9 := Lib.hid (show Below w2.heap.size w2 w9 from H7.out.2.grown hg H7.out.2.size fun r hr => (H7.out.1.lt (by rw [HL7.out]; exact hr)).1)
    have HFN := Lib.hid (FIN.out A9 c9 _ w9 (by exact ho) HPL.out HB9.out)
    have hc9 := HC.out _ HB9.out
    have hf9 := HCF.out _ HB9.out
    clear ho hg HRD hc7
    go_wp2_with fail
    go_ret
    exact ⟨rfl, HFN.out⟩
  | true =>
    have HD := Lib.hid (HPT.out.2.1 rfl)
    have hrd := (HR2.out _ H7.out.2).drop (k := q + 1) (c := c) (by rw [HN.out]; exact hcn)
    rw [hA3, HD.out.2] at hrd
    have HRD := Lib.hid hrd
    have HDL := Lib.hid (show (over L k).length = n - (q + 1) by rw [← HD.out.2, List.length_drop, HN.out])
    have HPL := Lib.hid (show (putX L k (p1, p2)).length = q + 1 + (n - (q + 1)) by rw [HST.out.2.2.2, List.length_append, HL7.out, HDL.out])
    clear hrd
    have hq1 : q < n := HD.out.1
    have hqn1 : (q : Int) + 1 ≤ (n : Int) := by omega
    have hqc1 : (q : Int) + 1 ≤ (c : Int) := by omega
    go_wp2_with (at_builtin; refine wpList_append_g rowE rfl (.tmp 34) (.tmp 40) rfl w2.heap.size A7 c7 (q + 1) (under L k ++ [(k, (p1, p2))]) HL7.out rfl H7.out.1 _ A3 (c - (q + 1)) (n - (q + 1)) (over L k) rfl HDL.out HRD.out.rows HRD.out.each ?_ ?_ ?_)
    case _ => omega
    case _ => exact H7.out.2.size
    intro A9 c9 w9 ho hg
    have HB9 := Lib.hid (show Below w2.heap.size w2 w9 from H7.out.2.grown hg H7.out.2.size fun r hr => (H7.out.1.lt (by rw [HL7.out]; exact hr)).1)
    have HFN := Lib.hid (FIN.out A9 c9 _ w9 (by exact ho) HPL.out HB9.out)
    have hc9 := HC.out _ HB9.out
    have hf9 := HCF.out _ HB9.out
    clear ho hg HRD hc7
    go_wp2_with fail
    go_ret
    exact ⟨rfl, HFN.out⟩
end Go.Proofs.Yteieaindejcfbaa
/- The reference's index (cellarageref13): Drop, Get. No statement of the seat is proved here. -/
namespace Go.Proofs.Yteieaindejcfbaa
open Go.RowKit
set_option linter.unusedVariables false
set_option linter.unusedSimpArgs false

theorem drop_same {L : List RowT} (h : RowsOk L) {k : List UInt8 × Nat} (hk : KeyOk k) (hn : hasX L k = false) : dropX L k = L := by
  rcases rise_split h.rise hk h.key with ⟨_, h2⟩ | ⟨p, h1, _, _⟩
  · exact h2.symm
  · rw [hn] at h1; cases h1
set_option maxRecDepth 100000 in
set_option maxHeartbeats 8000000 in
theorem rdrop_any (s : Addr) (F : Nat → Prop) (L : List RowT) (k : KeyT) (w : World) (h : Rx w s F L) (hl : L.length ≤ 9000) (hk : KeyT.Ok k) :
    Calls Try.prog 12 #[.pointer (some s), kv k] w fun e w' => e = .returned (.bool (hasX L k)) ∧ Turned Rx w s F w' (dropX L k) := by
  have HH := Lib.hid h
  obtain ⟨d, A, c, rfl, hR, hFd, hFA, hFl⟩ := h
  obtain ⟨pt1, pt2, pt3⟩ := parts_at hR.ok hk
  have hdrop : dropX L k = under L k ++ over L k := rfl
  have hokp : RowsOk (dropX L k) := hR.ok.drop k
  have HSAME := Lib.hid (fun e : hasX L k = false => drop_same hR.ok hk e)
  obtain ⟨X, hX⟩ : ∃ X, kcs k = X := ⟨_, rfl⟩
  have hXl : X.length = 33 := by rw [← hX]; exact kcs_length hk
  obtain ⟨w2, hw2⟩ : ∃ w2, w.alloc (.cells X.toArray 27) = w2 := ⟨_, rfl⟩
  obtain ⟨kb, hkb⟩ : ∃ kb, w.heap.size = kb := ⟨_, rfl⟩
  have hb12 : Below w.heap.size w w2 := hw2 ▸ (Below.refl _ _).alloc (Nat.le_refl _) _
  have hk2 : Blk w2 kb 27 X.toArray := by rw [← hw2, ← hkb]; exact Blk.new w _ _
  have h2 := hR.on hb12
  have KA := rat_any w2 d A c L h2 (by omega) k hk
  obtain ⟨q, hq⟩ : ∃ q, (under L k).length = q := ⟨_, rfl⟩
  obtain ⟨hs, hhs⟩ : ∃ b, hasX L k = b := ⟨_, rfl⟩
  have hul := under_length L k
  unfold kv at KA ⊢
  rw [hX, hq, hhs] at KA
  rw [hq, hhs] at pt2
  rw [hhs] at pt3 HSAME
  rw [hq] at pt1 pt3 hul
  rw [hX, hhs]
  obtain ⟨n, hN⟩ : ∃ n, L.length = n := ⟨_, rfl⟩
  have hcn := hR.cap
  have hcm := hR.most
  rw [hN] at hcn hl hul pt2
  have HPT := Lib.hid (And.intro pt1 (And.intro pt2 pt3))
  have HN := Lib.hid hN
  have HX := Lib.hid (show ∀ W, Below w2.heap.size w2 W → W.rangeAt kb 0 X from fun W hW => range_of_blk (hk2.below hW hk2.lt))
  have HXS := Lib.hid (show (Try.prog.info? 27).map (·.size) = some X.length from by rw [hXl]; exact key_size)
  have HC := Lib.hid (show ∀ W, Below w2.heap.size w2 W → W.cell? ⟨d, 0, none⟩ = some (.slice A n c) from fun W hW => by rw [← hN]; exact (h2.blk.below hW h2.blk.lt).cell 0)
  have HCF := Lib.hid (show ∀ W, Below w2.heap.size w2 W → W.frozen? ⟨d, 0, none⟩ = false from fun W hW => (h2.blk.below hW h2.blk.lt).frozen 0)
  have HR2 := Lib.hid (show ∀ W, Below w2.heap.size w2 W → RdRw W W.heap.size A L from fun W hW => h2.rows.on hW)
  have HW := Lib.hid (And.intro hw2 hkb)
  have HST := Lib.hid (And.intro h2 (And.intro hFd (And.intro hb12 hdrop)))
  have HOK := Lib.hid hokp
  obtain ⟨fk, hfk⟩ := key_desc
  have HF := Lib.hid hfk
  replace KA := Lib.hid KA
  obtain ⟨A3, hA3⟩ : ∃ A3 : Option Addr, (if c = q + 1 then A else A.map (·.add ((q + 1) * 35))) = A3 := ⟨_, rfl⟩
  have HA := Lib.hid hA3
  unfold maxLen at hcm
  have hqn : (q : Int) ≤ (n : Int) := by omega
  have hqc : (q : Int) ≤ (c : Int) := by omega
  have hnc : (n : Int) ≤ (c : Int) := by omega
  have hcm' : (c : Int) ≤ 9223372036854775807 := by omega
  clear hq hX hXl hw2 hkb hb12 hk2 hR h2 pt1 pt2 pt3 hN hdrop hokp hfk hFl hk hhs
  go_enter Try.func12, Try.ntmps12
  go_upto_region 1 with fail
  rw [HW.out.1, HW.out.2]
  go_wp2_with (refine wpList_load_mid rfl 27 (.tmp 3) rfl kb 0 rfl X (.struct fk) (HX.out _ (Below.refl _ _)) HF.out rfl HXS.out ?_)
  refine KA.out.mono ?_
  rintro e w3 ⟨rfl, hb3⟩
  have HB3 := Lib.hid hb3
  cases hs with
  | false =>
    have HT := Lib.hid (show Turned Rx w ⟨d, 0, none⟩ F w3 (dropX L k) by
      rw [HSAME.out rfl]
      exact Rx.firm.on (Turned.refl HH.out) (HST.out.2.2.1.trans (hb3.mono HST.out.2.2.1.size)))
    clear KA hb3
    go_wp2_with fail
    go_ret
    exact ⟨rfl, HT.out⟩
  | true =>
    have HE := Lib.hid (OwnG.empty (g := rcs) (e := 39) (sz := 35) w3)
    have hb4 : Below w2.heap.size w2 (w3.alloc (.cells #[] 39)) := hb3.alloc hb3.size _
    have hc4 := HC.out _ hb4
    have HB4 := Lib.hid hb4
    clear KA hb3 hb4
    have HTQ := Lib.hid (show (L.take q).length = q by rw [List.length_take, HN.out]; omega)
    have HE4 := Lib.hid (HE.out.base (B' := w2.heap.size) HB3.out.size)
    have HRT := Lib.hid ((HR2.out _ HB4.out).take q)
    go_upto_region 4 with (at_builtin; refine wpList_append_g rowE rfl (.tmp 15) (.tmp 21) rfl w2.heap.size _ 0 0 [] rfl rfl HE4.out _ A c q (L.take q) rfl HTQ.out HRT.out.rows HRT.out.each ?_ ?_ ?_)
    case _ => omega
    case _ => exact HB4.out.size
    intro A7 c7 w7 ho hg
    have H7 := Lib.hid (show OwnG 39 35 rcs w7 w2.heap.size A7 c7 (under L k) ∧ Below w2.heap.size w2 w7 from by
      rw [HPT.out.1] at ho
      exact ⟨ho, HB4.out.grown hg HB4.out.size fun r hr => (HE4.out.lt hr).1⟩)
    have HL7 := Lib.hid (show (under L k).length = q by rw [← HPT.out.1]; exact HTQ.out)
    have hc7 := HC.out _ H7.out.2
    clear ho hg HE HE4 HB4 HRT hc4
    have HD := Lib.hid (HPT.out.2.1 (by trivial))
    have hrd := (HR2.out _ H7.out.2).drop (k := q + 1) (c := c) (by rw [HN.out]; exact hcn)
    rw [hA3, HD.out.2] at hrd
    have HRD := Lib.hid hrd
    have HDL := Lib.hid (show (over L k).length = n - (q + 1) by rw [← HD.out.2, List.length_drop, HN.out])
    have HPL := Lib.hid (show (dropX L k).length = q + (n - (q + 1)) by rw [HST.out.2.2.2, List.length_append, HL7.out, HDL.out])
    clear hrd
    have hq1 : q < n := HD.out.1
    have hqn1 : (q : Int) + 1 ≤ (n : Int) := by omega
    have hqc1 : (q : Int) + 1 ≤ (c : Int) := by omega
    go_wp2_with (at_builtin; refine wpList_append_g rowE rfl (.tmp 24) (.tmp 31) rfl w2.heap.size A7 c7 q (under L k) HL7.out rfl H7.out.1 _ A3 (c - (q + 1)) (n - (q + 1)) (over L k) rfl HDL.out HRD.out.rows HRD.out.each ?_ ?_ ?_)
    case _ => omega
    case _ => exact H7.out.2.size
    intro A9 c9 w9 ho hg
    have HB9 := Lib.hid (show Below w2.heap.size w2 w9 from H7.out.2.grown hg H7.out.2.size fun r hr => (H7.out.1.lt (by rw [HL7.out]; exact hr)).1)
    have HFN := Lib.hid (rx_fin (F := F) HST.out.1 HST.out.2.1 HST.out.2.2.1 HOK.out (by exact ho) HPL.out HB9.out)
    have hc9 := HC.out _ HB9.out
    have hf9 := HCF.out _ HB9.out
    clear ho hg HRD hc7
    go_wp2_with fail
    go_ret
    exact ⟨rfl, HFN.out⟩
end Go.Proofs.Yteieaindejcfbaa
/- The reference's index (cellarageref13): Get. No statement of the seat is proved here. -/
namespace Go.Proofs.Yteieaindejcfbaa
open Go.RowKit
set_option linter.unusedVariables false
set_option linter.unusedSimpArgs false

set_option maxRecDepth 100000 in
set_option maxHeartbeats 8000000 in
theorem rget_any (w : World) (d : Nat) (A : Option Addr) (c : Nat) (L : List RowT) (h : RIx w d A c L) (hl : L.length ≤ 10000) (k : KeyT) (hk : KeyT.Ok k) :
    Calls Try.prog 16 #[.pointer (some ⟨d, 0, none⟩), kv k] w fun e w' => e = .returned (.tuple #[pv (getX L k), .bool (hasX L k)]) ∧ Below w.heap.size w w' := by
  obtain ⟨X, hX⟩ : ∃ X, kcs k = X := ⟨_, rfl⟩
  have hXl : X.length = 33 := by rw [← hX]; exact kcs_length hk
  obtain ⟨w1, hw1⟩ : ∃ w1, w.alloc (.cells X.toArray 27) = w1 := ⟨_, rfl⟩
  obtain ⟨kb, hkb⟩ : ∃ kb, w.heap.size = kb := ⟨_, rfl⟩
  have hb1 : Below w.heap.size w w1 := hw1 ▸ (Below.refl _ _).alloc (Nat.le_refl _) _
  have hk1 : Blk w1 kb 27 X.toArray := by rw [← hw1, ← hkb]; exact Blk.new w _ _
  obtain ⟨w2, hw2⟩ : ∃ w2, w1.alloc (.cells #[.int .i64 0, .int .i64 0] 37) = w2 := ⟨_, rfl⟩
  obtain ⟨pb, hpb⟩ : ∃ pb, w1.heap.size = pb := ⟨_, rfl⟩
  have hb2 : Below w1.heap.size w1 w2 := hw2 ▸ (Below.refl _ _).alloc (Nat.le_refl _) _
  have hk2 : Blk w2 pb 37 #[.int .i64 0, .int .i64 0] := by rw [← hw2, ← hpb]; exact Blk.new w1 _ _
  have hb12 := hb1.trans (hb2.mono hb1.size)
  have h2 := h.on hb12
  have KA := rat_any w2 d A c L h2 hl k hk
  obtain ⟨q, hq⟩ : ∃ q, (under L k).length = q := ⟨_, rfl⟩
  have HG := Lib.hid (show hasX L k = true → ∃ hqx : q < L.length, L[q].2 = getX L k from fun e => by
    obtain ⟨M, hM, hn, hh⟩ := at_split h.ok hk
    obtain ⟨s1, s2⟩ := at_stop hM hn hh
    have hul := under_length L k
    rw [hq] at s1 s2 hul
    by_cases hqx : q < L.length
    · refine ⟨hqx, ?_⟩
      have h1 := (s2 hqx).2
      rw [e] at h1
      have h2 := of_decide_eq_true h1.symm
      have h3 := get_mem h.ok.rise (List.getElem_mem hqx)
      rw [h2] at h3
      exact h3.symm
    · have := s1 (by omega)
      rw [this] at e; cases e)
  have HZ := Lib.hid (show hasX L k = false → getX L k = (0, 0) from fun e => by
    unfold getX
    rw [List.find?_eq_none.2 fun x hx hd => ?_]
    unfold hasX at e
    rw [List.any_eq_false] at e
    exact e x hx hd)
  obtain ⟨hs, hhs⟩ : ∃ b, hasX L k = b := ⟨_, rfl⟩
  obtain ⟨p1, hp1⟩ : ∃ p1, (getX L k).1 = p1 := ⟨_, rfl⟩
  obtain ⟨p2, hp2⟩ : ∃ p2, (getX L k).2 = p2 := ⟨_, rfl⟩
  have epv : pv (getX L k) = .agg #[.int .i64 p1, .int .i64 p2] := by rw [← hp1, ← hp2]
  have hgp : getX L k = (p1, p2) := by rw [← hp1, ← hp2]
  unfold kv at KA ⊢
  rw [hX, hq, hhs] at KA
  rw [hhs] at HG HZ
  rw [hgp] at HG HZ
  rw [hX, hhs, epv]
  have HX := Lib.hid (range_of_blk (hk1.below hb2 hk1.lt))
  have HXS := Lib.hid (show (Try.prog.info? 27).map (·.size) = some X.length from by rw [hXl]; exact key_size)
  have HP2S := Lib.hid (show (Try.prog.info? 37).map (·.size) = some ([.int .i64 p1, .int .i64 p2] : List Value).length from place_size)
  have HP2A := Lib.hid (show (Try.prog.info? 37).map (·.size) = some (#[.int .i64 p1, .int .i64 p2] : Array Value).size from place_size)
  have HB := Lib.hid hb12
  have HR := Lib.hid h2
  have HW := Lib.hid (And.intro (And.intro hw1 hkb) (And.intro hw2 (show kb + 1 = pb by rw [← hkb, ← hpb, ← hw1]; simp)))
  have HPB := Lib.hid (And.intro hk2 (show w.heap.size ≤ pb from by rw [← hpb]; exact hb1.size))
  replace KA := Lib.hid KA
  have hcm := h.most
  have hcn := h.cap
  unfold maxLen at hcm
  obtain ⟨n, hN⟩ : ∃ n, L.length = n := ⟨_, rfl⟩
  have HN := Lib.hid hN
  rw [hN] at hcn
  have HC := Lib.hid (show ∀ W, Below w2.heap.size w2 W → W.cell? ⟨d, 0, none⟩ = some (.slice A n c) from fun W hW => by rw [← hN]; exact (h2.blk.below hW h2.blk.lt).cell 0)
  obtain ⟨fs, hfs⟩ := key_desc
  obtain ⟨fp, hfp⟩ := place_desc
  have HF := Lib.hid (And.intro hfs hfp)
  clear h h2 hq hN hhs hX hXl hw1 hkb hb1 hk1 hw2 hpb hb2 hk2 hb12 hfs hfp hk epv hgp hp1 hp2
  go_enter Try.func16, Try.ntmps16
  go_upto_region 1 with fail
  rw [HW.out.1.1, HW.out.1.2, HW.out.2.1, HW.out.2.2]
  go_wp2_with (refine wpList_load_mid rfl 27 (.tmp 3) rfl kb 0 rfl X (.struct fs) HX.out HF.out.1 rfl HXS.out ?_)
  refine KA.out.mono ?_
  rintro e w3 ⟨rfl, hb3⟩
  have hpk := HPB.out.1.below hb3 HPB.out.1.lt
  have HPK := Lib.hid hpk
  have hcc := HC.out w3 hb3
  have HRW := Lib.hid (HR.out.rows.below hb3)
  have HB3 := Lib.hid (HB.out.trans (hb3.mono HB.out.size))
  clear KA hb3 hpk
  have k0 := HPK.out.cell 0
  have k1 := HPK.out.cell 1
  have f0 := HPK.out.frozen 0
  have f1 := HPK.out.frozen 1
  have HFIN := Lib.hid (show ∀ v0 v1 : Value, Blk ((w3.setCell ⟨pb, 0, none⟩ v0).setCell ⟨pb, 1, none⟩ v1) pb 37 #[v0, v1] ∧ Below w.heap.size w ((w3.setCell ⟨pb, 0, none⟩ v0).setCell ⟨pb, 1, none⟩ v1) from fun v0 v1 => by
    refine ⟨?_, ?_⟩
    · have := (HPK.out.set_ 0 v0).set_ 1 v1
      simpa using this
    · have h1 : Below w.heap.size w (w3.setCell ⟨pb, 0, none⟩ v0) := HB3.out.grown (grown_cell w3 pb 0 v0) HB3.out.size fun r hr => by injection hr with hr; have := HPB.out.2; omega
      exact h1.grown (grown_cell _ pb 1 v1) h1.size fun r hr => by injection hr with hr; have := HPB.out.2; omega)
  cases hs with
  | false =>
    have hz := HZ.out (by trivial)
    injection hz with z1 z2
    subst z1 z2
    go_wp2_with fail
    (try simp only [Exit.inBlock, Exit.then])
    refine bodyPost_ret (v := .tuple #[.agg #[.int .i64 0, .int .i64 0], .bool false]) ?_ rfl ⟨rfl, (HFIN.out _ _).2⟩
    exact res_row_tmpB rfl _ _ pb 37 _ (0, 0) _ rfl (HFIN.out _ _).1 HF.out.2 rfl HP2A.out _ rfl
  | true =>
    obtain ⟨hqx, hgq⟩ := HG.out (by trivial)
    obtain ⟨g, off, hA, hg, hra, hok⟩ := HRW.out.at_ hqx
    have hrp := range_place hok hra
    rw [hgq] at hrp
    have HRP := Lib.hid hrp
    subst hA
    have hqn : q < n := by rw [← HN.out]; exact hqx
    have hi1 : (0 : Int) ≤ (q : Int) := by omega
    have hi2 : (q : Int) < (n : Int) := by omega
    clear hra hok hrp hg hqx hgq
    go_wp2_with (refine wpList_load_mid rfl 37 (.tmp 23) rfl g (off + q * 35 + 33) rfl [.int .i64 p1, .int .i64 p2] (.struct fp) HRP.out HF.out.2 rfl HP2S.out ?_)
    (try simp only [Exit.inBlock, Exit.then])
    refine bodyPost_ret (v := .tuple #[.agg #[.int .i64 p1, .int .i64 p2], .bool true]) ?_ rfl ⟨rfl, (HFIN.out _ _).2⟩
    exact res_row_tmpB rfl _ _ pb 37 _ (0, 0) _ rfl (HFIN.out _ _).1 HF.out.2 rfl HP2A.out _ rfl
end Go.Proofs.Yteieaindejcfbaa
/- The reference's index (cellarageref13): Twins. No statement of the seat is proved here. -/
namespace Go.Proofs.Yteieaindejcfbaa
open Go.RowKit Go.Maps Go.Sort
set_option linter.unusedVariables false
set_option linter.unusedSimpArgs false

theorem sum_eqX {a b : List UInt8} (ha : a.length = 32) (hb : b.length = 32) (w : World) : (Op.equal 24 (.agg (bv a).toArray) (.agg (bv b).toArray)).run Try.prog w = .ok (decide (a = b)) w := by
  obtain ⟨i, hi⟩ : ∃ i, Try.prog.info? 5 = some i := by
    cases h : Try.prog.info? 5 with
    | some i => exact ⟨i, rfl⟩
    | none => exact absurd h (by decide +kernel)
  exact run_equal_bytes (P := Try.prog) Try.underlying24 Try.underlying5 hi (by kernel_rfl) a b ha hb w
theorem sum_guardX : Try.prog.eqGuardType Try.prog.depth 24 = false := by kernel_rfl
theorem sum_descX : ∃ n e, Try.prog.underlying 24 = some (.array n e) := ⟨_, _, Try.underlying24⟩
theorem sum_sizeX : (Try.prog.info? 24).map (·.size) = some 32 := by kernel_rfl
theorem run_load_rows {W : World} {ad : Addr} {v : Value} (h : W.cell? ad = some v) : (loadVar 32 ad).run Try.prog W = .ok v W := by
  have hu := Try.underlying32
  simp [loadVar, isAgg, go_sem, h, hu]
theorem twins_step {L : List RowT} {j : Nat} (hj : j < L.length) (d : List UInt8) : twinsX (L.take (j + 1)) d = twinsX (L.take j) d ++ if L[j].1.1 = d then [L[j].1] else [] := by
  unfold twinsX
  rw [List.take_succ_eq_append_getElem hj, List.filter_append, List.map_append]
  congr 1
  by_cases h : L[j].1.1 = d <;> simp [h]
set_option maxRecDepth 100000 in
set_option maxHeartbeats 8000000 in
theorem rtwins_any (w : World) (d : Nat) (A : Option Addr) (c : Nat) (L : List RowT) (h : RIx w d A c L) (hl : L.length ≤ 9000) (D : List UInt8) (hD : D.length = 32) :
    Calls Try.prog 19 #[.pointer (some ⟨d, 0, none⟩), .agg (bv D).toArray] w fun e w' => ∃ A' c', e = .returned (.slice A' (twinsX L D).length c') ∧ RdK w' w'.heap.size A' (twinsX L D) ∧ Below w.heap.size w w' := by
  obtain ⟨w1, hw1⟩ : ∃ w1, w.alloc (.cells (bv D).toArray 24) = w1 := ⟨_, rfl⟩
  obtain ⟨kb, hkb⟩ : ∃ kb, w.heap.size = kb := ⟨_, rfl⟩
  have hb1 : Below w.heap.size w w1 := hw1 ▸ (Below.refl _ _).alloc (Nat.le_refl _) _
  have hk1 : Blk w1 kb 24 (bv D).toArray := by rw [← hw1, ← hkb]; exact Blk.new w _ _
  have h1 := h.on hb1
  obtain ⟨n, hN⟩ : ∃ n, L.length = n := ⟨_, rfl⟩
  have hcn := h.cap
  have hcm := h.most
  rw [hN] at hcn hl
  have HN := Lib.hid hN
  have HX := Lib.hid (show ∀ W, Below w1.heap.size w1 W → W.rangeAt kb 0 (bv D) from fun W hW => range_of_blk (hk1.below hW hk1.lt))
  have HXS := Lib.hid (show (Try.prog.info? 24).map (·.size) = some (bv D).length from by rw [bv_length, hD]; exact sum_sizeX)
  have HC := Lib.hid (show ∀ W, Below w1.heap.size w1 W → W.cell? ⟨d, 0, none⟩ = some (.slice A n c) ∧ d < W.heap.size ∧ kb < W.heap.size from fun W hW => ⟨by rw [← hN]; exact (h1.blk.below hW h1.blk.lt).cell 0, Nat.lt_of_lt_of_le h1.blk.lt hW.size, Nat.lt_of_lt_of_le hk1.lt hW.size⟩)
  have HR := Lib.hid (show ∀ W, Below w1.heap.size w1 W → RdRw W W.heap.size A L from fun W hW => h1.rows.on hW)
  have HW := Lib.hid (And.intro hw1 (And.intro hkb hb1))
  have HD := Lib.hid hD
  obtain ⟨fk, hfk⟩ := key_desc
  obtain ⟨sn, se, hsd⟩ := sum_descX
  have HF := Lib.hid (And.intro hfk hsd)
  have eqg := sum_guardX
  unfold maxLen at hcm
  have hnc : (n : Int) ≤ (c : Int) := by omega
  have hcm' : (c : Int) ≤ 9223372036854775807 := by omega
  have h9 : ∀ x ∈ L, RowT.Ok x := h.rows.each
  have H9 := Lib.hid h9
  clear hw1 hkb hb1 hk1 h1 h hN hD hfk hsd h9
  go_enter Try.func19, Try.ntmps19
  go_upto_region 1 with fail
  rw [HW.out.1, HW.out.2.1]
  go_wp2_with fail
  go_loopw [5, 6] (fun v i wr => ∃ (j m : Nat) (Y : Option Addr) (z : Nat), j ≤ n ∧ i = .int .i64 j ∧ v = .slice Y m z ∧ m ≤ j ∧ Hid ((twinsX (L.take j) D).length = m) ∧ Hid (OwnG 27 33 kcs wr w1.heap.size Y z (twinsX (L.take j) D)) ∧ Hid (Below w1.heap.size w1 wr)) (fun _ i _ => n - (intOf i).toNat)
  case atStart => exact ⟨0, 0, none, 0, Nat.zero_le _, rfl, rfl, Nat.le_refl _, Lib.hid rfl, Lib.hid (OwnG.nil _ _), Lib.hid (Below.refl _ _)⟩
  case round =>
    obtain ⟨j, m, Y, z, hj, rfl, rfl, hm, HM, HO, HB⟩ := hrel
    obtain ⟨hcc, hdl, hkl⟩ := HC.out _ HB.out
    by_cases hlt : j < n
    · have hjl : j < L.length := by rw [HN.out]; exact hlt
      obtain ⟨g, off, rfl, hg, hra, hok⟩ := (HR.out _ HB.out).at_ hjl
      have HST := Lib.hid (twins_step hjl D)
      obtain ⟨x, hx⟩ : ∃ x, L[j] = x := ⟨_, rfl⟩
      rw [hx] at hra hok HST
      have hrs : wr.rangeAt g (off + j * 35) (bv x.1.1) := fun i v hv => range_key hra i v (by unfold kcs; rw [List.getElem?_append_left (List.getElem?_eq_some_iff.1 hv).1]; exact hv)
      have HRK := Lib.hid (range_key hra)
      have HSS := Lib.hid (show (Try.prog.info? 24).map (·.size) = some (bv x.1.1).length from by rw [bv_length, hok.key.1]; exact sum_sizeX)
      have HKS := Lib.hid (show (Try.prog.info? 27).map (·.size) = some (kcs x.1).length from by rw [kcs_length hok.key]; exact key_size)
      have R1 := Lib.hid (range_baseK (w := wr) (b := g) (off := off + j * 35) (cs := bv x.1.1) fun W hW => fun t v hv => by rw [hW.cell (p := ⟨g, off + j * 35 + t, none⟩) hg]; exact hrs t v hv)
      have R2 := Lib.hid (range_baseK (w := wr) (b := kb) (off := 0) (cs := bv D) fun W hW => fun t v hv => by rw [hW.cell (p := ⟨kb, 0 + t, none⟩) hkl]; exact HX.out _ HB.out t v hv)
      have R3 := Lib.hid (show ∀ W, (∃ p : Regrown, W = grow (redrawn wr p.d) p.os) → W.cell? ⟨d, 0, none⟩ = some (.slice (some ⟨g, off, none⟩) n c) from fun W hW => by
        obtain ⟨p, rfl⟩ := hW
        rw [(below_regrown wr p.d p.os).cell hdl]
        exact hcc)
      obtain ⟨r, hre⟩ : ∃ r, decide (x.1.1 = D) = r := ⟨_, rfl⟩
      have QE := Lib.hid (show ∀ W, (Op.equal 24 (.agg (bv x.1.1).toArray) (.agg (bv D).toArray)).run Try.prog W = .ok r W from fun W => by rw [sum_eqX hok.key.1 HD.out W, hre])
      have HRE := Lib.hid hre
      have HOK := Lib.hid hok
      have HJL := Lib.hid hx
      have hi1 : (0 : Int) ≤ (j : Int) := by omega
      have hi2 : (j : Int) < (n : Int) := by omega
      clear hra hok hre hrs hx hg
      go_upto_region 5 with fail
      refine wp_region_quiet_below (by kernel_rfl) (by kernel_rfl) ?_
      repeat (first
        | (go_big_quiet_want; refine quiet_load_any 32 (.tmp 18) rfl ⟨d, 0, none⟩ rfl (.slice (some ⟨g, off, none⟩) n c) (fun W hW => run_load_rows (R3.out W hW)) (by simp only [Act.put, List.setIfInBounds_toArray, List.set_cons_succ, List.set_cons_zero]; rfl) ?_; go_big_quiet_on)
        | (go_big_quiet_want; refine quiet_load_mid 24 (.tmp 23) rfl g (off + j * 35) rfl (bv x.1.1) (.array sn se) R1.out HF.out.2 rfl HSS.out (by simp only [Act.put, List.setIfInBounds_toArray, List.set_cons_succ, List.set_cons_zero]; rfl) ?_; go_big_quiet_on)
        | (go_big_quiet_want; refine quiet_load_mid 24 (.tmp 3) rfl kb 0 rfl (bv D) (.array sn se) R2.out HF.out.2 rfl HXS.out (by simp only [Act.put, List.setIfInBounds_toArray, List.set_cons_succ, List.set_cons_zero]; rfl) ?_; go_big_quiet_on)
        | (go_big_quiet_want; refine quiet_eql_row 24 24 (.tmp 24) (.tmp 25) rfl (bv x.1.1).toArray (bv D).toArray rfl rfl eqg r QE.out (by simp only [Act.put, List.setIfInBounds_toArray, List.set_cons_succ, List.set_cons_zero]; rfl) ?_; go_big_quiet_on)
        | go_big_quiet_step (fail))
      refine wpQuiet_nil ?_
      intro _ hw'
      obtain ⟨⟨dq, osq⟩, hw''⟩ := hw'
      subst hw''
      have hbq := below_regrown wr dq osq
      have HBQ := Lib.hid (HB.out.trans (hbq.mono HB.out.size))
      have HOQ := Lib.hid (HO.out.on hbq)
      have HRQ := Lib.hid (show (Go.Sort.grow (redrawn wr dq) osq).rangeAt g (off + j * 35) (kcs x.1) from fun t v hv => by
        obtain ⟨g2, off2, e2, hg2, hr2, _⟩ := (HR.out _ HB.out).at_ hjl
        injection e2 with e2
        injection e2 with e3 e4 _
        subst e3 e4
        rw [hbq.cell (p := ⟨g, off + j * 35 + t, none⟩) hg2]
        exact HRK.out t v hv)
      obtain ⟨hcq, _, _⟩ := HC.out _ HBQ.out
      clear R1 R2 R3 hcc hbq HO HB HRK
      generalize Go.Sort.grow (redrawn wr dq) osq = wq at *
      cases r with
      | false =>
        have HST2 := Lib.hid (show twinsX (L.take (j + 1)) D = twinsX (L.take j) D by rw [HST.out, if_neg (of_decide_eq_false HRE.out), List.append_nil])
        go_wp2_with fail
        go_roundw
        case rel => exact ⟨j + 1, m, Y, z, by omega, by go_num, rfl, by omega, Lib.hid (by rw [HST2.out]; exact HM.out), Lib.hid (by rw [HST2.out]; exact HOQ.out), HBQ⟩
        case measure => simp [intOf]; omega
      | true =>
        have HST2 := Lib.hid (show twinsX (L.take (j + 1)) D = twinsX (L.take j) D ++ [x.1] by rw [HST.out, if_pos (of_decide_eq_true HRE.out)])
        have hb6 : Below w1.heap.size w1 (wq.alloc (.cells (kcs x.1).toArray 27)) := HBQ.out.alloc HBQ.out.size _
        have HB6 := Lib.hid hb6
        have H6 := Lib.hid (HOQ.out.on ((Below.refl wq.heap.size wq).alloc (Nat.le_refl _) (.cells (kcs x.1).toArray 27)))
        have HR1 := Lib.hid (rds_one wq x.1 27 33 kcs)
        clear hb6
        go_wp2_with (first
          | (refine wpList_load_mid rfl 27 (.tmp 34) rfl g (off + j * 35) rfl (kcs x.1) (.struct fk) HRQ.out HF.out.1 rfl HKS.out ?_)
          | (refine wpList_buildOne keyE rfl (.tmp 35) rfl HOK.out.key rfl ?_)
          | (at_builtin; refine wpList_append_g keyE rfl (.tmp 27) (.tmp 36) rfl w1.heap.size Y z m (twinsX (L.take j) D) HM.out rfl H6.out _ (some ⟨wq.heap.size, 0, none⟩) 1 1 [x.1] rfl rfl HR1.out (by intro y hy; rw [List.mem_singleton.1 hy]; exact HOK.out.key) ?_ ?_ ?_))
        case _ => omega
        case _ => exact HB6.out.size
        intro Y7 z7 w7 ho hg7
        have H7 := Lib.hid (show OwnG 27 33 kcs w7 w1.heap.size Y7 z7 (twinsX (L.take (j + 1)) D) ∧ Below w1.heap.size w1 w7 from ⟨by rw [HST2.out]; exact ho, HB6.out.grown hg7 HB6.out.size fun r hr => (H6.out.lt (by rw [HM.out]; exact hr)).1⟩)
        have HM7 := Lib.hid (show (twinsX (L.take (j + 1)) D).length = m + 1 by rw [HST2.out, List.length_append, HM.out]; rfl)
        clear ho hg7 HR1 H6 HB6 HRQ hcq
        go_wp2_with fail
        go_roundw
        case rel => exact ⟨j + 1, m + 1, Y7, z7, by omega, by go_num, rfl, by omega, HM7, Lib.hid H7.out.1, Lib.hid H7.out.2⟩
        case measure => simp [intOf]; omega
    · obtain rfl : j = n := by omega
      have HE := Lib.hid (show L.take j = L from List.take_of_length_le (by rw [HN.out]; exact Nat.le_refl _))
      go_wp2_with fail
      go_ret
      have hm := HM.out
      have ho := HO.out
      rw [HE.out] at hm ho
      have hk : ∀ y ∈ twinsX L D, KeyT.Ok y := fun y hy => by
        obtain ⟨_, p, hp⟩ := mem_twinsX.1 hy
        exact (H9.out _ hp).key
      exact ⟨Y, z, by rw [hm]; rfl, ⟨ho.rd keyE hk, hk⟩, HW.out.2.2.trans (HB.out.mono HW.out.2.2.size)⟩
end Go.Proofs.Yteieaindejcfbaa
/- The reference's index (cellarageref13): Shelf. No statement of the seat is proved here. -/
namespace Go.Proofs.Yteieaindejcfbaa
open Go.RowKit Go.Maps Go.Sort
set_option linter.unusedVariables false
set_option linter.unusedSimpArgs false

theorem shelf_step {L : List RowT} {j : Nat} (hj : j < L.length) (at_ : Int) : shelfX (L.take (j + 1)) at_ = if L[j].2.1 = at_ then insS (shelfX (L.take j) at_) L[j] else shelfX (L.take j) at_ := by
  unfold shelfX
  rw [List.take_succ_eq_append_getElem hj, List.filter_append, List.foldl_append]
  by_cases h : L[j].2.1 = at_ <;> simp [h]
/-- Where a row goes among rows by their slots. -/
def pos (l : List RowT) (r : RowT) : Nat := (l.takeWhile (fun x => decide (x.2.2 ≤ r.2.2))).length
theorem pos_le (l : List RowT) (r : RowT) : pos l r ≤ l.length := by
  unfold pos
  exact (List.takeWhile_sublist _).length_le
theorem pos_under {l : List RowT} {r : RowT} {p : Nat} (h : p < pos l r) (hp : p < l.length) : l[p].2.2 ≤ r.2.2 := by
  induction l generalizing p with
  | nil => simp at hp
  | cons x l ih =>
    unfold pos at h
    rw [List.takeWhile_cons] at h
    split at h
    · rename_i hx
      cases p with
      | zero => simpa using hx
      | succ p =>
        simp only [List.getElem_cons_succ]
        exact ih (by unfold pos; simpa using h) (by simpa using hp)
    · simp at h
theorem pos_at {l : List RowT} {r : RowT} (hp : pos l r < l.length) : ¬ l[pos l r].2.2 ≤ r.2.2 := by
  induction l with
  | nil => simp at hp
  | cons x l ih =>
    by_cases hx : x.2.2 ≤ r.2.2
    · have e : pos (x :: l) r = pos l r + 1 := by unfold pos; rw [List.takeWhile_cons, if_pos (by simpa using hx)]; rfl
      have hp' : pos l r < l.length := by rw [e] at hp; simpa using hp
      have := ih hp'
      simp only [e, List.getElem_cons_succ]
      exact this
    · have e : pos (x :: l) r = 0 := by unfold pos; rw [List.takeWhile_cons, if_neg (by simpa using hx)]; rfl
      simp only [e, List.getElem_cons_zero]
      exact hx
theorem insS_pos (l : List RowT) (r : RowT) : insS l r = l.take (pos l r) ++ [r] ++ l.drop (pos l r) := by
  unfold insS
  have k1 : ∀ a b : List RowT, (a ++ b).take a.length = a := fun a b => List.take_left' rfl
  have k2 : ∀ a b : List RowT, (a ++ b).drop a.length = b := fun a b => List.drop_left' rfl
  have h1 := k1 (l.takeWhile (fun x => decide (x.2.2 ≤ r.2.2))) (l.dropWhile (fun x => decide (x.2.2 ≤ r.2.2)))
  have h2 := k2 (l.takeWhile (fun x => decide (x.2.2 ≤ r.2.2))) (l.dropWhile (fun x => decide (x.2.2 ≤ r.2.2)))
  rw [List.takeWhile_append_dropWhile] at h1 h2
  show _ = l.take _ ++ [r] ++ l.drop _
  unfold pos
  rw [h1, h2]
  simp
set_option maxRecDepth 100000 in
set_option maxHeartbeats 8000000 in
theorem rshelf_any (w : World) (d : Nat) (A : Option Addr) (c : Nat) (L : List RowT) (h : RIx w d A c L) (hl : L.length ≤ 9000) (at_ : Int) (ha : In64 at_) :
    Calls Try.prog 22 #[.pointer (some ⟨d, 0, none⟩), .int .i64 at_] w fun e w' => ∃ A' c', e = .returned (.slice A' (shelfX L at_).length c') ∧ RdRw w' w'.heap.size A' (shelfX L at_) ∧ Below w.heap.size w w' := by
  obtain ⟨n, hN⟩ : ∃ n, L.length = n := ⟨_, rfl⟩
  have hcn := h.cap
  have hcm := h.most
  rw [hN] at hcn hl
  have HN := Lib.hid hN
  have HC := Lib.hid (show ∀ W, Below w.heap.size w W → W.cell? ⟨d, 0, none⟩ = some (.slice A n c) from fun W hW => by rw [← hN]; exact (h.blk.below hW h.blk.lt).cell 0)
  have HR := Lib.hid (show ∀ W, Below w.heap.size w W → RdRw W W.heap.size A L from fun W hW => h.rows.on hW)
  obtain ⟨fr, hfr⟩ := row_desc
  have HF := Lib.hid hfr
  unfold maxLen at hcm
  have hnc : (n : Int) ≤ (c : Int) := by omega
  have hcm' : (c : Int) ≤ 9223372036854775807 := by omega
  have H9 := Lib.hid h.rows.each
  obtain ⟨ha1, ha2⟩ := ha
  clear h hN hfr
  go_enter Try.func22, Try.ntmps22
  go_wp2_with fail
  go_loopw [5, 6] (fun v i wr => ∃ (j m : Nat) (Y : Option Addr) (z : Nat), j ≤ n ∧ i = .int .i64 j ∧ v = .slice Y m z ∧ m ≤ j ∧ Hid ((shelfX (L.take j) at_).length = m) ∧ Hid (OwnG 39 35 rcs wr w.heap.size Y z (shelfX (L.take j) at_)) ∧ Hid (Below w.heap.size w wr)) (fun _ i _ => n - (intOf i).toNat)
  case atStart => exact ⟨0, 0, none, 0, Nat.zero_le _, rfl, rfl, Nat.le_refl _, Lib.hid rfl, Lib.hid (OwnG.nil _ _), Lib.hid (Below.refl _ _)⟩
  case round =>
    obtain ⟨j, m, Y, z, hj, rfl, rfl, hm, HM, HO, HB⟩ := hrel
    have hcc := HC.out _ HB.out
    by_cases hlt : j < n
    · have hjl : j < L.length := by rw [HN.out]; exact hlt
      obtain ⟨g, off, rfl, hg, hra, hok⟩ := (HR.out _ HB.out).at_ hjl
      have HST := Lib.hid (shelf_step hjl at_)
      obtain ⟨x, hx⟩ : ∃ x, L[j] = x := ⟨_, rfl⟩
      rw [hx] at hra hok HST
      have c33 := hra 33 _ (rcs_33 hok)
      have c34 := hra 34 _ (rcs_34 hok)
      rw [show off + j * 35 + 34 = off + j * 35 + 33 + 1 by omega] at c34
      have HRA := Lib.hid hra
      have HOK := Lib.hid hok
      have HG := Lib.hid hg
      obtain ⟨sh, hsh⟩ : ∃ sh, x.2.1 = sh := ⟨_, rfl⟩
      obtain ⟨sl, hsl⟩ : ∃ sl, x.2.2 = sl := ⟨_, rfl⟩
      rw [hsh] at c33 HST
      rw [hsl] at c34
      have HSL := Lib.hid hsl
      have hi1 : (0 : Int) ≤ (j : Int) := by omega
      have hi2 : (j : Int) < (n : Int) := by omega
      clear hra hok hx hsh hg hsl
      by_cases hat : sh = at_
      · have hne : (sh != at_) = false := by simp [hat]
        rw [if_pos hat] at HST
        clear hat
        go_upto_region 6 with fail
        obtain ⟨S, hS⟩ : ∃ S, shelfX (L.take j) at_ = S := ⟨_, rfl⟩
        obtain ⟨T, hT⟩ : ∃ T, pos S x = T := ⟨_, rfl⟩
        rw [hS] at HM HO HST
        have HS := Lib.hid hS
        have HT := Lib.hid hT
        have HTM := Lib.hid (show T ≤ m by rw [← hT, ← HM.out]; exact pos_le _ _)
        obtain ⟨wo, hwo⟩ : ∃ wo, wo = wr := ⟨_, rfl⟩
        rw [← hwo] at hcc c33 c34 HRA HO HB HG ⊢
        have HOO := Lib.hid HO.out
        have HBO := Lib.hid HB.out
        have HC34 := Lib.hid c34
        clear hS hT HO HB hcc c33 c34 hwo
        go_wp2_with fail
        go_loopw [7] (fun kk wq => ∃ p : Nat, p ≤ T ∧ kk = .int .i64 p ∧ Hid (Below wo.heap.size wo wq)) (fun kk _ => m + 1 - (intOf kk).toNat)
        case atStart => exact ⟨0, Nat.zero_le _, rfl, Lib.hid (Below.refl _ _)⟩
        case round =>
          obtain ⟨p, hp, rfl, HBX⟩ := hrel
          have hTm0 := HTM.out
          have hc34 : wr.cell? ⟨g, off + j * 35 + 33 + 1, none⟩ = some (.int .i64 sl) := by rw [HBX.out.cell HG.out]; exact HC34.out
          have hcc := HC.out _ (HBO.out.trans (HBX.out.mono HBO.out.size))
          have hbx := HBX.out
          by_cases hpm : p < m
          · have hpS : p < S.length := by rw [HM.out]; exact hpm
            have hgS : ∀ y ∈ S, RowT.Ok y := fun y hy => H9.out y (by rw [← HS.out] at hy; exact List.mem_of_mem_take (mem_shelfX.1 hy).1)
            obtain ⟨gl, ol, hY, hgl, hrl, hokl⟩ := (⟨(HOO.out.on hbx).rd rowE hgS, hgS⟩ : RdRw wr _ Y S).at_ hpS
            have cl := hrl 34 _ (rcs_34 hokl)
            rw [show ol + p * 35 + 34 = ol + p * 35 + 33 + 1 by omega] at cl
            obtain ⟨sp, hsp⟩ : ∃ sp, S[p].2.2 = sp := ⟨_, rfl⟩
            rw [hsp] at cl
            have hpm1 : (p : Int) < (m : Int) := by omega
            have hpm2 : decide ((p : Int) < (m : Int)) = true := decide_eq_true hpm1
            have hp0 : (0 : Int) ≤ (p : Int) := by omega
            by_cases hpT : p < T
            · have hle : sp ≤ sl := by rw [← hsp, ← HSL.out]; exact pos_under (by rw [HT.out]; exact hpT) hpS
              have hle2 : decide (sp ≤ sl) = true := decide_eq_true hle
              subst hY
              clear hrl hokl hsp hgS hpS hgl hbx
              go_wp2_with fail
              go_quiet (fail)
              have HBN := Lib.hid (HBX.out.trans ((below_drewN (Below.refl wr.heap.size wr) nq).mono HBX.out.size))
              go_wp2_with fail
              go_roundw
              case rel => exact ⟨p + 1, by omega, by go_num, HBN⟩
              case measure => simp [intOf]; omega
            · obtain rfl : p = T := by omega
              have hle : ¬ sp ≤ sl := by
                have hp2 := HT.out
                subst hp2
                rw [← hsp, ← HSL.out]
                exact pos_at hpS
              have hle2 : decide (sp ≤ sl) = false := decide_eq_false hle
              subst hY
              clear hrl hokl hsp hgS hpS hgl
              go_wp2_with fail
              go_quiet (fail)
              obtain ⟨wv, hwv⟩ : ∃ wv, wr.drewN nq = wv := ⟨_, rfl⟩
              have hbv : Below wo.heap.size wo wv := hwv ▸ hbx.trans ((below_drewN (Below.refl wr.heap.size wr) nq).mono hbx.size)
              rw [hwv]
              clear hwv
              have HB9 := Lib.hid (HBO.out.trans (hbv.mono HBO.out.size))
              have HO9 := Lib.hid (HOO.out.on hbv)
              have HRA9 := Lib.hid (show ∀ W, Below wv.heap.size wv W → W.rangeAt g (off + j * 35) (rcs x) ∧ W.cell? ⟨d, 0, none⟩ = some (.slice (some ⟨g, off, none⟩) n c) from fun W hW => by
                have hWo := hbv.trans (hW.mono hbv.size)
                exact ⟨fun t v hv => by rw [hWo.cell (p := ⟨g, off + j * 35 + t, none⟩) HG.out]; exact HRA.out t v hv, HC.out W (HBO.out.trans (hWo.mono HBO.out.size))⟩)
              have HE := Lib.hid (OwnG.empty (g := rcs) (e := 39) (sz := 35) wv)
              have hab : Below wv.heap.size wv (wv.alloc (.cells #[] 39)) := (Below.refl _ _).alloc (Nat.le_refl _) _
              have HAB := Lib.hid hab
              have hgS : ∀ y ∈ S, RowT.Ok y := fun y hy => H9.out y (by rw [← HS.out] at hy; exact List.mem_of_mem_take (mem_shelfX.1 hy).1)
              have HGS := Lib.hid hgS
              have HRS := Lib.hid (show ∀ W, Below wv.heap.size wv W → RdRw W W.heap.size (some ⟨gl, ol, none⟩) S from fun W hW => ⟨(HO9.out.on hW).rd rowE hgS, hgS⟩)
              have HRT := Lib.hid ((HRS.out _ hab).take p)
              have HTL := Lib.hid (show (S.take p).length = p by rw [List.length_take, HM.out]; omega)
              have HZ := Lib.hid HO9.out.cap
              have hTm : (p : Int) ≤ (m : Int) := by omega
              have hmz : (m : Int) ≤ (z : Int) := by have := HZ.out.1; rw [HM.out] at this; omega
              have hTz : (p : Int) ≤ (z : Int) := by omega
              have hz63 : (z : Int) ≤ 9223372036854775807 := by have := HZ.out.2; unfold maxLen at this; omega
              have HMZ := Lib.hid (show m ≤ z by omega)
              have hzT : ¬ z = p := by omega
              clear hab hgS hbv hbx hc34 hcc
              go_wp2_with (at_builtin; refine wpList_append_g rowE rfl (.tmp 53) (.tmp 56) rfl wv.heap.size _ 0 0 [] rfl rfl HE.out _ (some ⟨gl, ol, none⟩) z p (S.take p) rfl HTL.out HRT.out.rows HRT.out.each ?_ ?_ ?_)
              case _ => omega
              case _ => exact HAB.out.size
              intro A5 c5 w5 ho5 hg5
              have H5 := Lib.hid (show OwnG 39 35 rcs w5 wv.heap.size A5 c5 (S.take p) ∧ Below wv.heap.size wv w5 from ⟨ho5, HAB.out.grown hg5 HAB.out.size fun r hr => (HE.out.lt hr).1⟩)
              have hc5 := (HRA9.out _ H5.out.2).2
              have HR5 := Lib.hid (HRA9.out _ H5.out.2).1
              have HB6 := Lib.hid (show Below wv.heap.size wv (w5.alloc (.cells (rcs x).toArray 39)) from H5.out.2.alloc H5.out.2.size _)
              have H6 := Lib.hid (H5.out.1.on ((Below.refl w5.heap.size w5).alloc (Nat.le_refl _) (.cells (rcs x).toArray 39)))
              have HR1 := Lib.hid (rds_one w5 x 39 35 rcs)
              have HRWS := Lib.hid (show (Try.prog.info? 39).map (·.size) = some (rcs x).length from by rw [rcs_length HOK.out]; exact row_size)
              clear ho5 hg5 HRT HE
              go_wp2_with (first
                | (refine wpList_load_mid rfl 39 (.tmp 64) rfl g (off + j * 35) rfl (rcs x) (.struct fr) HR5.out HF.out rfl HRWS.out ?_)
                | (refine wpList_buildOne rowE rfl (.tmp 65) rfl HOK.out rfl ?_)
                | (at_builtin; refine wpList_append_g rowE rfl (.tmp 58) (.tmp 66) rfl wv.heap.size A5 c5 p (S.take p) HTL.out rfl H6.out _ (some ⟨w5.heap.size, 0, none⟩) 1 1 [x] rfl rfl HR1.out (by intro y hy; rw [List.mem_singleton.1 hy]; exact HOK.out) ?_ ?_ ?_))
              case _ => omega
              case _ => exact HB6.out.size
              intro A7 c7 w7 ho7 hg7
              have H7 := Lib.hid (show OwnG 39 35 rcs w7 wv.heap.size A7 c7 (S.take p ++ [x]) ∧ Below wv.heap.size wv w7 from ⟨ho7, HB6.out.grown hg7 HB6.out.size fun r hr => (H6.out.lt (by rw [HTL.out]; exact hr)).1⟩)
              have HL7 := Lib.hid (show (S.take p ++ [x]).length = p + 1 by rw [List.length_append, HTL.out]; rfl)
              have hrd : RdRw w7 w7.heap.size (some ⟨gl, ol + p * 35, none⟩) (S.drop p) := by
                have h1 := (HRS.out _ H7.out.2).drop (k := p) (c := z) (by rw [HM.out]; exact HMZ.out)
                rw [if_neg hzT] at h1
                simpa [Addr.add_lit] using h1
              have HRD := Lib.hid hrd
              have HDL := Lib.hid (show (S.drop p).length = m - p by rw [List.length_drop, HM.out])
              clear ho7 hg7 H6 HR1 HR5 HB6 hrd hc5
              go_wp2_with (at_builtin; refine wpList_append_g rowE rfl (.tmp 68) (.tmp 71) rfl wv.heap.size A7 c7 (p + 1) (S.take p ++ [x]) HL7.out rfl H7.out.1 _ (some ⟨gl, ol + p * 35, none⟩) (z - p) (m - p) (S.drop p) rfl HDL.out HRD.out.rows HRD.out.each ?_ ?_ ?_)
              case _ => omega
              case _ => exact H7.out.2.size
              intro A9 c9 w9 ho9 hg9
              have H9N := Lib.hid (show OwnG 39 35 rcs w9 w.heap.size A9 c9 (shelfX (L.take (j + 1)) at_) ∧ Below w.heap.size w w9 from by
                have hb9 : Below wv.heap.size wv w9 := H7.out.2.grown hg9 H7.out.2.size fun r hr => (H7.out.1.lt (by rw [HL7.out]; exact hr)).1
                refine ⟨?_, HB9.out.trans (hb9.mono HB9.out.size)⟩
                rw [HST.out, insS_pos, HT.out]
                have h9 := ho9.base HB9.out.size
                simpa using h9)
              have HLN := Lib.hid (show (shelfX (L.take (j + 1)) at_).length = p + 1 + (m - p) by rw [HST.out, insS_pos, HT.out, List.length_append, HL7.out, HDL.out])
              clear ho9 hg9 HRD
              go_wp2_with fail
              go_roundw
              case rel => exact ⟨j + 1, p + 1 + (m - p), A9, c9, by omega, by go_num, rfl, by omega, HLN, Lib.hid H9N.out.1, Lib.hid H9N.out.2⟩
              case measure => simp [intOf]; omega
          · obtain rfl : p = m := by omega
            obtain rfl : p = T := by omega
            have hpm1 : ¬ (p : Int) < (p : Int) := by omega
            have hpm2 : decide ((p : Int) < (p : Int)) = false := decide_eq_false hpm1
            go_wp2_with fail
            go_quiet (fail)
            obtain ⟨wv, hwv⟩ : ∃ wv, wr.drewN nq = wv := ⟨_, rfl⟩
            have hbv : Below wo.heap.size wo wv := hwv ▸ hbx.trans ((below_drewN (Below.refl wr.heap.size wr) nq).mono hbx.size)
            rw [hwv]
            clear hwv
            have HB9 := Lib.hid (HBO.out.trans (hbv.mono HBO.out.size))
            have HO9 := Lib.hid (HOO.out.on hbv)
            have HRA9 := Lib.hid (show ∀ W, Below wv.heap.size wv W → W.rangeAt g (off + j * 35) (rcs x) ∧ W.cell? ⟨d, 0, none⟩ = some (.slice (some ⟨g, off, none⟩) n c) from fun W hW => by
              have hWo := hbv.trans (hW.mono hbv.size)
              exact ⟨fun t v hv => by rw [hWo.cell (p := ⟨g, off + j * 35 + t, none⟩) HG.out]; exact HRA.out t v hv, HC.out W (HBO.out.trans (hWo.mono HBO.out.size))⟩)
            have HE := Lib.hid (OwnG.empty (g := rcs) (e := 39) (sz := 35) wv)
            have hab : Below wv.heap.size wv (wv.alloc (.cells #[] 39)) := (Below.refl _ _).alloc (Nat.le_refl _) _
            have HAB := Lib.hid hab
            have hgS : ∀ y ∈ S, RowT.Ok y := fun y hy => H9.out y (by rw [← HS.out] at hy; exact List.mem_of_mem_take (mem_shelfX.1 hy).1)
            have HGS := Lib.hid hgS
            have HRS := Lib.hid (show ∀ W, Below wv.heap.size wv W → RdRw W W.heap.size Y S from fun W hW => ⟨(HO9.out.on hW).rd rowE hgS, hgS⟩)
            have HRT := Lib.hid ((HRS.out _ hab).take p)
            have HTL := Lib.hid (show (S.take p).length = p by rw [List.length_take, HM.out]; omega)
            have HZ := Lib.hid HO9.out.cap
            have hTm : (p : Int) ≤ (p : Int) := by omega
            have hmz : (p : Int) ≤ (z : Int) := by have := HZ.out.1; rw [HM.out] at this; omega
            have hTz : (p : Int) ≤ (z : Int) := by omega
            have hz63 : (z : Int) ≤ 9223372036854775807 := by have := HZ.out.2; unfold maxLen at this; omega
            have HMZ := Lib.hid (show p ≤ z by omega)
            obtain ⟨Y2, hY2⟩ : ∃ Y2 : Option Addr, (if z = p then Y else Y.map (·.add (p * 35))) = Y2 := ⟨_, rfl⟩
            clear hab hgS hbv hbx hc34 hcc
            go_wp2_with (at_builtin; refine wpList_append_g rowE rfl (.tmp 53) (.tmp 56) rfl wv.heap.size _ 0 0 [] rfl rfl HE.out _ Y z p (S.take p) rfl HTL.out HRT.out.rows HRT.out.each ?_ ?_ ?_)
            case _ => omega
            case _ => exact HAB.out.size
            intro A5 c5 w5 ho5 hg5
            have H5 := Lib.hid (show OwnG 39 35 rcs w5 wv.heap.size A5 c5 (S.take p) ∧ Below wv.heap.size wv w5 from ⟨ho5, HAB.out.grown hg5 HAB.out.size fun r hr => (HE.out.lt hr).1⟩)
            have hc5 := (HRA9.out _ H5.out.2).2
            have HR5 := Lib.hid (HRA9.out _ H5.out.2).1
            have HB6 := Lib.hid (show Below wv.heap.size wv (w5.alloc (.cells (rcs x).toArray 39)) from H5.out.2.alloc H5.out.2.size _)
            have H6 := Lib.hid (H5.out.1.on ((Below.refl w5.heap.size w5).alloc (Nat.le_refl _) (.cells (rcs x).toArray 39)))
            have HR1 := Lib.hid (rds_one w5 x 39 35 rcs)
            have HRWS := Lib.hid (show (Try.prog.info? 39).map (·.size) = some (rcs x).length from by rw [rcs_length HOK.out]; exact row_size)
            clear ho5 hg5 HRT HE
            go_wp2_with (first
              | (refine wpList_load_mid rfl 39 (.tmp 64) rfl g (off + j * 35) rfl (rcs x) (.struct fr) HR5.out HF.out rfl HRWS.out ?_)
              | (refine wpList_buildOne rowE rfl (.tmp 65) rfl HOK.out rfl ?_)
              | (at_builtin; refine wpList_append_g rowE rfl (.tmp 58) (.tmp 66) rfl wv.heap.size A5 c5 p (S.take p) HTL.out rfl H6.out _ (some ⟨w5.heap.size, 0, none⟩) 1 1 [x] rfl rfl HR1.out (by intro y hy; rw [List.mem_singleton.1 hy]; exact HOK.out) ?_ ?_ ?_))
            case _ => omega
            case _ => exact HB6.out.size
            intro A7 c7 w7 ho7 hg7
            have H7 := Lib.hid (show OwnG 39 35 rcs w7 wv.heap.size A7 c7 (S.take p ++ [x]) ∧ Below wv.heap.size wv w7 from ⟨ho7, HB6.out.grown hg7 HB6.out.size fun r hr => (H6.out.lt (by rw [HTL.out]; exact hr)).1⟩)
            have HL7 := Lib.hid (show (S.take p ++ [x]).length = p + 1 by rw [List.length_append, HTL.out]; rfl)
            have hrd : RdRw w7 w7.heap.size (Y2) (S.drop p) := by
              rw [List.drop_of_length_le (by rw [HM.out]; omega)]
              exact RdRw.nil _ _ _
            have HRD := Lib.hid hrd
            have HDL := Lib.hid (show (S.drop p).length = 0 by rw [List.length_drop, HM.out]; omega)
            clear ho7 hg7 H6 HR1 HR5 HB6 hrd hc5
            go_wp2_with (at_builtin; refine wpList_append_g rowE rfl (.tmp 68) (.tmp 71) rfl wv.heap.size A7 c7 (p + 1) (S.take p ++ [x]) HL7.out rfl H7.out.1 _ (Y2) (z - p) 0 (S.drop p) rfl HDL.out HRD.out.rows HRD.out.each ?_ ?_ ?_)
            case _ => omega
            case _ => exact H7.out.2.size
            intro A9 c9 w9 ho9 hg9
            have H9N := Lib.hid (show OwnG 39 35 rcs w9 w.heap.size A9 c9 (shelfX (L.take (j + 1)) at_) ∧ Below w.heap.size w w9 from by
              have hb9 : Below wv.heap.size wv w9 := H7.out.2.grown hg9 H7.out.2.size fun r hr => (H7.out.1.lt (by rw [HL7.out]; exact hr)).1
              refine ⟨?_, HB9.out.trans (hb9.mono HB9.out.size)⟩
              rw [HST.out, insS_pos, HT.out]
              have h9 := ho9.base HB9.out.size
              simpa using h9)
            have HLN := Lib.hid (show (shelfX (L.take (j + 1)) at_).length = p + 1 by rw [HST.out, insS_pos, HT.out, List.length_append, HL7.out, HDL.out])
            clear ho9 hg9 HRD
            go_wp2_with fail
            go_roundw
            case rel => exact ⟨j + 1, p + 1, A9, c9, by omega, by go_num, rfl, by omega, HLN, Lib.hid H9N.out.1, Lib.hid H9N.out.2⟩
            case measure => simp [intOf]; omega
      · have hne : (sh != at_) = true := by simp [hat]
        rw [if_neg hat] at HST
        go_wp2_with fail
        go_roundw
        case rel => exact ⟨j + 1, m, Y, z, by omega, by go_num, rfl, by omega, Lib.hid (by rw [HST.out]; exact HM.out), Lib.hid (by rw [HST.out]; exact HO.out), HB⟩
        case measure => simp [intOf]; omega
    · obtain rfl : j = n := by omega
      have HE := Lib.hid (show L.take j = L from List.take_of_length_le (by rw [HN.out]; exact Nat.le_refl _))
      go_wp2_with fail
      go_ret
      have hm := HM.out
      have ho := HO.out
      rw [HE.out] at hm ho
      have hk : ∀ y ∈ shelfX L at_, RowT.Ok y := fun y hy => H9.out y (mem_shelfX.1 hy).1
      exact ⟨Y, z, by rw [hm]; rfl, ⟨ho.rd rowE hk, hk⟩, HB.out⟩
end Go.Proofs.Yteieaindejcfbaa
