/- The reference's map (cellarageref18): Put. No statement of the seat is proved here. -/
import Derived.Test.YtiomfkhblmmdoaaTrRefC
import Derived.Test.YtiomfkhblmmdoaaBuildTwo
import Derived.Test.YtiomfkhblmmdoaaBuildWant
import Derived.Laws.Rows
import Derived.Deep.DeepCutAuto
import Derived.Deep.RegionHeld3
import Derived.Great.BuildSlice
namespace Go.Proofs.Ytiomfkhblmmdoaa
open Go.RowKit
set_option linter.unusedVariables false
set_option linter.unusedSimpArgs false
set_option maxRecDepth 100000

theorem rmap_desc : ∃ fs, Try.prog.underlying 27 = some (.struct fs) := ⟨_, Try.underlying27⟩
theorem rmap_size : (Try.prog.info? 27).map (·.size) = some 1 := by kernel_rfl
theorem RdP.behind {w : World} {B : Nat} {A : Option Addr} {ls : List PT} (h : RdP w B A ls) {k c : Nat} (hc : ls.length ≤ c) : RdP w B (if c = k then A else A.map (·.add (k * 2))) (ls.drop k) := by
  split
  · rw [List.drop_eq_nil_of_le (by omega)]
    exact RdP.nil _ _ _
  · have := h.part k ls.length
    rwa [List.take_of_length_le (by rw [List.length_drop]; omega)] at this
/-- A map's two boxes: as it came in, and what is handed back. -/
theorem boxes18 {w : World} {v : Value} : ∃ w2 d r, (w.alloc (.cells #[v] 27)).alloc (.cells #[.slice none 0 0] 27) = w2 ∧ w.heap.size = d ∧ d + 1 = r ∧ Below w.heap.size w w2 ∧ Blk w2 d 27 #[v] ∧ Blk w2 r 27 #[.slice none 0 0] := by
  have hb1 := (Below.refl w.heap.size w).alloc (Nat.le_refl _) (.cells #[v] 27)
  refine ⟨_, _, _, rfl, rfl, rfl, hb1.alloc hb1.size _, ?_, ?_⟩
  · exact (Blk.new w 27 #[v]).below (B := w.heap.size + 1) ((Below.refl (w.heap.size + 1) _).alloc (by simp) _) (by omega)
  · exact blk_at (w.alloc (.cells #[v] 27)) 27 #[.slice none 0 0] (g := w.heap.size + 1) (by simp)
set_option maxHeartbeats 8000000 in
theorem rput_any (A : Option Addr) (ls : List PT) (k c : Nat) (key val : List UInt8) (hl : ls.length = k) (hk : k ≤ 100000) (hc : k ≤ c) (hcm : c ≤ maxLen) (w : World) (hr : RdP w w.heap.size A ls) :
    Calls Try.prog 14 #[.agg #[.slice A k c], .string (st key), .string (st val)] w fun e w' => ∃ A' c', e = .returned (.agg #[.slice A' (putL ls key val).length c']) ∧ OwnG 30 2 pcs w' w.heap.size A' c' (putL ls key val) ∧ Below w.heap.size w w' := by
  obtain ⟨w2, d, r, hw2, hd, hrr, hb12, hk1, hk2⟩ := boxes18 (w := w) (v := .slice A k c)
  obtain ⟨p, hp⟩ : ∃ p, posL ls key = p := ⟨_, rfl⟩
  obtain ⟨R, hR⟩ : ∃ R, isL ls key = R := ⟨_, rfl⟩
  have hpk : p ≤ k := by rw [← hp, ← hl]; exact pos_le ls key
  have hput := put_pos ls key val
  rw [hp, hR] at hput
  have hRk : R = true → p < k := fun h => by
    rw [← hR] at h
    obtain ⟨h1, _⟩ := (is_pos ls key).1 h
    omega
  have hr2 : RdP w2 w2.heap.size A ls := (hr.below hb12).more hb12.size
  have KA := Lib.hid (show Calls Try.prog 30 #[.agg #[.slice A k c], .string (st key)] w2 fun e w' => e = .returned (.tuple #[.int .i64 p, .bool R]) ∧ Below w2.heap.size w2 w' from by
    have := rat_any A ls k c key hl (by omega) w2 hr2
    rw [hp, hR] at this
    exact this)
  have HR2 := Lib.hid (show ∀ W, Below w2.heap.size w2 W → RdP W W.heap.size A ls from fun W hW => (hr2.below hW).more hW.size)
  have HC := Lib.hid (show ∀ W, Below w2.heap.size w2 W → W.cell? ⟨d, 0, none⟩ = some (.slice A k c) from fun W hW => (hk1.below hW hk1.lt).cell 0)
  have HZ := Lib.hid (show ∀ W, Below w2.heap.size w2 W → Blk W r 27 #[.slice none 0 0] from fun W hW => hk2.below hW hk2.lt)
  have HW := Lib.hid (And.intro hw2 (And.intro hd hrr))
  have HN := Lib.hid hl
  have HPUT := Lib.hid hput
  have HB12 := Lib.hid hb12
  obtain ⟨A2, hA2⟩ : ∃ A2 : Option Addr, (if c = p then A else A.map (·.add (p * 2))) = A2 := ⟨_, rfl⟩
  obtain ⟨A3, hA3⟩ : ∃ A3 : Option Addr, (if c = p + 1 then A else A.map (·.add ((p + 1) * 2))) = A3 := ⟨_, rfl⟩
  have HA := Lib.hid (And.intro hA2 hA3)
  unfold maxLen at hcm
  have hqn : (p : Int) ≤ (k : Int) := by omega
  have hqc : (p : Int) ≤ (c : Int) := by omega
  have hnc : (k : Int) ≤ (c : Int) := by omega
  have hcm' : (c : Int) ≤ 9223372036854775807 := by omega
  clear hw2 hd hrr hb12 hk1 hk2 hp hR hput hr2 hl hr
  go_enter Try.func14, Try.ntmps14
  go_upto_region 1 with fail
  rw [HW.out.1, HW.out.2.1, HW.out.2.2]
  have hc2 := HC.out _ (Below.refl _ _)
  go_wp2_with fail
  refine KA.out.mono ?_
  rintro e w3 ⟨rfl, hb3⟩
  have HB3 := Lib.hid hb3
  have HE := Lib.hid (OwnG.empty (g := pcs) (e := 30) (sz := 2) w3)
  have hb4 : Below w2.heap.size w2 (w3.alloc (.cells #[] 30)) := hb3.alloc hb3.size _
  have hc4 := HC.out _ hb4
  have HB4 := Lib.hid hb4
  clear KA hb3 hb4 hc2
  have HTQ := Lib.hid (show (ls.take p).length = p by rw [List.length_take, HN.out]; omega)
  have HE4 := Lib.hid (HE.out.base (B' := w2.heap.size) HB3.out.size)
  have HRT := Lib.hid ((HR2.out _ HB4.out).take p)
  go_upto_region 3 with (at_builtin; refine wpList_append_g prE rfl (.tmp 16) (.tmp 20) rfl w2.heap.size _ 0 0 [] rfl rfl HE4.out _ A c p (ls.take p) rfl HTQ.out HRT.out (fun _ _ => trivial) ?_ ?_ ?_)
  case _ => omega
  case _ => exact HB4.out.size
  intro A5 c5 w5 ho hg
  have H5 := Lib.hid (show OwnG 30 2 pcs w5 w2.heap.size A5 c5 (ls.take p) ∧ Below w2.heap.size w2 w5 from ⟨ho, HB4.out.grown hg HB4.out.size fun r hr => (HE4.out.lt hr).1⟩)
  clear ho hg HE HE4 HB4 HRT hc4
  have hb6 : Below w2.heap.size w2 (w5.alloc (.cells (pcs (key, val)).toArray 30)) := H5.out.2.alloc H5.out.2.size _
  have HB6 := Lib.hid hb6
  have H6 := Lib.hid (H5.out.1.on ((Below.refl w5.heap.size w5).alloc (Nat.le_refl _) (.cells (pcs (key, val)).toArray 30)))
  have HR1 := Lib.hid (rds_one w5 (key, val) 30 2 pcs)
  clear hb6
  go_upto_region 4 with (first
    | (refine wpList_buildOne prE rfl (.tmp 25) rfl (y := (key, val)) trivial rfl ?_)
    | (at_builtin; refine wpList_append_g prE rfl (.tmp 22) (.tmp 26) rfl w2.heap.size A5 c5 p (ls.take p) HTQ.out rfl H6.out _ (some ⟨w5.heap.size, 0, none⟩) 1 1 [(key, val)] rfl rfl HR1.out (fun _ _ => trivial) ?_ ?_ ?_))
  case _ => omega
  case _ => exact HB6.out.size
  intro A7 c7 w7 ho hg
  have H7 := Lib.hid (show OwnG 30 2 pcs w7 w2.heap.size A7 c7 (ls.take p ++ [(key, val)]) ∧ Below w2.heap.size w2 w7 from ⟨ho, HB6.out.grown hg HB6.out.size fun r hr => (H6.out.lt (by rw [HTQ.out]; exact hr)).1⟩)
  have HL7 := Lib.hid (show (ls.take p ++ [(key, val)]).length = p + 1 by rw [List.length_append, HTQ.out]; rfl)
  have hc7 := HC.out _ H7.out.2
  clear ho hg HR1 H6 HB6 H5
  have FIN := Lib.hid (show ∀ A9 c9 m w9, OwnG 30 2 pcs w9 w2.heap.size A9 c9 (putL ls key val) → (putL ls key val).length = m → Below w2.heap.size w2 w9 →
      Blk (w9.setCell ⟨r, 0, none⟩ (.slice A9 m c9)) r 27 #[.slice A9 m c9] ∧ OwnG 30 2 pcs (w9.setCell ⟨r, 0, none⟩ (.slice A9 m c9)) w.heap.size A9 c9 (putL ls key val) ∧ Below w.heap.size w (w9.setCell ⟨r, 0, none⟩ (.slice A9 m c9)) from fun A9 c9 m w9 ho hm hb => by
    have hbl := HZ.out _ hb
    have hrl := (HZ.out _ (Below.refl _ _)).lt
    have hrw : w.heap.size ≤ r := by rw [← HW.out.2.2, ← HW.out.2.1]; omega
    refine ⟨by simpa using hbl.set_ 0 (.slice A9 m c9), ?_, (HB12.out.trans (hb.mono HB12.out.size)).setCell hrw _⟩
    refine (ho.grown (setCell_grown (World.grownBy.refl _ _)) fun x e e2 => ?_).base HB12.out.size
    injection e with e
    have := (ho.lt e2).1
    omega)
  cases R with
  | false =>
    have hrd := (HR2.out _ H7.out.2).behind (k := p) (c := c) (by rw [HN.out]; exact hc)
    rw [hA2] at hrd
    have HRD := Lib.hid hrd
    have HDL := Lib.hid (show (ls.drop p).length = k - p by rw [List.length_drop, HN.out])
    have HPE := Lib.hid (show putL ls key val = (ls.take p ++ [(key, val)]) ++ ls.drop p by rw [HPUT.out, List.append_assoc]; rfl)
    have HPL := Lib.hid (show (putL ls key val).length = p + 1 + (k - p) by rw [HPE.out, List.length_append, HL7.out, HDL.out])
    clear hrd
    go_wp2_with (at_builtin; refine wpList_append_g prE rfl (.tmp 31) (.tmp 35) rfl w2.heap.size A7 c7 (p + 1) (ls.take p ++ [(key, val)]) HL7.out rfl H7.out.1 _ A2 (c - p) (k - p) (ls.drop p) rfl HDL.out HRD.out (fun _ _ => trivial) ?_ ?_ ?_)
    case _ => omega
    case _ => exact H7.out.2.size
    intro A9 c9 w9 ho hg
    have HB9 := Lib.hid (show Below w2.heap.size w2 w9 from H7.out.2.grown hg H7.out.2.size fun r hr => (H7.out.1.lt (by rw [HL7.out]; exact hr)).1)
    have HFN := Lib.hid (FIN.out A9 c9 _ w9 (by rw [HPUT.out]; exact ho) HPL.out HB9.out)
    have hz9 := (HZ.out _ HB9.out).cell 0
    have hf9 := (HZ.out _ HB9.out).frozen 0
    clear ho hg HRD hc7
    go_wp2_with fail
    (try simp only [Exit.inBlock, Exit.then])
    obtain ⟨fs, hfs⟩ := rmap_desc
    refine bodyPost_ret (v := .agg #[.slice A9 (p + 1 + (k - p)) c9]) ?_ rfl ⟨A9, c9, by rw [HPL.out], HFN.out.2.1, HFN.out.2.2⟩
    exact results_cell_row rfl _ _ r 27 _ (0, 0) _ rfl HFN.out.1 hfs rfl rmap_size
  | true =>
    have hpk1 := hRk rfl
    have hq1 : (p : Int) + 1 ≤ (k : Int) := by omega
    have hqc1 : (p : Int) + 1 ≤ (c : Int) := by omega
    have hrd := (HR2.out _ H7.out.2).behind (k := p + 1) (c := c) (by rw [HN.out]; exact hc)
    rw [hA3] at hrd
    have HRD := Lib.hid hrd
    have HDL := Lib.hid (show (ls.drop (p + 1)).length = k - (p + 1) by rw [List.length_drop, HN.out])
    have HPE := Lib.hid (show putL ls key val = (ls.take p ++ [(key, val)]) ++ ls.drop (p + 1) by rw [HPUT.out, List.append_assoc]; rfl)
    have HPL := Lib.hid (show (putL ls key val).length = p + 1 + (k - (p + 1)) by rw [HPE.out, List.length_append, HL7.out, HDL.out])
    clear hrd
    go_wp2_with (at_builtin; refine wpList_append_g prE rfl (.tmp 31) (.tmp 35) rfl w2.heap.size A7 c7 (p + 1) (ls.take p ++ [(key, val)]) HL7.out rfl H7.out.1 _ A3 (c - (p + 1)) (k - (p + 1)) (ls.drop (p + 1)) rfl HDL.out HRD.out (fun _ _ => trivial) ?_ ?_ ?_)
    case _ => omega
    case _ => exact H7.out.2.size
    intro A9 c9 w9 ho hg
    have HB9 := Lib.hid (show Below w2.heap.size w2 w9 from H7.out.2.grown hg H7.out.2.size fun r hr => (H7.out.1.lt (by rw [HL7.out]; exact hr)).1)
    have HFN := Lib.hid (FIN.out A9 c9 _ w9 (by rw [HPUT.out]; exact ho) HPL.out HB9.out)
    have hz9 := (HZ.out _ HB9.out).cell 0
    have hf9 := (HZ.out _ HB9.out).frozen 0
    clear ho hg HRD hc7
    go_wp2_with fail
    (try simp only [Exit.inBlock, Exit.then])
    obtain ⟨fs, hfs⟩ := rmap_desc
    refine bodyPost_ret (v := .agg #[.slice A9 (p + 1 + (k - (p + 1))) c9]) ?_ rfl ⟨A9, c9, by rw [HPL.out], HFN.out.2.1, HFN.out.2.2⟩
    exact results_cell_row rfl _ _ r 27 _ (0, 0) _ rfl HFN.out.1 hfs rfl rmap_size
end Go.Proofs.Ytiomfkhblmmdoaa
