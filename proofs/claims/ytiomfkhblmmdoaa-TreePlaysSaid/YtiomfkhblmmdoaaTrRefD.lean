/- The reference's map (cellarageref18): Drop. No statement of the seat is proved here. -/
import Derived.Test.YtiomfkhblmmdoaaTrRefP
import Derived.Test.YtiomfkhblmmdoaaResRow
namespace Go.Proofs.Ytiomfkhblmmdoaa
open Go.RowKit
set_option linter.unusedVariables false
set_option linter.unusedSimpArgs false
set_option maxRecDepth 100000

set_option maxHeartbeats 8000000 in
theorem rdrop_any (A : Option Addr) (ls : List PT) (k c : Nat) (key : List UInt8) (hl : ls.length = k) (hk : k ≤ 100000) (hc : k ≤ c) (hcm : c ≤ maxLen) (w : World) (hr : RdP w w.heap.size A ls) :
    Calls Try.prog 12 #[.agg #[.slice A k c], .string (st key)] w fun e w' => ∃ A' c', e = .returned (.tuple #[.agg #[.slice A' (dropL ls key).length c'], .bool (isL ls key)]) ∧ RdP w' w'.heap.size A' (dropL ls key) ∧ (dropL ls key).length ≤ c' ∧ c' ≤ maxLen ∧ Below w.heap.size w w' := by
  obtain ⟨w2, d, r, hw2, hd, hrr, hb12, hk1, hk2⟩ := boxes18 (w := w) (v := .slice A k c)
  obtain ⟨p, hp⟩ : ∃ p, posL ls key = p := ⟨_, rfl⟩
  obtain ⟨R, hR⟩ : ∃ R, isL ls key = R := ⟨_, rfl⟩
  have hpk : p ≤ k := by rw [← hp, ← hl]; exact pos_le ls key
  have hput := drop_pos ls key
  rw [hp, hR] at hput
  rw [hR]
  have hRk : R = true → p < k := fun h => by
    rw [← hR] at h
    obtain ⟨h1, _⟩ := (is_pos ls key).1 h
    omega
  have hr2 : RdP w2 w2.heap.size A ls := (hr.below hb12).more hb12.size
  have KA := Lib.hid (show Calls Try.prog 30 #[.agg #[.slice A k c], .string (st key)] w2 fun e w' => e = .returned (.tuple #[.int .i64 p, .bool R]) ∧ Below w2.heap.size w2 w' from by
    have := rat_any A ls k c key hl (by omega) w2 hr2
    rw [hp, hR] at this
    exact this)
  have HR2 := Lib.hid (show ∀ W, Below w2.heap.size w2 W → RdP W W.heap.size A ls from fun W hW => (hr2.below hW).more hW.size)
  have HC := Lib.hid (show ∀ W, Below w2.heap.size w2 W → W.cell? ⟨d, 0, none⟩ = some (.slice A k c) from fun W hW => (hk1.below hW hk1.lt).cell 0)
  have HZ := Lib.hid (show ∀ W, Below w2.heap.size w2 W → Blk W r 27 #[.slice none 0 0] from fun W hW => hk2.below hW hk2.lt)
  have HW := Lib.hid (And.intro hw2 (And.intro hd hrr))
  have HN := Lib.hid hl
  have HPUT := Lib.hid hput
  have HB12 := Lib.hid hb12
  have FIN := Lib.hid (show ∀ A9 c9 m w9 l, RdP w9 w9.heap.size A9 l → (∀ ad, A9 = some ad → 0 < l.length → ad.block ≠ r) → l.length = m → m ≤ c9 → c9 ≤ maxLen → Below w2.heap.size w2 w9 →
      Blk (w9.setCell ⟨r, 0, none⟩ (.slice A9 m c9)) r 27 #[.slice A9 m c9] ∧ RdP (w9.setCell ⟨r, 0, none⟩ (.slice A9 m c9)) (w9.setCell ⟨r, 0, none⟩ (.slice A9 m c9)).heap.size A9 l ∧ l.length ≤ c9 ∧ c9 ≤ maxLen ∧ Below w.heap.size w (w9.setCell ⟨r, 0, none⟩ (.slice A9 m c9)) from fun A9 c9 m w9 l ho hne hm h1 h2 hb => by
    have hrw : w.heap.size ≤ r := by rw [← hrr, ← hd]; omega
    have hbl := hk2.below hb hk2.lt
    refine ⟨by simpa using hbl.set_ 0 (.slice A9 m c9), fun hn => ?_, by omega, h2, (hb12.trans (hb.mono hb12.size)).setCell hrw _⟩
    obtain ⟨g, off, e, hg, hcs⟩ := ho hn
    refine ⟨g, off, e, by simpa using hg, fun j hj i v hv => ?_⟩
    have := hcs j hj i v hv
    rw [← this]
    exact World.cell?_of_block (Below.heap_setCell w9 ⟨r, 0, none⟩ _ g (hne _ e (by simpa using hn))))
  have HAD := Lib.hid (show ∀ ad, A = some ad → 0 < ls.length → ad.block ≠ r from fun ad e hn => by
    obtain ⟨g, off, e2, hg, _⟩ := hr (by simpa using hn)
    rw [e] at e2
    injection e2 with e2
    subst e2
    have : w.heap.size ≤ r := by rw [← hrr, ← hd]; omega
    show g ≠ r
    omega)
  obtain ⟨A2, hA2⟩ : ∃ A2 : Option Addr, (if c = p then A else A.map (·.add (p * 2))) = A2 := ⟨_, rfl⟩
  obtain ⟨A3, hA3⟩ : ∃ A3 : Option Addr, (if c = p + 1 then A else A.map (·.add ((p + 1) * 2))) = A3 := ⟨_, rfl⟩
  have HA := Lib.hid (And.intro hA2 hA3)
  have HCM := Lib.hid hcm
  unfold maxLen at hcm
  have hqn : (p : Int) ≤ (k : Int) := by omega
  have hqc : (p : Int) ≤ (c : Int) := by omega
  have hnc : (k : Int) ≤ (c : Int) := by omega
  have hcm' : (c : Int) ≤ 9223372036854775807 := by omega
  clear hw2 hd hrr hb12 hk1 hk2 hp hR hput hr2 hl hr
  go_enter Try.func12, Try.ntmps12
  go_upto_region 1 with fail
  rw [HW.out.1, HW.out.2.1, HW.out.2.2]
  have hc2 := HC.out _ (Below.refl _ _)
  go_wp2_with fail
  refine KA.out.mono ?_
  rintro e w3 ⟨rfl, hb3⟩
  have HB3 := Lib.hid hb3
  have hc3 := HC.out _ hb3
  clear KA hb3 hc2
  cases R with
  | false =>
    have HPE := Lib.hid (show dropL ls key = ls from HPUT.out)
    have hz9 := (HZ.out _ HB3.out).cell 0
    have hf9 := (HZ.out _ HB3.out).frozen 0
    go_wp2_with fail
    (try simp only [Exit.inBlock, Exit.then])
    have HFN := Lib.hid (FIN.out A c k w3 ls (HR2.out _ HB3.out) HAD.out HN.out hc HCM.out HB3.out)
    obtain ⟨fs, hfs⟩ := rmap_desc
    refine bodyPost_ret (v := .tuple #[.agg #[.slice A k c], .bool false]) ?_ rfl ⟨A, c, by rw [HPE.out, HN.out], by rw [HPE.out]; exact HFN.out.2⟩
    exact res_row_tmpB rfl _ _ r 27 _ (0, 0) _ rfl HFN.out.1 hfs rfl rmap_size _ rfl
  | true =>
    have hpk1 := hRk rfl
    clear hRk
    have HE := Lib.hid (OwnG.empty (g := pcs) (e := 30) (sz := 2) w3)
    have hb4 : Below w2.heap.size w2 (w3.alloc (.cells #[] 30)) := HB3.out.alloc HB3.out.size _
    have hc4 := HC.out _ hb4
    have HB4 := Lib.hid hb4
    clear hb4
    have HTQ := Lib.hid (show (ls.take p).length = p by rw [List.length_take, HN.out]; omega)
    have HE4 := Lib.hid (HE.out.base (B' := w2.heap.size) HB3.out.size)
    have HRT := Lib.hid ((HR2.out _ HB4.out).take p)
    go_upto_region 5 with (at_builtin; refine wpList_append_g prE rfl (.tmp 18) (.tmp 22) rfl w2.heap.size _ 0 0 [] rfl rfl HE4.out _ A c p (ls.take p) rfl HTQ.out HRT.out (fun _ _ => trivial) ?_ ?_ ?_)
    case _ => omega
    case _ => exact HB4.out.size
    intro A7 c7 w7 ho hg
    have H7 := Lib.hid (show OwnG 30 2 pcs w7 w2.heap.size A7 c7 (ls.take p) ∧ Below w2.heap.size w2 w7 from ⟨ho, HB4.out.grown hg HB4.out.size fun r hr => (HE4.out.lt hr).1⟩)
    have hc7 := HC.out _ H7.out.2
    clear ho hg HE HE4 HB4 HRT hc4 hc3
    have hq1 : (p : Int) + 1 ≤ (k : Int) := by omega
    have hqc1 : (p : Int) + 1 ≤ (c : Int) := by omega
    have hrd := (HR2.out _ H7.out.2).behind (k := p + 1) (c := c) (by rw [HN.out]; exact hc)
    rw [hA3] at hrd
    have HRD := Lib.hid hrd
    have HDL := Lib.hid (show (ls.drop (p + 1)).length = k - (p + 1) by rw [List.length_drop, HN.out])
    have HPE := Lib.hid (show dropL ls key = ls.take p ++ ls.drop (p + 1) from HPUT.out)
    have HPL := Lib.hid (show (dropL ls key).length = p + (k - (p + 1)) by rw [HPE.out, List.length_append, HTQ.out, HDL.out])
    clear hrd
    go_wp2_with (at_builtin; refine wpList_append_g prE rfl (.tmp 24) (.tmp 29) rfl w2.heap.size A7 c7 p (ls.take p) HTQ.out rfl H7.out.1 _ A3 (c - (p + 1)) (k - (p + 1)) (ls.drop (p + 1)) rfl HDL.out HRD.out (fun _ _ => trivial) ?_ ?_ ?_)
    case _ => omega
    case _ => exact H7.out.2.size
    intro A9 c9 w9 ho hg
    have HB9 := Lib.hid (show Below w2.heap.size w2 w9 from H7.out.2.grown hg H7.out.2.size fun r hr => (H7.out.1.lt (by rw [HTQ.out]; exact hr)).1)
    have ho' : OwnG 30 2 pcs w9 w2.heap.size A9 c9 (dropL ls key) := by rw [HPE.out]; exact ho
    have hrl := (HZ.out _ (Below.refl _ _)).lt
    have HFN := Lib.hid (FIN.out A9 c9 _ w9 _ (RdP.own ho') (fun ad e _ => by have := (ho'.adr ad e).1; omega) HPL.out (by rw [← HPL.out]; exact ho'.cap.1) ho'.cap.2 HB9.out)
    have hz9 := (HZ.out _ HB9.out).cell 0
    have hf9 := (HZ.out _ HB9.out).frozen 0
    clear ho ho' hg HRD hc7 hrl
    go_wp2_with fail
    (try simp only [Exit.inBlock, Exit.then])
    obtain ⟨fs, hfs⟩ := rmap_desc
    refine bodyPost_ret (v := .tuple #[.agg #[.slice A9 (p + (k - (p + 1))) c9], .bool true]) ?_ rfl ⟨A9, c9, by rw [HPL.out], HFN.out.2⟩
    exact res_row_tmpB rfl _ _ r 27 _ (0, 0) _ rfl HFN.out.1 hfs rfl rmap_size _ rfl
end Go.Proofs.Ytiomfkhblmmdoaa
