/- The contract of unlike of the laws of package perfect. No statement of the seat is proved here. -/
import Derived.Test.YtacijjioaanlgaaPerfShown
import Derived.Test.YtacijjioaanlgaaKeyEq
namespace Go.Proofs.Ytacijjioaanlgaa
open Go.RowKit Go.Maps
set_option linter.unusedVariables false

theorem OwnK.cap {w : World} {B c : Nat} {A : Option Addr} {l : List KeyT} (h : OwnK w B A c l) : l.length ≤ c ∧ c ≤ maxLen := by
  rcases h.2 with ⟨hv, h0⟩ | ⟨g, cp, cur, hv, _, _, h1, h2, _⟩
  · injection hv with _ _ hv
    rw [hv, h0]
    exact ⟨Nat.le_refl _, by simp [maxLen]⟩
  · injection hv with _ _ hv
    rw [hv]
    exact ⟨h1, h2⟩
theorem uq_ok {ks : List KeyT} (h : ∀ k ∈ ks, k.Ok) (m : Nat) : ∀ k ∈ uq (ks.take m), k.Ok := fun k hk => h k (List.mem_of_mem_take ((uq_mem _ _).1 hk))
set_option maxRecDepth 100000 in
set_option maxHeartbeats 2000000 in
theorem unlike_any (A : Option Addr) (ks : List KeyT) (n c m : Nat) (hm : min n 400 = m) (hl : ks.length = n) (hc : n ≤ c) (w : World) (hr : RdK w w.heap.size A ks) :
    Calls Try.prog 18 #[.slice A n c] w fun e w' => ∃ A' c', e = .returned (.slice A' (uq (ks.take m)).length c') ∧ OwnK w' w.heap.size A' c' (uq (ks.take m)) ∧ Below w.heap.size w w' := by
  have KF := Lib.hid (few_any A n c m hm w hc)
  have HL := Lib.hid hl
  have HR := Lib.hid hr
  have hmn : m ≤ n := by omega
  have HM4 := Lib.hid (show m ≤ 400 by omega)
  have hn63 : m ≤ 9223372036854775807 := by omega
  obtain ⟨fs, hfs⟩ := key_desc
  have HF := Lib.hid hfs
  obtain ⟨i1, hi1, hy0, hy1, hy2⟩ := info_parts info_key
  have HI1 := Lib.hid (And.intro hi1 (And.intro hy0 (And.intro hy1 hy2)))
  have eqg := key_guard
  clear hl hr hfs hm hi1 hy0 hy1 hy2
  go_enter Try.func18, Try.ntmps18
  go_wp2_with fail
  (with_reducible refine KF.out.mono ?_)
  rintro e w0 ⟨rfl, rfl⟩
  go_wp2_with fail
  go_loopw [3, 12] (fun u i wr => ∃ (j : Nat) (A' : Option Addr) (c' : Nat), j ≤ m ∧ i = .int .i64 j ∧ u = .slice A' (uq (ks.take j)).length c' ∧ OwnK wr w.heap.size A' c' (uq (ks.take j)) ∧ Below w.heap.size w wr) (fun _ i _ => m - (intOf i).toNat)
  case atStart => exact ⟨0, none, 0, Nat.zero_le _, rfl, rfl, World.ownsRow_nil _ _ _ _, Below.refl _ _⟩
  case round =>
    obtain ⟨j, A', c', hj, rfl, rfl, hown, hbel⟩ := hrel
    have HUM := Lib.hid (show ∀ y ∈ uq (ks.take j), y.Ok from fun y hy => HR.out.each y (List.mem_of_mem_take ((uq_mem _ _).1 hy)))
    have hul : (uq (ks.take j)).length ≤ j := Nat.le_trans (uq_length _) (by rw [List.length_take]; omega)
    by_cases hlt : j < m
    · have hjx : j < ks.length := by rw [HL.out]; omega
      obtain ⟨g, off, rfl, hg, hra, hok⟩ := (HR.out.below hbel).at_ hjx
      obtain ⟨x, hx⟩ : ∃ x, ks[j] = x := ⟨_, rfl⟩
      have HTK := Lib.hid (show uq (ks.take (j + 1)) = if x ∈ uq (ks.take j) then uq (ks.take j) else uq (ks.take j) ++ [x] by rw [List.take_succ_eq_append_getElem hjx, hx, uq_snoc])
      rw [hx] at hra hok
      generalize uq (ks.take j) = U at *
      obtain ⟨u, hu⟩ : ∃ u, U.length = u := ⟨_, rfl⟩
      have HU := Lib.hid hu
      have hu4 : u ≤ 400 := by have := HM4.out; omega
      have HKS := Lib.hid (show (Try.prog.info? 27).map (·.size) = some (kcs x).length by rw [kcs_length hok]; exact key_size)
      have HKS2 := Lib.hid (show (Try.prog.info? 27).map (·.size) = some (kcs x).toArray.size by rw [List.size_toArray]; exact HKS.out)
      have HOLD := Lib.hid (show (kz 0).size = (kcs x).toArray.size from (show (kz 0).size = 33 from rfl).trans (by rw [List.size_toArray, kcs_length hok]))
      have HRA := Lib.hid hra
      have HBZ := Lib.hid (Blk.new wr 27 (kz 0))
      have HONE := Lib.hid (kcs_one (k := x))
      have hbx : Below wr.heap.size wr (wr.alloc (.cells (kcs x).toArray 27)) := (Below.refl wr.heap.size wr).alloc (Nat.le_refl _) (.cells (kcs x).toArray 27)
      have hkb := Blk.new wr 27 (kcs x).toArray
      obtain ⟨w1, hw1⟩ : ∃ w1, wr.alloc (.cells (kcs x).toArray 27) = w1 := ⟨_, rfl⟩
      obtain ⟨kb, hkbe⟩ : ∃ kb, wr.heap.size = kb := ⟨_, rfl⟩
      rw [hw1] at hbx hkb
      have HOWN1 := Lib.hid (show OwnK w1 w.heap.size A' c' U from ownsRow_below hown hbx)
      have HBEL1 := Lib.hid (hbel.trans (hbx.mono hbel.size))
      rw [hkbe] at hkb
      have HKB1 := Lib.hid hkb
      have HW1 := Lib.hid hw1
      have HKBE := Lib.hid hkbe
      have HOK := Lib.hid hok
      have hi1 : (0 : Int) ≤ (j : Int) := by omega
      have hi2 : (j : Int) < (m : Int) := by omega
      rw [hu]
      clear hra hok hx hown hbel hbx hkb hw1 hkbe hjx hu
      go_wp2_with (first
        | refine wpList_load_mid rfl 27 (.tmp 14) rfl g (off + j * 33) rfl (kcs x) (.struct fs) HRA.out HF.out rfl HKS.out ?_
        | (refine wpList_store_row rfl 27 (.tmp 5) (.tmp 15) rfl wr.heap.size (kcs x).toArray rfl rfl 27 (kz 0) HBZ.out HKS2.out HOLD.out HONE.out ?_; rw [setRow_alloc]))
      rw [HW1.out, HKBE.out]
      go_loopw [6, 18] (fun b i wz => ∃ p : Nat, p ≤ u ∧ i = .int .i64 p ∧ b = .bool (decide (x ∈ U.take p)) ∧ Below w1.heap.size w1 wz) (fun _ i _ => u - (intOf i).toNat)
      case atStart => exact ⟨0, Nat.zero_le _, rfl, by simp, Below.refl _ _⟩
      case round =>
        obtain ⟨p, hp, rfl, rfl, hb⟩ := hrel
        by_cases hpu : p < u
        · have hpU : p < U.length := by rw [HU.out]; exact hpu
          obtain ⟨g2, off2, rfl, hg2, hra2, hoky⟩ := (OwnK.rd (show OwnK wr w.heap.size A' c' U from ownsRow_below HOWN1.out hb) HUM.out).at_ hpU
          obtain ⟨y, hy⟩ : ∃ y, U[p] = y := ⟨_, rfl⟩
          have HTP := Lib.hid (show decide (x ∈ U.take (p + 1)) = (decide (x ∈ U.take p) || decide (y = x)) by
            rw [List.take_succ_eq_append_getElem hpU, hy, ← Bool.decide_or]
            refine decide_eq_decide.2 ?_
            rw [List.mem_append, List.mem_singleton]
            exact ⟨fun h => h.imp id Eq.symm, fun h => h.imp id Eq.symm⟩)
          rw [hy] at hra2 hoky
          have HRA2 := Lib.hid hra2
          have HKY := Lib.hid (show (Try.prog.info? 27).map (·.size) = some (kcs y).length by rw [kcs_length hoky]; exact key_size)
          have HKY2 := Lib.hid (show (Try.prog.info? 27).map (·.size) = some (kcs y).toArray.size by rw [List.size_toArray]; exact HKY.out)
          have HOLDY := Lib.hid (show (kz 0).size = (kcs y).toArray.size from (show (kz 0).size = 33 from rfl).trans (by rw [List.size_toArray, kcs_length hoky]))
          have HBZ2 := Lib.hid (Blk.new wr 27 (kz 0))
          have HONEY := Lib.hid (kcs_one (k := y))
          have hby : Below wr.heap.size wr (wr.alloc (.cells (kcs y).toArray 27)) := (Below.refl wr.heap.size wr).alloc (Nat.le_refl _) (.cells (kcs y).toArray 27)
          have hyb := Blk.new wr 27 (kcs y).toArray
          obtain ⟨w2, hw2⟩ : ∃ w2, wr.alloc (.cells (kcs y).toArray 27) = w2 := ⟨_, rfl⟩
          obtain ⟨yb, hybe⟩ : ∃ yb, wr.heap.size = yb := ⟨_, rfl⟩
          rw [hw2] at hby hyb
          have HBW2 := Lib.hid (hb.trans (hby.mono hb.size))
          have HKB2 := Lib.hid (HKB1.out.below HBW2.out HKB1.out.lt)
          rw [hybe] at hyb
          have HYB := Lib.hid hyb
          have HW2 := Lib.hid hw2
          have HYBE := Lib.hid hybe
          have eqs : ∀ W, (Op.equalIn 10000 27 (.agg (kcs y).toArray) (.agg (kcs x).toArray)).run Try.prog W = .ok (decide (y = x)) W := fun W => key_eq_in hoky HOK.out W
          have hj1 : (0 : Int) ≤ (p : Int) := by omega
          have hj2 : (p : Int) < (u : Int) := by omega
          clear hra2 hoky hy hb hby hyb hw2 hybe hpU
          by_cases hin : x ∈ U.take p
          · rw [decide_eq_true hin] at HTP ⊢
            go_wp2_with (first
              | refine wpList_load_mid rfl 27 (.tmp 20) rfl g2 (off2 + p * 33) rfl (kcs y) (.struct fs) HRA2.out HF.out rfl HKY.out ?_
              | (refine wpList_store_row rfl 27 (.tmp 8) (.tmp 21) rfl wr.heap.size (kcs y).toArray rfl rfl 27 (kz 0) HBZ2.out HKY2.out HOLDY.out HONEY.out ?_; rw [setRow_alloc]))
            rw [HW2.out]
            go_roundw
            case rel => exact ⟨p + 1, by omega, by go_num, by rw [HTP.out]; rfl, HBW2.out⟩
            case measure => simp [intOf]; omega
          · rw [decide_eq_false hin] at HTP ⊢
            go_wp2_with (first
              | refine wpList_load_mid rfl 27 (.tmp 20) rfl g2 (off2 + p * 33) rfl (kcs y) (.struct fs) HRA2.out HF.out rfl HKY.out ?_
              | (refine wpList_store_row rfl 27 (.tmp 8) (.tmp 21) rfl wr.heap.size (kcs y).toArray rfl rfl 27 (kz 0) HBZ2.out HKY2.out HOLDY.out HONEY.out ?_; rw [setRow_alloc, HW2.out, HYBE.out])
              | refine wpList_load_want rfl 27 (.tmp 8) rfl yb rfl 27 (kcs y).toArray (0, 0) (.struct fs) HYB.out HF.out rfl HKY2.out ?_
              | refine wpList_load_want rfl 27 (.tmp 5) rfl kb rfl 27 (kcs x).toArray (0, 0) (.struct fs) HKB2.out HF.out rfl HKS2.out ?_)
            go_roundw
            case rel => exact ⟨p + 1, by omega, by go_num, by rw [HTP.out]; rfl, HBW2.out⟩
            case measure => simp [intOf]; omega
        · obtain rfl : u = p := by omega
          rw [List.take_of_length_le (by rw [HU.out]; exact Nat.le_refl _)]
          have HBE := Lib.hid (HBEL1.out.trans (hb.mono HBEL1.out.size))
          have HOW := Lib.hid (show OwnK wr w.heap.size A' c' U from ownsRow_below HOWN1.out hb)
          have HKB2 := Lib.hid (HKB1.out.below hb HKB1.out.lt)
          clear hb
          by_cases hin : x ∈ U
          · rw [decide_eq_true hin]
            rw [if_pos hin] at HTK
            go_wp2_with fail
            go_roundw
            case rel => exact ⟨j + 1, A', c', by omega, by go_num, by rw [HTK.out, HU.out], by rw [HTK.out]; exact HOW.out, HBE.out⟩
            case measure => simp [intOf]; omega
          · rw [decide_eq_false hin]
            rw [if_neg hin] at HTK
            have HOWN2 := Lib.hid (show (wr.alloc (.cells (kcs x).toArray 27)).ownsRow w.heap.size 27 33 (.slice A' u c') u (U.flatMap kcs) by
              have := World.ownsRow.alloc HOW.out (.cells (kcs x).toArray 27)
              rw [HU.out] at this
              exact this)
            have HBA := Lib.hid (HBE.out.trans (((Below.refl wr.heap.size wr).alloc (Nat.le_refl _) (.cells (kcs x).toArray 27)).mono HBE.out.size))
            have HNW := Lib.hid (show ∀ (j : Nat) (v : Value), (kcs x)[j]? = some v → (wr.alloc (.cells (kcs x).toArray 27)).cell? ((⟨wr.heap.size, 0, none⟩ : Addr).add j) = some v from fun j v hv => by
              rw [Addr.add_lit, (Blk.new wr 27 (kcs x).toArray).cell, Nat.zero_add, List.getElem?_toArray]; exact hv)
            have HONE2 := Lib.hid (show ∀ v ∈ kcs x, v.oneCell' = true from fun v hv => by
              rcases List.mem_append.1 hv with h | h
              · exact bv_oneCell _ v h
              · rw [List.mem_singleton.1 h]; rfl)
            have HLN := Lib.hid (show u + 1 ≤ maxLen ∧ (u + 1) * 36 ≤ 140737488355328 by have := HM4.out; unfold maxLen; omega)
            have HLK := Lib.hid (show (kcs x).length = 1 * 33 by rw [kcs_length HOK.out])
            go_wp2_with (first
              | refine wpList_load_row rfl 27 (.tmp 5) rfl kb rfl 27 (kcs x).toArray (0, 0) (.struct fs) HKB2.out HF.out rfl HKS2.out ?_
              | refine wpList_buildKey rfl (.tmp 32) rfl HOK.out rfl ?_
              | (at_builtin; refine wpList_append_own _ rfl (.tmp 31) (.tmp 33) 31 rfl w.heap.size 27 i1 _ 33 36 Try.underlying31 HI1.out.1 HI1.out.2.1 HI1.out.2.2.1 HI1.out.2.2.2 rfl (by omega) (.slice A' u c') u (U.flatMap kcs) rfl HOWN2.out ⟨wr.heap.size, 0, none⟩ 1 1 (kcs x) rfl HLK.out HNW.out HONE2.out HLN.out.1 HLN.out.2 HBA.out.size ?_; intro v3 w3 hown3 hgrow3 hnil3; clear hnil3; have H3 := Lib.hid (And.intro hown3 hgrow3); clear hown3 hgrow3))
            obtain ⟨A3, c3, hv3⟩ : ∃ A3 c3, v3 = .slice A3 (u + 1) c3 := by
              rcases H3.out.1.2 with ⟨hv, h0⟩ | ⟨g3, cp, cur, hv, _⟩
              · omega
              · exact ⟨_, _, hv⟩
            subst hv3
            go_roundw
            case rel =>
              refine ⟨j + 1, A3, c3, by omega, by go_num, ?_, ?_, ?_⟩
              · rw [HTK.out, List.length_append, HU.out]; rfl
              · rw [HTK.out]
                show w3.ownsRow _ _ _ (.slice A3 (U ++ [x]).length c3) (U ++ [x]).length _
                rw [List.length_append, HU.out, List.flatMap_append, show [x].flatMap kcs = kcs x by simp]
                exact H3.out.1
              · exact HBA.out.grown H3.out.2 HBA.out.size (fun k e => (World.ownsRow.lt HOWN2.out k e).1)
            case measure => simp [intOf]; omega
    · obtain rfl : m = j := by omega
      have HOWN := Lib.hid hown
      have HBEL := Lib.hid hbel
      clear hown hbel
      go_wp2_with fail
      go_ret
      exact ⟨A', c', rfl, HOWN.out, HBEL.out⟩
end Go.Proofs.Ytacijjioaanlgaa
