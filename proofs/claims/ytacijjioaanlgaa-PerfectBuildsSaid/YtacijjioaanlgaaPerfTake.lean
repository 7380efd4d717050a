/- The contracts of take and choose of package perfect. No statement of the seat is proved here. -/
import Derived.Test.YtacijjioaanlgaaPerfHash
import Derived.Test.YtacijjioaanlgaaPerfUse
import Derived.Test.YtacijjioaanlgaaOwnRow
namespace Go.Proofs.Ytacijjioaanlgaa
open Go.RowKit
set_option linter.unusedVariables false

theorem below_grown {w W : World} (h : Below w.heap.size w W) (g : Nat) : w.grownBy W (some g) := ⟨h.os, h.tape, h.output, h.size, fun k hk _ => h.block k hk⟩
theorem gby_trans {a b c : World} {row : Option Nat} (h : a.grownBy b row) (k : b.grownBy c row) : a.grownBy c row :=
  ⟨k.os.trans h.os, k.tape.trans h.tape, k.output.trans h.output, Nat.le_trans h.size k.size, fun i hi hn => (k.block i (Nat.lt_of_lt_of_le hi h.size) hn).trans (h.block i hi hn)⟩
theorem Blk.other {w : World} {a b : Nat} {s t : TypeId} {cs ds : Array Value} (h : Blk w a s cs) (k : Blk w b t ds) (hne : s ≠ t) : a ≠ b := by
  rintro rfl
  unfold Blk at h k
  rw [h] at k
  injection k with k
  injection k with _ k _
  exact hne k
theorem blk_grownOther {w w' : World} {a b : Nat} {t : TypeId} {cs : Array Value} (h : Blk w a t cs) (hg : w.grownBy w' (some b)) (hne : a ≠ b) : Blk w' a t cs :=
  h.same (hg.block a h.lt (fun e => hne (by injection e)))
/-- In w the block u holds the first n of U. -/
abbrev Used (w : World) (u n : Nat) (U : Nat → Bool) : Prop := Blk w u 4 (ucs n U).toArray
theorem Used.at_ {w : World} {u n : Nat} {U : Nat → Bool} (h : Used w u n U) {i : Nat} (hi : i < n) : w.cell? ⟨u, i, none⟩ = some (.bool (U i)) := by
  rw [h.cell, List.getElem?_toArray, ucs_get hi]
theorem Used.set1 {w : World} {u n : Nat} {U : Nat → Bool} (h : Used w u n U) (p : Nat) (b : Bool) : Used (w.setCell ⟨u, p, none⟩ (.bool b)) u n (setU U p b) := by
  have := h.set_ p (.bool b)
  rw [ucs_set] at this
  exact this
theorem grownBy_cell (W : World) (b i : Nat) (v : Value) : W.grownBy (W.setCell ⟨b, i, none⟩ v) (some b) :=
  ⟨rfl, rfl, rfl, by rw [setCell_size]; exact Nat.le_refl _, fun k _ hk => setCell_block (fun e => hk (by rw [e]))⟩
/-- Keys lie elsewhere. -/
theorem RdK.used {w w' : World} {B u n : Nat} {U : Nat → Bool} {A : Option Addr} {ks : List KeyT} (h : RdK w B A ks) (hB : B ≤ w.heap.size) (hu : Used w u n U) (hg : w.grownBy w' (some u)) : RdK w' B A ks := by
  refine ⟨fun hn => ?_, h.each⟩
  obtain ⟨g, off, e, hl, hc⟩ := h.rows hn
  refine ⟨g, off, e, hl, fun j hj i v hv => ?_⟩
  have hne : g ≠ u := by
    rintro rfl
    have hk0 : 0 < ks.length := by simpa using hn
    have h0 := hc 0 hn 0 (.int .u8 (ks[0].1[0]'(by have := (h.each _ (List.getElem_mem hk0)).1; omega)).toNat) (by
      rw [List.getElem_map]; exact kcs_byte _)
    rw [hu.cell, List.getElem?_toArray] at h0
    have := (List.getElem?_eq_some_iff.1 h0).1
    rw [ucs_length] at this
    rw [ucs_get this] at h0
    cases h0
  exact (World.cell?_of_block (hg.block g (by omega) (fun e => hne (by injection e)))).trans (hc j hj i v hv)
/-- The places of keys with a try. -/
def posL (n d : Nat) (ks : List KeyT) : List Nat := ks.map fun k => HH d k % n
theorem posL_take (n d j : Nat) (ks : List KeyT) : posL n d (ks.take j) = (posL n d ks).take j := by simp [posL]
theorem posL_lt {n d : Nat} (hn : 0 < n) {ks : List KeyT} {p : Nat} (hp : p ∈ posL n d ks) : p < n := by
  obtain ⟨k, _, rfl⟩ := List.mem_map.1 hp
  exact Nat.mod_lt _ hn
def fitB (n d : Nat) (U : Nat → Bool) (ks : List KeyT) : Bool := decide (Fits U (posL n d ks))
def tkU (n d : Nat) (U : Nat → Bool) (ks : List KeyT) : Nat → Bool := if Fits U (posL n d ks) then markL U (posL n d ks) else U
theorem take_len {α : Type} {l : List α} {n : Nat} (h : l.length = n) : l.take n = l := List.take_of_length_le (by omega)
set_option maxRecDepth 100000 in
set_option maxHeartbeats 2000000 in
theorem take_any (d n c m : Nat) (hd : d < 65536) (hn0 : 0 < n) (hn : n ≤ 4611686018427387904) (A : Option Addr) (ks : List KeyT) (hl : ks.length = m) (hc : m ≤ c) (hm : c ≤ maxLen) (u : Nat) (U : Nat → Bool) (w : World) (hr : RdK w w.heap.size A ks) (hu : Used w u n U) :
    Calls Try.prog 35 #[.int .u16 d, .slice A m c, .slice (some ⟨u, 0, none⟩) n n] w fun e w' => e = .returned (.bool (fitB n d U ks)) ∧ Used w' u n (tkU n d U ks) ∧ w.grownBy w' (some u) := by
  have hm63 : c ≤ 9223372036854775807 := by unfold maxLen at hm; omega
  have hn63 : n ≤ 9223372036854775807 := by omega
  have HL := Lib.hid hl
  have HR := Lib.hid hr
  have HU := Lib.hid hu
  have HDU := Lib.hid (show d < 18446744073709551616 by omega)
  have HN := Lib.hid (And.intro hn0 hn)
  obtain ⟨fs, hfs⟩ := key_desc
  have HF := Lib.hid hfs
  have hwz := hu.lt
  obtain ⟨P, hP⟩ : ∃ P, posL n d ks = P := ⟨_, rfl⟩
  have HPL := Lib.hid (show P.length = m by rw [← hP, posL, List.length_map, hl])
  have HPP := Lib.hid (show ∀ j (h : j < ks.length) (h' : j < P.length), HH d ks[j] % n = P[j] from fun j h h' => by subst hP; simp [posL])
  have HPT := Lib.hid (show ∀ p ∈ P, p < n from fun p hp => posL_lt hn0 (hP ▸ hp))
  have HFB := Lib.hid (show fitB n d U ks = decide (Fits U P) by rw [fitB, hP])
  have HTU := Lib.hid (show tkU n d U ks = if Fits U P then markL U P else U by rw [tkU, hP])
  generalize fitB n d U ks = fB at *
  generalize tkU n d U ks = tU at *
  clear hl hr hu hfs hm hP hn0 hn
  go_enter Try.func35, Try.ntmps35
  go_wp2_with fail
  go_loopw [14] (fun i wr => ∃ j : Nat, j ≤ m ∧ i = .int .i64 j ∧ Fits U (P.take j) ∧ Used wr u n (markL U (P.take j)) ∧ w.grownBy wr (some u)) (fun i _ => m - (intOf i).toNat)
  case atStart => exact ⟨0, Nat.zero_le _, rfl, by simpa using fits_nil U, by simpa [markL_nil] using HU.out, World.grownBy.refl _ _⟩
  case round =>
    obtain ⟨j, hj, rfl, hfit, hus, hgr⟩ := hrel
    by_cases hlt : j < m
    · have hjx : j < ks.length := by rw [HL.out]; exact hlt
      have hjp : j < P.length := by rw [HPL.out]; exact hlt
      have HRJ := Lib.hid ((HR.out.used (Nat.le_refl _) HU.out hgr).more hgr.size)
      obtain ⟨g, off, rfl, hg, hra, hok⟩ := HRJ.out.at_ hjx
      have HPJ := Lib.hid (HPP.out j hjx hjp)
      have hpn := HPT.out P[j] (List.getElem_mem hjp)
      have HTK := Lib.hid (show P.take (j + 1) = P.take j ++ [P[j]] from List.take_succ_eq_append_getElem hjp)
      have HNF := Lib.hid (show markL U (P.take j) P[j] = true → ¬ Fits U P from fun hmk hf => by
        have := fits_take hf (j + 1)
        rw [HTK.out, fits_snoc, hmk] at this
        exact absurd this.2 (by simp))
      have HYF := Lib.hid (show markL U (P.take j) P[j] = false → Fits U (P.take (j + 1)) from fun hmk => by rw [HTK.out, fits_snoc]; exact ⟨hfit, hmk⟩)
      generalize P[j] = p at *
      generalize ks[j] = x at *
      have HKS := Lib.hid (show (Try.prog.info? 27).map (·.size) = some (kcs x).length by rw [kcs_length hok]; exact key_size)
      have HKS2 := Lib.hid (show (Try.prog.info? 27).map (·.size) = some (kcs x).toArray.size by rw [List.size_toArray]; exact HKS.out)
      have HOLD := Lib.hid (show (kz 0).size = (kcs x).toArray.size from (show (kz 0).size = 33 from rfl).trans (by rw [List.size_toArray, kcs_length hok]))
      have HRA := Lib.hid hra
      have HB1 := Lib.hid (Blk.new wr 27 (kcs x).toArray)
      have HBZ := Lib.hid (Blk.new wr 27 (kz 0))
      have HONE := Lib.hid (kcs_one (k := x))
      have hbx := (Below.refl wr.heap.size wr).alloc (Nat.le_refl _) (.cells (kcs x).toArray 27)
      have HBX := Lib.hid hbx
      have HUS := Lib.hid (hus.below hbx hus.lt)
      have HGR := Lib.hid (gby_trans hgr (below_grown hbx u))
      have KI := Lib.hid (index_any d n HDU.out HN.out.1 HN.out.2 x hok (wr.alloc (.cells (kcs x).toArray 27)))
      have HFT := Lib.hid hfit
      have hi1 : (0 : Int) ≤ (j : Int) := by omega
      have hi2 : (j : Int) < (m : Int) := by omega
      have hjc : (j : Int) ≤ (c : Int) := by omega
      clear hra hok hfit hus hgr hbx
      go_wp2_with (first
        | refine wpList_load_mid rfl 27 (.tmp 17) rfl g (off + j * 33) rfl (kcs x) (.struct fs) HRA.out HF.out rfl HKS.out ?_
        | (refine wpList_store_row rfl 27 (.tmp 8) (.tmp 18) rfl wr.heap.size (kcs x).toArray rfl rfl 27 (kz 0) HBZ.out HKS2.out HOLD.out HONE.out ?_; rw [setRow_alloc])
        | refine wpList_load_row rfl 27 (.tmp 8) rfl wr.heap.size rfl 27 (kcs x).toArray (0, 0) (.struct fs) HB1.out HF.out rfl HKS2.out ?_)
      (with_reducible refine KI.out.mono ?_)
      rintro e w2 ⟨rfl, hb2⟩
      rw [HPJ.out]
      have hu2 := HUS.out.below hb2 HUS.out.lt
      have hg2 := gby_trans HGR.out (below_grown hb2 u)
      have hcu := Used.at_ hu2 hpn
      have hfz := Blk.frozen hu2 p
      have HU2 := Lib.hid hu2
      have HG2 := Lib.hid hg2
      have hp1 : (0 : Int) ≤ (p : Int) := by omega
      have hp2 : (p : Int) < (n : Int) := by omega
      clear hb2 hu2 hg2
      cases hmk : markL U (P.take j) p
      · rw [hmk] at hcu
        have HMK := Lib.hid hmk
        clear hmk
        go_wp2_with fail
        go_roundw
        case rel => exact ⟨j + 1, by omega, by go_num, HYF.out HMK.out, by rw [HTK.out, markL_snoc]; exact Used.set1 HU2.out p true, gby_trans HG2.out (grownBy_cell _ _ _ _)⟩
        case measure => simp [intOf]; omega
      · rw [hmk] at hcu
        have HNO := Lib.hid (HNF.out hmk)
        clear hmk
        go_wp2_with fail
        go_loopw [33] (fun i wz => ∃ i' : Nat, i' ≤ j ∧ i = .int .i64 i' ∧ Used wz u n (unmarkL (markL U (P.take j)) (P.take i')) ∧ w.grownBy wz (some u)) (fun i _ => j - (intOf i).toNat)
        case atStart => exact ⟨0, Nat.zero_le _, rfl, by simpa [unmarkL_nil] using HU2.out, HG2.out⟩
        case round =>
          clear HTK HYF HPJ HKS HKS2 HOLD HRA HB1 HBZ HONE HBX HUS HGR KI HU2 HG2 hcu hfz hi1 hi2 hp1 hp2 hpn hg hjp HRJ
          obtain ⟨i, hi, rfl, hus, hgr⟩ := hrel
          by_cases hlt2 : i < j
          · have hix : i < ks.length := by rw [HL.out]; omega
            have hip : i < P.length := by rw [HPL.out]; omega
            have HRJ := Lib.hid ((HR.out.used (Nat.le_refl _) HU.out hgr).more hgr.size)
            obtain ⟨g2, off2, eA, hg, hra, hok⟩ := HRJ.out.at_ hix
            injection eA with eA
            injection eA with e1 e2 _
            subst e1 e2
            have HPJ := Lib.hid (HPP.out i hix hip)
            have hpn := HPT.out P[i] (List.getElem_mem hip)
            have HTK := Lib.hid (show P.take (i + 1) = P.take i ++ [P[i]] from List.take_succ_eq_append_getElem hip)
            generalize P[i] = p2 at *
            generalize ks[i] = y at *
            have HKS := Lib.hid (show (Try.prog.info? 27).map (·.size) = some (kcs y).length by rw [kcs_length hok]; exact key_size)
            have HKS2 := Lib.hid (show (Try.prog.info? 27).map (·.size) = some (kcs y).toArray.size by rw [List.size_toArray]; exact HKS.out)
            have HOLD := Lib.hid (show (kz 0).size = (kcs y).toArray.size from (show (kz 0).size = 33 from rfl).trans (by rw [List.size_toArray, kcs_length hok]))
            have HRA := Lib.hid hra
            have HB1 := Lib.hid (Blk.new wr 27 (kcs y).toArray)
            have HBZ := Lib.hid (Blk.new wr 27 (kz 0))
            have HONE := Lib.hid (kcs_one (k := y))
            have hbx := (Below.refl wr.heap.size wr).alloc (Nat.le_refl _) (.cells (kcs y).toArray 27)
            have HUS := Lib.hid (hus.below hbx hus.lt)
            have HGR := Lib.hid (gby_trans hgr (below_grown hbx u))
            have KI := Lib.hid (index_any d n HDU.out HN.out.1 HN.out.2 y hok (wr.alloc (.cells (kcs y).toArray 27)))
            have hi1 : (0 : Int) ≤ (i : Int) := by omega
            have hi2 : (i : Int) < (j : Int) := by omega
            clear hra hok hus hgr hbx
            go_wp2_with (first
              | refine wpList_load_mid rfl 27 (.tmp 35) rfl g (off + i * 33) rfl (kcs y) (.struct fs) HRA.out HF.out rfl HKS.out ?_
              | (refine wpList_store_row rfl 27 (.tmp 11) (.tmp 36) rfl wr.heap.size (kcs y).toArray rfl rfl 27 (kz 0) HBZ.out HKS2.out HOLD.out HONE.out ?_; rw [setRow_alloc])
              | refine wpList_load_row rfl 27 (.tmp 11) rfl wr.heap.size rfl 27 (kcs y).toArray (0, 0) (.struct fs) HB1.out HF.out rfl HKS2.out ?_)
            (with_reducible refine KI.out.mono ?_)
            rintro e w3 ⟨rfl, hb2⟩
            rw [HPJ.out]
            have hu2 := HUS.out.below hb2 HUS.out.lt
            have hg2 := gby_trans HGR.out (below_grown hb2 u)
            have hfz := Blk.frozen hu2 p2
            have hcu := Used.at_ hu2 hpn
            have HU2 := Lib.hid hu2
            have HG2 := Lib.hid hg2
            have hp1 : (0 : Int) ≤ (p2 : Int) := by omega
            have hp2 : (p2 : Int) < (n : Int) := by omega
            clear hb2 hu2 hg2
            go_wp2_with fail
            go_roundw
            case rel => exact ⟨i + 1, by omega, by go_num, by rw [HTK.out, unmarkL_snoc]; exact Used.set1 HU2.out p2 false, gby_trans HG2.out (grownBy_cell _ _ _ _)⟩
            case measure => simp [intOf]; omega
          · obtain rfl : j = i := by omega
            rw [unmark_mark HFT.out.2] at hus
            have H := Lib.hid (And.intro hus hgr)
            clear hus hgr
            go_wp2_with fail
            go_ret
            exact ⟨by rw [HFB.out, decide_eq_false HNO.out]; rfl, by rw [HTU.out, if_neg HNO.out]; exact H.out.1, H.out.2⟩
    · obtain rfl : m = j := by omega
      rw [take_len HPL.out] at hfit hus
      have H := Lib.hid (And.intro hfit (And.intro hus hgr))
      clear hfit hus hgr
      go_wp2_with fail
      go_ret
      exact ⟨by rw [HFB.out, decide_eq_true H.out.1]; rfl, by rw [HTU.out, if_pos H.out.1]; exact H.out.2.1, H.out.2.2⟩
/-- The try of a group's keys; 0 if none fits. -/
def chD (n : Nat) (U : Nat → Bool) (ks : List KeyT) : Nat := firstD (fun d => decide (Fits U (posL n d ks))) 256
def chU (n : Nat) (U : Nat → Bool) (ks : List KeyT) : Nat → Bool := if chD n U ks = 0 then U else markL U (posL n (chD n U ks) ks)
set_option maxRecDepth 100000 in
set_option maxHeartbeats 2000000 in
theorem choose_any (n c m : Nat) (hn0 : 0 < n) (hn : n ≤ 4611686018427387904) (A : Option Addr) (ks : List KeyT) (hl : ks.length = m) (hc : m ≤ c) (hm : c ≤ maxLen) (u : Nat) (U : Nat → Bool) (w : World) (hr : RdK w w.heap.size A ks) (hu : Used w u n U) :
    Calls Try.prog 22 #[.slice A m c, .slice (some ⟨u, 0, none⟩) n n] w fun e w' => e = .returned (.int .u16 (chD n U ks)) ∧ Used w' u n (chU n U ks) ∧ w.grownBy w' (some u) := by
  obtain ⟨q, hq⟩ : ∃ q : Nat → Bool, (fun d => decide (Fits U (posL n d ks))) = q := ⟨_, rfl⟩
  have HR := Lib.hid hr
  have HU := Lib.hid hu
  have HQ := Lib.hid (show ∀ d : Nat, d < 65536 → ∀ W, RdK W W.heap.size A ks → Used W u n U → Calls Try.prog 35 #[.int .u16 d, .slice A m c, .slice (some ⟨u, 0, none⟩) n n] W fun e w' => e = .returned (.bool (q d)) ∧
      Used w' u n (if q d = true then markL U (posL n d ks) else U) ∧ W.grownBy w' (some u) from fun d hd W h1 h2 => by
    subst hq
    refine (take_any d n c m hd hn0 hn A ks hl hc hm u U W h1 h2).mono fun e w' ⟨he, hu, hg⟩ => ⟨he, ?_, hg⟩
    simpa [tkU] using hu)
  have HDU := Lib.hid (show chD n U ks = firstD q 256 by rw [chD, hq])
  have HUU := Lib.hid (show chU n U ks = if firstD q 256 = 0 then U else markL U (posL n (firstD q 256) ks) by rw [chU, chD, hq])
  clear hr hu hq hl hc hm hn0 hn
  generalize chD n U ks = D at *
  generalize chU n U ks = V at *
  go_enter Try.func22, Try.ntmps22
  go_wp2_with fail
  go_loopw [5] (fun i wr => ∃ d : Nat, 1 ≤ d ∧ d ≤ 257 ∧ i = .int .u16 d ∧ (∀ e, 1 ≤ e → e < d → q e = false) ∧ Used wr u n U ∧ w.grownBy wr (some u)) (fun i _ => 257 - (intOf i).toNat)
  case atStart => exact ⟨1, Nat.le_refl _, by omega, rfl, fun e h1 h2 => by omega, HU.out, World.grownBy.refl _ _⟩
  case round =>
    obtain ⟨d, hd1, hd2, rfl, hnq, hus, hgr⟩ := hrel
    have hi1 : (0 : Int) ≤ (d : Int) := by omega
    by_cases hlt : d < 257
    · have hi2 : (d : Int) ≤ 256 := by omega
      have KT := Lib.hid (HQ.out d (by omega) wr ((HR.out.used (Nat.le_refl _) HU.out hgr).more hgr.size) hus)
      have HGR := Lib.hid hgr
      have HNQ := Lib.hid hnq
      clear hus hgr hnq
      cases hqd : q d
      · rw [hqd] at KT
        have HQD := Lib.hid hqd
        clear hqd
        go_wp2_with fail
        (with_reducible refine KT.out.mono ?_)
        rintro e w2 ⟨rfl, hu2, hg2⟩
        have H := Lib.hid (And.intro hu2 (gby_trans HGR.out hg2))
        clear hu2 hg2
        go_wp2_with fail
        go_roundw
        case rel => exact ⟨d + 1, by omega, by omega, by go_num, fun e h1 h2 => by
          by_cases e1 : e = d
          · rw [e1]; exact HQD.out
          · exact HNQ.out e h1 (by omega), by simpa using H.out.1, H.out.2⟩
        case measure => simp [intOf]; omega
      · rw [hqd] at KT
        have HFD := Lib.hid (firstD_first hd1 (by omega) hqd HNQ.out : firstD q 256 = d)
        clear hqd
        go_wp2_with fail
        (with_reducible refine KT.out.mono ?_)
        rintro e w2 ⟨rfl, hu2, hg2⟩
        have H := Lib.hid (And.intro hu2 (gby_trans HGR.out hg2))
        clear hu2 hg2
        go_wp2_with fail
        go_ret
        refine ⟨pf_ret (by rw [HDU.out, HFD.out]), ?_, H.out.2⟩
        rw [HUU.out, HFD.out, if_neg (by omega)]
        simpa using H.out.1
    · obtain rfl : d = 257 := by omega
      have HFD := Lib.hid (firstD_none.2 (fun e h1 h2 => hnq e h1 (by omega)) : firstD q 256 = 0)
      have H := Lib.hid (And.intro hus hgr)
      clear hus hgr hnq
      go_wp2_with fail
      go_ret
      refine ⟨pf_ret (by rw [HDU.out, HFD.out]; rfl), ?_, H.out.2⟩
      rw [HUU.out, HFD.out, if_pos rfl]
      exact H.out.1
end Go.Proofs.Ytacijjioaanlgaa
