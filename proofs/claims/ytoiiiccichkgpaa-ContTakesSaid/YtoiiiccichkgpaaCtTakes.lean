/- The walk of ContTakes, told from what the package does. No statement of the seat is proved here. -/
import Derived.Test.YtoiiiccichkgpaaMidWant
import Derived.Test.YtoiiiccichkgpaaCtLays
import Derived.Test.YtoiiiccichkgpaaCtTakeD
import Derived.Test.YtoiiiccichkgpaaCtRefF
import Derived.Test.YtoiiiccichkgpaaCtRefH
import Derived.Test.YtoiiiccichkgpaaAllocZ
import Derived.Deep.WholeRow
import Derived.Great.BuildSlice
namespace Go.Proofs.Ytoiiiccichkgpaa
open Go.RowKit Go.Sort
set_option linter.unusedVariables false
set_option linter.unusedSimpArgs false

theorem ownk_rd {w : World} {B c k : Nat} {A : Option Addr} {l : List KeyT} (h : OwnK w B A c l) (hl : l.length = k) (ho : ∀ x ∈ l, x.Ok) : RdK w w.heap.size A l := OwnK.rd h ho
theorem piece_size : (Try.prog.info? 42).map (·.size) = some 34 := by kernel_rfl
theorem kz_cells : kcs zeroC.key = [.int .u8 0, .int .u8 0, .int .u8 0, .int .u8 0, .int .u8 0, .int .u8 0, .int .u8 0, .int .u8 0, .int .u8 0, .int .u8 0, .int .u8 0, .int .u8 0, .int .u8 0, .int .u8 0, .int .u8 0, .int .u8 0, .int .u8 0, .int .u8 0, .int .u8 0, .int .u8 0, .int .u8 0, .int .u8 0, .int .u8 0, .int .u8 0, .int .u8 0, .int .u8 0, .int .u8 0, .int .u8 0, .int .u8 0, .int .u8 0, .int .u8 0, .int .u8 0, .int .u32 0] := by
  simp [kcs, zeroC, PcD.key, bv, List.replicate]
theorem key_zero (W : World) : (Op.equalIn 10000 40 (.agg (kcs zeroC.key).toArray) (.agg #[.int .u8 0, .int .u8 0, .int .u8 0, .int .u8 0, .int .u8 0, .int .u8 0, .int .u8 0, .int .u8 0, .int .u8 0, .int .u8 0, .int .u8 0, .int .u8 0, .int .u8 0, .int .u8 0, .int .u8 0, .int .u8 0, .int .u8 0, .int .u8 0, .int .u8 0, .int .u8 0, .int .u8 0, .int .u8 0, .int .u8 0, .int .u8 0, .int .u8 0, .int .u8 0, .int .u8 0, .int .u8 0, .int .u8 0, .int .u8 0, .int .u8 0, .int .u8 0, .int .u32 0])).run Try.prog W = .ok true W := by
  have h := key_eq_in (a := zeroC.key) (b := zeroC.key) zeroC_ok.key zeroC_ok.key W
  rw [decide_eq_true rfl] at h
  rw [kz_cells] at h ⊢
  exact h
set_option maxRecDepth 100000 in
set_option maxHeartbeats 8000000 in
theorem takes_walk (K : ContsOk) (A : Option Addr) (k c : Nat) (b : List UInt8) (hl : b.length = k) (hk : k ≤ c) (hc : c ≤ maxLen) (at_ : Int) (hat : In64 at_) (w : World) (hr : Rd w w.heap.size A b) :
    Calls Try.prog 4 #[.slice A k c, .int .i64 at_] w fun e w' => e = .returned (.bool true) ∧ Below w.heap.size w w' := by
  have C0 := Lib.hid (shown_any K w)
  by_cases hbig : 100000 < k
  · have hbi : (100000 : Int) < (k : Int) := by omega
    clear hl hk hc hr hbig
    go_enter Try.func4, Try.ntmps4
    go_wp2_with fail
    refine C0.out.mono ?_
    rintro e w1 ⟨rfl, hb1⟩
    go_wp2_with fail
    go_ret
    exact ⟨rfl, hb1⟩
  · have hbi : ¬ (100000 : Int) < (k : Int) := by omega
    have HL := Lib.hid (And.intro hl (And.intro hk (And.intro hc (show k ≤ 100000 by omega))))
    have HR := Lib.hid (fun W (hb : Below w.heap.size w W) => (hr.below hb).more hb.size)
    obtain ⟨iz, hiz, hzz, _⟩ := info_parts info_piece
    have HZ := Lib.hid (And.intro hiz hzz)
    obtain ⟨fs, hfs⟩ := key_desc
    have HF := Lib.hid hfs
    have HAT := Lib.hid hat
    clear hl hk hc hr hbig hiz hzz hfs hat
    go_enter Try.func4, Try.ntmps4
    go_wp2_with fail
    refine C0.out.mono ?_
    rintro e w1 ⟨rfl, hb1⟩
    have HB1 := Lib.hid hb1
    clear hb1 C0
    go_wp2_with fail
    refine (K.take A k c b w1 HL.out.1 HL.out.2.1 HL.out.2.2.1 HL.out.2.2.2 (HR.out _ HB1.out)).mono ?_
    rintro e w2 ⟨no2, yes2, hb2⟩
    have HB2 := Lib.hid (HB1.out.trans (hb2.mono HB1.out.size))
    clear hb2 hbi
    rcases takeC_cases b with ⟨id, l, ht, hR, hlay⟩ | ht
    · obtain ⟨A2, c2, ms, hms, rfl, ho2, hc3, hc4, hap⟩ := yes2 _ _ ht
      obtain ⟨hid, hok, _, _⟩ := takeC_ok ht
      have hml : ms.length = l.length := by rw [← hms, pds_length]
      have hpo : ∀ x ∈ ms, x.p.Ok := fun x hx => hok x.p (by rw [← hms]; exact List.mem_map_of_mem hx)
      have HM2 := Lib.hid (show RdPc w2 w2.heap.size A2 ms from by
        rw [← hml] at ho2
        exact OwnP.rd ho2 (hap.ok hpo))
      obtain ⟨m, hm⟩ : ∃ m, l.length = m := ⟨_, rfl⟩
      have hm3 : m ≤ 1000 := by rw [← hm]; exact (refC_zero hR).2.1
      have HT := Lib.hid (And.intro ht (And.intro hms (And.intro hm (And.intro hok (show ms.length = m by rw [hml, hm])))))
      rw [hm]
      clear no2 yes2 ht hR hlay ho2 hc3 hc4 hap hid hok hml hpo hm hms
      go_wp2_with fail
      refine (rtake_any A k c b w2 HL.out.1 HL.out.2.1 HL.out.2.2.1 HL.out.2.2.2 (HR.out _ HB2.out)).mono ?_
      rintro e w3 ⟨_, yes3, hb3⟩
      obtain ⟨A3, c3, ls, hls, rfl, hrd3⟩ := yes3 _ _ HT.out.1
      have HB3 := Lib.hid (HB2.out.trans (hb3.mono HB2.out.size))
      have HM3 := Lib.hid (And.intro ((HM2.out.below hb3).more hb3.size) hrd3)
      have HLS := Lib.hid (And.intro hls (show ls.length = m by rw [← HT.out.2.2.1, ← hls, pds_length]))
      rw [HT.out.2.2.1]
      clear yes3 hb3 hls hrd3 HM2
      go_wp2_with fail
      refine (K.keys A k c b w3 HL.out.1 HL.out.2.1 HL.out.2.2.1 HL.out.2.2.2 (HR.out _ HB3.out)).mono ?_
      rintro e w4 ⟨_, yes4, hb4⟩
      obtain ⟨A4, c4, rfl, hrk⟩ := yes4 _ _ HT.out.1
      have HB4 := Lib.hid (HB3.out.trans (hb4.mono HB3.out.size))
      have HM4 := Lib.hid (And.intro ((HM3.out.1.below hb4).more hb4.size) (And.intro ((HM3.out.2.below hb4).more hb4.size) hrk))
      rw [HT.out.2.2.1]
      clear yes4 hb4 hrk HM3
      go_wp2_with fail
      refine (K.one A k c b at_ w4 HL.out.1 HL.out.2.1 HL.out.2.2.1 HL.out.2.2.2 HAT.out (HR.out _ HB4.out)).mono ?_
      rintro e w5 ⟨x, E, rfl, hxo, _, yes5, hb5⟩
      have HX := Lib.hid (And.intro hxo (yes5 _ _ HT.out.1))
      clear hxo yes5
      have HN := Lib.hid (Blk.new w5 42 pz)
      obtain ⟨P, hP⟩ : ∃ P, (pcs x).toArray = P := ⟨_, rfl⟩
      obtain ⟨w6, hw6⟩ : ∃ w6, w5.alloc (.cells P 42) = w6 := ⟨_, rfl⟩
      obtain ⟨p, hp⟩ : ∃ p, w5.heap.size = p := ⟨_, rfl⟩
      have hb6 : Below w5.heap.size w5 w6 := hw6 ▸ (Below.refl _ _).alloc (Nat.le_refl _) _
      have hK : Blk w6 p 42 (pcs x).toArray := by rw [← hw6, ← hp, hP]; exact Blk.new w5 _ _
      have HPS := Lib.hid (show (Try.prog.info? 42).map (·.size) = some P.size by rw [← hP, List.size_toArray, pcs_length HX.out.1.ok]; exact piece_size)
      have HPZ := Lib.hid (show pz.size = P.size by rw [← hP]; exact (show (34 : Nat) = _ by rw [List.size_toArray, pcs_length HX.out.1.ok]))
      have HPO := Lib.hid (show P.all (·.oneCell') = true by rw [← hP]; exact all_oneCell_toArray (pcs_one x))
      have hb46 : Below w4.heap.size w4 w6 := hb5.trans (hb6.mono hb5.size)
      have HB6 := Lib.hid (HB4.out.trans (hb46.mono HB4.out.size))
      have HM6 := Lib.hid (And.intro ((HM4.out.1.below hb46).more hb46.size) (And.intro ((HM4.out.2.1.below hb46).more hb46.size) ((HM4.out.2.2.below hb46).more hb46.size)))
      have HK6 := Lib.hid (And.intro hK ((HX.out.1.below hb6).more hb6.size))
      have HW6 := Lib.hid (And.intro hw6 hp)
      rw [hP]
      clear hb5 hw6 hp hP hb6 hK hb46 HM4
      go_upto_region 8 with (first
        | (refine wpList_alloc_z rfl 42 rfl iz _ HZ.out.1 HZ.out.2 ?_)
        | (refine wpList_store_row rfl 42 (.tmp 15) (.tmp 44) rfl w5.heap.size P rfl rfl 42 pz HN.out HPS.out HPZ.out HPO.out ?_; rw [World.setRow_alloc_new, HW6.out.1, HW6.out.2]))
      clear HN HPS HPZ HPO
      go_wp2_with fail
      refine (rsame_any A2 ms m c2 A3 ls m c3 HT.out.2.2.2.2 HLS.out.2 (by omega) w6 HM6.out.1 HM6.out.2.1).mono ?_
      rintro e w7 ⟨rfl, hb7⟩
      rw [decide_eq_true (show pds ms = pds ls by rw [HT.out.2.1, HLS.out.1])]
      have HB7 := Lib.hid hb7
      clear hb7
      go_wp2_with fail
      refine (rkeys_any A3 ls m c3 HLS.out.2 (by omega) w7 ((HM6.out.2.1.below HB7.out).more HB7.out.size)).mono ?_
      rintro e w8 ⟨A8, c8, rfl, ho8, hb8⟩
      have hko : ∀ y ∈ (pds ls).map PcD.key, KeyT.Ok y := fun y hy => by
        obtain ⟨q, hq, rfl⟩ := List.mem_map.1 hy
        exact (HT.out.2.2.2.1 q (by rw [← HLS.out.1]; exact hq)).key
      have HB8 := Lib.hid (HB7.out.trans (hb8.mono HB7.out.size))
      have HR8 := Lib.hid (OwnK.rd ho8 hko)
      have hkl : ((pds ls).map PcD.key).length = m := by rw [List.length_map, pds_length, HLS.out.2]
      have HKL := Lib.hid hkl
      have HKE := Lib.hid (show l.map PcD.key = (pds ls).map PcD.key by rw [HLS.out.1])
      clear ho8 hb8 hko hkl
      go_wp2_with fail
      refine (rsamekeys_any A4 (l.map PcD.key) m c4 A8 ((pds ls).map PcD.key) m c8 (by rw [HKE.out]; exact HKL.out) HKL.out (by omega) w8 ((HM6.out.2.2.below HB8.out).more HB8.out.size) HR8.out).mono ?_
      rintro e w9 ⟨rfl, hb9⟩
      rw [decide_eq_true HKE.out]
      have HB9 := Lib.hid (HB8.out.trans (hb9.mono HB8.out.size))
      have HE9 := Lib.hid (HB6.out.trans (HB9.out.mono HB6.out.size))
      have hK9 := HK6.out.1.below HB9.out HK6.out.1.lt
      have HX9 := Lib.hid (And.intro ((HK6.out.2.below HB9.out).more HB9.out.size) (And.intro hK9 ((HM6.out.2.1.below HB9.out).more HB9.out.size)))
      clear hb9 HB8 HR8 HKL HKE HB7 HM6 HK6 hK9
      by_cases ha : at_ < 0
      · obtain ⟨hxp, rfl⟩ := HX.out.2.1 (.inl ha)
        have HC33 := Lib.hid (show w9.cell? ⟨p, 33, none⟩ = some (.slice x.adr 0 x.cap) from by
          have h1 := HX9.out.2.1.cell 33
          rw [List.getElem?_toArray, pcs_data HX9.out.1.ok, hxp] at h1
          exact h1)
        have RNG := Lib.hid (show w9.rangeAt p 0 (kcs zeroC.key) from fun t v hv => by
          rw [HX9.out.2.1.cell, List.getElem?_toArray, Nat.zero_add]
          have h1 := pcs_key HX9.out.1.ok
          rw [hxp] at h1
          have ht : t < 33 := by have := (List.getElem?_eq_some_iff.1 hv).1; rwa [kcs_length zeroC_ok.key] at this
          rw [← h1, List.getElem?_take, if_pos ht] at hv
          exact hv)
        obtain ⟨Z, hZ⟩ : ∃ Z, kcs zeroC.key = Z := ⟨_, rfl⟩
        have HKS := Lib.hid (show (Try.prog.info? 40).map (·.size) = some Z.length by rw [← hZ, kcs_length zeroC_ok.key]; exact key_size)
        have EQ : ∀ W, (Op.equalIn 10000 40 (.agg Z.toArray) (.agg #[.int .u8 0, .int .u8 0, .int .u8 0, .int .u8 0, .int .u8 0, .int .u8 0, .int .u8 0, .int .u8 0, .int .u8 0, .int .u8 0, .int .u8 0, .int .u8 0, .int .u8 0, .int .u8 0, .int .u8 0, .int .u8 0, .int .u8 0, .int .u8 0, .int .u8 0, .int .u8 0, .int .u8 0, .int .u8 0, .int .u8 0, .int .u8 0, .int .u8 0, .int .u8 0, .int .u8 0, .int .u8 0, .int .u8 0, .int .u8 0, .int .u8 0, .int .u8 0, .int .u32 0])).run Try.prog W = .ok true W := fun W => by rw [← hZ]; exact key_zero W
        have EG : Try.prog.eqGuardType Try.prog.depth 40 = false := key_guard
        rw [hZ] at RNG
        obtain ⟨XA, hXA⟩ : ∃ XA, x.adr = XA := ⟨_, rfl⟩
        obtain ⟨XC, hXC⟩ : ∃ XC, x.cap = XC := ⟨_, rfl⟩
        rw [hXA, hXC] at HC33
        have c33 := HC33.out
        clear hxp hXA hXC HX HX9 hZ
        go_wp2_with (refine wpList_mid_want (by rfl) 40 (.tmp 117) rfl p 0 rfl Z (.struct fs) RNG.out HF.out rfl HKS.out ?_)
        go_ret
        exact ⟨rfl, HE9.out⟩
      · obtain ⟨j, rfl⟩ := Int.eq_ofNat_of_zero_le (show 0 ≤ at_ by omega)
        by_cases hj : m ≤ j
        · obtain ⟨hxp, rfl⟩ := HX.out.2.1 (.inr (by rw [HT.out.2.2.1]; omega))
          have hji : (m : Int) ≤ (j : Int) := by omega
          have HC33 := Lib.hid (show w9.cell? ⟨p, 33, none⟩ = some (.slice x.adr 0 x.cap) from by
            have h1 := HX9.out.2.1.cell 33
            rw [List.getElem?_toArray, pcs_data HX9.out.1.ok, hxp] at h1
            exact h1)
          have RNG := Lib.hid (show w9.rangeAt p 0 (kcs zeroC.key) from fun t v hv => by
            rw [HX9.out.2.1.cell, List.getElem?_toArray, Nat.zero_add]
            have h1 := pcs_key HX9.out.1.ok
            rw [hxp] at h1
            have ht : t < 33 := by have := (List.getElem?_eq_some_iff.1 hv).1; rwa [kcs_length zeroC_ok.key] at this
            rw [← h1, List.getElem?_take, if_pos ht] at hv
            exact hv)
          obtain ⟨Z, hZ⟩ : ∃ Z, kcs zeroC.key = Z := ⟨_, rfl⟩
          have HKS := Lib.hid (show (Try.prog.info? 40).map (·.size) = some Z.length by rw [← hZ, kcs_length zeroC_ok.key]; exact key_size)
          have EQ : ∀ W, (Op.equalIn 10000 40 (.agg Z.toArray) (.agg #[.int .u8 0, .int .u8 0, .int .u8 0, .int .u8 0, .int .u8 0, .int .u8 0, .int .u8 0, .int .u8 0, .int .u8 0, .int .u8 0, .int .u8 0, .int .u8 0, .int .u8 0, .int .u8 0, .int .u8 0, .int .u8 0, .int .u8 0, .int .u8 0, .int .u8 0, .int .u8 0, .int .u8 0, .int .u8 0, .int .u8 0, .int .u8 0, .int .u8 0, .int .u8 0, .int .u8 0, .int .u8 0, .int .u8 0, .int .u8 0, .int .u8 0, .int .u8 0, .int .u32 0])).run Try.prog W = .ok true W := fun W => by rw [← hZ]; exact key_zero W
          have EG : Try.prog.eqGuardType Try.prog.depth 40 = false := key_guard
          rw [hZ] at RNG
          obtain ⟨XA, hXA⟩ : ∃ XA, x.adr = XA := ⟨_, rfl⟩
          obtain ⟨XC, hXC⟩ : ∃ XC, x.cap = XC := ⟨_, rfl⟩
          rw [hXA, hXC] at HC33
          have c33 := HC33.out
          clear hxp hXA hXC HX HX9 hZ
          go_wp2_with (refine wpList_mid_want (by rfl) 40 (.tmp 117) rfl p 0 rfl Z (.struct fs) RNG.out HF.out rfl HKS.out ?_)
          go_ret
          exact ⟨rfl, HE9.out⟩
        · have hjl : j < l.length := by rw [HT.out.2.2.1]; omega
          obtain ⟨hxp, rfl⟩ := HX.out.2.2 j hjl rfl
          have hji : ¬ (m : Int) ≤ (j : Int) := by omega
          have hjm : (j : Int) < (m : Int) := by omega
          have hjs : j < ls.length := by rw [HLS.out.2]; omega
          obtain ⟨g, off, hA3, hgb, hra, hokj⟩ := HX9.out.2.2.at_ hjs
          have hlj : ls[j].p = l[j] := by
            have h1 := pds_get hjs
            rw [← h1]
            exact List.getElem_of_eq HLS.out.1 _
          obtain ⟨q, hq⟩ : ∃ q, l[j] = q := ⟨_, rfl⟩
          rw [hq] at hxp hlj
          have hqo : q.Ok := by rw [← hq]; exact HT.out.2.2.2.1 _ (List.getElem_mem hjl)
          obtain ⟨Z, hZ⟩ : ∃ Z, kcs q.key = Z := ⟨_, rfl⟩
          have hZl : Z.length = 33 := by rw [← hZ, kcs_length hqo.key]
          have part : ∀ (y : PieceT), y.p = q → (∀ (t : Nat) (v : Value), Z[t]? = some v → (pcs y)[t]? = some v) := fun y hy t v hv => by
            have ht : t < 33 := by have := (List.getElem?_eq_some_iff.1 hv).1; omega
            have h1 := pcs_key (x := y) (by rw [hy]; exact hqo)
            rw [hy, hZ] at h1
            rw [← h1, List.getElem?_take, if_pos ht] at hv
            exact hv
          have hpl : p < w9.heap.size := HX9.out.2.1.lt
          have R1 := Lib.hid (range_base (w := w9) (b := p) (off := 0) (cs := Z) fun W hW => fun t v hv => by
            rw [hW.cell (p := ⟨p, 0 + t, none⟩) hpl, HX9.out.2.1.cell, List.getElem?_toArray, Nat.zero_add]
            exact part x hxp t v hv)
          have R2 := Lib.hid (range_base (w := w9) (b := g) (off := off + j * 34) (cs := Z) fun W hW => fun t v hv => by
            rw [hW.cell (p := ⟨g, off + j * 34 + t, none⟩) hgb]
            exact hra t v (part _ hlj t v hv))
          obtain ⟨D, hD⟩ : ∃ D, q.data = D := ⟨_, rfl⟩
          have d1 : w9.cell? ⟨p, 33, none⟩ = some (.slice x.adr D.length x.cap) := by
            have h1 := HX9.out.2.1.cell 33
            rw [List.getElem?_toArray, pcs_data HX9.out.1.ok, hxp, hD] at h1
            exact h1
          have d2 : w9.cell? ⟨g, off + j * 34 + 33, none⟩ = some (.slice ls[j].adr D.length ls[j].cap) := by
            have h1 := hra 33 _ (pcs_data hokj.ok)
            rw [hlj, hD] at h1
            exact h1
          have r1 : Rd w9 w9.heap.size x.adr D := by have := HX9.out.1.rd; rwa [hxp, hD] at this
          have r2 : Rd w9 w9.heap.size ls[j].adr D := by have := hokj.rd; rwa [hlj, hD] at this
          obtain ⟨XA, hXA⟩ : ∃ XA, x.adr = XA := ⟨_, rfl⟩
          obtain ⟨XC, hXC⟩ : ∃ XC, x.cap = XC := ⟨_, rfl⟩
          obtain ⟨YA, hYA⟩ : ∃ XA, ls[j].adr = XA := ⟨_, rfl⟩
          obtain ⟨YC, hYC⟩ : ∃ XC, ls[j].cap = XC := ⟨_, rfl⟩
          obtain ⟨n, hn⟩ : ∃ n, D.length = n := ⟨_, rfl⟩
          rw [hXA, hXC, hn] at d1
          rw [hYA, hYC, hn] at d2
          rw [hXA] at r1
          rw [hYA] at r2
          have L1 := Lib.hid (show ∀ W, (∃ p : Regrown, W = grow (redrawn w9 p.d) p.os) → (loadVar 26 ⟨p, 33, none⟩).run Try.prog W = .ok (.slice XA n XC) W from fun W ⟨r, hr⟩ => by subst hr; exact run_load_bytes (by rw [(below_regrown w9 r.d r.os).cell (p := ⟨p, 33, none⟩) hpl]; exact d1))
          have L2 := Lib.hid (show ∀ W, (∃ p : Regrown, W = grow (redrawn w9 p.d) p.os) → (loadVar 26 ⟨g, off + j * 34 + 33, none⟩).run Try.prog W = .ok (.slice YA n YC) W from fun W ⟨r, hr⟩ => by subst hr; exact run_load_bytes (by rw [(below_regrown w9 r.d r.os).cell (p := ⟨g, off + j * 34 + 33, none⟩) hgb]; exact d2))
          have V1 := Lib.hid (show ∀ W, (∃ p : Regrown, W = grow (redrawn w9 p.d) p.os) → (convert 26 9 (.slice XA n XC)).run Try.prog W = .ok (.string ⟨D.toArray⟩) W from fun W ⟨r, hr⟩ => by subst hr; exact r1.str _ _ hn _ (below_regrown w9 r.d r.os))
          have V2 := Lib.hid (show ∀ W, (∃ p : Regrown, W = grow (redrawn w9 p.d) p.os) → (convert 26 9 (.slice YA n YC)).run Try.prog W = .ok (.string ⟨D.toArray⟩) W from fun W ⟨r, hr⟩ => by subst hr; exact r2.str _ _ hn _ (below_regrown w9 r.d r.os))
          have HKS := Lib.hid (show (Try.prog.info? 40).map (·.size) = some Z.length by rw [hZl]; exact key_size)
          have QE := Lib.hid (show ∀ W, (Op.equal 40 (.agg Z.toArray) (.agg Z.toArray)).run Try.prog W = .ok true W from fun W => by rw [← hZ, key_eq hqo.key hqo.key W, decide_eq_true rfl])
          have eqg : Try.prog.eqGuardType Try.prog.depth 40 = false := key_guard
          have hqq : (D == D) = true := by simp
          have hj0 : (0 : Int) ≤ (j : Int) := by omega
          have hj1 : ¬ (j : Int) < 0 := by omega
          have hg1 : decide ((j : Int) < 0) = false := decide_eq_false hj1
          have hg2 : decide ((m : Int) ≤ (j : Int)) = false := decide_eq_false hji
          subst hA3
          clear hxp hjl hjs hra hokj hlj hq hqo hZ hZl part hD d1 d2 r1 r2 hXA hXC hYA hYC hn HX HX9 ha hj hgb hpl
          go_wp2_with fail
          refine wp_region_quiet_below (by kernel_rfl) (by kernel_rfl) ?_
          repeat (first
            | (go_big_quiet_want; refine quiet_load_mid 40 (.tmp 128) rfl p 0 rfl Z (.struct fs) R1.out HF.out rfl HKS.out (by simp only [Act.put, List.setIfInBounds_toArray, List.set_cons_succ, List.set_cons_zero]; rfl) ?_; go_big_quiet_on)
            | (go_big_quiet_want; refine quiet_load_mid 40 (.tmp 133) rfl g (off + j * 34) rfl Z (.struct fs) R2.out HF.out rfl HKS.out (by simp only [Act.put, List.setIfInBounds_toArray, List.set_cons_succ, List.set_cons_zero]; rfl) ?_; go_big_quiet_on)
            | (go_big_quiet_want; refine quiet_eql_row 40 40 (.tmp 129) (.tmp 134) rfl Z.toArray Z.toArray rfl rfl eqg true QE.out (by simp only [Act.put, List.setIfInBounds_toArray, List.set_cons_succ, List.set_cons_zero]; rfl) ?_; go_big_quiet_on)
            | (go_big_quiet_want; refine quiet_load_any 26 (.tmp 138) rfl ⟨p, 33, none⟩ rfl (.slice XA n XC) L1.out (by simp only [Act.put, List.setIfInBounds_toArray, List.set_cons_succ, List.set_cons_zero]; rfl) ?_; go_big_quiet_on)
            | (go_big_quiet_want; refine quiet_load_any 26 (.tmp 144) rfl ⟨g, off + j * 34 + 33, none⟩ rfl (.slice YA n YC) L2.out (by simp only [Act.put, List.setIfInBounds_toArray, List.set_cons_succ, List.set_cons_zero]; rfl) ?_; go_big_quiet_on)
            | (go_big_quiet_want; refine quiet_convert 26 9 (.tmp 139) rfl (.slice XA n XC) _ rfl V1.out (by simp only [Act.put, List.setIfInBounds_toArray, List.set_cons_succ, List.set_cons_zero]; rfl) ?_; go_big_quiet_on)
            | (go_big_quiet_want; refine quiet_convert 26 9 (.tmp 145) rfl (.slice YA n YC) _ rfl V2.out (by simp only [Act.put, List.setIfInBounds_toArray, List.set_cons_succ, List.set_cons_zero]; rfl) ?_; go_big_quiet_on)
            | go_big_quiet_step (fail))
          refine wpQuiet_nil ?_
          intro _ hw'
          obtain ⟨⟨dq, osq⟩, hw''⟩ := hw'
          subst hw''
          have HBQ := Lib.hid (HE9.out.trans ((below_regrown w9 dq osq).mono HE9.out.size))
          clear R1 R2 V1 V2 L1 L2
          generalize Go.Sort.grow (redrawn w9 dq) osq = wq at *
          go_wp2_with fail
          go_ret
          exact ⟨rfl, HBQ.out⟩
    · obtain ⟨A2, c2, rfl⟩ := no2 ht
      have HT := Lib.hid ht
      clear no2 yes2 ht
      go_wp2_with fail
      refine (rtake_any A k c b w2 HL.out.1 HL.out.2.1 HL.out.2.2.1 HL.out.2.2.2 (HR.out _ HB2.out)).mono ?_
      rintro e w3 ⟨no3, _, hb3⟩
      obtain rfl := no3 HT.out
      have HB3 := Lib.hid (HB2.out.trans (hb3.mono HB2.out.size))
      clear no3 hb3
      go_wp2_with fail
      refine (K.keys A k c b w3 HL.out.1 HL.out.2.1 HL.out.2.2.1 HL.out.2.2.2 (HR.out _ HB3.out)).mono ?_
      rintro e w4 ⟨no4, _, hb4⟩
      obtain ⟨A4, c4, rfl⟩ := no4 HT.out
      have HB4 := Lib.hid (HB3.out.trans (hb4.mono HB3.out.size))
      clear no4 hb4
      go_wp2_with fail
      refine (K.one A k c b at_ w4 HL.out.1 HL.out.2.1 HL.out.2.2.1 HL.out.2.2.2 HAT.out (HR.out _ HB4.out)).mono ?_
      rintro e w5 ⟨x, E, rfl, hxo, no5, _, hb5⟩
      have HX := Lib.hid (And.intro hxo (no5 HT.out))
      obtain rfl : E = 110 := (no5 HT.out).2
      clear hxo no5
      have HN := Lib.hid (Blk.new w5 42 pz)
      obtain ⟨P, hP⟩ : ∃ P, (pcs x).toArray = P := ⟨_, rfl⟩
      obtain ⟨w6, hw6⟩ : ∃ w6, w5.alloc (.cells P 42) = w6 := ⟨_, rfl⟩
      obtain ⟨p, hp⟩ : ∃ p, w5.heap.size = p := ⟨_, rfl⟩
      have hb6 : Below w5.heap.size w5 w6 := hw6 ▸ (Below.refl _ _).alloc (Nat.le_refl _) _
      have hK : Blk w6 p 42 (pcs x).toArray := by rw [← hw6, ← hp, hP]; exact Blk.new w5 _ _
      have HPS := Lib.hid (show (Try.prog.info? 42).map (·.size) = some P.size by rw [← hP, List.size_toArray, pcs_length HX.out.1.ok]; exact piece_size)
      have HPZ := Lib.hid (show pz.size = P.size by rw [← hP]; exact (show (34 : Nat) = _ by rw [List.size_toArray, pcs_length HX.out.1.ok]))
      have HPO := Lib.hid (show P.all (·.oneCell') = true by rw [← hP]; exact all_oneCell_toArray (pcs_one x))
      have hb46 : Below w4.heap.size w4 w6 := hb5.trans (hb6.mono hb5.size)
      have HB6 := Lib.hid (HB4.out.trans (hb46.mono HB4.out.size))
      have HK6 := Lib.hid (And.intro hK ((HX.out.1.below hb6).more hb6.size))
      have HW6 := Lib.hid (And.intro hw6 hp)
      rw [hP]
      clear hb5 hw6 hp hP hb6 hK hb46
      go_upto_region 8 with (first
        | (refine wpList_alloc_z rfl 42 rfl iz _ HZ.out.1 HZ.out.2 ?_)
        | (refine wpList_store_row rfl 42 (.tmp 15) (.tmp 44) rfl w5.heap.size P rfl rfl 42 pz HN.out HPS.out HPZ.out HPO.out ?_; rw [World.setRow_alloc_new, HW6.out.1, HW6.out.2]))
      clear HN HPS HPZ HPO
      go_wp2_with fail
      refine (rsame_any A2 [] 0 c2 none [] 0 0 rfl rfl (by omega) w6 (RdPc.nil _ _ _) (RdPc.nil _ _ _)).mono ?_
      rintro e w7 ⟨rfl, hb7⟩
      rw [decide_eq_true (show pds [] = pds [] from rfl)]
      have HB7 := Lib.hid hb7
      clear hb7
      go_wp2_with fail
      refine (rkeys_any none [] 0 0 rfl (by omega) w7 (RdPc.nil _ _ _)).mono ?_
      rintro e w8 ⟨A8, c8, rfl, _, hb8⟩
      have HB8 := Lib.hid (HB7.out.trans (hb8.mono HB7.out.size))
      clear hb8
      go_wp2_with fail
      refine (rsamekeys_any A4 [] 0 c4 A8 [] 0 c8 rfl rfl (by omega) w8 (RdK.nil _ _ _) (RdK.nil _ _ _)).mono ?_
      rintro e w9 ⟨rfl, hb9⟩
      rw [decide_eq_true (show ([] : List KeyT) = [] from rfl)]
      have HB9 := Lib.hid (HB8.out.trans (hb9.mono HB8.out.size))
      have HE9 := Lib.hid (HB6.out.trans (HB9.out.mono HB6.out.size))
      have hK9 := HK6.out.1.below HB9.out HK6.out.1.lt
      have HX9 := Lib.hid (And.intro ((HK6.out.2.below HB9.out).more HB9.out.size) hK9)
      have hxp : x.p = zeroC := HX.out.2.1
      clear hb9 HB8 HB7 HK6 hK9
      have HC33 := Lib.hid (show w9.cell? ⟨p, 33, none⟩ = some (.slice x.adr 0 x.cap) from by
        have h1 := HX9.out.2.cell 33
        rw [List.getElem?_toArray, pcs_data HX9.out.1.ok, hxp] at h1
        exact h1)
      have RNG := Lib.hid (show w9.rangeAt p 0 (kcs zeroC.key) from fun t v hv => by
        rw [HX9.out.2.cell, List.getElem?_toArray, Nat.zero_add]
        have h1 := pcs_key HX9.out.1.ok
        rw [hxp] at h1
        have ht : t < 33 := by have := (List.getElem?_eq_some_iff.1 hv).1; rwa [kcs_length zeroC_ok.key] at this
        rw [← h1, List.getElem?_take, if_pos ht] at hv
        exact hv)
      obtain ⟨Z, hZ⟩ : ∃ Z, kcs zeroC.key = Z := ⟨_, rfl⟩
      have HKS := Lib.hid (show (Try.prog.info? 40).map (·.size) = some Z.length by rw [← hZ, kcs_length zeroC_ok.key]; exact key_size)
      have EQ : ∀ W, (Op.equalIn 10000 40 (.agg Z.toArray) (.agg #[.int .u8 0, .int .u8 0, .int .u8 0, .int .u8 0, .int .u8 0, .int .u8 0, .int .u8 0, .int .u8 0, .int .u8 0, .int .u8 0, .int .u8 0, .int .u8 0, .int .u8 0, .int .u8 0, .int .u8 0, .int .u8 0, .int .u8 0, .int .u8 0, .int .u8 0, .int .u8 0, .int .u8 0, .int .u8 0, .int .u8 0, .int .u8 0, .int .u8 0, .int .u8 0, .int .u8 0, .int .u8 0, .int .u8 0, .int .u8 0, .int .u8 0, .int .u8 0, .int .u32 0])).run Try.prog W = .ok true W := fun W => by rw [← hZ]; exact key_zero W
      have EG : Try.prog.eqGuardType Try.prog.depth 40 = false := key_guard
      rw [hZ] at RNG
      obtain ⟨XA, hXA⟩ : ∃ XA, x.adr = XA := ⟨_, rfl⟩
      obtain ⟨XC, hXC⟩ : ∃ XC, x.cap = XC := ⟨_, rfl⟩
      rw [hXA, hXC] at HC33
      have c33 := HC33.out
      clear hxp hXA hXC HX HX9 hZ
      go_wp2_with (refine wpList_mid_want (by rfl) 40 (.tmp 92) rfl p 0 rfl Z (.struct fs) RNG.out HF.out rfl HKS.out ?_)
      go_ret
      exact ⟨rfl, HE9.out⟩
end Go.Proofs.Ytoiiiccichkgpaa
