/- The reference's Keys (cellarageref11). No statement of the seat is proved here. -/
import Derived.Test.YtoiiiccichkgpaaCtRefF
import Derived.Test.YtoiiiccichkgpaaOwnKey
import Derived.Test.YtoiiiccichkgpaaKeyRow
import Derived.Deep.MidRow
namespace Go.Proofs.Ytoiiiccichkgpaa
open Go.RowKit
set_option linter.unusedVariables false
set_option linter.unusedSimpArgs false

theorem rdk_one (w : World) {x : KeyT} (hx : x.Ok) : RdK (w.alloc (.cells (kcs x).toArray 40)) (w.alloc (.cells (kcs x).toArray 40)).heap.size (some ⟨w.heap.size, 0, none⟩) [x] := by
  refine ⟨fun _ => ⟨w.heap.size, 0, rfl, by simp, fun j hj i v hv => ?_⟩, by simpa using hx⟩
  obtain rfl : j = 0 := by simpa using hj
  rw [(Blk.new w 40 (kcs x).toArray).cell, List.getElem?_toArray]
  simpa using hv
theorem OwnK.on {w w' : World} {B c : Nat} {A : Option Addr} {l : List KeyT} (h : OwnK w B A c l) (hb : Below w.heap.size w w') : OwnK w' B A c l := ownsRow_below h hb
set_option maxRecDepth 100000 in
set_option maxHeartbeats 1000000 in
theorem rkeys_any (A : Option Addr) (ls : List PieceT) (k c : Nat) (hl : ls.length = k) (hk : k ≤ 3000) (w : World) (hr : RdPc w w.heap.size A ls) :
    Calls Try.prog 21 #[.slice A k c] w fun e w' => ∃ A' c', e = .returned (.slice A' k c') ∧ OwnK w' w.heap.size A' c' ((pds ls).map PcD.key) ∧ Below w.heap.size w w' := by
  obtain ⟨fa, fc, hA⟩ := at_c hr
  obtain ⟨ps, hps⟩ : ∃ ps, pds ls = ps := ⟨_, rfl⟩
  have hpl : ps.length = k := by rw [← hps, pds_length, hl]
  rw [hps] at hA
  rw [hps]
  obtain ⟨i0, hi, hz0, hz1, hz2⟩ := info_parts info_key
  have HI := Lib.hid (And.intro hi (And.intro hz0 (And.intro hz1 hz2)))
  obtain ⟨fs, hfs⟩ := key_desc
  have HF := Lib.hid hfs
  have HA := Lib.hid hA
  have HPL := Lib.hid hpl
  clear hps hl hr hA hpl hi hz0 hz1 hz2 hfs ls
  go_enter Try.func21, Try.ntmps21
  go_wp2_with fail
  go_loopw [3, 4] (fun v i wr => ∃ (j : Nat) (X : Option Addr) (z : Nat), j ≤ k ∧ i = .int .i64 j ∧ v = .slice X j z ∧ Hid (OwnK wr w.heap.size X z ((ps.map PcD.key).take j)) ∧ Hid (Below w.heap.size w wr)) (fun _ i _ => k - (intOf i).toNat)
  case atStart => exact ⟨0, none, 0, Nat.zero_le _, rfl, rfl, Lib.hid (World.ownsRow_nil _ _ _ _), Lib.hid (Below.refl _ _)⟩
  case round =>
    obtain ⟨j, X, z, hj, rfl, rfl, HO, HB⟩ := hrel
    by_cases hlt : j < k
    · have hjp : j < ps.length := by rw [HPL.out]; exact hlt
      obtain ⟨g, off, hA, hg, hok, hra, hq1, hq2⟩ := HA.out _ HB.out _ hjp
      clear hq1 hq2
      obtain ⟨x, hx⟩ : ∃ x, ps[j].key = x := ⟨_, rfl⟩
      have hokx := hok.key
      rw [hx] at hra hokx
      have HOK := Lib.hid hokx
      have HRA := Lib.hid hra
      have HTK := Lib.hid (show (ps.map PcD.key).take (j + 1) = (ps.map PcD.key).take j ++ [x] by
        rw [List.take_succ_eq_append_getElem (by rw [List.length_map]; exact hjp), List.getElem_map, hx])
      have HLN := Lib.hid (show ((ps.map PcD.key).take j).length = j by rw [List.length_take, List.length_map, HPL.out]; omega)
      have HKS := Lib.hid (show (Try.prog.info? 40).map (·.size) = some (kcs x).length by rw [kcs_length hokx]; exact key_size)
      have HRK := Lib.hid (rdk_one wr hokx)
      have hba : Below wr.heap.size wr (wr.alloc (.cells (kcs x).toArray 40)) := (Below.refl _ _).alloc (Nat.le_refl _) _
      have HOA := Lib.hid (HO.out.on hba)
      have HBA := Lib.hid (HB.out.trans (hba.mono HB.out.size))
      subst hA
      have hi1 : (0 : Int) ≤ (j : Int) := by omega
      have hi2 : (j : Int) < (k : Int) := by omega
      clear hra hokx hok hx hjp hba HO HB hg
      go_wp2_with (first
        | refine wpList_load_mid rfl 40 (.tmp 15) rfl g (off + j * 34) rfl (kcs x) (.struct fs) HRA.out HF.out rfl HKS.out ?_
        | refine wpList_buildKey rfl (.tmp 16) rfl HOK.out rfl ?_
        | (at_builtin; refine wpList_append_keys _ rfl (.tmp 11) (.tmp 17) rfl w.heap.size i0 HI.out.1 HI.out.2.1 HI.out.2.2.1 HI.out.2.2.2 X z j ((ps.map PcD.key).take j) HLN.out rfl HOA.out _ (some ⟨wr.heap.size, 0, none⟩) 1 1 [x] rfl rfl HRK.out ?_ ?_ ?_))
      case _ => omega
      case _ => exact HBA.out.size
      intro A4 k4 w5 ho hg
      have H4 := Lib.hid (show OwnK w5 w.heap.size A4 k4 ((ps.map PcD.key).take (j + 1)) ∧ Below w.heap.size w w5 from ⟨by rw [HTK.out]; exact ho, HBA.out.grown hg HBA.out.size fun q hq => by
        have := HOA.out
        unfold OwnK at this
        rw [HLN.out] at this
        exact (this.lt q hq).1⟩)
      clear ho hg HRK HOA HBA HRA
      go_wp2_with fail
      go_roundw
      case rel => exact ⟨j + 1, A4, k4, by omega, by go_num, rfl, Lib.hid H4.out.1, Lib.hid H4.out.2⟩
      case measure => simp [intOf]; omega
    · obtain rfl : j = k := by omega
      have HE := Lib.hid (show (ps.map PcD.key).take j = ps.map PcD.key from List.take_of_length_le (by rw [List.length_map, HPL.out]; exact Nat.le_refl _))
      go_wp2_with fail
      go_ret
      exact ⟨X, z, rfl, by rw [← HE.out]; exact HO.out, HB.out⟩
end Go.Proofs.Ytoiiiccichkgpaa
