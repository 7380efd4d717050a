/- The reference's paths (cellarageref17): Name. No statement of the seat is proved here. -/
import Derived.Test.YtcpoejejmngiaaaDoorPaKit
import Derived.Test.YtcpoejejmngiaaaDoorGates
import Derived.Laws.RangeAny
import Derived.Laws.Strings3
import Derived.WalkSpells
import Derived.Deep.DeepCutAuto
namespace Go.Proofs.YtcpoejejmngiaaaDoor
open Go.RowKit
set_option linter.unusedVariables false
set_option linter.unusedSimpArgs false
set_option maxRecDepth 100000

theorem below_iter (w : World) (s : ByteArray) (p : Nat) : Below w.heap.size w (w.iter s p) := (Below.refl _ _).alloc (Nat.le_refl _) _
set_option maxHeartbeats 4000000 in
theorem rname_any (s : List UInt8) (hs : s.length ≤ 1000000) (w : World) : Calls Tryd.prog 16 #[.string (st s)] w fun e w' => e = .returned (.bool (nameL s)) ∧ Below w.heap.size w w' := by
  obtain ⟨n, hn⟩ : ∃ n, s.length = n := ⟨_, rfl⟩
  obtain ⟨R, hR⟩ : ∃ R, nameL s = R := ⟨_, rfl⟩
  rw [hR]
  have HN := Lib.hid (show R = (decide (1 ≤ n ∧ n ≤ 100 ∧ s ≠ [46] ∧ s ≠ [46, 46]) && scan s 0) by rw [← hR, ← hn]; rfl)
  have hsz : (st s).size = n := by rw [st_size, hn]
  have HL := Lib.hid hn
  clear hR hn
  rw [HL.out] at hs
  have hnx := fun pos ty (h : pos < (st s).size) => run_next_any (P := Tryd.prog) w (st s) pos ty h
  have hne := fun pos ty (h : ¬ pos < (st s).size) => run_next_end (P := Tryd.prog) w (st s) pos ty h
  rw [hsz] at hnx hne
  by_cases d0 : s = []
  · subst d0
    obtain rfl : n = 0 := HL.out.symm
    obtain rfl : R = false := by rw [HN.out]; rfl
    go_enter Tryd.func16, Tryd.ntmps16
    go_wp2_with fail
    go_ret
    exact ⟨rfl, Below.refl _ _⟩
  have e0 : (s == []) = false := by simpa using d0
  have hn1 : 1 ≤ n := by
    rw [← HL.out]
    exact List.length_pos_iff.2 d0
  by_cases d1 : 100 < n
  · obtain rfl : R = false := by rw [HN.out, decide_eq_false (by omega)]; rfl
    have h1 : (100 : Int) < (n : Int) := by omega
    go_enter Tryd.func16, Tryd.ntmps16
    go_wp2_with fail
    go_ret
    exact ⟨rfl, Below.refl _ _⟩
  have h1 : ¬ (100 : Int) < (n : Int) := by omega
  by_cases d2 : s = [46]
  · obtain rfl : R = false := by rw [HN.out, decide_eq_false (by simp [d2])]; rfl
    have e2 : (s == [46]) = true := by simpa using d2
    go_enter Tryd.func16, Tryd.ntmps16
    go_wp2_with fail
    go_ret
    exact ⟨rfl, Below.refl _ _⟩
  have e2 : (s == [46]) = false := by simpa using d2
  by_cases d3 : s = [46, 46]
  · obtain rfl : R = false := by rw [HN.out, decide_eq_false (by simp [d3])]; rfl
    have e3 : (s == [46, 46]) = true := by simpa using d3
    go_enter Tryd.func16, Tryd.ntmps16
    go_wp2_with fail
    go_ret
    exact ⟨rfl, Below.refl _ _⟩
  have e3 : (s == [46, 46]) = false := by simpa using d3
  have HS := Lib.hid (show R = scan s 0 by rw [HN.out, decide_eq_true ⟨hn1, by omega, d2, d3⟩]; rfl)
  clear d0 d1 d2 d3 HN
  go_enter Tryd.func16, Tryd.ntmps16
  go_wp2_with fail
  go_loopw [22] (fun u wr => ∃ pos : Nat, wr = w.iter (st s) pos ∧ Hid (R = scan s pos)) (fun _ wr => n - wr.iterPos w.heap.size)
  case atStart => exact ⟨0, rfl, HS⟩
  case round =>
    obtain ⟨pos, rfl, HP⟩ := hrel
    by_cases hlt : pos < n
    · have hx := fun ty => hnx pos ty hlt
      have HST := Lib.hid (scan_step (s := s) (i := pos) (by rw [HL.out]; exact hlt))
      have hle := decode_le (st s) pos
      have HPO := Lib.hid (decode_pos (st s) pos)
      have HGD := Lib.hid (show goodR s pos = !(decide ((Utf8.decode (st s) pos).1 < 32) || decide ((Utf8.decode (st s) pos).1 = 127) || decide ((Utf8.decode (st s) pos).1 = 47) || (decide ((Utf8.decode (st s) pos).1 = 65533) && !bomAt s pos)) from rfl)
      obtain ⟨r, hr⟩ : ∃ r, (Utf8.decode (st s) pos).1 = r := ⟨_, rfl⟩
      obtain ⟨wd, hwd⟩ : ∃ wd, (Utf8.decode (st s) pos).2 = wd := ⟨_, rfl⟩
      rw [hr] at hle HGD
      rw [hwd] at HST HPO
      simp only [hr, hwd] at hx
      have HF := Lib.hid (show goodR s pos = false → R = false from fun h => by rw [HP.out, HST.out, h]; rfl)
      have HT := Lib.hid (show goodR s pos = true → R = scan s (pos + wd) from fun h => by rw [HP.out, HST.out, h]; rfl)
      clear hnx hne hr hwd
      by_cases c0 : r < 32
      · have f0 : (r : Int) < 32 := by omega
        obtain rfl : R = false := HF.out (by rw [HGD.out, decide_eq_true c0]; rfl)
        go_wp2_with fail
        go_ret
        exact ⟨rfl, below_iter w (st s) _⟩
      have f0 : ¬ (r : Int) < 32 := by omega
      by_cases c1 : r = 127
      · have f1 : ((r : Int) == 127) = true := by simp; omega
        obtain rfl : R = false := HF.out (by rw [HGD.out, decide_eq_true c1]; simp)
        go_wp2_with fail
        go_ret
        exact ⟨rfl, below_iter w (st s) _⟩
      have f1 : ((r : Int) == 127) = false := by simp; omega
      by_cases c2 : r = 47
      · have f2 : ((r : Int) == 47) = true := by simp; omega
        obtain rfl : R = false := HF.out (by rw [HGD.out, decide_eq_true c2]; simp)
        go_wp2_with fail
        go_ret
        exact ⟨rfl, below_iter w (st s) _⟩
      have f2 : ((r : Int) == 47) = false := by simp; omega
      by_cases c3 : r = 65533
      · have f3 : ((r : Int) == 65533) = true := by simp; omega
        by_cases c4 : n < pos + 3
        · have f4 : (n : Int) < (pos : Int) + 3 := by omega
          have hbo : bomAt s pos = false := decide_eq_false fun e => by
            have := congrArg List.length e
            rw [List.length_take, List.length_drop, HL.out] at this
            simp at this
            omega
          obtain rfl : R = false := HF.out (by rw [HGD.out, decide_eq_true c3, hbo]; simp)
          go_wp2_with fail
          go_ret
          exact ⟨rfl, below_iter w (st s) _⟩
        · have f4 : ¬ (n : Int) < (pos : Int) + 3 := by omega
          have hxe : ((st s).extract pos (pos + 3)).toList = (s.drop pos).take 3 := by rw [st_extract, ByteArray.toList_mk, Nat.add_sub_cancel_left]
          by_cases c5 : (s.drop pos).take 3 = [239, 191, 189]
          · have f5 : (((st s).extract pos (pos + 3)).toList == [239, 191, 189]) = true := by rw [hxe, c5]; rfl
            have hbo : bomAt s pos = true := decide_eq_true c5
            have HN2 := Lib.hid (HT.out (by rw [HGD.out, decide_eq_false c0, decide_eq_false c1, decide_eq_false c2, hbo]; simp))
            clear hxe
            go_wp2_with fail
            go_roundw
            case rel => exact ⟨pos + wd, rfl, HN2⟩
            case measure => have := HPO.out; simp only [World.iterPos_iter]; omega
          · have f5 : (((st s).extract pos (pos + 3)).toList == [239, 191, 189]) = false := by rw [hxe]; simpa using c5
            have hbo : bomAt s pos = false := decide_eq_false c5
            obtain rfl : R = false := HF.out (by rw [HGD.out, decide_eq_true c3, hbo]; simp)
            clear hxe
            go_wp2_with fail
            go_ret
            exact ⟨rfl, below_iter w (st s) _⟩
      · have f3 : ((r : Int) == 65533) = false := by simp; omega
        have HN2 := Lib.hid (HT.out (by rw [HGD.out, decide_eq_false c0, decide_eq_false c1, decide_eq_false c2, decide_eq_false c3]; rfl))
        go_wp2_with fail
        go_roundw
        case rel => exact ⟨pos + wd, rfl, HN2⟩
        case measure => have := HPO.out; simp only [World.iterPos_iter]; omega
    · have hx := fun ty => hne pos ty hlt
      obtain rfl : R = true := by rw [HP.out, scan_end (by rw [HL.out]; omega)]
      clear hnx hne
      go_wp2_with fail
      go_ret
      exact ⟨rfl, below_iter w (st s) _⟩
end Go.Proofs.YtcpoejejmngiaaaDoor
