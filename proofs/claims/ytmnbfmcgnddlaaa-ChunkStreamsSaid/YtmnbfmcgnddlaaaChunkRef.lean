/- The contract of the reference's Cut. No statement of the seat is proved here. -/
import Derived.Test.YtmnbfmcgnddlaaaChunkCut
namespace Go.Proofs.Ytmnbfmcgnddlaaa
open Go.RowKit

set_option maxHeartbeats 1000000 in
theorem refcut_bad (mn mx ma ba : Int) (hk : ¬ okI mn mx ma ba) (A : Option Addr) (n c : Nat) (w : World) :
    Calls Try.prog 15 #[ctr mn mx ma ba, .slice A n c] w fun e w' => e = .returned (.int .i64 0) ∧ Below w.heap.size w w' := by
  have hb1 := (Below.refl w.heap.size w).alloc (Nat.le_refl _) (.cells #[.int .i64 mn, .int .i64 mx, .int .u32 ma, .int .u32 ba] 24)
  go_enter Try.func15, Try.ntmps15
  go_wp2_with fail
  refine (refright_any mn mx ma ba _).mono ?_
  rintro e w2 ⟨rfl, hb2⟩
  have hb2 := hb1.trans (hb2.mono hb1.size)
  rw [decide_eq_false hk]
  clear hb1
  go_wp2
  go_ret
  exact ⟨rfl, hb2⟩

/-- 'sum % d == d - 1', in the walk's spelling. -/
theorem hit_walk (d s : BitVec 32) (hd : 1 ≤ d.toNat) : ∃ y p : Nat, ((s.toNat : Int) % (d.toNat : Int)) = (y : Int) ∧ IntKind.u32.wrap ((d.toNat : Int) - 1) = (p : Int) ∧ ((y : Int) == (p : Int)) = decide (hit d s) := by
  refine ⟨s.toNat % d.toNat, d.toNat - 1, by omega, ?_, ?_⟩
  · have := d.isLt
    rw [IntKind.wrap_u32]; omega
  · rw [show decide (hit d s) = decide (s.toNat % d.toNat = d.toNat - 1) from rfl]
    simp [BEq.beq]; omega

set_option maxHeartbeats 2000000 in
theorem refcut_ok (C : Ctr) (K : C.Ok) (A : Option Addr) (l : List UInt8) (n c : Nat) (hl : l.length = n) (hc : n ≤ c) (w : World) (hr : Rd w w.heap.size A l) :
    Calls Try.prog 15 #[ctr C.mn C.mx C.ma.toNat C.ba.toNat, .slice A n c] w fun e w' => e = .returned (.int .i64 (cutB C l)) ∧ Below w.heap.size w w' := by
  obtain ⟨g, hg⟩ : ∃ g, g = w.heap.size := ⟨_, rfl⟩
  obtain ⟨X, hX⟩ : ∃ X, X = cutB C l := ⟨_, rfl⟩
  rw [← hX]
  have hb1 := (Below.refl w.heap.size w).alloc (Nat.le_refl _) (.cells #[.int .i64 C.mn, .int .i64 C.mx, .int .u32 C.ma.toNat, .int .u32 C.ba.toNat] 24)
  have hB1 := blk_at w 24 #[.int .i64 C.mn, .int .i64 C.mx, .int .u32 C.ma.toNat, .int .u32 C.ba.toNat] hg
  have hk : decide (okI C.mn C.mx C.ma.toNat C.ba.toNat) = true := decide_eq_true ⟨by have := K.lo; omega, by have := K.le; omega, by have := K.hi; omega, by have := K.ma1; omega, by have := K.ba1; omega⟩
  go_enter Try.func15, Try.ntmps15
  go_wp2_with fail
  rw [← hg]
  generalize w.alloc (.cells #[.int .i64 C.mn, .int .i64 C.mx, .int .u32 C.ma.toNat, .int .u32 C.ba.toNat] 24) = w1 at *
  refine (refright_any _ _ _ _ _).mono ?_
  rintro e w2 ⟨rfl, hb2⟩
  have hB2 := hB1.below hb2 hB1.lt
  have hb2 := hb1.trans (hb2.mono hb1.size)
  have hr2 : Rd w2 w.heap.size A l := hr.below hb2
  rw [hk]
  obtain ⟨hc0, hc1, hc2, hc3⟩ := ctr_cells hB2
  have HE0 := Lib.hid (show X = scan C l (C.mx + 1 - C.mn) C.mn C.mx from hX)
  have hlo := K.lo
  have hle := K.le
  have hhi := K.hi
  have hma := K.ma1
  have hba := K.ba1
  have HB := Lib.hid hb2
  have HL := Lib.hid hl
  have HR := Lib.hid hr2
  have hxa := C.ma.isLt
  have hxb := C.ba.isLt
  have HG := Lib.hid hg
  clear hb1 hB1 hB2 hb2 hr hr2 hk K hl hg hX
  have hza : ¬ C.ma.toNat = 0 := by omega
  have hzb : ¬ C.ba.toNat = 0 := by omega
  have HMA := Lib.hid hma
  have HBA := Lib.hid hba
  clear hma hba
  go_wp2_with fail
  go_loopw [5, 6] (fun k i wr => ∃ m kept : Nat, C.mn ≤ m ∧ m ≤ C.mx + 1 ∧ (m ≤ n + 1 ∨ m = C.mn) ∧ X = scan C l (C.mx + 1 - m) m kept ∧ i = .int .i64 m ∧ k = .int .i64 kept ∧ ∃ q, wr = w2.drewN q) (fun k i _ => 5000 - (intOf i).toNat)
  case atStart => exact ⟨C.mn, C.mx, by omega, by omega, .inr rfl, HE0.out, rfl, rfl, 0, rfl⟩
  case round =>
    obtain ⟨m, kept, hm1, hm2, hm3, hX, rfl, rfl, q, rfl⟩ := hrel
    by_cases hx1 : m ≤ C.mx
    · by_cases hx2 : m ≤ n
      · have hlm : m ≤ l.length := by rw [HL.out]; exact hx2
        have hkm : C.mx + 1 - m = (C.mx - m) + 1 := by omega
        have hmc : (m : Int) ≤ (c : Int) := by omega
        have HX := Lib.hid hX
        clear hX hm3
        go_wp2_with fail
        with_reducible refine (refof_any A (l.take m) c m _ (w2.drewN q) (by rw [List.length_take]; omega) ((HR.out.take m).drewN q) (by omega)).mono ?_
        rintro e w4 ⟨rfl, rfl⟩
        have hS := (ofB (l.take m)).isLt
        obtain ⟨y1, p1, e1, e2, e3⟩ := hit_walk C.ma (ofB (l.take m)) HMA.out
        obtain ⟨y2, p2, f1, f2, f3⟩ := hit_walk C.ba (ofB (l.take m)) HBA.out
        by_cases hh : hit C.ma (ofB (l.take m))
        · rw [decide_eq_true hh] at e3
          have HX := Lib.hid (show X = m by rw [HX.out, hkm]; exact scan_main hlm hh)
          clear hh hkm f1 f2 f3
          go_wp2_with fail
          go_quiet (fail)
          go_wp2
          go_ret
          rw [HX.out]
          exact ⟨rfl, below_drewN (below_drewN HB.out _) _⟩
        · rw [decide_eq_false hh] at e3
          by_cases hi : hit C.ba (ofB (l.take m))
          · rw [decide_eq_true hi] at f3
            have HX := Lib.hid (show X = scan C l (C.mx + 1 - (m + 1)) (m + 1) m by rw [HX.out, hkm, scan_back hlm hh hi, show C.mx + 1 - (m + 1) = C.mx - m by omega])
            clear hh hi hkm
            go_wp2_with fail
            go_quiet (fail)
            go_wp2_with fail
            go_quiet (fail)
            go_wp2_with fail
            go_roundw
            case rel => exact ⟨m + 1, m, by omega, by omega, .inl (by omega), HX.out, by go_num, rfl, _, rfl⟩
            case measure => simp [intOf]; omega
          · rw [decide_eq_false hi] at f3
            have HX := Lib.hid (show X = scan C l (C.mx + 1 - (m + 1)) (m + 1) kept by rw [HX.out, hkm, scan_none hlm hh hi, show C.mx + 1 - (m + 1) = C.mx - m by omega])
            clear hh hi hkm
            go_wp2_with fail
            go_quiet (fail)
            go_wp2_with fail
            go_quiet (fail)
            go_wp2_with fail
            go_roundw
            case rel => exact ⟨m + 1, kept, by omega, by omega, .inl (by omega), HX.out, by go_num, rfl, _, rfl⟩
            case measure => simp [intOf]; omega
      · have HX := Lib.hid (show X = 0 by rw [hX, show C.mx + 1 - m = (C.mx - m) + 1 by omega]; exact scan_short (by rw [HL.out]; omega))
        have hnx : (n : Int) < (C.mx : Int) := by omega
        clear hX hm3
        go_wp2
        go_ret
        rw [HX.out]
        exact ⟨rfl, below_drewN HB.out _⟩
    · have HX := Lib.hid (show X = kept by rw [hX, show C.mx + 1 - m = 0 by omega]; rfl)
      have hnx : ¬ (n : Int) < (C.mx : Int) := by omega
      clear hX hm3
      go_wp2
      go_ret
      rw [HX.out]
      exact ⟨rfl, below_drewN HB.out _⟩
end Go.Proofs.Ytmnbfmcgnddlaaa
