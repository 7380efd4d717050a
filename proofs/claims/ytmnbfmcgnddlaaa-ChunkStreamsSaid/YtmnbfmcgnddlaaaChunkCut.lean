/- The contract of Cut. No statement of the seat is proved here. -/
import Derived.Test.YtmnbfmcgnddlaaaChunkA
namespace Go.Proofs.Ytmnbfmcgnddlaaa
open Go.RowKit

theorem ctr_cells {w : World} {g : Nat} {t : TypeId} {a b c d : Value} (h : Blk w g t #[a, b, c, d]) :
    w.cell? ⟨g, 0, none⟩ = some a ∧ w.cell? ⟨g, 1, none⟩ = some b ∧ w.cell? ⟨g, 2, none⟩ = some c ∧ w.cell? ⟨g, 3, none⟩ = some d :=
  ⟨h.cell 0, h.cell 1, h.cell 2, h.cell 3⟩

set_option maxHeartbeats 1000000 in
theorem cut_bad (mn mx ma ba : Int) (hk : ¬ okI mn mx ma ba) (A : Option Addr) (n c : Nat) (w : World) :
    Calls Try.prog 13 #[ctr mn mx ma ba, .slice A n c] w fun e w' => e = .returned (.int .i64 0) ∧ Below w.heap.size w w' := by
  have hb1 := (Below.refl w.heap.size w).alloc (Nat.le_refl _) (.cells #[.int .i64 mn, .int .i64 mx, .int .u32 ma, .int .u32 ba] 24)
  go_enter Try.func13, Try.ntmps13
  go_wp2_with fail
  refine (right_any mn mx ma ba _).mono ?_
  rintro e w2 ⟨rfl, hb2⟩
  have hb2 := hb1.trans (hb2.mono hb1.size)
  rw [decide_eq_false hk]
  clear hb1
  go_wp2
  go_ret
  exact ⟨rfl, hb2⟩

set_option maxHeartbeats 2000000 in
theorem cut_ok (C : Ctr) (K : C.Ok) (A : Option Addr) (l : List UInt8) (n c : Nat) (hl : l.length = n) (hc : n ≤ c) (hm : c ≤ 9223372036854775807) (w : World) (hr : Rd w w.heap.size A l) :
    Calls Try.prog 13 #[ctr C.mn C.mx C.ma.toNat C.ba.toNat, .slice A n c] w fun e w' => e = .returned (.int .i64 (cutB C l)) ∧ Below w.heap.size w w' := by
  obtain ⟨g, hg⟩ : ∃ g, g = w.heap.size := ⟨_, rfl⟩
  obtain ⟨X, hX⟩ : ∃ X, X = cutB C l := ⟨_, rfl⟩
  rw [← hX]
  have hb1 := (Below.refl w.heap.size w).alloc (Nat.le_refl _) (.cells #[.int .i64 C.mn, .int .i64 C.mx, .int .u32 C.ma.toNat, .int .u32 C.ba.toNat] 24)
  have hB1 := blk_at w 24 #[.int .i64 C.mn, .int .i64 C.mx, .int .u32 C.ma.toNat, .int .u32 C.ba.toNat] hg
  have hk : decide (okI C.mn C.mx C.ma.toNat C.ba.toNat) = true := decide_eq_true ⟨by have := K.lo; omega, by have := K.le; omega, by have := K.hi; omega, by have := K.ma1; omega, by have := K.ba1; omega⟩
  go_enter Try.func13, Try.ntmps13
  go_wp2_with fail
  rw [← hg]
  generalize w.alloc (.cells #[.int .i64 C.mn, .int .i64 C.mx, .int .u32 C.ma.toNat, .int .u32 C.ba.toNat] 24) = w1 at *
  refine (right_any _ _ _ _ _).mono ?_
  rintro e w2 ⟨rfl, hb2⟩
  have hB2 := hB1.below hb2 hB1.lt
  have hb2 := hb1.trans (hb2.mono hb1.size)
  have hr2 : Rd w2 w.heap.size A l := hr.below hb2
  rw [hk]
  obtain ⟨hc0, hc1, hc2, hc3⟩ := ctr_cells hB2
  have HE0 := Lib.hid (show X = scan C l (C.mx + 1 - C.mn) C.mn C.mx from hX)
  have HK := Lib.hid K
  have hlo := K.lo
  have hle := K.le
  have hhi := K.hi
  have hma := K.ma1
  have hba := K.ba1
  have HB := Lib.hid hb2
  have HL := Lib.hid hl
  have HR := Lib.hid hr2
  have hxa := C.ma.isLt
  have hxb := C.ba.isLt
  have HG := Lib.hid hg
  clear hb1 hB1 hB2 hb2 hr hr2 hk K hl hg
  clear hX
  by_cases hs : n < C.mn
  · have HX := Lib.hid (show X = 0 by
      rw [HE0.out, show C.mx + 1 - C.mn = (C.mx - C.mn) + 1 by omega]
      exact scan_short (by rw [HL.out]; exact hs))
    go_wp2
    go_ret
    rw [HX.out]
    exact ⟨rfl, HB.out⟩
  · have h3 : (C.mn : Int) ≤ (c : Int) := by omega
    have hs2 : ¬ (n : Int) < (C.mn : Int) := by omega
    go_wp2_with fail
    with_reducible refine (of_any A (l.take C.mn) c C.mn _ w2 (by rw [List.length_take, HL.out]; omega) (HR.out.take C.mn) (by omega) hm).mono ?_
    rintro e w3 ⟨rfl, rfl⟩
    go_wp2_with fail
    go_loopw [5, 6, 7] (fun s k i wr => ∃ m kept : Nat, C.mn ≤ m ∧ m ≤ C.mx ∧ m ≤ n ∧ X = scan C l (C.mx + 1 - m) m kept ∧ i = .int .i64 m ∧ k = .int .i64 kept ∧ s = .int .u32 (ofB (l.take m)).toNat ∧ ∃ q, wr = w2.drewN q) (fun s k i _ => 5000 - (intOf i).toNat)
    case atStart => exact ⟨C.mn, C.mx, by omega, hle, by omega, HE0.out, rfl, rfl, rfl, 0, rfl⟩
    case round =>
      obtain ⟨m, kept, hm1, hm2, hm3, hX, rfl, rfl, rfl, q, rfl⟩ := hrel
      go_wp2_with fail
      with_reducible refine (ends_any C.ma (ofB (l.take m)) hma _).mono ?_
      rintro e w4 ⟨rfl, rfl⟩
      have hlm : m ≤ l.length := by rw [HL.out]; exact hm3
      have hkm : C.mx + 1 - m = (C.mx - m) + 1 := by omega
      by_cases hh : hit C.ma (ofB (l.take m))
      · rw [decide_eq_true hh]
        have HX := Lib.hid (show X = m by rw [hX, hkm]; exact scan_main hlm hh)
        clear hX
        go_wp2
        go_ret
        rw [HX.out]
        exact ⟨rfl, below_drewN HB.out _⟩
      · rw [decide_eq_false hh]
        go_wp2_with fail
        with_reducible refine (ends_any C.ba (ofB (l.take m)) hba _).mono ?_
        rintro e w5 ⟨rfl, rfl⟩
        by_cases hi : hit C.ba (ofB (l.take m))
        · rw [decide_eq_true hi]
          by_cases he : m = C.mx
          · have heB : ((m : Int) == (C.mx : Int)) = true := by simp; omega
            have HX := Lib.hid (show X = m by rw [hX, show C.mx + 1 - m = 0 + 1 by omega, scan_back hlm hh hi]; rfl)
            clear hX he
            go_wp2
            go_ret
            rw [HX.out]
            exact ⟨rfl, below_drewN HB.out _⟩
          · have he2 : ((m : Int) == (C.mx : Int)) = false := by simp; omega
            have hk1 : C.mx + 1 - m = (C.mx - (m + 1)) + 1 + 1 := by omega
            by_cases hn : m = n
            · have hnB : ((m : Int) == (n : Int)) = true := by simp; omega
              have HX := Lib.hid (show X = 0 by rw [hX, hk1, scan_back hlm hh hi, scan_short (by rw [HL.out]; omega)])
              clear hX hn he
              go_wp2
              go_ret
              rw [HX.out]
              exact ⟨rfl, below_drewN HB.out _⟩
            · have hn2 : ((m : Int) == (n : Int)) = false := by simp; omega
              obtain ⟨p, hp⟩ : ∃ p, m = p + 16 := ⟨m - 16, by omega⟩
              have hp1 : (m : Int) - 16 = (p : Int) := by omega
              have hpw : IntKind.i64.wrap (p : Int) = (p : Int) := by rw [IntKind.wrap_i64]; omega
              have hp2 : p < n := by omega
              have hp3 : m < n := by omega
              obtain ⟨g2, off, rfl, hg2, hcell⟩ := HR.out (by rw [HL.out]; omega)
              have hcp := hcell p (by rw [HL.out]; exact hp2)
              have hcm := hcell m (by rw [HL.out]; exact hp3)
              have hst : ofB (l.take (m + 1)) = nextB (ofB (l.take m)) (l[p]'(by rw [HL.out]; exact hp2)) (l[m]'(by rw [HL.out]; exact hp3)) := by
                subst hp
                have := of_next l p (by rw [HL.out]; exact hp3)
                rw [show p + 1 + 16 = p + 16 + 1 by omega] at this
                exact this
              have HX := Lib.hid (show X = scan C l (C.mx + 1 - (m + 1)) (m + 1) m by rw [hX, hk1, scan_back hlm hh hi, show C.mx + 1 - (m + 1) = C.mx - (m + 1) + 1 by omega])
              have q1 := fun r => Lib.hid (next_any (ofB (l.take m)) (l[p]'(by rw [HL.out]; exact hp2)) (l[m]'(by rw [HL.out]; exact hp3)) (w2.drewN (q + r)))
              have hS := (ofB (l.take m)).isLt
              have hb1 := (l[p]'(by rw [HL.out]; exact hp2)).toNat_lt
              have hb2 := (l[m]'(by rw [HL.out]; exact hp3)).toNat_lt
              rw [← hst] at q1
              have HP := Lib.hid hp
              clear hst hcell hX hp
              generalize (l[p]'(by rw [HL.out]; exact hp2)) = x1 at *
              generalize (l[m]'(by rw [HL.out]; exact hp3)) = x2 at *
              go_wp2_with fail
              go_quiet ((go_at_call 26; with_reducible exact quiet_left2 (q1 _).out))
              go_wp2_with fail
              go_roundw
              case rel => exact ⟨m + 1, m, by omega, by omega, by omega, HX.out, by go_num, rfl, rfl, _, rfl⟩
              case measure => simp [intOf]; omega
        · rw [decide_eq_false hi]
          by_cases he : m = C.mx
          · have heB : ((m : Int) == (C.mx : Int)) = true := by simp; omega
            have HX := Lib.hid (show X = kept by rw [hX, show C.mx + 1 - m = 0 + 1 by omega, scan_none hlm hh hi]; rfl)
            clear hX he
            go_wp2
            go_ret
            rw [HX.out]
            exact ⟨rfl, below_drewN HB.out _⟩
          · have he2 : ((m : Int) == (C.mx : Int)) = false := by simp; omega
            have hk1 : C.mx + 1 - m = (C.mx - (m + 1)) + 1 + 1 := by omega
            by_cases hn : m = n
            · have hnB : ((m : Int) == (n : Int)) = true := by simp; omega
              have HX := Lib.hid (show X = 0 by rw [hX, hk1, scan_none hlm hh hi, scan_short (by rw [HL.out]; omega)])
              clear hX hn he
              go_wp2
              go_ret
              rw [HX.out]
              exact ⟨rfl, below_drewN HB.out _⟩
            · have hn2 : ((m : Int) == (n : Int)) = false := by simp; omega
              obtain ⟨p, hp⟩ : ∃ p, m = p + 16 := ⟨m - 16, by omega⟩
              have hp1 : (m : Int) - 16 = (p : Int) := by omega
              have hpw : IntKind.i64.wrap (p : Int) = (p : Int) := by rw [IntKind.wrap_i64]; omega
              have hp2 : p < n := by omega
              have hp3 : m < n := by omega
              obtain ⟨g2, off, rfl, hg2, hcell⟩ := HR.out (by rw [HL.out]; omega)
              have hcp := hcell p (by rw [HL.out]; exact hp2)
              have hcm := hcell m (by rw [HL.out]; exact hp3)
              have hst : ofB (l.take (m + 1)) = nextB (ofB (l.take m)) (l[p]'(by rw [HL.out]; exact hp2)) (l[m]'(by rw [HL.out]; exact hp3)) := by
                subst hp
                have := of_next l p (by rw [HL.out]; exact hp3)
                rw [show p + 1 + 16 = p + 16 + 1 by omega] at this
                exact this
              have HX := Lib.hid (show X = scan C l (C.mx + 1 - (m + 1)) (m + 1) kept by rw [hX, hk1, scan_none hlm hh hi, show C.mx + 1 - (m + 1) = C.mx - (m + 1) + 1 by omega])
              have q1 := fun r => Lib.hid (next_any (ofB (l.take m)) (l[p]'(by rw [HL.out]; exact hp2)) (l[m]'(by rw [HL.out]; exact hp3)) (w2.drewN (q + r)))
              have hS := (ofB (l.take m)).isLt
              have hb1 := (l[p]'(by rw [HL.out]; exact hp2)).toNat_lt
              have hb2 := (l[m]'(by rw [HL.out]; exact hp3)).toNat_lt
              rw [← hst] at q1
              have HP := Lib.hid hp
              clear hst hcell hX hp
              generalize (l[p]'(by rw [HL.out]; exact hp2)) = x1 at *
              generalize (l[m]'(by rw [HL.out]; exact hp3)) = x2 at *
              go_wp2_with fail
              go_quiet ((go_at_call 26; with_reducible exact quiet_left2 (q1 _).out))
              go_wp2_with fail
              go_roundw
              case rel => exact ⟨m + 1, kept, by omega, by omega, by omega, HX.out, by go_num, rfl, rfl, _, rfl⟩
              case measure => simp [intOf]; omega
end Go.Proofs.Ytmnbfmcgnddlaaa
