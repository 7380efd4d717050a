/- The reference's Low; TreeLow's walk, told from what the package does. No statement of the seat is proved here. -/
import Derived.Test.YtiomfkhblmmdoaaTrPages
namespace Go.Proofs.Ytiomfkhblmmdoaa
open Go.RowKit
set_option linter.unusedVariables false
set_option linter.unusedSimpArgs false
set_option maxRecDepth 100000

theorem low_small {h p : Nat} (hp : p ≤ 1000) (hl : 2 ^ h ≤ (p + 1) * (p + 1)) : h < 20 := by
  rcases Nat.lt_or_ge h 20 with q | q
  · exact q
  · have h1 : 2 ^ 20 ≤ 2 ^ h := Nat.pow_le_pow_right (by decide) q
    have h2 : (p + 1) * (p + 1) ≤ 1001 * 1001 := Nat.mul_le_mul (by omega) (by omega)
    have h3 : (2 : Nat) ^ 20 = 1048576 := by decide
    omega
set_option maxHeartbeats 1000000 in
theorem rlow_any (h p : Nat) (hp : p ≤ 1000) (hl : 2 ^ h ≤ (p + 1) * (p + 1)) (w : World) : Calls Try.prog 22 #[.int .i64 h, .int .i64 p] w fun e w' => e = .returned (.bool true) ∧ Below w.heap.size w w' := by
  have hh := low_small hp hl
  obtain ⟨P, hP⟩ : ∃ P, 2 ^ h = P := ⟨_, rfl⟩
  obtain ⟨Q, hQ⟩ : ∃ Q, (p + 1) * (p + 1) = Q := ⟨_, rfl⟩
  have HP := Lib.hid hP
  have HQ := Lib.hid hQ
  have h1 : ¬ (h : Int) < 0 := by omega
  have h2 : ¬ (h : Int) > 60 := by omega
  clear hP hQ
  go_enter Try.func22, Try.ntmps22
  go_wp2_with fail
  go_ret
  have e1 : IntKind.u64.wrap ((2 : Int) ^ h) = (2 : Int) ^ h := by
    have hq : ((2 : Int) ^ h) = ((2 ^ h : Nat) : Int) := by simp
    have hlt : 2 ^ h < 2 ^ 20 := Nat.pow_lt_pow_right (by decide) hh
    rw [hq]
    generalize 2 ^ h = z at hlt
    simp only [IntKind.wrap, IntKind.bits, IntKind.signed]
    simp
    omega
  have e2 : IntKind.u64.wrap (((p : Int) + 1) * ((p : Int) + 1)) = (((p + 1) * (p + 1) : Nat) : Int) := by
    have hq : (((p : Int) + 1) * ((p : Int) + 1)) = (((p + 1) * (p + 1) : Nat) : Int) := by simp
    have hlt : (p + 1) * (p + 1) ≤ 1001 * 1001 := Nat.mul_le_mul (by omega) (by omega)
    rw [hq]
    generalize (p + 1) * (p + 1) = z at hlt
    simp only [IntKind.wrap, IntKind.bits, IntKind.signed]
    simp
    omega
  have hd : decide (IntKind.u64.wrap ((2 : Int) ^ h) ≤ IntKind.u64.wrap (((p : Int) + 1) * ((p : Int) + 1))) = true := decide_eq_true (by
    rw [e1, e2, show ((2 : Int) ^ h) = ((2 ^ h : Nat) : Int) by simp]
    exact Int.ofNat_le.2 hl)
  rw [hd]
  exact ⟨rfl, Below.refl _ _⟩
section
variable {St : World → Value → List PT → Nat → Prop} {Nu : World → Value → Value → Prop}
set_option maxHeartbeats 1000000 in
theorem low_walk (K : TreesOk St Nu) (A : Option Addr) (ls : List AT18) (k c : Nat) (hl : ls.length = k) (hc : k ≤ c) (hcm : c ≤ maxLen) (w : World) (hr : RdQ w w.heap.size A ls) :
    Calls Try.prog 4 #[.slice A k c] w fun e w' => e = .returned (.bool true) ∧ Below w.heap.size w w' := by
  have KS := Lib.hid (shown_any K w)
  have KF := Lib.hid (fun W hW => few_any A ls k c hl hc hcm W (hr.on hW))
  have HR := Lib.hid (show ∀ W, Below w.heap.size w W → RdQ W W.heap.size A ls from fun W hW => hr.on hW)
  have HPL := Lib.hid hl
  obtain ⟨fs, hfs⟩ := act18_desc
  have HF := Lib.hid hfs
  clear hl hr hfs
  go_enter Try.func4, Try.ntmps4
  go_wp2_with fail
  refine KS.out.mono ?_
  rintro e w1 ⟨rfl, hb1⟩
  have KF1 := Lib.hid (KF.out w1 hb1)
  have HB1 := Lib.hid hb1
  clear hb1 KS KF
  go_wp2_with fail
  refine KF1.out.mono ?_
  rintro e w2 ⟨m, hm, hm2, hs, rfl, hb2⟩
  have HS := Lib.hid hs
  have HB2 := Lib.hid (HB1.out.trans (hb2.mono HB1.out.size))
  clear hs hb2 KF1
  go_wp2_with fail
  go_loopw [4, 12] (fun t i wr => ∃ (j : Nat) (v : Value) (L : List PT) (h : Nat), j ≤ m ∧ i = .int .i64 (j : Nat) ∧ v = t ∧ Hid (St wr v L h ∧ L.length ≤ j ∧ Keys18 L) ∧ Hid (Below w.heap.size w wr)) (fun _ i _ => m - (intOf i).toNat)
  case atStart => exact ⟨0, _, [], 0, Nat.zero_le _, rfl, rfl, Lib.hid ⟨K.nil _, Nat.le_refl _, fun p hp => by simp at hp⟩, HB2⟩
  case round =>
    obtain ⟨j, v, L, h, hj, rfl, rfl, HT, HB⟩ := hrel
    by_cases hlt : j < m
    · have hjp : j < ls.length := by rw [HPL.out]; omega
      obtain ⟨g, off, rfl, hg, hra⟩ := (HR.out _ HB.out).row hjp
      have hsx := HS.out (ls[j]) (by rw [List.mem_take_iff_getElem]; exact ⟨j, by omega, rfl⟩)
      obtain ⟨x, hx⟩ : ∃ x, ls[j] = x := ⟨_, rfl⟩
      rw [hx] at hra hsx
      obtain ⟨wb, d, hd, hwb, hbb, hkb⟩ := act_box (w := wr) (x := x)
      have HW := Lib.hid (And.intro hd hwb)
      have HKB := Lib.hid hkb
      have HBB := Lib.hid hbb
      have hLj := HT.out.2.1
      have KD := Lib.hid (does_any K _ L h x wb (K.keep HT.out.1 hbb) (by omega) (by have := hsx.1; unfold maxLen; omega) (by have := hsx.2; unfold maxLen; omega))
      have HRA := Lib.hid (show wr.rangeAt g (off + j * 3) [.bool x.1, .string (st x.2.1), .string (st x.2.2)] from hra)
      have hi1 : (0 : Int) ≤ (j : Int) := by omega
      have hi2 : (j : Int) < (m : Int) := by omega
      have HKX := Lib.hid (HT.out.2.2.done (a := x) (by have := hsx.1; unfold maxLen; omega))
      clear hx hjp hg hra hd hwb hbb hkb hsx
      go_upto_region 6 with (first | (refine wpList_load_mid rfl 32 (.tmp 14) rfl g (off + j * 3) rfl [.bool x.1, .string (st x.2.1), .string (st x.2.2)] (.struct fs) HRA.out HF.out rfl act18_size ?_) | fail)
      rw [HW.out.1, HW.out.2]
      have hkd := HKB.out
      have c0 : wb.cell? ⟨d, 0, none⟩ = some (.bool x.1) := hkd.cell 0
      have c1 : wb.cell? ⟨d, 1, none⟩ = some (.string (st x.2.1)) := hkd.cell 1
      have c2 : wb.cell? ⟨d, 2, none⟩ = some (.string (st x.2.2)) := hkd.cell 2
      clear hkd
      go_wp2_with fail
      refine KD.out.mono ?_
      rintro e w3 ⟨v', h', rfl, q1, q2, q3⟩
      obtain ⟨n, hn⟩ : ∃ n, (doL L x).length = n := ⟨_, rfl⟩
      have hnj : n ≤ j + 1 := by rw [← hn]; exact do_size L x HT.out.2.1
      obtain ⟨l1, l2⟩ := K.low q1
      obtain ⟨l3, _⟩ := K.low HT.out.1
      rw [hn] at l1 l2
      have hh' : h' < 20 := low_small (p := n) (by omega) l1
      have hh : h < 20 := low_small (p := L.length) (by omega) l3
      have HQ := Lib.hid (And.intro q1 (And.intro (show (doL L x).length ≤ j + 1 from do_size L x HT.out.2.1) HKX.out))
      have hb3 : Below wr.heap.size wr w3 := HBB.out.trans (q3.mono HBB.out.size)
      have HB3 := Lib.hid (HB.out.trans (hb3.mono HB.out.size))
      have H3 := Lib.hid (show ∀ W, Below w3.heap.size w3 W → St W v' (doL L x) h' ∧ St W v L h ∧ Nu W v' v from fun W hW => ⟨K.keep q1 hW, K.keep HT.out.1 (hb3.trans (hW.mono hb3.size)), K.nuKeep q2 hW⟩)
      have KH := Lib.hid (fun W hW => K.height v' (doL L x) h' W (H3.out W hW).1 (by rw [hn]; omega))
      have KL := Lib.hid (fun W hW => K.len v' (doL L x) h' W (H3.out W hW).1 (by rw [hn]; omega))
      rw [hn] at KL
      have KW := Lib.hid (fun W => rlow_any h' n (by omega) l1 W)
      have KE := Lib.hid (fun W hW => K.fresh v' v (doL L x) L h' h W (H3.out W hW).1 (H3.out W hW).2.1 (by rw [hn]; omega) (by omega) (H3.out W hW).2.2)
      have KZ := Lib.hid (fun W hW => K.fresh0 v' (doL L x) h' W (H3.out W hW).1 (by rw [hn]; omega))
      have KT := Lib.hid (fun W hW => K.height v L h W (H3.out W hW).2.1 (by omega))
      clear q1 q2 q3 c0 c1 c2 hb3 l1 l3 hn
      go_wp2_with fail
      refine (KH.out w3 (Below.refl _ _)).mono ?_
      rintro e w4 ⟨rfl, b4⟩
      have B4 := Lib.hid b4
      clear b4
      go_wp2_with fail
      refine (KL.out w4 B4.out).mono ?_
      rintro e w5 ⟨rfl, b5⟩
      have B5 := Lib.hid (B4.out.trans (b5.mono B4.out.size))
      clear b5
      go_wp2_with fail
      refine (KW.out w5).mono ?_
      rintro e w6 ⟨rfl, b6⟩
      have B6 := Lib.hid (B5.out.trans (b6.mono B5.out.size))
      clear b6
      go_wp2_with fail
      refine (KL.out w6 B6.out).mono ?_
      rintro e w7 ⟨rfl, b7⟩
      have B7 := Lib.hid (B6.out.trans (b7.mono B6.out.size))
      clear b7
      go_wp2_with fail
      refine (KH.out w7 B7.out).mono ?_
      rintro e w8 ⟨rfl, b8⟩
      have B8 := Lib.hid (B7.out.trans (b8.mono B7.out.size))
      clear b8
      have hgt : (decide ((n : Int) > 0) != decide ((h' : Int) > 0)) = false := by
        by_cases hz : 0 < n
        · rw [decide_eq_true (show (n : Int) > 0 by omega), decide_eq_true (show (h' : Int) > 0 by have := l2.1 hz; omega)]; rfl
        · rw [decide_eq_false (show ¬ (n : Int) > 0 by omega), decide_eq_false (show ¬ (h' : Int) > 0 by have := fun q => hz (l2.2 q); omega)]; rfl
      go_wp2_with fail
      refine (KE.out w8 B8.out).mono ?_
      rintro e w9 ⟨f1, rfl, f10, f11, b9⟩
      have B9 := Lib.hid (B8.out.trans (b9.mono B8.out.size))
      clear b9
      have f12 : ¬ f1 < 0 := by omega
      have f12b : decide (f1 < 0) = false := decide_eq_false f12
      go_wp2_with fail
      refine (KE.out w9 B9.out).mono ?_
      rintro e wa ⟨f2, rfl, f20, f21, ba⟩
      have BA := Lib.hid (B9.out.trans (ba.mono B9.out.size))
      clear ba
      go_wp2_with fail
      refine (KT.out wa BA.out).mono ?_
      rintro e wc ⟨rfl, bc⟩
      have BC := Lib.hid (BA.out.trans (bc.mono BA.out.size))
      clear bc
      have f22 : ¬ f2 > 3 * ((h : Int) + 2) := by omega
      have f22b : decide (f2 > 3 * ((h : Int) + 2)) = false := decide_eq_false f22
      go_wp2_with fail
      refine (KZ.out wc BC.out).mono ?_
      rintro e we ⟨rfl, be⟩
      have BE := Lib.hid (BC.out.trans (be.mono BC.out.size))
      have HQE := Lib.hid (H3.out we BE.out).1
      clear be
      go_wp2_with fail
      go_roundw
      case rel => exact ⟨j + 1, v', doL L x, h', by omega, by go_num, rfl, Lib.hid ⟨HQE.out, HQ.out.2⟩, Lib.hid (HB3.out.trans (BE.out.mono HB3.out.size))⟩
      case measure => simp [intOf]; omega
    · obtain rfl : j = m := by omega
      go_wp2_with fail
      go_ret
      exact ⟨rfl, HB.out⟩
end
end Go.Proofs.Ytiomfkhblmmdoaa
