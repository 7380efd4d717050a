/- Both disks are alike: alike of package disk's statements, told from what the disks do. No statement of the seat is proved here. -/
import Derived.Test.YtdnconakpajdgaaDskRefK
import Derived.Test.YtdnconakpajdgaaOwnRow
namespace Go.Proofs.Ytdnconakpajdgaa
open Go.RowKit
set_option linter.unusedVariables false
theorem bits_xor_byte (a b : Nat) (ha : a < 256) (hb : b < 256) : bits .xor .u8 (a : Int) (b : Int) = ((a ^^^ b : Nat) : Int) := by
  have hx : a ^^^ b < 2 ^ 8 := Nat.xor_lt_two_pow (by omega) (by omega)
  have h1 : (BitVec.ofInt 8 (a : Int)).toNat = a := by
    rw [BitVec.ofInt_natCast, BitVec.toNat_ofNat]; exact Nat.mod_eq_of_lt (by omega)
  have h2 : (BitVec.ofInt 8 (b : Int)).toNat = b := by
    rw [BitVec.ofInt_natCast, BitVec.toNat_ofNat]; exact Nat.mod_eq_of_lt (by omega)
  show IntKind.u8.wrap ((BitVec.ofInt 8 (a : Int) ^^^ BitVec.ofInt 8 (b : Int)).toNat : Int) = _
  rw [BitVec.toNat_xor, h1, h2, IntKind.wrap_u8]
  omega
theorem xor_byte (x : UInt8) : ∃ y : UInt8, bits .xor .u8 ((x.toNat : Nat) : Int) 255 = ((y.toNat : Nat) : Int) := by
  have h := x.toNat_lt
  refine ⟨x ^^^ 255, ?_⟩
  rw [show (255 : Int) = ((255 : Nat) : Int) from rfl, bits_xor_byte _ _ (by omega) (by omega), UInt8.toNat_xor]
  rfl
section
variable {St : World → Addr → (Nat → Prop) → DS → Prop} {w : World} {s r : Addr} {F G : Nat → Prop} {S : DS}
set_option maxRecDepth 100000 in
set_option maxHeartbeats 4000000 in
theorem alike_any (K : DisksOk St) (hs : St w s F S) (hr : Rst w r G S) (hf : Few S) :
    Calls Try.prog 18 #[.pointer (some s), .pointer (some r)] w fun e w' => e = .returned (.bool true) ∧ Below w.heap.size w w' := by
  obtain ⟨d, As, cs, Ap, cp, rfl, hR, hk, hG⟩ := hr
  have HC0 := Lib.hid (show ∀ W, Below w.heap.size w W → W.cell? ⟨d, 0, none⟩ = some (.slice As S.n cs) ∧ W.cell? ⟨d, 1, none⟩ = some (.slice Ap S.put.length cp) ∧ W.cell? ⟨d, 2, none⟩ = some (.bool S.off) ∧ W.cell? ⟨d, 4, none⟩ = some (.int .i64 (S.cnt : Nat)) from fun W hb => by
    have hb := hR.blk.below hb hR.blk.lt
    exact ⟨hb.cell 0, hb.cell 1, hb.cell 2, hb.cell 4⟩)
  have KS := Lib.hid (fun W (hb : Below w.heap.size w W) => K.size s F S W (K.below hs hb))
  have KP := Lib.hid (fun W (hb : Below w.heap.size w W) => K.pending s F S W (K.below hs hb))
  have KD := Lib.hid (fun W (hb : Below w.heap.size w W) => K.dead s F S W (K.below hs hb))
  have KC := Lib.hid (fun W (hb : Below w.heap.size w W) => K.count s F S W (K.below hs hb))
  have KR := Lib.hid (fun W (hb : Below w.heap.size w W) (at_ : Int) (ha : In64 at_) => K.read s F S at_ W (K.below hs hb) hf ha)
  have KR2 := Lib.hid (fun W (hb : Below w.heap.size w W) (at_ : Int) => rread_any (rd_keep hR fun g hg => hb.block g (rf_lt hR g hg)) hf.1 at_)
  have hn16 : S.n ≤ 16384 := hk.le
  have HB1 : Below w.heap.size w w.drew := ⟨rfl, rfl, rfl, Nat.le_refl _, fun _ _ => rfl⟩
  have HLR := Lib.hid (show ∀ q : Int, readS S q = readS S q from fun _ => rfl)
  clear hR hG hs K hk hf
  have HC := HC0
  obtain ⟨sn, hsn⟩ : ∃ sn, S.n = sn := ⟨_, rfl⟩
  obtain ⟨p, hp⟩ : ∃ p, S.put.length = p := ⟨_, rfl⟩
  obtain ⟨of, hof⟩ : ∃ of, S.off = of := ⟨_, rfl⟩
  obtain ⟨cn, hcn⟩ : ∃ cn, S.cnt = cn := ⟨_, rfl⟩
  rw [hsn] at KS hn16 HC HC0
  rw [hp] at KP HC HC0
  rw [hof] at KD HC HC0
  rw [hcn] at KC HC HC0
  clear hsn hp hof hcn
  have hs1 := HC.out _ HB1
  go_enter Try.func18, Try.ntmps18
  go_wp2_with fail
  (go_region_held (fun W => W.cell? ⟨d, 0, none⟩ = some (.slice As sn cs) ∧ W.cell? ⟨d, 1, none⟩ = some (.slice Ap p cp) ∧ W.cell? ⟨d, 2, none⟩ = some (.bool of) ∧ W.cell? ⟨d, 4, none⟩ = some (.int .i64 (cn : Nat))) (first | exact HC.out _ (by assumption) | fail) (first
    | (go_at_call 25; (with_reducible refine (KS.out _ HB1).mono ?_); rintro e w2 ⟨rfl, hb2x⟩; have hb2 := HB1.trans (hb2x.mono HB1.size); clear hb2x; have hs2 := HC.out _ hb2)
    | (go_at_call 22; (with_reducible refine (KP.out _ hb2).mono ?_); rintro e w3 ⟨rfl, hb3x⟩; have hb3 := hb2.trans (hb3x.mono hb2.size); clear hb3x; have hs3 := HC.out _ hb3)
    | (go_at_call 23; (with_reducible refine (KD.out _ hb3).mono ?_); rintro e w4 ⟨rfl, hb4x⟩; have hb4 := hb3.trans (hb4x.mono hb3.size); clear hb4x; have hs4 := HC.out _ hb4)
    | (go_at_call 21; (with_reducible refine (KC.out _ hb4).mono ?_); rintro e w5 ⟨rfl, hb5x⟩; have hb5 := hb4.trans (hb5x.mono hb4.size); clear hb5x; have hs5 := HC.out _ hb5)))
  have H5 := Lib.hid hb5
  clear hs1 hs2 hs3 hs4 hs5 hb2 hb3 hb4 hb5 HB1
  go_wp2_with fail
  obtain ⟨M, hM, hM40⟩ : ∃ M : Nat, M = min 40 sn ∧ M ≤ 40 := ⟨_, rfl, by omega⟩
  go_loopw [5] (fun i wr => ∃ j : Nat, j ≤ M + 2 ∧ i = .int .i64 ((j : Int) - 1) ∧ Hid (Below w.heap.size w wr)) (fun i _ => M + 2 - (intOf i + 1).toNat)
  case atStart => exact ⟨0, by omega, rfl, Lib.hid H5.out⟩
  case round =>
    clear H5
    obtain ⟨j, hj, rfl, hst⟩ := hrel
    have hc0 := (HC.out _ hst.out).1
    by_cases hlt : j ≤ M + 1
    · have hin : In64 ((j : Int) - 1) := by unfold In64; omega
      have KRW := Lib.hid (KR.out _ hst.out ((j : Int) - 1) hin)
      have KX := Lib.hid (fun W (hb : Below w.heap.size w W) => KR2.out _ hb ((j : Int) - 1))
      unfold st at KX
      obtain ⟨bs, hbs⟩ : ∃ bs, readS S ((j : Int) - 1) = bs := ⟨_, rfl⟩
      obtain ⟨re, hre⟩ : ∃ re, readE S ((j : Int) - 1) = re := ⟨_, rfl⟩
      obtain ⟨m, hm⟩ : ∃ m, bs.length = m := ⟨_, rfl⟩
      rw [hbs, hre] at KRW KX
      rw [hm] at KRW
      have HM := Lib.hid hm
      obtain ⟨i, hi⟩ : ∃ i : Int, (j : Int) - 1 = i := ⟨_, rfl⟩
      rw [hi] at KRW KX ⊢
      have hi1 : i ≤ (M : Int) := by omega
      have HI := Lib.hid hi.symm
      clear hbs hre hm hin
      have hi3 : i ≤ (sn : Int) := by omega
      have hi4 : i ≤ 40 := by omega
      have hi0 : -1 ≤ i := by omega
      clear hi
      have hiM := Lib.hid (And.intro hi1 (And.intro hj hlt))
      have HM40 := Lib.hid hM40
      clear hi1
      rcases (show ((sn : Int) < 40) ∨ (¬ (sn : Int) < 40 ∧ ¬ 40 < (sn : Int)) ∨ (40 < (sn : Int)) by omega) with h40 | ⟨h40, h41⟩ | h40
      all_goals clear hM hM40
      all_goals (
        go_wp2_with fail
        (with_reducible refine KRW.out.mono ?_)
        rintro e w2 ⟨A2, c2, rfl, ho2, hb2x⟩
        have H2 := Lib.hid (And.intro ho2 (hst.out.trans (hb2x.mono hst.out.size)))
        have HLB := Lib.hid hst.out.size
        have hm63 : m ≤ 9223372036854775807 := by have := ownsRow_form2 ho2; unfold maxLen at this; omega
        clear ho2 hb2x hst KRW hc0
        go_wp2_with fail
        (with_reducible refine (KX.out _ H2.out.2).mono ?_)
        rintro e w3 ⟨rfl, rfl⟩
        have hcv : (convert 32 9 (.slice A2 m c2)).run Try.prog w2 = .ok (.string ⟨bs.toArray⟩) w2 := conv_own HM.out (Rd.of_own H2.out.1)
        generalize (⟨bs.toArray⟩ : ByteArray) = sb at *
        go_wp2_with fail
        go_loopw [80] (fun i wr2 => ∃ (q : Nat) (l : List UInt8), q ≤ m ∧ i = .int .i64 q ∧ Hid (wr2.ownsRow wr.heap.size 64 1 (.slice A2 m c2) m (bv l) ∧ Below w.heap.size w wr2)) (fun i _ => m - (intOf i).toNat)
        case atStart => exact ⟨0, bs, Nat.zero_le _, rfl, Lib.hid H2.out⟩
        case round =>
          clear hcv H2
          obtain ⟨q, l, hq, rfl, hst⟩ := hrel
          by_cases hqm : q < m
          · obtain ⟨g2, y, rfl, hg2, hcy, hfy⟩ := own_at hst.out.1 hqm
            obtain ⟨y2, hy2⟩ := xor_byte y
            have hyl := y.toNat_lt
            have HRO := Lib.hid (own_set (g := g2) (j := q) hst.out.1 y2)
            have HBL := Lib.hid (hst.out.2.setCell (p := ⟨g2, q, none⟩) (Nat.le_trans HLB.out (hst.out.1.lt g2 hg2).1) (.int .u8 y2.toNat))
            have hq1 : (0 : Int) ≤ (q : Int) := by omega
            have hq2 : (q : Int) < (m : Int) := by omega
            clear hst hg2
            generalize y.toNat = yn at *
            go_wp2_with fail
            go_roundw
            case rel => obtain ⟨l', hl'⟩ := HRO.out; exact ⟨q + 1, l', by omega, by go_num, Lib.hid ⟨hl', HBL.out⟩⟩
            case measure => simp [intOf]; omega
          · obtain rfl : m = q := by omega
            have H4 := Lib.hid hst.out.2
            clear hst
            go_wp2_with fail
            go_roundw
            case rel => exact ⟨j + 1, by have := hiM.out; omega, by have := HI.out; have := hiM.out; have := HM40.out; go_num, Lib.hid H4.out⟩
            case measure => have := HI.out; have := hiM.out; have := HM40.out; simp [intOf]; omega)
    · have H6 := Lib.hid hst.out
      obtain ⟨i, hi⟩ : ∃ i : Int, (j : Int) - 1 = i := ⟨_, rfl⟩
      rw [hi]
      have hi1 : (M : Int) < i := by omega
      clear hst hi hj hlt
      have HI1 := Lib.hid hi1
      rcases (show ((sn : Int) < 40 ∧ (sn : Int) < i) ∨ (¬ (sn : Int) < 40 ∧ ¬ 40 < (sn : Int) ∧ (sn : Int) < i ∧ 40 < i) ∨ (40 < (sn : Int) ∧ 40 < i) by omega) with ⟨h40, h41⟩ | ⟨h40, h41, h42, h43⟩ | ⟨h40, h41⟩
      all_goals clear hM hM40 hi1
      all_goals (
        go_wp2_with fail
        go_ret
        exact ⟨rfl, H6.out⟩)
end
end Go.Proofs.Ytdnconakpajdgaa
