/- TreePages' walk, told from what the package does. No statement of the seat is proved here. -/
import Derived.Test.YtiomfkhblmmdoaaTrShown
namespace Go.Proofs.Ytiomfkhblmmdoaa
open Go.RowKit
set_option linter.unusedVariables false
set_option linter.unusedSimpArgs false
set_option maxRecDepth 100000

theorem act18_desc : ∃ fs, Try.prog.underlying 32 = some (.struct fs) := ⟨_, Try.underlying32⟩
theorem act18_size : (Try.prog.info? 32).map (·.size) = some 3 := by kernel_rfl
theorem RdQ.row {w : World} {B : Nat} {A : Option Addr} {ls : List AT18} (h : RdQ w B A ls) {j : Nat} (hj : j < ls.length) : ∃ g off, A = some ⟨g, off, none⟩ ∧ g < B ∧ w.rangeAt g (off + j * 3) (acs18 ls[j]) := by
  obtain ⟨g, off, e, hg, hc⟩ := h (by simp; omega)
  refine ⟨g, off, e, hg, ?_⟩
  have := hc j (by simpa using hj)
  rwa [List.getElem_map] at this
/-- Keys of a length that is a length. -/
def Keys18 (L : List PT) : Prop := ∀ p ∈ L, p.1.length ≤ maxLen
theorem Keys18.done {L : List PT} (h : Keys18 L) {a : AT18} (ha : a.2.1.length ≤ maxLen) : Keys18 (doL L a) := fun p hp => by
  unfold doL at hp
  split at hp
  · exact h p (drop_mem hp)
  · rcases put_mem hp with rfl | hp
    · exact ha
    · exact h p hp
/-- A variable for an act, and the act in it. -/
theorem act_box {w : World} {x : AT18} : ∃ w2 d, w.heap.size = d ∧ w.alloc (.cells #[.bool x.1, .string (st x.2.1), .string (st x.2.2)] 32) = w2 ∧ Below w.heap.size w w2 ∧ Blk w2 d 32 (acs18 x).toArray :=
  ⟨_, _, rfl, rfl, (Below.refl w.heap.size w).alloc (Nat.le_refl _) _, Blk.new w 32 _⟩
section
variable {St : World → Value → List PT → Nat → Prop} {Nu : World → Value → Value → Prop}
set_option maxHeartbeats 1000000 in
theorem pages_walk (K : TreesOk St Nu) (A : Option Addr) (ls : List AT18) (k c : Nat) (key : List UInt8) (n : Nat) (hkey : key.length ≤ maxLen) (hn : n < 256) (hl : ls.length = k) (hc : k ≤ c) (hcm : c ≤ maxLen) (w : World) (hr : RdQ w w.heap.size A ls) :
    Calls Try.prog 7 #[.slice A k c, .string (st key), .int .u8 n] w fun e w' => e = .returned (.bool true) ∧ Below w.heap.size w w' := by
  have KS := Lib.hid (shown_any K w)
  have KF := Lib.hid (fun W hW => few_any A ls k c hl hc hcm W (hr.on hW))
  have HR := Lib.hid (show ∀ W, Below w.heap.size w W → RdQ W W.heap.size A ls from fun W hW => hr.on hW)
  have HPL := Lib.hid hl
  obtain ⟨fs, hfs⟩ := act18_desc
  have HF := Lib.hid hfs
  clear hl hr hfs
  go_enter Try.func7, Try.ntmps7
  go_wp2_with fail
  refine KS.out.mono ?_
  rintro e w1 ⟨rfl, hb1⟩
  have KF1 := Lib.hid (KF.out w1 hb1)
  have HB1 := Lib.hid hb1
  clear hb1 KS KF
  go_wp2_with fail
  refine KF1.out.mono ?_
  rintro e w2 ⟨m, hm, hm2, hs, rfl, hb2⟩
  have HS := Lib.hid hs
  have HB2 := Lib.hid (HB1.out.trans (hb2.mono HB1.out.size))
  clear hs hb2 KF1
  go_wp2_with fail
  go_loopw [8, 17] (fun t i wr => ∃ (j : Nat) (v : Value) (L : List PT) (h : Nat), j ≤ m ∧ i = .int .i64 (j : Nat) ∧ t = v ∧ Hid (St wr v L h ∧ L.length ≤ j ∧ Keys18 L) ∧ Hid (Below w.heap.size w wr)) (fun _ i _ => m - (intOf i).toNat)
  case atStart => exact ⟨0, _, [], 0, Nat.zero_le _, rfl, rfl, Lib.hid ⟨K.nil _, Nat.le_refl _, fun p hp => by simp at hp⟩, HB2⟩
  case round =>
    obtain ⟨j, v, L, h, hj, rfl, rfl, HT, HB⟩ := hrel
    by_cases hlt : j < m
    · have hjp : j < ls.length := by rw [HPL.out]; omega
      obtain ⟨g, off, rfl, hg, hra⟩ := (HR.out _ HB.out).row hjp
      have hsx := HS.out (ls[j]) (by rw [List.mem_take_iff_getElem]; exact ⟨j, by omega, rfl⟩)
      obtain ⟨x, hx⟩ : ∃ x, ls[j] = x := ⟨_, rfl⟩
      rw [hx] at hra hsx
      obtain ⟨wb, d, hd, hwb, hbb, hkb⟩ := act_box (w := wr) (x := x)
      have HW := Lib.hid (And.intro hd hwb)
      have HKB := Lib.hid hkb
      have HBB := Lib.hid hbb
      have KD := Lib.hid (does_any K _ L h x wb (K.keep HT.out.1 hbb) (by have := HT.out.2.1; omega) (by have := hsx.1; unfold maxLen; omega) (by have := hsx.2; unfold maxLen; omega))
      have HRA := Lib.hid (show wr.rangeAt g (off + j * 3) [.bool x.1, .string (st x.2.1), .string (st x.2.2)] from hra)
      have hi1 : (0 : Int) ≤ (j : Int) := by omega
      have hi2 : (j : Int) < (m : Int) := by omega
      have HKX := Lib.hid (HT.out.2.2.done (a := x) (by have := hsx.1; unfold maxLen; omega))
      clear hx hjp hg hra hd hwb hbb hkb hsx
      go_upto_region 6 with (first | (refine wpList_load_mid rfl 32 (.tmp 19) rfl g (off + j * 3) rfl [.bool x.1, .string (st x.2.1), .string (st x.2.2)] (.struct fs) HRA.out HF.out rfl act18_size ?_) | fail)
      rw [HW.out.1, HW.out.2]
      have hkd := HKB.out
      have c0 : wb.cell? ⟨d, 0, none⟩ = some (.bool x.1) := hkd.cell 0
      have c1 : wb.cell? ⟨d, 1, none⟩ = some (.string (st x.2.1)) := hkd.cell 1
      have c2 : wb.cell? ⟨d, 2, none⟩ = some (.string (st x.2.2)) := hkd.cell 2
      clear hkd
      go_wp2_with fail
      refine KD.out.mono ?_
      rintro e w3 ⟨v', h', rfl, q1, -, q3⟩
      have HQ := Lib.hid (And.intro q1 (And.intro (show (doL L x).length ≤ j + 1 from do_size L x HT.out.2.1) HKX.out))
      have HB3 := Lib.hid (HB.out.trans (HBB.out.mono HB.out.size |>.trans (q3.mono (Nat.le_trans HB.out.size HBB.out.size))))
      clear q1 q3 c0 c1 c2
      go_wp2_with fail
      go_roundw
      case rel => exact ⟨j + 1, v', doL L x, h', by omega, by go_num, rfl, HQ, HB3⟩
      case measure => simp [intOf]; omega
    · obtain rfl : j = m := by omega
      have hLj := HT.out.2.1
      have KA := Lib.hid (K.pairs _ L h key 4611686018427387904 wr HT.out.1 (by omega) hkey (by decide) (by decide))
      obtain ⟨F, hF⟩ : ∃ F, fromL L key 4611686018427387904 = F := ⟨_, rfl⟩
      obtain ⟨G, hG⟩ : ∃ G, fromL L key (n : Int) = G := ⟨_, rfl⟩
      have hFd : F = L.drop (posL L key) := by rw [← hF]; exact from_big L key (by omega)
      have hGt : G = F.take n := by rw [← hG, hFd]; unfold fromL; rw [Int.toNat_natCast]
      obtain ⟨a, ha⟩ : ∃ a, F.length = a := ⟨_, rfl⟩
      obtain ⟨b, hb⟩ : ∃ b, G.length = b := ⟨_, rfl⟩
      have hab : b = min n a := by rw [← hb, hGt, List.length_take, ha]
      have haj : a ≤ 200 := by rw [← ha, hFd, List.length_drop]; omega
      have HG := Lib.hid (And.intro hFd (And.intro hGt (And.intro ha hb)))
      have KB := Lib.hid (show ∀ W, Below wr.heap.size wr W → _ from fun W hW => K.pairs _ L h key (n : Int) W (K.keep HT.out.1 hW) (by omega) hkey (by omega) (by omega))
      rw [hF, ha] at KA
      rw [hG, hb] at KB
      have hmin : min (n : Int) (a : Int) = (b : Int) := by omega
      have hn2 : (n : Int) < 256 := by omega
      have hba : (b : Int) ≤ (a : Int) := by omega
      have hbb : ((b : Int) != (b : Int)) = false := by simp
      clear hF hG hFd hGt ha hb hab
      go_wp2_with fail
      refine KA.out.mono ?_
      rintro e w3 ⟨A3, c3, rfl, r3, -, z3, z4, b3⟩
      have R3 := Lib.hid r3
      have HB3 := Lib.hid b3
      have z5 : (a : Int) ≤ (c3 : Int) := by have := HG.out.2.2.1; omega
      have z6 : (c3 : Int) ≤ 9223372036854775807 := by unfold maxLen at z4; omega
      have KB3 := Lib.hid (KB.out w3 b3)
      clear r3 b3 z3 z4 KA KB
      go_wp2_with fail
      refine KB3.out.mono ?_
      rintro e w4 ⟨A4, c4, rfl, r4, -, z3, z4, b4⟩
      have R4 := Lib.hid r4
      have HB4 := Lib.hid (HB3.out.trans (b4.mono HB3.out.size))
      have z7 : (b : Int) ≤ (c4 : Int) := by have := HG.out.2.2.2; omega
      have hsame : decide (G = F.take b) = true := by
        refine decide_eq_true ?_
        obtain ⟨_, g2, g3, g4⟩ := HG.out
        rw [← g4, g2, List.length_take]
        rcases Nat.le_total n F.length with h | h
        · rw [Nat.min_eq_left h]
        · rw [Nat.min_eq_right h, List.take_of_length_le h, List.take_of_length_le (Nat.le_refl _)]
      have KP := Lib.hid (rsamepairs_any A4 G b c4 A3 (F.take b) b c3 HG.out.2.2.2 (by rw [List.length_take, HG.out.2.2.1]; omega) (by omega) w4 r4 ((R3.out.on b4).take b))
      rw [hsame] at KP
      have RQ := Lib.hid (R3.out.on b4)
      clear r4 b4 z3 z4 hsame KB3
      go_wp2_with fail
      refine KP.out.mono ?_
      rintro e w5 ⟨rfl, b5⟩
      have R5 := Lib.hid (RQ.out.on b5)
      have HB5 := Lib.hid (HB4.out.trans (b5.mono HB4.out.size))
      clear KP
      by_cases hE : b = a
      · subst hE
        have hee : ((b : Int) == (b : Int)) = true := by simp
        clear b5
        go_wp2_with fail
        go_ret
        exact ⟨rfl, HB.out.trans (HB5.out.mono HB.out.size)⟩
      · have hee : ((b : Int) == (a : Int)) = false := by simp; omega
        have hba2 : (b : Int) < (a : Int) := by omega
        have hb0 : (0 : Int) ≤ (b : Int) := by omega
        obtain ⟨g, off, rfl, hg, hc1, -⟩ := (R5.out).at_ (j := b) (by rw [HG.out.2.2.1]; omega)
        have hbl : b < F.length := by rw [HG.out.2.2.1]; omega
        obtain ⟨X, hX⟩ : ∃ X, F[b].1 = X := ⟨_, rfl⟩
        rw [hX] at hc1
        have hdl : (F.drop b).length = a - b := by rw [List.length_drop, HG.out.2.2.1]
        have hFX : fromL L X 4611686018427387904 = F.drop b := by
          obtain ⟨g1, _, g3, _⟩ := HG.out
          have := from_on (K.ord HT.out.1) key (j := b) (by rw [← g1]; exact hbl) (n := 4611686018427387904) (by omega)
          rw [← hX]
          simp only [g1] at this ⊢
          exact this
        have hXl : X.length ≤ maxLen := by
          rw [← hX]
          refine HT.out.2.2 _ ?_
          have := List.getElem_mem hbl
          have e := HG.out.1
          exact List.mem_of_mem_drop (i := posL L key) (by rw [← e]; exact this)
        have H5 := K.keep HT.out.1 HB5.out
        have C1 := Lib.hid (show ∀ W, Below w5.heap.size w5 W → _ from fun W hW => K.pairs _ L h X 4611686018427387904 W (K.keep H5 hW) (by omega) hXl (by decide) (by decide))
        rw [hFX, hdl] at C1
        have SX := Lib.hid (show ∀ W, Below w5.heap.size w5 W → W.cell? ⟨g, off + b * 2, none⟩ = some (.string (st X)) from fun W hW => by rw [hW.cell (p := ⟨g, off + b * 2, none⟩) hg]; exact hc1)
        have HRB := Lib.hid (show ∀ W, Below w5.heap.size w5 W → RdP W W.heap.size (some ⟨g, off + b * 2, none⟩) (F.drop b) from fun W hW => by
          obtain ⟨g', off', e, h2⟩ := (R5.out.on hW).drop hbl
          injection e with e
          injection e with e1 e2 _
          subst e1 e2
          exact h2)
        have HDL := Lib.hid hdl
        have hcb : ¬ c3 = b := by omega
        have hcb2 : (b : Int) ≤ (c3 : Int) := by omega
        have hbw : Below w5.heap.size w5 w5.drew := below_drewN (Below.refl w5.heap.size w5) 1
        clear hX hdl hFX hXl H5 hbl b5
        go_wp2_with fail
        (go_region_held3 (fun W => W.cell? ⟨g, off + b * 2, none⟩ = some (.string (st X))) (exact SX.out _ (by assumption)) (first
          | (go_at_call 19; (with_reducible refine (C1.out _ (by assumption)).mono ?_); rintro e w6 ⟨A6, c6, rfl, r6, -, -, -, b6⟩; have hb6 := Below.trans (by assumption : Below w5.heap.size w5 _) (b6.mono (by first | exact Below.size (by assumption) | simp)))
          | (go_at_call 18; refine (rsamepairs_any A6 (F.drop b) (a - b) c6 _ (F.drop b) _ _ HDL.out HDL.out (by omega) _ r6 (HRB.out _ (by assumption))).mono ?_; rintro e w7 ⟨rfl, b7⟩; have hb7 := hb6.trans (b7.mono hb6.size); rw [decide_eq_true rfl])))
        all_goals (go_wp2_with fail; go_ret; exact ⟨rfl, HB.out.trans ((HB5.out.trans (hb7.mono HB5.out.size)).mono HB.out.size)⟩)
end
end Go.Proofs.Ytiomfkhblmmdoaa
