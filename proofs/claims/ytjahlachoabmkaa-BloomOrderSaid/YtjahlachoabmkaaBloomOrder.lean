/-
  The order and the number of times in which keys are added to a filter do not matter, and Or of the bytes of another filter is as adding its keys: for all numbers of bits and probes, all keys (as many as the law takes), all cuts. No conditions.
-/
import Derived.Test.YtjahlachoabmkaaRows
import Derived.Test.YtjahlachoabmkaaOpen
import Derived.Test.YtjahlachoabmkaaBloomFour
import Derived.Test.YtjahlachoabmkaaStillMid
import Derived.WalkKit
import Derived.ProofKit
import Derived.OpenShut
import Derived.ShutString
import Derived.ChangeOld
import Derived.Below
namespace Go.Proofs.Ytjahlachoabmkaa.bloomOrder
open Go.ChangeShapes Go.WideShapes Go.ChangeAt Go.RowKit
open Go.ChangeMaps (open_string shut_string)
set_option linter.unusedVariables false

theorem own : ownKnob Try.prog.godebug = none := by kernel_rfl
theorem laidOut : laidOutB Try.prog = true := by kernel_rfl

set_option maxRecDepth 100000 in
set_option maxHeartbeats 2000000 in
theorem order_walk (n pr cut : Nat) (hn : n < 65536) (hpr : pr < 65536) (hcut : cut < 65536) (A3 : Option Addr) (n3 c3 : Nat) (ks : List KeyT) (hl3 : ks.length = n3) (hc3 : n3 ≤ c3) (hm3 : c3 ≤ maxLen) (w : World) (hr3 : RdK w w.heap.size A3 ks) :
    Calls Try.prog 5 #[.int .u16 n, .int .u16 pr, .slice A3 n3 c3, .int .u16 cut] w fun e w' => e = .returned (.bool true) ∧ Below w.heap.size w w' := by
  obtain ⟨p, hp⟩ : ∃ p, pr % 31 = p := ⟨_, rfl⟩
  have hpi : (pr : Int) % 31 = (p : Int) := by omega
  have k1 : ∀ W, Calls Try.prog 9 #[.int .i64 n, .int .i64 p] W _ := fun W => new_ok n p (by omega) (by omega) W
  obtain ⟨m, hm⟩ : ∃ m, m = min n3 300 := ⟨_, rfl⟩
  have hmin : (if (300 : Int) < (n3 : Int) then (300 : Int) else (n3 : Int)) = (m : Int) := by split <;> omega
  obtain ⟨k0, hk0⟩ : ∃ k0, cut % (m + 1) = k0 := ⟨_, rfl⟩
  have hki : (cut : Int) % ((m : Int) + 1) = (k0 : Int) := by rw [← hk0]; simp
  obtain ⟨fs, hfs⟩ := key_desc
  have HF := Lib.hid hfs
  have K1 := Lib.hid k1
  have hml : (ks.take m).length = m := by rw [List.length_take, hl3]; omega
  have HR3 := Lib.hid (hr3.take m)
  obtain ⟨xs, hxs⟩ : ∃ xs, ks.take m = xs := ⟨_, rfl⟩
  rw [hxs] at hml HR3
  have HML := Lib.hid hml
  have hmc : (m : Int) ≤ (c3 : Int) := by omega
  have hm63 : c3 ≤ 9223372036854775807 := by unfold maxLen at hm3; omega
  have hm3' : m ≤ 300 := by omega
  clear k1 hfs hl3 hr3 hc3 hm3 hml hxs hm hp hk0
  go_enter Try.func5, Try.ntmps5
  go_wp2_with fail
  refine (shown_any _).mono ?_
  rintro e w1 ⟨rfl, hb1⟩
  have hba := hb1.alloc hb1.size (.cells #[.pointer none, .pointer none, .pointer none, .pointer none] 52)
  have hblk := Blk.new w1 52 #[.pointer none, .pointer none, .pointer none, .pointer none]
  have hbw := hb1.size
  obtain ⟨b, hb⟩ : ∃ b, b = w1.heap.size := ⟨_, rfl⟩
  rw [← hb] at hbw
  have HBW := Lib.hid hbw
  go_wp2_with fail
  rw [← hb] at hblk ⊢
  generalize w1.alloc (.cells #[.pointer none, .pointer none, .pointer none, .pointer none] 52) = w2 at *
  have hfew : Few w2 w.heap.size b n p [] := ⟨(fun f hf => by cases hf), List.Pairwise.nil, hblk, (fun f hf => by cases hf)⟩
  have HFEW := Lib.hid hfew
  have HBA := Lib.hid hba
  clear hfew hblk hba hb1 hbw hb
  go_loopw [18] (fun i wr => ∃ l : List (Nat × Nat), l.length ≤ 4 ∧ i = .int .i64 l.length ∧ Few wr w.heap.size b n p l ∧ Below w.heap.size w wr) (fun i _ => 4 - (intOf i).toNat)
  case atStart => exact ⟨[], by simp, rfl, HFEW.out, HBA.out⟩
  case round =>
    clear HFEW HBA
    obtain ⟨l, hl4, rfl, hfew, hbel⟩ := hrel
    obtain ⟨j, hj⟩ : ∃ j, l.length = j := ⟨_, rfl⟩
    by_cases hlt : l.length < 4
    · have hat := ptrs_at hlt
      have HFEW := Lib.hid hfew
      have HBEL := Lib.hid hbel
      have HLT := Lib.hid hlt
      rw [hj] at hat hlt ⊢
      have hj4 : (j : Int) < 4 := by omega
      have hj0 : (0 : Int) ≤ (j : Int) := by omega
      have HJ := Lib.hid hj
      clear hfew hbel hj
      go_wp2_with fail
      (with_reducible refine (K1.out _).mono ?_)
      rintro e w3 ⟨v, g, rfl, hv, hg, h3, hb3⟩
      have hblk := HFEW.out.blk.below hb3 HFEW.out.blk.lt
      have hcj := hblk.cell j
      rw [hat] at hcj
      have hfj := hblk.frozen j
      have hpush := HFEW.out.push hb3 HLT.out h3 hg (Nat.le_trans HBEL.out.size hg)
      rw [HJ.out] at hpush
      have hx3 := (HBEL.out.trans (hb3.mono HBEL.out.size)).setCell (p := ⟨b, j, none⟩) HBW.out (.pointer (some ⟨v, 0, none⟩))
      have H3 := Lib.hid (And.intro hpush hx3)
      clear hpush hx3 hblk h3 hb3 hv hg hat
      go_wp2_with fail
      go_roundw
      case rel => exact ⟨l ++ [(v, g)], by rw [List.length_append, HJ.out]; simp; omega, by rw [List.length_append, HJ.out]; go_num, H3.out.1, H3.out.2⟩
      case measure => simp [intOf]; omega
    · have hl : l.length = 4 := by omega
      obtain ⟨v, g, hF⟩ := hfew.four hl
      have HF4 := Lib.hid hF
      have HBEL := Lib.hid hbel
      rw [hl, show ((4 : Nat) : Int) = 4 from rfl]
      clear hfew hbel hF hl hj hl4 hlt
      go_wp2_with fail
      rw [hki]
      go_loopw [53] (fun i wr => ∃ j : Nat, j ≤ m ∧ i = .int .i64 j ∧ ∃ L, Four wr w.heap.size b n p v g L ∧ Below w.heap.size w wr ∧ OrderOk xs j L) (fun i _ => m - (intOf i).toNat)
      case atStart => exact ⟨0, Nat.zero_le _, rfl, _, HF4.out, HBEL.out, OrderOk.start xs⟩
      case round =>
        clear HF4 HBEL
        obtain ⟨j, hj, rfl, L, hF, hb, hok⟩ := hrel
        have HOK := Lib.hid hok
        clear hok
        by_cases hlt : j < m
        · have hjx : j < xs.length := by rw [HML.out]; exact hlt
          have hyx : m - 1 - j < xs.length := by rw [HML.out]; omega
          have h0x : 0 < xs.length := by omega
          obtain ⟨g3, off, rfl, hgl, hra, hokx⟩ := HR3.out.at_ hjx
          obtain ⟨g4, off4, e4, _, hra4, hoky⟩ := HR3.out.at_ hyx
          obtain ⟨g5, off5, e5, _, hra5, hokz⟩ := HR3.out.at_ h0x
          injection e4 with e4
          injection e4 with e41 e42
          injection e5 with e5
          injection e5 with e51 e52
          subst e41 e42 e51 e52
          have HJX := Lib.hid hjx
          have HX0 := Lib.hid (List.getElem?_eq_getElem hjx)
          have HY0 := Lib.hid (show xs[xs.length - 1 - j]? = some xs[m - 1 - j] by rw [HML.out]; exact List.getElem?_eq_getElem hyx)
          have HZ0 := Lib.hid (List.getElem?_eq_getElem h0x)
          generalize xs[j] = x at *
          generalize xs[m - 1 - j] = y at *
          generalize xs[0] = z at *
          have HOx := Lib.hid hokx
          have HOy := Lib.hid hoky
          have HOz := Lib.hid hokz
          have HSx := Lib.hid (show (Try.prog.info? 27).map (·.size) = some (kcs x).length by rw [kcs_length hokx]; exact key_size)
          have HSy := Lib.hid (show (Try.prog.info? 27).map (·.size) = some (kcs y).length by rw [kcs_length hoky]; exact key_size)
          have HSz := Lib.hid (show (Try.prog.info? 27).map (·.size) = some (kcs z).length by rw [kcs_length hokz]; exact key_size)
          have rng : ∀ (o : Nat) (cs : List Value), w.rangeAt g3 o cs → ∀ W, Below w.heap.size w W → W.rangeAt g3 o cs := fun o cs h W hW i u hu => (hW.cell (p := ⟨g3, o + i, none⟩) hgl).trans (h i u hu)
          have Hx := Lib.hid (rng _ _ hra)
          have Hy := Lib.hid (rng _ _ hra4)
          have Hz := Lib.hid (show ∀ W, Below w.heap.size w W → W.rangeAt g3 off (kcs z) by have := rng _ _ hra5; rw [Nat.zero_mul, Nat.add_zero] at this; exact this)
          obtain ⟨t, ht⟩ : ∃ t, m - 1 - j = t := ⟨_, rfl⟩
          rw [ht] at Hy
          have hs1 : ((m : Int) - 1 - (j : Int)) = (t : Int) := by omega
          have hi1 : (0 : Int) ≤ (j : Int) := by omega
          have hi2 : (j : Int) < (m : Int) := by omega
          have hi3 : (0 : Int) ≤ (t : Int) := by omega
          have hi4 : (t : Int) < (m : Int) := by omega
          have hi5 : 0 < m := by omega
          clear hjx hyx h0x hra hra4 hra5 hokx hoky hokz rng ht
          go_wp2_with fail
          obtain ⟨hc0, hc1, hc2, hc3⟩ := hF.cells
          have HBD := Lib.hid (show Below w.heap.size w wr.drew from ⟨hb.os, hb.tape, hb.output, hb.size, hb.block⟩)
          have HFF := Lib.hid hF.drew
          clear hF hb
          refine wp_region_still_tail 6 (by kernel_rfl) (by kernel_rfl) ?_
          simp only [List.take_succ_cons, List.take_zero, List.drop_succ_cons, List.drop_zero]
          repeat (first | refine wpStill_load_mid rfl 27 (.tmp 60) rfl g3 (off + j * 33) rfl (kcs x) (.struct fs) (Hx.out wr.drew HBD.out) HF.out rfl HSx.out ?_ | still_step)
          refine wpStill_nil ?_
          change wpList _ _ _ _ _ wr.drew
          clear hc0 hc1 hc2 hc3
          generalize wr.drew = wrd at *
          have HBB := Lib.hid HBD.out
          clear HBD
          go_wp2_with fail
          (with_reducible refine (HFF.out.add 0 HOx.out).mono ?_)
          rintro e wa ⟨⟨ywa, rfl⟩, hF, hg⟩
          have hb := HFF.out.bel HBB.out hg (Nat.le_refl _) HBB.out.size
          clear hg HFF HBB
          obtain ⟨Lwa, ewa⟩ : ∃ L', L' = up L 0 (L 0 ++ [x]) := ⟨_, rfl⟩
          rw [← ewa] at hF
          have Ewa := Lib.hid ewa
          clear ewa
          go_wp2_with fail
          obtain ⟨hc0, hc1, hc2, hc3⟩ := hF.cells
          have HBD := Lib.hid (show Below w.heap.size w wa.drew from ⟨hb.os, hb.tape, hb.output, hb.size, hb.block⟩)
          have HFF := Lib.hid hF.drew
          clear hF hb
          have hw1 : IntKind.i64.wrap ((m : Int) - 1) = (m : Int) - 1 := IntWalk.i64_in _ (by omega)
          have hw2 : IntKind.i64.wrap (t : Int) = (t : Int) := IntWalk.i64_in _ (by omega)
          refine wp_region_still_tail 10 (by kernel_rfl) (by kernel_rfl) ?_
          simp only [List.take_succ_cons, List.take_zero, List.drop_succ_cons, List.drop_zero]
          repeat (first | refine wpStill_load_mid rfl 27 (.tmp 71) rfl g3 (off + t * 33) rfl (kcs y) (.struct fs) (Hy.out wa.drew HBD.out) HF.out rfl HSy.out ?_ | still_step)
          refine wpStill_nil ?_
          change wpList _ _ _ _ _ wa.drew
          clear hc0 hc1 hc2 hc3 hw1 hw2
          generalize wa.drew = wad at *
          have HBB := Lib.hid HBD.out
          clear HBD
          go_wp2_with fail
          (with_reducible refine (HFF.out.add 1 HOy.out).mono ?_)
          rintro e wb ⟨⟨ywb, rfl⟩, hF, hg⟩
          have hb := HFF.out.bel HBB.out hg (Nat.le_refl _) HBB.out.size
          clear hg HFF HBB
          obtain ⟨Lwb, ewb⟩ : ∃ L', L' = up Lwa 1 (Lwa 1 ++ [y]) := ⟨_, rfl⟩
          rw [← ewb] at hF
          have Ewb := Lib.hid ewb
          clear ewb
          go_wp2_with fail
          obtain ⟨hc0, hc1, hc2, hc3⟩ := hF.cells
          have HBD := Lib.hid (show Below w.heap.size w wb.drew from ⟨hb.os, hb.tape, hb.output, hb.size, hb.block⟩)
          have HFF := Lib.hid hF.drew
          clear hF hb
          refine wp_region_still_tail 5 (by kernel_rfl) (by kernel_rfl) ?_
          simp only [List.take_succ_cons, List.take_zero, List.drop_succ_cons, List.drop_zero]
          repeat (first | refine wpStill_load_mid rfl 27 (.tmp 77) rfl g3 off rfl (kcs z) (.struct fs) (Hz.out wb.drew HBD.out) HF.out rfl HSz.out ?_ | still_step)
          refine wpStill_nil ?_
          change wpList _ _ _ _ _ wb.drew
          clear hc0 hc1 hc2 hc3
          generalize wb.drew = wbd at *
          have HBB := Lib.hid HBD.out
          clear HBD
          go_wp2_with fail
          (with_reducible refine (HFF.out.add 1 HOz.out).mono ?_)
          rintro e wc ⟨⟨ywc, rfl⟩, hF, hg⟩
          have hb := HFF.out.bel HBB.out hg (Nat.le_refl _) HBB.out.size
          clear hg HFF HBB
          obtain ⟨Lwc, ewc⟩ : ∃ L', L' = up Lwb 1 (Lwb 1 ++ [z]) := ⟨_, rfl⟩
          rw [← ewc] at hF
          have Ewc := Lib.hid ewc
          clear ewc
          go_wp2_with fail
          · obtain ⟨hc0, hc1, hc2, hc3⟩ := hF.cells
            have HBD := Lib.hid (show Below w.heap.size w wc.drew from ⟨hb.os, hb.tape, hb.output, hb.size, hb.block⟩)
            have HFF := Lib.hid hF.drew
            clear hF hb
            refine wp_region_still_tail 6 (by kernel_rfl) (by kernel_rfl) ?_
            simp only [List.take_succ_cons, List.take_zero, List.drop_succ_cons, List.drop_zero]
            repeat (first | refine wpStill_load_mid rfl 27 (.tmp 87) rfl g3 (off + j * 33) rfl (kcs x) (.struct fs) (Hx.out wc.drew HBD.out) HF.out rfl HSx.out ?_ | still_step)
            refine wpStill_nil ?_
            change wpList _ _ _ _ _ wc.drew
            clear hc0 hc1 hc2 hc3
            generalize wc.drew = wcd at *
            have HBB := Lib.hid HBD.out
            clear HBD
            go_wp2_with fail
            (with_reducible refine (HFF.out.add 2 HOx.out).mono ?_)
            rintro e wd ⟨⟨ywd, rfl⟩, hF, hg⟩
            have hb := HFF.out.bel HBB.out hg (Nat.le_refl _) HBB.out.size
            clear hg HFF HBB
            obtain ⟨Lwd, ewd⟩ : ∃ L', L' = up Lwc 2 (Lwc 2 ++ [x]) := ⟨_, rfl⟩
            rw [← ewd] at hF
            have Ewd := Lib.hid ewd
            clear ewd
            go_wp2_with fail
            go_roundw
            case rel => exact ⟨j + 1, by omega, by go_num, Lwd, hF, hb, HOK.out.step HJX.out HX0.out HY0.out HZ0.out 2 (by decide) Ewa.out Ewb.out Ewc.out Ewd.out⟩
            case measure => simp [intOf]; omega
          · obtain ⟨hc0, hc1, hc2, hc3⟩ := hF.cells
            have HBD := Lib.hid (show Below w.heap.size w wc.drew from ⟨hb.os, hb.tape, hb.output, hb.size, hb.block⟩)
            have HFF := Lib.hid hF.drew
            clear hF hb
            refine wp_region_still_tail 6 (by kernel_rfl) (by kernel_rfl) ?_
            simp only [List.take_succ_cons, List.take_zero, List.drop_succ_cons, List.drop_zero]
            repeat (first | refine wpStill_load_mid rfl 27 (.tmp 94) rfl g3 (off + j * 33) rfl (kcs x) (.struct fs) (Hx.out wc.drew HBD.out) HF.out rfl HSx.out ?_ | still_step)
            refine wpStill_nil ?_
            change wpList _ _ _ _ _ wc.drew
            clear hc0 hc1 hc2 hc3
            generalize wc.drew = wcd at *
            have HBB := Lib.hid HBD.out
            clear HBD
            go_wp2_with fail
            (with_reducible refine (HFF.out.add 3 HOx.out).mono ?_)
            rintro e wd ⟨⟨ywd, rfl⟩, hF, hg⟩
            have hb := HFF.out.bel HBB.out hg (Nat.le_refl _) HBB.out.size
            clear hg HFF HBB
            obtain ⟨Lwd, ewd⟩ : ∃ L', L' = up Lwc 3 (Lwc 3 ++ [x]) := ⟨_, rfl⟩
            rw [← ewd] at hF
            have Ewd := Lib.hid ewd
            clear ewd
            go_wp2_with fail
            go_roundw
            case rel => exact ⟨j + 1, by omega, by go_num, Lwd, hF, hb, HOK.out.step HJX.out HX0.out HY0.out HZ0.out 3 (by decide) Ewa.out Ewb.out Ewc.out Ewd.out⟩
            case measure => simp [intOf]; omega
        · obtain rfl : m = j := by omega
          obtain ⟨f0, f1, f2⟩ := OrderOk.ends n p (show OrderOk xs xs.length L from HML.out.symm ▸ HOK.out)
          obtain ⟨m8, hm8⟩ : ∃ m8, (n + 7) / 8 = m8 := ⟨_, rfl⟩
          have hm9 : m8 ≤ 9223372036854775807 := by omega
          have HM8 := Lib.hid hm8
          have HF0 := Lib.hid f0
          have HF1 := Lib.hid f1
          have HF2 := Lib.hid f2
          clear f0 f1 f2 hm8
          have HFF := Lib.hid hF
          have HBD := Lib.hid hb
          have hbw0 : Below wr.heap.size wr wr.drew := ⟨rfl, rfl, rfl, Nat.le_refl _, fun _ _ => rfl⟩
          have C3 := Lib.hid (show ∀ W, Below wr.heap.size wr W → _ from fun W hW => told_row (hF.vec 3) hW HM8.out)
          have HS2 := Lib.hid (show ∀ W, Below wr.heap.size wr W → W.cell? ⟨b, 2, none⟩ = some (.pointer (some ⟨v 2, 0, none⟩)) ∧ W.cell? ⟨b, 3, none⟩ = some (.pointer (some ⟨v 3, 0, none⟩)) from fun W hW =>
            have := (hF.on hW).cells
            ⟨this.2.2.1, this.2.2.2⟩)
          have OR := Lib.hid (show ∀ we A5 c5, Below wr.heap.size wr we → we.ownsRow wr.heap.size 5 1 (.slice A5 m8 c5) m8 (bv (pk n (fil n p (L 3)))) → Calls Try.prog 20 #[.pointer (some ⟨v 2, 0, none⟩), .slice A5 m8 c5] we _ from fun we A5 c5 hbe ho5 =>
            or_ok (v 2) (g 2) n p _ we ((hF.on hbe).vec 2) A5 (pk n (fil n p (L 3))) m8 c5 (by rw [pk_length, HM8.out]) hm9 (fun W hW => Rd.of_own (ownsRow_grown ho5 hW (fun g' e e' => by
              injection e with e
              have h1 := (ho5.lt g' e').1
              have h2 := (hF.vec 2).gb.lt
              omega))))
          clear hF hb
          go_wp2_with fail
          first | (go_region_held (fun W => W.cell? ⟨b, 2, none⟩ = some (.pointer (some ⟨v 2, 0, none⟩)) ∧ W.cell? ⟨b, 3, none⟩ = some (.pointer (some ⟨v 3, 0, none⟩))) (first | exact HS2.out _ (by assumption) | assumption | fail) (first
            | (go_at_call 17; (with_reducible refine (C3.out _ (by assumption)).mono ?_); rintro e we ⟨A5, c5, rfl, ho5, hb5⟩)
            | (go_at_call 20; (with_reducible refine (OR.out _ _ _ hb5 ho5).mono ?_); rintro e wz ⟨⟨y5, rfl⟩, h2z, hgz⟩; have hF5 := HFF.out.on hb5; have hsz := held_cells hF5 hgz))) | fail
          have HF5 := Lib.hid hF5
          have HX5 := Lib.hid (HBD.out.trans (hb5.mono HBD.out.size))
          clear hF5 hsz ho5 hb5 hbw0
          have h0z : Vec wz (v 0) (g 0) n p (fil n p xs) := by
            have := (HF5.out.vec 0).grown hgz ((HF5.out.vec 0).vb.other (HF5.out.vec 2).gb (by decide)) (HF5.out.inj 0 2 (by decide))
            rw [HF0.out] at this; exact this
          have h1z : Vec wz (v 1) (g 1) n p (fil n p xs) := by
            have := (HF5.out.vec 1).grown hgz ((HF5.out.vec 1).vb.other (HF5.out.vec 2).gb (by decide)) (HF5.out.inj 1 2 (by decide))
            rw [HF1.out] at this; exact this
          have h2z : Vec wz (v 2) (g 2) n p (fil n p xs) := ⟨h2z.vb, by have := h2z.gb; rw [HF2.out] at this; exact this, h2z.hn, h2z.hp⟩
          have hbz := HF5.out.blk.same (hgz.block b HF5.out.blk.lt (fun e => HF5.out.blk.other (HF5.out.vec 2).gb (by decide) (by injection e)))
          have hxz := HF5.out.bel HX5.out hgz (Nat.le_refl _) HX5.out.size
          generalize hfx : fil n p xs = F at *
          have told := fun (v g : Nat) (h : Vec wz v g n p F) (W : World) (hW : Below wz.heap.size wz W) => told_bytes h hW HM8.out
          have C0 := Lib.hid (told (v 0) (g 0) h0z)
          have C1 := Lib.hid (told (v 1) (g 1) h1z)
          have C2 := Lib.hid (told (v 2) (g 2) h2z)
          have HS := Lib.hid (show ∀ W, Below wz.heap.size wz W → W.cell? ⟨b, 0, none⟩ = some (.pointer (some ⟨v 0, 0, none⟩)) ∧ W.cell? ⟨b, 1, none⟩ = some (.pointer (some ⟨v 1, 0, none⟩)) ∧ W.cell? ⟨b, 2, none⟩ = some (.pointer (some ⟨v 2, 0, none⟩)) from fun W hW =>
            have := hbz.below hW hbz.lt
            ⟨this.cell 0, this.cell 1, this.cell 2⟩)
          have HXZ := Lib.hid hxz
          have hbw : Below wz.heap.size wz wz.drew := ⟨rfl, rfl, rfl, Nat.le_refl _, fun _ _ => rfl⟩
          clear h0z h1z h2z hbz hxz hgz told hfx OR C3 HS2 HF5 HX5 HFF HBD HF0 HF1 HF2 HOK HR3 HML
          go_wp2_with fail
          first | (go_region_held (fun W => W.cell? ⟨b, 0, none⟩ = some (.pointer (some ⟨v 0, 0, none⟩)) ∧ W.cell? ⟨b, 1, none⟩ = some (.pointer (some ⟨v 1, 0, none⟩)) ∧ W.cell? ⟨b, 2, none⟩ = some (.pointer (some ⟨v 2, 0, none⟩))) (first | exact HS.out _ (by assumption) | fail) (first
            | (go_at_call 17; (with_reducible refine (C0.out _ (by assumption)).mono ?_); rintro e w5 ⟨A5, c5, rfl, hs5, hx5, hb5⟩; have q5 := hs5 _ (Below.refl _ _); (try have p65 := hs6 _ hb5); (try have p75 := hs7 _ hb5))
            | (go_at_call 17; (with_reducible refine (C1.out _ (by assumption)).mono ?_); rintro e w6 ⟨A6, c6, rfl, hs6, hx6, hb6⟩; have q6 := hs6 _ (Below.refl _ _); (try have p56 := hs5 _ hb6); (try have p76 := hs7 _ hb6))
            | (go_at_call 17; (with_reducible refine (C2.out _ (by assumption)).mono ?_); rintro e w7 ⟨A7, c7, rfl, hs7, hx7, hb7⟩; have q7 := hs7 _ (Below.refl _ _); (try have p57 := hs5 _ hb7); (try have p67 := hs6 _ hb7)))) | fail
          all_goals (go_wp2_with fail; go_ret; exact ⟨rfl, HXZ.out.trans (Below.mono (by assumption) HXZ.out.size)⟩)
theorem walk (a0 a1 : Int) (A2 : Option Addr) (c2 : Nat) (z2 : List KeyT) (a3 : Int) (w : World) (w0 : (Lit.int .u16 a0).wf = true) (w1 : (Lit.int .u16 a1).wf = true)
    (hr2 : RdK w w.heap.size A2 z2) (hc2 : z2.length ≤ c2) (hm2 : c2 ≤ maxLen) (_ : True) (w3 : (Lit.int .u16 a3).wf = true) :
    Calls Try.prog 5 #[.int .u16 a0, .int .u16 a1, .slice A2 z2.length c2, .int .u16 a3] w fun e w' => e = .returned (.bool true) ∧ Below w.heap.size w w' := by
  have b0 := bounds_u16 w0
  have b1 := bounds_u16 w1
  have b3 := bounds_u16 w3
  obtain ⟨n, rfl⟩ : ∃ n : Nat, a0 = n := ⟨a0.toNat, by omega⟩
  obtain ⟨pr, rfl⟩ : ∃ n : Nat, a1 = n := ⟨a1.toNat, by omega⟩
  obtain ⟨cut, rfl⟩ : ∃ n : Nat, a3 = n := ⟨a3.toNat, by omega⟩
  exact order_walk n pr cut (by omega) (by omega) (by omega) A2 _ c2 z2 rfl hc2 hm2 w hr2

set_option maxRecDepth 100000 in
theorem lifted (os : Os) (started : os.Started) (H : Type) (enc : TypeId × Value → H) :
    ReturnsInHanded {} Try.checked os 5 .any (Rows.bloomOrderSpec.pre6 enc Try.prog Try.f5 Rows.bloomOrderRow.domain false) (Rows.bloomOrderSpec.post enc Try.prog Try.f5 false true false false) := by
  refine returnsInHanded_of_change (C := Try.checked) own started (by kernel_rfl) Try.func5
    (ChangeSpec.witness6 (enc := enc) (C := Try.checked) false ⟨#[], #[.int .u16 0, .int .u16 0, .slice none 0 0, .int .u16 0], []⟩ 8 (by kernel_rfl) (by kernel_rfl) (by kernel_rfl) (by kernel_rfl)) ?_
  intro W base args ds gs before hval0 hW hcnd _
  have hval : ∀ (j : Nat) t v, Try.f5.params[j]? = some t → args[j]? = some v → Value.okWide Try.prog W .any base t v := hval0
  have hW' := hW
  obtain ⟨p, q, hA0, hV, rfl, hfz, hnd⟩ := hW
  have hA : DataW.TrodAll enc Try.prog W 0 (fun _ => true) true Try.f5.params.toList args.toList ds p := hA0
  rw [Try.params5] at hA hval
  obtain ⟨v0, vs0, d0, ds0, p0, q0, hargs, rfl, rfl, h0, r0⟩ := trodAll_cons hA
  obtain ⟨v1, vs1, d1, ds1, p1, q1, rfl, rfl, rfl, h1, r1⟩ := trodAll_cons r0
  obtain ⟨v2, vs2, d2, ds2, p2, q2, rfl, rfl, rfl, h2, r2⟩ := trodAll_cons r1
  obtain ⟨v3, vs3, d3, ds3, p3, q3, rfl, rfl, rfl, h3, r3⟩ := trodAll_cons r2
  obtain ⟨rfl, rfl, rfl⟩ := trodAll_nil r3
  obtain rfl : args = #[v0, v1, v2, v3] := by cases args; simp_all
  obtain ⟨rfl, rfl⟩ := trodVars_none hV
  obtain ⟨a0, rfl, rfl, rfl, w0⟩ := open_int Try.underlying49 (hval 0 49 v0 rfl rfl) h0
  obtain ⟨a1, rfl, rfl, rfl, w1⟩ := open_int Try.underlying49 (hval 1 49 v1 rfl rfl) h1
  obtain ⟨A2, n2, c2, rfl⟩ := okWide_slice Try.underlying50 (hval 2 50 v2 rfl rfl)
  have k2 := h2
  have lt2 : ∀ x ∈ p2, x.block < W.heap.size := by obtain ⟨m, hm⟩ := k2; exact DataW.trod_lt m _ _ _ hm
  obtain ⟨fuel2, hf2⟩ := h2
  obtain ⟨z2, rfl, hr2, hc2, hm2, hw2⟩ := open_keys_arg hf2
  obtain ⟨a3, rfl, rfl, rfl, w3⟩ := open_int Try.underlying49 (hval 3 49 v3 rfl rfl) h3
  clear hA0 hval0
  simp only [List.append_nil] at hW'
  refine (walk a0 a1 A2 c2 z2 a3 W w0 w1 hr2 hc2 hm2 hw2 w3).mono fun e W' ⟨he, bel⟩ => ?_
  subst he
  exact ⟨_, rfl, _, _, _, [], _, [], hW', trodAll_mk1 (shut_bool Try.underlying4 _), (trodAll_cons_mk (shut_int Try.underlying49 w0) (trodAll_cons_mk (shut_int Try.underlying49 w1) (trodAll_cons_mk (Below.trod laidOut (by kernel_rfl) (of_decide_eq_true (by kernel_rfl)) k2 bel lt2) (trodAll_cons_mk (shut_int Try.underlying49 w3) trodAll_mk0)))), rfl, bel.frame _, fun h => by cases h⟩

theorem over : Rows.bloomOrderRow.holds Try.pinned (OpenSpec.ofChange Rows.bloomOrderSpec) :=
  OpenClaim.holds_of_wide 5 Try.f5 rfl rfl rfl rfl rfl rfl rfl ⟨rfl, rfl, rfl, rfl, rfl⟩ rfl rfl rfl rfl rfl (by kernel_rfl) Try.func5 (by kernel_rfl)
    (of_decide_eq_true (by kernel_rfl)) (by unfold Func.isWrapper; first | (rw [if_pos (by decide +kernel)]; kernel_rfl) | (rw [if_neg (by decide +kernel)]; exact ⟨rfl, rfl⟩))
    (fun os started H enc _ => lifted os started H enc)

theorem proved : Rows.BloomOrderSaid := over
#print axioms proved
end Go.Proofs.Ytjahlachoabmkaa.bloomOrder
