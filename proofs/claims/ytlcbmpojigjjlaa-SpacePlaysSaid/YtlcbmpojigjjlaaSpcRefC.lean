/- The reference's space (cellarageref09): Load. No statement of the seat is proved here. -/
import Derived.Test.YtlcbmpojigjjlaaSpcRefB
import Derived.Test.YtlcbmpojigjjlaaStRegion
import Derived.Deep.RegionHeld
namespace Go.Proofs.Ytlcbmpojigjjlaa
open Go.RowKit
set_option linter.unusedVariables false
set_option linter.unusedSimpArgs false

/-- The first places of bytes. -/
def upB (b : List UInt8) (j : Nat) : Nat → Bool := fun q => decide (q < j) && bitsB b q
theorem upB_zero (b : List UInt8) : upB b 0 = fun _ => false := by funext q; simp [upB]
theorem upB_at (b : List UInt8) (j : Nat) : upB b (j + 1) j = bitsB b j := by simp [upB]
theorem upB_other (b : List UInt8) (j : Nat) : ∀ x, x ≠ j → upB b (j + 1) x = upB b j x := fun x hx => by
  unfold upB
  congr 1
  rw [decide_eq_decide]
  omega
instance (n : Nat) (b : List UInt8) : Decidable (LoadOk n b) := inferInstanceAs (Decidable (b = _))
theorem load_len {n : Nat} {b : List UInt8} (h : LoadOk n b) : b.length = (n + 7) / 8 := by rw [h, pk_length]
theorem upB_pk (n : Nat) (b : List UInt8) : pk n (upB b n) = pk n (bitsB b) := pk_congr fun q hq => by simp [upB, hq]
theorem bit_test {x km : Nat} : decide (x / 2 ^ km % 2 = 1) = x.testBit km := (Nat.testBit_eq_decide_div_mod_eq).symm
theorem bit_int (X km : Nat) : (((X : Int) / 2 ^ km).tmod 2 == 1) = X.testBit km := by
  have e : ((X : Int) / 2 ^ km) = ((X / 2 ^ km : Nat) : Int) := by simp
  rw [e]
  generalize hY : X / 2 ^ km = Y
  rw [Int.tmod_eq_emod_of_nonneg (Int.natCast_nonneg Y), ← bit_test, hY]
  have h2 : (((Y : Int) % 2 == 1) = true) ↔ (Y % 2 = 1) := by
    rw [beq_iff_eq]
    omega
  rw [Bool.eq_iff_iff, h2, decide_eq_true_iff]
set_option maxHeartbeats 1000000 in
theorem rload_bad (x : Int) (hx : x < 0 ∨ 16384 < x) (A : Option Addr) (k c : Nat) (w : World) : Calls Try.prog 24 #[.int .i64 x, .slice A k c] w fun e w' => e = .returned (.tuple #[.pointer none, .int .i64 1]) ∧ w = w' := by
  have KN := Lib.hid (rnew_bad x hx w)
  clear hx
  go_enter Try.func24, Try.ntmps24
  go_wp2_with fail
  (with_reducible refine KN.out.mono ?_)
  rintro e w1 ⟨rfl, rfl⟩
  go_wp2_with fail
  go_ret2
  exact ⟨rfl, rfl⟩
set_option maxHeartbeats 1000000 in
theorem rload_len (n : Nat) (hn : n ≤ 16384) (A : Option Addr) (k c : Nat) (hk : k ≠ (n + 7) / 8) (hk2 : k ≤ 9223372036854775807) (w : World) : Calls Try.prog 24 #[.int .i64 (n : Nat), .slice A k c] w fun e w' => e = .returned (.tuple #[.pointer none, .int .i64 1]) ∧ Below w.heap.size w w' := by
  have KN := Lib.hid (rnew_good n hn w)
  obtain ⟨m, hm⟩ : ∃ m, (n + 7) / 8 = m := ⟨_, rfl⟩
  have q1 : ((n : Int) + 7).tdiv 8 = (m : Int) := by rw [Int.tdiv_eq_ediv_of_nonneg (by omega)]; omega
  have q2 : ¬ (k : Int) = (m : Int) := by omega
  have hm9 : m ≤ 9223372036854775807 := by omega
  clear hm hk
  go_enter Try.func24, Try.ntmps24
  go_wp2_with fail
  (with_reducible refine KN.out.mono ?_)
  rintro e w1 ⟨s, F, rfl, h1, hF, hb⟩
  have HB := Lib.hid hb
  clear h1 hF hb
  go_wp2_with fail
  go_ret2
  exact ⟨rfl, HB.out⟩
set_option maxRecDepth 100000 in
set_option maxHeartbeats 2000000 in
theorem rload_any (n : Nat) (hn : n ≤ 16384) (A : Option Addr) (k c : Nat) (b : List UInt8) (hl : b.length = k) (hk : k = (n + 7) / 8) (hc : k ≤ c) (hm : c ≤ maxLen) (w : World) (hr : Rd w w.heap.size A b) :
    Calls Try.prog 24 #[.int .i64 (n : Nat), .slice A k c] w fun e w' => Below w.heap.size w w' ∧ (¬ LoadOk n b → e = .returned (.tuple #[.pointer none, .int .i64 1])) ∧
      (LoadOk n b → ∃ s F, e = .returned (.tuple #[.pointer (some s), .int .i64 0]) ∧ Rsp w' s F (loadP n b) ∧ (∀ g, F g → w.heap.size ≤ g)) := by
  have KN := Lib.hid (rnew_good n hn w)
  have HR := Lib.hid hr
  have HL := Lib.hid (And.intro hl hk)
  have q1 : ((n : Int) + 7).tdiv 8 = (k : Int) := by rw [Int.tdiv_eq_ediv_of_nonneg (by omega)]; omega
  have hk2 : k ≤ 9223372036854775807 := by omega
  have hc63 : c ≤ 9223372036854775807 := by unfold maxLen at hm; omega
  clear hr hl hk hm
  go_enter Try.func24, Try.ntmps24
  go_wp2_with fail
  (with_reducible refine KN.out.mono ?_)
  rintro e w1 ⟨s, F, rfl, h1, hF, hb⟩
  obtain ⟨d, A1, c1, rfl, hd1, hok1, hFF⟩ := h1
  have H1 := Lib.hid (show RSp w1 d A1 c1 n (upB b 0) ∧ Below w.heap.size w w1 from ⟨by rw [upB_zero]; exact hd1, hb⟩)
  have HF := Lib.hid (show ∀ g, RSF d A1 c1 n g → w.heap.size ≤ g from fun g hg => hF g ((hFF g).2 hg))
  clear hd1 hok1 hFF hF hb KN
  go_wp2_with fail
  go_loopw [8] (fun i wr => ∃ j : Nat, j ≤ n ∧ i = .int .i64 j ∧ Hid (RSp wr d A1 c1 n (upB b j) ∧ Below w.heap.size w wr)) (fun i _ => n - (intOf i).toNat)
  case atStart => exact ⟨0, Nat.zero_le _, rfl, H1⟩
  case round =>
    clear H1
    obtain ⟨j, hj, rfl, hst⟩ := hrel
    have hc0 : wr.cell? ⟨d, 0, none⟩ = some (.slice A1 n c1) := hst.out.1.blk.cell 0
    by_cases hlt : j < n
    · obtain ⟨g, rfl, ho, hcq, hfq⟩ := hst.out.1.at_ hlt
      have hjb : j / 8 < b.length := by rw [HL.out.1, HL.out.2]; omega
      obtain ⟨gb, ob, rfl, hgb, hcb⟩ := HR.out (by omega)
      have hcx : wr.cell? ⟨gb, ob + j / 8, none⟩ = some (.int .u8 b[j / 8].toNat) := (hst.out.2.cell (p := ⟨gb, ob + j / 8, none⟩) hgb).trans (hcb _ hjb)
      obtain ⟨X, hX⟩ : ∃ X, b[j / 8].toNat = X := ⟨_, rfl⟩
      have hX8 : X < 256 := hX ▸ b[j / 8].toNat_lt
      have hbit : bitsB b j = X.testBit (j % 8) := by
        unfold bitsB
        rw [List.getD_eq_getElem?_getD, List.getElem?_eq_getElem hjb, Option.getD_some, hX]
      rw [hX] at hcx
      obtain ⟨kd, hkd⟩ : ∃ kd, j / 8 = kd := ⟨_, rfl⟩
      obtain ⟨km, hkm⟩ : ∃ km, j % 8 = km := ⟨_, rfl⟩
      have hkm8 : km < 8 := by omega
      have hkdk : kd < k := by have := HL.out.2; omega
      have q2 : (j : Int).tdiv 8 = (kd : Int) := by rw [Int.tdiv_eq_ediv_of_nonneg (by omega)]; omega
      have q3 : (j : Int).tmod 8 = (km : Int) := by rw [Int.tmod_eq_emod_of_nonneg (by omega)]; omega
      have q4 : IntKind.i64.wrap (kd : Int) = (kd : Int) := IntWalk.i64_in _ (by omega)
      have q5 : IntKind.i64.wrap (km : Int) = (km : Int) := IntWalk.i64_in _ (by omega)
      have q6 : (0 : Int) ≤ (kd : Int) := by omega
      have q7 : (kd : Int) < (k : Int) := by omega
      have q8 : (0 : Int) ≤ (km : Int) := by omega
      have q9 : (0 : Int) ≤ (j : Int) := by omega
      have q10 : (j : Int) < (n : Int) := by omega
      rw [hkd] at hcx
      rw [hkm] at hbit
      have HST := Lib.hid (fun B (hB : bitsB b j = B) => show RSp (wr.setCell ⟨g, j, none⟩ (.bool B)) d (some ⟨g, 0, none⟩) c1 n (upB b (j + 1)) ∧ Below w.heap.size w (wr.setCell ⟨g, j, none⟩ (.bool B)) from
        ⟨hst.out.1.set ho B (by rw [upB_at]; exact hB) (upB_other b j), hst.out.2.setCell (HF.out g (.inr ho)) _⟩)
      have HBIT := Lib.hid hbit
      clear hst ho hcb hX hbit hkd hkm hjb hgb
      go_wp2_with fail
      go_region
      rw [bit_int, ← HBIT.out]
      have HN := Lib.hid (HST.out _ rfl)
      clear q1 q2 q3 q4 q5 q6 q7 q8
      go_wp2_with fail
      go_roundw
      case rel => exact ⟨j + 1, by omega, by go_num, Lib.hid ⟨HN.out.1.keep fun _ _ => rfl, ⟨HN.out.2.os, HN.out.2.tape, HN.out.2.output, HN.out.2.size, HN.out.2.block⟩⟩⟩
      case measure => simp [intOf]; omega
    · obtain rfl : n = j := by omega
      have HRS := Lib.hid hst.out
      have KB := Lib.hid (fun W (hW : Below wr.heap.size wr W) => rbytes_any (hst.out.1.below hW) hn)
      have HCB := Lib.hid (fun W (hW : Below wr.heap.size wr W) => show (convert 45 9 (.slice A k c)).run Try.prog W = .ok (.string ⟨b.toArray⟩) W from conv_own HL.out.1 ((HR.out.below HRS.out.2).below (hW.mono HRS.out.2.size)))
      have HEQ := Lib.hid (show ((⟨(pk n (upB b n)).toArray⟩ : ByteArray).toList == (⟨b.toArray⟩ : ByteArray).toList) = decide (LoadOk n b) by
        rw [beq_lists, upB_pk, decide_eq_decide]
        exact ⟨fun h => h.symm, fun h => h.symm⟩)
      obtain ⟨pb, hpb⟩ : ∃ pb : ByteArray, (⟨(pk n (upB b n)).toArray⟩ : ByteArray) = pb := ⟨_, rfl⟩
      obtain ⟨sb, hsb⟩ : ∃ sb : ByteArray, (⟨b.toArray⟩ : ByteArray) = sb := ⟨_, rfl⟩
      rw [hpb, hsb] at HEQ
      rw [hsb] at HCB
      have HPB := Lib.hid hpb
      have b0 : Below wr.heap.size wr wr.drew := ⟨rfl, rfl, rfl, Nat.le_refl _, fun _ _ => rfl⟩
      clear hst hpb hsb q1
      go_wp2_with fail
      refine wp_region_held_drew (S := fun W => Below wr.heap.size wr W) (by kernel_rfl) b0 (fun hHeld => ?_)
      refine wpAnyH_take (i := 0) (oi := _) (v := .pointer (some ⟨d, 0, none⟩)) rfl (by kernel_rfl) (by kernel_rfl) (by kernel_rfl) (fun _ _ _ h => h) (Or.inl ⟨by rfl, by intro w hSw; go_simp⟩) b0 ?_
      simp only [List.getElem_toArray, List.getElem_cons_zero, List.getElem_cons_succ, Act.put, List.setIfInBounds_toArray, List.set_cons_zero, List.set_cons_succ]
      refine wpAnyH_take (i := 3) (oi := _) (v := .slice A k c) rfl (by kernel_rfl) (by kernel_rfl) (by kernel_rfl) (fun _ _ _ h => h) (Or.inl ⟨by rfl, by intro w hSw; go_simp⟩) b0 ?_
      simp only [List.getElem_toArray, List.getElem_cons_zero, List.getElem_cons_succ, Act.put, List.setIfInBounds_toArray, List.set_cons_zero, List.set_cons_succ]
      refine wpAnyH_take (i := 4) (oi := _) (v := .string sb) rfl (by kernel_rfl) (by kernel_rfl) (by kernel_rfl) (fun _ _ _ h => h) (Or.inl ⟨by rfl, by intro w hSw; have hcv := HCB.out w hSw; go_simp⟩) b0 ?_
      simp only [List.getElem_toArray, List.getElem_cons_zero, List.getElem_cons_succ, Act.put, List.setIfInBounds_toArray, List.set_cons_zero, List.set_cons_succ]
      refine wpAnyH_ready (rs := [1]) (by kernel_rfl) (by simp) ?_
      refine AllReadyH.cons rfl (fun K hK => ?_) AllReadyH.nil
      go_simp
      (go_at_call 22; (with_reducible refine (KB.out _ b0).mono ?_))
      rintro e wf ⟨A5, c5, rfl, ho5, hb5⟩
      have b1 := b0.trans (hb5.mono b0.size)
      have hcp : ∀ W, Below wf.heap.size wf W → (convert 45 9 (.slice A5 ((n + 7) / 8) c5)).run Try.prog W = .ok (.string pb) W := fun W hW => by rw [← HPB.out]; exact conv_own (pk_length n (upB b n)) (Rd.of_own (ownsRow_below ho5 hW))
      go_wp2_with fail
      refine hK.out _ _ b1 (fun _ => ?_)
      clear hK K
      try simp only [List.getElem_toArray, List.getElem_cons_zero, List.getElem_cons_succ, Act.put, List.setIfInBounds_toArray, List.set_cons_zero, List.set_cons_succ]
      refine wpAnyH_strong (S' := fun W => Below wr.heap.size wr W ∧ Below wf.heap.size wf W) (fun _ h => h.1) ?_
      refine wpAnyH_take (i := 2) (oi := _) (v := .string pb) rfl (by kernel_rfl) (by kernel_rfl) (by kernel_rfl) (fun _ _ _ h => h) (Or.inl ⟨by rfl, by intro w hSw; have hcv := hcp w hSw.2; go_simp⟩) ⟨b1, Below.refl _ _⟩ ?_
      simp only [List.getElem_toArray, List.getElem_cons_zero, List.getElem_cons_succ, Act.put, List.setIfInBounds_toArray, List.set_cons_zero, List.set_cons_succ]
      refine wpAnyH_take (i := 5) (oi := _) (v := .bool (!(pb.toList == sb.toList))) rfl (by kernel_rfl) (by kernel_rfl) (by kernel_rfl) (fun _ _ _ h => h) (Or.inl ⟨by rfl, by intro w hSw; go_simp⟩) ⟨b1, Below.refl _ _⟩ ?_
      simp only [List.getElem_toArray, List.getElem_cons_zero, List.getElem_cons_succ, Act.put, List.setIfInBounds_toArray, List.set_cons_zero, List.set_cons_succ]
      refine wpAnyH_done (by kernel_rfl) ?_ _
      rw [HEQ.out]
      have HE := Lib.hid (show Below w.heap.size w wf ∧ RSp wf d A1 c1 n (upB b n) from ⟨HRS.out.2.trans (b1.mono HRS.out.2.size), HRS.out.1.below b1⟩)
      clear b0 b1 ho5 hb5 hcp hHeld
      by_cases hlo : LoadOk n b
      · rw [decide_eq_true hlo]
        go_wp2_with fail
        go_ret2
        refine ⟨HE.out.1, fun h => absurd hlo h, fun _ => ⟨_, RSF d A1 c1 n, rfl, ⟨d, A1, c1, rfl, HE.out.2, loadP_ok hn, fun g => Iff.rfl⟩, HF.out⟩⟩
      · rw [decide_eq_false hlo]
        go_wp2_with fail
        go_ret2
        exact ⟨HE.out.1, fun _ => rfl, fun h => absurd h hlo⟩
end Go.Proofs.Ytlcbmpojigjjlaa
