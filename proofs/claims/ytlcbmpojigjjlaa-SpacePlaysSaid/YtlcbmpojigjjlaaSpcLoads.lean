/- The walk of SpaceLoads, told from what the package's spaces do. No statement of the seat is proved here. -/
import Derived.Test.YtlcbmpojigjjlaaSpcRefC
namespace Go.Proofs.Ytlcbmpojigjjlaa
open Go.RowKit
set_option linter.unusedVariables false
set_option linter.unusedSimpArgs false

theorem rload_no (n : Int) (A : Option Addr) (k c : Nat) (b : List UInt8) (hl : b.length = k) (hc : k ≤ c) (hm : c ≤ maxLen) (w : World) (hr : Rd w w.heap.size A b) (h : n < 0 ∨ 16384 < n ∨ ¬ LoadOk n.toNat b) :
    Calls Try.prog 24 #[.int .i64 n, .slice A k c] w fun e w' => e = .returned (.tuple #[.pointer none, .int .i64 1]) ∧ Below w.heap.size w w' := by
  by_cases hb : n < 0 ∨ 16384 < n
  · exact (rload_bad n hb A k c w).mono fun e w' ⟨he, hw⟩ => ⟨he, hw ▸ Below.refl _ _⟩
  · obtain ⟨t, rfl⟩ : ∃ t : Nat, n = t := ⟨n.toNat, by omega⟩
    have hno : ¬ LoadOk t b := by
      rcases h with h | h | h
      · exact absurd (.inl h) hb
      · exact absurd (.inr h) hb
      · exact h
    by_cases hk : k = (t + 7) / 8
    · exact (rload_any t (by omega) A k c b hl hk hc hm w hr).mono fun e w' ⟨hb, h1, _⟩ => ⟨h1 hno, hb⟩
    · exact rload_len t (by omega) A k c hk (by unfold maxLen at hm; omega) w
theorem rload_yes (n : Nat) (hn : n ≤ 16384) (A : Option Addr) (k c : Nat) (b : List UInt8) (hl : b.length = k) (hc : k ≤ c) (hm : c ≤ maxLen) (w : World) (hr : Rd w w.heap.size A b) (h : LoadOk n b) :
    Calls Try.prog 24 #[.int .i64 (n : Nat), .slice A k c] w fun e w' => ∃ s F, e = .returned (.tuple #[.pointer (some s), .int .i64 0]) ∧ Rsp w' s F (loadP n b) ∧ (∀ g, F g → w.heap.size ≤ g) ∧ Below w.heap.size w w' :=
  (rload_any n hn A k c b hl (by rw [← hl]; exact load_len h) hc hm w hr).mono fun e w' ⟨hb, _, h2⟩ => by
    obtain ⟨s, F, h3, h4, h5⟩ := h2 h
    exact ⟨s, F, h3, h4, h5, hb⟩
theorem load_bytes {n : Nat} {b : List UInt8} (h : LoadOk n b) : pk (loadP n b).n (loadP n b).S = b := by
  have e : pk n (upB b n) = b := by rw [upB_pk]; exact h.symm
  exact e
section
variable {St : World → Addr → (Nat → Prop) → PS → Prop}
set_option maxRecDepth 100000 in
set_option maxHeartbeats 4000000 in
theorem loads_walk (K : SpacesOk St) (n : Int) (A : Option Addr) (k c : Nat) (b : List UInt8) (hl : b.length = k) (hc : k ≤ c) (hm : c ≤ maxLen) (w : World) (hr : Rd w w.heap.size A b) :
    Calls Try.prog 4 #[.int .i64 n, .slice A k c] w fun e w' => e = .returned (.bool true) ∧ Below w.heap.size w w' := by
  have HK := Lib.hid K
  have HR := Lib.hid hr
  have HL := Lib.hid (And.intro hl (And.intro hc hm))
  have hk63 : k ≤ 9223372036854775807 := by unfold maxLen at hm; omega
  clear K hr hl hc hm
  by_cases hbig : 10000 < k
  · have hbi : (10000 : Int) < (k : Int) := by omega
    go_enter Try.func4, Try.ntmps4
    go_wp2_with fail
    (with_reducible refine (shown_any HK.out w).mono ?_)
    rintro e w1 ⟨rfl, hb1⟩
    have HB1 := Lib.hid hb1
    clear hb1
    go_wp2_with fail
    go_ret
    exact ⟨rfl, HB1.out⟩
  · have hbi : ¬ (10000 : Int) < (k : Int) := by omega
    by_cases hno : n < 0 ∨ 16384 < n ∨ ¬ LoadOk n.toNat b
    · have HNO := Lib.hid hno
      clear hno
      go_enter Try.func4, Try.ntmps4
      go_wp2_with fail
      (with_reducible refine (shown_any HK.out w).mono ?_)
      rintro e w1 ⟨rfl, hb1⟩
      have HB1 := Lib.hid hb1
      have KL := Lib.hid (HK.out.noload n A k c b w1 HL.out.1 HL.out.2.1 HL.out.2.2 ((HR.out.below hb1).more hb1.size) HNO.out)
      clear hb1
      go_wp2_with fail
      (with_reducible refine KL.out.mono ?_)
      rintro e w2 ⟨rfl, hb2⟩
      have HB2 := Lib.hid (HB1.out.trans (hb2.mono HB1.out.size))
      have KR := Lib.hid (rload_no n A k c b HL.out.1 HL.out.2.1 HL.out.2.2 w2 ((HR.out.below HB2.out).more HB2.out.size) HNO.out)
      clear hb2 KL
      go_wp2_with fail
      (with_reducible refine KR.out.mono ?_)
      rintro e w3 ⟨rfl, hb3⟩
      have HB3 := Lib.hid (HB2.out.trans (hb3.mono HB2.out.size))
      clear hb3 KR
      go_wp2_with fail
      go_ret
      exact ⟨rfl, HB3.out⟩
    · obtain ⟨t, rfl⟩ : ∃ t : Nat, n = t := ⟨n.toNat, by omega⟩
      have ht : t ≤ 16384 := by omega
      have hok : LoadOk t b := by
        by_cases h : LoadOk t b
        · exact h
        · exact absurd (.inr (.inr h)) hno
      have HOK := Lib.hid hok
      clear hno hok
      go_enter Try.func4, Try.ntmps4
      go_wp2_with fail
      (with_reducible refine (shown_any HK.out w).mono ?_)
      rintro e w1 ⟨rfl, hb1⟩
      have HB1 := Lib.hid hb1
      have KL := Lib.hid (HK.out.load' (w0 := w) t A k c b ht HL.out.1 HL.out.2.1 HL.out.2.2 ((HR.out.below hb1).more hb1.size) HOK.out hb1)
      clear hb1
      go_wp2_with fail
      (with_reducible refine KL.out.mono ?_)
      rintro e w2 ⟨s, rfl, hs2, hb2⟩
      have HB2 := Lib.hid (HB1.out.trans (hb2.mono HB1.out.size))
      have HS2 := Lib.hid hs2
      have KR := Lib.hid (rload_yes t ht A k c b HL.out.1 HL.out.2.1 HL.out.2.2 w2 ((HR.out.below HB2.out).more HB2.out.size) HOK.out)
      clear hb2 KL hs2 HB1
      go_wp2_with fail
      (with_reducible refine KR.out.mono ?_)
      rintro e w3 ⟨x, Fx, rfl, hx3, _, hb3⟩
      have HB3 := Lib.hid (HB2.out.trans (hb3.mono HB2.out.size))
      obtain ⟨U, hU⟩ : ∃ U, allF (loadP t b).S t = U := ⟨_, rfl⟩
      obtain ⟨u, hu⟩ : ∃ u, U.length = u := ⟨_, rfl⟩
      have hum : u ≤ 16384 := by rw [← hu, ← hU]; exact Nat.le_trans (allF_le _ _) ht
      obtain ⟨d, Ad, cd, rfl, hd, _, _⟩ := hx3
      have HS3 := Lib.hid (HK.out.on HS2.out hb3)
      have KN := Lib.hid (show ∀ W, Below w3.heap.size w3 W → Calls Try.prog 17 #[.pointer (some s)] W fun e w' => e = .returned (.int .i64 (t : Nat)) ∧ Below W.heap.size W w' from fun W hW =>
        (HK.out.len' (HK.out.on HS3.out hW)).mono fun e w' ⟨he, _, hb⟩ => ⟨he, hb⟩)
      have KT := Lib.hid (show ∀ W, Below w3.heap.size w3 W → Calls Try.prog 18 #[.pointer (some s)] W fun e w' => e = .returned (.int .i64 (u : Nat)) ∧ Below W.heap.size W w' from fun W hW =>
        (HK.out.taken' (HK.out.on HS3.out hW)).mono fun e w' ⟨he, _, hb⟩ => by
          rw [show allF (loadP t b).S (loadP t b).n = U from hU, hu] at he
          exact ⟨he, hb⟩)
      have KA := Lib.hid (show ∀ W, Below w3.heap.size w3 W → Calls Try.prog 16 #[.pointer (some ⟨d, 0, none⟩)] W fun e w' => ∃ A c, e = .returned (.slice A u c) ∧ Below W.heap.size W w' from fun W hW =>
        (rall_any (hd.below hW) ht).mono fun e w' ⟨A, c, he, _, hb⟩ => by
          rw [show allF (loadP t b).S (loadP t b).n = U from hU, hu] at he
          exact ⟨A, c, he, hb⟩)
      obtain ⟨sb, hsb⟩ : ∃ sb : ByteArray, (⟨b.toArray⟩ : ByteArray) = sb := ⟨_, rfl⟩
      have KB := Lib.hid (show ∀ W, Below w3.heap.size w3 W → Calls Try.prog 21 #[.pointer (some s)] W fun e w' => ∃ A c, e = .returned (.slice A ((t + 7) / 8) c) ∧ (∀ X, Below w'.heap.size w' X → (convert 45 9 (.slice A ((t + 7) / 8) c)).run Try.prog X = .ok (.string sb) X) ∧ Below W.heap.size W w' from fun W hW =>
        (HK.out.bytes' (HK.out.on HS3.out hW)).mono fun e w' ⟨A, c, he, ho, _, hb⟩ => ⟨A, c, he, fun X hX => by
          rw [load_bytes HOK.out] at ho
          rw [← hsb]
          exact conv_own (load_len HOK.out) (Rd.of_own (ownsRow_below ho hX)), hb⟩)
      have HCB := Lib.hid (fun W (hW : Below w3.heap.size w3 W) => show (convert 45 9 (.slice A k c)).run Try.prog W = .ok (.string sb) W from by rw [← hsb]; exact conv_own HL.out.1 ((HR.out.below HB3.out).below (hW.mono HB3.out.size)))
      clear hd hb3 KR HB2 HS2 hU hu hsb
      go_wp2_with fail
      have b0 : Below w3.heap.size w3 w3.drew := ⟨rfl, rfl, rfl, Nat.le_refl _, fun _ _ => rfl⟩
      refine wp_region_held_drew (S := fun W => Below w3.heap.size w3 W) (by kernel_rfl) b0 (fun hHeld => ?_)
      refine wpAnyH_take (i := 0) (oi := _) (v := .bool true) rfl (by kernel_rfl) (by kernel_rfl) (by kernel_rfl) (fun _ _ _ h => h) (Or.inl ⟨by rfl, by intro w hSw; go_simp⟩) b0 ?_
      simp only [List.getElem_toArray, List.getElem_cons_zero, List.getElem_cons_succ, Act.put, List.setIfInBounds_toArray, List.set_cons_zero, List.set_cons_succ]
      refine wpAnyH_take (i := 1) (oi := _) (v := .bool true) rfl (by kernel_rfl) (by kernel_rfl) (by kernel_rfl) (fun _ _ _ h => h) (Or.inl ⟨by rfl, by intro w hSw; go_simp⟩) b0 ?_
      simp only [List.getElem_toArray, List.getElem_cons_zero, List.getElem_cons_succ, Act.put, List.setIfInBounds_toArray, List.set_cons_zero, List.set_cons_succ]
      refine wpAnyH_take (i := 2) (oi := _) (v := .pointer (some s)) rfl (by kernel_rfl) (by kernel_rfl) (by kernel_rfl) (fun _ _ _ h => h) (Or.inl ⟨by rfl, by intro w hSw; go_simp⟩) b0 ?_
      simp only [List.getElem_toArray, List.getElem_cons_zero, List.getElem_cons_succ, Act.put, List.setIfInBounds_toArray, List.set_cons_zero, List.set_cons_succ]
      refine wpAnyH_take (i := 3) (oi := _) (v := .bool true) rfl (by kernel_rfl) (by kernel_rfl) (by kernel_rfl) (fun _ _ _ h => h) (Or.inl ⟨by rfl, by intro w hSw; go_simp⟩) b0 ?_
      simp only [List.getElem_toArray, List.getElem_cons_zero, List.getElem_cons_succ, Act.put, List.setIfInBounds_toArray, List.set_cons_zero, List.set_cons_succ]
      refine wpAnyH_take (i := 4) (oi := _) (v := .bool true) rfl (by kernel_rfl) (by kernel_rfl) (by kernel_rfl) (fun _ _ _ h => h) (Or.inl ⟨by rfl, by intro w hSw; go_simp⟩) b0 ?_
      simp only [List.getElem_toArray, List.getElem_cons_zero, List.getElem_cons_succ, Act.put, List.setIfInBounds_toArray, List.set_cons_zero, List.set_cons_succ]
      refine wpAnyH_take (i := 5) (oi := _) (v := .bool true) rfl (by kernel_rfl) (by kernel_rfl) (by kernel_rfl) (fun _ _ _ h => h) (Or.inl ⟨by rfl, by intro w hSw; go_simp⟩) b0 ?_
      simp only [List.getElem_toArray, List.getElem_cons_zero, List.getElem_cons_succ, Act.put, List.setIfInBounds_toArray, List.set_cons_zero, List.set_cons_succ]
      refine wpAnyH_take (i := 6) (oi := _) (v := .int .i64 0) rfl (by kernel_rfl) (by kernel_rfl) (by kernel_rfl) (fun _ _ _ h => h) (Or.inl ⟨by rfl, by intro w hSw; go_simp⟩) b0 ?_
      simp only [List.getElem_toArray, List.getElem_cons_zero, List.getElem_cons_succ, Act.put, List.setIfInBounds_toArray, List.set_cons_zero, List.set_cons_succ]
      refine wpAnyH_take (i := 7) (oi := _) (v := .int .i64 0) rfl (by kernel_rfl) (by kernel_rfl) (by kernel_rfl) (fun _ _ _ h => h) (Or.inl ⟨by rfl, by intro w hSw; go_simp⟩) b0 ?_
      simp only [List.getElem_toArray, List.getElem_cons_zero, List.getElem_cons_succ, Act.put, List.setIfInBounds_toArray, List.set_cons_zero, List.set_cons_succ]
      refine wpAnyH_take (i := 8) (oi := _) (v := .bool true) rfl (by kernel_rfl) (by kernel_rfl) (by kernel_rfl) (fun _ _ _ h => h) (Or.inl ⟨by rfl, by intro w hSw; go_simp⟩) b0 ?_
      simp only [List.getElem_toArray, List.getElem_cons_zero, List.getElem_cons_succ, Act.put, List.setIfInBounds_toArray, List.set_cons_zero, List.set_cons_succ]
      refine wpAnyH_take (i := 9) (oi := _) (v := .bool true) rfl (by kernel_rfl) (by kernel_rfl) (by kernel_rfl) (fun _ _ _ h => h) (Or.inl ⟨by rfl, by intro w hSw; go_simp⟩) b0 ?_
      simp only [List.getElem_toArray, List.getElem_cons_zero, List.getElem_cons_succ, Act.put, List.setIfInBounds_toArray, List.set_cons_zero, List.set_cons_succ]
      refine wpAnyH_take (i := 10) (oi := _) (v := .bool true) rfl (by kernel_rfl) (by kernel_rfl) (by kernel_rfl) (fun _ _ _ h => h) (Or.inl ⟨by rfl, by intro w hSw; go_simp⟩) b0 ?_
      simp only [List.getElem_toArray, List.getElem_cons_zero, List.getElem_cons_succ, Act.put, List.setIfInBounds_toArray, List.set_cons_zero, List.set_cons_succ]
      refine wpAnyH_take (i := 11) (oi := _) (v := .pointer (some s)) rfl (by kernel_rfl) (by kernel_rfl) (by kernel_rfl) (fun _ _ _ h => h) (Or.inl ⟨by rfl, by intro w hSw; go_simp⟩) b0 ?_
      simp only [List.getElem_toArray, List.getElem_cons_zero, List.getElem_cons_succ, Act.put, List.setIfInBounds_toArray, List.set_cons_zero, List.set_cons_succ]
      refine wpAnyH_take (i := 13) (oi := _) (v := .int .i64 (t : Nat)) rfl (by kernel_rfl) (by kernel_rfl) (by kernel_rfl) (fun _ _ _ h => h) (Or.inl ⟨by rfl, by intro w hSw; go_simp⟩) b0 ?_
      simp only [List.getElem_toArray, List.getElem_cons_zero, List.getElem_cons_succ, Act.put, List.setIfInBounds_toArray, List.set_cons_zero, List.set_cons_succ]
      refine wpAnyH_ready (rs := [12]) (by kernel_rfl) (by simp) ?_
      refine AllReadyH.cons rfl (fun K hK => ?_) AllReadyH.nil
      go_simp
      (go_at_call 17; (with_reducible refine (KN.out _ b0).mono ?_))
      rintro e wf ⟨rfl, hbf⟩
      have b1 := b0.trans (hbf.mono b0.size)
      go_wp2_with fail
      refine hK.out _ _ b1 (fun _ => ?_)
      clear hK K
      try simp only [List.getElem_toArray, List.getElem_cons_zero, List.getElem_cons_succ, Act.put, List.setIfInBounds_toArray, List.set_cons_zero, List.set_cons_succ]
      refine wpAnyH_take (i := 14) (oi := _) (v := .bool true) rfl (by kernel_rfl) (by kernel_rfl) (by kernel_rfl) (fun _ _ _ h => h) (Or.inl ⟨by rfl, by intro w hSw; go_simp⟩) b1 ?_
      simp only [List.getElem_toArray, List.getElem_cons_zero, List.getElem_cons_succ, Act.put, List.setIfInBounds_toArray, List.set_cons_zero, List.set_cons_succ]
      refine wpAnyH_take (i := 15) (oi := _) (v := .bool true) rfl (by kernel_rfl) (by kernel_rfl) (by kernel_rfl) (fun _ _ _ h => h) (Or.inl ⟨by rfl, by intro w hSw; go_simp⟩) b1 ?_
      simp only [List.getElem_toArray, List.getElem_cons_zero, List.getElem_cons_succ, Act.put, List.setIfInBounds_toArray, List.set_cons_zero, List.set_cons_succ]
      refine wpAnyH_take (i := 16) (oi := _) (v := .bool true) rfl (by kernel_rfl) (by kernel_rfl) (by kernel_rfl) (fun _ _ _ h => h) (Or.inl ⟨by rfl, by intro w hSw; go_simp⟩) b1 ?_
      simp only [List.getElem_toArray, List.getElem_cons_zero, List.getElem_cons_succ, Act.put, List.setIfInBounds_toArray, List.set_cons_zero, List.set_cons_succ]
      refine wpAnyH_take (i := 17) (oi := _) (v := .pointer (some s)) rfl (by kernel_rfl) (by kernel_rfl) (by kernel_rfl) (fun _ _ _ h => h) (Or.inl ⟨by rfl, by intro w hSw; go_simp⟩) b1 ?_
      simp only [List.getElem_toArray, List.getElem_cons_zero, List.getElem_cons_succ, Act.put, List.setIfInBounds_toArray, List.set_cons_zero, List.set_cons_succ]
      refine wpAnyH_take (i := 19) (oi := _) (v := .pointer (some ⟨d, 0, none⟩)) rfl (by kernel_rfl) (by kernel_rfl) (by kernel_rfl) (fun _ _ _ h => h) (Or.inl ⟨by rfl, by intro w hSw; go_simp⟩) b1 ?_
      simp only [List.getElem_toArray, List.getElem_cons_zero, List.getElem_cons_succ, Act.put, List.setIfInBounds_toArray, List.set_cons_zero, List.set_cons_succ]
      refine wpAnyH_ready (rs := [18]) (by kernel_rfl) (by simp) ?_
      refine AllReadyH.cons rfl (fun K hK => ?_) AllReadyH.nil
      go_simp
      (go_at_call 18; (with_reducible refine (KT.out _ b1).mono ?_))
      rintro e wg ⟨rfl, hbg⟩
      have b2 := b1.trans (hbg.mono b1.size)
      go_wp2_with fail
      refine hK.out _ _ b2 (fun _ => ?_)
      clear hK K
      try simp only [List.getElem_toArray, List.getElem_cons_zero, List.getElem_cons_succ, Act.put, List.setIfInBounds_toArray, List.set_cons_zero, List.set_cons_succ]
      refine wpAnyH_ready (rs := [20]) (by kernel_rfl) (by simp) ?_
      refine AllReadyH.cons rfl (fun K hK => ?_) AllReadyH.nil
      go_simp
      (go_at_call 16; (with_reducible refine (KA.out _ b2).mono ?_))
      rintro e wh ⟨A6, c6, rfl, hbh⟩
      have b3 := b2.trans (hbh.mono b2.size)
      go_wp2_with fail
      refine hK.out _ _ b3 (fun _ => ?_)
      clear hK K
      try simp only [List.getElem_toArray, List.getElem_cons_zero, List.getElem_cons_succ, Act.put, List.setIfInBounds_toArray, List.set_cons_zero, List.set_cons_succ]
      refine wpAnyH_take (i := 21) (oi := _) (v := .int .i64 (u : Nat)) rfl (by kernel_rfl) (by kernel_rfl) (by kernel_rfl) (fun _ _ _ h => h) (Or.inl ⟨by rfl, by intro w hSw; go_simp⟩) b3 ?_
      simp only [List.getElem_toArray, List.getElem_cons_zero, List.getElem_cons_succ, Act.put, List.setIfInBounds_toArray, List.set_cons_zero, List.set_cons_succ]
      refine wpAnyH_take (i := 22) (oi := _) (v := .bool true) rfl (by kernel_rfl) (by kernel_rfl) (by kernel_rfl) (fun _ _ _ h => h) (Or.inl ⟨by rfl, by intro w hSw; go_simp⟩) b3 ?_
      simp only [List.getElem_toArray, List.getElem_cons_zero, List.getElem_cons_succ, Act.put, List.setIfInBounds_toArray, List.set_cons_zero, List.set_cons_succ]
      refine wpAnyH_take (i := 23) (oi := _) (v := .bool true) rfl (by kernel_rfl) (by kernel_rfl) (by kernel_rfl) (fun _ _ _ h => h) (Or.inl ⟨by rfl, by intro w hSw; go_simp⟩) b3 ?_
      simp only [List.getElem_toArray, List.getElem_cons_zero, List.getElem_cons_succ, Act.put, List.setIfInBounds_toArray, List.set_cons_zero, List.set_cons_succ]
      refine wpAnyH_take (i := 24) (oi := _) (v := .bool true) rfl (by kernel_rfl) (by kernel_rfl) (by kernel_rfl) (fun _ _ _ h => h) (Or.inl ⟨by rfl, by intro w hSw; go_simp⟩) b3 ?_
      simp only [List.getElem_toArray, List.getElem_cons_zero, List.getElem_cons_succ, Act.put, List.setIfInBounds_toArray, List.set_cons_zero, List.set_cons_succ]
      refine wpAnyH_take (i := 25) (oi := _) (v := .pointer (some s)) rfl (by kernel_rfl) (by kernel_rfl) (by kernel_rfl) (fun _ _ _ h => h) (Or.inl ⟨by rfl, by intro w hSw; go_simp⟩) b3 ?_
      simp only [List.getElem_toArray, List.getElem_cons_zero, List.getElem_cons_succ, Act.put, List.setIfInBounds_toArray, List.set_cons_zero, List.set_cons_succ]
      refine wpAnyH_take (i := 28) (oi := _) (v := .slice A k c) rfl (by kernel_rfl) (by kernel_rfl) (by kernel_rfl) (fun _ _ _ h => h) (Or.inl ⟨by rfl, by intro w hSw; go_simp⟩) b3 ?_
      simp only [List.getElem_toArray, List.getElem_cons_zero, List.getElem_cons_succ, Act.put, List.setIfInBounds_toArray, List.set_cons_zero, List.set_cons_succ]
      refine wpAnyH_take (i := 29) (oi := _) (v := .string sb) rfl (by kernel_rfl) (by kernel_rfl) (by kernel_rfl) (fun _ _ _ h => h) (Or.inl ⟨by rfl, by intro w hSw; have hcv := HCB.out w hSw; go_simp⟩) b3 ?_
      simp only [List.getElem_toArray, List.getElem_cons_zero, List.getElem_cons_succ, Act.put, List.setIfInBounds_toArray, List.set_cons_zero, List.set_cons_succ]
      refine wpAnyH_ready (rs := [26]) (by kernel_rfl) (by simp) ?_
      refine AllReadyH.cons rfl (fun K hK => ?_) AllReadyH.nil
      go_simp
      (go_at_call 21; (with_reducible refine (KB.out _ b3).mono ?_))
      rintro e wi ⟨A7, c7, rfl, hcv7, hbi7⟩
      have b4 := b3.trans (hbi7.mono b3.size)
      go_wp2_with fail
      refine hK.out _ _ b4 (fun _ => ?_)
      clear hK K
      try simp only [List.getElem_toArray, List.getElem_cons_zero, List.getElem_cons_succ, Act.put, List.setIfInBounds_toArray, List.set_cons_zero, List.set_cons_succ]
      refine wpAnyH_strong (S' := fun W => Below w3.heap.size w3 W ∧ Below wi.heap.size wi W) (fun _ h => h.1) ?_
      refine wpAnyH_take (i := 27) (oi := _) (v := .string sb) rfl (by kernel_rfl) (by kernel_rfl) (by kernel_rfl) (fun _ _ _ h => h) (Or.inl ⟨by rfl, by intro w hSw; have hcv := hcv7 w hSw.2; go_simp⟩) ⟨b4, Below.refl _ _⟩ ?_
      simp only [List.getElem_toArray, List.getElem_cons_zero, List.getElem_cons_succ, Act.put, List.setIfInBounds_toArray, List.set_cons_zero, List.set_cons_succ]
      refine wpAnyH_take (i := 30) (oi := _) (v := .bool true) rfl (by kernel_rfl) (by kernel_rfl) (by kernel_rfl) (fun _ _ _ h => h) (Or.inl ⟨by rfl, by intro w hSw; go_simp⟩) ⟨b4, Below.refl _ _⟩ ?_
      simp only [List.getElem_toArray, List.getElem_cons_zero, List.getElem_cons_succ, Act.put, List.setIfInBounds_toArray, List.set_cons_zero, List.set_cons_succ]
      refine wpAnyH_take (i := 31) (oi := _) (v := .bool true) rfl (by kernel_rfl) (by kernel_rfl) (by kernel_rfl) (fun _ _ _ h => h) (Or.inl ⟨by rfl, by intro w hSw; go_simp⟩) ⟨b4, Below.refl _ _⟩ ?_
      simp only [List.getElem_toArray, List.getElem_cons_zero, List.getElem_cons_succ, Act.put, List.setIfInBounds_toArray, List.set_cons_zero, List.set_cons_succ]
      refine wpAnyH_take (i := 32) (oi := _) (v := .bool true) rfl (by kernel_rfl) (by kernel_rfl) (by kernel_rfl) (fun _ _ _ h => h) (Or.inl ⟨by rfl, by intro w hSw; go_simp⟩) ⟨b4, Below.refl _ _⟩ ?_
      simp only [List.getElem_toArray, List.getElem_cons_zero, List.getElem_cons_succ, Act.put, List.setIfInBounds_toArray, List.set_cons_zero, List.set_cons_succ]
      refine wpAnyH_done (by kernel_rfl) ?_ _
      have HE := Lib.hid (HB3.out.trans (b4.mono HB3.out.size))
      clear b0 b1 b2 b3 b4 hbf hbg hbh hbi7 hcv7 hHeld
      go_wp2_with fail
      go_ret
      exact ⟨rfl, HE.out⟩
end
end Go.Proofs.Ytlcbmpojigjjlaa
