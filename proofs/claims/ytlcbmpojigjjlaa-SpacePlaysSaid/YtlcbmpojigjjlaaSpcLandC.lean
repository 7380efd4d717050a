/- The contracts of the package's space: Hold, Free. No statement of the seat is proved here. -/
import Derived.Test.YtlcbmpojigjjlaaSpcLandB
namespace Go.Proofs.Ytlcbmpojigjjlaa
open Go.RowKit
set_option linter.unusedVariables false
set_option linter.unusedSimpArgs false

theorem hold_cases (S : PS) (at_ : Int) : (holdE S at_ = 1 ∧ holdP S at_ = S ∧ (decide (0 ≤ at_) && decide (at_ < (S.n : Int))) = false) ∨
    (∃ t : Nat, at_ = t ∧ t < S.n ∧ (decide (0 ≤ at_) && decide (at_ < (S.n : Int))) = true ∧ hasV S at_ = S.S t ∧ ((S.S t = true ∧ holdE S at_ = 3 ∧ holdP S at_ = S) ∨ (S.S t = false ∧ holdE S at_ = 0 ∧ holdP S at_ = ⟨S.n, flip1 S.S t⟩))) := by
  by_cases hb : at_ < 0 ∨ (S.n : Int) ≤ at_
  · left
    have e1 : holdE S at_ = 1 := by unfold holdE; rw [if_pos hb]
    refine ⟨e1, by unfold holdP; rw [e1, if_neg (by decide)], ?_⟩
    rcases hb with hb | hb
    · simp [show ¬ 0 ≤ at_ by omega]
    · simp [show ¬ at_ < (S.n : Int) by omega]
  · right
    have ht : at_ = (at_.toNat : Nat) := by omega
    have d1 : decide (0 ≤ at_) = true := by simp; omega
    have d2 : decide (at_ < (S.n : Int)) = true := by simp; omega
    refine ⟨at_.toNat, ht, by omega, by rw [d1, d2]; rfl, by unfold hasV; rw [d1, d2]; rfl, ?_⟩
    cases hs : S.S at_.toNat with
    | true =>
      left
      have e1 : holdE S at_ = 3 := by unfold holdE; rw [if_neg hb, if_pos hs]
      exact ⟨rfl, e1, by unfold holdP; rw [e1, if_neg (by decide)]⟩
    | false =>
      right
      have e1 : holdE S at_ = 0 := by unfold holdE; rw [if_neg hb, if_neg (by rw [hs]; decide)]
      exact ⟨rfl, e1, by unfold holdP; rw [if_pos e1, flip_put hs]⟩
theorem free_cases (S : PS) (at_ : Int) : (freeE S at_ = 1 ∧ freeP S at_ = S ∧ (decide (0 ≤ at_) && decide (at_ < (S.n : Int))) = false) ∨
    (∃ t : Nat, at_ = t ∧ t < S.n ∧ (decide (0 ≤ at_) && decide (at_ < (S.n : Int))) = true ∧ hasV S at_ = S.S t ∧ ((S.S t = false ∧ freeE S at_ = 2 ∧ freeP S at_ = S) ∨ (S.S t = true ∧ freeE S at_ = 0 ∧ freeP S at_ = ⟨S.n, flip1 S.S t⟩))) := by
  by_cases hb : at_ < 0 ∨ (S.n : Int) ≤ at_
  · left
    have e1 : freeE S at_ = 1 := by unfold freeE; rw [if_pos hb]
    refine ⟨e1, by unfold freeP; rw [e1, if_neg (by decide)], ?_⟩
    rcases hb with hb | hb
    · simp [show ¬ 0 ≤ at_ by omega]
    · simp [show ¬ at_ < (S.n : Int) by omega]
  · right
    have ht : at_ = (at_.toNat : Nat) := by omega
    have d1 : decide (0 ≤ at_) = true := by simp; omega
    have d2 : decide (at_ < (S.n : Int)) = true := by simp; omega
    refine ⟨at_.toNat, ht, by omega, by rw [d1, d2]; rfl, by unfold hasV; rw [d1, d2]; rfl, ?_⟩
    cases hs : S.S at_.toNat with
    | true =>
      right
      have e1 : freeE S at_ = 0 := by unfold freeE; rw [if_neg hb, if_pos hs]
      exact ⟨rfl, e1, by unfold freeP; rw [if_pos e1, flip_del hs]⟩
    | false =>
      left
      have e1 : freeE S at_ = 2 := by unfold freeE; rw [if_neg hb, if_neg (by rw [hs]; decide)]
      exact ⟨rfl, e1, by unfold freeP; rw [e1, if_neg (by decide)]⟩
section
variable {w : World}
set_option maxHeartbeats 1000000 in
theorem hold_anyS {s : Addr} {F : Nat → Prop} {S : PS} (h : Lsp w s F S) (at_ : Int) : Calls Try.prog 26 #[.pointer (some s), .int .i64 at_] w fun e w' => e = .returned (.int .i64 (holdE S at_)) ∧ Turned Lsp w s F w' (holdP S at_) := by
  have HT := Lib.hid (Turned.refl h)
  obtain ⟨d, A, c, rfl, hd, hok, hF⟩ := h
  have HTH := Lib.hid (there_any hd at_)
  have HHA := Lib.hid (has_anyS hd hok.le at_)
  have hP := holdP_ok hok at_
  rcases hold_cases S at_ with ⟨e1, e2, e3⟩ | ⟨t, rfl, ht, e3, e4, h2⟩
  · rw [e1, e2]
    rw [e3] at HTH
    clear hd hok hF hP e1 e2 e3 HHA
    go_enter Try.func26, Try.ntmps26
    go_wp2_with (go_at_call 31; refine HTH.out.mono ?_; rintro e w' ⟨rfl, rfl⟩)
    go_ret
    exact ⟨rfl, HT.out⟩
  · rw [show (⟨S.n, S.S⟩ : PS) = S from rfl, e4] at HHA
    rw [e3] at HTH
    rcases h2 with ⟨h2, e1, e2⟩ | ⟨h2, e1, e2⟩
    · rw [e1, e2]
      rw [h2] at HHA
      clear hd hok hF hP e1 e2 e3 e4 h2 ht
      go_enter Try.func26, Try.ntmps26
      go_wp2_with (first | (go_at_call 31; refine HTH.out.mono ?_; rintro e w' ⟨rfl, rfl⟩) | (go_at_call 15; refine HHA.out.mono ?_; rintro e w' ⟨rfl, rfl⟩))
      go_ret
      exact ⟨rfl, HT.out⟩
    · have HFL := Lib.hid (flip_any hd hok.le t ht)
      have HP := Lib.hid (fun w' => turned_flip (w' := w') (t := t) hd hF hP e2)
      rw [e1]
      rw [h2] at HHA
      obtain ⟨T, hT⟩ : ∃ T, holdP S t = T := ⟨_, rfl⟩
      rw [hT] at HP ⊢
      clear hd hok hF hP e1 e2 e3 e4 h2 ht HT hT
      go_enter Try.func26, Try.ntmps26
      go_wp2_with (first | (go_at_call 31; refine HTH.out.mono ?_; rintro e w' ⟨rfl, rfl⟩) | (go_at_call 15; refine HHA.out.mono ?_; rintro e w' ⟨rfl, rfl⟩) | (go_at_call 36; refine HFL.out.mono ?_; rintro e w' ⟨rfl, h1, h2⟩; have HZ := Lib.hid (HP.out _ h1 h2); clear h1 h2))
      go_ret
      exact ⟨rfl, HZ.out⟩
set_option maxHeartbeats 1000000 in
theorem free_anyS {s : Addr} {F : Nat → Prop} {S : PS} (h : Lsp w s F S) (at_ : Int) : Calls Try.prog 27 #[.pointer (some s), .int .i64 at_] w fun e w' => e = .returned (.int .i64 (freeE S at_)) ∧ Turned Lsp w s F w' (freeP S at_) := by
  have HT := Lib.hid (Turned.refl h)
  obtain ⟨d, A, c, rfl, hd, hok, hF⟩ := h
  have HTH := Lib.hid (there_any hd at_)
  have HHA := Lib.hid (has_anyS hd hok.le at_)
  have hP := freeP_ok hok at_
  rcases free_cases S at_ with ⟨e1, e2, e3⟩ | ⟨t, rfl, ht, e3, e4, h2⟩
  · rw [e1, e2]
    rw [e3] at HTH
    clear hd hok hF hP e1 e2 e3 HHA
    go_enter Try.func27, Try.ntmps27
    go_wp2_with (go_at_call 31; refine HTH.out.mono ?_; rintro e w' ⟨rfl, rfl⟩)
    go_ret
    exact ⟨rfl, HT.out⟩
  · rw [show (⟨S.n, S.S⟩ : PS) = S from rfl, e4] at HHA
    rw [e3] at HTH
    rcases h2 with ⟨h2, e1, e2⟩ | ⟨h2, e1, e2⟩
    · rw [e1, e2]
      rw [h2] at HHA
      clear hd hok hF hP e1 e2 e3 e4 h2 ht
      go_enter Try.func27, Try.ntmps27
      go_wp2_with (first | (go_at_call 31; refine HTH.out.mono ?_; rintro e w' ⟨rfl, rfl⟩) | (go_at_call 15; refine HHA.out.mono ?_; rintro e w' ⟨rfl, rfl⟩))
      go_ret
      exact ⟨rfl, HT.out⟩
    · have HFL := Lib.hid (flip_any hd hok.le t ht)
      have HP := Lib.hid (fun w' => turned_flip (w' := w') (t := t) hd hF hP e2)
      rw [e1]
      rw [h2] at HHA
      obtain ⟨T, hT⟩ : ∃ T, freeP S t = T := ⟨_, rfl⟩
      rw [hT] at HP ⊢
      clear hd hok hF hP e1 e2 e3 e4 h2 ht HT hT
      go_enter Try.func27, Try.ntmps27
      go_wp2_with (first | (go_at_call 31; refine HTH.out.mono ?_; rintro e w' ⟨rfl, rfl⟩) | (go_at_call 15; refine HHA.out.mono ?_; rintro e w' ⟨rfl, rfl⟩) | (go_at_call 36; refine HFL.out.mono ?_; rintro e w' ⟨rfl, h1, h2⟩; have HZ := Lib.hid (HP.out _ h1 h2); clear h1 h2))
      go_ret
      exact ⟨rfl, HZ.out⟩
theorem nil_len (w : World) : Calls Try.prog 17 #[.pointer none] w fun e w' => e = .returned (.int .i64 0) ∧ w = w' := by
  go_enter Try.func17, Try.ntmps17
  go_wp2
  go_ret
  exact ⟨rfl, rfl⟩
theorem nil_take (w : World) : Calls Try.prog 25 #[.pointer none] w fun e w' => e = .returned (.tuple #[.int .i64 0, .int .i64 2]) ∧ w = w' := by
  go_enter Try.func25, Try.ntmps25
  go_wp2
  go_ret2
  exact ⟨rfl, rfl⟩
theorem nil_hold (at_ : Int) (w : World) : Calls Try.prog 26 #[.pointer none, .int .i64 at_] w fun e w' => e = .returned (.int .i64 2) ∧ w = w' := by
  go_enter Try.func26, Try.ntmps26
  go_wp2
  go_ret
  exact ⟨rfl, rfl⟩
theorem nil_free (at_ : Int) (w : World) : Calls Try.prog 27 #[.pointer none, .int .i64 at_] w fun e w' => e = .returned (.int .i64 2) ∧ w = w' := by
  go_enter Try.func27, Try.ntmps27
  go_wp2
  go_ret
  exact ⟨rfl, rfl⟩
theorem nil_has (at_ : Int) (w : World) : Calls Try.prog 15 #[.pointer none, .int .i64 at_] w fun e w' => e = .returned (.bool false) ∧ w = w' := by
  go_enter Try.func15, Try.ntmps15
  go_wp2
  go_ret
  exact ⟨rfl, rfl⟩
theorem nil_taken (w : World) : Calls Try.prog 18 #[.pointer none] w fun e w' => e = .returned (.int .i64 0) ∧ w = w' := by
  go_enter Try.func18, Try.ntmps18
  go_wp2
  go_ret
  exact ⟨rfl, rfl⟩
theorem nil_all (w : World) : Calls Try.prog 20 #[.pointer none] w fun e w' => e = .returned (.slice none 0 0) ∧ w = w' := by
  go_enter Try.func20, Try.ntmps20
  go_wp2_with (go_at_call 17; refine (nil_len _).mono ?_; rintro e w' ⟨rfl, rfl⟩)
  go_loopw [3, 7] (fun l i wr => l = .slice none 0 0 ∧ i = .int .i64 0 ∧ w = wr) (fun _ _ _ => 0)
  case atStart => exact ⟨rfl, rfl, rfl⟩
  case round =>
    obtain ⟨rfl, rfl, rfl⟩ := hrel
    go_wp2
    go_ret
    exact ⟨rfl, rfl⟩
theorem nil_bytes (w : World) : Calls Try.prog 21 #[.pointer none] w fun e w' => (∃ A c, e = .returned (.slice A 0 c)) ∧ Below w.heap.size w w' := by
  have hsz := size_ok 0 (by omega)
  have HS := Lib.hid (show ∀ w, Calls Try.prog 33 #[.int .i64 0] w fun e w' => e = .returned (.int .i64 0) ∧ w = w' from hsz)
  clear hsz
  obtain ⟨i0, hi, hz0, hz1, hz2⟩ := info_parts (show (Try.prog.info? 5).map (fun i => (i.zero, i.size, i.bytes)) = some (some (.int .u8 0), 1, 1) by kernel_rfl)
  have hmk := run_make (P := Try.prog) w 45 5 i0 (.int .u8 0) Try.underlying45 hi hz0 .i64 .i64 0 0 (by omega) (by omega) (by rw [hz2]; omega) (by omega)
  have hb1 := Lib.hid ((Below.refl w.heap.size w).alloc (Nat.le_refl _) (.cells (madeCells #[Value.int .u8 0] 0) 5))
  go_enter Try.func21, Try.ntmps21
  go_wp2_with (first | (go_at_call 17; refine (nil_len _).mono ?_; rintro e w' ⟨rfl, rfl⟩) | (go_at_call 33; refine (HS.out _).mono ?_; rintro e w' ⟨rfl, rfl⟩))
  generalize w.alloc (.cells (madeCells #[Value.int .u8 0] 0) 5) = w1 at *
  go_loopw [13] (fun i wr => i = .int .i64 0 ∧ w1 = wr) (fun _ _ => 0)
  case atStart => exact ⟨rfl, rfl⟩
  case round =>
    obtain ⟨rfl, rfl⟩ := hrel
    go_wp2
    go_ret
    exact ⟨⟨_, _, rfl⟩, hb1.out⟩
end
end Go.Proofs.Ytlcbmpojigjjlaa
