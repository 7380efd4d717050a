/- The contracts of the package's space: leastFree, Take, Hold, Free. No statement of the seat is proved here. -/
import Derived.Test.YtlcbmpojigjjlaaSpcLandA
namespace Go.Proofs.Ytlcbmpojigjjlaa
open Go.RowKit
set_option linter.unusedVariables false
set_option linter.unusedSimpArgs false

theorem leastF_word {f : Nat → Bool} {j : Nat} : leastF (fun i => (w64 f j).testBit i) 64 = leastF (fun i => f (64 * j + i)) 64 := by
  obtain ⟨h1, h2, h3⟩ := leastF_spec (fun i => f (64 * j + i)) 64
  refine leastF_eq h1 (fun i hi => ?_) fun h => ?_
  · show (w64 f j).testBit i = true
    rw [w64_bit f j (by omega)]; exact h2 i hi
  · show (w64 f j).testBit _ = false
    rw [w64_bit f j h]; exact h3 h
/-- What leastFree gives: the least free place, if there is one. -/
def LeastV (n : Nat) (f : Nat → Bool) (r : Nat) : Prop := (leastF f n < n → r = leastF f n) ∧ (¬ leastF f n < n → n ≤ r) ∧ r ≤ 20000
section
variable {w : World} {d : Nat} {A : Option Addr} {c n : Nat} {f : Nat → Bool}
theorem leastV_mk {r : Nat} (hn : n ≤ 16384) (hf : ∀ q, n ≤ q → f q = false) (h1 : ∀ q, q < r → f q = true) (h2 : f r = false ∨ n ≤ r) (h3 : r ≤ 20000) : LeastV n f r := by
  by_cases h : n ≤ r
  · have e : leastF f n = n := leastF_eq (Nat.le_refl _) (fun i hi => h1 i (by omega)) fun h => by omega
    exact ⟨fun hl => by omega, fun _ => h, h3⟩
  · have e : leastF f n = r := leastF_eq (by omega) h1 fun _ => h2.elim id fun h' => absurd h' h
    exact ⟨fun _ => e.symm, fun hl => by omega, h3⟩
set_option maxHeartbeats 1000000 in
theorem least_any (h : LSp w d A c n f) (hn : n ≤ 16384) (hf : ∀ q, n ≤ q → f q = false) : Calls Try.prog 35 #[.pointer (some ⟨d, 0, none⟩)] w fun e w' => ∃ r : Nat, e = .returned (.int .i64 r) ∧ LeastV n f r ∧ w = w' := by
  obtain ⟨m, hm⟩ : ∃ m, (n + 63) / 64 = m := ⟨_, rfl⟩
  have hc1 := h.cells.2
  rw [hm] at hc1
  have hm2 : m ≤ 256 := by omega
  have HM := Lib.hid hm
  have HH := Lib.hid h
  have HV := Lib.hid (fun r h1 h2 h3 => leastV_mk (r := r) hn hf h1 h2 h3)
  clear h hf hm
  go_enter Try.func35, Try.ntmps35
  go_wp2_with fail
  go_loopw [11] (fun i wr => ∃ j : Nat, j ≤ m ∧ i = .int .i64 j ∧ Hid (∀ q, q < 64 * j → f q = true) ∧ w = wr) (fun i _ => m - (intOf i).toNat)
  case atStart => exact ⟨0, Nat.zero_le _, rfl, Lib.hid (fun q hq => by omega), rfl⟩
  case round =>
    obtain ⟨j, hj, rfl, hst, rfl⟩ := hrel
    by_cases hlt : j < m
    · obtain ⟨g, rfl, _, hcj, _⟩ := HH.out.at_ (j := j) (by rw [HM.out]; exact hlt)
      have hi1 : (0 : Int) ≤ (j : Int) := by omega
      have hi2 : (j : Int) < (m : Int) := by omega
      obtain ⟨X, hX⟩ : ∃ X, w64 f j = X := ⟨_, rfl⟩
      have HF := Lib.hid (first_ok X (hX ▸ w64_lt2 f j))
      obtain ⟨R, hR⟩ : ∃ R, leastF (fun i => X.testBit i) 64 = R := ⟨_, rfl⟩
      rw [hR] at HF
      rw [← hX, leastF_word] at hR
      rw [hX] at hcj
      have hsp := leastF_spec (fun i => f (64 * j + i)) 64
      rw [hR] at hsp
      obtain ⟨s1, s2, s3⟩ := hsp
      by_cases hr : R < 64
      · have HE := Lib.hid (HV.out (j * 64 + R) (fun q hq => by
          by_cases e : q < 64 * j
          · exact hst.out q e
          · have := s2 (q - 64 * j) (by omega)
            rwa [show 64 * j + (q - 64 * j) = q by omega] at this) (.inl (by
          have := s3 hr
          rwa [show 64 * j + R = j * 64 + R by omega] at this)) (by omega))
        clear hst s2 s3 hR hX
        go_wp2_with (go_at_call 37; refine (HF.out _).mono ?_; rintro e w' ⟨rfl, rfl⟩)
        go_ret
        exact ⟨j * 64 + R, by congr 2 <;> omega, HE.out, rfl⟩
      · obtain rfl : R = 64 := by omega
        have HNX := Lib.hid (show ∀ q, q < 64 * (j + 1) → f q = true from fun q hq => by
          by_cases e : q < 64 * j
          · exact hst.out q e
          · have := s2 (q - 64 * j) (by omega)
            rwa [show 64 * j + (q - 64 * j) = q by omega] at this)
        clear hst s2 s3 hR hX
        go_wp2_with (go_at_call 37; refine (HF.out _).mono ?_; rintro e w' ⟨rfl, rfl⟩)
        go_roundw
        case rel => exact ⟨j + 1, by omega, by go_num, HNX, trivial⟩
        case measure => simp [intOf]; omega
    · obtain rfl : m = j := by omega
      have hmn : n ≤ m * 64 := by have := HM.out; omega
      have HE := Lib.hid (HV.out (m * 64) (fun q hq => hst.out q (by omega)) (.inr hmn) (by omega))
      clear hst
      go_wp2_with fail
      go_ret
      exact ⟨m * 64, by congr 2 <;> omega, HE.out, rfl⟩
theorem turned_flip {F : Nat → Prop} {S : PS} {w' : World} {t : Nat} {S' : PS} (hd : LSp w d A c S.n S.S) (hF : ∀ g, F g ↔ LSF d A c S.n g) (hP : S'.Ok) (e : S' = ⟨S.n, flip1 S.S t⟩)
    (h1 : LSp w' d A c S.n (flip1 S.S t)) (h2 : ∃ g, (Value.slice A ((S.n + 63) / 64) c).ownBlock = some g ∧ w.grownBy w' (some g)) : Turned Lsp w ⟨d, 0, none⟩ F w' S' := by
  obtain ⟨g, ho, hg⟩ := h2
  subst e
  exact ⟨F, ⟨d, A, c, rfl, h1, hP, hF⟩, fun k hk => .inl hk, only_grown hg ((hF g).2 (.inr ho))⟩
set_option maxHeartbeats 1000000 in
theorem take_anyS {s : Addr} {F : Nat → Prop} {S : PS} (h : Lsp w s F S) : Calls Try.prog 25 #[.pointer (some s)] w fun e w' => e = .returned (.tuple #[.int .i64 (takeV S), .int .i64 (takeE S)]) ∧ Turned Lsp w s F w' (takeP S) := by
  have HT := Lib.hid (Turned.refl h)
  obtain ⟨d, A, c, rfl, hd, hok, hF⟩ := h
  have HL := Lib.hid (least_any hd hok.le hok.out)
  have hc0 := hd.cells.1
  obtain ⟨l, hl⟩ : ∃ l, leastF S.S S.n = l := ⟨_, rfl⟩
  by_cases hlt : l < S.n
  · have e0 : takeV S = l := by unfold takeV; rw [hl, if_pos hlt]
    have e1 : takeE S = 0 := by unfold takeE; rw [hl, if_pos hlt]
    have e2 : takeP S = ⟨S.n, put1 S.S l⟩ := by unfold takeP; rw [hl, if_pos hlt]
    have hfr : S.S l = false := by have := (leastF_spec S.S S.n).2.2; rw [hl] at this; exact this hlt
    rw [e0, e1]
    have HFL := Lib.hid (flip_any hd hok.le l hlt)
    have HP := Lib.hid (fun w' => turned_flip (w' := w') (t := l) hd hF (takeP_ok hok) (by rw [e2, flip_put hfr]))
    have hn := hok.le
    unfold LeastV at HL
    rw [hl] at HL
    obtain ⟨n, hnn⟩ : ∃ n, S.n = n := ⟨_, rfl⟩
    rw [hnn] at *
    clear hd hF hok e0 e1 e2 hfr hnn hl HT
    go_enter Try.func25, Try.ntmps25
    go_wp2_with (first | (go_at_call 35; refine HL.out.mono ?_; rintro e w' ⟨r, rfl, ⟨hr, _⟩, rfl⟩; obtain rfl := hr hlt) | (go_at_call 36; refine HFL.out.mono ?_; rintro e w' ⟨rfl, h1, h2⟩; have HZ := Lib.hid (HP.out _ h1 h2); clear h1 h2))
    go_ret2
    exact ⟨rfl, HZ.out⟩
  · have e0 : takeV S = 0 := by unfold takeV; rw [hl, if_neg hlt]
    have e1 : takeE S = 5 := by unfold takeE; rw [hl, if_neg hlt]
    have e2 : takeP S = S := by unfold takeP; rw [hl, if_neg hlt]
    rw [e0, e1, e2]
    have hn := hok.le
    unfold LeastV at HL
    rw [hl] at HL
    obtain ⟨n, hnn⟩ : ∃ n, S.n = n := ⟨_, rfl⟩
    rw [hnn] at *
    clear hd hF hok e0 e1 e2 hnn hl
    go_enter Try.func25, Try.ntmps25
    go_wp2_with (go_at_call 35; refine HL.out.mono ?_; rintro e w' ⟨r, rfl, ⟨_, hr, hr2⟩, rfl⟩; replace hr := hr hlt)
    go_ret2
    exact ⟨rfl, HT.out⟩
end
end Go.Proofs.Ytlcbmpojigjjlaa
