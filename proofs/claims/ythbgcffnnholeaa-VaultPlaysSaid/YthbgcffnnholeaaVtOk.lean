/- The package's vaults do what the walks of the statements ask of them. No statement of the seat is proved here. -/
import Derived.Test.YthbgcffnnholeaaVtLandB
import Derived.Test.YthbgcffnnholeaaVtLandC
namespace Go.Proofs.Ythbgcffnnholeaa
open Go.RowKit
set_option linter.unusedVariables false
set_option linter.unusedSimpArgs false

theorem fits_n {V : VS} {size : Nat} (h : V.Fits size) (hs : size ≤ 16384) : V.n ≤ 16384 := by
  have h1 := h.all
  have h2 := Nat.mul_le_mul_left V.n h.each.1
  omega
set_option maxHeartbeats 1000000 in
theorem vaultsOk : VaultsOk Lst Vst where
  lt h := by
    obtain ⟨vb, d, _, _, h, hG⟩ := h
    exact fun g hg => (hG g).1 hg ▸ h.lt
  keep h hk := by
    obtain ⟨vb, d, e1, e2, h, hG⟩ := h
    exact ⟨vb, d, e1, e2, h.same (hk vb ((hG vb).2 rfl)), hG⟩
  new s F S f e n w h hf he hn hv := by
    have hs : ∃ d, s = ⟨d, 0, none⟩ := by obtain ⟨d, _, _, _, _, _, _, _, e, _⟩ := h; exact ⟨d, e⟩
    obtain ⟨d, rfl⟩ := hs
    have hv2 := hv
    obtain ⟨h1, h2, h3, h4, h5, h6⟩ := hv2
    obtain ⟨f, rfl⟩ := Int.eq_ofNat_of_zero_le h1
    obtain ⟨e, rfl⟩ := Int.eq_ofNat_of_zero_le (show 0 ≤ e by omega)
    obtain ⟨n, rfl⟩ := Int.eq_ofNat_of_zero_le h5
    exact (vnew_ok h f e n hv).mono fun x w' ⟨vb, hx, hk, hb, hw⟩ => ⟨_, fun g => g = vb, hx, ⟨vb, d, rfl, rfl, hk, fun g => Iff.rfl⟩, fun g hg => hg ▸ hb, hw⟩
  bad s F S f e n w h hf he hn hv := by
    have hs : ∃ d, s = ⟨d, 0, none⟩ := by obtain ⟨d, _, _, _, _, _, _, _, e, _⟩ := h; exact ⟨d, e⟩
    obtain ⟨d, rfl⟩ := hs
    exact vnew_bad h f e n hf he hn hv
  room v G s V w h h1 h2 := by
    obtain ⟨vb, d, rfl, rfl, h, hG⟩ := h
    exact (room_ok h h1 h2).mono fun x w' ⟨hx, hw⟩ => ⟨hx, hw ▸ Below.refl _ _⟩
  len v G s V w h := by
    obtain ⟨vb, d, rfl, rfl, h, hG⟩ := h
    exact (len_ok h).mono fun x w' ⟨hx, hw⟩ => ⟨hx, hw ▸ Below.refl _ _⟩
  put v G s V F S at_ A n c b w h hst hFG hf hw ha hl hnc hcm hn hr ho := by
    obtain ⟨vb, d, rfl, rfl, h, hG⟩ := h
    have hvn := fits_n hf (disksOk.ok hst).le
    have hvF : ¬ F vb := fun hf => hFG vb hf ((hG vb).2 rfl)
    by_cases hb : at_ < 0 ∨ (V.n : Int) ≤ at_
    · have e : putV V S at_ b = (S, 1) := by unfold putV; rw [if_pos hb]
      rw [e]
      exact (put_bad h hvn at_ hb A n c).mono fun x w' ⟨hx, hw⟩ => ⟨hx, F, disksOk.below hst hw, fun g hg => .inl hg, Only.of_below hw⟩
    · obtain ⟨t, rfl⟩ : ∃ t : Nat, at_ = t := ⟨at_.toNat, by omega⟩
      by_cases hlo : V.room < n
      · have e : putV V S t b = (S, 4) := by unfold putV; rw [if_neg hb, hl, if_pos hlo]
        rw [e]
        exact (put_long h hvn hf.each.1 hf.each.2 t (by omega) A n c hlo).mono fun x w' ⟨hx, hw⟩ => ⟨hx, F, disksOk.below hst hw, fun g hg => .inl hg, Only.of_below hw⟩
      · have e : putV V S t b = putL (nSec (n + 4)) S (V.first t) (headB b) := by unfold putV; rw [if_neg hb, hl, if_neg hlo]; rfl
        rw [e]
        exact put_main h hst hvF hf t (by omega) A n c b (by omega) hw hl hnc hcm hn hr
  get v G s V F S at_ w h hst hFG hf hw ha := by
    obtain ⟨vb, d, rfl, rfl, h, hG⟩ := h
    have hvn := fits_n hf (disksOk.ok hst).le
    by_cases hb : at_ < 0 ∨ (V.n : Int) ≤ at_
    · have e : vgetE V S at_ = 1 := by unfold vgetE; rw [if_pos hb]
      have e2 : vgetB V S at_ = [] := by unfold vgetB; rw [if_neg (by rw [e]; decide)]
      rw [e, e2]
      exact (vget_bad h hvn at_ hb).mono fun x w' ⟨hx, hw⟩ => ⟨none, 0, hx, Nat.le_refl _, by simp [maxLen], Rd.nil _ _ _, hw ▸ Below.refl _ _⟩
    · obtain ⟨t, rfl⟩ : ∃ t : Nat, at_ = t := ⟨at_.toNat, by omega⟩
      cases ho : S.off with
      | true =>
        have e : vgetE V S t = 6 := by unfold vgetE; rw [if_neg hb, if_pos ho]
        have e2 : vgetB V S t = [] := by unfold vgetB; rw [if_neg (by rw [e]; decide)]
        rw [e, e2]
        exact (vget_dead h hst hf hvn hw t (by omega) ho).mono fun x w' ⟨hx, hw⟩ => ⟨none, 0, hx, Nat.le_refl _, by simp [maxLen], Rd.nil _ _ _, hw⟩
      | false =>
        refine (vget_main h hst hf hvn t (by omega) ho _ rfl).mono fun x w' ⟨hw, h1, h2⟩ => ?_
        by_cases hm : V.room < val ((V.row S t).take 4)
        · have e : vgetE V S t = 110 := by unfold vgetE; rw [if_neg hb, if_neg (by rw [ho]; decide), if_pos (by simpa using hm)]
          have e2 : vgetB V S t = [] := by unfold vgetB; rw [if_neg (by rw [e]; decide)]
          rw [e, e2]
          exact ⟨none, 0, h1 hm, Nat.le_refl _, by simp [maxLen], Rd.nil _ _ _, hw⟩
        · have e : vgetE V S t = 0 := by unfold vgetE; rw [if_neg hb, if_neg (by rw [ho]; decide), if_neg (by simpa using hm)]
          have e2 : vgetB V S t = ((V.row S t).drop 4).take (val ((V.row S t).take 4)) := by unfold vgetB; rw [if_pos e]; rfl
          have hlen : (vgetB V S t).length = val ((V.row S t).take 4) := by
            rw [e2, List.length_take, List.length_drop, VS.row_length (disksOk.ok hst)]
            have : V.room = 128 * V.each - 4 := rfl
            have := hf.each.1
            omega
          obtain ⟨A, c, hx, h3, h4, h5⟩ := h2 (by omega)
          rw [e, hlen]
          rw [e2]
          exact ⟨A, c, hx, h3, h4, h5, hw⟩
theorem vaultNilOk : VaultNilOk where
  new f e n w := (vnew_nil f e n w).mono fun x w' ⟨hx, hw⟩ => ⟨hx, hw ▸ Below.refl _ _⟩
  room w := (room_nil w).mono fun x w' ⟨hx, hw⟩ => ⟨hx, hw ▸ Below.refl _ _⟩
  len w := (len_nil w).mono fun x w' ⟨hx, hw⟩ => ⟨hx, hw ▸ Below.refl _ _⟩
  put at_ A n c w := vput_nil at_ A n c w
  get at_ w := (vget_nil at_ w).mono fun x w' ⟨hx, hw⟩ => ⟨⟨none, 0, hx⟩, hw ▸ Below.refl _ _⟩
end Go.Proofs.Ythbgcffnnholeaa
