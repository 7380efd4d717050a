/- The package's space does what the walks of the statements ask of it. No statement of the seat is proved here. -/
import Derived.Test.YtlcbmpojigjjlaaSpcLandF
namespace Go.Proofs.Ytlcbmpojigjjlaa
open Go.RowKit
set_option linter.unusedVariables false
set_option linter.unusedSimpArgs false

theorem lsp_in {w : World} {s : Addr} {F : Nat → Prop} {S : PS} (h : Lsp w s F S) : ∃ d A c, s = ⟨d, 0, none⟩ ∧ LSp w d A c S.n S.S ∧ S.n ≤ 16384 ∧ ∀ q, S.n ≤ q → S.S q = false := by
  obtain ⟨d, A, c, e, h1, h2, _⟩ := h
  exact ⟨d, A, c, e, h1, h2.le, h2.out⟩
abbrev St := Lsp
theorem spacesOk : SpacesOk St where
  lt h := lsp_lt h
  keep h hk := lsp_keep h hk
  ok h := by
    obtain ⟨_, _, _, _, _, ho, _⟩ := h
    exact ho
  new n w hn := (new_goodS n hn w).mono fun e w' ⟨d, A, c, he, h1, h2, h3⟩ => ⟨⟨d, 0, none⟩, LSF d A c n, he, ⟨d, A, c, rfl, h1, newP_ok hn, fun g => Iff.rfl⟩, h2, h3⟩
  bad n w hn := (new_badS n hn w).mono fun e w' ⟨he, hw⟩ => ⟨he, hw ▸ Below.refl _ _⟩
  take s F S w h := take_anyS h
  hold s F S at_ w h _ := hold_anyS h at_
  free s F S at_ w h _ := free_anyS h at_
  has s F S at_ w h _ := by
    obtain ⟨d, A, c, rfl, h1, h2, h3⟩ := lsp_in h
    exact (has_anyS h1 h2 at_).mono fun e w' ⟨he, hw⟩ => ⟨he, hw ▸ Below.refl _ _⟩
  len s F S w h := by
    obtain ⟨d, A, c, rfl, h1, h2, h3⟩ := lsp_in h
    exact (len_anyS h1).mono fun e w' ⟨he, hw⟩ => ⟨he, hw ▸ Below.refl _ _⟩
  taken s F S w h := by
    obtain ⟨d, A, c, rfl, h1, h2, h3⟩ := lsp_in h
    exact (taken_anyS h1 h2 h3).mono fun e w' ⟨he, hw⟩ => ⟨he, hw ▸ Below.refl _ _⟩
  all s F S w h := by
    obtain ⟨d, A, c, rfl, h1, h2, h3⟩ := lsp_in h
    exact all_anyS h1 h2
  bytes s F S w h := by
    obtain ⟨d, A, c, rfl, h1, h2, h3⟩ := lsp_in h
    exact bytes_anyS h1 h2 h3
  load n A k c b w hn hl hk hm hr ho := (load_okS n hn A k c b hl hk hm ho w hr).mono fun e w' ⟨d, A1, c1, he, h1, h2, h3⟩ => ⟨⟨d, 0, none⟩, LSF d A1 c1 n, he, ⟨d, A1, c1, rfl, h1, loadP_ok hn, fun g => Iff.rfl⟩, h2, h3⟩
  noload n A k c b w hl hk hm hr ho := by
    by_cases hb : n < 0 ∨ 16384 < n
    · exact (load_badS n hb A k c w).mono fun e w' ⟨he, hw⟩ => ⟨he, hw ▸ Below.refl _ _⟩
    · obtain ⟨m, rfl⟩ : ∃ m : Nat, n = m := ⟨n.toNat, by omega⟩
      have hno : ¬ LoadOk m b := by
        rcases ho with ho | ho | ho
        · omega
        · omega
        · rwa [Int.toNat_natCast] at ho
      have hk63 : k ≤ 9223372036854775807 := by unfold maxLen at hm; omega
      by_cases hlen : k = (m + 7) / 8
      · rw [loadOk_iff] at hno
        have h1 : ¬ (m % 8 = 0 ∨ (b.getD (b.length - 1) 0).toNat / 2 ^ (m % 8) = 0) := fun h => hno ⟨by rw [hl]; exact hlen, h⟩
        exact load_tailS m (by omega) A k c b hl hlen (fun h => h1 (.inl h)) (fun h => h1 (.inr h)) w hr
      · exact load_lenS m (by omega) A k c hlen hk63 w
theorem spaceNilOk : SpaceNilOk where
  take w := (nil_take w).mono fun e w' ⟨he, hw⟩ => ⟨he, hw ▸ Below.refl _ _⟩
  hold at_ w := (nil_hold at_ w).mono fun e w' ⟨he, hw⟩ => ⟨he, hw ▸ Below.refl _ _⟩
  free at_ w := (nil_free at_ w).mono fun e w' ⟨he, hw⟩ => ⟨he, hw ▸ Below.refl _ _⟩
  has at_ w := (nil_has at_ w).mono fun e w' ⟨he, hw⟩ => ⟨he, hw ▸ Below.refl _ _⟩
  len w := (nil_len w).mono fun e w' ⟨he, hw⟩ => ⟨he, hw ▸ Below.refl _ _⟩
  taken w := (nil_taken w).mono fun e w' ⟨he, hw⟩ => ⟨he, hw ▸ Below.refl _ _⟩
  all w := (nil_all w).mono fun e w' ⟨he, hw⟩ => ⟨⟨_, _, he⟩, hw ▸ Below.refl _ _⟩
  bytes w := nil_bytes w
end Go.Proofs.Ytlcbmpojigjjlaa
