/- Plain mathematics for package slot: a slot's sector, the slot of a sector, the newer one of two, torn sectors. No statement of the seat is proved here; nothing of the program is imported. -/
import Derived.Test.YtmfbidohmkoeeaaMath
namespace Go.Proofs.Ytmfbidohmkoeeaa
open Go.RowKit
set_option linter.unusedVariables false

structure SlT where
  g : Nat
  a : Nat
  z : Nat
  u : Nat
deriving DecidableEq
structure SlT.Ok (s : SlT) : Prop where
  g : s.g < 18446744073709551616
  a : s.a < 256
  z : s.z < 4294967296
  u : s.u < 4294967296
def slZ : SlT := ⟨0, 0, 0, 0⟩
theorem slZ_ok : slZ.Ok := ⟨by decide, by decide, by decide, by decide⟩
def headL (s : SlT) : List UInt8 := be 8 s.g ++ (be 1 s.a ++ (be 4 s.z ++ be 4 s.u))
def layS (s : SlT) : List UInt8 := headL s ++ (List.replicate 103 0 ++ be 8 s.g)
theorem headL_length (s : SlT) : (headL s).length = 17 := by simp [headL, be_length]
theorem layS_length (s : SlT) : (layS s).length = 128 := by simp [layS, headL_length, be_length]
/-- The numbers at a sector's head. -/
def headS (b : List UInt8) : SlT := ⟨val (b.take 8), val ((b.drop 8).take 1), val ((b.drop 9).take 4), val ((b.drop 13).take 4)⟩
theorem headS_ok (b : List UInt8) : (headS b).Ok := by
  have h : ∀ (l : List UInt8) (k : Nat), val (l.take k) < 256 ^ k := fun l k => Nat.lt_of_lt_of_le (val_lt _) (Nat.pow_le_pow_right (by omega) (by rw [List.length_take]; omega))
  exact ⟨h b 8, h (b.drop 8) 1, h (b.drop 9) 4, h (b.drop 13) 4⟩
theorem headS_lay {s : SlT} (h : s.Ok) : headS (layS s) = s := by
  obtain ⟨g, a, z, u⟩ := s
  obtain ⟨h1, h2, h3, h4⟩ := h
  simp only at h1 h2 h3 h4
  have e8 := be_length 8 g
  have e1 := be_length 1 a
  have e4 := be_length 4 z
  have e44 := be_length 4 u
  have b8 : ∀ X : List UInt8, (be 8 g ++ X).take 8 = be 8 g := fun X => List.take_left' e8
  have d8 : ∀ X : List UInt8, (be 8 g ++ X).drop 8 = X := fun X => List.drop_left' e8
  have d9 : ∀ X : List UInt8, (be 8 g ++ (be 1 a ++ X)).drop 9 = X := fun X => by rw [show 9 = 8 + 1 by omega, ← List.drop_drop, d8, List.drop_left' e1]
  have d13 : ∀ X : List UInt8, (be 8 g ++ (be 1 a ++ (be 4 z ++ X))).drop 13 = X := fun X => by rw [show 13 = 9 + 4 by omega, ← List.drop_drop, d9, List.drop_left' e4]
  have el : layS ⟨g, a, z, u⟩ = be 8 g ++ (be 1 a ++ (be 4 z ++ (be 4 u ++ (List.replicate 103 0 ++ be 8 g)))) := by simp [layS, headL]
  unfold headS
  rw [el, b8, d8, d9, d13, List.take_left' e1, List.take_left' e4, List.take_left' e44, val_be_of_lt h1, val_be_of_lt h2, val_be_of_lt h3, val_be_of_lt h4]
theorem layS_inj {s t : SlT} (hs : s.Ok) (ht : t.Ok) (h : layS s = layS t) : s = t := by rw [← headS_lay hs, h, headS_lay ht]
/-- The slot of a sector, and the error. -/
def takeS (b : List UInt8) : SlT × Nat := if (headS b).g ≠ 0 ∧ layS (headS b) = b then (headS b, 0) else (slZ, 100)
theorem takeS_ok (b : List UInt8) : (takeS b).1.Ok := by
  unfold takeS
  split
  · exact headS_ok b
  · exact slZ_ok
theorem takeS_lay {s : SlT} (h : s.Ok) (hg : s.g ≠ 0) : takeS (layS s) = (s, 0) := by unfold takeS; rw [headS_lay h, if_pos ⟨hg, rfl⟩]
theorem takeS_yes {b : List UInt8} {x : SlT} (h : takeS b = (x, 0)) : x.g ≠ 0 ∧ layS x = b := by
  unfold takeS at h
  split at h
  · rename_i hc
    injection h with h1 _
    rw [← h1]
    exact hc
  · injection h with _ h2
    cases h2
theorem takeS_cases (b : List UInt8) : (takeS b).2 = 0 ∧ (takeS b).1.g ≠ 0 ∧ layS (takeS b).1 = b ∨ takeS b = (slZ, 100) := by
  by_cases h : (headS b).g ≠ 0 ∧ layS (headS b) = b
  · left
    have e : takeS b = (headS b, 0) := by unfold takeS; rw [if_pos h]
    rw [e]
    exact ⟨rfl, h.1, h.2⟩
  · right
    unfold takeS
    rw [if_neg h]
theorem takeS_zero {s : SlT} (h : s.Ok) (hg : s.g = 0) : takeS (layS s) = (slZ, 100) := by
  rcases takeS_cases (layS s) with ⟨h1, h2, h3⟩ | h1
  · have := layS_inj (takeS_ok _) h h3
    rw [this] at h2
    exact absurd hg h2
  · exact h1
theorem takeS_len {b : List UInt8} (h : b.length ≠ 128) : takeS b = (slZ, 100) := by
  rcases takeS_cases b with ⟨_, _, h3⟩ | h1
  · exact absurd (by rw [← h3, layS_length]) h
  · exact h1
/-- The newer one of two slots, which it is, and the error. -/
def newerS (a b : List UInt8) : SlT × Nat × Nat :=
  if (takeS a).2 ≠ 0 ∧ (takeS b).2 ≠ 0 then (slZ, 0, 100)
  else if (takeS a).2 ≠ 0 ∨ (takeS b).2 = 0 ∧ (takeS a).1.g < (takeS b).1.g then ((takeS b).1, 1, 0) else ((takeS a).1, 0, 0)
theorem newerS_ok (a b : List UInt8) : (newerS a b).1.Ok := by
  unfold newerS
  split
  · exact slZ_ok
  · split
    · exact takeS_ok b
    · exact takeS_ok a
/-! ### Torn sectors -/
def oldL (old : SlT) : List UInt8 := if old.g = 0 then List.replicate 128 0 else layS old
theorem oldL_length (old : SlT) : (oldL old).length = 128 := by
  unfold oldL
  split
  · simp
  · exact layS_length old
def tornL (s old : SlT) (k : Nat) : List UInt8 := (layS s).take k ++ (oldL old).drop k
theorem be_last (g : Nat) : (be 8 g)[7]? = some (UInt8.ofNat g) := by
  simp [be]
theorem last_lay (s : SlT) : (layS s)[127]? = some (UInt8.ofNat s.g) := by
  unfold layS
  rw [List.getElem?_append_right (by rw [headL_length]; omega), headL_length, List.getElem?_append_right (by simp), List.length_replicate]
  exact be_last s.g
theorem seventh_lay (s : SlT) : (layS s)[7]? = some (UInt8.ofNat s.g) := by
  unfold layS headL
  rw [List.append_assoc, List.getElem?_append_left (by rw [be_length]; omega)]
  exact be_last s.g
theorem last_old (old : SlT) : (oldL old)[127]? = some (UInt8.ofNat old.g) := by
  unfold oldL
  split
  · rename_i h
    rw [h]
    simp
  · exact last_lay old
/-- The last eight bytes. -/
theorem end_lay (s : SlT) : (layS s).drop 120 = be 8 s.g := by
  unfold layS
  rw [← List.append_assoc, List.drop_left' (by simp [headL_length])]
theorem torn_take {s old : SlT} (hs : s.Ok) (ho : old.Ok) (h0 : s.g ≠ 0) (hne : s.g % 256 ≠ old.g % 256) {k : Nat} (hk : k ≤ 128) :
    (takeS (tornL s old k) = (s, 0)) ∨ (takeS (tornL s old k) = (slZ, 100) ∧ (0 < k ∧ k < 128 ∨ k = 0 ∧ old.g = 0)) ∨ (takeS (tornL s old k) = (old, 0) ∧ old.g ≠ 0 ∧ k < 128) := by
  have hu : UInt8.ofNat s.g ≠ UInt8.ofNat old.g := fun e => hne (by
    have := congrArg UInt8.toNat e
    simpa [UInt8.toNat_ofNat'] using this)
  by_cases e128 : k = 128
  · left
    subst e128
    have e : tornL s old 128 = layS s := by
      unfold tornL
      rw [List.take_of_length_le (by rw [layS_length]; exact Nat.le_refl _), List.drop_of_length_le (by rw [oldL_length]; exact Nat.le_refl _), List.append_nil]
    rw [e]
    exact takeS_lay hs h0
  right
  rcases takeS_cases (tornL s old k) with ⟨h1, h2, h3⟩ | h1
  · -- it is a slot: then the old one
    right
    have hx : takeS (tornL s old k) = ((takeS (tornL s old k)).1, 0) := by rw [← h1]
    generalize (takeS (tornL s old k)).1 = x at h2 h3 hx
    have hxo : x.Ok := by
      have := takeS_ok (tornL s old k)
      rw [hx] at this
      exact this
    have hlt : (List.take k (layS s)).length = k := by rw [List.length_take, layS_length]; omega
    have hl : (tornL s old k)[127]? = some (UInt8.ofNat old.g) := by
      unfold tornL
      rw [List.getElem?_append_right (by omega), hlt, List.getElem?_drop, show k + (127 - k) = 127 by omega]
      exact last_old old
    have h7 : (tornL s old k)[7]? = some (UInt8.ofNat old.g) := by
      rw [← h3, seventh_lay, ← last_lay x, h3, hl]
    have hk7 : k ≤ 7 := by
      refine Nat.le_of_not_lt fun hk7 => hu ?_
      have : (tornL s old k)[7]? = some (UInt8.ofNat s.g) := by
        unfold tornL
        rw [List.getElem?_append_left (by omega), List.getElem?_take, if_pos (by omega)]
        exact seventh_lay s
      rw [this] at h7
      injection h7
    have hd : ∀ m, k ≤ m → (tornL s old k).drop m = (oldL old).drop m := fun m hm => by
      unfold tornL
      rw [List.drop_append, hlt, List.drop_of_length_le (by omega), List.nil_append, List.drop_drop, show k + (m - k) = m by omega]
    have hog : old.g ≠ 0 := fun e => by
      have h5 := end_lay x
      rw [h3, hd 120 (by omega)] at h5
      unfold oldL at h5
      rw [if_pos e, List.drop_replicate] at h5
      have h6 := congrArg val h5
      rw [val_be_of_lt hxo.g] at h6
      have : val (List.replicate (128 - 120) 0) = 0 := by decide
      omega
    have ho2 : oldL old = layS old := by unfold oldL; rw [if_neg hog]
    rw [ho2] at hd
    have hxg : x.g = old.g := by
      have h5 := end_lay x
      rw [h3, hd 120 (by omega), end_lay old] at h5
      have h6 := congrArg val h5
      rw [val_be_of_lt ho.g, val_be_of_lt hxo.g] at h6
      exact h6.symm
    have hrest : (layS x).drop 8 = (layS old).drop 8 := by rw [h3, hd 8 (by omega)]
    have ex : x = old := by
      refine layS_inj hxo ho ?_
      have hf : ∀ t : SlT, (layS t).take 8 = be 8 t.g := fun t => by
        unfold layS headL
        rw [List.append_assoc]
        exact List.take_left' (be_length 8 t.g)
      rw [← List.take_append_drop 8 (layS x), ← List.take_append_drop 8 (layS old), hf, hf, hxg, hrest]
    subst ex
    exact ⟨hx, hog, by omega⟩
  · left
    refine ⟨h1, ?_⟩
    by_cases e0 : k = 0
    · right
      refine ⟨e0, ?_⟩
      subst e0
      refine Decidable.byContradiction fun hog => ?_
      have e : tornL s old 0 = layS old := by
        unfold tornL oldL
        rw [if_neg hog]
        simp
      rw [e, takeS_lay ho hog] at h1
      injection h1 with _ h1
      cases h1
    · left
      omega
/-- Two slots, one of which is written anew. -/
theorem commits {s old now : SlT} (hs : s.Ok) (ho : old.Ok) (hn : now.Ok) (h3 : 3 ≤ s.g) (e1 : old.g = s.g - 2) (e2 : now.g = s.g - 1) {k : Nat} (hk : k ≤ 128) :
    (newerS (tornL s old k) (layS now) = (now, 1, 0) ∧ newerS (layS now) (tornL s old k) = (now, 0, 0) ∧ k < 128) ∨ (newerS (tornL s old k) (layS now) = (s, 0, 0) ∧ newerS (layS now) (tornL s old k) = (s, 1, 0)) := by
  have hN : takeS (layS now) = (now, 0) := takeS_lay hn (by omega)
  have hne : s.g % 256 ≠ old.g % 256 := by omega
  rcases torn_take hs ho (by omega) hne hk with h | ⟨h, hk2⟩ | ⟨h, hg, hk2⟩
  · right
    unfold newerS
    rw [h, hN]
    refine ⟨?_, ?_⟩
    · rw [if_neg (by simp), if_neg (by simp; omega)]
    · rw [if_neg (by simp), if_pos (by simp; omega)]
  · left
    unfold newerS
    rw [h, hN]
    refine ⟨?_, ?_, by omega⟩
    · rw [if_neg (by simp), if_pos (by simp)]
    · rw [if_neg (by simp), if_neg (by simp)]
  · left
    unfold newerS
    rw [h, hN]
    refine ⟨?_, ?_, hk2⟩
    · rw [if_neg (by simp), if_pos (by simp; omega)]
    · rw [if_neg (by simp), if_neg (by simp; omega)]
end Go.Proofs.Ytmfbidohmkoeeaa
