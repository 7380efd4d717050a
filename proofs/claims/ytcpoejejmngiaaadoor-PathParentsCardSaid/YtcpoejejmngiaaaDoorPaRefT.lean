/- The reference's paths (cellarageref17): Text, SameTexts. No statement of the seat is proved here. -/
import Derived.Test.YtcpoejejmngiaaaDoorPaRefN
import Derived.BigQuiet
namespace Go.Proofs.YtcpoejejmngiaaaDoor
open Go.RowKit
set_option linter.unusedVariables false
set_option linter.unusedSimpArgs false
set_option maxRecDepth 100000

theorem st_app (a b : List UInt8) : st a ++ st b = st (a ++ b) := by
  apply ByteArray.ext
  simp [st]
theorem joinL_snoc (l : List (List UInt8)) {k : Nat} (h : k < l.length) : joinL (l.take (k + 1)) = joinL (l.take k) ++ [47] ++ l[k] := by
  unfold joinL
  rw [List.take_succ_eq_append_getElem h, List.flatMap_append, List.flatMap_singleton, List.append_assoc]
  rfl
theorem joinL_nil {l : List (List UInt8)} : joinL l = [] ↔ l = [] := by
  cases l with
  | nil => simp [joinL]
  | cons a l => simp [joinL]
theorem joinL_len : ∀ {l : List (List UInt8)}, (∀ x ∈ l, nameL x = true) → (joinL l).length ≤ 101 * l.length
  | [], _ => by simp [joinL]
  | x :: l, h => by
    have h1 := (name_len (h x (by simp))).2
    have h2 := joinL_len (l := l) fun y hy => h y (by simp [hy])
    unfold joinL at h2 ⊢
    rw [List.flatMap_cons, List.length_append, List.length_cons, List.length_cons]
    omega
theorem text_yes {l : List (List UInt8)} (h : l.length ≤ 16) (h2 : ∀ x ∈ l, nameL x = true) : textD l = (if l = [] then [47] else joinL l) ∧ textE l = 0 := by
  have := text_some ⟨h, h2⟩
  simp only [textD, textE, this, Option.getD_some, Option.isSome_some, if_true, and_self]
theorem text_no {l : List (List UInt8)} (h : 16 < l.length ∨ ∃ x ∈ l, nameL x = false) : textD l = [] ∧ textE l = 1 := by
  have : textL l = none := by
    unfold textL
    rw [if_neg]
    rintro ⟨q1, q2⟩
    rcases h with h | ⟨x, hx, hn⟩
    · omega
    · rw [List.all_eq_true.1 q2 x hx] at hn
      cases hn
  simp [textD, textE, this]
set_option maxHeartbeats 4000000 in
theorem rtext_any (A : Option Addr) (ls : List (List UInt8)) (m c : Nat) (hl : ls.length = m) (hsz : ∀ x ∈ ls, x.length ≤ 100000) (w : World) (hr : RdT w w.heap.size A ls) : Calls Tryd.prog 18 #[.slice A m c] w fun e w' => e = .returned (.tuple #[.string (st (textD ls)), .int .i64 (textE ls)]) ∧ Below w.heap.size w w' := by
  obtain ⟨T, hT⟩ : ∃ T, textD ls = T := ⟨_, rfl⟩
  obtain ⟨E, hE⟩ : ∃ E, textE ls = E := ⟨_, rfl⟩
  rw [hT, hE]
  have HY := Lib.hid (fun h h2 => hT ▸ hE ▸ text_yes (l := ls) h h2)
  have HNO := Lib.hid (fun h => hT ▸ hE ▸ text_no (l := ls) h)
  have HL := Lib.hid hl
  have HR := Lib.hid (show ∀ W, Below w.heap.size w W → RdT W w.heap.size A ls from fun W hb => hr.below hb)
  have HZ := Lib.hid hsz
  clear hT hE hl hr hsz
  by_cases h16 : m > 16
  · have h1 : (m : Int) > 16 := by omega
    obtain ⟨q1, q2⟩ := HNO.out (.inl (by rw [HL.out]; exact h16))
    subst q1 q2
    go_enter Tryd.func18, Tryd.ntmps18
    go_wp2_with fail
    go_ret2
    exact ⟨rfl, Below.refl _ _⟩
  have h1 : ¬ (m : Int) > 16 := by omega
  go_enter Tryd.func18, Tryd.ntmps18
  go_wp2_with fail
  go_loopw [4, 5] (fun v i wr => ∃ k : Nat, k ≤ m ∧ i = .int .i64 (k : Nat) ∧ v = .string (st (joinL (ls.take k))) ∧ Hid (∀ x ∈ ls.take k, nameL x = true) ∧ Hid (Below w.heap.size w wr)) (fun _ i _ => m - (intOf i).toNat)
  case atStart => exact ⟨0, Nat.zero_le _, rfl, rfl, Lib.hid (by simp), Lib.hid (Below.refl _ _)⟩
  case round =>
    obtain ⟨k, hk, rfl, rfl, HA, HB⟩ := hrel
    by_cases hlt : k < m
    · have hjp : k < ls.length := by rw [HL.out]; exact hlt
      obtain ⟨g, off, rfl, hg, hcell⟩ := (HR.out _ HB.out).at_ hjp
      have HSN := Lib.hid (joinL_snoc ls hjp)
      have HTK := Lib.hid (List.take_succ_eq_append_getElem hjp)
      have HM := Lib.hid (List.getElem_mem hjp)
      obtain ⟨nm, hnm⟩ : ∃ nm, ls[k] = nm := ⟨_, rfl⟩
      rw [hnm] at hcell HSN HTK HM
      have KN := Lib.hid (fun W => rname_any nm (by have := HZ.out nm HM.out; omega) W)
      obtain ⟨N, hN⟩ : ∃ N, nameL nm = N := ⟨_, rfl⟩
      rw [hN] at KN
      have HN := Lib.hid hN
      have HC := Lib.hid (show ∀ W, Below wr.heap.size wr W → W.cell? ⟨g, off + k, none⟩ = some (.string (st nm)) from fun W hW => by rw [hW.cell (p := ⟨g, off + k, none⟩) (Nat.lt_of_lt_of_le hg HB.out.size)]; exact hcell)
      have hi1 : (0 : Int) ≤ (k : Int) := by omega
      have hi2 : (k : Int) < (m : Int) := by omega
      clear hnm hN hjp hg
      go_wp2_with fail
      refine (KN.out _).mono ?_
      rintro e w3 ⟨rfl, hb⟩
      have hcell := HC.out w3 hb
      have HB3 := Lib.hid (HB.out.trans (hb.mono HB.out.size))
      clear hb KN
      cases N with
      | false =>
        obtain ⟨q1, q2⟩ := HNO.out (.inr ⟨nm, HM.out, HN.out⟩)
        subst q1 q2
        go_wp2_with fail
        go_ret2
        exact ⟨rfl, HB3.out⟩
      | true =>
        obtain ⟨X, hX⟩ : ∃ X, joinL (ls.take k) = X := ⟨_, rfl⟩
        have hx1 : X.length ≤ 10000 := by
          rw [← hX]
          have := joinL_len HA.out
          rw [List.length_take] at this
          omega
        rw [hX] at HSN ⊢
        have hxs : (st X).size = X.length := st_size X
        have hns : (st nm).size = nm.length := st_size nm
        have hxo : (st X ++ { data := #[47] }).size = X.length + 1 := by rw [show st X ++ { data := #[47] } = st (X ++ [47]) from st_app X [47], st_size]; simp
        have hn1 : nm.length ≤ 100000 := HZ.out nm HM.out
        go_wp2_with fail
        go_roundw
        case rel => exact ⟨k + 1, by omega, by go_num, by rw [HSN.out, ← st_app, ← st_app], Lib.hid (fun x hx => by
          rw [HTK.out] at hx
          rcases List.mem_append.1 hx with hx | hx
          · exact HA.out x hx
          · rw [List.mem_singleton.1 hx]; exact HN.out), HB3⟩
        case measure => simp [intOf]; omega
    · obtain rfl : k = m := by omega
      have HE := Lib.hid (show ls.take k = ls from List.take_of_length_le (by rw [HL.out]; exact Nat.le_refl _))
      rw [HE.out] at HA ⊢
      obtain ⟨q1, q2⟩ := HY.out (by rw [HL.out]; omega) HA.out
      subst q2
      by_cases hnil : ls = []
      · have ej : (joinL ls == []) = true := by rw [hnil]; rfl
        rw [if_pos hnil] at q1
        subst q1
        go_wp2_with fail
        go_ret2
        exact ⟨rfl, HB.out⟩
      · have ej : (joinL ls == []) = false := by simpa using fun e => hnil (joinL_nil.1 e)
        rw [if_neg hnil] at q1
        subst q1
        go_wp2_with fail
        go_ret2
        exact ⟨rfl, HB.out⟩
end Go.Proofs.YtcpoejejmngiaaaDoor
