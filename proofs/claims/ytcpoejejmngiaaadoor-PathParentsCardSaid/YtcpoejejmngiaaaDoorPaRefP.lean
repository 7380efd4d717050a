/- The reference's paths (cellarageref17): Parse. No statement of the seat is proved here. -/
import Derived.Test.YtcpoejejmngiaaaDoorPaRefN
import Derived.Great.BuildSlice
namespace Go.Proofs.YtcpoejejmngiaaaDoor
open Go.RowKit
set_option linter.unusedVariables false
set_option linter.unusedSimpArgs false
set_option maxRecDepth 100000

set_option maxHeartbeats 8000000 in
theorem rparse_any (s : List UInt8) (hs : s.length ≤ 100000) (w : World) : Calls Tryd.prog 11 #[.string (st s)] w fun e w' => ∃ A c, e = .returned (.tuple #[.slice A (parseD s).length c, .int .i64 (parseE s)]) ∧ OwnG 9 1 tcs w' w.heap.size A c (parseD s) ∧ Below w.heap.size w w' := by
  obtain ⟨n, hn⟩ : ∃ n, s.length = n := ⟨_, rfl⟩
  obtain ⟨L, hL⟩ : ∃ L, parseD s = L := ⟨_, rfl⟩
  obtain ⟨E, hE⟩ : ∃ E, parseE s = E := ⟨_, rfl⟩
  rw [hL, hE]
  have HNO := Lib.hid (show parseL s = none → L = [] ∧ E = 170 from fun h => by rw [← hL, ← hE]; exact parse_no h)
  have HYE := Lib.hid (show ∀ l, parseL s = some l → L = l ∧ E = 0 from fun l h => by rw [← hL, ← hE]; exact parse_yes h)
  have hsz : (st s).size = n := by rw [st_size, hn]
  have HL := Lib.hid hn
  clear hL hE hn
  rw [HL.out] at hs
  by_cases d0 : s = [47]
  · have e0 : (s == [47]) = true := by simpa using d0
    obtain ⟨q1, q2⟩ := HYE.out [] (by rw [d0]; exact parse_root)
    subst q1 q2
    go_enter Tryd.func11, Tryd.ntmps11
    go_wp2_with fail
    go_ret2
    exact ⟨none, 0, rfl, OwnG.nil _ _, Below.refl _ _⟩
  have e0 : (s == [47]) = false := by simpa using d0
  by_cases d1 : s = []
  · have e1 : (s == []) = true := by simpa using d1
    obtain ⟨q1, q2⟩ := HNO.out (parse_other fun t e => by rw [d1] at e; cases e)
    subst q1 q2
    go_enter Tryd.func11, Tryd.ntmps11
    go_wp2_with fail
    go_ret2
    exact ⟨none, 0, rfl, OwnG.nil _ _, Below.refl _ _⟩
  have e1 : (s == []) = false := by simpa using d1
  have hn1 : 1 ≤ n := by rw [← HL.out]; exact List.length_pos_iff.2 d1
  obtain ⟨c0, hc0⟩ : ∃ c0, s[0]'(by rw [HL.out]; omega) = c0 := ⟨_, rfl⟩
  have hi0 : ∀ h : 0 < (st s).size, (st s)[0]'h = c0 := fun h => by rw [← hc0]; rfl
  have HC0 := Lib.hid hc0
  have hp0 : (0 : Int) < (n : Int) := by omega
  by_cases d2 : c0 = 47
  · have e2 : ((c0.toNat : Int) != 47) = false := by rw [d2]; rfl
    have HT := Lib.hid (show ∃ t, s = 47 :: t ∧ t ≠ [] from by
      obtain ⟨x, t, rfl⟩ := List.exists_cons_of_ne_nil d1
      have := HC0.out
      simp only [List.getElem_cons_zero] at this
      rw [this, d2]
      exact ⟨t, rfl, fun e => d0 (by rw [this, d2, e])⟩)
    clear d0 d1 d2 hc0
    go_enter Tryd.func11, Tryd.ntmps11
    go_wp2_with fail
    go_loopw [4, 5, 6] (fun v f i wr => ∃ (k fr m : Nat) (Y : Option Addr) (z : Nat) (ls : List (List UInt8)), i = .int .i64 (k : Nat) ∧ f = .int .i64 (fr : Nat) ∧ v = .slice Y m z ∧ k ≤ n + 1 ∧ m ≤ 16 ∧ Hid (ls.length = m) ∧ Hid (OwnG 9 1 tcs wr w.heap.size Y z ls) ∧ Hid (PInv s k fr ls) ∧ Hid (Below w.heap.size w wr)) (fun _ _ i _ => n + 1 - (intOf i).toNat)
    case atStart => exact ⟨1, 1, 0, none, 0, [], rfl, rfl, rfl, by omega, by omega, Lib.hid rfl, Lib.hid (OwnG.nil _ _), Lib.hid (PInv.start (by rw [HL.out]; exact hn1)), Lib.hid (Below.refl _ _)⟩
    case round =>
      obtain ⟨k, fr, m, Y, z, ls, rfl, rfl, rfl, hk, hm, HM, HO, HP, HB⟩ := hrel
      by_cases hle : k ≤ n
      · have hle2 : (k : Int) ≤ (n : Int) := by omega
        have hk0 : (0 : Int) ≤ (k : Int) := by omega
        have MAIN : ∀ (hc : ∀ h : k < s.length, s[k] = 47), Hid (fr ≤ k ∧ (nameL ((s.drop fr).take (k - fr)) = true → m ≠ 16 → PInv s (k + 1) (k + 1) (ls ++ [(s.drop fr).take (k - fr)])) ∧ ((nameL ((s.drop fr).take (k - fr)) = false ∨ m = 16) → L = [] ∧ E = 170)) := fun hc => Lib.hid ⟨(HP.out.cut (by rw [HL.out]; exact hle) hc).1, fun h1 h2 => HP.out.next (by rw [HL.out]; exact hle) hc h1 (by rw [HM.out]; exact h2), fun h => HNO.out (HP.out.bad HT.out (by rw [HL.out]; exact hle) hc (by rw [HM.out]; exact h))⟩
        have HMA := Lib.hid MAIN
        clear MAIN
        by_cases hlt : k < n
        · have hlt2 : (k : Int) < (n : Int) := by omega
          obtain ⟨c, hc⟩ : ∃ c, s[k]'(by rw [HL.out]; exact hlt) = c := ⟨_, rfl⟩
          have hck : ∀ h : k < (st s).size, (st s)[k]'h = c := fun h => by rw [← hc]; rfl
          by_cases c47 : c = 47
          · have e4 : ((c.toNat : Int) != 47) = false := by rw [c47]; rfl
            have HMB := HMA.out (fun h => by rw [hc, c47])
            clear HMA hc c47
            have hfr := HMB.out.1
            have hf0 : (0 : Int) ≤ (fr : Int) := by omega
            have hf1 : (fr : Int) ≤ (k : Int) := by omega
            obtain ⟨nm, hnm⟩ : ∃ nm, (s.drop fr).take (k - fr) = nm := ⟨_, rfl⟩
            have hxe : (st s).extract fr k = st nm := by rw [st_extract, hnm]
            rw [hnm] at HMB
            have KN := Lib.hid (rname_any nm (by rw [← hnm, List.length_take, List.length_drop, HL.out]; omega) wr)
            obtain ⟨N, hN⟩ : ∃ N, nameL nm = N := ⟨_, rfl⟩
            rw [hN] at KN HMB
            clear hnm hN hfr
            cases N with
            | false =>
              obtain ⟨q1, q2⟩ := HMB.out.2.2 (.inl rfl)
              subst q1 q2
              go_wp2_with fail
              refine KN.out.mono ?_
              rintro e w3 ⟨rfl, hb⟩
              have HB3 := Lib.hid (HB.out.trans (hb.mono HB.out.size))
              clear hb KN
              go_wp2_with fail
              go_ret2
              exact ⟨none, 0, rfl, OwnG.nil _ _, HB3.out⟩
            | true =>
              by_cases hm16 : m = 16
              · obtain ⟨q1, q2⟩ := HMB.out.2.2 (.inr hm16)
                subst q1 q2
                subst hm16
                go_wp2_with fail
                refine KN.out.mono ?_
                rintro e w3 ⟨rfl, hb⟩
                have HB3 := Lib.hid (HB.out.trans (hb.mono HB.out.size))
                clear hb KN
                go_wp2_with fail
                go_ret2
                exact ⟨none, 0, rfl, OwnG.nil _ _, HB3.out⟩
              · have hmb : ((m : Int) == 16) = false := by simp; omega
                have HPN := Lib.hid (HMB.out.2.1 rfl hm16)
                go_wp2_with fail
                refine KN.out.mono ?_
                rintro e w3 ⟨rfl, hb⟩
                have HB3 := Lib.hid (HB.out.trans (hb.mono HB.out.size))
                have HO3 := Lib.hid (HO.out.on hb)
                clear hb KN HMB
                have hba : Below w3.heap.size w3 (w3.alloc (.cells (tcs nm).toArray 9)) := (Below.refl _ _).alloc (Nat.le_refl _) _
                have HBA := Lib.hid (HB3.out.trans (hba.mono HB3.out.size))
                have HOA := Lib.hid (HO3.out.on hba)
                have HR1 := Lib.hid (rds_one w3 nm 9 1 tcs)
                clear hba
                go_wp2_with (first
                  | ((with_reducible refine at_buildSlice ?_); refine wpList_buildOneS ?_)
                  | (at_builtin; refine wpList_append_g strE rfl (.tmp 43) (.tmp 48) rfl w.heap.size Y z m ls HM.out rfl HOA.out _ (some ⟨w3.heap.size, 0, none⟩) 1 1 [nm] rfl rfl HR1.out (fun _ _ => trivial) ?_ ?_ ?_))
                case _ => omega
                case _ => exact HBA.out.size
                intro A9 c9 w9 ho9 hg9
                have HO9 := Lib.hid ho9
                have HB9 := Lib.hid (show Below w.heap.size w w9 from HBA.out.grown hg9 HBA.out.size fun r hr => (HOA.out.lt (by rw [HM.out]; exact hr)).1)
                clear ho9 hg9 HR1
                go_wp2_with fail
                go_roundw
                case rel => exact ⟨k + 1, k + 1, m + 1, A9, c9, ls ++ [nm], by go_num, by go_num, rfl, by omega, by omega, Lib.hid (by rw [List.length_append, HM.out]; rfl), HO9, HPN, HB9⟩
                case measure => simp [intOf]; omega
          · have e4 : ((c.toNat : Int) != 47) = true := by
              have h1 : c.toNat ≠ 47 := fun e => c47 (UInt8.toNat_inj.1 e)
              simp
              omega
            have HP2 := Lib.hid (HP.out.on (by rw [HL.out]; exact hlt) (by rw [hc]; exact c47))
            clear HMA hc c47
            go_wp2_with fail
            go_roundw
            case rel => exact ⟨k + 1, fr, m, Y, z, ls, by go_num, rfl, rfl, by omega, hm, HM, HO, HP2, HB⟩
            case measure => simp [intOf]; omega
        · have hlt2 : ¬ (k : Int) < (n : Int) := by omega
          have HMB := HMA.out (fun h => absurd h (by rw [HL.out]; exact hlt))
          clear HMA
          have hfr := HMB.out.1
          have hf0 : (0 : Int) ≤ (fr : Int) := by omega
          have hf1 : (fr : Int) ≤ (k : Int) := by omega
          obtain ⟨nm, hnm⟩ : ∃ nm, (s.drop fr).take (k - fr) = nm := ⟨_, rfl⟩
          have hxe : (st s).extract fr k = st nm := by rw [st_extract, hnm]
          rw [hnm] at HMB
          have KN := Lib.hid (rname_any nm (by rw [← hnm, List.length_take, List.length_drop, HL.out]; omega) wr)
          obtain ⟨N, hN⟩ : ∃ N, nameL nm = N := ⟨_, rfl⟩
          rw [hN] at KN HMB
          clear hnm hN hfr
          cases N with
          | false =>
            obtain ⟨q1, q2⟩ := HMB.out.2.2 (.inl rfl)
            subst q1 q2
            go_wp2_with fail
            refine KN.out.mono ?_
            rintro e w3 ⟨rfl, hb⟩
            have HB3 := Lib.hid (HB.out.trans (hb.mono HB.out.size))
            clear hb KN
            go_wp2_with fail
            go_ret2
            exact ⟨none, 0, rfl, OwnG.nil _ _, HB3.out⟩
          | true =>
            by_cases hm16 : m = 16
            · obtain ⟨q1, q2⟩ := HMB.out.2.2 (.inr hm16)
              subst q1 q2
              subst hm16
              go_wp2_with fail
              refine KN.out.mono ?_
              rintro e w3 ⟨rfl, hb⟩
              have HB3 := Lib.hid (HB.out.trans (hb.mono HB.out.size))
              clear hb KN
              go_wp2_with fail
              go_ret2
              exact ⟨none, 0, rfl, OwnG.nil _ _, HB3.out⟩
            · have hmb : ((m : Int) == 16) = false := by simp; omega
              have HPN := Lib.hid (HMB.out.2.1 rfl hm16)
              go_wp2_with fail
              refine KN.out.mono ?_
              rintro e w3 ⟨rfl, hb⟩
              have HB3 := Lib.hid (HB.out.trans (hb.mono HB.out.size))
              have HO3 := Lib.hid (HO.out.on hb)
              clear hb KN HMB
              have hba : Below w3.heap.size w3 (w3.alloc (.cells (tcs nm).toArray 9)) := (Below.refl _ _).alloc (Nat.le_refl _) _
              have HBA := Lib.hid (HB3.out.trans (hba.mono HB3.out.size))
              have HOA := Lib.hid (HO3.out.on hba)
              have HR1 := Lib.hid (rds_one w3 nm 9 1 tcs)
              clear hba
              go_wp2_with (first
                | ((with_reducible refine at_buildSlice ?_); refine wpList_buildOneS ?_)
                | (at_builtin; refine wpList_append_g strE rfl (.tmp 43) (.tmp 48) rfl w.heap.size Y z m ls HM.out rfl HOA.out _ (some ⟨w3.heap.size, 0, none⟩) 1 1 [nm] rfl rfl HR1.out (fun _ _ => trivial) ?_ ?_ ?_))
              case _ => omega
              case _ => exact HBA.out.size
              intro A9 c9 w9 ho9 hg9
              have HO9 := Lib.hid ho9
              have HB9 := Lib.hid (show Below w.heap.size w w9 from HBA.out.grown hg9 HBA.out.size fun r hr => (HOA.out.lt (by rw [HM.out]; exact hr)).1)
              clear ho9 hg9 HR1
              go_wp2_with fail
              go_roundw
              case rel => exact ⟨k + 1, k + 1, m + 1, A9, c9, ls ++ [nm], by go_num, by go_num, rfl, by omega, by omega, Lib.hid (by rw [List.length_append, HM.out]; rfl), HO9, HPN, HB9⟩
              case measure => simp [intOf]; omega
      · obtain rfl : k = n + 1 := by omega
        have hle2 : ¬ ((n + 1 : Nat) : Int) ≤ (n : Int) := by omega
        obtain ⟨q1, q2⟩ := HYE.out ls (by
          have := HP.out
          rw [← HL.out] at this
          exact this.done HT.out)
        subst q1 q2
        go_wp2_with fail
        go_ret2
        exact ⟨Y, z, by rw [HM.out]; rfl, HO.out, HB.out⟩
  · have e2 : ((c0.toNat : Int) != 47) = true := by
      have h1 : c0.toNat ≠ 47 := fun e => d2 (UInt8.toNat_inj.1 e)
      simp
      omega
    obtain ⟨q1, q2⟩ := HNO.out (parse_other fun t e => by
      have := HC0.out
      subst e
      exact d2 this.symm)
    subst q1 q2
    clear hc0
    go_enter Tryd.func11, Tryd.ntmps11
    go_wp2_with fail
    go_ret2
    exact ⟨none, 0, rfl, OwnG.nil _ _, Below.refl _ _⟩
end Go.Proofs.YtcpoejejmngiaaaDoor
