/- PathParents' walk, told from what the package does. No statement of the seat is proved here. -/
import Derived.Test.YtcpoejejmngiaaaDoorPaTwo
import Derived.Great.BuildSlice
namespace Go.Proofs.YtcpoejejmngiaaaDoor
open Go.RowKit
set_option linter.unusedVariables false
set_option linter.unusedSimpArgs false
set_option maxRecDepth 100000

section
variable {G : World → Prop}
set_option maxHeartbeats 8000000 in
theorem parents_walk (K : PathsOk G) (s : List UInt8) (w : World) (hG : G w) :
    Calls Tryd.prog 8 #[.string (st s)] w fun e w' => e = .returned (.bool true) ∧ Below w.heap.size w w' := by
  have KS := Lib.hid (shown_any K w hG)
  obtain ⟨k, hk⟩ : ∃ k, s.length = k := ⟨_, rfl⟩
  have hsz : (st s).size = k := by rw [st_size, hk]
  by_cases hbig : (k : Int) > 10000
  · clear hk
    go_enter Tryd.func8, Tryd.ntmps8
    go_wp2_with fail
    refine KS.out.mono ?_
    rintro e w1 ⟨rfl, hb⟩
    have HB := Lib.hid hb
    clear hb KS
    go_wp2_with fail
    go_ret
    exact ⟨rfl, HB.out⟩
  have hs : s.length ≤ 100000 := by omega
  have K1 := Lib.hid (K.parent s hs)
  have HK := Lib.hid K.keep
  have HG := Lib.hid hG
  cases hp : parseL s with
  | none =>
    rw [parent_none hp] at K1
    have hne : (s == [47]) = false := by
      rw [beq_eq_false_iff_ne]
      intro e
      rw [e, parse_root] at hp
      cases hp
    clear hp hk hs hG
    go_enter Tryd.func8, Tryd.ntmps8
    go_wp2_with fail
    refine KS.out.mono ?_
    rintro e w1 ⟨rfl, hb⟩
    have HB := Lib.hid hb
    clear hb KS
    go_wp2_with fail
    refine (K1.out w1 (HK.out _ _ HG.out HB.out)).mono ?_
    rintro e w2 ⟨rfl, hb⟩
    have HB2 := Lib.hid (HB.out.trans (hb.mono HB.out.size))
    clear hb K1
    go_wp2_with fail
    go_ret
    exact ⟨by simp, HB2.out⟩
  | some l =>
    rcases List.eq_nil_or_concat l with rfl | ⟨l0, nm, rfl⟩
    · rw [parent_root hp] at K1
      have hne : (s == [47]) = true := by
        rcases parse_some hp with ⟨rfl, _⟩ | ⟨t, _, _, e, _⟩
        · rfl
        · exact absurd e.symm (splitL_ne t)
      clear hp hk hs hG
      go_enter Tryd.func8, Tryd.ntmps8
      go_wp2_with fail
      refine KS.out.mono ?_
      rintro e w1 ⟨rfl, hb⟩
      have HB := Lib.hid hb
      clear hb KS
      go_wp2_with fail
      refine (K1.out w1 (HK.out _ _ HG.out HB.out)).mono ?_
      rintro e w2 ⟨rfl, hb⟩
      have HB2 := Lib.hid (HB.out.trans (hb.mono HB.out.size))
      clear hb K1
      go_wp2_with fail
      go_ret
      exact ⟨by simp, HB2.out⟩
    · rw [List.concat_eq_append] at hp
      rw [parent_snoc hp] at K1
      obtain ⟨t, q1, q2, q3, q4, q5, q6, q7⟩ := parent_text hp
      have hT : textD l0 = t := by simp [textD, q1]
      rw [hT] at K1
      have hok := parse_ok hp
      have hu16 : l0.length ≤ 15 := by have := hok.1; rw [List.length_append, List.length_singleton] at this; omega
      have ht : t.length ≤ 100000 := by
        obtain ⟨h1, h2⟩ := text_ok q1
        rw [h2]
        split
        · simp
        · have := joinL_len h1.2
          omega
      have hcd : childD s t = (nm, true) := by unfold childD; rw [q5]
      have hnl := name_len q6
      have KC := Lib.hid (K.child s t hs ht)
      simp only [hcd] at KC
      have KP := Lib.hid (K.parse t ht)
      simp only [(parse_yes q2).1, (parse_yes q2).2] at KP
      have KN := Lib.hid (K.name nm (by omega))
      rw [q6] at KN
      have KW := Lib.hid (K.within s t hs ht)
      rw [q3] at KW
      have KV := Lib.hid (K.within t s ht hs)
      rw [q4] at KV
      have hTT : textD (l0 ++ [nm]) = s ∧ textE (l0 ++ [nm]) = 0 := ⟨by simp [textD, q7], by simp [textE, q7]⟩
      obtain ⟨u, hu⟩ : ∃ u, l0.length = u := ⟨_, rfl⟩
      rw [hu] at hu16
      simp only [hu] at KP
      have hlen : (l0 ++ [nm]).length = u + 1 := by rw [List.length_append, hu]; rfl
      have KT := Lib.hid (fun (A' : Option Addr) (c' : Nat) (h1 : u + 1 ≤ c') (h2 : c' ≤ maxLen) (W : World) => K.text (A := A') (ls := l0 ++ [nm]) (m := u + 1) (c := c') (w := W) hlen h1 h2 (by omega) (fun x hx => by have := (name_len (hok.2 x hx)).2; unfold maxLen; omega))
      simp only [hTT] at KT
      have HU := Lib.hid hu
      have HLE := Lib.hid hlen
      clear hp hk hs hG q1 q2 q3 q4 q5 q6 q7 hT hok ht hcd hnl hTT hu hlen
      go_enter Tryd.func8, Tryd.ntmps8
      go_wp2_with fail
      refine KS.out.mono ?_
      rintro e w1 ⟨rfl, hb⟩
      have HB := Lib.hid hb
      clear hb KS
      go_wp2_with fail
      refine (K1.out w1 (HK.out _ _ HG.out HB.out)).mono ?_
      rintro e w2 ⟨rfl, hb⟩
      have HB2 := Lib.hid (HB.out.trans (hb.mono HB.out.size))
      clear hb K1
      go_wp2_with fail
      refine (KC.out w2 (HK.out _ _ HG.out HB2.out)).mono ?_
      rintro e w3 ⟨rfl, hb⟩
      have HB3 := Lib.hid (HB2.out.trans (hb.mono HB2.out.size))
      clear hb KC
      go_wp2_with fail
      refine (KP.out w3 (HK.out _ _ HG.out HB3.out)).mono ?_
      rintro e w4 ⟨A4, c4, rfl, _, _, hr4, hb⟩
      have HB4 := Lib.hid (HB3.out.trans (hb.mono HB3.out.size))
      clear hb KP
      obtain ⟨w5, hw5⟩ : ∃ W, w4.alloc (.cells #[] 9) = W := ⟨_, rfl⟩
      obtain ⟨b5, hb5⟩ : ∃ b, w4.heap.size = b := ⟨_, rfl⟩
      have hbl : Below w4.heap.size w4 w5 := hw5 ▸ (Below.refl _ _).alloc (Nat.le_refl _) _
      have HO5 := Lib.hid (show OwnG 9 1 tcs w5 b5 (some ⟨b5, 0, none⟩) 0 ([] : List (List UInt8)) from by rw [← hw5, ← hb5]; exact OwnG.empty w4)
      have HR5 := Lib.hid (hr4.on hbl)
      have HB5 := Lib.hid (HB4.out.trans (hbl.mono HB4.out.size))
      have HS5 := Lib.hid (show b5 ≤ w5.heap.size ∧ w.heap.size ≤ b5 from ⟨hb5 ▸ hbl.size, hb5 ▸ HB4.out.size⟩)
      have HW5 := Lib.hid (And.intro hw5 hb5)
      clear hr4 hbl hw5 hb5
      go_wp2_with (first
        | ((with_reducible refine at_buildSlice ?_); refine wpList_plain rfl fun _ hK => wp_buildNil strE rfl (hK _ _ ?_); rw [HW5.out.1, HW5.out.2])
        | (at_builtin; refine wpList_append_g strE rfl (.tmp 54) (.tmp 55) rfl b5 (some ⟨b5, 0, none⟩) 0 0 [] rfl rfl HO5.out _ A4 c4 u l0 rfl HU.out HR5.out (fun _ _ => trivial) ?_ ?_ ?_))
      case _ => omega
      case _ => exact HS5.out.1
      intro A6 c6 w6 ho6 hg6
      have ho6' : OwnG 9 1 tcs w6 b5 A6 c6 l0 := by simpa using ho6
      have hb6 : Below w.heap.size w w6 := HB5.out.grown hg6 HB5.out.size fun r hr => by
        have := (HO5.out.lt (k := r) hr).1
        have := HS5.out.2
        omega
      have hsz6 : b5 ≤ w6.heap.size := Nat.le_trans HS5.out.1 hg6.size
      have hba : Below w6.heap.size w6 (w6.alloc (.cells (tcs nm).toArray 9)) := (Below.refl _ _).alloc (Nat.le_refl _) _
      have HOA := Lib.hid (ho6'.on hba)
      have HBA := Lib.hid (hb6.trans (hba.mono hb6.size))
      have HSA := Lib.hid (Nat.le_trans hsz6 hba.size)
      have HR1 := Lib.hid (rds_one w6 nm 9 1 tcs)
      clear ho6 hg6 ho6' hb6 hsz6 hba
      go_wp2_with (at_builtin; refine wpList_append_g strE rfl (.tmp 56) (.tmp 58) rfl b5 A6 c6 u l0 HU.out rfl HOA.out _ (some ⟨w6.heap.size, 0, none⟩) 1 1 [nm] rfl rfl HR1.out (fun _ _ => trivial) ?_ ?_ ?_)
      case _ => omega
      case _ => exact HSA.out
      intro A7 c7 w7 ho7 hg7
      have HO7 := Lib.hid ho7
      have HB7 := Lib.hid (show Below w.heap.size w w7 from HBA.out.grown hg7 HBA.out.size fun r hr => by
        have := (HOA.out.lt (by rw [HU.out]; exact hr)).1
        have := HS5.out.2
        omega)
      have hcap := ho7.cap
      rw [HLE.out] at hcap
      have KX := Lib.hid (KT.out A7 c7 hcap.1 hcap.2 w7 (HK.out _ _ HG.out HB7.out) (RdT.own ho7))
      clear ho7 hg7 hcap KT HR1 HOA HBA HSA
      go_wp2_with fail
      refine KX.out.mono ?_
      rintro e w8 ⟨rfl, hb⟩
      have HB8 := Lib.hid (HB7.out.trans (hb.mono HB7.out.size))
      clear hb KX
      go_wp2_with fail
      refine (KN.out w8 (HK.out _ _ HG.out HB8.out)).mono ?_
      rintro e w9 ⟨rfl, hb⟩
      have HB9 := Lib.hid (HB8.out.trans (hb.mono HB8.out.size))
      clear hb KN
      go_wp2_with fail
      refine (KW.out w9 (HK.out _ _ HG.out HB9.out)).mono ?_
      rintro e w10 ⟨rfl, hb⟩
      have HB10 := Lib.hid (HB9.out.trans (hb.mono HB9.out.size))
      clear hb KW
      go_wp2_with fail
      refine (KV.out w10 (HK.out _ _ HG.out HB10.out)).mono ?_
      rintro e w11 ⟨rfl, hb⟩
      have HB11 := Lib.hid (HB10.out.trans (hb.mono HB10.out.size))
      clear hb KV
      go_wp2_with fail
      go_ret
      exact ⟨by simp, HB11.out⟩
end
end Go.Proofs.YtcpoejejmngiaaaDoor
