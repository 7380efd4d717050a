/- The document's examples, told from what the package's caches do. No statement of the seat is proved here. -/
import Derived.Test.YtmnjaocdhelebaaCcKit
import Derived.Test.YtmnjaocdhelebaaSameI
import Derived.Deep.DeepCutAuto
namespace Go.Proofs.Ytmnjaocdhelebaa
open Go.RowKit
set_option linter.unusedVariables false
set_option linter.unusedSimpArgs false

def shC (i : Nat) : CS := match i with
  | 0 => ⟨2, []⟩
  | 1 => ⟨2, [(5, [])]⟩
  | 2 => ⟨2, [(5, []), (7, [])]⟩
  | 3 => ⟨2, [(7, []), (9, [])]⟩
  | 4 => ⟨2, [(7, []), (9, [])]⟩
  | _ => ⟨2, [(7, []), (11, [])]⟩
theorem sh_loads : loadC (shC 0) 5 [] 0 = shC 1 ∧ loadC (shC 1) 7 [] 0 = shC 2 ∧ loadC (shC 2) 9 [] 0 = shC 3 ∧ loadC (shC 3) 9 [] 0 = shC 4 ∧ loadC (shC 4) 11 [] 3 = shC 5 := ⟨rfl, rfl, rfl, rfl, rfl⟩
section
variable {Ct : World → Addr → (Nat → Prop) → CS → Prop}
/-- The same further on; its blocks lie ahead of what was made meanwhile. -/
theorem CachesOk.single (K : CachesOk Ct) {w0 w W : World} {s : Addr} {S : CS} (h : Turned Ct w0 s (fun _ => False) w S) (hb : Below w.heap.size w W) :
    ∃ F, (∀ g, F g → g < w.heap.size) ∧ Turned Ct W s F W S ∧ ∀ w' S', Turned Ct W s F w' S' → Turned Ct w0 s (fun _ => False) w' S' := by
  obtain ⟨F, h1, h2, h3⟩ := h
  have hF := K.lt h1
  have h1' := K.keep h1 fun g hg => hb.block g (hF g hg)
  have h3' : Only (fun _ => False) w0 W := h3.trans (Only.of_below (F := F) hb) fun g hg => by
    rcases h2 g hg with h | h
    · exact .inl h
    · exact .inr h
  exact ⟨F, hF, Turned.refl h1', fun w' S' ht => Turned.step h2 h3' ht⟩
theorem CachesOk.bare (K : CachesOk Ct) {w0 w : World} {s : Addr} {S : CS} {N : Nat → Prop} (h : Turned Ct w0 s N w S) (sh : Int) (hs : In64 sh) (d : Nat) (hd : d < 18446744073709551616) :
    Calls Try.prog 13 #[.pointer (some s), .int .i64 sh, .slice none 0 0, .int .u64 d] w fun e w' => e = .returned (.tuple #[]) ∧ Turned Ct w0 s N w' (loadC S sh [] d) :=
  K.load' h sh hs none [] 0 0 d hd rfl (Nat.le_refl _) (by simp [maxLen]) (by decide) (RdRw.nil _ _ _) (fun ad e h0 => absurd h0 (Nat.lt_irrefl _))
theorem ints_new (w : World) (l : List Int) : RdV (w.alloc (.cells (iv l).toArray 3)) (w.alloc (.cells (iv l).toArray 3)).heap.size (some ⟨w.heap.size, 0, none⟩) (iv l) := fun _ => by
  refine ⟨w.heap.size, 0, rfl, by simp, fun j hj => ?_⟩
  rw [(Blk.new w 3 (iv l).toArray).cell, Nat.zero_add, List.getElem?_toArray, List.getElem?_eq_getElem hj]
set_option maxRecDepth 100000 in
set_option maxHeartbeats 4000000 in
theorem shown_any (K : CachesOk Ct) (w : World) : Calls Try.prog 8 #[] w fun e w' => e = .returned (.bool true) ∧ Below w.heap.size w w' := by
  have KN := Lib.hid (K.new' (Below.refl w.heap.size w) 2 (by decide))
  go_enter Try.func8, Try.ntmps8
  go_wp2_with fail
  refine KN.out.mono ?_
  rintro e w1 ⟨s, rfl, h1⟩
  obtain ⟨F, hF, ht, back⟩ := K.single h1 ((Below.refl w1.heap.size w1).alloc (Nat.le_refl _) (.cells #[.int .i64 5, .int .i64 7, .int .i64 9, .int .i64 9] 3))
  have hB := Blk.new w1 3 #[.int .i64 5, .int .i64 7, .int .i64 9, .int .i64 9]
  obtain ⟨bl, hbl⟩ : ∃ bl, w1.heap.size = bl := ⟨_, rfl⟩
  obtain ⟨w2, hw2⟩ : ∃ w2, w1.alloc (.cells #[.int .i64 5, .int .i64 7, .int .i64 9, .int .i64 9] 3) = w2 := ⟨_, rfl⟩
  rw [hw2] at ht
  rw [hw2, hbl] at hB
  have HB := Lib.hid (show ∀ W, Only F w2 W → Blk W bl 3 #[.int .i64 5, .int .i64 7, .int .i64 9, .int .i64 9] from fun W hW => (hW.block bl hB.lt fun hf => by have := hF _ hf; omega).trans hB)
  rw [hw2] at back
  have BACK := Lib.hid back
  have H2 := Lib.hid (show Turned Ct w2 s F w2 (shC 0) from ht)
  have HW := Lib.hid (And.intro hw2 hbl)
  clear h1 hF ht hB hw2 hbl back KN
  go_upto_region 4 with fail
  go_wp2_with fail
  rw [HW.out.1, HW.out.2]
  go_loopw [18] (fun i wr => ∃ j : Nat, j ≤ 4 ∧ i = .int .i64 j ∧ Hid (Turned Ct w2 s F wr (shC j))) (fun i _ => 4 - (intOf i).toNat)
  case atStart => exact ⟨0, by omega, rfl, H2⟩
  case round =>
    clear H2
    obtain ⟨j, hj, rfl, hst⟩ := hrel
    have hbk := HB.out wr hst.out.only
    have hj4 : j = 0 ∨ j = 1 ∨ j = 2 ∨ j = 3 ∨ j = 4 := by omega
    rcases hj4 with rfl | rfl | rfl | rfl | rfl
    · have hc := hbk.cell 0
      have KL := Lib.hid (K.bare hst.out 5 (in64_lit (by omega) (by omega)) 0 (by omega))
      clear hbk hst
      go_wp2_with fail
      refine KL.out.mono ?_
      rintro e w3 ⟨rfl, h3⟩
      have H3 := Lib.hid h3
      clear h3 hc
      go_wp2_with fail
      go_roundw
      case rel => exact ⟨1, by omega, rfl, H3⟩
      case measure => simp [intOf]
    · have hc := hbk.cell 1
      have KL := Lib.hid (K.bare hst.out 7 (in64_lit (by omega) (by omega)) 0 (by omega))
      clear hbk hst
      go_wp2_with fail
      refine KL.out.mono ?_
      rintro e w3 ⟨rfl, h3⟩
      have H3 := Lib.hid h3
      clear h3 hc
      go_wp2_with fail
      go_roundw
      case rel => exact ⟨2, by omega, rfl, H3⟩
      case measure => simp [intOf]
    · have hc := hbk.cell 2
      have KL := Lib.hid (K.bare hst.out 9 (in64_lit (by omega) (by omega)) 0 (by omega))
      clear hbk hst
      go_wp2_with fail
      refine KL.out.mono ?_
      rintro e w3 ⟨rfl, h3⟩
      have H3 := Lib.hid h3
      clear h3 hc
      go_wp2_with fail
      go_roundw
      case rel => exact ⟨3, by omega, rfl, H3⟩
      case measure => simp [intOf]
    · have hc := hbk.cell 3
      have KL := Lib.hid (K.bare hst.out 9 (in64_lit (by omega) (by omega)) 0 (by omega))
      clear hbk hst
      go_wp2_with fail
      refine KL.out.mono ?_
      rintro e w3 ⟨rfl, h3⟩
      have H3 := Lib.hid h3
      clear h3 hc
      go_wp2_with fail
      go_roundw
      case rel => exact ⟨4, by omega, rfl, H3⟩
      case measure => simp [intOf]
    · have h4 := BACK.out _ _ hst.out
      have KS := Lib.hid (K.shelves' h4)
      have H4 := Lib.hid h4
      clear hbk hst h4
      go_wp2_with fail
      refine KS.out.mono ?_
      rintro e w4 ⟨A4, c4, rfl, ho4, hb4⟩
      have hr4 := ho4.rdv
      have ha4 := fun ad e => (ho4.adr ad e).1
      obtain ⟨F2, hF2, ht2, back2⟩ := K.single H4.out hb4
      have KL := Lib.hid (K.bare ht2 11 (in64_lit (by omega) (by omega)) 3 (by omega))
      have HR4 := Lib.hid (show ∀ W, Only F2 w4 W → RdV W W.heap.size A4 (iv [7, 9]) from fun W hW => (rdv_only hW (show RdV w4 w4.heap.size A4 (iv [7, 9]) from hr4) (fun ad e h0 hf => by have := ha4 ad e; have := hF2 _ hf; omega)).more hW.size)
      have BACK2 := Lib.hid back2
      have hl4 : (shelvesC (shC 4)).length = 2 := rfl
      rw [hl4]
      clear ho4 hr4 ha4 hb4 ht2 hF2 back2 KS H4
      go_wp2_with fail
      refine KL.out.mono ?_
      rintro e w5 ⟨rfl, h5⟩
      have HR5 := Lib.hid (HR4.out _ h5.only)
      have H5 := Lib.hid (BACK2.out _ _ h5)
      clear h5 KL
      have hb6 : Below w5.heap.size w5 (w5.alloc (.cells #[.int .i64 7, .int .i64 9] 3)) := (Below.refl _ _).alloc (Nat.le_refl _) _
      have HB6 := Lib.hid hb6
      have HSM := Lib.hid (same_any A4 2 c4 [7, 9] (some ⟨w5.heap.size, 0, none⟩) 2 2 [7, 9] rfl rfl (by decide) (by decide) (w5.alloc (.cells #[.int .i64 7, .int .i64 9] 3)) ((HR5.out.below hb6).more hb6.size) (ints_new w5 [7, 9]))
      rw [decide_eq_true rfl] at HSM
      clear hb6
      go_wp2_with fail
      refine HSM.out.mono ?_
      rintro e w7 ⟨rfl, hb7⟩
      have HX := Lib.hid (K.on H5.out (HB6.out.trans (hb7.mono HB6.out.size)))
      have KS2 := Lib.hid (K.shelves' HX.out)
      clear hb7 HSM
      go_wp2_with fail
      refine KS2.out.mono ?_
      rintro e w8 ⟨A8, c8, rfl, ho8, hb8⟩
      have hr8 := ho8.rdv
      have hl8 : (shelvesC (loadC (shC 4) 11 [] 3)).length = 2 := rfl
      rw [hl8]
      have hr8' : RdV w8 w8.heap.size A8 (iv [7, 11]) := hr8
      have hb9 : Below w8.heap.size w8 (w8.alloc (.cells #[.int .i64 7, .int .i64 11] 3)) := (Below.refl _ _).alloc (Nat.le_refl _) _
      have HSM2 := Lib.hid (same_any A8 2 c8 [7, 11] (some ⟨w8.heap.size, 0, none⟩) 2 2 [7, 11] rfl rfl (by decide) (by decide) (w8.alloc (.cells #[.int .i64 7, .int .i64 11] 3)) ((hr8'.below hb9).more hb9.size) (ints_new w8 [7, 11]))
      rw [decide_eq_true rfl] at HSM2
      have HE := Lib.hid (HX.out.bel.trans ((hb8.trans (hb9.mono hb8.size)).mono HX.out.bel.size))
      clear ho8 hr8 hr8' hb8 hb9 KS2
      go_wp2_with fail
      refine HSM2.out.mono ?_
      rintro e w10 ⟨rfl, hb10⟩
      have HE2 := Lib.hid (HE.out.trans (hb10.mono HE.out.size))
      clear hb10
      go_wp2_with fail
      go_ret
      exact ⟨rfl, HE2.out⟩
end
end Go.Proofs.Ytmnjaocdhelebaa
