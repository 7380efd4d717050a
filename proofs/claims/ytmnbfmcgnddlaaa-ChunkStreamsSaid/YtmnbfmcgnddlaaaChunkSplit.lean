/- The contracts of bytes.Clone and split. No statement of the seat is proved here. -/
import Derived.Test.YtmnbfmcgnddlaaaChunkCut
import Derived.Test.YtmnbfmcgnddlaaaParts
import Derived.Lib.SliceRun
namespace Go.Proofs.Ytmnbfmcgnddlaaa
open Go.RowKit

set_option maxHeartbeats 1000000 in
theorem clone_any (A : Option Addr) (l : List UInt8) (n c : Nat) (hl : l.length = n) (hn : n ≤ 1000000000) (w : World) (hr : Rd w w.heap.size A l) :
    Calls Try.prog 29 #[.slice A n c] w fun e w' => ∃ A' c', e = .returned (.slice A' n c') ∧ w'.ownsRow w.heap.size 5 1 (.slice A' n c') n (bv l) ∧ Below w.heap.size w w' := by
  have qT : ∀ (w : World) (a : Option Addr) (n c n' c' : Nat), (binOp .eql 25 (.slice a n c) (.slice none n' c')).run Try.prog w = .ok (.bool a.isNone) w := fun w a n c n' c' => Lib.run_eql_slice_nil w _ _ a n c n' c' Try.underlying25
  rcases A with _ | ad
  · have hl0 : l = [] := by
      rcases Nat.eq_zero_or_pos l.length with h0 | h0
      · exact List.eq_nil_of_length_eq_zero h0
      · obtain ⟨_, _, e, _⟩ := hr h0; cases e
    subst hl0
    subst hl
    go_enter Try.func29, Try.ntmps29
    go_wp2
    go_ret
    exact ⟨_, _, rfl, World.ownsRow_nil _ _ _ _, Below.refl _ _⟩
  · obtain ⟨i0, hi, hz0, hz1, hz2⟩ := info_parts info_byte
    have hown : (w.alloc (.cells #[] 5)).ownsRow w.heap.size 5 1 (.slice (some ⟨w.heap.size, 0, none⟩) 0 0) 0 [] := World.ownsRow_lit w #[] 0 (Nat.le_refl _) (by simp [maxLen]) rfl
    have hb := (Below.refl w.heap.size w).alloc (Nat.le_refl _) (.cells #[] 5)
    go_enter Try.func29, Try.ntmps29
    go_wp2_with (at_builtin; refine wpList_append_more _ rfl (.tmp 5) (.tmp 6) 25 rfl w.heap.size 5 i0 Try.underlying25 hi hz0 hz1 hz2 _ 0 [] rfl hown w.heap.size (some ad) c n l rfl hl (hr.below hb) (by omega) hb.size ?_)
    intro A' c' w' ho hg
    have hb2 : Below w.heap.size w w' := hb.grown hg hb.size (fun g hg => (hown.lt g hg).1)
    clear hg hown hb
    go_wp2
    go_ret
    exact ⟨_, _, rfl, ho, hb2⟩

/-- The chunks that end within b, each in memory of its own, and what is left of it. -/
structure Split (C : Ctr) (l : List UInt8) (A : Option Addr) (c : Nat) (B B' : Nat) (w' : World) (V : Value) (A' : Option Addr) (k' c' : Nat) : Prop where
  out : ∃ ps, Chunks w' B V ps ∧ psb ps = chunksB C l
  left : (leftB C l).length = k'
  rd : Rd w' B' A' (leftB C l)
  le : k' ≤ c'
  max : c' ≤ 9223372036854775807
  same : chunksB C l = [] → A' = A ∧ c' = c
set_option maxHeartbeats 2000000 in
theorem split_ok (C : Ctr) (K : C.Ok) (A : Option Addr) (l : List UInt8) (n c : Nat) (hl : l.length = n) (hn : n ≤ 1000000000) (hc : n ≤ c) (hm : c ≤ 9223372036854775807) (w : World) (hr : Rd w w.heap.size A l) :
    Calls Try.prog 28 #[ctr C.mn C.mx C.ma.toNat C.ba.toNat, .slice A n c] w fun e w' => ∃ V A' k' c', e = .returned (.tuple #[V, .slice A' k' c']) ∧ Split C l A c w.heap.size w.heap.size w' V A' k' c' ∧ Below w.heap.size w w' := by
  obtain ⟨i0, hi, hz0, hz1, hz2⟩ := info_parts info_bytes
  obtain ⟨g, hg⟩ : ∃ g, g = w.heap.size := ⟨_, rfl⟩
  have hb1 := (Below.refl w.heap.size w).alloc (Nat.le_refl _) (.cells #[.int .i64 C.mn, .int .i64 C.mx, .int .u32 C.ma.toNat, .int .u32 C.ba.toNat] 24)
  have hB1 := blk_at w 24 #[.int .i64 C.mn, .int .i64 C.mx, .int .u32 C.ma.toNat, .int .u32 C.ba.toNat] hg
  have HL := Lib.hid hl
  have HK := Lib.hid K
  have HG := Lib.hid hg
  clear hl K
  go_enter Try.func28, Try.ntmps28
  go_wp2_with fail
  rw [← hg]
  generalize w.alloc (.cells #[.int .i64 C.mn, .int .i64 C.mx, .int .u32 C.ma.toNat, .int .u32 C.ba.toNat] 24) = w1 at *
  have hr1 : Rd w1 w.heap.size A l := hr.below hb1
  have hgl := hB1.lt
  with_reducible refine (cut_ok C HK.out A l n c HL.out hc hm w1 (hr1.more hb1.size)).mono ?_
  rintro e w2 ⟨rfl, hb2⟩
  have HB1 := Lib.hid hB1
  have Hb1 := Lib.hid hb1
  have HR1 := Lib.hid hr1
  clear hb1 hr1 hB1 hr hg
  go_wp2_with fail
  go_loopw [1, 4, 6] (fun b v i wr => ∃ (l' : List UInt8) (A' : Option Addr) (k' c' : Nat) (ps : List Part), b = .slice A' k' c' ∧ l'.length = k' ∧ ps.length + k' ≤ n ∧ Rd w1 w.heap.size A' l' ∧ k' ≤ c' ∧ c' ≤ 9223372036854775807 ∧
      Chunks wr w1.heap.size v ps ∧ chunksB C l = psb ps ++ chunksB C l' ∧ leftB C l = leftB C l' ∧ (ps = [] → A' = A ∧ c' = c) ∧ i = .int .i64 (cutB C l') ∧ Below w1.heap.size w1 wr)
    (fun b _ _ _ => lenV b)
  case atStart => exact ⟨l, A, n, c, [], rfl, HL.out, by simp, HR1.out, hc, hm, Chunks.nil _ _, rfl, rfl, fun _ => ⟨rfl, rfl⟩, rfl, hb2⟩
  case round =>
    obtain ⟨l', A', k', c', ps, rfl, hl', hpk, hr', hc', hm', hch, hcs, hlf, hsm, rfl, hbr⟩ := hrel
    obtain ⟨V, hV⟩ : ∃ V, V = u4 := ⟨_, rfl⟩
    rw [← hV] at hch ⊢
    obtain ⟨X, hX⟩ : ∃ X, X = cutB C l' := ⟨_, rfl⟩
    rw [← hX]
    clear hb2
    have hbw : Below w.heap.size w wr := Hb1.out.trans (hbr.mono Hb1.out.size)
    by_cases h0 : X = 0
    · have hs := ends_stop (C := C) (l := l') (by rw [← hX]; exact h0)
      have H := Lib.hid (show Split C l A c w.heap.size w.heap.size wr V A' k' c' from
        ⟨⟨ps, hch.base Hb1.out.size, by rw [hcs, hs.1, List.append_nil]⟩, by rw [hlf, hs.2]; exact hl', by rw [hlf, hs.2]; exact hr'.below (hbr.mono Hb1.out.size), hc', hm', fun h => hsm (by
          rw [hcs] at h
          have := (List.append_eq_nil_iff.1 h).1
          simpa using this)⟩)
      clear hs hcs hlf hsm hch hX hr' hV
      subst h0
      go_wp2
      go_ret2
      exact ⟨_, _, _, _, rfl, H.out, hbw⟩
    · have hmore := ends_more HK.out (l := l') (by rw [← hX]; exact h0)
      rw [← hX] at hmore
      have hcc := cut_cases HK.out l'
      rw [← hX, hl'] at hcc
      have hXk : X ≤ k' := by omega
      have hX16 : 16 ≤ X := by have := HK.out.lo; omega
      have hXc : (X : Int) ≤ (c' : Int) := by omega
      have hXp : (0 : Int) < (X : Int) := by omega
      have hrt := Lib.hid (show Rd wr wr.heap.size A' (l'.take X) from ((hr'.below (hbr.mono Hb1.out.size)).take X).more hbw.size)
      have hlt := Lib.hid (show (l'.take X).length = X by rw [List.length_take, hl']; omega)
      have hld := Lib.hid (show (l'.drop X).length = k' - X by rw [List.length_drop, hl'])
      have hlc := Lib.hid (show l'.length ≤ c' by omega)
      have hrd := Lib.hid (show Rd w1 w.heap.size (if c' = X then A' else A'.map (·.add X)) (l'.drop X) from hr'.drop hlc.out)
      have HX := Lib.hid hX
      have HM := Lib.hid hmore
      have HS := Lib.hid hsm
      have HCS := Lib.hid hcs
      have HLF := Lib.hid hlf
      have hpl : ps.length ≤ 1000000000 := by omega
      have hX9 : X ≤ 1000000000 := by omega
      obtain ⟨A3, hA3⟩ : ∃ A3, (if c' = X then A' else A'.map (·.add X)) = A3 := ⟨_, rfl⟩
      rw [hA3] at hrd
      have hkX : ((k' : Int) - (X : Int)) = ((k' - X : Nat) : Int) := by omega
      have hcX : ((c' : Int) - (X : Int)) = ((c' - X : Nat) : Int) := by omega
      have hpk2 := Lib.hid hpk
      clear hX hmore hcc hsm hcs hlf hr' hl' hpk hV
      go_wp2_with fail
      with_reducible refine (clone_any A' (l'.take X) X c' hlt.out hX9 wr hrt.out).mono ?_
      rintro e w3 ⟨A2, c2, rfl, ho2, hb3⟩
      have hch3 := hch.on hb3
      have hbr3 : Below w1.heap.size w1 w3 := hbr.trans (hb3.mono hbr.size)
      have hch4 := hch3.on ((Below.refl w3.heap.size w3).alloc (Nat.le_refl _) (.cells #[.slice A2 X c2] 25))
      have hpv : Part.val (A2, c2, l'.take X) = .slice A2 X c2 := by simp only [Part.val]; rw [hlt.out]
      have ho4 : (w3.alloc (.cells #[.slice A2 X c2] 25)).ownsRow w1.heap.size 5 1 (Part.val (A2, c2, l'.take X)) (l'.take X).length (bv (l'.take X)) := by
        rw [hpv, hlt.out]
        exact ownsRow_base (ownsRow_below ho2 ((Below.refl w3.heap.size w3).alloc (Nat.le_refl _) _)) hbr.size
      have hb4 := hbr3.alloc hbr3.size (.cells #[.slice A2 X c2] 25)
      have H4 := Lib.hid (And.intro ho4 (And.intro hb4 hch4))
      clear hch hbw hrt hbr hch3 ho4 hb4 hch4 ho2 hb3
      go_wp2_with (at_builtin; refine wpList_append_own _ rfl (.tmp 15) (.tmp 20) 32 rfl w1.heap.size 25 i0 (.slice none 0 0) 1 24 Try.underlying32 hi hz0 hz1 hz2 rfl (by decide) V ps.length (psv ps) rfl H4.out.2.2.row ⟨w3.heap.size, 0, none⟩ 1 1 [.slice A2 X c2] rfl rfl ?c1 ?c2 ?c3 ?c4 ?c5 ?_)
      case c1 => exact cell_one_new _ _ _
      case c2 => intro u hu; simp at hu; subst hu; rfl
      case c3 => unfold maxLen; omega
      case c4 => omega
      case c5 => exact H4.out.2.1.size
      intro V' w5 hown' hgrow _
      have hch5 : Chunks w5 w1.heap.size V' (ps ++ [(A2, c2, l'.take X)]) := H4.out.2.2.push H4.out.1 (by rw [hpv]; exact hown') hgrow
      have hb5 : Below w1.heap.size w1 w5 := H4.out.2.1.grown hgrow H4.out.2.1.size (fun g hg => (H4.out.2.2.row.lt g hg).1)
      have hB5 := HB1.out.below hb5 hgl
      obtain ⟨hc0, hc1, hc2, hc3⟩ := ctr_cells hB5
      have H5 := Lib.hid (And.intro hch5 hb5)
      have hkc : k' - X ≤ c' - X := by omega
      have hcm : c' - X ≤ 9223372036854775807 := by omega
      have hr5 := Lib.hid (show Rd w5 w5.heap.size A3 (l'.drop X) from (hrd.out.below (hb5.mono Hb1.out.size)).more (Nat.le_trans Hb1.out.size hb5.size))
      clear H4 hown' hgrow hpv hch5 hb5 hB5 hbr3
      go_wp2_with fail
      with_reducible refine (cut_ok C HK.out A3 (l'.drop X) (k' - X) (c' - X) hld.out hkc hcm w5 hr5.out).mono ?_
      rintro e w6 ⟨rfl, hb6⟩
      have H6 := Lib.hid (And.intro (H5.out.1.on hb6) (H5.out.2.trans (hb6.mono H5.out.2.size)))
      clear hc0 hc1 hc2 hc3 hb6 H5 hr5
      go_wp2_with fail
      go_roundw
      case rel => exact ⟨l'.drop X, A3, k' - X, c' - X, ps ++ [(A2, c2, l'.take X)], rfl, hld.out, by rw [List.length_append]; have := hpk2.out; simp; omega, hrd.out, hkc, hcm, H6.out.1,
          by rw [HCS.out, HM.out.1]; simp [psb], by rw [HLF.out, HM.out.2], fun h => by simp at h, rfl, H6.out.2⟩
      case measure => simp [lenV]; omega
end Go.Proofs.Ytmnbfmcgnddlaaa
