/-
  That the chunks that end at each write, what is held, and what is left at the end are the document's, and are memory of their own: for every cutter, all pieces and every place at which the stream is closed the law ChunkStreams returns true; no condition.
-/
import Derived.Test.YtmnbfmcgnddlaaaRows
import Derived.Test.YtmnbfmcgnddlaaaOpen
import Derived.Test.YtmnbfmcgnddlaaaChunkLaw
import Derived.Test.YtmnbfmcgnddlaaaChunkScr
import Derived.Test.YtmnbfmcgnddlaaaAppStep
import Derived.Test.YtmnbfmcgnddlaaaArgM
import Derived.WalkKit
import Derived.ProofKit
import Derived.OpenShut
import Derived.ShutString
import Derived.ChangeOld
import Derived.Below
namespace Go.Proofs.Ytmnbfmcgnddlaaa.chunkStreams
open Go.ChangeShapes Go.WideShapes Go.ChangeAt Go.RowKit
open Go.ChangeMaps (open_string shut_string)
set_option linter.unusedVariables false

theorem own : ownKnob Try.prog.godebug = none := by kernel_rfl
theorem laidOut : laidOutB Try.prog = true := by kernel_rfl

set_option maxHeartbeats 1000000 in
theorem streams_bad (mn mx ma ba : Int) (hk : ¬ okI mn mx ma ba) (v1 v2 : Value) (w : World) :
    Calls Try.prog 5 #[ctr mn mx ma ba, v1, v2] w fun e w' => e = .returned (.bool true) ∧ Below w.heap.size w w' := by
  obtain ⟨g, hg⟩ : ∃ g, g = w.heap.size := ⟨_, rfl⟩
  have hb1 := (Below.refl w.heap.size w).alloc (Nat.le_refl _) (.cells #[.int .i64 mn, .int .i64 mx, .int .u32 ma, .int .u32 ba] 24)
  have hB1 := blk_at w 24 #[.int .i64 mn, .int .i64 mx, .int .u32 ma, .int .u32 ba] hg
  have HG := Lib.hid hg
  have HK := Lib.hid hk
  clear hk
  go_enter Try.func5, Try.ntmps5
  go_wp2_with fail
  rw [← hg]
  generalize w.alloc (.cells #[.int .i64 mn, .int .i64 mx, .int .u32 ma, .int .u32 ba] 24) = w1 at *
  refine (shown_any _).mono ?_
  rintro e w2 ⟨rfl, hb2⟩
  have hB2 := hB1.below hb2 hB1.lt
  have hb2 := hb1.trans (hb2.mono hb1.size)
  obtain ⟨c0, c1, c2, c3⟩ := ctr_cells hB2
  clear hg hb1 hB1
  go_wp2_with fail
  with_reducible refine (new_bad mn mx ma ba HK.out w2).mono ?_
  rintro e w3 ⟨rfl, hb3⟩
  have hB3 := hB2.below hb3 hB2.lt
  have hb3 := hb2.trans (hb3.mono hb2.size)
  obtain ⟨c0, c1, c2, c3⟩ := ctr_cells hB3
  clear hB2 hb2
  go_wp2_with fail
  refine (refright_any _ _ _ _ _).mono ?_
  rintro e w5 ⟨rfl, hb5⟩
  rw [decide_eq_false HK.out]
  have hb5 := hb3.trans (hb5.mono hb3.size)
  clear hb3 hB3
  go_wp2_with fail
  go_ret
  exact ⟨rfl, hb5⟩
set_option maxRecDepth 100000 in
set_option maxHeartbeats 4000000 in
theorem streams_ok (C : Ctr) (K : C.Ok) (A : Option Addr) (c n cl : Nat) (ls : List Part) (w : World) (hl : ls.length = n) (hc : n ≤ c) (hm : c ≤ 9223372036854775807) (hr : Parts w w.heap.size A ls) (hcl : cl < 256) :
    Calls Try.prog 5 #[ctr C.mn C.mx C.ma.toNat C.ba.toNat, .slice A n c, .int .u8 cl] w fun e w' => e = .returned (.bool true) ∧ Below w.heap.size w w' := by
  obtain ⟨i0, hi, hz0, hz1, hz2⟩ := info_parts info_byte
  have HI := Lib.hid hi
  have HI0 := Lib.hid hz0
  have HI1 := Lib.hid hz1
  have HI2 := Lib.hid hz2
  obtain ⟨g, hg⟩ : ∃ g, g = w.heap.size := ⟨_, rfl⟩
  have hb1 := (Below.refl w.heap.size w).alloc (Nat.le_refl _) (.cells #[.int .i64 C.mn, .int .i64 C.mx, .int .u32 C.ma.toNat, .int .u32 C.ba.toNat] 24)
  have hB1 := blk_at w 24 #[.int .i64 C.mn, .int .i64 C.mx, .int .u32 C.ma.toNat, .int .u32 C.ba.toNat] hg
  have HG := Lib.hid hg
  have HK := Lib.hid K
  have HL := Lib.hid hl
  clear K hl hi hz0 hz1 hz2
  go_enter Try.func5, Try.ntmps5
  go_wp2_with fail
  rw [← hg]
  generalize w.alloc (.cells #[.int .i64 C.mn, .int .i64 C.mx, .int .u32 C.ma.toNat, .int .u32 C.ba.toNat] 24) = w1 at *
  have HB1 := Lib.hid hb1
  have HBB := Lib.hid (show ∀ W, Below w1.heap.size w1 W → W.cell? ⟨g, 0, none⟩ = some (.int .i64 C.mn) ∧ W.cell? ⟨g, 1, none⟩ = some (.int .i64 C.mx) ∧ W.cell? ⟨g, 2, none⟩ = some (.int .u32 C.ma.toNat) ∧ W.cell? ⟨g, 3, none⟩ = some (.int .u32 C.ba.toNat) from fun W h => ctr_cells (hB1.below h hB1.lt))
  have HP := Lib.hid (show ∀ W, Below w1.heap.size w1 W → Parts W W.heap.size A ls from fun W h => ((hr.on hb1).on h))
  clear hr hb1 hB1 hg
  refine (shown_any _).mono ?_
  rintro e w2 ⟨rfl, hb2⟩
  obtain ⟨k0, k1, k2, k3⟩ := HBB.out _ hb2
  go_wp2_with fail
  with_reducible refine (new_ok C HK.out w2).mono ?_
  rintro e w3 ⟨s, rfl, hst, hb3⟩
  have hsw : w1.heap.size ≤ s := Nat.le_trans hb2.size hst.le
  have hst := hst.base (B' := w1.heap.size) hb2.size
  have hb3 := hb2.trans (hb3.mono hb2.size)
  obtain ⟨k0, k1, k2, k3⟩ := HBB.out _ hb3
  clear hb2
  go_wp2_with fail
  refine (refright_any _ _ _ _ _).mono ?_
  rintro e w4 ⟨rfl, hb4⟩
  rw [ok_true HK.out]
  have hst := hst.on hb4
  have hb4 := hb3.trans (hb4.mono hb3.size)
  have HST := Lib.hid hst
  have HB4 := Lib.hid hb4
  have HSW := Lib.hid hsw
  clear hst hb4 hb3 hsw k0 k1 k2 k3
  go_wp2_with fail
  have hcut0 := Lib.hid (show cutB C [] = 0 from cut_nil HK.out)
  go_loopw [9, 34] (fun hd i wr => ∃ (j : Nat) (Ah : Option Addr) (nh ch : Nat) (h : List UInt8) (As : Option Addr) (cs : Nat), j ≤ n ∧ i = .int .i64 j ∧ hd = .slice Ah nh ch ∧ nh ≤ ch ∧ ch ≤ 9223372036854775807 ∧ nh ≤ 4096 ∧ cutB C h = 0 ∧ Rd wr wr.heap.size Ah h ∧
      (∀ ad, Ah = some ad → ad.block ≠ s) ∧ St wr w1.heap.size s C As nh cs h ∧ Below w1.heap.size w1 wr) (fun _ i _ => n - (intOf i).toNat)
  case atStart => exact ⟨0, none, 0, 0, [], none, 0, Nat.zero_le _, rfl, rfl, Nat.le_refl _, by decide, by decide, hcut0.out, Rd.nil _ _ _, by simp, HST.out, HB4.out⟩
  case round =>
    obtain ⟨j, Ah, nh, ch, h, As, cs, hj, rfl, rfl, hhc, hcm, hh4, hct, hrh, hnh, hst, hbr⟩ := hrel
    have HS := Lib.hid hst
    have HRH := Lib.hid hrh
    have HNH := Lib.hid hnh
    have HBR := Lib.hid hbr
    have HCT := Lib.hid hct
    clear hct hrh hnh hst hbr
    by_cases hjn : j < n
    · have hjl : j < ls.length := by rw [HL.out]; exact hjn
      obtain ⟨gl, ol, rfl, hgl, hcl⟩ := (HP.out wr HBR.out).at_ hjl
      obtain ⟨⟨P, Cc, b⟩, hp⟩ : ∃ p, p = ls[j] := ⟨_, rfl⟩
      have hbe := fun W hW => ((HP.out W hW).each ls[j] (List.getElem_mem hjl))
      rw [← hp] at hcl hbe
      simp only [Part.val] at hcl hbe
      obtain ⟨t, ht⟩ : ∃ t, t = b.length := ⟨_, rfl⟩
      rw [← ht] at hcl hbe
      have HBE := Lib.hid hbe
      have HBP := Lib.hid (show ∀ W, Below w1.heap.size w1 W → Rd W w1.heap.size P b from fun W hW => by
        have h1 := ((HP.out w1 (Below.refl _ _)).each ls[j] (List.getElem_mem hjl)).1
        rw [← hp] at h1
        exact h1.below hW)
      have HCL := Lib.hid (show ∀ W, Below w1.heap.size w1 W → W.cell? ⟨gl, ol + j, none⟩ = some (.slice P t Cc) from fun W hW => by
        obtain ⟨g', o', e, _, hc⟩ := (HP.out W hW).at_ hjl
        injection e with e
        injection e with e1 e2 _
        subst e1 e2
        rw [← hp] at hc
        simp only [Part.val] at hc
        rw [← ht] at hc
        exact hc)
      have HT := Lib.hid ht.symm
      clear hp ht hbe hjl hgl
      by_cases h50 : j < 50
      · have h50i : decide ((50 : Int) ≤ (j : Int)) = false := decide_eq_false (by omega)
        have h50n : decide (50 ≤ j) = false := decide_eq_false (by omega)
        by_cases ht10 : t ≤ 10000
        · have ht10i : decide ((10000 : Int) < (t : Int)) = false := decide_eq_false (by omega)
          have ht10n : decide (10000 < t) = false := decide_eq_false (by omega)
          obtain ⟨wo, rfl⟩ : ∃ wo, wo = wr := ⟨_, rfl⟩
          have hown0 : (wo.alloc (.cells #[] 5)).ownsRow wo.heap.size 5 1 (.slice (some ⟨wo.heap.size, 0, none⟩) 0 0) 0 [] := World.ownsRow_lit wo #[] 0 (Nat.le_refl _) (by simp [maxLen]) rfl
          have hb0 := (Below.refl wo.heap.size wo).alloc (Nat.le_refl _) (.cells #[] 5)
          have hrb := (HBE.out wo HBR.out).1.below hb0
          have H0 := Lib.hid (And.intro hown0 (And.intro hb0 hrb))
          have hcl0 := HCL.out _ (HBR.out.trans (hb0.mono HBR.out.size))
          clear hown0 hb0 hrb
          go_wp2_with (at_builtin; refine wpList_append_more _ rfl (.tmp 47) (.tmp 51) 25 rfl wo.heap.size 5 i0 Try.underlying25 HI.out HI0.out HI1.out HI2.out (.slice (some ⟨wo.heap.size, 0, none⟩) 0 0) 0 [] rfl H0.out.1 wo.heap.size P Cc t b rfl HT.out H0.out.2.2 (by rw [HT.out]; omega) H0.out.2.1.size ?_)
          intro Ao co w2 ho2 hg2
          have hx2 : Below wo.heap.size wo w2 := H0.out.2.1.grown hg2 H0.out.2.1.size (fun g hg => (H0.out.1.lt g hg).1)
          have ho2 : w2.ownsRow wo.heap.size 5 1 (.slice Ao t co) t (bv b) := by simpa using ho2
          have hs2 := HS.out.on hx2
          have HO2 := Lib.hid ho2
          have HX2 := Lib.hid hx2
          have HS2 := Lib.hid hs2
          clear hg2 H0 hs2 hcl0
          have hro := Rd.of_own ho2
          clear ho2 hx2
          go_wp2_with fail
          with_reducible refine (write_ok w1.heap.size s C HK.out As nh cs h w2 HS2.out Ao t co b HT.out hro (by omega) (by omega)).mono ?_
          rintro e w3 ⟨V, ps, A3, n3, c3, rfl, hW⟩
          obtain ⟨AV, cV, rfl, _, _⟩ := hW.chunks.form
          obtain ⟨zz, hzz⟩ : ∃ z, z = ps.length := ⟨_, rfl⟩
          have ho3 := ownsRow_touch HO2.out HS2.out.blk ty_u8 hW.touch
          rw [← hzz] at hW ⊢
          have HW := Lib.hid hW
          have HZ := Lib.hid hzz
          have HO3 := Lib.hid ho3
          clear hW hzz ho3 hro
          go_wp2_with fail
          go_loopw [58] (fun i W => ∃ (k : Nat) (bs : List UInt8), k ≤ t ∧ i = .int .i64 k ∧ W.ownsRow wo.heap.size 5 1 (.slice Ao t co) t (bv bs) ∧ w3.grownBy W (Value.slice Ao t co).ownBlock) (fun i _ => t - (intOf i).toNat)
          case atStart => exact ⟨0, b, Nat.zero_le _, rfl, HO3.out, World.grownBy.refl _ _⟩
          case round =>
            obtain ⟨k, bs, hk, rfl, hro, hrg⟩ := hrel
            by_cases hkt : k < t
            · obtain ⟨g2, y, rfl, hg2, hcy, hfy⟩ := own_at hro hkt
              obtain ⟨y2, hy2⟩ := xor_byte y
              have hyl := y.toNat_lt
              have HRO := Lib.hid (own_set (g := g2) (j := k) hro y2)
              have HRG := Lib.hid (setCell_grown (i := k) (v := .int .u8 y2.toNat) (by rw [← hg2]; exact hrg))
              have HG2 := Lib.hid hg2
              clear hro hrg hg2
              generalize y.toNat = yn at *
              go_wp2_with fail
              go_roundw
              case rel => obtain ⟨l', hl'⟩ := HRO.out; exact ⟨k + 1, l', by omega, by go_num, hl', by rw [HG2.out]; exact HRG.out⟩
              case measure => simp [intOf]; omega
            · obtain rfl : t = k := by omega
              obtain ⟨w5, rfl⟩ : ∃ w5, w5 = wr := ⟨_, rfl⟩
              have hns : n3 ≤ 4096 := by
                have h1 := left_short HK.out (h ++ b)
                have h2 := HK.out.hi
                have h3 := HW.out.st.len
                omega
              have hzz : zz ≤ 1000000 := by
                have h1 := chunks_few HK.out (h ++ b)
                rw [← HW.out.told, List.length_append, HS.out.len, HT.out] at h1
                have h2 := HZ.out
                simp [psb] at h1
                omega
              obtain ⟨hch5, hst5⟩ := HW.out.after HO2.out HS2.out.blk hrg
              have ht5 : Touch s wo w5 := ((Touch.of_below HX2.out).trans HW.out.touch).grown hrg (fun g hg => (HO2.out.lt g hg).1)
              have hbr5 : Below w1.heap.size w1 w5 := ht5.below HBR.out HSW.out HBR.out.size
              have hrh5 : Rd w5 w5.heap.size Ah h := HRH.out.touch HNH.out ht5
              have HCL5 := Lib.hid (show ∀ W, Below w5.heap.size w5 W → W.cell? ⟨gl, ol + j, none⟩ = some (.slice P t Cc) from fun W hW => HCL.out W (hbr5.trans (hW.mono hbr5.size)))
              have HRA := Lib.hid (show ∀ W, Below w5.heap.size w5 W → Rd W w5.heap.size Ah h from fun W hW => hrh5.below hW)
              have HRB := Lib.hid (show ∀ W, Below w5.heap.size w5 W → Rd W w1.heap.size P b from fun W hW => HBP.out W (hbr5.trans (hW.mono hbr5.size)))
              have HBE5 := Lib.hid (show Below w5.heap.size w5 (w5.drew.alloc (.cells #[] 5)) from (below_drewN (Below.refl _ _) 1).alloc (Nat.le_refl _) _)
              have HOE := Lib.hid (show (w5.drew.alloc (.cells #[] 5)).ownsRow w5.heap.size 5 1 (.slice (some ⟨w5.heap.size, 0, none⟩) 0 0) 0 [] from World.ownsRow_lit w5.drew #[] 0 (Nat.le_refl _) (by simp [maxLen]) rfl)
              have HN1 := Lib.hid (show h.length ≤ 140737488355328 by rw [HS.out.len]; omega)
              have HN2 := Lib.hid (show nh + b.length ≤ 140737488355328 by rw [HT.out]; omega)
              have H5 := Lib.hid (And.intro hch5 (And.intro hst5 (And.intro hbr5 hrg.size)))
              clear hch5 hst5 ht5 hbr5 hrh5 hro hrg
              have hx0 : Below w5.heap.size w5 w5.drew := below_drewN (Below.refl _ _) 1
              go_wp2_with fail
              go_region_held3 (fun W => W.cell? ⟨gl, ol + j, none⟩ = some (.slice P t Cc)) (first | exact HCL5.out _ (by assumption) | exact HCL5.out _ HBE5.out | fail) (first
                | (refine step_append_first _ (by rfl) (.tmp 68) (.tmp 69) 25 (by rfl) w5.heap.size 5 i0 Try.underlying25 HI.out HI0.out HI1.out HI2.out (.slice (some ⟨w5.heap.size, 0, none⟩) 0 0) (by rfl) HOE.out w5.heap.size Ah ch nh h (by rfl) HS.out.len (HRA.out _ HBE5.out) HN1.out HBE5.out.size ?_; intro A6 c6 w6 ho6 hg6; have hb6 : Below w5.heap.size w5 w6 := HBE5.out.grown hg6 HBE5.out.size (fun g hg => (HOE.out.lt g hg).1))
                | (refine step_append_more _ (by rfl) (.tmp 70) (.tmp 74) 25 (by rfl) w5.heap.size 5 i0 Try.underlying25 HI.out HI0.out HI1.out HI2.out (.slice A6 nh c6) nh (bv h) (by rfl) ho6 _ P Cc t b (by rfl) HT.out (HRB.out _ hb6) HN2.out hb6.size ?_; intro A7 c7 w7 ho7 hg7; have hb7 : Below w5.heap.size w5 w7 := hb6.grown hg7 hb6.size (fun g hg => (ho6.lt g hg).1)))
              have ho7' : w7.ownsRow w5.heap.size 5 1 (.slice A7 (nh + t) c7) (nh + t) (bv (h ++ b)) := by
                rw [show bv (h ++ b) = bv h ++ bv b by simp [bv]]; exact ho7
              obtain ⟨hch5, hst5, hbr5, hsz5⟩ := H5.out
              have hch7 := hch5.on hb7
              have hst7 := hst5.on hb7
              have hbr7 := hbr5.trans (hb7.mono hbr5.size)
              have H7 := Lib.hid (And.intro hch7 (And.intro hst7 (And.intro hbr7 ho7')))
              have HB7 := Lib.hid hb7
              obtain ⟨hle7, hmx7⟩ := own_le ho7'
              have hlen7 := Lib.hid (show (h ++ b).length = nh + t by rw [List.length_append, HS.out.len, HT.out])
              obtain ⟨k0, k1, k2, k3⟩ := HBB.out w7 hbr7
              clear hch5 hst5 hbr5 hch7 hst7 hbr7 ho7' ho7 hg7 ho6 hg6 hb6 hb7 hx0
              go_wp2_with fail
              with_reducible refine (refends_ok C HK.out A7 (h ++ b) (nh + t) c7 hlen7.out (by omega) hle7 hmx7 w7 (Rd.of_own H7.out.2.2.2)).mono ?_
              rintro e w8 ⟨V2, A8, k8, c8, rfl, hS8, hb8⟩
              obtain ⟨⟨ps2, hcu, hps2⟩, hl8, hrd8, hle8, hmx8, hbk8⟩ := hS8
              obtain ⟨AV2, cV2, rfl, _, _⟩ := hcu.form
              have hlz : ps2.length = zz := by
                have h1 := congrArg List.length (hps2.trans HW.out.told.symm)
                rw [HZ.out]; simpa [psb] using h1
              rw [hlz] at hcu ⊢
              obtain rfl : n3 = k8 := by rw [← HW.out.st.len]; exact hl8
              have hch8 := H7.out.1.on hb8
              have hst8 := H7.out.2.1.on hb8
              have HP8 := Lib.hid (And.intro (hch8.parts HZ.out.symm) (hcu.parts hlz hb8.size))
              have HPS2 := Lib.hid hps2
              have HLZ := Lib.hid (show (chunksB C (h ++ b)).length = zz by rw [← HW.out.told, HZ.out]; simp [psb])
              have H8 := Lib.hid (And.intro hch8 (And.intro hst8 (And.intro hb8 (And.intro hrd8 hbk8))))
              clear hch8 hst8 hb8 hrd8 hbk8 hcu hps2 hlz k0 k1 k2 k3 hl8
              go_wp2_with fail
              with_reducible refine (same_told AV AV2 zz cV cV2 (chunksB C (h ++ b)) (by omega) w8 HLZ.out ⟨ps, HP8.out.1, HW.out.told⟩ ⟨ps2, HP8.out.2, HPS2.out⟩).mono ?_
              rintro e w9 ⟨rfl, hb9⟩
              have hst9 := H8.out.2.1.on hb9
              have HBR9 := Lib.hid (show Below w1.heap.size w1 w9 from H7.out.2.2.1.trans ((H8.out.2.2.1.trans (hb9.mono H8.out.2.2.1.size)).mono H7.out.2.2.1.size))
              have HSC0 := Lib.hid (show Scr w9 w2.heap.size w1.heap.size s C A3 n3 c3 (leftB C (h ++ b)) A8 (leftB C (h ++ b)) (.slice AV zz cV) ps w9 from ⟨Below.refl _ _, hst9, (H8.out.2.2.2.1.below (hb9.mono H8.out.2.2.1.size)).more (Nat.le_trans H8.out.2.2.1.size hb9.size), (H8.out.1.on hb9).row, fun p hp => ⟨_, (H8.out.1.on hb9).each p hp⟩⟩)
              have HST9 := Lib.hid hst9
              have HRN := Lib.hid (show ∀ ad, A8 = some ad → ∀ g, g < w3.heap.size → ad.block ≠ g from fun ad ha g hg e => by
                obtain ⟨ad2, ha2, hbk⟩ := H8.out.2.2.2.2 ad ha
                have h1 := (H7.out.2.2.2.lt ad2.block (by rw [ha2]; rfl)).1
                have h2 := H5.out.2.2.2
                omega)
              clear hst9 hb9
              go_wp2_with fail
              with_reducible refine (held_ok w1.heap.size s C A3 n3 c3 (leftB C (h ++ b)) w9 HST9.out).mono ?_
              rintro e w10 ⟨rfl, rfl⟩
              go_wp2_with fail
              go_loopw [95] (fun i W => ∃ k : Nat, k ≤ zz ∧ i = .int .i64 k ∧ Scr w9 w2.heap.size w1.heap.size s C A3 n3 c3 (leftB C (h ++ b)) A8 (leftB C (h ++ b)) (.slice AV zz cV) ps W) (fun i _ => zz - (intOf i).toNat)
              case atStart => exact ⟨0, Nat.zero_le _, rfl, HSC0.out⟩
              case round =>
                obtain ⟨k, hk, rfl, hsc⟩ := hrel
                by_cases hkz : k < zz
                · have hkp : k < ps.length := by rw [← HZ.out]; exact hkz
                  obtain ⟨gv, ov, rfl, hck⟩ := psv_at hsc.row HZ.out hkp
                  obtain ⟨p, hp⟩ : ∃ p, p = ps[k] := ⟨_, rfl⟩
                  have hpm : p ∈ ps := by rw [hp]; exact List.getElem_mem hkp
                  have hck2 : ∀ W, Scr w9 w2.heap.size w1.heap.size s C A3 n3 c3 (leftB C (h ++ b)) A8 (leftB C (h ++ b)) (.slice (some ⟨gv, ov, none⟩) zz cV) ps W → W.cell? ⟨gv, ov + k, none⟩ = some p.val := fun W hW => by
                    obtain ⟨g', o', e, hc⟩ := psv_at hW.row HZ.out hkp
                    injection e with e
                    injection e with e1 e2 _
                    subst e1 e2
                    rw [hc, hp]
                  obtain ⟨Pk, Ck, Lk⟩ := p
                  obtain ⟨tk, htk⟩ : ∃ tk, tk = Lk.length := ⟨_, rfl⟩
                  have htk9 : tk ≤ 1000000 := by
                    have h1 := (chunks_sizes HK.out (h ++ b) Lk (by rw [← HW.out.told]; exact List.mem_map.2 ⟨_, hpm, rfl⟩)).2
                    have h2 := HK.out.hi
                    omega
                  simp only [Part.val] at hck2
                  rw [← htk] at hck2
                  have HCK := Lib.hid hck2
                  have HPM := Lib.hid hpm
                  have HTK := Lib.hid htk
                  have HSC := Lib.hid hsc
                  have hc0 := hck2 _ hsc
                  clear hck hp hpm hck2 htk hsc hkp
                  go_wp2_with fail
                  clear hc0
                  go_loopw [103] (fun i W => ∃ q : Nat, q ≤ tk ∧ i = .int .i64 q ∧ Scr w9 w2.heap.size w1.heap.size s C A3 n3 c3 (leftB C (h ++ b)) A8 (leftB C (h ++ b)) (.slice (some ⟨gv, ov, none⟩) zz cV) ps W) (fun i _ => tk - (intOf i).toNat)
                  case atStart => exact ⟨0, Nat.zero_le _, rfl, HSC.out⟩
                  case round =>
                    obtain ⟨q, hq, rfl, hsc2⟩ := hrel
                    by_cases hqt : q < tk
                    · obtain ⟨lq, hlq⟩ := hsc2.each _ HPM.out
                      have hlq2 : _ := hlq
                      simp only [Part.val] at hlq2
                      rw [← HTK.out] at hlq2
                      obtain ⟨gp, y, rfl, hgp, hcy, hfy⟩ := own_at hlq2 hqt
                      obtain ⟨y2, hy2⟩ := xor_byte y
                      have hyl := y.toNat_lt
                      have hc0 := HCK.out _ hsc2
                      have HS2 := Lib.hid (hsc2.set_ HPM.out (g := gp) rfl (HW.out.far _ HPM.out gp rfl) (fun ad ha => HRN.out ad ha gp ((HW.out.chunks.each _ HPM.out).lt gp rfl).2) q y2)
                      clear hlq hlq2 hgp hsc2
                      generalize y.toNat = yn at *
                      go_wp2_with fail
                      go_roundw
                      case rel => exact ⟨q + 1, by omega, by go_num, HS2.out⟩
                      case measure => simp [intOf]; omega
                    · obtain rfl : tk = q := by omega
                      have HS2 := Lib.hid hsc2
                      clear hsc2
                      go_wp2_with fail
                      go_roundw
                      case rel => exact ⟨k + 1, by omega, by go_num, HS2.out⟩
                      case measure => simp [intOf]; omega
                · obtain rfl : zz = k := by omega
                  obtain ⟨w11, rfl⟩ : ∃ w11, w11 = wr := ⟨_, rfl⟩
                  have HSN := Lib.hid hsc.st
                  have HRN2 := Lib.hid hsc.rd
                  have HBR11 := Lib.hid (show Below w1.heap.size w1 w11 from HBR9.out.trans (hsc.bel.mono (Nat.le_trans HBR.out.size HX2.out.size)))
                  have HNE := Lib.hid (show ∀ ad, A8 = some ad → ad.block ≠ s from fun ad ha => HRN.out ad ha s HW.out.st.blk.lt)
                  clear hsc
                  by_cases hjc : j = cl
                  · have hjcB : ((j : Int) == (cl : Int)) = true := by simp; omega
                    have hjcN : (j == cl) = true := by simp; omega
                    clear hjc
                    have hxd : Below w1.heap.size w1 w11.drew := (HBR11.out).trans ((below_drewN (Below.refl _ _) 1).mono (HBR11.out).size)
                    obtain ⟨kt, hkt⟩ : ∃ kt, kt = (tailB (leftB C (h ++ b))).length := ⟨_, rfl⟩
                    have hlt1 := tailB_length (leftB C (h ++ b))
                    have CC := Lib.hid (show Calls Try.prog 23 #[.pointer (some ⟨s, 0, none⟩)] w11.drew fun e w' => ∃ A' c' A'' c'', e = .returned (.slice A' kt c') ∧ (∃ ps, Parts w' w'.heap.size A' ps ∧ psb ps = tailB (leftB C (h ++ b))) ∧ St w' w1.heap.size s C A'' 0 c'' [] ∧ Touch s w11.drew w' from by rw [hkt]; exact close_told w1.heap.size s C A3 n3 c3 (leftB C (h ++ b)) w11.drew ((HSN.out).on (below_drewN (Below.refl _ _) 1)))
                    have CA := Lib.hid (show ∀ W, Rd W W.heap.size A8 (leftB C (h ++ b)) → Calls Try.prog 18 #[ctr C.mn C.mx C.ma.toNat C.ba.toNat, .slice A8 n3 c8] W fun e w' => ∃ A' c', e = .returned (.slice A' kt c') ∧ Told W w' (tailB (leftB C (h ++ b))) A' kt c' from fun W hr => by
                      have := refall_told C HK.out A8 (leftB C (h ++ b)) n3 c8 (HSN.out).len (by omega) (by omega) (by omega) W hr
                      rw [allC_stop (left_cut HK.out (h ++ b)), ← hkt] at this
                      exact this)
                    have HRD := Lib.hid (show Rd w11.drew w11.drew.heap.size A8 (leftB C (h ++ b)) from HRN2.out)
                    have HNE := Lib.hid (HNE.out)
                    have HKT := Lib.hid hkt.symm
                    have hkt9 : kt ≤ 1 := by rw [hkt]; exact hlt1
                    clear hkt hlt1
                    go_wp2_with fail
                    go_region_held3 (fun W => W.cell? ⟨g, 0, none⟩ = some (.int .i64 C.mn) ∧ W.cell? ⟨g, 1, none⟩ = some (.int .i64 C.mx) ∧ W.cell? ⟨g, 2, none⟩ = some (.int .u32 C.ma.toNat) ∧ W.cell? ⟨g, 3, none⟩ = some (.int .u32 C.ba.toNat)) (first | exact HBB.out _ (by assumption) | fail) (first
                      | (go_at_call 23; (with_reducible refine CC.out.mono ?_); rintro e w21 ⟨A21, c21, As2, cs2, rfl, hp21, hs21, ht21⟩; have hx21 := ht21.below hxd HSW.out hxd.size)
                      | (go_at_call 18; (with_reducible refine (CA.out _ (HRD.out.touch HNE.out ht21)).mono ?_); rintro e w22 ⟨A22, c22, rfl, ht22⟩; have hx22 := hx21.trans (ht22.bel.mono hx21.size))
                      | (go_at_call 16; (with_reducible refine (same_told A21 A22 kt c21 c22 _ (by omega) _ HKT.out (by obtain ⟨qs, hq, he⟩ := hp21; exact ⟨qs, hq.on ht22.bel, he⟩) ht22.rows).mono ?_); rintro e w23 ⟨rfl, hb23⟩; have hx23 := hx22.trans (hb23.mono hx22.size); have hs23 := (hs21.on ht22.bel).on hb23)
                      | (go_at_call 22; (with_reducible refine (held_ok w1.heap.size s C As2 0 cs2 [] _ hs23).mono ?_); rintro e w24 ⟨rfl, rfl⟩))
                    have HS23 := Lib.hid hs23
                    have HX23 := Lib.hid hx23
                    clear hs23 hx23 hb23 hx22 ht22 hx21 ht21 hs21 hp21 hxd
                    go_wp2_with fail
                    go_roundw
                    case rel => exact ⟨j + 1, none, 0, 0, [], As2, cs2, by omega, by go_num, rfl, Nat.le_refl _, by decide, by decide, hcut0.out, Rd.nil _ _ _, by simp, HS23.out, HX23.out⟩
                    case measure => simp [intOf]; omega
                  · have hjcB : ((j : Int) == (cl : Int)) = false := by simp; omega
                    have hjcN : (j == cl) = false := by simp; omega
                    have HCT2 := Lib.hid (left_cut HK.out (h ++ b))
                    clear hjc
                    go_wp2_with fail
                    go_roundw
                    case rel => exact ⟨j + 1, A8, n3, c8, leftB C (h ++ b), A3, c3, by omega, by go_num, rfl, hle8, hmx8, hns, HCT2.out, HRN2.out, HNE.out, HSN.out, HBR11.out⟩
                    case measure => simp [intOf]; omega
        · have ht10i : decide ((10000 : Int) < (t : Int)) = true := decide_eq_true (by omega)
          have ht10n : decide (10000 < t) = true := decide_eq_true (by omega)
          have hxd : Below w1.heap.size w1 wr.drew := (HBR.out).trans ((below_drewN (Below.refl _ _) 1).mono (HBR.out).size)
          obtain ⟨kt, hkt⟩ : ∃ kt, kt = (tailB (h)).length := ⟨_, rfl⟩
          have hlt1 := tailB_length (h)
          have CC := Lib.hid (show Calls Try.prog 23 #[.pointer (some ⟨s, 0, none⟩)] wr.drew fun e w' => ∃ A' c' A'' c'', e = .returned (.slice A' kt c') ∧ (∃ ps, Parts w' w'.heap.size A' ps ∧ psb ps = tailB (h)) ∧ St w' w1.heap.size s C A'' 0 c'' [] ∧ Touch s wr.drew w' from by rw [hkt]; exact close_told w1.heap.size s C As nh cs (h) wr.drew ((HS.out).on (below_drewN (Below.refl _ _) 1)))
          have CA := Lib.hid (show ∀ W, Rd W W.heap.size Ah (h) → Calls Try.prog 18 #[ctr C.mn C.mx C.ma.toNat C.ba.toNat, .slice Ah nh ch] W fun e w' => ∃ A' c', e = .returned (.slice A' kt c') ∧ Told W w' (tailB (h)) A' kt c' from fun W hr => by
            have := refall_told C HK.out Ah (h) nh ch (HS.out).len (by omega) (by omega) (by omega) W hr
            rw [allC_stop HCT.out, ← hkt] at this
            exact this)
          have HRD := Lib.hid (show Rd wr.drew wr.drew.heap.size Ah (h) from HRH.out)
          have HNE := Lib.hid (HNH.out)
          have HKT := Lib.hid hkt.symm
          have hkt9 : kt ≤ 1 := by rw [hkt]; exact hlt1
          clear hkt hlt1
          go_wp2_with fail
          go_region_held3 (fun W => W.cell? ⟨g, 0, none⟩ = some (.int .i64 C.mn) ∧ W.cell? ⟨g, 1, none⟩ = some (.int .i64 C.mx) ∧ W.cell? ⟨g, 2, none⟩ = some (.int .u32 C.ma.toNat) ∧ W.cell? ⟨g, 3, none⟩ = some (.int .u32 C.ba.toNat)) (first | exact HBB.out _ (by assumption) | fail) (first
            | (go_at_call 23; (with_reducible refine CC.out.mono ?_); rintro e w21 ⟨A21, c21, As2, cs2, rfl, hp21, hs21, ht21⟩; have hx21 := ht21.below hxd HSW.out hxd.size)
            | (go_at_call 18; (with_reducible refine (CA.out _ (HRD.out.touch HNE.out ht21)).mono ?_); rintro e w22 ⟨A22, c22, rfl, ht22⟩; have hx22 := hx21.trans (ht22.bel.mono hx21.size))
            | (go_at_call 16; (with_reducible refine (same_told A21 A22 kt c21 c22 _ (by omega) _ HKT.out (by obtain ⟨qs, hq, he⟩ := hp21; exact ⟨qs, hq.on ht22.bel, he⟩) ht22.rows).mono ?_); rintro e w23 ⟨rfl, hb23⟩; have hx23 := hx22.trans (hb23.mono hx22.size); have hs23 := (hs21.on ht22.bel).on hb23)
            | (go_at_call 22; (with_reducible refine (held_ok w1.heap.size s C As2 0 cs2 [] _ hs23).mono ?_); rintro e w24 ⟨rfl, rfl⟩)
            | (go_at_call 23; (with_reducible refine (close_told w1.heap.size s C As2 0 cs2 [] _ hs23).mono ?_); rintro e w25 ⟨A25, c25, As5, cs5, rfl, hp25, hs25, ht25⟩; have hx25 := ht25.below hx23 HSW.out hx23.size))
          have hbe := Lib.hid (HB1.out.trans (hx25.mono HB1.out.size))
          clear hx25 ht25 hs25 hp25 hs23 hx23 hb23 hx22 ht22 hx21 ht21 hs21 hp21 hxd
          go_wp2_with fail
          go_ret
          exact ⟨rfl, hbe.out⟩
      · have h50i : decide ((50 : Int) ≤ (j : Int)) = true := decide_eq_true (by omega)
        have h50n : decide (50 ≤ j) = true := decide_eq_true (by omega)
        have hxd : Below w1.heap.size w1 wr.drew := (HBR.out).trans ((below_drewN (Below.refl _ _) 1).mono (HBR.out).size)
        obtain ⟨kt, hkt⟩ : ∃ kt, kt = (tailB (h)).length := ⟨_, rfl⟩
        have hlt1 := tailB_length (h)
        have CC := Lib.hid (show Calls Try.prog 23 #[.pointer (some ⟨s, 0, none⟩)] wr.drew fun e w' => ∃ A' c' A'' c'', e = .returned (.slice A' kt c') ∧ (∃ ps, Parts w' w'.heap.size A' ps ∧ psb ps = tailB (h)) ∧ St w' w1.heap.size s C A'' 0 c'' [] ∧ Touch s wr.drew w' from by rw [hkt]; exact close_told w1.heap.size s C As nh cs (h) wr.drew ((HS.out).on (below_drewN (Below.refl _ _) 1)))
        have CA := Lib.hid (show ∀ W, Rd W W.heap.size Ah (h) → Calls Try.prog 18 #[ctr C.mn C.mx C.ma.toNat C.ba.toNat, .slice Ah nh ch] W fun e w' => ∃ A' c', e = .returned (.slice A' kt c') ∧ Told W w' (tailB (h)) A' kt c' from fun W hr => by
          have := refall_told C HK.out Ah (h) nh ch (HS.out).len (by omega) (by omega) (by omega) W hr
          rw [allC_stop HCT.out, ← hkt] at this
          exact this)
        have HRD := Lib.hid (show Rd wr.drew wr.drew.heap.size Ah (h) from HRH.out)
        have HNE := Lib.hid (HNH.out)
        have HKT := Lib.hid hkt.symm
        have hkt9 : kt ≤ 1 := by rw [hkt]; exact hlt1
        clear hkt hlt1
        go_wp2_with fail
        go_region_held3 (fun W => W.cell? ⟨g, 0, none⟩ = some (.int .i64 C.mn) ∧ W.cell? ⟨g, 1, none⟩ = some (.int .i64 C.mx) ∧ W.cell? ⟨g, 2, none⟩ = some (.int .u32 C.ma.toNat) ∧ W.cell? ⟨g, 3, none⟩ = some (.int .u32 C.ba.toNat)) (first | exact HBB.out _ (by assumption) | fail) (first
          | (go_at_call 23; (with_reducible refine CC.out.mono ?_); rintro e w21 ⟨A21, c21, As2, cs2, rfl, hp21, hs21, ht21⟩; have hx21 := ht21.below hxd HSW.out hxd.size)
          | (go_at_call 18; (with_reducible refine (CA.out _ (HRD.out.touch HNE.out ht21)).mono ?_); rintro e w22 ⟨A22, c22, rfl, ht22⟩; have hx22 := hx21.trans (ht22.bel.mono hx21.size))
          | (go_at_call 16; (with_reducible refine (same_told A21 A22 kt c21 c22 _ (by omega) _ HKT.out (by obtain ⟨qs, hq, he⟩ := hp21; exact ⟨qs, hq.on ht22.bel, he⟩) ht22.rows).mono ?_); rintro e w23 ⟨rfl, hb23⟩; have hx23 := hx22.trans (hb23.mono hx22.size); have hs23 := (hs21.on ht22.bel).on hb23)
          | (go_at_call 22; (with_reducible refine (held_ok w1.heap.size s C As2 0 cs2 [] _ hs23).mono ?_); rintro e w24 ⟨rfl, rfl⟩)
          | (go_at_call 23; (with_reducible refine (close_told w1.heap.size s C As2 0 cs2 [] _ hs23).mono ?_); rintro e w25 ⟨A25, c25, As5, cs5, rfl, hp25, hs25, ht25⟩; have hx25 := ht25.below hx23 HSW.out hx23.size))
        have hbe := Lib.hid (HB1.out.trans (hx25.mono HB1.out.size))
        clear hx25 ht25 hs25 hp25 hs23 hx23 hb23 hx22 ht22 hx21 ht21 hs21 hp21 hxd
        go_wp2_with fail
        go_ret
        exact ⟨rfl, hbe.out⟩
    · obtain rfl : j = n := by omega
      have hxd : Below w1.heap.size w1 wr.drew := (HBR.out).trans ((below_drewN (Below.refl _ _) 1).mono (HBR.out).size)
      obtain ⟨kt, hkt⟩ : ∃ kt, kt = (tailB (h)).length := ⟨_, rfl⟩
      have hlt1 := tailB_length (h)
      have CC := Lib.hid (show Calls Try.prog 23 #[.pointer (some ⟨s, 0, none⟩)] wr.drew fun e w' => ∃ A' c' A'' c'', e = .returned (.slice A' kt c') ∧ (∃ ps, Parts w' w'.heap.size A' ps ∧ psb ps = tailB (h)) ∧ St w' w1.heap.size s C A'' 0 c'' [] ∧ Touch s wr.drew w' from by rw [hkt]; exact close_told w1.heap.size s C As nh cs (h) wr.drew ((HS.out).on (below_drewN (Below.refl _ _) 1)))
      have CA := Lib.hid (show ∀ W, Rd W W.heap.size Ah (h) → Calls Try.prog 18 #[ctr C.mn C.mx C.ma.toNat C.ba.toNat, .slice Ah nh ch] W fun e w' => ∃ A' c', e = .returned (.slice A' kt c') ∧ Told W w' (tailB (h)) A' kt c' from fun W hr => by
        have := refall_told C HK.out Ah (h) nh ch (HS.out).len (by omega) (by omega) (by omega) W hr
        rw [allC_stop HCT.out, ← hkt] at this
        exact this)
      have HRD := Lib.hid (show Rd wr.drew wr.drew.heap.size Ah (h) from HRH.out)
      have HNE := Lib.hid (HNH.out)
      have HKT := Lib.hid hkt.symm
      have hkt9 : kt ≤ 1 := by rw [hkt]; exact hlt1
      clear hkt hlt1
      go_wp2_with fail
      go_region_held3 (fun W => W.cell? ⟨g, 0, none⟩ = some (.int .i64 C.mn) ∧ W.cell? ⟨g, 1, none⟩ = some (.int .i64 C.mx) ∧ W.cell? ⟨g, 2, none⟩ = some (.int .u32 C.ma.toNat) ∧ W.cell? ⟨g, 3, none⟩ = some (.int .u32 C.ba.toNat)) (first | exact HBB.out _ (by assumption) | fail) (first
        | (go_at_call 23; (with_reducible refine CC.out.mono ?_); rintro e w21 ⟨A21, c21, As2, cs2, rfl, hp21, hs21, ht21⟩; have hx21 := ht21.below hxd HSW.out hxd.size)
        | (go_at_call 18; (with_reducible refine (CA.out _ (HRD.out.touch HNE.out ht21)).mono ?_); rintro e w22 ⟨A22, c22, rfl, ht22⟩; have hx22 := hx21.trans (ht22.bel.mono hx21.size))
        | (go_at_call 16; (with_reducible refine (same_told A21 A22 kt c21 c22 _ (by omega) _ HKT.out (by obtain ⟨qs, hq, he⟩ := hp21; exact ⟨qs, hq.on ht22.bel, he⟩) ht22.rows).mono ?_); rintro e w23 ⟨rfl, hb23⟩; have hx23 := hx22.trans (hb23.mono hx22.size); have hs23 := (hs21.on ht22.bel).on hb23)
        | (go_at_call 22; (with_reducible refine (held_ok w1.heap.size s C As2 0 cs2 [] _ hs23).mono ?_); rintro e w24 ⟨rfl, rfl⟩)
        | (go_at_call 23; (with_reducible refine (close_told w1.heap.size s C As2 0 cs2 [] _ hs23).mono ?_); rintro e w25 ⟨A25, c25, As5, cs5, rfl, hp25, hs25, ht25⟩; have hx25 := ht25.below hx23 HSW.out hx23.size))
      have hbe := Lib.hid (HB1.out.trans (hx25.mono HB1.out.size))
      clear hx25 ht25 hs25 hp25 hs23 hx23 hb23 hx22 ht22 hx21 ht21 hs21 hp21 hxd
      go_wp2_with fail
      go_ret
      exact ⟨rfl, hbe.out⟩
theorem walk (mn0 mx0 ma0 ba0 : Int) (A1 : Option Addr) (c1 : Nat) (z1 : List Part) (a2 : Int) (w : World) (hma0 : ma0 < 4294967296) (hba0 : ba0 < 4294967296)
    (hr1 : Parts w w.heap.size A1 z1) (hc1 : z1.length ≤ c1) (hm1 : c1 ≤ maxLen) (_hw1 : True) (w2 : (Lit.int .u8 a2).wf = true) :
    Calls Try.prog 5 #[ctr mn0 mx0 ma0 ba0, .slice A1 z1.length c1, .int .u8 a2] w fun e w' => e = .returned (.bool true) ∧ Below w.heap.size w w' := by
  have bb := bounds_u8 w2
  obtain ⟨b, rfl⟩ := Int.eq_ofNat_of_zero_le bb.1
  by_cases h : okI mn0 mx0 ma0 ba0
  · obtain ⟨C, K, rfl, rfl, rfl, rfl⟩ := ctr_of h hma0 hba0
    exact streams_ok C K A1 c1 z1.length b z1 w rfl hc1 hm1 hr1 (by omega)
  · exact streams_bad mn0 mx0 ma0 ba0 h _ _ w

set_option maxRecDepth 100000 in
theorem lifted (os : Os) (started : os.Started) (H : Type) (enc : TypeId × Value → H) :
    ReturnsInHanded {} Try.checked os 5 .any (Rows.chunkStreamsSpec.pre6 enc Try.prog Try.f5 Rows.chunkStreamsRow.domain false) (Rows.chunkStreamsSpec.post enc Try.prog Try.f5 false true false false) := by
  refine returnsInHanded_of_change (C := Try.checked) own started (by kernel_rfl) Try.func5
    (ChangeSpec.witness6 (enc := enc) (C := Try.checked) false ⟨#[], #[.agg #[.int .i64 0, .int .i64 0, .int .u32 0, .int .u32 0], .slice none 0 0, .int .u8 0], []⟩ 8 (by kernel_rfl) (by kernel_rfl) (by kernel_rfl) (by kernel_rfl)) ?_
  intro W base args ds gs before hval0 hW hcnd _
  have hval : ∀ (j : Nat) t v, Try.f5.params[j]? = some t → args[j]? = some v → Value.okWide Try.prog W .any base t v := hval0
  have hW' := hW
  obtain ⟨p, q, hA0, hV, rfl, hfz, hnd⟩ := hW
  have hA : DataW.TrodAll enc Try.prog W 0 (fun _ => true) true Try.f5.params.toList args.toList ds p := hA0
  rw [Try.params5] at hA hval
  obtain ⟨v0, vs0, d0, ds0, p0, q0, hargs, rfl, rfl, h0, r0⟩ := trodAll_cons hA
  obtain ⟨v1, vs1, d1, ds1, p1, q1, rfl, rfl, rfl, h1, r1⟩ := trodAll_cons r0
  obtain ⟨v2, vs2, d2, ds2, p2, q2, rfl, rfl, rfl, h2, r2⟩ := trodAll_cons r1
  obtain ⟨rfl, rfl, rfl⟩ := trodAll_nil r2
  obtain rfl : args = #[v0, v1, v2] := by cases args; simp_all
  obtain ⟨rfl, rfl⟩ := trodVars_none hV
  have k0 := h0
  have lt0 : ∀ x ∈ p0, x.block < W.heap.size := by obtain ⟨m, hm⟩ := k0; exact DataW.trod_lt m _ _ _ hm
  obtain ⟨mn0, mx0, ma0, ba0, rfl, hma0, hba0⟩ := open_ctr (hval 0 24 v0 rfl rfl) h0
  obtain ⟨A1, n1, c1, rfl⟩ := okWide_slice Try.underlying32 (hval 1 32 v1 rfl rfl)
  have k1 := h1
  have lt1 : ∀ x ∈ p1, x.block < W.heap.size := by obtain ⟨m, hm⟩ := k1; exact DataW.trod_lt m _ _ _ hm
  obtain ⟨fuel1, hf1⟩ := h1
  obtain ⟨z1, rfl, hr1, hc1, hm1, hw1⟩ := open_rows_arg hf1
  obtain ⟨a2, rfl, rfl, rfl, w2⟩ := open_int Try.underlying5 (hval 2 5 v2 rfl rfl) h2
  clear hA0 hval0
  simp only [List.append_nil] at hW'
  refine (walk mn0 mx0 ma0 ba0 A1 c1 z1 a2 W hma0 hba0 hr1 hc1 hm1 hw1 w2).mono fun e W' ⟨he, bel⟩ => ?_
  subst he
  exact ⟨_, rfl, _, _, _, [], _, [], hW', trodAll_mk1 (shut_bool Try.underlying4 _), (trodAll_cons_mk (Below.trod laidOut (by kernel_rfl) (of_decide_eq_true (by kernel_rfl)) k0 bel lt0) (trodAll_cons_mk (Below.trod laidOut (by kernel_rfl) (of_decide_eq_true (by kernel_rfl)) k1 bel lt1) (trodAll_cons_mk (shut_int Try.underlying5 w2) trodAll_mk0))), rfl, bel.frame _, fun h => by cases h⟩

theorem over : Rows.chunkStreamsRow.holds Try.pinned (OpenSpec.ofChange Rows.chunkStreamsSpec) :=
  OpenClaim.holds_of_wide 5 Try.f5 rfl rfl rfl rfl rfl rfl rfl ⟨rfl, rfl, rfl, rfl, rfl⟩ rfl rfl rfl rfl rfl (by kernel_rfl) Try.func5 (by kernel_rfl)
    (of_decide_eq_true (by kernel_rfl)) (by unfold Func.isWrapper; first | (rw [if_pos (by decide +kernel)]; kernel_rfl) | (rw [if_neg (by decide +kernel)]; exact ⟨rfl, rfl⟩))
    (fun os started H enc _ => lifted os started H enc)

theorem proved : Rows.ChunkStreamsSaid := over
#print axioms proved
end Go.Proofs.Ytmnbfmcgnddlaaa.chunkStreams
