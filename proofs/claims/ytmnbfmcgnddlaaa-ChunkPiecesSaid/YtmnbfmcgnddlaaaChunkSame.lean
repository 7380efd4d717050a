/- The contracts of the reference's All and of Same. No statement of the seat is proved here. -/
import Derived.Test.YtmnbfmcgnddlaaaChunkAll
namespace Go.Proofs.Ytmnbfmcgnddlaaa
open Go.RowKit

set_option maxHeartbeats 1000000 in
theorem refall_ok (C : Ctr) (K : C.Ok) (A : Option Addr) (l : List UInt8) (n c : Nat) (hl : l.length = n) (hn : n ≤ 1000000000) (hc : n ≤ c) (hm : c ≤ 9223372036854775807) (w : World) (hr : Rd w w.heap.size A l) :
    Calls Try.prog 18 #[ctr C.mn C.mx C.ma.toNat C.ba.toNat, .slice A n c] w fun e w' => ∃ V, e = .returned V ∧ (∃ ps, Cuts w' w.heap.size w'.heap.size V ps ∧ psb ps = allC C l) ∧ Below w.heap.size w w' := by
  obtain ⟨i0, hi, hz0, hz1, hz2⟩ := info_parts info_bytes
  obtain ⟨g, hg⟩ : ∃ g, g = w.heap.size := ⟨_, rfl⟩
  have hb1 := (Below.refl w.heap.size w).alloc (Nat.le_refl _) (.cells #[.int .i64 C.mn, .int .i64 C.mx, .int .u32 C.ma.toNat, .int .u32 C.ba.toNat] 24)
  have hB1 := blk_at w 24 #[.int .i64 C.mn, .int .i64 C.mx, .int .u32 C.ma.toNat, .int .u32 C.ba.toNat] hg
  have HL := Lib.hid hl
  have HK := Lib.hid K
  have HG := Lib.hid hg
  have hk := ok_true K
  clear hl K
  go_enter Try.func18, Try.ntmps18
  go_wp2_with fail
  rw [← hg]
  generalize w.alloc (.cells #[.int .i64 C.mn, .int .i64 C.mx, .int .u32 C.ma.toNat, .int .u32 C.ba.toNat] 24) = w1 at *
  refine (refright_any _ _ _ _ _).mono ?_
  rintro e w2 ⟨rfl, hb2⟩
  have hB2 := hB1.below hb2 hB1.lt
  have hb2 := hb1.trans (hb2.mono hb1.size)
  have hr2 := Lib.hid (show Rd w2 w2.heap.size A l from (hr.below hb2).more hb2.size)
  rw [hk]
  obtain ⟨hc0, hc1, hc2, hc3⟩ := ctr_cells hB2
  clear hB1 hB2 hb1 hr hk hg
  go_wp2_with fail
  with_reducible refine (refends_ok C HK.out A l n c HL.out hn hc hm w2 hr2.out).mono ?_
  rintro e w3 ⟨V, A', k', c', rfl, hS, hb3⟩
  obtain ⟨⟨ps, hch, hps⟩, hk', hrd, hle, hmx, _⟩ := hS
  have hb3' := hb2.trans (hb3.mono hb2.size)
  have hpl : ps.length ≤ 1000000000 := by
    have h1 := chunks_few HK.out l
    rw [← hps, HL.out] at h1
    simp [psb] at h1
    omega
  have hkl : k' ≤ 1000000000 := by
    have h1 := congrArg List.length (ends_flat HK.out l)
    rw [List.length_append, HL.out, hk'] at h1
    omega
  clear hc0 hc1 hc2 hc3
  by_cases h0 : k' = 0
  · have hl0 : leftB C l = [] := List.eq_nil_of_length_eq_zero (by omega)
    have H := Lib.hid (show ∃ ps, Cuts w3 w.heap.size w3.heap.size V ps ∧ psb ps = allC C l from ⟨ps, ⟨ownsRow_base hch.row hb2.size, fun p hp => ⟨(hch.each p hp).1.more hb3.size, (hch.each p hp).2⟩⟩, by rw [hps]; simp [allC, tailB, hl0]⟩)
    clear hch hps hk' hrd hl0 hpl hb3 hb2
    subst h0
    go_wp2
    go_ret
    exact ⟨_, rfl, H.out, hb3'⟩
  · have hkp : (0 : Int) < (k' : Int) := by omega
    have hl0 : leftB C l ≠ [] := fun h => h0 (by rw [← hk', h]; rfl)
    have HE := Lib.hid (show psb ps ++ [leftB C l] = allC C l by rw [hps]; simp [allC, tailB, hl0])
    have hrd3 := Lib.hid hrd
    have HCE := Lib.hid hch.each
    have HS3 := Lib.hid hb3.size
    have HKL := Lib.hid hk'
    clear hps hl0 hrd hk'
    have hpv : Part.val (A', c', leftB C l) = .slice A' k' c' := by simp only [Part.val]; rw [HKL.out]
    have hbb := (Below.refl w3.heap.size w3).alloc (Nat.le_refl _) (.cells #[.slice A' k' c'] 25)
    have hch5 := hch.on hbb hb3.size
    have hb5 := hb3.alloc hb3.size (.cells #[.slice A' k' c'] 25)
    have H5 := Lib.hid (And.intro hb5 hch5)
    have HB2 := Lib.hid hb2
    have HLE := Lib.hid (And.intro hle hmx)
    clear hch hb3 hb3' hbb hch5 hb5 hb2
    go_wp2_with (at_builtin; refine wpList_append_own _ rfl (.tmp 19) (.tmp 21) 32 rfl w2.heap.size 25 i0 (.slice none 0 0) 1 24 Try.underlying32 hi hz0 hz1 hz2 rfl (by decide) V ps.length (psv ps) rfl H5.out.2.row ⟨w3.heap.size, 0, none⟩ 1 1 [.slice A' k' c'] rfl rfl ?c1 ?c2 ?c3 ?c4 ?c5 ?_)
    case c1 => exact cell_one_new _ _ _
    case c2 => intro u hu; simp at hu; subst hu; rfl
    case c3 => unfold maxLen; omega
    case c4 => omega
    case c5 => exact H5.out.1.size
    intro V' w5 hown' hgrow _
    have hsz := hgrow.size
    have hle5 : w2.heap.size ≤ w5.heap.size := by have := H5.out.1.size; omega
    have hb6 : Below w2.heap.size w2 w5 := H5.out.1.grown hgrow H5.out.1.size (fun g hg => (H5.out.2.row.lt g hg).1)
    have hb35 : Below w2.heap.size w3 w5 := ((Below.refl w2.heap.size w3).alloc HS3.out (.cells #[.slice A' k' c'] 25)).grown hgrow H5.out.1.size (fun g hg => (H5.out.2.row.lt g hg).1)
    have hC : Cuts w5 w.heap.size w5.heap.size V' (ps ++ [(A', c', leftB C l)]) :=
      ⟨ownsRow_base (by rw [List.length_append, psv, List.map_append, List.map_singleton, hpv]; exact hown') HB2.out.size, fun p hp => (List.mem_append.1 hp).elim
        (fun hp => ⟨((HCE.out p hp).1.below hb35).more hle5, (HCE.out p hp).2⟩)
        (fun hp => by rw [List.mem_singleton.1 hp]; exact ⟨(hrd3.out.below hb35).more hle5, by simp only []; rw [HKL.out]; exact HLE.out.1, by simpa [maxLen] using HLE.out.2⟩)⟩
    have H6 := Lib.hid (show (∃ ps, Cuts w5 w.heap.size w5.heap.size V' ps ∧ psb ps = allC C l) ∧ Below w.heap.size w w5 from ⟨⟨_, hC, by rw [← HE.out]; simp [psb]⟩, HB2.out.trans (hb6.mono HB2.out.size)⟩)
    clear hC hb35
    clear hb6 hown' hgrow hpv
    go_wp2
    go_ret
    exact ⟨_, rfl, H6.out⟩

set_option maxHeartbeats 1000000 in
theorem same_true (A1 A2 : Option Addr) (n c1 c2 : Nat) (ps1 ps2 : List Part) (hn : ps1.length = n) (hm : n ≤ 9223372036854775807) (he : psb ps1 = psb ps2) (w : World) (h1 : Parts w w.heap.size A1 ps1) (h2 : Parts w w.heap.size A2 ps2) :
    Calls Try.prog 16 #[.slice A1 n c1, .slice A2 n c2] w fun e w' => e = .returned (.bool true) ∧ ∃ q, w' = w.drewN q := by
  have hn2 : ps2.length = n := by have := congrArg List.length he; simp [psb] at this; omega
  have HN := Lib.hid hn
  have HN2 := Lib.hid hn2
  have HE := Lib.hid he
  have H1 := Lib.hid h1
  have H2 := Lib.hid h2
  clear hn hn2 he h1 h2
  go_enter Try.func16, Try.ntmps16
  go_wp2_with fail
  go_loopw [5] (fun i wr => ∃ j : Nat, j ≤ n ∧ i = .int .i64 j ∧ ∃ q, wr = w.drewN q) (fun i _ => n - (intOf i).toNat)
  case atStart => exact ⟨0, Nat.zero_le _, rfl, 0, rfl⟩
  case round =>
    obtain ⟨j, hj, rfl, q, rfl⟩ := hrel
    by_cases hlt : j < n
    · have hj1 : j < ps1.length := by rw [HN.out]; exact hlt
      have hj2 : j < ps2.length := by rw [HN2.out]; exact hlt
      obtain ⟨g1, o1, rfl, _, hc1⟩ := H1.out.at_ hj1
      obtain ⟨g2, o2, rfl, _, hc2⟩ := H2.out.at_ hj2
      have hr1 := (H1.out.each ps1[j] (List.getElem_mem hj1)).1
      have hr2 := (H2.out.each ps2[j] (List.getElem_mem hj2)).1
      have hee : (ps1[j]).2.2 = (ps2[j]).2.2 := by
        have := congrArg (fun l => l[j]?) HE.out
        simp [psb, hj1, hj2] at this
        exact this
      obtain ⟨⟨P1, C1, L1⟩, hp1⟩ : ∃ p, p = ps1[j] := ⟨_, rfl⟩
      obtain ⟨⟨P2, C2, L2⟩, hp2⟩ : ∃ p, p = ps2[j] := ⟨_, rfl⟩
      rw [← hp1] at hc1 hr1 hee
      rw [← hp2] at hc2 hr2 hee
      simp only [Part.val] at hc1 hc2 hr1 hr2 hee
      subst hee
      obtain ⟨m, hm⟩ : ∃ m, m = L1.length := ⟨_, rfl⟩
      rw [← hm] at hc1 hc2
      have q1 := fun r => str_of hr1 m C1 hm.symm (w.drewN (q + r)) (below_drewN (Below.refl _ _) _)
      have q2 := fun r => str_of hr2 m C2 hm.symm (w.drewN (q + r)) (below_drewN (Below.refl _ _) _)
      clear hr1 hr2 hp1 hp2 hj1 hj2 hm
      generalize (⟨L1.toArray⟩ : ByteArray) = s at *
      go_wp2_with fail
      go_quiet (fail)
      go_wp2_with fail
      go_roundw
      case rel => exact ⟨j + 1, by omega, by go_num, _, rfl⟩
      case measure => simp [intOf]; omega
    · obtain rfl : j = n := by omega
      go_wp2
      go_ret
      exact ⟨rfl, q, rfl⟩
end Go.Proofs.Ytmnbfmcgnddlaaa
