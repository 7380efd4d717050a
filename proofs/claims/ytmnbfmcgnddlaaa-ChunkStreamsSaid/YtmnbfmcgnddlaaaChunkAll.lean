/- The contracts of All, and of the reference's All and Same. No statement of the seat is proved here. -/
import Derived.Test.YtmnbfmcgnddlaaaChunkEnds
namespace Go.Proofs.Ytmnbfmcgnddlaaa
open Go.RowKit

theorem ok_true {C : Ctr} (K : C.Ok) : decide (okI C.mn C.mx C.ma.toNat C.ba.toNat) = true := decide_eq_true ⟨by have := K.lo; omega, by have := K.le; omega, by have := K.hi; omega, by have := K.ma1; omega, by have := K.ba1; omega⟩

set_option maxHeartbeats 1000000 in
theorem all_bad (mn mx ma ba : Int) (hk : ¬ okI mn mx ma ba) (A : Option Addr) (n c : Nat) (w : World) :
    Calls Try.prog 17 #[ctr mn mx ma ba, .slice A n c] w fun e w' => e = .returned (.slice none 0 0) ∧ Below w.heap.size w w' := by
  have hb1 := (Below.refl w.heap.size w).alloc (Nat.le_refl _) (.cells #[.int .i64 mn, .int .i64 mx, .int .u32 ma, .int .u32 ba] 24)
  go_enter Try.func17, Try.ntmps17
  go_wp2_with fail
  refine (right_any mn mx ma ba _).mono ?_
  rintro e w2 ⟨rfl, hb2⟩
  have hb2 := hb1.trans (hb2.mono hb1.size)
  rw [decide_eq_false hk]
  clear hb1
  go_wp2
  go_ret
  exact ⟨rfl, hb2⟩
set_option maxHeartbeats 1000000 in
theorem refall_bad (mn mx ma ba : Int) (hk : ¬ okI mn mx ma ba) (A : Option Addr) (n c : Nat) (w : World) :
    Calls Try.prog 18 #[ctr mn mx ma ba, .slice A n c] w fun e w' => e = .returned (.slice none 0 0) ∧ Below w.heap.size w w' := by
  have hb1 := (Below.refl w.heap.size w).alloc (Nat.le_refl _) (.cells #[.int .i64 mn, .int .i64 mx, .int .u32 ma, .int .u32 ba] 24)
  go_enter Try.func18, Try.ntmps18
  go_wp2_with fail
  refine (refright_any mn mx ma ba _).mono ?_
  rintro e w2 ⟨rfl, hb2⟩
  have hb2 := hb1.trans (hb2.mono hb1.size)
  rw [decide_eq_false hk]
  clear hb1
  go_wp2
  go_ret
  exact ⟨rfl, hb2⟩

theorem chunks_few {C : Ctr} (K : C.Ok) (l : List UInt8) : (chunksB C l).length ≤ l.length := by
  have h := chunks_sizes K l
  have hf := congrArg List.length (ends_flat K l)
  rw [List.length_append] at hf
  have : ∀ xs : List (List UInt8), (∀ x ∈ xs, C.mn ≤ x.length ∧ x.length ≤ C.mx) → xs.length ≤ xs.flatten.length := by
    intro xs
    induction xs with
    | nil => intro _; exact Nat.zero_le _
    | cons x xs ih =>
      intro hx
      have h1 := (hx x List.mem_cons_self).1
      have h2 := ih fun y hy => hx y (List.mem_cons_of_mem _ hy)
      have := K.lo
      simp only [List.length_cons, List.flatten_cons, List.length_append]
      omega
  have := this _ h
  omega

set_option maxHeartbeats 1000000 in
theorem all_ok (C : Ctr) (K : C.Ok) (A : Option Addr) (l : List UInt8) (n c : Nat) (hl : l.length = n) (hn : n ≤ 1000000000) (hc : n ≤ c) (hm : c ≤ 9223372036854775807) (w : World) (hr : Rd w w.heap.size A l) :
    Calls Try.prog 17 #[ctr C.mn C.mx C.ma.toNat C.ba.toNat, .slice A n c] w fun e w' => ∃ V, e = .returned V ∧ (∃ ps, Chunks w' w.heap.size V ps ∧ psb ps = allC C l) ∧ Below w.heap.size w w' := by
  obtain ⟨i0, hi, hz0, hz1, hz2⟩ := info_parts info_bytes
  obtain ⟨g, hg⟩ : ∃ g, g = w.heap.size := ⟨_, rfl⟩
  have hb1 := (Below.refl w.heap.size w).alloc (Nat.le_refl _) (.cells #[.int .i64 C.mn, .int .i64 C.mx, .int .u32 C.ma.toNat, .int .u32 C.ba.toNat] 24)
  have hB1 := blk_at w 24 #[.int .i64 C.mn, .int .i64 C.mx, .int .u32 C.ma.toNat, .int .u32 C.ba.toNat] hg
  have HL := Lib.hid hl
  have HK := Lib.hid K
  have HG := Lib.hid hg
  have hk := ok_true K
  clear hl K
  go_enter Try.func17, Try.ntmps17
  go_wp2_with fail
  rw [← hg]
  generalize w.alloc (.cells #[.int .i64 C.mn, .int .i64 C.mx, .int .u32 C.ma.toNat, .int .u32 C.ba.toNat] 24) = w1 at *
  refine (right_any _ _ _ _ _).mono ?_
  rintro e w2 ⟨rfl, hb2⟩
  have hB2 := hB1.below hb2 hB1.lt
  have hb2 := hb1.trans (hb2.mono hb1.size)
  have hr2 := Lib.hid (show Rd w2 w2.heap.size A l from (hr.below hb2).more hb2.size)
  rw [hk]
  obtain ⟨hc0, hc1, hc2, hc3⟩ := ctr_cells hB2
  clear hB1 hB2 hb1 hr hk hg
  go_wp2_with fail
  with_reducible refine (split_ok C HK.out A l n c HL.out hn hc hm w2 hr2.out).mono ?_
  rintro e w3 ⟨V, A', k', c', rfl, hS, hb3⟩
  obtain ⟨⟨ps, hch, hps⟩, hk', hrd, hle, hmx, _⟩ := hS
  have hb3' := hb2.trans (hb3.mono hb2.size)
  have hpl : ps.length ≤ 1000000000 := by
    have h1 := chunks_few HK.out l
    rw [← hps, HL.out] at h1
    simp [psb] at h1
    omega
  have hkl : k' ≤ 1000000000 := by
    have h1 := congrArg List.length (ends_flat HK.out l)
    rw [List.length_append, HL.out, hk'] at h1
    omega
  clear hc0 hc1 hc2 hc3
  by_cases h0 : k' = 0
  · have hl0 : leftB C l = [] := List.eq_nil_of_length_eq_zero (by omega)
    have H := Lib.hid (show ∃ ps, Chunks w3 w.heap.size V ps ∧ psb ps = allC C l from ⟨ps, hch.base hb2.size, by rw [hps]; simp [allC, tailB, hl0]⟩)
    clear hch hps hk' hrd hl0 hpl hb3 hb2
    subst h0
    go_wp2
    go_ret
    exact ⟨_, rfl, H.out, hb3'⟩
  · have hkp : (0 : Int) < (k' : Int) := by omega
    have hl0 : leftB C l ≠ [] := fun h => h0 (by rw [← hk', h]; rfl)
    have HE := Lib.hid (show psb ps ++ [leftB C l] = allC C l by rw [hps]; simp [allC, tailB, hl0])
    have hrd3 := Lib.hid (hrd.more hb3.size)
    have HKL := Lib.hid hk'
    clear hps hl0 hrd hk'
    go_wp2_with fail
    with_reducible refine (clone_any A' (leftB C l) k' c' HKL.out hkl w3 hrd3.out).mono ?_
    rintro e w4 ⟨A2, c2, rfl, ho2, hb4⟩
    have hpv : Part.val (A2, c2, leftB C l) = .slice A2 k' c2 := by simp only [Part.val]; rw [HKL.out]
    have hbb := (Below.refl w4.heap.size w4).alloc (Nat.le_refl _) (.cells #[.slice A2 k' c2] 25)
    have hch5 := (hch.on hb4).on hbb
    have ho5 : (w4.alloc (.cells #[.slice A2 k' c2] 25)).ownsRow w2.heap.size 5 1 (Part.val (A2, c2, leftB C l)) (leftB C l).length (bv (leftB C l)) := by
      rw [hpv, HKL.out]
      exact ownsRow_base (ownsRow_below ho2 hbb) hb3.size
    have hb5 := (hb3.trans (hb4.mono hb3.size)).alloc (hb3.trans (hb4.mono hb3.size)).size (.cells #[.slice A2 k' c2] 25)
    have H5 := Lib.hid (And.intro ho5 (And.intro hb5 hch5))
    have HB2 := Lib.hid hb2
    clear hch hb3 hb3' hrd3 hbb hch5 ho5 hb5 hb4 ho2 hb2
    go_wp2_with (at_builtin; refine wpList_append_own _ rfl (.tmp 19) (.tmp 22) 32 rfl w2.heap.size 25 i0 (.slice none 0 0) 1 24 Try.underlying32 hi hz0 hz1 hz2 rfl (by decide) V ps.length (psv ps) rfl H5.out.2.2.row ⟨w4.heap.size, 0, none⟩ 1 1 [.slice A2 k' c2] rfl rfl ?c1 ?c2 ?c3 ?c4 ?c5 ?_)
    case c1 => exact cell_one_new _ _ _
    case c2 => intro u hu; simp at hu; subst hu; rfl
    case c3 => unfold maxLen; omega
    case c4 => omega
    case c5 => exact H5.out.2.1.size
    intro V' w5 hown' hgrow _
    have hch6 : Chunks w5 w2.heap.size V' (ps ++ [(A2, c2, leftB C l)]) := H5.out.2.2.push H5.out.1 (by rw [hpv]; exact hown') hgrow
    have hb6 : Below w2.heap.size w2 w5 := H5.out.2.1.grown hgrow H5.out.2.1.size (fun g hg => (H5.out.2.2.row.lt g hg).1)
    have H6 := Lib.hid (show (∃ ps, Chunks w5 w.heap.size V' ps ∧ psb ps = allC C l) ∧ Below w.heap.size w w5 from ⟨⟨_, hch6.base HB2.out.size, by rw [← HE.out]; simp [psb]⟩, HB2.out.trans (hb6.mono HB2.out.size)⟩)
    clear hch6 hb6 hown' hgrow hpv
    go_wp2
    go_ret
    exact ⟨_, rfl, H6.out⟩
end Go.Proofs.Ytmnbfmcgnddlaaa
