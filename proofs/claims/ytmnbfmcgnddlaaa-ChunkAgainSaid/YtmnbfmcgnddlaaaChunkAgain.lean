/-
  That where a chunk ends all is as at the beginning: for every cutter, all bytes (the first 5,000) and every choice of a chunk the law ChunkAgain returns true; no condition.
-/
import Derived.Test.YtmnbfmcgnddlaaaRows
import Derived.Test.YtmnbfmcgnddlaaaOpen
import Derived.Test.YtmnbfmcgnddlaaaChunkLaw
import Derived.WalkKit
import Derived.ProofKit
import Derived.OpenShut
import Derived.ShutString
import Derived.ChangeOld
import Derived.Below
namespace Go.Proofs.Ytmnbfmcgnddlaaa.chunkAgain
open Go.ChangeShapes Go.WideShapes Go.ChangeAt Go.RowKit
open Go.ChangeMaps (open_string shut_string)
set_option linter.unusedVariables false

theorem own : ownKnob Try.prog.godebug = none := by kernel_rfl
theorem laidOut : laidOutB Try.prog = true := by kernel_rfl

set_option maxHeartbeats 1000000 in
theorem again_bad (mn mx ma ba : Int) (hk : ¬ okI mn mx ma ba) (A : Option Addr) (c n : Nat) (b : Int) (w : World) (hc : n ≤ c) (hm : c ≤ 9223372036854775807) :
    Calls Try.prog 8 #[ctr mn mx ma ba, .slice A n c, .int .u8 b] w fun e w' => e = .returned (.bool true) ∧ Below w.heap.size w w' := by
  obtain ⟨m, hm20⟩ : ∃ m, m = min n 5000 := ⟨_, rfl⟩
  have hmc : (m : Int) ≤ (c : Int) := by omega
  have hif : (if (5000 : Int) < (n : Int) then (5000 : Int) else (n : Int)) = (m : Int) := by split <;> omega
  obtain ⟨g, hg⟩ : ∃ g, g = w.heap.size := ⟨_, rfl⟩
  have hb1 := (Below.refl w.heap.size w).alloc (Nat.le_refl _) (.cells #[.int .i64 mn, .int .i64 mx, .int .u32 ma, .int .u32 ba] 24)
  have hB1 := blk_at w 24 #[.int .i64 mn, .int .i64 mx, .int .u32 ma, .int .u32 ba] hg
  have HG := Lib.hid hg
  go_enter Try.func8, Try.ntmps8
  go_wp2_with fail
  rw [← hg]
  generalize w.alloc (.cells #[.int .i64 mn, .int .i64 mx, .int .u32 ma, .int .u32 ba] 24) = w1 at *
  refine (shown_any _).mono ?_
  rintro e w2 ⟨rfl, hb2⟩
  have hB2 := hB1.below hb2 hB1.lt
  have hb2 := hb1.trans (hb2.mono hb1.size)
  obtain ⟨c0, c1, c2, c3⟩ := ctr_cells hB2
  have HM := Lib.hid hm20
  have hb20 := hb2
  clear hg hb1 hB1 hm20
  go_wp2_with fail
  with_reducible refine (all_bad mn mx ma ba hk A m c w2).mono ?_
  rintro e w3 ⟨rfl, hb3⟩
  have hb3 := hb20.trans (hb3.mono hb20.size)
  clear c0 c1 c2 c3 hB2 hif hmc hb2 hb20
  go_wp2_with fail
  go_ret
  exact ⟨rfl, hb3⟩
theorem flat_le (ls : List (List UInt8)) (j : Nat) : (ls.take j).flatten.length ≤ ls.flatten.length := by
  have := congrArg List.length (congrArg List.flatten (List.take_append_drop j ls))
  rw [List.flatten_append, List.length_append] at this
  omega
theorem flat_snoc (ls : List (List UInt8)) (j : Nat) (h : j < ls.length) : (ls.take (j + 1)).flatten = (ls.take j).flatten ++ ls[j] := by
  rw [List.take_succ_eq_append_getElem h, List.flatten_append]; simp
set_option maxHeartbeats 2000000 in
theorem again_ok (C : Ctr) (K : C.Ok) (A : Option Addr) (c n b : Nat) (l : List UInt8) (w : World) (hl : l.length = n) (hc : n ≤ c) (hm : c ≤ 9223372036854775807) (hr : Rd w w.heap.size A l) (hbb : b < 256) :
    Calls Try.prog 8 #[ctr C.mn C.mx C.ma.toNat C.ba.toNat, .slice A n c, .int .u8 b] w fun e w' => e = .returned (.bool true) ∧ Below w.heap.size w w' := by
  obtain ⟨m, hm20⟩ : ∃ m, m = min n 5000 := ⟨_, rfl⟩
  have hmc : (m : Int) ≤ (c : Int) := by omega
  have hif : (if (5000 : Int) < (n : Int) then (5000 : Int) else (n : Int)) = (m : Int) := by split <;> omega
  obtain ⟨x, hx⟩ : ∃ x, x = l.take m := ⟨_, rfl⟩
  have hxl : x.length = m := by rw [hx, List.length_take]; omega
  have hm5 : m ≤ 5000 := by omega
  have hmcn : m ≤ c := by omega
  obtain ⟨g, hg⟩ : ∃ g, g = w.heap.size := ⟨_, rfl⟩
  have hb1 := (Below.refl w.heap.size w).alloc (Nat.le_refl _) (.cells #[.int .i64 C.mn, .int .i64 C.mx, .int .u32 C.ma.toNat, .int .u32 C.ba.toNat] 24)
  have hB1 := blk_at w 24 #[.int .i64 C.mn, .int .i64 C.mx, .int .u32 C.ma.toNat, .int .u32 C.ba.toNat] hg
  have HG := Lib.hid hg
  have HK := Lib.hid K
  clear K
  go_enter Try.func8, Try.ntmps8
  go_wp2_with fail
  rw [← hg]
  generalize w.alloc (.cells #[.int .i64 C.mn, .int .i64 C.mx, .int .u32 C.ma.toNat, .int .u32 C.ba.toNat] 24) = w1 at *
  refine (shown_any _).mono ?_
  rintro e w2 ⟨rfl, hb2⟩
  have hB2 := hB1.below hb2 hB1.lt
  have hb2 := hb1.trans (hb2.mono hb1.size)
  obtain ⟨c0, c1, c2, c3⟩ := ctr_cells hB2
  have HKB := Lib.hid (show ∀ W, Below w2.heap.size w2 W → W.cell? ⟨g, 0, none⟩ = some (.int .i64 C.mn) ∧ W.cell? ⟨g, 1, none⟩ = some (.int .i64 C.mx) ∧ W.cell? ⟨g, 2, none⟩ = some (.int .u32 C.ma.toNat) ∧ W.cell? ⟨g, 3, none⟩ = some (.int .u32 C.ba.toNat) from fun W h => ctr_cells (hB2.below h hB2.lt))
  have HR := Lib.hid (show ∀ W, Below w2.heap.size w2 W → Rd W W.heap.size A x from fun W h => by rw [hx]; exact (((hr.below hb2).below (h.mono hb2.size)).take m).more (by have := h.size; have := hb2.size; omega))
  have HM := Lib.hid hm20
  have HX := Lib.hid hxl
  have HB2 := Lib.hid hb2
  clear hg hb1 hB1 hm20 hb2 hB2 hx hr hl
  go_wp2_with fail
  with_reducible refine (all_told C HK.out A x m c HX.out (by omega) hmcn hm w2 (HR.out w2 (Below.refl _ _))).mono ?_
  rintro e w3 ⟨A4, c4, rfl, ht3⟩
  obtain ⟨k, hk⟩ : ∃ k, k = (allC C x).length := ⟨_, rfl⟩
  rw [← hk] at ht3 ⊢
  have hb3 := HB2.out.trans (ht3.bel.mono HB2.out.size)
  have hx3 := ht3.bel
  have hag := allC_again HK.out
  obtain ⟨ps, hps, hpe⟩ := ht3.rows
  have hkc := ht3.le
  have hcm := ht3.max
  have HPS := Lib.hid hps
  have HPE := Lib.hid hpe
  have HKL := Lib.hid hk
  have HB3 := Lib.hid hb3
  have HX3 := Lib.hid hx3
  clear c0 c1 c2 c3 hif hmc hps hpe hk ht3 hb3 hx3
  have hk9 : k ≤ c4 := hkc
  have hc9 : c4 ≤ 9223372036854775807 := by simpa [maxLen] using hcm
  clear hkc hcm
  by_cases h2 : k < 2
  · have h2i : (k : Int) < 2 := by omega
    clear hag
    go_wp2_with fail
    go_ret
    exact ⟨rfl, HB3.out⟩
  · have h2i : ¬ (k : Int) < 2 := by omega
    obtain ⟨q, hq⟩ : ∃ q, q = b % (k - 1) := ⟨_, rfl⟩
    have hqk : q < k - 1 := by rw [hq]; exact Nat.mod_lt _ (by omega)
    have hk1 : (k : Int) - 1 = ((k - 1 : Nat) : Int) := by omega
    have hq1 : (b : Int) % ((k - 1 : Nat) : Int) = (q : Int) := by rw [hq]; rfl
    have hqt : (b : Int).tmod ((k - 1 : Nat) : Int) = (q : Int) := by rw [Int.tmod_eq_emod_of_nonneg (by omega)]; exact hq1
    have hk0 : ¬ k - 1 = 0 := by omega
    clear hq
    obtain ⟨y, hy⟩ : ∃ y, y = k - 1 := ⟨_, rfl⟩
    rw [← hy] at hk1 hq1 hqt hk0
    have HY := Lib.hid hy
    clear hy
    have hq2 : q + 1 < k := by omega
    go_wp2_with fail
    clear hqt hq1 hk1 hk0 HY hqk
    obtain ⟨ls, hls⟩ : ∃ ls, ls = allC C x := ⟨_, rfl⟩
    have hag := hag q x (by rw [← HKL.out]; exact hq2)
    have hfl := allC_flat HK.out x
    have HPE := Lib.hid (show psb ps = ls by rw [hls]; exact HPE.out)
    have HKL := Lib.hid (show k = ls.length by rw [hls]; exact HKL.out)
    rw [← hls] at hag hfl
    have HAG := Lib.hid hag
    have HFL := Lib.hid (show ls.flatten.length = m by rw [hfl]; exact HX.out)
    clear hag hfl hls
    have HFQ := Lib.hid (show ((ls.take (q + 1)).flatten).length ≤ m by have := flat_le ls (q + 1); rw [HFL.out] at this; exact this)
    go_loop [11, 12] (fun a i => ∃ j : Nat, j ≤ q + 1 ∧ i = .int .i64 j ∧ a = .int .i64 ((ls.take j).flatten).length) (fun _ i => q + 2 - (intOf i).toNat)
    case atStart => exact ⟨0, Nat.zero_le _, rfl, by simp⟩
    case round =>
      obtain ⟨j, hj, rfl, rfl⟩ := hrel
      by_cases hlt : j ≤ q
      · have hjl : j < ls.length := by rw [← HKL.out]; omega
        have hjp : j < ps.length := by rw [← HPE.out] at hjl; simpa [psb] using hjl
        obtain ⟨g1, o1, rfl, _, hc1⟩ := HPS.out.at_ hjp
        have hee : (ps[j]).2.2 = ls[j] := by
          have := congrArg (fun l => l[j]?) HPE.out
          simp [psb, hjp, hjl] at this
          exact this
        obtain ⟨⟨P1, C1, L1⟩, hp1⟩ : ∃ p, p = ps[j] := ⟨_, rfl⟩
        rw [← hp1] at hc1 hee
        simp only [Part.val] at hc1 hee
        have hsn := congrArg List.length (flat_snoc ls j hjl)
        rw [← hee, List.length_append] at hsn
        have hle := flat_le ls (j + 1)
        rw [HFL.out] at hle
        obtain ⟨t, ht⟩ : ∃ t, t = L1.length := ⟨_, rfl⟩
        rw [← ht] at hc1 hsn
        clear hp1 hjp hjl hee ht
        obtain ⟨a2, ha2⟩ : ∃ a2, a2 = ((ls.take (j + 1)).flatten).length := ⟨_, rfl⟩
        obtain ⟨a1, ha1⟩ : ∃ a1, a1 = ((ls.take j).flatten).length := ⟨_, rfl⟩
        rw [← ha2, ← ha1] at hsn
        rw [← ha2] at hle
        rw [← ha1]
        have HA2 := Lib.hid ha2
        clear ha1 ha2
        go_wp2_with fail
        go_round
        case rel => exact ⟨j + 1, by omega, by go_num, by rw [← HA2.out]; go_num⟩
        case measure => simp [intOf]; omega
      · obtain rfl : j = q + 1 := by omega
        obtain ⟨T, hT⟩ : ∃ T, T = ((ls.take (q + 1)).flatten).length := ⟨_, rfl⟩
        have hTm := HFQ.out
        have hag := HAG.out
        rw [← hT] at hag hTm ⊢
        have HAG := Lib.hid hag
        have hTi : ¬ (m : Int) < (T : Int) := by omega
        have hTc : (T : Int) ≤ (c : Int) := by omega
        have hTn : (T : Int) ≤ (m : Int) := by omega
        have hs1 : (m : Int) - (T : Int) = ((m - T : Nat) : Int) := by omega
        have hs2 : (c : Int) - (T : Int) = ((c - T : Nat) : Int) := by omega
        have hps0 : 0 < ps.length := by have := HPE.out; have h3 := HKL.out; rw [← this] at h3; simp [psb] at h3; omega
        obtain ⟨g4, o4, rfl, hg4, hr4⟩ := HPS.out.at_ hps0
        clear hr4 hg4
        obtain ⟨A2, hA2⟩ : ∃ A2, (if c = T then A else A.map (·.add T)) = A2 := ⟨_, rfl⟩
        have hrx := (HR.out w3 HX3.out).drop (k := T) (c := c) (by rw [HX.out]; exact hmcn)
        rw [hA2] at hrx
        have KA := Lib.hid (show ∀ W, Below w3.heap.size w3 W → Calls Try.prog 17 #[ctr C.mn C.mx C.ma.toNat C.ba.toNat, .slice A2 (m - T) (c - T)] W fun e w' => ∃ A' c', e = .returned (.slice A' (k - (q + 1)) c') ∧ Told W w' (ls.drop (q + 1)) A' (k - (q + 1)) c' from fun W h => by
          have := all_told C HK.out A2 (x.drop T) (m - T) (c - T) (by rw [List.length_drop, HX.out]) (by omega) (by omega) (by omega) W ((hrx.below h).more h.size)
          rw [HAG.out, List.length_drop, ← HKL.out] at this
          exact this)
        have KP := Lib.hid (show ∀ W, Below w3.heap.size w3 W → ∃ ps', Parts W W.heap.size (some ⟨g4, o4 + (q + 1), none⟩) ps' ∧ psb ps' = ls.drop (q + 1) from fun W h => by
          have h1 := (HPS.out.on h).drop (k := q + 1) (c := c4) (by have := HPE.out; have h3 := HKL.out; rw [← this] at h3; simp [psb] at h3; omega)
          rw [if_neg (by omega)] at h1
          exact ⟨_, by simpa [Addr.add_lit] using h1, by rw [← HPE.out]; simp [psb, List.map_drop]⟩)
        have HKC := Lib.hid (show ∀ W, Below w3.heap.size w3 W → W.cell? ⟨g, 0, none⟩ = some (.int .i64 C.mn) ∧ W.cell? ⟨g, 1, none⟩ = some (.int .i64 C.mx) ∧ W.cell? ⟨g, 2, none⟩ = some (.int .u32 C.ma.toNat) ∧ W.cell? ⟨g, 3, none⟩ = some (.int .u32 C.ba.toNat) from fun W h => HKB.out W (HX3.out.trans (h.mono HX3.out.size)))
        have hk5 : (k : Int) - ((q : Int) + 1) = ((k - (q + 1) : Nat) : Int) := by omega
        have hq6 : (0 : Int) ≤ (q : Int) + 1 := by omega
        have hk7 : (k : Int) ≤ (c4 : Int) := by omega
        have hk6 : (c4 : Int) - ((q : Int) + 1) = ((c4 - (q + 1) : Nat) : Int) := by omega
        have hq3 : (q : Int) + 1 ≤ (k : Int) := by omega
        have hq4 : (q : Int) + 1 ≤ (c4 : Int) := by omega
        have hq5 : ¬ c4 = q + 1 := by omega
        have hy9 : k - (q + 1) ≤ 9223372036854775807 := by omega
        have hly := Lib.hid (show (ls.drop (q + 1)).length = k - (q + 1) by rw [List.length_drop, ← HKL.out])
        have hwq : IntKind.i64.wrap ((q : Int) + 1) = (q : Int) + 1 := by rw [IntKind.wrap_i64]; omega
        have hx0 : Below w3.heap.size w3 w3.drew := below_drewN (Below.refl _ _) 1
        clear hag hT hrx hps0 HAG HFL HFQ hxl
        go_wp2_with fail
        go_region_held3 (fun W => W.cell? ⟨g, 0, none⟩ = some (.int .i64 C.mn) ∧ W.cell? ⟨g, 1, none⟩ = some (.int .i64 C.mx) ∧ W.cell? ⟨g, 2, none⟩ = some (.int .u32 C.ma.toNat) ∧ W.cell? ⟨g, 3, none⟩ = some (.int .u32 C.ba.toNat)) (first | exact HKC.out _ (by assumption) | fail) (first
          | (go_at_call 17; (with_reducible refine (KA.out _ hx0).mono ?_); rintro e w4 ⟨A6, c6, rfl, ht6⟩; have hx4 := hx0.trans (ht6.bel.mono hx0.size))
          | (go_at_call 16; (with_reducible refine (same_told A6 _ (k - (q + 1)) c6 _ (ls.drop (q + 1)) hy9 _ hly.out ht6.rows (KP.out _ hx4)).mono ?_); rintro e w6 ⟨rfl, hb6⟩; have hx6 := hx4.trans (hb6.mono hx4.size)))
        have hb := HB3.out.trans (hx6.mono HB3.out.size)
        clear hx6 hx4 hx0 ht6
        go_wp2_with fail
        go_ret
        exact ⟨rfl, hb⟩
theorem walk (mn0 mx0 ma0 ba0 : Int) (A1 : Option Addr) (c1 : Nat) (z1 : List Int) (a2 : Int) (w : World) (hma0 : ma0 < 4294967296) (hba0 : ba0 < 4294967296)
    (hr1 : RdV w w.heap.size A1 (z1.map (Value.int .u8))) (hc1 : z1.length ≤ c1) (hm1 : c1 ≤ maxLen) (hw1 : ∀ n ∈ z1, (Lit.int .u8 n).wf = true) (w2 : (Lit.int .u8 a2).wf = true) :
    Calls Try.prog 8 #[ctr mn0 mx0 ma0 ba0, .slice A1 z1.length c1, .int .u8 a2] w fun e w' => e = .returned (.bool true) ∧ Below w.heap.size w w' := by
  have bb := bounds_u8 w2
  obtain ⟨b, rfl⟩ := Int.eq_ofNat_of_zero_le bb.1
  by_cases h : okI mn0 mx0 ma0 ba0
  · obtain ⟨C, K, rfl, rfl, rfl, rfl⟩ := ctr_of h hma0 hba0
    exact again_ok C K A1 c1 z1.length b (bytesOf z1) w (bytesOf_length z1) hc1 hm1 (rd_bytes hr1 hw1) (by omega)
  · exact again_bad mn0 mx0 ma0 ba0 h A1 c1 z1.length _ w hc1 hm1

set_option maxRecDepth 100000 in
theorem lifted (os : Os) (started : os.Started) (H : Type) (enc : TypeId × Value → H) :
    ReturnsInHanded {} Try.checked os 8 .any (Rows.chunkAgainSpec.pre6 enc Try.prog Try.f8 Rows.chunkAgainRow.domain false) (Rows.chunkAgainSpec.post enc Try.prog Try.f8 false true false false) := by
  refine returnsInHanded_of_change (C := Try.checked) own started (by kernel_rfl) Try.func8
    (ChangeSpec.witness6 (enc := enc) (C := Try.checked) false ⟨#[], #[.agg #[.int .i64 0, .int .i64 0, .int .u32 0, .int .u32 0], .slice none 0 0, .int .u8 0], []⟩ 8 (by kernel_rfl) (by kernel_rfl) (by kernel_rfl) (by kernel_rfl)) ?_
  intro W base args ds gs before hval0 hW hcnd _
  have hval : ∀ (j : Nat) t v, Try.f8.params[j]? = some t → args[j]? = some v → Value.okWide Try.prog W .any base t v := hval0
  have hW' := hW
  obtain ⟨p, q, hA0, hV, rfl, hfz, hnd⟩ := hW
  have hA : DataW.TrodAll enc Try.prog W 0 (fun _ => true) true Try.f8.params.toList args.toList ds p := hA0
  rw [Try.params8] at hA hval
  obtain ⟨v0, vs0, d0, ds0, p0, q0, hargs, rfl, rfl, h0, r0⟩ := trodAll_cons hA
  obtain ⟨v1, vs1, d1, ds1, p1, q1, rfl, rfl, rfl, h1, r1⟩ := trodAll_cons r0
  obtain ⟨v2, vs2, d2, ds2, p2, q2, rfl, rfl, rfl, h2, r2⟩ := trodAll_cons r1
  obtain ⟨rfl, rfl, rfl⟩ := trodAll_nil r2
  obtain rfl : args = #[v0, v1, v2] := by cases args; simp_all
  obtain ⟨rfl, rfl⟩ := trodVars_none hV
  have k0 := h0
  have lt0 : ∀ x ∈ p0, x.block < W.heap.size := by obtain ⟨m, hm⟩ := k0; exact DataW.trod_lt m _ _ _ hm
  obtain ⟨mn0, mx0, ma0, ba0, rfl, hma0, hba0⟩ := open_ctr (hval 0 24 v0 rfl rfl) h0
  obtain ⟨A1, n1, c1, rfl⟩ := okWide_slice Try.underlying25 (hval 1 25 v1 rfl rfl)
  have k1 := h1
  have lt1 : ∀ x ∈ p1, x.block < W.heap.size := by obtain ⟨m, hm⟩ := k1; exact DataW.trod_lt m _ _ _ hm
  obtain ⟨fuel1, hf1⟩ := h1
  obtain ⟨z1, rfl, hr1, hc1, hm1, hw1⟩ := open_ints_arg Try.underlying25 Try.underlying5 (by kernel_rfl) hf1
  obtain ⟨a2, rfl, rfl, rfl, w2⟩ := open_int Try.underlying5 (hval 2 5 v2 rfl rfl) h2
  clear hA0 hval0
  simp only [List.append_nil] at hW'
  refine (walk mn0 mx0 ma0 ba0 A1 c1 z1 a2 W hma0 hba0 hr1 hc1 hm1 hw1 w2).mono fun e W' ⟨he, bel⟩ => ?_
  subst he
  exact ⟨_, rfl, _, _, _, [], _, [], hW', trodAll_mk1 (shut_bool Try.underlying4 _), (trodAll_cons_mk (Below.trod laidOut (by kernel_rfl) (of_decide_eq_true (by kernel_rfl)) k0 bel lt0) (trodAll_cons_mk (Below.trod laidOut (by kernel_rfl) (of_decide_eq_true (by kernel_rfl)) k1 bel lt1) (trodAll_cons_mk (shut_int Try.underlying5 w2) trodAll_mk0))), rfl, bel.frame _, fun h => by cases h⟩

theorem over : Rows.chunkAgainRow.holds Try.pinned (OpenSpec.ofChange Rows.chunkAgainSpec) :=
  OpenClaim.holds_of_wide 8 Try.f8 rfl rfl rfl rfl rfl rfl rfl ⟨rfl, rfl, rfl, rfl, rfl⟩ rfl rfl rfl rfl rfl (by kernel_rfl) Try.func8 (by kernel_rfl)
    (of_decide_eq_true (by kernel_rfl)) (by unfold Func.isWrapper; first | (rw [if_pos (by decide +kernel)]; kernel_rfl) | (rw [if_neg (by decide +kernel)]; exact ⟨rfl, rfl⟩))
    (fun os started H enc _ => lifted os started H enc)

theorem proved : Rows.ChunkAgainSaid := over
#print axioms proved
end Go.Proofs.Ytmnbfmcgnddlaaa.chunkAgain
