/-
  That chunks are the bytes, one behind the other, and how long they are: for every cutter and all bytes (the first 20,000) the law ChunkWhole returns true; no condition.
-/
import Derived.Test.YtmnbfmcgnddlaaaRows
import Derived.Test.YtmnbfmcgnddlaaaOpen
import Derived.Test.YtmnbfmcgnddlaaaChunkLaw
import Derived.WalkKit
import Derived.ProofKit
import Derived.OpenShut
import Derived.ShutString
import Derived.ChangeOld
import Derived.Below
namespace Go.Proofs.Ytmnbfmcgnddlaaa.chunkWhole
open Go.ChangeShapes Go.WideShapes Go.ChangeAt Go.RowKit
open Go.ChangeMaps (open_string shut_string)
set_option linter.unusedVariables false

theorem own : ownKnob Try.prog.godebug = none := by kernel_rfl
theorem laidOut : laidOutB Try.prog = true := by kernel_rfl

set_option maxHeartbeats 1000000 in
theorem whole_bad (mn mx ma ba : Int) (hk : ¬ okI mn mx ma ba) (A : Option Addr) (c n : Nat) (w : World) (hc : n ≤ c) (hm : c ≤ 9223372036854775807) :
    Calls Try.prog 7 #[ctr mn mx ma ba, .slice A n c] w fun e w' => e = .returned (.bool true) ∧ Below w.heap.size w w' := by
  obtain ⟨m, hm20⟩ : ∃ m, m = min n 20000 := ⟨_, rfl⟩
  obtain ⟨g, hg⟩ : ∃ g, g = w.heap.size := ⟨_, rfl⟩
  have hb1 := (Below.refl w.heap.size w).alloc (Nat.le_refl _) (.cells #[.int .i64 mn, .int .i64 mx, .int .u32 ma, .int .u32 ba] 24)
  have hB1 := blk_at w 24 #[.int .i64 mn, .int .i64 mx, .int .u32 ma, .int .u32 ba] hg
  have HG := Lib.hid hg
  go_enter Try.func7, Try.ntmps7
  go_wp2_with fail
  rw [← hg]
  generalize w.alloc (.cells #[.int .i64 mn, .int .i64 mx, .int .u32 ma, .int .u32 ba] 24) = w1 at *
  refine (shown_any _).mono ?_
  rintro e w2 ⟨rfl, hb2⟩
  have hB2 := hB1.below hb2 hB1.lt
  have hb2 := hb1.trans (hb2.mono hb1.size)
  have HKB := Lib.hid (show ∀ W, Below w2.heap.size w2 W → W.cell? ⟨g, 0, none⟩ = some (.int .i64 mn) ∧ W.cell? ⟨g, 1, none⟩ = some (.int .i64 mx) ∧ W.cell? ⟨g, 2, none⟩ = some (.int .u32 ma) ∧ W.cell? ⟨g, 3, none⟩ = some (.int .u32 ba) from fun W h => ctr_cells (hB2.below h hB2.lt))
  have hx0 : Below w2.heap.size w2 w2.drew := below_drewN (Below.refl _ _) 1
  have HB2 := Lib.hid hb2
  have KF := Lib.hid (show ∀ W, Calls Try.prog 14 #[.slice A n c] W fun e w' => e = .returned (.slice A m c) ∧ W = w' from fun W => few_any A n c m W hm20 hc hm)
  have K1 := Lib.hid (fun W => all_bad mn mx ma ba hk A m c W)
  have HK := Lib.hid hk
  clear hb1 hB1 hb2 hB2 hm20 hg hc hm hk
  go_wp2_with fail
  go_region_held3 (fun W => W.cell? ⟨g, 0, none⟩ = some (.int .i64 mn) ∧ W.cell? ⟨g, 1, none⟩ = some (.int .i64 mx) ∧ W.cell? ⟨g, 2, none⟩ = some (.int .u32 ma) ∧ W.cell? ⟨g, 3, none⟩ = some (.int .u32 ba)) (first | exact HKB.out _ (by assumption) | fail) (first
    | (go_at_call 14; (with_reducible refine (KF.out _).mono ?_); rintro e w3 ⟨rfl, rfl⟩)
    | (go_at_call 17; (with_reducible refine (K1.out _).mono ?_); rintro e w4 ⟨rfl, hb4⟩; have hx4 := hx0.trans (hb4.mono hx0.size)))
  obtain ⟨c0, c1, c2, c3⟩ := HKB.out _ hx4
  have hb4 := HB2.out.trans (hx4.mono HB2.out.size)
  clear hx4 hx0
  go_wp2_with fail
  refine (right_any _ _ _ _ _).mono ?_
  rintro e w5 ⟨rfl, hb5⟩
  rw [decide_eq_false HK.out]
  have hb5 := hb4.trans (hb5.mono hb4.size)
  clear hb4
  go_wp2_with fail
  go_ret
  exact ⟨rfl, hb5⟩
theorem flat_snoc (ls : List (List UInt8)) (j : Nat) (h : j < ls.length) : (ls.take (j + 1)).flatten = (ls.take j).flatten ++ ls[j] := by
  rw [List.take_succ_eq_append_getElem h, List.flatten_append]; simp
theorem flat_le (ls : List (List UInt8)) (j : Nat) : (ls.take j).flatten.length ≤ ls.flatten.length := by
  have := congrArg List.length (congrArg List.flatten (List.take_append_drop j ls))
  rw [List.flatten_append, List.length_append] at this
  omega
set_option maxHeartbeats 2000000 in
theorem whole_ok (C : Ctr) (K : C.Ok) (A : Option Addr) (c n : Nat) (l : List UInt8) (w : World) (hl : l.length = n) (hc : n ≤ c) (hm : c ≤ 9223372036854775807) (hr : Rd w w.heap.size A l) :
    Calls Try.prog 7 #[ctr C.mn C.mx C.ma.toNat C.ba.toNat, .slice A n c] w fun e w' => e = .returned (.bool true) ∧ Below w.heap.size w w' := by
  obtain ⟨m, hm20⟩ : ∃ m, m = min n 20000 := ⟨_, rfl⟩
  obtain ⟨x, hx⟩ : ∃ x, x = l.take m := ⟨_, rfl⟩
  have hxl : x.length = m := by rw [hx, List.length_take]; omega
  have k1 := fun W h => all_told C K A x m c hxl (by omega) (by omega) hm W h
  have hsz := allC_sizes K x
  have hfl := allC_flat K x
  obtain ⟨ls, hls⟩ : ∃ ls, ls = allC C x := ⟨_, rfl⟩
  rw [← hls] at k1 hsz hfl
  obtain ⟨k, hk⟩ : ∃ k, k = ls.length := ⟨_, rfl⟩
  rw [← hk] at k1
  obtain ⟨g, hg⟩ : ∃ g, g = w.heap.size := ⟨_, rfl⟩
  have hb1 := (Below.refl w.heap.size w).alloc (Nat.le_refl _) (.cells #[.int .i64 C.mn, .int .i64 C.mx, .int .u32 C.ma.toNat, .int .u32 C.ba.toNat] 24)
  have hB1 := blk_at w 24 #[.int .i64 C.mn, .int .i64 C.mx, .int .u32 C.ma.toNat, .int .u32 C.ba.toNat] hg
  have HG := Lib.hid hg
  have HK := Lib.hid (ok_true K)
  have hmx := K.hi
  clear K
  go_enter Try.func7, Try.ntmps7
  go_wp2_with fail
  rw [← hg]
  generalize w.alloc (.cells #[.int .i64 C.mn, .int .i64 C.mx, .int .u32 C.ma.toNat, .int .u32 C.ba.toNat] 24) = w1 at *
  refine (shown_any _).mono ?_
  rintro e w2 ⟨rfl, hb2⟩
  have hB2 := hB1.below hb2 hB1.lt
  have hb2 := hb1.trans (hb2.mono hb1.size)
  have HKB := Lib.hid (show ∀ W, Below w2.heap.size w2 W → W.cell? ⟨g, 0, none⟩ = some (.int .i64 C.mn) ∧ W.cell? ⟨g, 1, none⟩ = some (.int .i64 C.mx) ∧ W.cell? ⟨g, 2, none⟩ = some (.int .u32 C.ma.toNat) ∧ W.cell? ⟨g, 3, none⟩ = some (.int .u32 C.ba.toNat) from fun W h => ctr_cells (hB2.below h hB2.lt))
  have HR := Lib.hid (show ∀ W, Below w2.heap.size w2 W → Rd W W.heap.size A x from fun W h => by rw [hx]; exact (((hr.below hb2).below (h.mono hb2.size)).take m).more (by have := h.size; have := hb2.size; omega))
  have hx0 : Below w2.heap.size w2 w2.drew := below_drewN (Below.refl _ _) 1
  have HB2 := Lib.hid hb2
  have KF := Lib.hid (show ∀ W, Calls Try.prog 14 #[.slice A n c] W fun e w' => e = .returned (.slice A m c) ∧ W = w' from fun W => few_any A n c m W hm20 hc hm)
  have K1 := Lib.hid k1
  have HSZ := Lib.hid hsz
  have HFL := Lib.hid hfl
  have HX := Lib.hid hxl
  have HKL := Lib.hid hk
  have hm2 : m ≤ 20000 := by omega
  clear hb1 hB1 hb2 hB2 hm20 hg hc hm hl hx hr k1 hsz hfl hls hk hxl
  go_wp2_with fail
  go_region_held3 (fun W => W.cell? ⟨g, 0, none⟩ = some (.int .i64 C.mn) ∧ W.cell? ⟨g, 1, none⟩ = some (.int .i64 C.mx) ∧ W.cell? ⟨g, 2, none⟩ = some (.int .u32 C.ma.toNat) ∧ W.cell? ⟨g, 3, none⟩ = some (.int .u32 C.ba.toNat)) (first | exact HKB.out _ (by assumption) | fail) (first
    | (go_at_call 14; (with_reducible refine (KF.out _).mono ?_); rintro e w3 ⟨rfl, rfl⟩)
    | (go_at_call 17; (with_reducible refine (K1.out _ (HR.out _ hx0)).mono ?_); rintro e w4 ⟨A4, c4, rfl, ht4⟩; have hx4 := hx0.trans (ht4.bel.mono hx0.size)))
  obtain ⟨c0, c1, c2, c3⟩ := HKB.out _ hx4
  have hb4 := HB2.out.trans (hx4.mono HB2.out.size)
  obtain ⟨ps, hps, hpe⟩ := ht4.rows
  have hk4 := ht4.le
  have hm4 := ht4.max
  clear hx0 ht4
  go_wp2_with fail
  refine (right_any _ _ _ _ _).mono ?_
  rintro e w5 ⟨rfl, hb5⟩
  rw [HK.out]
  have hps := hps.on hb5
  have hx5 := hx4.trans (hb5.mono hx4.size)
  obtain ⟨c0, c1, c2, c3⟩ := HKB.out _ hx5
  have hb5 := hb4.trans (hb5.mono hb4.size)
  have HPS := Lib.hid hps
  have HPE := Lib.hid hpe
  have HB5 := Lib.hid hb5
  have HX5 := Lib.hid hx5
  have hk9 : k ≤ 9223372036854775807 := by simp only [maxLen] at hm4; omega
  clear hb4 hb5 hx4 hx5 hps hpe hk4 hm4 c2 c3
  go_wp2_with fail
  have c0 := Lib.hid c0
  have c1 := Lib.hid c1
  go_loopw [7, 25] (fun s i wr => ∃ j : Nat, j ≤ k ∧ i = .int .i64 j ∧ s = .string ⟨((ls.take j).flatten).toArray⟩ ∧ ∃ q, wr = w5.drewN q) (fun _ i _ => k - (intOf i).toNat)
  case atStart => exact ⟨0, Nat.zero_le _, rfl, rfl, 0, rfl⟩
  case round =>
    obtain ⟨j, hj, rfl, rfl, q, rfl⟩ := hrel
    by_cases hlt : j < k
    · have hjl : j < ls.length := by rw [← HKL.out]; exact hlt
      have hjp : j < ps.length := by rw [← HPE.out] at hjl; simpa [psb] using hjl
      obtain ⟨g1, o1, rfl, _, hc1⟩ := HPS.out.at_ hjp
      have hr1 := (HPS.out.each ps[j] (List.getElem_mem hjp)).1
      have hee : (ps[j]).2.2 = ls[j] := by
        have := congrArg (fun l => l[j]?) HPE.out
        simp [psb, hjp, hjl] at this
        exact this
      obtain ⟨⟨P1, C1, L1⟩, hp1⟩ : ∃ p, p = ps[j] := ⟨_, rfl⟩
      rw [← hp1] at hc1 hr1 hee
      simp only [Part.val] at hc1 hr1 hee
      obtain ⟨z1, z2, z3⟩ := HSZ.out j hjl
      have hsn := flat_snoc ls j hjl
      rw [← hee] at z1 z2 z3 hsn
      have hfl : ((ls.take (j + 1)).flatten).length ≤ 20000 := by
        have := flat_le ls (j + 1)
        rw [HFL.out, HX.out] at this
        omega
      obtain ⟨t, ht⟩ : ∃ t, t = L1.length := ⟨_, rfl⟩
      rw [← ht] at hc1 z1 z2 z3
      rw [← HKL.out] at z3
      have q1 := str_of hr1 t C1 ht.symm (w5.drewN q) (below_drewN (Below.refl _ _) _)
      have hst : (⟨((ls.take (j + 1)).flatten).toArray⟩ : ByteArray) = (⟨((ls.take j).flatten).toArray⟩ : ByteArray) ++ (⟨L1.toArray⟩ : ByteArray) := by rw [ByteArray.mk_append_mk, hsn]
      have hsl : ¬ 9223372036854775807 < (⟨((ls.take j).flatten).toArray⟩ : ByteArray).size + (⟨L1.toArray⟩ : ByteArray).size := by
        rw [hsn, List.length_append] at hfl
        show ¬ 9223372036854775807 < ((ls.take j).flatten).length + L1.length
        omega
      have hz1 : decide ((t : Int) < 1) = false := decide_eq_false (by omega)
      have hz2 : decide ((C.mx : Int) < (t : Int)) = false := decide_eq_false (by omega)
      have hz2n : decide (C.mx < t) = false := decide_eq_false (by omega)
      clear hr1 hp1 hjp hjl hee hsn hfl ht z1 z2
      generalize (⟨L1.toArray⟩ : ByteArray) = s1 at *
      generalize (⟨((ls.take j).flatten).toArray⟩ : ByteArray) = s2 at *
      have HST := Lib.hid hst
      clear hst
      have k0 := c0.out
      have k1 := c1.out
      have hw1 : IntKind.i64.wrap ((j : Int) + 1) = (j : Int) + 1 := by rw [IntKind.wrap_i64]; omega
      go_wp2_with fail
      by_cases hz4 : j + 1 < k
      · have hz5 : decide (((j : Int) + 1) < (k : Int)) = true := decide_eq_true (by omega)
        have hz6 : decide ((t : Int) < (C.mn : Int)) = false := decide_eq_false (by have := z3 hz4; omega)
        have hz6n : decide (t < C.mn) = false := decide_eq_false (by have := z3 hz4; omega)
        have hz5n : decide (j + 1 < k) = true := decide_eq_true (by omega)
        clear z3
        go_quiet (fail)
        go_wp2_with fail
        go_roundw
        case rel => exact ⟨j + 1, by omega, by go_num, by rw [HST.out], _, rfl⟩
        case measure => simp [intOf]; omega
      · have hz5 : decide (((j : Int) + 1) < (k : Int)) = false := decide_eq_false (by omega)
        have hz5n : decide (j + 1 < k) = false := decide_eq_false (by omega)
        clear z3
        go_quiet (fail)
        go_wp2_with fail
        go_roundw
        case rel => exact ⟨j + 1, by omega, by go_num, by rw [HST.out], _, rfl⟩
        case measure => simp [intOf]; omega
    · obtain rfl : j = k := by omega
      have hft : (ls.take j).flatten = x := by rw [HKL.out, List.take_length]; exact HFL.out
      rw [hft] at *
      have q1 := str_of (HR.out _ HX5.out) m c HX.out (w5.drewN q) (below_drewN (Below.refl _ _) _)
      have HB := Lib.hid (below_drewN HB5.out q)
      clear hft
      generalize (⟨x.toArray⟩ : ByteArray) = s1 at *
      go_wp2_with fail
      with_reducible refine (KF.out _).mono ?_
      rintro e w7 ⟨rfl, rfl⟩
      go_wp2_with fail
      go_ret
      exact ⟨rfl, HB.out⟩
theorem walk (mn0 mx0 ma0 ba0 : Int) (A1 : Option Addr) (c1 : Nat) (z1 : List Int) (w : World) (hma0 : ma0 < 4294967296) (hba0 : ba0 < 4294967296)
    (hr1 : RdV w w.heap.size A1 (z1.map (Value.int .u8))) (hc1 : z1.length ≤ c1) (hm1 : c1 ≤ maxLen) (hw1 : ∀ n ∈ z1, (Lit.int .u8 n).wf = true) :
    Calls Try.prog 7 #[ctr mn0 mx0 ma0 ba0, .slice A1 z1.length c1] w fun e w' => e = .returned (.bool true) ∧ Below w.heap.size w w' := by
  by_cases h : okI mn0 mx0 ma0 ba0
  · obtain ⟨C, K, rfl, rfl, rfl, rfl⟩ := ctr_of h hma0 hba0
    exact whole_ok C K A1 c1 z1.length (bytesOf z1) w (bytesOf_length z1) hc1 hm1 (rd_bytes hr1 hw1)
  · exact whole_bad mn0 mx0 ma0 ba0 h A1 c1 z1.length w hc1 hm1

set_option maxRecDepth 100000 in
theorem lifted (os : Os) (started : os.Started) (H : Type) (enc : TypeId × Value → H) :
    ReturnsInHanded {} Try.checked os 7 .any (Rows.chunkWholeSpec.pre6 enc Try.prog Try.f7 Rows.chunkWholeRow.domain false) (Rows.chunkWholeSpec.post enc Try.prog Try.f7 false true false false) := by
  refine returnsInHanded_of_change (C := Try.checked) own started (by kernel_rfl) Try.func7
    (ChangeSpec.witness6 (enc := enc) (C := Try.checked) false ⟨#[], #[.agg #[.int .i64 0, .int .i64 0, .int .u32 0, .int .u32 0], .slice none 0 0], []⟩ 8 (by kernel_rfl) (by kernel_rfl) (by kernel_rfl) (by kernel_rfl)) ?_
  intro W base args ds gs before hval0 hW hcnd _
  have hval : ∀ (j : Nat) t v, Try.f7.params[j]? = some t → args[j]? = some v → Value.okWide Try.prog W .any base t v := hval0
  have hW' := hW
  obtain ⟨p, q, hA0, hV, rfl, hfz, hnd⟩ := hW
  have hA : DataW.TrodAll enc Try.prog W 0 (fun _ => true) true Try.f7.params.toList args.toList ds p := hA0
  rw [Try.params7] at hA hval
  obtain ⟨v0, vs0, d0, ds0, p0, q0, hargs, rfl, rfl, h0, r0⟩ := trodAll_cons hA
  obtain ⟨v1, vs1, d1, ds1, p1, q1, rfl, rfl, rfl, h1, r1⟩ := trodAll_cons r0
  obtain ⟨rfl, rfl, rfl⟩ := trodAll_nil r1
  obtain rfl : args = #[v0, v1] := by cases args; simp_all
  obtain ⟨rfl, rfl⟩ := trodVars_none hV
  have k0 := h0
  have lt0 : ∀ x ∈ p0, x.block < W.heap.size := by obtain ⟨m, hm⟩ := k0; exact DataW.trod_lt m _ _ _ hm
  obtain ⟨mn0, mx0, ma0, ba0, rfl, hma0, hba0⟩ := open_ctr (hval 0 24 v0 rfl rfl) h0
  obtain ⟨A1, n1, c1, rfl⟩ := okWide_slice Try.underlying25 (hval 1 25 v1 rfl rfl)
  have k1 := h1
  have lt1 : ∀ x ∈ p1, x.block < W.heap.size := by obtain ⟨m, hm⟩ := k1; exact DataW.trod_lt m _ _ _ hm
  obtain ⟨fuel1, hf1⟩ := h1
  obtain ⟨z1, rfl, hr1, hc1, hm1, hw1⟩ := open_ints_arg Try.underlying25 Try.underlying5 (by kernel_rfl) hf1
  clear hA0 hval0
  simp only [List.append_nil] at hW'
  refine (walk mn0 mx0 ma0 ba0 A1 c1 z1 W hma0 hba0 hr1 hc1 hm1 hw1).mono fun e W' ⟨he, bel⟩ => ?_
  subst he
  exact ⟨_, rfl, _, _, _, [], _, [], hW', trodAll_mk1 (shut_bool Try.underlying4 _), (trodAll_cons_mk (Below.trod laidOut (by kernel_rfl) (of_decide_eq_true (by kernel_rfl)) k0 bel lt0) (trodAll_cons_mk (Below.trod laidOut (by kernel_rfl) (of_decide_eq_true (by kernel_rfl)) k1 bel lt1) trodAll_mk0)), rfl, bel.frame _, fun h => by cases h⟩

theorem over : Rows.chunkWholeRow.holds Try.pinned (OpenSpec.ofChange Rows.chunkWholeSpec) :=
  OpenClaim.holds_of_wide 7 Try.f7 rfl rfl rfl rfl rfl rfl rfl ⟨rfl, rfl, rfl, rfl, rfl⟩ rfl rfl rfl rfl rfl (by kernel_rfl) Try.func7 (by kernel_rfl)
    (of_decide_eq_true (by kernel_rfl)) (by unfold Func.isWrapper; first | (rw [if_pos (by decide +kernel)]; kernel_rfl) | (rw [if_neg (by decide +kernel)]; exact ⟨rfl, rfl⟩))
    (fun os started H enc _ => lifted os started H enc)

theorem proved : Rows.ChunkWholeSaid := over
#print axioms proved
end Go.Proofs.Ytmnbfmcgnddlaaa.chunkWhole
