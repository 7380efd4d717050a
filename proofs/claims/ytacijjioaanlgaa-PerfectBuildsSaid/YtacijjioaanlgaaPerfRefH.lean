/- The contract of the reference's Hash for package perfect. No statement of the seat is proved here. -/
import Derived.Test.YtacijjioaanlgaaPutRow
import Derived.Test.YtacijjioaanlgaaAppRd
import Derived.Test.YtacijjioaanlgaaOwnRow
import Derived.Test.YtacijjioaanlgaaPerfHash
namespace Go.Proofs.Ytacijjioaanlgaa
open Go.RowKit
set_option linter.unusedVariables false

theorem rd_of_range {w : World} {b : Nat} {s : List UInt8} (h : w.rangeAt b 0 (bv s)) (hb : b < w.heap.size) : Rd w w.heap.size (some ⟨b, 0, none⟩) s := fun _ => ⟨b, 0, rfl, hb, fun j hj => h j _ (bv_get hj)⟩
set_option maxRecDepth 100000 in
set_option maxHeartbeats 1000000 in
theorem rhash_any (seed : Nat) (hs : seed < 18446744073709551616) (k : KeyT) (hk : k.Ok) (w : World) :
    Calls Try.prog 10 #[.int .u64 seed, .agg (kcs k).toArray] w fun e w' => e = .returned (.int .u64 (HH seed k)) ∧ Below w.heap.size w w' := by
  obtain ⟨s, N⟩ := k
  obtain ⟨i0, hi, hz0, hz1, hz2⟩ := info_parts info_u8
  have hb := Blk.new w 27 (kcs (s, N)).toArray
  have hb1 := (Below.refl w.heap.size w).alloc (Nat.le_refl _) (.cells (kcs (s, N)).toArray 27)
  have hsl : s.length = 32 := hk.1
  have hN : N < 4294967296 := hk.2
  have hra : (w.alloc (.cells (kcs (s, N)).toArray 27)).rangeAt w.heap.size 0 (bv s) := fun j u hu => by
    rw [hb.cell, Nat.zero_add, List.getElem?_toArray, kcs, List.getElem?_append_left (List.getElem?_eq_some_iff.1 hu).1]; exact hu
  have hrd := rd_of_range hra hb.lt
  have HKC := Lib.hid (show ∀ W, Blk W w.heap.size 27 (kcs (s, N)).toArray → W.cell? ⟨w.heap.size, 32, none⟩ = some (.int .u32 N) from fun W hW => by rw [hW.cell, List.getElem?_toArray]; exact kcs_num hk)
  have HX := Lib.hid (show bits BinOp.xor IntKind.u64 14695981039346656037 (seed : Int) = ((startH seed : Nat) : Int) from u64_xor_nat 14695981039346656037 seed (by decide) hs)
  have hst := startH_lt hs
  obtain ⟨S, hS⟩ : ∃ S, startH seed = S := ⟨_, rfl⟩
  rw [hS] at HX hst
  have HRES := Lib.hid (show HH seed (s, N) = endH (foldH S (s ++ be 4 N)) by rw [HH, hashB, hS])
  have HSL := Lib.hid hsl
  have HRD := Lib.hid hrd
  have HB := Lib.hid hb
  have HB1 := Lib.hid hb1
  have KP := Lib.hid (fun W => refput_any N 4 W (by omega) (by omega))
  clear hra hb hrd hk hsl hS hb1
  go_enter Try.func10, Try.ntmps10
  go_wp2_with (at_builtin; refine wpList_append_more _ rfl (.tmp 8) (.tmp 10) 51 rfl w.heap.size 5 i0 Try.underlying51 hi hz0 hz1 hz2 _ 0 [] rfl (World.ownsRow_nil _ _ _ _) _ (some ⟨w.heap.size, 0, none⟩) 32 32 s rfl HSL.out HRD.out (by rw [HSL.out]; omega) HB1.out.size ?_)
  intro A1 c1 w1 ho1 hg1
  have ho1 : w1.ownsRow w.heap.size 5 1 (.slice A1 32 c1) 32 (bv s) := ho1
  have hb2 : Below w.heap.size w w1 := HB1.out.grown hg1 HB1.out.size (fun g hg => by cases hg)
  have hkb1 : Blk w1 w.heap.size 27 (kcs (s, N)).toArray := HB.out.same (hg1.block _ HB.out.lt (by simp [Value.ownBlock]))
  have hc1 := HKC.out w1 hkb1
  have HO1 := Lib.hid ho1
  have HB2 := Lib.hid hb2
  clear ho1 hg1 hkb1 hb2
  go_wp2_with fail
  refine (KP.out _).mono ?_
  rintro e w2 ⟨A2, c2, rfl, ho2, hb3⟩
  have HO2 := Lib.hid (And.intro (ownsRow_below HO1.out hb3) (Rd.of_own ho2))
  have HB3 := Lib.hid (HB2.out.trans (hb3.mono HB2.out.size))
  clear hb3 ho2 hc1
  go_wp2_with (at_builtin; refine wpList_append_more _ rfl (.tmp 12) (.tmp 16) 51 rfl w.heap.size 5 i0 Try.underlying51 hi hz0 hz1 hz2 _ 32 (bv s) rfl HO2.out.1 _ A2 c2 4 (be 4 N) rfl (be_length 4 N) HO2.out.2 (by rw [be_length]; omega) HB3.out.size ?_)
  intro A3 c3 w3 ho3 hg3
  have hb4 : Below w.heap.size w w3 := HB3.out.grown hg3 HB3.out.size (fun g hg => (HO2.out.1.lt g hg).1)
  have ho3 : w3.ownsRow w.heap.size 5 1 (.slice A3 36 c3) 36 (bv (s ++ be 4 N)) := by rw [bv_append]; exact ho3
  have HO3 := Lib.hid ho3
  have HB4 := Lib.hid hb4
  clear ho3 hg3 hb4
  go_wp2_with fail
  rw [HX.out]
  obtain ⟨b, hbe⟩ : ∃ b, s ++ be 4 N = b := ⟨_, rfl⟩
  have HBL := Lib.hid (show b.length = 36 by rw [← hbe, List.length_append, be_length, HSL.out])
  rw [hbe] at HO3 HRES
  clear hbe HO1 HO2 HB2 HB3 HRD HB HB1 HKC HSL HX KP
  go_loop [6, 7] (fun v i => ∃ j : Nat, j ≤ 36 ∧ i = .int .i64 j ∧ v = .int .u64 (foldH S (b.take j))) (fun _ i => 36 - (intOf i).toNat)
  case atStart => exact ⟨0, Nat.zero_le _, rfl, rfl⟩
  case round =>
    obtain ⟨j, hj, rfl, rfl⟩ := hrel
    by_cases hlt : j < 36
    · have hjl : j < b.length := by rw [HBL.out]; exact hlt
      obtain ⟨g, _, rfl, hcs⟩ := Rd.of_own HO3.out (by rw [HBL.out]; omega)
      have hcell := hcs.2 j hjl
      have HTK := Lib.hid (show foldH S (b.take (j + 1)) = stepH (foldH S (b.take j)) (b[j]'hjl).toNat by rw [List.take_succ_eq_append_getElem hjl, foldH_snoc])
      have hfl := foldH_lt hst (b.take j)
      generalize foldH S (b.take j) = V at *
      generalize (b[j]'hjl) = x at *
      have HSP := Lib.hid (step_spell hfl x)
      have hb := x.toNat_lt
      have hi1 : (0 : Int) ≤ (j : Int) := by omega
      have hi2 : (j : Int) < 36 := by omega
      clear hjl hcs
      go_wp2_with fail
      go_round
      case rel => exact ⟨j + 1, by omega, by go_num, by rw [HTK.out]; exact congrArg _ HSP.out⟩
      case measure => simp [intOf]; omega
    · obtain rfl : 36 = j := by omega
      have hfl := foldH_lt hst b
      rw [List.take_of_length_le (by rw [HBL.out]; exact Nat.le_refl _)]
      generalize foldH S b = U at *
      go_wp2
      go_ret
      exact ⟨pf_ret (by rw [HRES.out]; exact end_spell hfl), HB4.out⟩
end Go.Proofs.Ytacijjioaanlgaa
