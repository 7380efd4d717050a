/- The contracts of Hash and index of package perfect. No statement of the seat is proved here. -/
import Derived.Test.YtacijjioaanlgaaKeys
import Derived.Test.YtacijjioaanlgaaPerfMath
import Derived.IntWalk
namespace Go.Proofs.Ytacijjioaanlgaa
open Go.RowKit

theorem pf_ret {k : IntKind} {a b : Int} (h : a = b) : Ending.returned (.int k a) = .returned (.int k b) := by rw [h]
theorem step_spell {h : Nat} (hh : h < 18446744073709551616) (b : UInt8) : (bits BinOp.xor IntKind.u64 (h : Int) ((b.toNat : Nat) : Int) * 1099511628211) % 18446744073709551616 = ((stepH h b.toNat : Nat) : Int) := by
  have hb := b.toNat_lt
  rw [u64_xor_nat h b.toNat hh (by omega), stepH, Nat.mul_comm]
  generalize h ^^^ b.toNat = x
  omega
theorem step_wrap {h : Nat} (hh : h < 18446744073709551616) (b : UInt8) (X : Int) (hX : X = ((b.toNat : Nat) : Int)) : IntKind.u64.wrap (bits BinOp.xor IntKind.u64 (h : Int) X * 1099511628211) = ((stepH h b.toNat : Nat) : Int) := by
  rw [hX, ← step_spell hh b]
  simp [IntKind.wrap, IntKind.signed, IntKind.bits]
theorem ofNat_byte {n : Nat} : (((UInt8.ofNat n).toNat : Nat) : Int) = (n : Int) % 256 := by
  rw [UInt8.toNat_ofNat']; omega
theorem end_spell {h : Nat} (hh : h < 18446744073709551616) : bits BinOp.xor IntKind.u64 (h : Int) ((h : Int) / 4294967296) = ((endH h : Nat) : Int) :=
  u64_xor_nat h (h / 4294967296) hh (Nat.lt_of_le_of_lt (Nat.div_le_self _ _) hh)
theorem run_index_byte {T : Array Value} {j : Nat} (hj : j < 32) {v : Value} (hv : T[j]? = some v) (W : World) : (Instr.index 24 (.agg T) (.int .i64 (j : Nat))).run Try.prog W = .ok v W := by
  have h0 : (0 : Int) ≤ (j : Int) ∧ (j : Int) < ((32 : Nat) : Int) := by omega
  simp [Instr.index, run_underlying Try.underlying24, asIntOf, h0, part, Try.isAgg5, Try.sizeOf5, hv, go_sem]
  exact fun h => absurd h (by omega)
set_option maxRecDepth 100000 in
set_option maxHeartbeats 1000000 in
theorem hash_any (seed : Nat) (hs : seed < 18446744073709551616) (k : KeyT) (hk : k.Ok) (w : World) :
    Calls Try.prog 9 #[.int .u64 seed, .agg (kcs k).toArray] w fun e w' => e = .returned (.int .u64 (hashB seed k.1 k.2)) ∧ w' = w.alloc (.cells (kcs k).toArray 27) := by
  obtain ⟨s, N⟩ := k
  have hb := Blk.new w 27 (kcs (s, N)).toArray
  have hsl : s.length = 32 := hk.1
  have hN : N < 4294967296 := hk.2
  have hn := hb.cell 32
  rw [List.getElem?_toArray, kcs_num hk] at hn
  have hra : (w.alloc (.cells (kcs (s, N)).toArray 27)).rangeAt w.heap.size 0 (bv s) := fun j u hu => by
    rw [hb.cell, Nat.zero_add, List.getElem?_toArray, kcs, List.getElem?_append_left (List.getElem?_eq_some_iff.1 hu).1]; exact hu
  have HR := Lib.hid hra
  have HD := Lib.hid (show Try.prog.underlying 24 = some (.array 32 5) from Try.underlying24)
  have HS := Lib.hid (show (Try.prog.info? 24).map (·.size) = some (bv s).length by rw [bv_length, hsl]; kernel_rfl)
  have HX := Lib.hid (show bits BinOp.xor IntKind.u64 14695981039346656037 (seed : Int) = ((startH seed : Nat) : Int) from u64_xor_nat 14695981039346656037 seed (by decide) hs)
  obtain ⟨T, hT⟩ : ∃ T, (bv s).toArray = T := ⟨_, rfl⟩
  have hTs : T.size = 32 := by rw [← hT, List.size_toArray, bv_length, hsl]
  have HT := Lib.hid (show ∀ j (h : j < s.length), T[j]? = some (.int .u8 (s[j].toNat : Nat)) from fun j h => by rw [← hT, List.getElem?_toArray, bv_get h])
  have HTT := Lib.hid hT
  have HSL := Lib.hid hsl
  have hst := startH_lt hs
  obtain ⟨S, hS⟩ : ∃ S, startH seed = S := ⟨_, rfl⟩
  have HSS := Lib.hid hS
  rw [hS] at HX hst
  have HRES := Lib.hid (show hashB seed s N = endH (foldH S (s ++ be 4 N)) by rw [hashB, hS])
  clear hra hb hT hk hsl hS
  go_enter Try.func9, Try.ntmps9
  go_wp2_with (first
    | (refine wpList_load_mid rfl 24 (.tmp 11) rfl w.heap.size 0 rfl (bv s) (.array 32 5) HR.out HD.out rfl HS.out ?_; rw [HTT.out])
    | fail)
  rw [HX.out]
  go_loop [5, 13] (fun v i => ∃ j : Nat, j ≤ 32 ∧ i = .int .i64 j ∧ v = .int .u64 (foldH S (s.take j))) (fun _ i => 32 - (intOf i).toNat)
  case atStart => exact ⟨0, Nat.zero_le _, rfl, rfl⟩
  case round =>
    obtain ⟨j, hj, rfl, rfl⟩ := hrel
    by_cases hlt : j < 32
    · have hjl : j < s.length := by rw [HSL.out]; exact hlt
      have hx := HT.out j hjl
      have hix := run_index_byte hlt hx
      clear hx
      have HTK := Lib.hid (show foldH S (s.take (j + 1)) = stepH (foldH S (s.take j)) (s[j]'hjl).toNat by rw [List.take_succ_eq_append_getElem hjl, foldH_snoc])
      have hfl := foldH_lt hst (s.take j)
      generalize foldH S (s.take j) = V at *
      generalize (s[j]'hjl) = b at *
      have HSP := Lib.hid (step_spell hfl b)
      have hb := b.toNat_lt
      clear hjl
      go_wp2
      go_round
      case rel => exact ⟨j + 1, by omega, by go_num, by rw [HTK.out]; exact congrArg _ HSP.out⟩
      case measure => simp [intOf]; omega
    · obtain rfl : 32 = j := by omega
      have hfl := foldH_lt hst (s.take 32)
      have HFF := Lib.hid (show foldH (foldH S (s.take 32)) (be 4 N) = foldH S (s ++ be 4 N) by rw [foldH_append, List.take_of_length_le (by rw [HSL.out]; exact Nat.le_refl _)])
      generalize foldH S (s.take 32) = V at *
      have hn := hn
      go_wp2_with fail
      go_loop [5, 8] (fun v i => ∃ j : Nat, j ≤ 4 ∧ i = .int .i64 (24 - 8 * (j : Int)) ∧ v = .int .u64 (foldH V ((be 4 N).take j))) (fun _ i => 4 * (8 + intOf i).toNat)
      case atStart => exact ⟨0, Nat.zero_le _, rfl, rfl⟩
      case round =>
        clear HT HTT HSL HR HD HS HX HSS hTs
        obtain ⟨j, hj, rfl, rfl⟩ := hrel
        have hcase : j = 0 ∨ j = 1 ∨ j = 2 ∨ j = 3 ∨ j = 4 := by omega
        have hV2 := foldH_lt hfl ((be 4 N).take j)
        rcases hcase with rfl | rfl | rfl | rfl | rfl
        · have e0 : (24 - 8 * ((0 : Nat) : Int)) = 24 := by omega
          have HTK := Lib.hid (show foldH V ((be 4 N).take 1) = stepH (foldH V ((be 4 N).take 0)) (UInt8.ofNat (N / 16777216)).toNat by rw [be4, show ([UInt8.ofNat (N / 16777216), UInt8.ofNat (N / 65536), UInt8.ofNat (N / 256), UInt8.ofNat N] : List UInt8).take 1 = [UInt8.ofNat (N / 16777216), UInt8.ofNat (N / 65536), UInt8.ofNat (N / 256), UInt8.ofNat N].take 0 ++ [(UInt8.ofNat (N / 16777216))] from rfl, foldH_snoc])
          generalize foldH V ((be 4 N).take 0) = U at *
          rw [e0]
          clear e0
          go_wp2
          go_round
          case rel => exact ⟨1, by omega, rfl, by rw [HTK.out]; exact congrArg _ (step_wrap hV2 _ _ (by rw [ofNat_byte]; try omega))⟩
          case measure => simp [intOf]
        · have e0 : (24 - 8 * ((1 : Nat) : Int)) = 16 := by omega
          have HTK := Lib.hid (show foldH V ((be 4 N).take 2) = stepH (foldH V ((be 4 N).take 1)) (UInt8.ofNat (N / 65536)).toNat by rw [be4, show ([UInt8.ofNat (N / 16777216), UInt8.ofNat (N / 65536), UInt8.ofNat (N / 256), UInt8.ofNat N] : List UInt8).take 2 = [UInt8.ofNat (N / 16777216), UInt8.ofNat (N / 65536), UInt8.ofNat (N / 256), UInt8.ofNat N].take 1 ++ [(UInt8.ofNat (N / 65536))] from rfl, foldH_snoc])
          generalize foldH V ((be 4 N).take 1) = U at *
          rw [e0]
          clear e0
          go_wp2
          go_round
          case rel => exact ⟨2, by omega, rfl, by rw [HTK.out]; exact congrArg _ (step_wrap hV2 _ _ (by rw [ofNat_byte]; try omega))⟩
          case measure => simp [intOf]
        · have e0 : (24 - 8 * ((2 : Nat) : Int)) = 8 := by omega
          have HTK := Lib.hid (show foldH V ((be 4 N).take 3) = stepH (foldH V ((be 4 N).take 2)) (UInt8.ofNat (N / 256)).toNat by rw [be4, show ([UInt8.ofNat (N / 16777216), UInt8.ofNat (N / 65536), UInt8.ofNat (N / 256), UInt8.ofNat N] : List UInt8).take 3 = [UInt8.ofNat (N / 16777216), UInt8.ofNat (N / 65536), UInt8.ofNat (N / 256), UInt8.ofNat N].take 2 ++ [(UInt8.ofNat (N / 256))] from rfl, foldH_snoc])
          generalize foldH V ((be 4 N).take 2) = U at *
          rw [e0]
          clear e0
          go_wp2
          go_round
          case rel => exact ⟨3, by omega, rfl, by rw [HTK.out]; exact congrArg _ (step_wrap hV2 _ _ (by rw [ofNat_byte]; try omega))⟩
          case measure => simp [intOf]
        · have e0 : (24 - 8 * ((3 : Nat) : Int)) = 0 := by omega
          have HTK := Lib.hid (show foldH V ((be 4 N).take 4) = stepH (foldH V ((be 4 N).take 3)) (UInt8.ofNat N).toNat by rw [be4, show ([UInt8.ofNat (N / 16777216), UInt8.ofNat (N / 65536), UInt8.ofNat (N / 256), UInt8.ofNat N] : List UInt8).take 4 = [UInt8.ofNat (N / 16777216), UInt8.ofNat (N / 65536), UInt8.ofNat (N / 256), UInt8.ofNat N].take 3 ++ [(UInt8.ofNat N)] from rfl, foldH_snoc])
          generalize foldH V ((be 4 N).take 3) = U at *
          rw [e0]
          clear e0
          go_wp2
          go_round
          case rel => exact ⟨4, by omega, rfl, by rw [HTK.out]; exact congrArg _ (step_wrap hV2 _ _ (by rw [ofNat_byte]; try omega))⟩
          case measure => simp [intOf]
        · have e0 : (24 - 8 * ((4 : Nat) : Int)) = -8 := by omega
          rw [List.take_of_length_le (by rw [be_length]; exact Nat.le_refl _), HFF.out] at hV2 ⊢
          rw [e0]
          clear e0 HFF
          generalize foldH S (s ++ be 4 N) = U at *
          go_wp2
          go_ret
          exact ⟨pf_ret (by rw [HRES.out]; exact end_spell hV2), rfl⟩
/-- The hash of a key. -/
def HH (seed : Nat) (k : KeyT) : Nat := hashB seed k.1 k.2
theorem HH_lt {seed : Nat} (h : seed < 18446744073709551616) (k : KeyT) : HH seed k < 18446744073709551616 := hashB_lt h _ _
set_option maxRecDepth 100000 in
set_option maxHeartbeats 1000000 in
theorem index_any (seed n : Nat) (hs : seed < 18446744073709551616) (hn0 : 0 < n) (hn : n ≤ 4611686018427387904) (k : KeyT) (hk : k.Ok) (w : World) :
    Calls Try.prog 28 #[.int .u64 seed, .agg (kcs k).toArray, .int .i64 n] w fun e w' => e = .returned (.int .i64 ((HH seed k % n : Nat))) ∧ Below w.heap.size w w' := by
  have hb := Blk.new w 27 (kcs k).toArray
  have hbl := (Below.refl w.heap.size w).alloc (Nat.le_refl _) (.cells (kcs k).toArray 27)
  have K := Lib.hid (hash_any seed hs k hk (w.alloc (.cells (kcs k).toArray 27)))
  have hlt := HH_lt hs k
  have hm : HH seed k % n < n := Nat.mod_lt _ hn0
  have HE := Lib.hid (show hashB seed k.1 k.2 = HH seed k from rfl)
  have HB := Lib.hid hb
  have HBL := Lib.hid hbl
  have HKS := Lib.hid (show (Try.prog.info? 27).map (·.size) = some (kcs k).toArray.size by rw [List.size_toArray, kcs_length hk]; exact key_size)
  obtain ⟨fs, hfs⟩ := key_desc
  have HF := Lib.hid hfs
  clear hb hbl hfs
  generalize HH seed k = V at *
  go_enter Try.func28, Try.ntmps28
  go_wp2_with (refine wpList_load_row rfl 27 (.tmp 4) rfl w.heap.size rfl 27 (kcs k).toArray (0, 0) (.struct fs) HB.out HF.out rfl HKS.out ?_)
  (with_reducible refine K.out.mono ?_)
  rintro e w2 ⟨rfl, rfl⟩
  rw [HE.out]
  go_wp2
  go_ret
  exact ⟨pf_ret (by rw [Int.natCast_emod]), HBL.out.alloc (by simp) _⟩
theorem index_zero (n : Nat) (hn0 : 0 < n) (hn : n ≤ 4611686018427387904) (k : KeyT) (hk : k.Ok) (w : World) :
    Calls Try.prog 28 #[.int .u64 0, .agg (kcs k).toArray, .int .i64 n] w fun e w' => e = .returned (.int .i64 ((HH 0 k % n : Nat))) ∧ Below w.heap.size w w' :=
  index_any 0 n (by decide) hn0 hn k hk w
end Go.Proofs.Ytacijjioaanlgaa
