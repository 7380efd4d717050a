/- The landed package extent: row, Lay. No statement of the seat is proved here. -/
import Derived.Test.YtgemjipbifgbgaaZXAJ
import Derived.Test.YtgemjipbifgbgaaZXAN
import Derived.Test.YtgemjipbifgbgaaZXAM
import Derived.Test.YtgemjipbifgbgaaZXAC
import Derived.Test.YtgemjipbifgbgaaZXAA
import Derived.Test.YtgemjipbifgbgaaZXAB
import Derived.StillTailTactics
import Derived.Deep.QuietTactic
import Derived.BigQuiet
namespace Go.Proofs.Ytgemjipbifgbgaa
open Go.RowKit
set_option linter.unusedVariables false
set_option linter.unusedSimpArgs false
set_option maxRecDepth 100000

theorem own_madeE (w : World) (n : Nat) (hn : n ≤ maxLen) : (w.alloc (.cells (madeCells #[.int .u8 0] n) 5)).ownsRow w.heap.size 5 1 (.slice (some ⟨w.heap.size, 0, none⟩) 0 n) 0 (bv []) :=
  ⟨rfl, .inr ⟨w.heap.size, n, _, rfl, Nat.le_refl _, heap_alloc_new w _, Nat.zero_le _, hn, by simp [size_madeCells], by simp [bv]⟩⟩
theorem layJ_row {l : List RowT} {j : Nat} (hj : j < l.length) : layJ l (j + 1) = layJ l j ++ rowB l[j] := by
  unfold layJ
  rw [List.take_succ_eq_append_getElem hj, List.flatMap_append, List.flatMap_singleton, List.append_assoc]
set_option maxHeartbeats 2000000 in
theorem xrow_any (x : RowT) (hx : x.Ok) (hxe : okE x = true) (w : World) : Calls Try.prog 30 #[.agg (rcs x).toArray] w fun e w' => ∃ A c, e = .returned (.slice A 40 c) ∧ Own w' w.heap.size A c 40 (rowB x) ∧ Below w.heap.size w w' := by
  obtain ⟨b, hb⟩ : ∃ b, w.heap.size = b := ⟨_, rfl⟩
  obtain ⟨w1, hw1⟩ : ∃ w1, w.alloc (.cells (rcs x).toArray 51) = w1 := ⟨_, rfl⟩
  have hb1 : Below w.heap.size w w1 := hw1 ▸ (Below.refl _ _).alloc (Nat.le_refl _) _
  have hB : Blk w1 b 51 (rcs x).toArray := by rw [← hw1, ← hb]; exact Blk.new w _ _
  have hl : b < w1.heap.size := hB.lt
  have hc32 : w1.cell? ⟨b, 32, none⟩ = some (.int .u32 x.1.2) := by
    have := range_key (r := x) (range_of_blk hB) 32 _ (kcs_num hx.key)
    rwa [Nat.zero_add] at this
  have hcs : ∀ W, Below w1.heap.size w1 W → W.cell? ⟨b, 33, none⟩ = some (.int .i64 x.2.1) ∧ W.cell? ⟨b, 34, none⟩ = some (.int .i64 x.2.2) := fun W hW => ⟨blk_33 (hB.below hW hl) hx, blk_34 (hB.below hW hl) hx⟩
  have hrd : Rd w1.drew w1.drew.heap.size (some ⟨b, 0, none⟩) x.1.1 := fun _ => ⟨b, 0, rfl, hl, fun i hi => by
    show w1.cell? _ = _
    exact range_key (r := x) (range_of_blk hB) i _ (kcs_byte hi)⟩
  have hs := hx.key.1
  have hok := okE_iff.1 hxe
  obtain ⟨N, hN⟩ : ∃ N, x.1.2 = N := ⟨_, rfl⟩
  obtain ⟨S, hS⟩ : ∃ S, x.1.1 = S := ⟨_, rfl⟩
  obtain ⟨O, hO⟩ : ∃ O, x.2.1.toNat = O := ⟨_, rfl⟩
  obtain ⟨L, hL⟩ : ∃ L, x.2.2.toNat = L := ⟨_, rfl⟩
  have hO2 : x.2.1 = (O : Int) := by omega
  have hL2 : x.2.2 = (L : Int) := by omega
  have hO3 : O ≤ 4096 := by omega
  have hL3 : L ≤ 4096 := by omega
  have hN4 : N < 4294967296 := hN ▸ hx.key.2
  have HRC := Lib.hid (show rowB x = ((S ++ be 4 N) ++ be 2 O) ++ be 2 L by rw [← hN, ← hS, ← hO, ← hL]; rfl)
  rw [hN] at hc32
  rw [hS] at hrd hs
  rw [hO2, hL2] at hcs
  rw [HRC.out]
  have hw64 : IntKind.u64.wrap (N : Int) = (N : Int) := by rw [IntKind.wrap_u64]; omega
  have ho64 : IntKind.u64.wrap (O : Int) = (O : Int) := by rw [IntKind.wrap_u64]; omega
  have hl64 : IntKind.u64.wrap (L : Int) = (L : Int) := by rw [IntKind.wrap_u64]; omega
  have H1 := Lib.hid (put_sl (some ⟨b, 0, none⟩) S 32 32 N 4 36 (S ++ be 4 N) w1.drew hs hrd (by rw [hs]; decide) (by rw [hs]; rfl) rfl)
  have HS := Lib.hid hs
  have HC := Lib.hid hcs
  have HW := Lib.hid (And.intro hw1 (And.intro hb hb1))
  obtain ⟨R, hR⟩ : ∃ R, (rcs x).toArray = R := ⟨_, rfl⟩
  rw [hR] at HW ⊢
  clear hw1 hb hb1 hB hl hcs hrd hs hN hS hO hL hO2 hL2 hx hxe hok hR HRC
  go_enter Try.func30, Try.ntmps30
  go_upto_region 1 with fail
  rw [HW.out.1, HW.out.2.1]
  go_still_tail 7, (by kernel_rfl)
  change wpList _ _ _ _ _ w1.drew
  go_wp2_with fail
  refine H1.out.mono ?_
  rintro e w2 ⟨A2, c2, rfl, ho2, hb2⟩
  have hb2' : Below w1.heap.size w1 w2 := (below_drew (Below.refl w1.heap.size w1)).trans hb2
  have H2 := Lib.hid (put_sl A2 (S ++ be 4 N) c2 36 O 2 38 ((S ++ be 4 N) ++ be 2 O) w2 (by rw [List.length_append, HS.out, be_length]) ho2.rd (by rw [List.length_append, HS.out, be_length]; decide) (by rw [List.length_append, HS.out, be_length]; rfl) rfl)
  have HB2 := Lib.hid hb2'
  have hc2 := (HC.out w2 hb2').1
  clear ho2 hb2 hb2' H1
  go_wp2_with fail
  refine H2.out.mono ?_
  rintro e w3 ⟨A3, c3, rfl, ho3, hb3⟩
  have hb3' := HB2.out.trans (hb3.mono HB2.out.size)
  have H3 := Lib.hid (put_sl A3 ((S ++ be 4 N) ++ be 2 O) c3 38 L 2 40 (((S ++ be 4 N) ++ be 2 O) ++ be 2 L) w3 (by rw [List.length_append, List.length_append, HS.out, be_length, be_length]) ho3.rd (by rw [List.length_append, List.length_append, HS.out, be_length, be_length]; decide) (by rw [List.length_append, List.length_append, HS.out, be_length, be_length]; rfl) rfl)
  have HB3 := Lib.hid (HW.out.2.2.trans (hb3'.mono HW.out.2.2.size))
  have hc3 := (HC.out w3 hb3').2
  clear ho3 hb3 hb3' H2 hc2
  go_wp2_with fail
  refine H3.out.mono ?_
  rintro e w4 ⟨A4, c4, rfl, ho4, hb4⟩
  have HX := Lib.hid (And.intro (ho4.base HB3.out.size) (HB3.out.trans (hb4.mono HB3.out.size)))
  clear ho4 hb4 H3
  go_wp2_with fail
  go_ret
  exact ⟨_, _, rfl, HX.out.1, HX.out.2⟩
theorem xlay_no (A : Option Addr) (ls : List RowT) (k c : Nat) (hl : ls.length = k) (w : World) (hr : RdRw w w.heap.size A ls) (hR : rightE ls = false) :
    Calls Try.prog 24 #[.slice A k c] w fun e w' => e = .returned (.tuple #[.slice none 0 0, .int .i64 1]) ∧ Below w.heap.size w w' := by
  have KR := Lib.hid (xright_any A ls k c hl w hr)
  rw [hR] at KR
  clear hR hr hl
  go_enter Try.func24, Try.ntmps24
  go_wp2_with (go_at_call 12; refine KR.out.mono ?_; rintro e w1 ⟨rfl, hb1⟩)
  go_ret2
  exact ⟨rfl, hb1⟩
set_option maxHeartbeats 4000000 in
theorem xlay_yes (A : Option Addr) (ls : List RowT) (k c : Nat) (hl : ls.length = k) (w : World) (hr : RdRw w w.heap.size A ls) (hR : rightE ls = true) :
    Calls Try.prog 24 #[.slice A k c] w fun e w' => ∃ A' c', e = .returned (.tuple #[.slice A' (layE ls).length c', .int .i64 0]) ∧ Rw w w' A' c' (layE ls).length (layE ls) := by
  have KR := Lib.hid (xright_any A ls k c hl w hr)
  rw [hR] at KR
  obtain ⟨i0, hi, hz0, hz1, hz2⟩ := info_parts info_u8
  have HI := Lib.hid (And.intro hi (And.intro hz0 (And.intro hz1 hz2)))
  have HQ := Lib.hid hR
  have HR := Lib.hid (show ∀ W, Below w.heap.size w W → RdRw W w.heap.size A ls from fun W hb => hr.below hb)
  have HPL := Lib.hid hl
  have hk : k ≤ 16384 := by have := (rightE_iff.1 hR).1; omega
  obtain ⟨fe, hfe⟩ := ext_desc
  have HF := Lib.hid hfe
  obtain ⟨iz, hiz, hzz, _⟩ := zero_parts info_extZ
  have HZ := Lib.hid (And.intro hiz hzz)
  clear hfe hiz hzz
  have k64 : IntKind.u64.wrap (k : Int) = (k : Int) := by rw [IntKind.wrap_u64]; omega
  obtain ⟨Z, hZ⟩ : ∃ Z : Nat, (4 : Int) + (k : Int) * 40 = (Z : Int) := ⟨4 + k * 40, by omega⟩
  have hZ2 : Z ≤ 1000000 := by omega
  have hmk := fun W => run_make (P := Try.prog) W 37 5 i0 (.int .u8 0) Try.underlying37 hi hz0 .i64 .i64 (0 : Int) (Z : Int) (by omega) (by omega) (by rw [hz2]; omega) (by omega)
  simp only [hz1, Nat.mul_one] at hmk
  clear hR hr hl hi hz0 hz1 hz2
  go_enter Try.func24, Try.ntmps24
  go_wp2_with (go_at_call 12; refine KR.out.mono ?_; rintro e w2 ⟨rfl, hb⟩; have HB2 := Lib.hid hb; clear hb)
  obtain ⟨d, hd⟩ : ∃ d, w2.heap.size = d := ⟨_, rfl⟩
  obtain ⟨w3, hw3⟩ : ∃ w3, w2.alloc (.cells (madeCells #[.int .u8 0] Z) 5) = w3 := ⟨_, rfl⟩
  have H3 := Lib.hid (show Rw w w3 (some ⟨d, 0, none⟩) Z 0 [] from by
    subst hd hw3
    exact ⟨ownsRow_base (own_madeE w2 Z (by unfold maxLen; omega)) HB2.out.size, HB2.out.alloc HB2.out.size _⟩)
  rw [hd, hw3]
  clear hd hw3 hmk HB2 hZ
  refine (put_sl none [] 0 0 k 4 4 (be 4 k) w3 rfl (Rd.nil _ _ _) (by decide) rfl rfl).mono ?_
  rintro e w4 ⟨A4, k4, rfl, ho, hb⟩
  have H4 := Lib.hid (H3.out.on hb)
  have HR4 := Lib.hid ho.rd
  clear ho hb H3 KR
  go_wp2_with (at_builtin; refine wpList_append_more _ rfl (.tmp 15) (.tmp 19) 37 rfl w.heap.size 5 i0 Try.underlying37 HI.out.1 HI.out.2.1 HI.out.2.2.1 HI.out.2.2.2 (.slice (some ⟨d, 0, none⟩) 0 Z) 0 (bv []) rfl H4.out.1 _ A4 k4 4 (be 4 k) rfl (be_length 4 _) HR4.out ?_ ?_ ?_)
  case _ => rw [be_length]; omega
  case _ => exact H4.out.2.size
  intro A5 k5 w5 ho hg
  have H5 := Lib.hid (show Rw w w5 A5 k5 4 (layJ ls 0) from by
    have := H4.out.app (b := be 4 k) ho hg
    rw [layJ_zero, HPL.out]
    simpa using this)
  clear ho hg HR4 H4
  go_wp2_with fail
  go_loopw [4, 23] (fun v i wr => ∃ (j n : Nat) (X : Option Addr) (z : Nat), j ≤ k ∧ i = .int .i64 j ∧ v = .slice X n z ∧ n ≤ 700000 ∧ Hid (n = 4 + 40 * j) ∧ Hid (Rw w wr X z n (layJ ls j))) (fun _ i _ => k - (intOf i).toNat)
  case atStart => exact ⟨0, 4, A5, k5, Nat.zero_le _, rfl, rfl, by omega, Lib.hid rfl, H5⟩
  case round =>
    clear H5
    obtain ⟨j, n, X, z, hj, rfl, rfl, hn, HN, HW⟩ := hrel
    by_cases hlt : j < k
    · have hjp : j < ls.length := by rw [HPL.out]; exact hlt
      have HST := Lib.hid (layJ_row hjp)
      have HB := Lib.hid HW.out.2
      obtain ⟨g, off, rfl, hg, hra, hokx⟩ := (HR.out _ HB.out).at_ hjp
      have hok := (rightE_iff.1 HQ.out).2 _ (List.getElem_mem hjp)
      obtain ⟨x, hx⟩ : ∃ x, ls[j] = x := ⟨_, rfl⟩
      rw [hx] at hra hokx HST hok
      have HRA := Lib.hid hra
      have HOK := Lib.hid hokx
      have HRW := Lib.hid (fun W => xrow_any x hokx hok W)
      have HRO := Lib.hid (rowB_length hokx.key.1)
      have hi1 : (0 : Int) ≤ (j : Int) := by omega
      have hi2 : (j : Int) < (k : Int) := by omega
      clear hra hokx hx hjp hg hok
      have HKS := Lib.hid (show (Try.prog.info? 51).map (·.size) = some (rcs x).length by rw [rcs_length HOK.out]; exact ext_size)
      have HKS2 := Lib.hid (show (Try.prog.info? 51).map (·.size) = some (rcs x).toArray.size by rw [List.size_toArray]; exact HKS.out)
      have HOLD := Lib.hid (show (rz).size = (rcs x).toArray.size from rz_size.trans (by rw [List.size_toArray, rcs_length HOK.out]))
      have HONE := Lib.hid (rcs_one (r := x))
      have HBZ := Lib.hid (Blk.new wr 51 rz)
      obtain ⟨w2, hw2⟩ : ∃ W, wr.alloc (.cells (rcs x).toArray 51) = W := ⟨_, rfl⟩
      have hba : Below wr.heap.size wr w2 := hw2 ▸ (Below.refl wr.heap.size wr).alloc (Nat.le_refl _) _
      have HVB := Lib.hid (show Blk w2 wr.heap.size 51 (rcs x).toArray from hw2 ▸ Blk.new wr 51 (rcs x).toArray)
      have HBA := Lib.hid hba
      have HB2 := Lib.hid (HB.out.trans (hba.mono HB.out.size))
      have HW2 := Lib.hid hw2
      clear hw2 hba
      go_upto_region 8 with (first
        | ((with_reducible refine at_load ?_); refine wpList_load_mid rfl 51 (.tmp 25) rfl g (off + j * 35) rfl (rcs x) (.struct fe) HRA.out HF.out rfl HKS.out ?_)
        | ((with_reducible refine at_alloc ?_); refine wpList_alloc_z rfl 51 rfl iz _ HZ.out.1 HZ.out.2 ?_)
        | ((with_reducible refine at_store ?_); refine wpList_store_row rfl 51 (.tmp 6) (.tmp 26) rfl wr.heap.size (rcs x).toArray rfl rfl 51 rz HBZ.out HKS2.out HOLD.out HONE.out ?_; rw [setRow_alloc, HW2.out]))
      obtain ⟨vb, hvb⟩ : ∃ V, wr.heap.size = V := ⟨_, rfl⟩
      rw [hvb]
      rw [hvb] at HVB
      have HVW := Lib.hid hvb
      clear hvb HBZ HOLD HKS2 HW2
      have H6 := Lib.hid (HW.out.on HBA.out)
      have HRV := Lib.hid (range_of_blk HVB.out)
      clear HW HB HB2 HBA
      go_wp2_with ((with_reducible refine at_load ?_); refine wpList_load_mid rfl 51 (.tmp 6) rfl vb 0 rfl (rcs x) (.struct fe) HRV.out HF.out rfl HKS.out ?_)
      refine (HRW.out _).mono ?_
      rintro e w6 ⟨A6, k6, rfl, ho, hb⟩
      have H7 := Lib.hid (H6.out.on hb)
      have HR7 := Lib.hid ho.rd
      clear ho hb HRW H6 HVB HRV
      go_wp2_with (at_builtin; refine wpList_append_more _ rfl (.tmp 27) (.tmp 29) 37 rfl w.heap.size 5 i0 Try.underlying37 HI.out.1 HI.out.2.1 HI.out.2.2.1 HI.out.2.2.2 (.slice X n z) n (bv (layJ ls j)) rfl H7.out.1 _ A6 k6 40 (rowB x) rfl HRO.out HR7.out ?_ ?_ ?_)
      case _ => rw [HRO.out]; omega
      case _ => exact H7.out.2.size
      intro A8 k8 w8 ho hg
      have H8 := Lib.hid (H7.out.app (b := rowB x) ho hg)
      rw [← HST.out] at H8
      clear ho hg HR7 H7
      go_wp2_with fail
      go_roundw
      case rel => exact ⟨j + 1, n + 40, A8, k8, by omega, by go_num, rfl, by have := HN.out; omega, Lib.hid (by have := HN.out; omega), H8⟩
      case measure => simp [intOf]; omega
    · obtain rfl : j = k := by omega
      have HE := Lib.hid (show layJ ls j = layE ls by rw [← HPL.out, layJ_end])
      have HLN := Lib.hid (show n = (layE ls).length by have := HW.out.1.1; rw [bv_length] at this; rw [← HE.out]; omega)
      go_wp2_with fail
      go_ret2
      have h := HW.out
      rw [HE.out] at h
      exact ⟨X, z, by rw [← HLN.out]; rfl, by rw [← HLN.out]; exact h⟩
end Go.Proofs.Ytgemjipbifgbgaa
/- The document's reader (the reference), of any bytes that memory can hold, without package codec: number, Get. No statement of the seat is proved here. -/
namespace Go.Proofs.Ytgemjipbifgbgaa
open Go.RowKit
set_option linter.unusedVariables false

/-- The reference reader's block g: all its bytes l (at A), its place i, its fault f; its bytes lie in other blocks than g. -/
def Ref (w : World) (g : Nat) (A : Option Addr) (c : Nat) (l : List UInt8) (i : Nat) (f : Int) : Prop :=
  Blk w g 70 #[.slice A l.length c, .int .i64 i, .int .i64 f] ∧ i ≤ l.length ∧ l.length ≤ 140737488351232 ∧ l.length ≤ c ∧ Rd w g A l
section
variable {w w' : World} {g c i : Nat} {A : Option Addr} {l : List UInt8} {f : Int}
theorem Ref.below (h : Ref w g A c l i f) (hb : Below w.heap.size w w') : Ref w' g A c l i f :=
  ⟨h.1.below hb h.1.lt, h.2.1, h.2.2.1, h.2.2.2.1, h.2.2.2.2.below (hb.mono (Nat.le_of_lt h.1.lt))⟩
theorem Ref.other {g' : Nat} (h : Ref w g A c l i f) (hb : w.grownBy w' (some g')) (hlt : g < g') : Ref w' g A c l i f :=
  ⟨h.1.same (hb.block g h.1.lt (by simp; omega)), h.2.1, h.2.2.1, h.2.2.2.1, h.2.2.2.2.keep fun p hp => World.cell?_of_block (hb.block p.block (Nat.lt_trans hp h.1.lt) (by simp; omega))⟩
theorem Ref.set_ (h : Ref w g A c l i f) (i' : Nat) (f' : Int) (hi : i' ≤ l.length) (w1 : World) (hb : Blk w1 g 70 #[.slice A l.length c, .int .i64 i', .int .i64 f']) (hg : w.grownBy w1 (some g)) : Ref w1 g A c l i' f' :=
  ⟨hb, hi, h.2.2.1, h.2.2.2.1, h.2.2.2.2.keep fun p hp => World.cell?_of_block (hg.block p.block (Nat.lt_trans hp h.1.lt) (by simp; omega))⟩
end

/-- One byte more, in the walk's own spelling. -/
theorem add_step (t : List UInt8) (c : UInt8) (h : t.length ≤ 7) : val t * 256 + c.toNat < 18446744073709551616 ∧ val (t ++ [c]) = val t * 256 + c.toNat := by
  have h1 := val_lt t
  have h2 : 256 ^ t.length ≤ 256 ^ 7 := Nat.pow_le_pow_right (by omega) h
  have h3 := c.toNat_lt
  exact ⟨by omega, val_snoc _ _⟩

set_option maxHeartbeats 1407374883512320 in
theorem ref_number (g c i at_ many : Nat) (A : Option Addr) (l : List UInt8) (f : Int) (w : World) (h : Ref w g A c l i f) (h8 : many ≤ 8) (hat : at_ + many ≤ l.length) :
    Calls Try.prog 44 #[.pointer (some ⟨g, 0, none⟩), .int .i64 at_, .int .i64 many] w fun e w' => e = .returned (.int .u64 (val ((l.drop at_).take many))) ∧ w = w' := by
  obtain ⟨hb, hi, hl, hlc, hrd⟩ := h
  have hc0 := hb.cell 0
  clear hb
  go_enter Try.func44, Try.ntmps44
  go_wp2
  go_loop [7, 8] (fun n j => ∃ k : Nat, k ≤ many ∧ j = .int .i64 k ∧ n = .int .u64 (val ((l.drop at_).take k))) (fun _ j => many - (intOf j).toNat)
  case atStart => exact ⟨0, Nat.zero_le _, rfl, rfl⟩
  case round =>
    obtain ⟨k, hk, rfl, rfl⟩ := hrel
    by_cases hlt : k < many
    · obtain ⟨gb, off, rfl, hgb, hc⟩ := hrd (by omega)
      have hck := hc (at_ + k) (by omega)
      have hdl : (l.drop at_).length = l.length - at_ := List.length_drop
      have htake : (l.drop at_).take (k + 1) = (l.drop at_).take k ++ [l[at_ + k]'(by omega)] := by
        rw [List.take_succ_eq_append_getElem (by omega), List.getElem_drop]
      have hstep := add_step ((l.drop at_).take k) (l[at_ + k]'(by omega)) (by rw [List.length_take]; omega)
      rw [← htake] at hstep
      have hv := val_lt ((l.drop at_).take k)
      have HS := Lib.hid hstep
      have hstep1 := hstep.1
      clear hc hstep htake hdl hv
      generalize hy : (l[at_ + k]'(by omega)) = y at *
      clear hy
      go_wp2
      refine ⟨⟨k + 1, by omega, by go_num, ?_⟩, by simp [intOf]; omega⟩
      rw [HS.out.2]; simp
    · obtain rfl : k = many := by omega
      go_wp2
      go_ret
      exact ⟨rfl, rfl⟩

def RGetPost (w : World) (g c : Nat) (A : Option Addr) (l : List UInt8) (i : Nat) (f many : Int) (e : Ending) (w' : World) : Prop :=
  e = .returned (.int .u64 (getV (l.drop i) f many)) ∧ (∃ i', Ref w' g A c l i' (getF (l.drop i) f many) ∧ l.drop i' = getL (l.drop i) f many) ∧ w.grownBy w' (some g)

theorem ref_fault {w : World} {g c i : Nat} {A : Option Addr} {l : List UInt8} {f : Int} (h : Ref w g A c l i f) (q : Nat) (f' : Int) :
    Ref ((w.drewN q).setCell ⟨g, 2, none⟩ (.int .i64 f')) g A c l i f' ∧ w.grownBy ((w.drewN q).setCell ⟨g, 2, none⟩ (.int .i64 f')) (some g) := by
  have hg : w.grownBy ((w.drewN q).setCell ⟨g, 2, none⟩ (.int .i64 f')) (some g) := ⟨rfl, rfl, rfl, by simp [World.setCell], fun k _ hk => Below.heap_setCell (w.drewN q) _ _ _ (by rintro rfl; exact hk rfl)⟩
  have hb : Blk (w.drewN q) g 70 #[.slice A l.length c, .int .i64 i, .int .i64 f] := h.1
  exact ⟨h.set_ i f' h.2.1 _ (by simpa using hb.set_ 2 (.int .i64 f')) hg, hg⟩
theorem ref_place {w : World} {g c i : Nat} {A : Option Addr} {l : List UInt8} {f : Int} (h : Ref w g A c l i f) (q i' : Nat) (hi : i' ≤ l.length) (I : Int) (hI : I = (i' : Int)) :
    Ref ((w.drewN q).setCell ⟨g, 1, none⟩ (.int .i64 I)) g A c l i' f ∧ w.grownBy ((w.drewN q).setCell ⟨g, 1, none⟩ (.int .i64 I)) (some g) := by
  subst hI
  have hg : w.grownBy ((w.drewN q).setCell ⟨g, 1, none⟩ (.int .i64 i')) (some g) := ⟨rfl, rfl, rfl, by simp [World.setCell], fun k _ hk => Below.heap_setCell (w.drewN q) _ _ _ (by rintro rfl; exact hk rfl)⟩
  have hb : Blk (w.drewN q) g 70 #[.slice A l.length c, .int .i64 i, .int .i64 f] := h.1
  exact ⟨h.set_ i' f hi _ (by simpa using hb.set_ 1 (.int .i64 i')) hg, hg⟩

set_option maxHeartbeats 1407374883512320 in
theorem rget_bad (g c i : Nat) (A : Option Addr) (l : List UInt8) (f many : Int) (w : World) (h : Ref w g A c l i f) (hf : ¬ f = 0) :
    Calls Try.prog 36 #[.pointer (some ⟨g, 0, none⟩), .int .i64 many] w (RGetPost w g c A l i f many) := by
  have fin : RGetPost w g c A l i f many (.returned (.int .u64 0)) w :=
    ⟨by simp [getV, hf], ⟨i, by simpa [getF, hf] using h, by simp [getL, hf]⟩, World.grownBy.refl _ _⟩
  have FIN := Lib.hid fin
  have hc2 := h.1.cell 2
  have hf' : (f != 0) = true := by simpa using hf
  clear fin hf h
  go_enter Try.func36, Try.ntmps36
  go_wp2
  go_ret
  exact FIN.out

set_option maxHeartbeats 1407374883512320 in
theorem rget_arg (g c i : Nat) (A : Option Addr) (l : List UInt8) (many : Int) (w : World) (h : Ref w g A c l i 0) (hm : many < 0 ∨ 8 < many) :
    Calls Try.prog 36 #[.pointer (some ⟨g, 0, none⟩), .int .i64 many] w (RGetPost w g c A l i 0 many) := by
  have R := ref_fault h 0 1
  have fin : RGetPost w g c A l i 0 many (.returned (.int .u64 0)) (w.setCell ⟨g, 2, none⟩ (.int .i64 1)) := by
    refine ⟨by rw [getV, if_neg (by omega)]; rfl, ⟨i, ?_, by rw [getL, if_neg (by omega)]⟩, R.2⟩
    rw [getF, if_pos rfl, if_pos hm]; exact R.1
  have FIN := Lib.hid fin
  have hc2 := h.1.cell 2
  have hz2 := h.1.frozen 2
  clear fin h R
  rcases hm with hm | hm
  · go_enter Try.func36, Try.ntmps36
    go_wp2
    go_ret
    exact FIN.out
  · have hm0 : ¬ many < 0 := by omega
    go_enter Try.func36, Try.ntmps36
    go_wp2
    go_ret
    exact FIN.out

set_option maxHeartbeats 1407374883512320 in
theorem rget_short (g c i : Nat) (A : Option Addr) (l : List UInt8) (many : Int) (w : World) (h : Ref w g A c l i 0) (hm0 : ¬ many < 0) (hm8 : ¬ 8 < many) (hs : (l.length : Int) - (i : Int) < many) :
    Calls Try.prog 36 #[.pointer (some ⟨g, 0, none⟩), .int .i64 many] w (RGetPost w g c A l i 0 many) := by
  have hi := h.2.1
  have hl := h.2.2.1
  have hdl : (l.drop i).length = l.length - i := List.length_drop
  have fin : ∀ q, RGetPost w g c A l i 0 many (.returned (.int .u64 0)) ((w.drewN q).setCell ⟨g, 2, none⟩ (.int .i64 10)) := by
    intro q
    have R := ref_fault h q 10
    refine ⟨by rw [getV, if_neg (by omega)]; rfl, ⟨i, ?_, by rw [getL, if_neg (by omega)]⟩, R.2⟩
    rw [getF, if_pos rfl, if_neg (by omega), if_pos (by omega)]; exact R.1
  have FIN := fun q => Lib.hid (fin q)
  have hc0 := h.1.cell 0
  have hc1 := h.1.cell 1
  have hc2 := h.1.cell 2
  have hz2 := h.1.frozen 2
  have hl' : (l.length : Int) ≤ 140737488351232 := by omega
  have hi' : (i : Int) ≤ (l.length : Int) := by omega
  clear fin h hdl
  go_enter Try.func36, Try.ntmps36
  go_wp2_with fail
  go_quiet (fail)
  go_wp2_with fail
  go_ret
  exact (FIN _).out

set_option maxHeartbeats 1407374883512320 in
theorem rget_ok (g c i : Nat) (A : Option Addr) (l : List UInt8) (k : Nat) (w : World) (h : Ref w g A c l i 0) (hk8 : k ≤ 8) (hk : i + k ≤ l.length) :
    Calls Try.prog 36 #[.pointer (some ⟨g, 0, none⟩), .int .i64 k] w (RGetPost w g c A l i 0 k) := by
  have hi := h.2.1
  have hl := h.2.2.1
  have hdl : (l.drop i).length = l.length - i := List.length_drop
  have fin : ∀ q I, I = ((i + k : Nat) : Int) → RGetPost w g c A l i 0 k (.returned (.int .u64 (val ((l.drop i).take k)))) ((w.drewN q).setCell ⟨g, 1, none⟩ (.int .i64 I)) := by
    intro q I hI
    have R := ref_place h q (i + k) hk I hI
    refine ⟨by rw [getV, if_pos (by omega), Int.toNat_natCast], ⟨i + k, ?_, ?_⟩, R.2⟩
    · rw [getF, if_pos rfl, if_neg (by omega), if_neg (by omega)]; exact R.1
    · rw [getL, if_pos (by omega), Int.toNat_natCast, List.drop_drop]
  have FIN := fun q I hI => Lib.hid (fin q I hI)
  have hc0 := h.1.cell 0
  have hc1 := h.1.cell 1
  have hc2 := h.1.cell 2
  have hz1 := h.1.frozen 1
  have hl' : (l.length : Int) ≤ 140737488351232 := by omega
  have hi' : (i : Int) + (k : Int) ≤ (l.length : Int) := by omega
  have NUM := fun q => Lib.hid (ref_number g c i i k A l 0 (w.drewN q) (show Ref (w.drewN q) g A c l i 0 from h) hk8 hk)
  clear fin h hdl
  go_enter Try.func36, Try.ntmps36
  go_wp2_with fail
  go_quiet (fail)
  go_wp2_with (go_at_call 44; refine (NUM _).out.mono ?_; rintro e w' ⟨rfl, rfl⟩)
  go_ret
  exact (FIN _ _ (by omega)).out

theorem rget_any (g c i : Nat) (A : Option Addr) (l : List UInt8) (f many : Int) (w : World) (h : Ref w g A c l i f) :
    Calls Try.prog 36 #[.pointer (some ⟨g, 0, none⟩), .int .i64 many] w (RGetPost w g c A l i f many) := by
  by_cases hf : f = 0
  · subst hf
    by_cases hm : many < 0 ∨ 8 < many
    · exact rget_arg g c i A l many w h hm
    · by_cases hs : (l.length : Int) - (i : Int) < many
      · exact rget_short g c i A l many w h (by omega) (by omega) hs
      · obtain ⟨k, rfl⟩ := Int.eq_ofNat_of_zero_le (show 0 ≤ many by omega)
        exact rget_ok g c i A l k w h (by omega) (by have := h.2.1; omega)
  · exact rget_bad g c i A l f many w h hf
end Go.Proofs.Ytgemjipbifgbgaa
/- The reference's reader: what a Get of k bytes does, told of place and fault. No statement of the seat is proved here. -/
namespace Go.Proofs.Ytgemjipbifgbgaa
open Go.RowKit
set_option linter.unusedVariables false

/-- What a read of n bytes from place i does to the place and the fault. -/
def Moved (l : List UInt8) (i : Nat) (f : Int) (n i' : Nat) (f' : Int) : Prop := ((f = 0 ∧ i + n ≤ l.length) → i' = i + n ∧ f' = 0) ∧ (¬ (f = 0 ∧ i + n ≤ l.length) → f' ≠ 0)
theorem Moved.trans {l : List UInt8} {i n i1 m i2 : Nat} {f f1 f2 : Int} (h : Moved l i f n i1 f1) (h2 : Moved l i1 f1 m i2 f2) : Moved l i f (n + m) i2 f2 := by
  by_cases h0 : f = 0 ∧ i + n ≤ l.length
  · obtain ⟨rfl, rfl⟩ := h.1 h0
    refine ⟨fun hc => ?_, fun hc => h2.2 fun hd => hc ⟨h0.1, by omega⟩⟩
    obtain ⟨e1, e2⟩ := h2.1 ⟨rfl, by omega⟩
    exact ⟨by omega, e2⟩
  · have h3 := h.2 h0
    exact ⟨fun hc => absurd ⟨hc.1, by omega⟩ h0, fun _ => h2.2 fun hd => h3 hd.1⟩
theorem Moved.refl {l : List UInt8} {i : Nat} {f : Int} (h : i ≤ l.length) : Moved l i f 0 i f := ⟨fun hc => ⟨rfl, hc.1⟩, fun hc e => hc ⟨e, by omega⟩⟩
theorem rget_two {g c i : Nat} {A : Option Addr} {l : List UInt8} {f : Int} {w : World} (h : Ref w g A c l i f) (k : Nat) (hk : k ≤ 8) :
    Calls Try.prog 36 #[.pointer (some ⟨g, 0, none⟩), .int .i64 k] w fun e w' => w.grownBy w' (some g) ∧ ∃ (V i' : Nat) (f' : Int), e = .returned (.int .u64 V) ∧ V < 256 ^ k ∧ Ref w' g A c l i' f' ∧ Moved l i f k i' f' ∧ ((f = 0 ∧ i + k ≤ l.length) → V = val ((l.drop i).take k)) := by
  refine (rget_any g c i A l f k w h).mono ?_
  rintro e w' ⟨rfl, ⟨i', hr, hd⟩, hg⟩
  have hi := h.2.1
  have hi' := hr.2.1
  have hdl : (l.drop i).length = l.length - i := List.length_drop
  by_cases hc : f = 0 ∧ i + k ≤ l.length
  · have e1 : getV (l.drop i) f k = val ((l.drop i).take k) := by unfold getV; rw [if_pos ⟨hc.1, by omega, by omega, by omega⟩, Int.toNat_natCast]
    have e2 : getL (l.drop i) f k = l.drop (i + k) := by unfold getL; rw [if_pos ⟨hc.1, by omega, by omega, by omega⟩, Int.toNat_natCast, List.drop_drop]
    have e3 : getF (l.drop i) f k = 0 := by unfold getF; rw [if_pos hc.1, if_neg (by omega), if_neg (by omega)]
    rw [e2] at hd
    have e4 := congrArg List.length hd
    rw [List.length_drop, List.length_drop] at e4
    rw [e3] at hr
    refine ⟨hg, _, i', 0, rfl, getV_lt _ _ _, hr, ⟨fun _ => ⟨by omega, rfl⟩, fun h2 => absurd hc h2⟩, fun _ => e1⟩
  · refine ⟨hg, _, i', _, rfl, getV_lt _ _ _, hr, ⟨fun h2 => absurd h2 hc, fun _ => ?_⟩, fun h2 => absurd h2 hc⟩
    unfold getF
    by_cases hf : f = 0
    · rw [if_pos hf, if_neg (by omega), if_pos (by omega)]
      decide
    · rw [if_neg hf]
      exact hf
theorem gby_setCell {w0 w : World} {r : Option Nat} {g i : Nat} {v : Value} (h : w0.grownBy w r) (hg : w0.heap.size ≤ g) : w0.grownBy (w.setCell ⟨g, i, none⟩ v) r :=
  ⟨h.os, h.tape, h.output, by rw [setCell_size]; exact h.size, fun k hk hn => (setCell_block (by omega)).trans (h.block k hk hn)⟩
theorem gby_setRow {w0 w : World} {r : Option Nat} {g : Nat} {X : Array Value} (h : w0.grownBy w r) (hg : w0.heap.size ≤ g) : w0.grownBy (w.setRow g X) r :=
  ⟨h.os, h.tape, h.output, by simp [World.setRow]; exact h.size, fun k hk hn => (setRow_other _ _ _ _ (by omega)).trans (h.block k hk hn)⟩
theorem gby_trans {w w1 w2 : World} {g : Nat} (h : w.grownBy w1 (some g)) (h2 : w1.grownBy w2 (some g)) : w.grownBy w2 (some g) :=
  ⟨h2.os.trans h.os, h2.tape.trans h.tape, h2.output.trans h.output, Nat.le_trans h.size h2.size, fun k hk hn => (h2.block k (Nat.lt_of_lt_of_le hk h.size) hn).trans (h.block k hk hn)⟩
theorem Ref.gby {w w' : World} {g c i : Nat} {A : Option Addr} {l : List UInt8} {f : Int} (h : Ref w g A c l i f) {r : Option Nat} (hb : w.grownBy w' r) (hne : ∀ k, r = some k → g < k) : Ref w' g A c l i f :=
  ⟨h.1.same (hb.block g h.1.lt fun e => by have := hne _ e.symm; omega), h.2.1, h.2.2.1, h.2.2.2.1, h.2.2.2.2.keep fun p hp => World.cell?_of_block (hb.block p.block (Nat.lt_trans hp h.1.lt) fun e => by have := hne _ e.symm; omega)⟩
end Go.Proofs.Ytgemjipbifgbgaa
/- The reference's reader: End, without package codec. No statement of the seat is proved here. -/
namespace Go.Proofs.Ytgemjipbifgbgaa
open Go.RowKit
set_option linter.unusedVariables false

set_option maxHeartbeats 1000000 in
theorem rend_two (g c i : Nat) (A : Option Addr) (l : List UInt8) (f : Int) (w : World) (h : Ref w g A c l i f) :
    Calls Try.prog 37 #[.pointer (some ⟨g, 0, none⟩)] w fun e w' => e = .returned (.int .i64 (if f = 0 ∧ i < l.length then 11 else f)) ∧ Below w.heap.size w w' := by
  have hc0 := h.1.cell 0
  have hc1 := h.1.cell 1
  have hc2 := h.1.cell 2
  clear h
  by_cases hf : f = 0
  · subst hf
    by_cases hi : i < l.length
    · rw [if_pos ⟨rfl, hi⟩]
      have hi' : (i : Int) < (l.length : Int) := by omega
      clear hi
      go_enter Try.func37, Try.ntmps37
      go_wp2_with fail
      go_quiet (fail)
      go_wp2_with fail
      go_ret
      exact ⟨rfl, below_drewN (Below.refl _ _) _⟩
    · rw [if_neg (by omega)]
      have hi' : ¬ (i : Int) < (l.length : Int) := by omega
      clear hi
      go_enter Try.func37, Try.ntmps37
      go_wp2_with fail
      go_quiet (fail)
      go_wp2_with fail
      go_ret
      exact ⟨rfl, below_drewN (Below.refl _ _) _⟩
  · rw [if_neg (by omega)]
    have hf' : (f == 0) = false := by simpa using hf
    clear hf
    go_enter Try.func37, Try.ntmps37
    go_wp2_with fail
    go_quiet (fail)
    go_wp2_with fail
    go_ret
    exact ⟨rfl, below_drewN (Below.refl _ _) _⟩
end Go.Proofs.Ytgemjipbifgbgaa
