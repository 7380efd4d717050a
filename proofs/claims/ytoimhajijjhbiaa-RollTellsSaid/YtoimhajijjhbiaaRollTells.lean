/-
  For every array of sixteen bytes, every slice of bytes ahead, every place and every byte, whatever the memory: RollTells returns true, and its arguments read as before: bytes that differ in one place of the last sixteen have unlike hashes, and what stands ahead has no part. No condition.
-/
import Derived.Test.YtoimhajijjhbiaaRows
import Derived.Test.YtoimhajijjhbiaaOpen
import Derived.Test.YtoimhajijjhbiaaRollArr
import Derived.Test.YtoimhajijjhbiaaArgB
import Derived.Test.YtoimhajijjhbiaaRollApp
import Derived.WalkKit
import Derived.ProofKit
import Derived.OpenShut
import Derived.ShutString
import Derived.ChangeOld
import Derived.Below
import Derived.SizedLaws
namespace Go.Proofs.Ytoimhajijjhbiaa.rollTells
open Go.ChangeShapes Go.WideShapes Go.ChangeAt Go.RowKit
open Go.ChangeMaps (open_string shut_string)
set_option linter.unusedVariables false

theorem own : ownKnob Try.prog.godebug = none := by kernel_rfl
theorem laidOut : laidOutB Try.prog = true := by kernel_rfl

set_option maxHeartbeats 1000000 in
theorem tells_walk (l : List UInt8) (hl : l.length = 16) (A : Option Addr) (c n : Nat) (h : List UInt8) (hh : h.length = n) (hn : n ≤ 140737488351232) (at_ x : UInt8) (w : World) (hr : Rd w w.heap.size A h) :
    Calls Try.prog 7 #[.agg (bv l).toArray, .slice A n c, .int .u8 at_.toNat, .int .u8 x.toNat] w fun e w' => e = .returned (.bool true) ∧ Below w.heap.size w w' := by
  have hz : (bv l).toArray.size = 16 := by rw [List.size_toArray, bv_length]; exact hl
  have ho := bv_one l
  obtain ⟨k, hk0⟩ : ∃ k, k = at_.toNat % 16 := ⟨_, rfl⟩
  have hk : k < 16 := by omega
  have hki : (k : Int) < 16 := by omega
  have hmod : ((at_.toNat : Nat) : Int) % 16 = (k : Int) := by omega
  have HS := Lib.hid (show (Try.prog.info? 33).map (·.size) = some (bv l).toArray.size by rw [hz]; kernel_rfl)
  obtain ⟨hzv, hzs⟩ := zero_of_info zero_16
  have hz0 : (bv (List.replicate 16 0)).toArray.size = (bv l).toArray.size := by rw [hz]; rfl
  have HZ0 := Lib.hid hz0
  have HO := Lib.hid ho
  have HL := Lib.hid hl
  have HH := Lib.hid hh
  clear ho hl hz hz0 hh hk0
  generalize hat : at_.toNat = a at *
  clear hat at_
  obtain ⟨g, hg⟩ : ∃ g, g = w.heap.size := ⟨_, rfl⟩
  have hB1 := Blk.new_at w 33 (bv l).toArray hg
  have hb1 := (Below.refl w.heap.size w).alloc (Nat.le_refl _) (.cells (bv l).toArray 33)
  have hg1 : g < (w.alloc (.cells (bv l).toArray 33)).heap.size := hB1.lt
  generalize bv (List.replicate 16 0) = Z0 at *
  generalize hC : (bv l).toArray = C at *
  have HC := Lib.hid hC
  have HG := Lib.hid hg
  clear hC hg
  go_enter Try.func7, Try.ntmps7
  go_wp2_with fail
  rw [← HG.out]
  generalize w.alloc (.cells C 33) = w1 at *
  refine (shown_any _).mono ?_
  rintro e w3 ⟨rfl, hb3⟩
  have hB3 := hB1.below hb3 hg1
  have hg3 : g < w3.heap.size := hB3.lt
  have hb3 := hb1.trans (hb3.mono hb1.size)
  clear hB1 hb1 hg1
  obtain ⟨g2, hg2⟩ : ∃ g2, g2 = w3.heap.size := ⟨_, rfl⟩
  have hB4 := Blk.new_at w3 33 Z0.toArray hg2
  have hb4 := (Below.refl w3.heap.size w3).alloc (Nat.le_refl _) (.cells Z0.toArray 33)
  have hb5 : Below w3.heap.size w3 ((w3.alloc (.cells Z0.toArray 33)).setRow g2 C) := below_setRow hb4 (by omega) C
  have hB5 : Blk ((w3.alloc (.cells Z0.toArray 33)).setRow g2 C) g2 33 C := setRow_heap _ _ _ _ _ _ hB4
  have HB3 := Lib.hid hB3
  have HB4 := Lib.hid hB4
  have HB5 := Lib.hid hB5
  have Hb5 := Lib.hid hb5
  have HG2 := Lib.hid hg2
  clear hB3 hB4 hB5 hb5 hb4 hg2
  go_upto_region 3 with first
    | (refine wpList_load_row rfl 33 (.tmp 4) rfl g rfl 33 C (0, 0) _ HB3.out Try.underlying33 rfl HS.out ?_)
    | (rw [← HG2.out]; refine wpList_store_row rfl 33 (.tmp 10) (.tmp 13) rfl g2 C rfl rfl 33 Z0.toArray HB4.out HS.out HZ0.out HO.out ?_)
    | fail
  simp only [Act.put]
  have hB5 := HB5.out
  have hb5 := Hb5.out
  have hBg5 := HB3.out.below hb5 hg3
  have hg2 : w3.heap.size ≤ g2 := by have := HG2.out; omega
  clear HB3 HB4 HB5 Hb5 HG2 hzv hzs HZ0
  generalize (w3.alloc (.cells Z0.toArray 33)).setRow g2 C = w5 at *
  have hk5 := (show Blk w5 g2 33 (bv l).toArray by rw [HC.out]; exact hB5).at_ (k := k) (by rw [HL.out]; exact hk)
  have hf5 := hB5.frozen k
  have hB6 : Blk (w5.setCell ⟨g2, k, none⟩ (.int .u8 x.toNat)) g2 33 (bv (l.set k x)).toArray := blk_set (by rw [HC.out]; exact hB5) k x
  have hb6 : Below w3.heap.size w3 (w5.setCell ⟨g2, k, none⟩ (.int .u8 x.toNat)) := hb5.setCell hg2 _
  have HB6 := Lib.hid hB6
  have Hb6 := Lib.hid hb6
  have HBg6 := Lib.hid (show Blk (w5.setCell ⟨g2, k, none⟩ (.int .u8 x.toNat)) g 33 C from hBg5.same (by rw [hb6.block g hg3, ← hb5.block g hg3]))
  have HK0 := Lib.hid hk
  generalize l[k]'(by rw [HL.out]; exact HK0.out) = lk at hk5
  clear hB5 hb5 hBg5 hB6 hb6
  go_upto_region 4 with fail
  clear hk5 hf5 hmod hki hk
  generalize w5.setCell ⟨g2, k, none⟩ (.int .u8 x.toNat) = w6 at *
  have hb6 := hb3.trans (Hb6.out.mono hb3.size)
  have hg6 : g < w6.heap.size := HBg6.out.lt
  have hg26 : g2 < w6.heap.size := HB6.out.lt
  have HRA := Lib.hid (show ∀ W, Below w6.heap.size w6 W → Rd W w.heap.size A h from fun W hb => (hr.below hb6).below (hb.mono (by have := hb6.size; omega)))
  have HRB := Lib.hid (show ∀ W, Below w6.heap.size w6 W → Rd W W.heap.size (some ⟨g, 0, none⟩) l from fun W hb => (show Blk W g 33 (bv l).toArray by rw [HC.out]; exact HBg6.out.below hb hg6).rd_from 0)
  obtain ⟨i0, hi, hz0, hz1, hz2⟩ := info_parts info_u8
  have HI := Lib.hid hi
  have HI0 := Lib.hid hz0
  have HI1 := Lib.hid hz1
  have HI2 := Lib.hid hz2
  have hbe : Below w6.heap.size w6 (w6.drew.alloc (.cells #[] 5)) := (below_drewN (Below.refl _ _) 1).alloc (Nat.le_refl _) _
  have HBE := Lib.hid hbe
  have HOE := Lib.hid (show (w6.drew.alloc (.cells #[] 5)).ownsRow w6.heap.size 5 1 (.slice (some ⟨w6.heap.size, 0, none⟩) 0 0) 0 [] from World.ownsRow_lit w6.drew #[] 0 (Nat.le_refl _) (by simp [maxLen]) rfl)
  have HN := Lib.hid (show h.length ≤ 140737488355328 by rw [HH.out]; omega)
  have HN2 := Lib.hid (show n + l.length ≤ 140737488355328 by rw [HL.out]; omega)
  have HOF := Lib.hid (show ofB (h ++ l) = ofB l from ofB_behind h l HL.out)
  have HLH := Lib.hid (show (h ++ l).length = n + 16 by rw [List.length_append, HL.out, HH.out])
  clear hi hz0 hz1 hz2 hbe hr hn
  go_region_held3 (fun _ => True) (exact trivial) (first
    | (refine step_append_first _ (by rfl) (.tmp 18) (.tmp 19) 22 (by rfl) w6.heap.size 5 i0 Try.underlying22 HI.out HI0.out HI1.out HI2.out (.slice (some ⟨w6.heap.size, 0, none⟩) 0 0) (by rfl) HOE.out w.heap.size A c n h (by rfl) HH.out (HRA.out _ HBE.out) HN.out HBE.out.size ?_; intro A7 c7 w7 ho7 hg7; have hb7 : Below w6.heap.size w6 w7 := HBE.out.grown hg7 HBE.out.size (fun g hg => (HOE.out.lt g hg).1))
    | (refine step_append_more _ (by rfl) (.tmp 20) (.tmp 21) 22 (by rfl) w6.heap.size 5 i0 Try.underlying22 HI.out HI0.out HI1.out HI2.out (.slice A7 n c7) n (bv h) (by rfl) ho7 _ (some ⟨g, 0, none⟩) 16 16 l (by rfl) HL.out (HRB.out _ hb7) HN2.out hb7.size ?_; intro A8 c8 w8 ho8 hg8; have hb8 : Below w6.heap.size w6 w8 := hb7.grown hg8 hb7.size (fun g hg => (ho7.lt g hg).1))
    | (go_at_call 9; (with_reducible refine (of_any A8 (h ++ l) c8 (n + 16) _ w8 HLH.out (Rd.of_own (by rw [bv_append]; exact ho8)) (ownsRow_le ho8) (ownsRow_le2 ho8)).mono ?_); rw [HOF.out]; rintro e w9 ⟨rfl, rfl⟩))
  have hB8 := HBg6.out.below hb8 hg6
  have hO8 := HB6.out.below hb8 hg26
  have hb := hb6.trans (hb8.mono hb6.size)
  have hg8 : g < w8.heap.size := hB8.lt
  have hS2 : (ofB (l.set k x) = ofB l ↔ l.set k x = l) := ofB_set l k x HL.out HK0.out
  have hL2 : (l.set k x).length = 16 := by rw [List.length_set]; exact HL.out
  have q1 := fun q => quiet_left (n := q) (of_any (some ⟨g, 0, none⟩) l 16 16 _ (w8.drewN q) HL.out (show Rd (w8.drewN q) w8.heap.size (some ⟨g, 0, none⟩) l from (show Blk w8 g 33 (bv l).toArray by rw [HC.out]; exact hB8).rd_from 0) (by decide) (by decide))
  have q2 := fun q => quiet_left (n := q) (of_any (some ⟨g2, 0, none⟩) (l.set k x) 16 16 _ (w8.drewN q) hL2 (show Rd (w8.drewN q) w8.heap.size (some ⟨g2, 0, none⟩) (l.set k x) from hO8.rd_from 0) (by decide) (by decide))
  have qe := eq_16 (l.set k x) l hL2 HL.out
  have hsz2 : (bv (l.set k x)).toArray.size = C.size := by rw [← HC.out, List.size_toArray, List.size_toArray, bv_length, bv_length, List.length_set]
  have HS2 := Lib.hid (show (Try.prog.info? 33).map (·.size) = some (bv (l.set k x)).toArray.size by rw [hsz2]; exact HS.out)
  have LD1 := Lib.hid (show ∀ q, (loadVar 33 ⟨g, 0, none⟩).run Try.prog (w8.drewN q) = .ok (.agg C) (w8.drewN q) from fun q =>
    run_loadVar_row _ _ 33 33 C (0, 0) _ (show (w8.drewN q).heap[g]? = _ from hB8) Try.underlying33 rfl HS.out)
  have LD2 := Lib.hid (show ∀ q, (loadVar 33 ⟨g2, 0, none⟩).run Try.prog (w8.drewN q) = .ok (.agg (bv (l.set k x)).toArray) (w8.drewN q) from fun q =>
    run_loadVar_row _ _ 33 33 (bv (l.set k x)).toArray (0, 0) _ (show (w8.drewN q).heap[g2]? = _ from hO8) Try.underlying33 rfl HS2.out)
  rw [HC.out] at qe
  have HB := Lib.hid hb
  have eqg := eq_guard
  clear HBg6 HB6 hb6 hb8 hg6 hg26 HRA HRB HI HI0 HI1 HI2 HBE HOE HN HN2 HOF HLH ho7 hg7 hb7 ho8 hB8 hO8 hb hg8 hL2 hsz2 HS2 hg2 hb3 hg3
  generalize hs1 : ofB l = s at *
  generalize hs2 : ofB (l.set k x) = s2 at *
  generalize hC2 : (bv (l.set k x)).toArray = C2 at *
  by_cases heq : l.set k x = l
  · have h12 : s2 = s := hS2.2 heq
    subst h12
    have qe2 : ∀ w, (Op.equal 33 (.agg C2) (.agg C)).run Try.prog w = .ok true w := fun w => by rw [qe w]; simp [heq]
    have Q1 := fun q => Lib.hid (q1 q)
    have Q2 := fun q => Lib.hid (q2 q)
    have QE := Lib.hid qe2
    clear hS2 qe qe2 q1 q2 hs1 hs2 hC2 heq
    go_wp2_with fail
    refine wp_region_quiet_lit (by kernel_rfl) (by kernel_rfl) ?_
    repeat (first
      | go_big_quiet_step (first | with_reducible exact (Q1 _).out | with_reducible exact (Q2 _).out)
      | (go_big_quiet_want; refine quiet_load_row 33 (.tmp 4) rfl ⟨g, 0, none⟩ rfl C (fun _ hw => by obtain ⟨q, rfl⟩ := hw; exact LD1.out q) (by simp only [Act.put, List.setIfInBounds_toArray, List.set_cons_succ, List.set_cons_zero]; rfl) ?_; go_big_quiet_on)
      | (go_big_quiet_want; refine quiet_load_row 33 (.tmp 10) rfl ⟨g2, 0, none⟩ rfl C2 (fun _ hw => by obtain ⟨q, rfl⟩ := hw; exact LD2.out q) (by simp only [Act.put, List.setIfInBounds_toArray, List.set_cons_succ, List.set_cons_zero]; rfl) ?_; go_big_quiet_on)
      | (go_big_quiet_want; refine quiet_eql_row 33 33 (.tmp 36) (.tmp 37) rfl C2 C rfl rfl eqg true QE.out (by simp only [Act.put, List.setIfInBounds_toArray, List.set_cons_succ, List.set_cons_zero]; rfl) ?_; go_big_quiet_on))
    refine wpQuiet_nil ?_
    intro _ hw'
    obtain ⟨nq, hw''⟩ := hw'
    subst hw''
    go_wp2_with fail
    go_ret
    exact ⟨rfl, below_drewN HB.out nq⟩
  · have h12 : ¬ s2 = s := fun e => heq (hS2.1 e)
    have hne : ¬ ((s2.toNat : Int) = (s.toNat : Int)) := fun e => h12 (BitVec.eq_of_toNat_eq (by omega))
    have hne1 : ((s2.toNat : Int) == (s.toNat : Int)) = false := by simpa using hne
    have hne2 : decide ((s2.toNat : Int) = (s.toNat : Int)) = false := by simpa using hne
    have hne3 : decide (s2.toNat = s.toNat) = false := by simp; omega
    have hne4 : (s2.toNat == s.toNat) = false := by simp; omega
    have qe2 : ∀ w, (Op.equal 33 (.agg C2) (.agg C)).run Try.prog w = .ok false w := fun w => by rw [qe w]; simp [heq]
    have Q1 := fun q => Lib.hid (q1 q)
    have Q2 := fun q => Lib.hid (q2 q)
    have QE := Lib.hid qe2
    clear hS2 qe qe2 q1 q2 hs1 hs2 hC2 heq h12 hne
    go_wp2_with fail
    refine wp_region_quiet_lit (by kernel_rfl) (by kernel_rfl) ?_
    repeat (first
      | go_big_quiet_step (first | with_reducible exact (Q1 _).out | with_reducible exact (Q2 _).out)
      | (go_big_quiet_want; refine quiet_load_row 33 (.tmp 4) rfl ⟨g, 0, none⟩ rfl C (fun _ hw => by obtain ⟨q, rfl⟩ := hw; exact LD1.out q) (by simp only [Act.put, List.setIfInBounds_toArray, List.set_cons_succ, List.set_cons_zero]; rfl) ?_; go_big_quiet_on)
      | (go_big_quiet_want; refine quiet_load_row 33 (.tmp 10) rfl ⟨g2, 0, none⟩ rfl C2 (fun _ hw => by obtain ⟨q, rfl⟩ := hw; exact LD2.out q) (by simp only [Act.put, List.setIfInBounds_toArray, List.set_cons_succ, List.set_cons_zero]; rfl) ?_; go_big_quiet_on)
      | (go_big_quiet_want; refine quiet_eql_row 33 33 (.tmp 36) (.tmp 37) rfl C2 C rfl rfl eqg false QE.out (by simp only [Act.put, List.setIfInBounds_toArray, List.set_cons_succ, List.set_cons_zero]; rfl) ?_; go_big_quiet_on))
    refine wpQuiet_nil ?_
    intro _ hw'
    obtain ⟨nq, hw''⟩ := hw'
    subst hw''
    go_wp2_with fail
    go_ret
    exact ⟨rfl, below_drewN HB.out nq⟩
theorem bytes_u8 : Try.prog.bytesOf 5 = 1 := by kernel_rfl
theorem walk (z0 : List Int) (A1 : Option Addr) (c1 : Nat) (z1 : List Int) (a2 a3 : Int) (w : World) (hn0 : z0.length = 16) (hw0 : ∀ n ∈ z0, (Lit.int .u8 n).wf = true)
    (hr1 : RdV w w.heap.size A1 (z1.map (Value.int .u8))) (hc1 : z1.length ≤ c1) (hm1 : c1 ≤ maxLen) (hw1 : ∀ n ∈ z1, (Lit.int .u8 n).wf = true) (hs1 : c1 * Try.prog.bytesOf 5 ≤ reachBytes)
    (w2 : (Lit.int .u8 a2).wf = true) (w3 : (Lit.int .u8 a3).wf = true) :
    Calls Try.prog 7 #[.agg (z0.map (Value.int .u8)).toArray, .slice A1 z1.length c1, .int .u8 a2, .int .u8 a3] w fun e w' => e = .returned (.bool true) ∧ Below w.heap.size w w' := by
  rw [bytesOf_bv z0 hw0]
  obtain ⟨at_, rfl⟩ := u8_of w2
  obtain ⟨x, rfl⟩ := u8_of w3
  rw [bytes_u8, Nat.mul_one] at hs1
  have hs : reachBytes = 140737488351232 := rfl
  rw [hs] at hs1
  exact tells_walk (bytesOf z0) (by rw [bytesOf_length]; exact hn0) A1 c1 z1.length (bytesOf z1) (bytesOf_length z1) (by omega) at_ x w (rd_bytes hr1 hw1)

set_option maxRecDepth 100000 in
theorem lifted (os : Os) (started : os.Started) (H : Type) (enc : TypeId × Value → H) :
    ReturnsInHanded {} Try.checked os 7 .any (Rows.rollTellsSpec.pre6 enc Try.prog Try.f7 Rows.rollTellsRow.domain false) (Rows.rollTellsSpec.post enc Try.prog Try.f7 false true false false) := by
  refine returnsInHanded_of_change_sized (C := Try.checked) own started (by kernel_rfl) Try.func7
    (ChangeSpec.witness6 (enc := enc) (C := Try.checked) false ⟨#[], #[.agg (Array.replicate 16 (.int .u8 0)), .slice none 0 0, .int .u8 0, .int .u8 0], []⟩ 8 (by kernel_rfl) (by kernel_rfl) (by kernel_rfl) (by kernel_rfl)) ?_
  intro W base args ds gs before hval0 hW hcnd hsz0 _
  have hsz : (DataW.weightsEach Try.prog (Try.f7.params.toList ++ Rows.rollTellsSpec.plain.varTypes Try.prog) (ds ++ gs)).all (· ≤ reachBytes) = true := hsz0
  clear hsz0
  have hval : ∀ (j : Nat) t v, Try.f7.params[j]? = some t → args[j]? = some v → Value.okWide Try.prog W .any base t v := hval0
  have hW' := hW
  obtain ⟨p, q, hA0, hV, rfl, hfz, hnd⟩ := hW
  have hA : DataW.TrodAll enc Try.prog W 0 (fun _ => true) true Try.f7.params.toList args.toList ds p := hA0
  rw [Try.params7] at hA hval hsz
  obtain ⟨v0, vs0, d0, ds0, p0, q0, hargs, rfl, rfl, h0, r0⟩ := trodAll_cons hA
  obtain ⟨v1, vs1, d1, ds1, p1, q1, rfl, rfl, rfl, h1, r1⟩ := trodAll_cons r0
  obtain ⟨v2, vs2, d2, ds2, p2, q2, rfl, rfl, rfl, h2, r2⟩ := trodAll_cons r1
  obtain ⟨v3, vs3, d3, ds3, p3, q3, rfl, rfl, rfl, h3, r3⟩ := trodAll_cons r2
  obtain ⟨rfl, rfl, rfl⟩ := trodAll_nil r3
  obtain rfl : args = #[v0, v1, v2, v3] := by cases args; simp_all
  obtain ⟨rfl, rfl⟩ := trodVars_none hV
  have k0 := h0
  have lt0 : ∀ x ∈ p0, x.block < W.heap.size := by obtain ⟨m, hm⟩ := k0; exact DataW.trod_lt m _ _ _ hm
  obtain ⟨z0, rfl, hn0, hw0⟩ := open_array_arg (n := 16) Try.underlying33 Try.underlying5 (by kernel_rfl) (by kernel_rfl) (hval 0 33 v0 rfl rfl) h0
  obtain ⟨A1, n1, c1, rfl⟩ := okWide_slice Try.underlying22 (hval 1 22 v1 rfl rfl)
  have k1 := h1
  have lt1 : ∀ x ∈ p1, x.block < W.heap.size := by obtain ⟨m, hm⟩ := k1; exact DataW.trod_lt m _ _ _ hm
  obtain ⟨fuel1, hf1⟩ := h1
  obtain ⟨z1, rfl, hr1, hc1, hm1, hw1, hs1⟩ := open_ints_sized Try.underlying22 Try.underlying5 (by kernel_rfl) hf1 hsz (j := 1) rfl rfl
  obtain ⟨a2, rfl, rfl, rfl, w2⟩ := open_int Try.underlying5 (hval 2 5 v2 rfl rfl) h2
  obtain ⟨a3, rfl, rfl, rfl, w3⟩ := open_int Try.underlying5 (hval 3 5 v3 rfl rfl) h3
  clear hA0 hval0
  simp only [List.append_nil] at hW'
  refine (walk z0 A1 c1 z1 a2 a3 W hn0 hw0 hr1 hc1 hm1 hw1 hs1 w2 w3).mono fun e W' ⟨he, bel⟩ => ?_
  subst he
  exact ⟨_, rfl, _, _, _, [], _, [], hW', trodAll_mk1 (shut_bool Try.underlying4 _), (trodAll_cons_mk (Below.trod laidOut (by kernel_rfl) (of_decide_eq_true (by kernel_rfl)) k0 bel lt0) (trodAll_cons_mk (Below.trod laidOut (by kernel_rfl) (of_decide_eq_true (by kernel_rfl)) k1 bel lt1) (trodAll_cons_mk (shut_int Try.underlying5 w2) (trodAll_cons_mk (shut_int Try.underlying5 w3) trodAll_mk0)))), rfl, bel.frame _, fun h => by cases h⟩

theorem over : Rows.rollTellsRow.holds Try.pinned (OpenSpec.ofChange Rows.rollTellsSpec) :=
  OpenClaim.holds_of_wide 7 Try.f7 rfl rfl rfl rfl rfl rfl rfl ⟨rfl, rfl, rfl, rfl, rfl⟩ rfl rfl rfl rfl rfl (by kernel_rfl) Try.func7 (by kernel_rfl)
    (of_decide_eq_true (by kernel_rfl)) (by unfold Func.isWrapper; first | (rw [if_pos (by decide +kernel)]; kernel_rfl) | (rw [if_neg (by decide +kernel)]; exact ⟨rfl, rfl⟩))
    (fun os started H enc _ => lifted os started H enc)

theorem proved : Rows.RollTellsSaid := over
#print axioms proved
end Go.Proofs.Ytoimhajijjhbiaa.rollTells
