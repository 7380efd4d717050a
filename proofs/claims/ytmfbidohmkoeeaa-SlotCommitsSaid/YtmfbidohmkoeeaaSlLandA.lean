/- What the landed package slot does: inSector, Lay. No statement of the seat is proved here. -/
import Derived.Test.YtmfbidohmkoeeaaSlKit
import Derived.Test.YtmfbidohmkoeeaaCodecO
import Derived.Test.YtmfbidohmkoeeaaAllocZ
import Derived.Test.YtmfbidohmkoeeaaOwnRow
import Derived.Test.YtmfbidohmkoeeaaQuiet
import Derived.Laws.CopyOwn
import Derived.Deep.MidRow
import Derived.StillTailTactics
import Derived.Deep.DeepCutAuto
namespace Go.Proofs.Ytmfbidohmkoeeaa
open Go.RowKit
set_option linter.unusedVariables false
set_option linter.unusedSimpArgs false

def zr (n : Nat) : List UInt8 := List.replicate n 0
theorem zr_length (n : Nat) : (zr n).length = n := by simp [zr]
theorem lay_one1 (s : SlT) : splice (bv (zr 128)) 0 (bv (headL s)) = bv (headL s ++ zr 111) := by
  unfold splice
  rw [List.take_zero, List.nil_append, bv_append, bv_length, headL_length]
  congr 1
theorem lay_two (s : SlT) : splice (bv (headL s ++ zr 111)) 120 (bv (be 8 s.g)) = bv (layS s) := by
  unfold splice
  rw [bv_length, be_length]
  have h1 : (bv (headL s ++ zr 111)).drop (120 + 8) = [] := List.drop_of_length_le (by rw [bv_length, List.length_append, headL_length, zr_length]; exact Nat.le_refl _)
  have h2 : (bv (headL s ++ zr 111)).take 120 = bv (headL s ++ zr 103) := by
    unfold bv
    rw [← List.map_take, List.take_append, List.take_of_length_le (by rw [headL_length]; omega), headL_length]
    unfold zr
    rw [List.take_replicate, show min (120 - 17) 111 = 103 from rfl]
  rw [h1, h2, List.append_nil, ← bv_append]
  unfold layS zr
  rw [List.append_assoc]
theorem sec_zero : ∃ i, Try.prog.info? 42 = some i ∧ i.zero = some (.agg (bv (zr 128)).toArray) ∧ i.size = 128 := zero_parts (by kernel_rfl)
theorem sec_size : (Try.prog.info? 42).map (·.size) = some 128 := by kernel_rfl
theorem sec_desc : ∃ n e, Try.prog.underlying 42 = some (.array n e) := ⟨_, _, Try.underlying42⟩
theorem lay_size (s : SlT) : (bv (layS s)).toArray.size = 128 := by rw [List.size_toArray, bv_length, layS_length]
/-- Bytes are copied into a block. -/
theorem copy_sec {w w0 : World} {B x o n1 n2 m c : Nat} {A : Option Addr} {cur cs : List Value} {t : TypeId} (hX : w.heap[x]? = some (.cells cur.toArray t (0, 0))) (hn : cs.length = m) (hm : Nat.min m n1 = m)
    (hsrc : ∃ ad, A = some ad ∧ ∀ j v, cs[j]? = some v → w.cell? (ad.add j) = some v) (hfit : o + cs.length ≤ cur.length) (h1 : ∀ v ∈ cs, v.oneCell' = true) (hb : Below B w0 w) (hBx : B ≤ x) :
    ∃ w', (∀ ty, (Builtin.copy_ #[27, 27] ty #[.slice (some ⟨x, o, none⟩) n1 n2, .slice A m c]).run Try.prog w = .ok (.int .i64 (m : Nat)) w') ∧ w'.heap[x]? = some (.cells (splice cur o cs).toArray t (0, 0)) ∧ Below B w0 w' := by
  have hU8 : (Try.prog.info? 5).map (·.size) = some 1 := by kernel_rfl
  obtain ⟨ad, rfl, hs⟩ := hsrc
  refine ⟨_, fun ty => ?_, setRow_heap w x _ _ t _ hX, below_setRow hb hBx _⟩
  have h := run_copy_row (P := Try.prog) w 27 27 ty 5 x o n1 n2 ad m c cur.toArray t cs Try.underlying27 hU8 hX (by rw [hn, hm]) hs (by simpa using hfit) h1
  rw [h]
  simp [splice, goInt, hn]
set_option maxRecDepth 100000 in
set_option maxHeartbeats 4000000 in
theorem insec_any (s : SlT) (hs : s.Ok) (w : World) : Calls Try.prog 16 #[s.v] w fun e w' => e = .returned (.agg (bv (layS s)).toArray) ∧ Below w.heap.size w w' := by
  obtain ⟨i0, hi, hz, _⟩ := sec_zero
  obtain ⟨sn, se, hsd⟩ := sec_desc
  obtain ⟨Z, hZ⟩ : ∃ Z, bv (zr 128) = Z := ⟨_, rfl⟩
  have hZl : Z.length = 128 := by rw [← hZ, bv_length, zr_length]
  rw [hZ] at hz
  obtain ⟨d, hd⟩ : ∃ d, w.heap.size = d := ⟨_, rfl⟩
  obtain ⟨w0, hw0⟩ : ∃ w0, w.alloc (.cells (slcs s).toArray 25) = w0 := ⟨_, rfl⟩
  have hb0 : Below w.heap.size w w0 := hw0 ▸ (Below.refl _ _).alloc (Nat.le_refl _) _
  have hz0 : w0.heap.size = d + 1 := by rw [← hw0, ← hd]; exact Array.size_push ..
  obtain ⟨w1, hw1⟩ : ∃ w1, w0.alloc (.cells Z.toArray 42) = w1 := ⟨_, rfl⟩
  have hb1 : Below w0.heap.size w0 w1 := hw1 ▸ (Below.refl _ _).alloc (Nat.le_refl _) _
  have hB0 : Blk w0 d 25 (slcs s).toArray := by rw [← hw0, ← hd]; exact Blk.new w _ _
  have hB : Blk w1 d 25 (slcs s).toArray := hB0.below hb1 hB0.lt
  have hR : Blk w1 (d + 1) 42 Z.toArray := by rw [← hw1, ← hz0]; exact Blk.new w0 _ _
  obtain ⟨g, a, z, u⟩ := s
  obtain ⟨h1, h2, h3, h4⟩ := hs
  simp only at h1 h2 h3 h4
  have HLL := Lib.hid (fun W => (show Below w1.heap.size w1 W → (W.cell? ⟨d, 0, none⟩ = some (.int .u64 g) ∧ W.cell? ⟨d, 1, none⟩ = some (.int .u8 a) ∧ W.cell? ⟨d, 2, none⟩ = some (.int .u32 z) ∧ W.cell? ⟨d, 3, none⟩ = some (.int .u32 u)) ∧ Blk W (d + 1) 42 Z.toArray from fun hb => by
    have hB2 := hB.below hb hB.lt
    exact ⟨⟨hB2.cell 0, hB2.cell 1, hB2.cell 2, hB2.cell 3⟩, hR.below hb hR.lt⟩))
  have HD := Lib.hid (And.intro hd (And.intro hw0 (And.intro hz0 hw1)))
  have HB := Lib.hid (show Below w.heap.size w w1 from hb0.trans (hb1.mono hb0.size))
  have HI := Lib.hid (And.intro hi hz)
  have HZ := Lib.hid (And.intro hZ hZl)
  have HP1 := Lib.hid (fun W => put_sl none [] 0 0 g 8 8 (be 8 g) W rfl (Rd.nil _ _ _) (by simp) rfl rfl)
  have HP2 := Lib.hid (fun (A : Option Addr) (c : Nat) (W : World) (hr : Rd W W.heap.size A (be 8 g)) => put_sl A (be 8 g) c 8 a 1 9 (be 8 g ++ be 1 a) W (be_length _ _) hr (by rw [be_length]; omega) (by rw [be_length]; rfl) rfl)
  have l2 : (be 8 g ++ be 1 a).length = 9 := by rw [List.length_append, be_length, be_length]
  have l3 : (be 8 g ++ be 1 a ++ be 4 z).length = 13 := by rw [List.length_append, l2, be_length]
  have HP3 := Lib.hid (fun (A : Option Addr) (c : Nat) (W : World) (hr : Rd W W.heap.size A (be 8 g ++ be 1 a)) => put_sl A (be 8 g ++ be 1 a) c 9 z 4 13 (be 8 g ++ be 1 a ++ be 4 z) W l2 hr (by rw [l2]; omega) (by rw [l2]; rfl) rfl)
  have HP4 := Lib.hid (fun (A : Option Addr) (c : Nat) (W : World) (hr : Rd W W.heap.size A (be 8 g ++ be 1 a ++ be 4 z)) => put_sl A (be 8 g ++ be 1 a ++ be 4 z) c 13 u 4 17 (headL ⟨g, a, z, u⟩) W l3 hr (by rw [l3]; omega) (by rw [l3]; rfl) (by rw [show kOf 4 = 4 from rfl]; simp [headL]))
  have a64 : IntKind.u64.wrap (a : Int) = (a : Int) := by rw [IntKind.wrap_u64]; omega
  have z64 : IntKind.u64.wrap (z : Int) = (z : Int) := by rw [IntKind.wrap_u64]; omega
  have u64 : IntKind.u64.wrap (u : Int) = (u : Int) := by rw [IntKind.wrap_u64]; omega
  obtain ⟨s, hs⟩ : ∃ s : SlT, (⟨g, a, z, u⟩ : SlT) = s := ⟨_, rfl⟩
  have HS := Lib.hid (show s.g = g by rw [← hs])
  rw [hs] at HP4
  show Calls Try.prog 16 #[.agg #[.int .u64 g, .int .u8 a, .int .u32 z, .int .u32 u]] w fun e w' => e = .returned (.agg (bv (layS ⟨g, a, z, u⟩)).toArray) ∧ Below w.heap.size w w'
  rw [hs]
  obtain ⟨R, hR⟩ : ∃ R, (bv (layS s)).toArray = R := ⟨_, rfl⟩
  rw [hR]
  have HRS := Lib.hid (show R.size = 128 by rw [← hR, lay_size])
  have HRE := Lib.hid hR
  clear hR
  have HW0 := Lib.hid (show w.alloc (.cells #[.int .u64 g, .int .u8 a, .int .u32 z, .int .u32 u] 25) = w0 from hw0)
  have HSD := Lib.hid hsd
  clear hsd hi hz hZ hd hw0 hb0 hz0 hw1 hb1 hB0 hB hR h1 h2 h3 h4 l2 l3 hs hZl
  go_enter Try.func16, Try.ntmps16
  go_upto_region 1 with (refine wpList_alloc_z rfl 42 rfl i0 _ HI.out.1 HI.out.2 ?_)
  rw [HW0.out, HD.out.1, HD.out.2.2.1, HD.out.2.2.2]
  obtain ⟨⟨c0, c1, c2, c3⟩, -⟩ := HLL.out w1 (Below.refl _ _)
  go_wp2_with fail
  refine (HP1.out _).mono ?_
  rintro e w2 ⟨A1, k1, rfl, ho, hb⟩
  have H1 := Lib.hid (And.intro ho.rd hb)
  clear ho hb c0 c1 c2 c3
  obtain ⟨⟨c0, c1, c2, c3⟩, -⟩ := HLL.out w2 H1.out.2
  go_wp2_with fail
  refine (HP2.out _ _ _ H1.out.1).mono ?_
  rintro e w3 ⟨A2, k2, rfl, ho, hb⟩
  have H2 := Lib.hid (And.intro ho.rd (H1.out.2.trans (hb.mono H1.out.2.size)))
  clear ho hb c0 c1 c2 c3 H1
  obtain ⟨⟨c0, c1, c2, c3⟩, -⟩ := HLL.out w3 H2.out.2
  go_wp2_with fail
  refine (HP3.out _ _ _ H2.out.1).mono ?_
  rintro e w4 ⟨A3, k3, rfl, ho, hb⟩
  have H3 := Lib.hid (And.intro ho.rd (H2.out.2.trans (hb.mono H2.out.2.size)))
  clear ho hb c0 c1 c2 c3 H2
  obtain ⟨⟨c0, c1, c2, c3⟩, -⟩ := HLL.out w4 H3.out.2
  go_wp2_with fail
  refine (HP4.out _ _ _ H3.out.1).mono ?_
  rintro e w5 ⟨A4, k4, rfl, ho, hb⟩
  have hcap := ho.cap
  have hrd := ho.rd
  have hb5 := H3.out.2.trans (hb.mono H3.out.2.size)
  clear ho hb c0 c1 c2 c3 H3 HP1 HP2 HP3 HP4
  obtain ⟨x, hx⟩ : ∃ x, w5.heap.size = x := ⟨_, rfl⟩
  obtain ⟨w6, hw6⟩ : ∃ w6, w5.alloc (.cells Z.toArray 42) = w6 := ⟨_, rfl⟩
  have hb6 : Below w5.heap.size w5 w6 := hw6 ▸ (Below.refl _ _).alloc (Nat.le_refl _) _
  have hX : w6.heap[x]? = some (.cells Z.toArray 42 (0, 0)) := by rw [← hw6, ← hx]; exact Blk.new w5 _ _
  have hk4 : k4 ≤ 9223372036854775807 := by have := hcap.2; unfold maxLen at this; omega
  have hk17 := hcap.1
  have HX := Lib.hid hX
  have HW6 := Lib.hid (And.intro hw6 hx)
  have HB6 := Lib.hid (And.intro hb6 hb5)
  have hrd5 := Lib.hid (show Rd w5 w5.heap.size A4 (headL s) from hrd)
  have HRD := Lib.hid (show Rd w6 w5.heap.size A4 (headL s) from hrd.below hb6)
  clear hX hw6 hx hb6 hb5 hrd hcap
  go_upto_region 6 with (refine wpList_alloc_z rfl 42 rfl i0 _ HI.out.1 HI.out.2 ?_)
  rw [HW6.out.1, HW6.out.2]
  have HB7 := Lib.hid (show w5.heap.size ≤ x by have := HW6.out.2; omega)
  have HBE : (bv (headL s)).length = 17 := by rw [bv_length, headL_length]
  obtain ⟨w7, hcr, e7, hb7⟩ := copy_sec (n1 := 128) (n2 := 128) (c := k4) (o := 0) HX.out HBE rfl (HRD.out.cells (by rw [headL_length]; omega)) (by rw [HBE, HZ.out.2]; decide) (bv_oneCell _) HB6.out.1 HB7.out
  rw [← HZ.out.1, lay_one1] at e7
  clear HBE
  have HX7 := Lib.hid e7
  have HRD7 := Lib.hid (show ∃ ad, A4 = some ad ∧ ∀ j v, (bv (be 8 s.g))[j]? = some v → w7.drew.cell? (ad.add j) = some v from by
    have h : Rd w7.drew w5.heap.size A4 (be 8 s.g) := by
      have h1 := (hrd5.out.below hb7).take 8
      rw [show (headL s).take 8 = be 8 s.g from by unfold headL; exact List.take_left' (be_length _ _)] at h1
      exact h1.keep fun _ _ => rfl
    exact h.cells (by rw [be_length]; omega))
  have HBX := Lib.hid (show Below w5.heap.size w5 w7.drew from below_drewN hb7 1)
  have HBE : (bv (be 8 s.g)).length = 8 := by rw [bv_length, be_length]
  obtain ⟨w8, hcr2, e8, hb8⟩ := copy_sec (w := w7.drew) (n1 := 8) (n2 := 8) (c := k4) (o := 120) HX7.out HBE rfl HRD7.out (by rw [HBE, bv_length, List.length_append, headL_length, zr_length]; decide) (bv_oneCell _) HBX.out HB7.out
  rw [lay_two] at e8
  rw [HRE.out] at e8
  have HX8 := Lib.hid e8
  have HB8 := Lib.hid (HB6.out.2.trans (hb8.mono HB6.out.2.size))
  have HR8 := Lib.hid (HLL.out w8 HB8.out).2
  have HS1 := Lib.hid (show (Try.prog.info? 42).map (·.size) = some R.size by rw [HRS.out]; exact sec_size)
  have HS2 := Lib.hid (show Z.toArray.size = R.size by rw [HRS.out, List.size_toArray, HZ.out.2])
  have HS3 := Lib.hid (show R.all (·.oneCell') = true by rw [← HRE.out]; exact all_oneCell_toArray (bv_oneCell _))
  clear hb7 e7 e8 hb8 HX HRD HBE
  go_wp2_with fail
  have hk8 : (8 : Int) ≤ (k4 : Int) := by omega
  have hk8n : 8 ≤ k4 := by omega
  refine wp_region_still_tail 3 (by kernel_rfl) (by kernel_rfl) ?_
  simp only [List.take_succ_cons, List.take_zero, List.drop_succ_cons, List.drop_zero]
  repeat still_step
  refine wpStill_nil ?_
  change wpList _ _ _ _ _ w7.drew
  go_wp2_with (first
        | (refine wpList_load_row rfl 42 (.tmp 4) rfl x rfl 42 R (0, 0) _ HX8.out HSD.out rfl HS1.out ?_)
        | (refine wpList_store_row rfl 42 (.tmp 2) (.tmp 30) rfl (d + 1) R rfl rfl 42 Z.toArray HR8.out HS1.out HS2.out HS3.out ?_))
  refine bodyPost_ret (v := .agg R) ?_ rfl ⟨rfl, below_setRow (HB.out.trans (HB8.out.mono HB.out.size)) (by have := HD.out.1; omega) _⟩
  · exact results_cell_row rfl _ _ (d + 1) 42 R (0, 0) _ rfl (setRow_heap _ _ _ _ _ _ HR8.out) HSD.out rfl HS1.out
end Go.Proofs.Ytmfbidohmkoeeaa
