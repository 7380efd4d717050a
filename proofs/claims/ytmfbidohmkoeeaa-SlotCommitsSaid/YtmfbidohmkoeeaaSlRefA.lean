/- The reference's Lay (cellarageref10). No statement of the seat is proved here. -/
import Derived.Test.YtmfbidohmkoeeaaSlKit
import Derived.Test.YtmfbidohmkoeeaaPutRow
import Derived.Test.YtmfbidohmkoeeaaAppRd
import Derived.Test.YtmfbidohmkoeeaaOwnB
import Derived.Deep.DeepCutAuto
namespace Go.Proofs.Ytmfbidohmkoeeaa
open Go.RowKit
set_option linter.unusedVariables false
set_option linter.unusedSimpArgs false

def slen : Value → Nat
  | .slice _ n _ => n
  | _ => 0
section
variable {w0 w w' : World} {A : Option Addr} {c n : Nat} {L : List UInt8}
theorem rd_of_alloc (w : World) (t : TypeId) (b : UInt8) : Rd (w.alloc (.cells #[.int .u8 b.toNat] t)) (w.alloc (.cells #[.int .u8 b.toNat] t)).heap.size (some ⟨w.heap.size, 0, none⟩) [b] := fun _ => by
  refine ⟨w.heap.size, 0, rfl, by simp, fun j hj => ?_⟩
  have : j = 0 := by simpa using hj
  subst this
  rw [(Blk.new w t #[.int .u8 b.toNat]).cell]
  rfl
end
theorem be1 (a : UInt8) : be 1 a.toNat = [a] := by simp [be]
theorem u8_nat {a : Nat} (h : a < 256) : ∃ b : UInt8, a = b.toNat := ⟨UInt8.ofNat a, by rw [UInt8.toNat_ofNat']; omega⟩
set_option maxRecDepth 100000 in
set_option maxHeartbeats 2000000 in
theorem rlay_any (s : SlT) (hs : s.Ok) (w : World) : Calls Try.prog 11 #[s.v] w fun e w' => ∃ A c, e = .returned (.slice A 128 c) ∧ w'.ownsRow w.heap.size 5 1 (.slice A 128 c) 128 (bv (layS s)) ∧ Below w.heap.size w w' := by
  obtain ⟨i0, hi, hz0, hz1, hz2⟩ := info_parts info_u8
  have HI := Lib.hid (And.intro hi (And.intro hz0 (And.intro hz1 hz2)))
  obtain ⟨d, hd⟩ : ∃ d, w.heap.size = d := ⟨_, rfl⟩
  obtain ⟨w1, hw1⟩ : ∃ w1, w.alloc (.cells (slcs s).toArray 25) = w1 := ⟨_, rfl⟩
  have hB : Blk w1 d 25 (slcs s).toArray := by rw [← hw1, ← hd]; exact Blk.new w _ _
  have hb1 : Below w.heap.size w w1 := hw1 ▸ (Below.refl _ _).alloc (Nat.le_refl _) _
  obtain ⟨g, a, z, u⟩ := s
  obtain ⟨h1, h2, h3, h4⟩ := hs
  simp only at h1 h2 h3 h4
  obtain ⟨ab, rfl⟩ := u8_nat h2
  have HL := Lib.hid (show layS ⟨g, ab.toNat, z, u⟩ = be 8 g ++ [ab] ++ be 4 z ++ be 4 u ++ List.replicate 103 0 ++ be 8 g by
    unfold layS headL
    rw [be1]
    simp)
  have HP1 := Lib.hid (fun W => refput_any g 8 W (by omega) h1)
  have HP2 := Lib.hid (fun W => refput_any z 4 W (by omega) (by omega))
  have HP3 := Lib.hid (fun W => refput_any u 4 W (by omega) (by omega))
  have HLL := Lib.hid (fun W => (show Below w1.heap.size w1 W → W.cell? ⟨d, 0, none⟩ = some (.int .u64 g) ∧ W.cell? ⟨d, 1, none⟩ = some (.int .u8 ab.toNat) ∧ W.cell? ⟨d, 2, none⟩ = some (.int .u32 z) ∧ W.cell? ⟨d, 3, none⟩ = some (.int .u32 u) from fun hb => by
    have hB2 := hB.below hb hB.lt
    exact ⟨hB2.cell 0, hB2.cell 1, hB2.cell 2, hB2.cell 3⟩))
  have HW := Lib.hid (And.intro hw1 (And.intro hd hb1))
  have z64 : IntKind.u64.wrap (z : Int) = (z : Int) := by rw [IntKind.wrap_u64]; omega
  have u64 : IntKind.u64.wrap (u : Int) = (u : Int) := by rw [IntKind.wrap_u64]; omega
  clear hi hz0 hz1 hz2 hB hb1 hw1 hd h1 h2 h3 h4
  show Calls Try.prog 11 #[.agg #[.int .u64 g, .int .u8 ab.toNat, .int .u32 z, .int .u32 u]] w _
  have HW1 := Lib.hid (show w.alloc (.cells #[.int .u64 g, .int .u8 ab.toNat, .int .u32 z, .int .u32 u] 25) = w1 from HW.out.1)
  have HD := Lib.hid HW.out.2.1
  go_enter Try.func11, Try.ntmps11
  go_upto_region 1 with fail
  rw [HW1.out, HD.out]
  obtain ⟨c0, c1, c2, c3⟩ := HLL.out w1 (Below.refl _ _)
  go_wp2_with fail
  refine (HP1.out _).mono ?_
  rintro e w2 ⟨A1, k1, rfl, ho, hb⟩
  have H1 := Lib.hid (show Rw w1 w2 A1 k1 8 (be 8 g) from ⟨ho, hb⟩)
  clear ho hb c0 c1 c2 c3
  obtain ⟨c0, c1, c2, c3⟩ := HLL.out w2 H1.out.2
  go_wp2_with (at_builtin; refine wpList_append_more _ rfl (.tmp 7) (.tmp 10) 27 rfl w1.heap.size 5 i0 Try.underlying27 HI.out.1 HI.out.2.1 HI.out.2.2.1 HI.out.2.2.2 (.slice A1 8 k1) 8 (bv (be 8 g)) rfl (H1.out.on ((Below.refl _ _).alloc (Nat.le_refl _) _)).1 _ (some ⟨w2.heap.size, 0, none⟩) 1 1 [ab] rfl rfl (rd_of_alloc w2 5 ab) (by simp) ?_ ?_)
  case _ => exact Nat.le_of_lt (by have := H1.out.2.size; rw [World.size_alloc]; omega)
  intro A2 k2 w3 ho hg
  have H2 := Lib.hid ((H1.out.on ((Below.refl _ _).alloc (Nat.le_refl _) _)).app (b := [ab]) ho hg)
  clear ho hg H1 c0 c1 c2 c3
  obtain ⟨c0, c1, c2, c3⟩ := HLL.out w3 H2.out.2
  go_wp2_with fail
  refine (HP2.out _).mono ?_
  rintro e w4 ⟨B, q, rfl, ho, hb⟩
  have HB := Lib.hid (And.intro (Rd.of_own ho) hb)
  clear ho hb
  go_wp2_with (at_builtin; refine wpList_append_more _ rfl (.tmp 12) (.tmp 16) 27 rfl w1.heap.size 5 i0 Try.underlying27 HI.out.1 HI.out.2.1 HI.out.2.2.1 HI.out.2.2.2 (.slice A2 9 k2) 9 (bv (be 8 g ++ [ab])) rfl (H2.out.on HB.out.2).1 _ B q 4 (be 4 z) rfl (be_length _ _) HB.out.1 (by rw [be_length]; omega) (H2.out.on HB.out.2).2.size ?_)
  intro A3 k3 w5 ho hg
  have H3 := Lib.hid ((H2.out.on HB.out.2).app (b := be 4 z) ho hg)
  clear ho hg H2 HB c0 c1 c2 c3
  obtain ⟨c0, c1, c2, c3⟩ := HLL.out w5 H3.out.2
  go_wp2_with fail
  refine (HP3.out _).mono ?_
  rintro e w6 ⟨B, q, rfl, ho, hb⟩
  have HB := Lib.hid (And.intro (Rd.of_own ho) hb)
  clear ho hb
  go_wp2_with (at_builtin; refine wpList_append_more _ rfl (.tmp 18) (.tmp 22) 27 rfl w1.heap.size 5 i0 Try.underlying27 HI.out.1 HI.out.2.1 HI.out.2.2.1 HI.out.2.2.2 (.slice A3 13 k3) 13 (bv (be 8 g ++ [ab] ++ be 4 z)) rfl (H3.out.on HB.out.2).1 _ B q 4 (be 4 u) rfl (be_length _ _) HB.out.1 (by rw [be_length]; omega) (H3.out.on HB.out.2).2.size ?_)
  intro A4 k4 w7 ho hg
  have H4 := Lib.hid ((H3.out.on HB.out.2).app (b := be 4 u) ho hg)
  clear ho hg H3 HB c0 c1 c2 c3
  obtain ⟨c0, c1, c2, c3⟩ := HLL.out w7 H4.out.2
  go_wp2_with fail
  clear c0 c1 c2 c3
  go_loopw [3] (fun l wr => ∃ (j : Nat) (A : Option Addr) (c : Nat), j ≤ 103 ∧ l = .slice A (17 + j) c ∧ Hid (Rw w1 wr A c (17 + j) (be 8 g ++ [ab] ++ be 4 z ++ be 4 u ++ List.replicate j 0))) (fun l _ => 120 - slen l)
  case atStart => exact ⟨0, A4, k4, by omega, rfl, Lib.hid (by rw [List.replicate_zero, List.append_nil]; exact H4.out)⟩
  case round =>
    clear H4
    obtain ⟨j, A5, k5, hj, rfl, hst⟩ := hrel
    by_cases hlt : j < 103
    · go_wp2_with (at_builtin; refine wpList_append_more _ rfl (.tmp 27) (.tmp 28) 27 rfl w1.heap.size 5 i0 Try.underlying27 HI.out.1 HI.out.2.1 HI.out.2.2.1 HI.out.2.2.2 (.slice A5 (17 + j) k5) (17 + j) (bv (be 8 g ++ [ab] ++ be 4 z ++ be 4 u ++ List.replicate j 0)) rfl (hst.out.on ((Below.refl _ _).alloc (Nat.le_refl _) _)).1 _ (some ⟨wr.heap.size, 0, none⟩) 1 1 [0] rfl rfl (rd_of_alloc wr 5 0) (by simp; omega) ?_ ?_)
      case _ => exact Nat.le_of_lt (by have := hst.out.2.size; rw [World.size_alloc]; omega)
      intro A6 k6 w9 ho hg
      have H5 := Lib.hid ((hst.out.on ((Below.refl _ _).alloc (Nat.le_refl _) _)).app (b := [0]) ho hg)
      clear ho hg hst
      go_wp2_with fail
      go_roundw
      case rel => exact ⟨j + 1, A6, k6, by omega, rfl, Lib.hid (by rw [List.replicate_succ', ← List.append_assoc]; exact H5.out)⟩
      case measure => simp [slen]; omega
    · obtain rfl : j = 103 := by omega
      obtain ⟨c0, c1, c2, c3⟩ := HLL.out wr hst.out.2
      go_wp2_with fail
      refine (HP1.out _).mono ?_
      rintro e w9 ⟨B, q, rfl, ho, hb⟩
      have HB := Lib.hid (And.intro (Rd.of_own ho) hb)
      clear ho hb
      go_wp2_with (at_builtin; refine wpList_append_more _ rfl (.tmp 30) (.tmp 33) 27 rfl w1.heap.size 5 i0 Try.underlying27 HI.out.1 HI.out.2.1 HI.out.2.2.1 HI.out.2.2.2 (.slice A5 120 k5) 120 (bv (be 8 g ++ [ab] ++ be 4 z ++ be 4 u ++ List.replicate 103 0)) rfl (hst.out.on HB.out.2).1 _ B q 8 (be 8 g) rfl (be_length _ _) HB.out.1 (by rw [be_length]; omega) (hst.out.on HB.out.2).2.size ?_)
      intro A6 k6 w10 ho hg
      have H5 := Lib.hid ((hst.out.on HB.out.2).app (b := be 8 g) ho hg)
      clear ho hg hst HB c0 c1 c2 c3
      go_wp2_with fail
      go_ret
      refine ⟨A6, k6, rfl, ?_, HW.out.2.2.trans (H5.out.2.mono HW.out.2.2.size)⟩
      rw [HL.out]
      exact ownsRow_base H5.out.1 HW.out.2.2.size
end Go.Proofs.Ytmfbidohmkoeeaa
