/-
  That the chunks of a stream are the same in whichever pieces its bytes come: for every cutter, all bytes (the first 5,000) and all sizes of pieces the law ChunkPieces returns true; no condition.
-/
import Derived.Test.YtmnbfmcgnddlaaaRows
import Derived.Test.YtmnbfmcgnddlaaaOpen
import Derived.Test.YtmnbfmcgnddlaaaChunkLaw
import Derived.Test.YtmnbfmcgnddlaaaChunkRows
import Derived.WalkKit
import Derived.ProofKit
import Derived.OpenShut
import Derived.ShutString
import Derived.ChangeOld
import Derived.Below
namespace Go.Proofs.Ytmnbfmcgnddlaaa.chunkPieces
open Go.ChangeShapes Go.WideShapes Go.ChangeAt Go.RowKit
open Go.ChangeMaps (open_string shut_string)
set_option linter.unusedVariables false

theorem own : ownKnob Try.prog.godebug = none := by kernel_rfl
theorem laidOut : laidOutB Try.prog = true := by kernel_rfl

set_option maxHeartbeats 1000000 in
theorem pieces_bad (mn mx ma ba : Int) (hk : ¬ okI mn mx ma ba) (A : Option Addr) (c n : Nat) (v : Value) (w : World) (hc : n ≤ c) (hm : c ≤ 9223372036854775807) :
    Calls Try.prog 6 #[ctr mn mx ma ba, .slice A n c, v] w fun e w' => e = .returned (.bool true) ∧ Below w.heap.size w w' := by
  obtain ⟨m, hm20⟩ : ∃ m, m = min n 5000 := ⟨_, rfl⟩
  have hmc : (m : Int) ≤ (c : Int) := by omega
  have hif : (if (5000 : Int) < (n : Int) then (5000 : Int) else (n : Int)) = (m : Int) := by split <;> omega
  obtain ⟨g, hg⟩ : ∃ g, g = w.heap.size := ⟨_, rfl⟩
  have hb1 := (Below.refl w.heap.size w).alloc (Nat.le_refl _) (.cells #[.int .i64 mn, .int .i64 mx, .int .u32 ma, .int .u32 ba] 24)
  have hB1 := blk_at w 24 #[.int .i64 mn, .int .i64 mx, .int .u32 ma, .int .u32 ba] hg
  have HG := Lib.hid hg
  have HK := Lib.hid hk
  clear hk
  go_enter Try.func6, Try.ntmps6
  go_wp2_with fail
  rw [← hg]
  generalize w.alloc (.cells #[.int .i64 mn, .int .i64 mx, .int .u32 ma, .int .u32 ba] 24) = w1 at *
  refine (shown_any _).mono ?_
  rintro e w2 ⟨rfl, hb2⟩
  have hB2 := hB1.below hb2 hB1.lt
  have hb2 := hb1.trans (hb2.mono hb1.size)
  obtain ⟨c0, c1, c2, c3⟩ := ctr_cells hB2
  clear hg hb1 hB1 hm20
  go_wp2_with fail
  with_reducible refine (all_bad mn mx ma ba HK.out A m c w2).mono ?_
  rintro e w3 ⟨rfl, hb3⟩
  have hB3 := hB2.below hb3 hB2.lt
  have hb3 := hb2.trans (hb3.mono hb2.size)
  obtain ⟨c0, c1, c2, c3⟩ := ctr_cells hB3
  clear hB2 hb2 hif hmc
  go_wp2_with fail
  with_reducible refine (new_bad mn mx ma ba HK.out w3).mono ?_
  rintro e w4 ⟨rfl, hb4⟩
  have hB4 := hB3.below hb4 hB3.lt
  have hb4 := hb3.trans (hb4.mono hb3.size)
  obtain ⟨c0, c1, c2, c3⟩ := ctr_cells hB4
  clear hB3 hb3
  go_wp2_with fail
  refine (right_any _ _ _ _ _).mono ?_
  rintro e w5 ⟨rfl, hb5⟩
  rw [decide_eq_false HK.out]
  have hb5 := hb4.trans (hb5.mono hb4.size)
  clear hb4 hB4
  go_wp2_with fail
  go_ret
  exact ⟨rfl, hb5⟩
theorem tail_len (C : Ctr) (l : List UInt8) : (allC C l).length = (chunksB C l).length + (tailB (leftB C l)).length := by unfold allC; rw [List.length_append]
set_option maxHeartbeats 2000000 in
theorem pieces_ok (C : Ctr) (K : C.Ok) (A : Option Addr) (c n : Nat) (l : List UInt8) (A2 : Option Addr) (c2 n2 : Nat) (l2 : List UInt8) (w : World) (hl : l.length = n) (hc : n ≤ c) (hm : c ≤ 9223372036854775807) (hr : Rd w w.heap.size A l)
    (hl2 : l2.length = n2) (hc2 : n2 ≤ c2) (hm2 : c2 ≤ 9223372036854775807) (hr2 : Rd w w.heap.size A2 l2) :
    Calls Try.prog 6 #[ctr C.mn C.mx C.ma.toNat C.ba.toNat, .slice A n c, .slice A2 n2 c2] w fun e w' => e = .returned (.bool true) ∧ Below w.heap.size w w' := by
  obtain ⟨i0, hi, hz0, hz1, hz2⟩ := info_parts info_bytes
  obtain ⟨m, hm20⟩ : ∃ m, m = min n 5000 := ⟨_, rfl⟩
  have hmc : (m : Int) ≤ (c : Int) := by omega
  have hif : (if (5000 : Int) < (n : Int) then (5000 : Int) else (n : Int)) = (m : Int) := by split <;> omega
  obtain ⟨x, hx⟩ : ∃ x, x = l.take m := ⟨_, rfl⟩
  have hxl : x.length = m := by rw [hx, List.length_take]; omega
  have hm5 : m ≤ 5000 := by omega
  have hmcn : m ≤ c := by omega
  have hrx : Rd w w.heap.size A x := by rw [hx]; exact hr.take m
  obtain ⟨g, hg⟩ : ∃ g, g = w.heap.size := ⟨_, rfl⟩
  have hb1 := (Below.refl w.heap.size w).alloc (Nat.le_refl _) (.cells #[.int .i64 C.mn, .int .i64 C.mx, .int .u32 C.ma.toNat, .int .u32 C.ba.toNat] 24)
  have hB1 := blk_at w 24 #[.int .i64 C.mn, .int .i64 C.mx, .int .u32 C.ma.toNat, .int .u32 C.ba.toNat] hg
  have HG := Lib.hid hg
  have HK := Lib.hid K
  have HX := Lib.hid hxl
  have HRX := Lib.hid hrx
  have HL2 := Lib.hid hl2
  have HR2 := Lib.hid hr2
  clear K hx hr hrx hl hl2 hr2 hm20 hxl
  go_enter Try.func6, Try.ntmps6
  go_wp2_with fail
  rw [← hg]
  generalize w.alloc (.cells #[.int .i64 C.mn, .int .i64 C.mx, .int .u32 C.ma.toNat, .int .u32 C.ba.toNat] 24) = w1 at *
  refine (shown_any _).mono ?_
  rintro e w2 ⟨rfl, hb2⟩
  have hB2 := hB1.below hb2 hB1.lt
  have hb2 := hb1.trans (hb2.mono hb1.size)
  obtain ⟨k0, k1, k2, k3⟩ := ctr_cells hB2
  clear hg hb1 hB1
  go_wp2_with fail
  with_reducible refine (all_ok C HK.out A x m c HX.out (by omega) hmcn hm w2 ((HRX.out.below hb2).more hb2.size)).mono ?_
  rintro e w3 ⟨Va, rfl, ⟨pa, hca, hpa⟩, hb3⟩
  obtain ⟨Aa, ca, rfl, hla, hma⟩ := hca.form
  obtain ⟨za, hza⟩ : ∃ z, z = pa.length := ⟨_, rfl⟩
  rw [← hza] at hca hla ⊢
  have HZA := Lib.hid hza
  clear hza
  have hB3 := hB2.below hb3 hB2.lt
  have hb3 := hb2.trans (hb3.mono hb2.size)
  obtain ⟨k0, k1, k2, k3⟩ := ctr_cells hB3
  clear hB2 hb2 hif hmc
  go_wp2_with fail
  with_reducible refine (new_ok C HK.out w3).mono ?_
  rintro e w4 ⟨s, rfl, hst, hb4⟩
  have hca := hca.on hb4
  have hsw : w.heap.size ≤ s := Nat.le_trans hb3.size hst.le
  have hb4 := hb3.trans (hb4.mono hb3.size)
  have hst := hst.base (B' := w.heap.size) hb3.size
  have HST := Lib.hid hst
  have HCA := Lib.hid (And.intro hca hpa)
  have HB4 := Lib.hid hb4
  have HSW := Lib.hid hsw
  clear hB3 hb3 hst hca hpa hb4 hsw k0 k1 k2 k3
  go_wp2_with fail
  have hst0 := Lib.hid (show St w4 w.heap.size s C none 0 0 (leftB C (x.take 0)) by rw [List.take_zero, left_nil HK.out]; exact HST.out)
  go_loopw [11, 12, 13] (fun o r i wr => ∃ (j i1 kr : Nat) (ps : List Part) (Ar : Option Addr) (cr : Nat) (Ah : Option Addr) (nh ch : Nat), kr + j = m ∧ i1 ≤ j ∧ i = .int .i64 i1 ∧ r = .slice Ar kr cr ∧ kr ≤ cr ∧ cr ≤ 9223372036854775807 ∧ Rd w w.heap.size Ar (x.drop j) ∧
      Chunks wr w4.heap.size o ps ∧ psb ps = chunksB C (x.take j) ∧ St wr w.heap.size s C Ah nh ch (leftB C (x.take j)) ∧ Touch s w4 wr) (fun _ r _ _ => lenV r)
  case atStart => exact ⟨0, 0, m, [], A, c, none, 0, 0, by omega, Nat.le_refl _, rfl, rfl, hmcn, hm, by rw [List.drop_zero]; exact HRX.out, Chunks.nil _ _, by rw [List.take_zero, chunks_nil HK.out]; rfl, hst0.out, Touch.of_below (Below.refl _ _)⟩
  case round =>
    obtain ⟨j, i1, kr, ps, Ar, cr, Ah, nh, ch, hkj, hij, rfl, rfl, hkc, hcm, hRr, hch, hps, hst, ht⟩ := hrel
    obtain ⟨V, hV⟩ : ∃ V, V = u11 := ⟨_, rfl⟩
    rw [← hV] at hch ⊢
    have HRr := Lib.hid hRr
    have HCH := Lib.hid hch
    have HPS := Lib.hid hps
    have HS := Lib.hid hst
    have HT := Lib.hid ht
    have HBW := Lib.hid (ht.below HB4.out HSW.out HB4.out.size)
    have hnh : nh ≤ 1000000 := by
      have h1 := left_short HK.out (x.take j)
      have h2 := HK.out.hi
      have h3 := hst.len
      omega
    have hpl : ps.length ≤ 10000 := by
      have h1 := chunks_few HK.out (x.take j)
      rw [← hps, List.length_take, HX.out] at h1
      simp [psb] at h1
      omega
    clear hRr hch hps hst ht hV
    by_cases hj : j < m
    · have hk0 : (0 : Int) < (kr : Int) := by omega
      by_cases hz : n2 = 0
      · have hz2i : decide ((0 : Int) < (n2 : Int)) = false := decide_eq_false (by omega)
        have hz2n : decide (0 < n2) = false := decide_eq_false (by omega)
        clear hz
        obtain ⟨gr, or, rfl, hgr, hcr⟩ : ∃ gr or, Ar = some ⟨gr, or, none⟩ ∧ True ∧ True := by
          obtain ⟨g1, o1, e, _, _⟩ := HRr.out (by rw [List.length_drop, HX.out]; omega)
          exact ⟨g1, o1, e, trivial, trivial⟩
        clear hgr hcr
        by_cases hc1 : cr = 1
        · obtain rfl : kr = 1 := by omega
          subst hc1
          have hN1 : 1 ≤ 1 := by omega
          have hr7 := Lib.hid (show Rd w w.heap.size (some ⟨gr, or, none⟩) (x.drop (j + 1)) by
            rw [List.drop_eq_nil_of_le (by rw [HX.out]; omega)]
            exact Rd.nil _ _ _)
          have hbr := Lib.hid (show ((x.drop j).take 1).length = 1 by rw [List.length_take, List.length_drop, HX.out]; omega)
          have hrw := Lib.hid (show Rd wr wr.heap.size (some ⟨gr, or, none⟩) ((x.drop j).take 1) from ((HRr.out.below HBW.out).take 1).more HBW.out.size)
          have hxj := Lib.hid (show x.take j ++ (x.drop j).take 1 = x.take (j + 1) from (List.take_add ..).symm)
          clear hN1
          go_wp2_with fail
          with_reducible refine (write_ok w.heap.size s C HK.out Ah nh ch (leftB C (x.take j)) wr HS.out (some ⟨gr, or, none⟩) 1 1 ((x.drop j).take 1) hbr.out hrw.out hnh (by omega)).mono ?_
          rintro e w5 ⟨V2, ps2, A5, n5, c5, rfl, hW⟩
          obtain ⟨AV, cV, rfl, _, _⟩ := hW.chunks.form
          have hch5 := HCH.out.touch HS.out.blk hW.touch
          have hsz : w4.heap.size ≤ wr.heap.size := HT.out.size
          have hpl2 : ps2.length ≤ 10000000 := by
            have hN1 := chunks_few HK.out (leftB C (x.take j) ++ (x.drop j).take 1)
            rw [← hW.told, List.length_append, hbr.out, HS.out.len] at hN1
            simp [psb] at hN1
            omega
          have H5 := Lib.hid (And.intro hch5 (And.intro hW (And.intro hsz hW.touch.size)))
          clear hch5 hW hsz
          go_wp2_with (at_builtin; refine wpList_append_any _ rfl (.tmp 61) (.tmp 66) 32 rfl w4.heap.size 25 i0 (.slice none 0 0) 24 Try.underlying32 hi hz0 hz1 hz2 rfl V ps.length (psv ps) rfl H5.out.1.row w5.heap.size AV cV ps2.length (psv ps2) rfl (by simp) (own_rdv H5.out.2.1.chunks.row) (psv_one ps2) (by omega) (by omega) (Nat.le_trans H5.out.2.2.1 H5.out.2.2.2) ?_)
          intro A6 c6 w6 ho6 hg6
          obtain ⟨hch5, hW, hs1, hs2⟩ := H5.out
          have hch6 : Chunks w6 w4.heap.size (.slice A6 (ps.length + ps2.length) c6) (ps ++ ps2) := hch5.join (fun q hq => ownsRow_base (hW.chunks.each q hq) hs1) ho6 hg6
          have hst6 := hW.st.grown hch5.row ty_row ty_bytes hg6
          have ht6 := (HT.out.trans hW.touch).grown hg6 (fun k hk => (hch5.row.lt k hk).1)
          have heb := ends_behind HK.out (x.take j) ((x.drop j).take 1)
          rw [hxj.out] at heb
          have H6 := Lib.hid (And.intro hch6 (And.intro (show psb (ps ++ ps2) = chunksB C (x.take (j + 1)) by rw [heb.1, ← HPS.out, ← hW.told]; simp [psb]) (And.intro (show St w6 w.heap.size s C A5 n5 c5 (leftB C (x.take (j + 1))) by rw [heb.2]; exact hst6) ht6)))
          clear hch5 hW hs1 hs2 hch6 hst6 ht6 heb ho6 hg6 H5
          go_wp2_with fail
          go_roundw
          case rel => exact ⟨j + 1, i1 + 1, 0, ps ++ ps2, some ⟨gr, or, none⟩, 0, A5, n5, c5, by omega, by omega, by go_num, rfl, by omega, by omega, hr7.out, H6.out.1, H6.out.2.1, H6.out.2.2.1, H6.out.2.2.2⟩
          case measure => simp [lenV]
        · have hN1 : 1 ≤ 1 := by omega
          have hk1i : ¬ (kr : Int) < 1 := by omega
          have hn0 : (1 : Int) ≤ (kr : Int) := by omega
          have hnk : 1 ≤ kr := by omega
          have hnc : (1 : Int) ≤ (cr : Int) := by omega
          have hnki : (1 : Int) ≤ (kr : Int) := by omega
          have hk7 : (kr : Int) - (1 : Int) = ((kr - 1 : Nat) : Int) := by omega
          have hc7 : (cr : Int) - (1 : Int) = ((cr - 1 : Nat) : Int) := by omega
          have hr7 := Lib.hid (show Rd w w.heap.size (some ⟨gr, or + 1, none⟩) (x.drop (j + 1)) by
            have := HRr.out.drop (k := 1) (c := cr) (by rw [List.length_drop, HX.out]; omega)
            rw [if_neg hc1, List.drop_drop] at this
            simpa [Addr.add_lit] using this)
          have hbr := Lib.hid (show ((x.drop j).take 1).length = 1 by rw [List.length_take, List.length_drop, HX.out]; omega)
          have hrw := Lib.hid (show Rd wr wr.heap.size (some ⟨gr, or, none⟩) ((x.drop j).take 1) from ((HRr.out.below HBW.out).take 1).more HBW.out.size)
          have hxj := Lib.hid (show x.take j ++ (x.drop j).take 1 = x.take (j + 1) from (List.take_add ..).symm)
          clear hN1
          go_wp2_with fail
          with_reducible refine (write_ok w.heap.size s C HK.out Ah nh ch (leftB C (x.take j)) wr HS.out (some ⟨gr, or, none⟩) 1 cr ((x.drop j).take 1) hbr.out hrw.out hnh (by omega)).mono ?_
          rintro e w5 ⟨V2, ps2, A5, n5, c5, rfl, hW⟩
          obtain ⟨AV, cV, rfl, _, _⟩ := hW.chunks.form
          have hch5 := HCH.out.touch HS.out.blk hW.touch
          have hsz : w4.heap.size ≤ wr.heap.size := HT.out.size
          have hpl2 : ps2.length ≤ 10000000 := by
            have hN1 := chunks_few HK.out (leftB C (x.take j) ++ (x.drop j).take 1)
            rw [← hW.told, List.length_append, hbr.out, HS.out.len] at hN1
            simp [psb] at hN1
            omega
          have H5 := Lib.hid (And.intro hch5 (And.intro hW (And.intro hsz hW.touch.size)))
          clear hch5 hW hsz
          go_wp2_with (at_builtin; refine wpList_append_any _ rfl (.tmp 61) (.tmp 66) 32 rfl w4.heap.size 25 i0 (.slice none 0 0) 24 Try.underlying32 hi hz0 hz1 hz2 rfl V ps.length (psv ps) rfl H5.out.1.row w5.heap.size AV cV ps2.length (psv ps2) rfl (by simp) (own_rdv H5.out.2.1.chunks.row) (psv_one ps2) (by omega) (by omega) (Nat.le_trans H5.out.2.2.1 H5.out.2.2.2) ?_)
          intro A6 c6 w6 ho6 hg6
          obtain ⟨hch5, hW, hs1, hs2⟩ := H5.out
          have hch6 : Chunks w6 w4.heap.size (.slice A6 (ps.length + ps2.length) c6) (ps ++ ps2) := hch5.join (fun q hq => ownsRow_base (hW.chunks.each q hq) hs1) ho6 hg6
          have hst6 := hW.st.grown hch5.row ty_row ty_bytes hg6
          have ht6 := (HT.out.trans hW.touch).grown hg6 (fun k hk => (hch5.row.lt k hk).1)
          have heb := ends_behind HK.out (x.take j) ((x.drop j).take 1)
          rw [hxj.out] at heb
          have H6 := Lib.hid (And.intro hch6 (And.intro (show psb (ps ++ ps2) = chunksB C (x.take (j + 1)) by rw [heb.1, ← HPS.out, ← hW.told]; simp [psb]) (And.intro (show St w6 w.heap.size s C A5 n5 c5 (leftB C (x.take (j + 1))) by rw [heb.2]; exact hst6) ht6)))
          clear hch5 hW hs1 hs2 hch6 hst6 ht6 heb ho6 hg6 H5
          go_wp2_with fail
          go_roundw
          case rel => exact ⟨j + 1, i1 + 1, kr - 1, ps ++ ps2, some ⟨gr, or + 1, none⟩, cr - 1, A5, n5, c5, by omega, by omega, by go_num, rfl, by omega, by omega, hr7.out, H6.out.1, H6.out.2.1, H6.out.2.2.1, H6.out.2.2.2⟩
          case measure => simp [lenV]; omega
      · have hz2i : (0 : Int) < (n2 : Int) := by omega
        obtain ⟨q, hq⟩ : ∃ q, q = i1 % n2 := ⟨_, rfl⟩
        have hqn : q < n2 := by rw [hq]; exact Nat.mod_lt _ (by omega)
        have hq1 : (i1 : Int) % (n2 : Int) = (q : Int) := by rw [hq]; rfl
        have hqt : (i1 : Int).tmod (n2 : Int) = (q : Int) := by rw [Int.tmod_eq_emod_of_nonneg (by omega)]; exact hq1
        have hql : q < l2.length := by rw [HL2.out]; exact hqn
        obtain ⟨g2, o2, rfl, hg2, hcell⟩ := (HR2.out.below HBW.out) (by omega)
        have hcq := hcell q hql
        have htl := (l2[q]).toNat_lt
        obtain ⟨t, ht⟩ : ∃ t, t = (l2[q]).toNat := ⟨_, rfl⟩
        rw [← ht] at hcq htl
        clear ht hcell hg2 hql hq
        have hN1 : 1 ≤ (t + 1) := by omega
        obtain ⟨nn, hnn⟩ : ∃ nn, nn = min (t + 1) kr := ⟨_, rfl⟩
        have hif2 : (if (kr : Int) < ((t : Int) + 1) then (kr : Int) else ((t : Int) + 1)) = (nn : Int) := by split <;> omega
        have hn0 : 1 ≤ nn := by omega
        have hnk : nn ≤ kr := by omega
        have hnc : (nn : Int) ≤ (cr : Int) := by omega
        have hnki : (nn : Int) ≤ (kr : Int) := by omega
        have hk7 : (kr : Int) - (nn : Int) = ((kr - nn : Nat) : Int) := by omega
        have hc7 : (cr : Int) - (nn : Int) = ((cr - nn : Nat) : Int) := by omega
        obtain ⟨A7, hA7⟩ : ∃ A7, (if cr = nn then Ar else Ar.map (·.add nn)) = A7 := ⟨_, rfl⟩
        have hr7 := Lib.hid (show Rd w w.heap.size A7 (x.drop (j + nn)) by
          have := HRr.out.drop (k := nn) (c := cr) (by rw [List.length_drop, HX.out]; omega)
          rw [hA7, List.drop_drop] at this
          exact this)
        have hbr := Lib.hid (show ((x.drop j).take nn).length = nn by rw [List.length_take, List.length_drop, HX.out]; omega)
        have hrw := Lib.hid (show Rd wr wr.heap.size Ar ((x.drop j).take nn) from ((HRr.out.below HBW.out).take nn).more HBW.out.size)
        have hxj := Lib.hid (show x.take j ++ (x.drop j).take nn = x.take (j + nn) from (List.take_add ..).symm)
        clear hnn hN1
        go_wp2_with fail
        with_reducible refine (write_ok w.heap.size s C HK.out Ah nh ch (leftB C (x.take j)) wr HS.out Ar nn cr ((x.drop j).take nn) hbr.out hrw.out hnh (by omega)).mono ?_
        rintro e w5 ⟨V2, ps2, A5, n5, c5, rfl, hW⟩
        obtain ⟨AV, cV, rfl, _, _⟩ := hW.chunks.form
        have hch5 := HCH.out.touch HS.out.blk hW.touch
        have hsz : w4.heap.size ≤ wr.heap.size := HT.out.size
        have hpl2 : ps2.length ≤ 10000000 := by
          have h1 := chunks_few HK.out (leftB C (x.take j) ++ (x.drop j).take nn)
          rw [← hW.told, List.length_append, hbr.out, HS.out.len] at h1
          simp [psb] at h1
          omega
        have H5 := Lib.hid (And.intro hch5 (And.intro hW (And.intro hsz hW.touch.size)))
        clear hch5 hW hsz
        go_wp2_with (at_builtin; refine wpList_append_any _ rfl (.tmp 61) (.tmp 66) 32 rfl w4.heap.size 25 i0 (.slice none 0 0) 24 Try.underlying32 hi hz0 hz1 hz2 rfl V ps.length (psv ps) rfl H5.out.1.row w5.heap.size AV cV ps2.length (psv ps2) rfl (by simp) (own_rdv H5.out.2.1.chunks.row) (psv_one ps2) (by omega) (by omega) (Nat.le_trans H5.out.2.2.1 H5.out.2.2.2) ?_)
        intro A6 c6 w6 ho6 hg6
        obtain ⟨hch5, hW, hs1, hs2⟩ := H5.out
        have hch6 : Chunks w6 w4.heap.size (.slice A6 (ps.length + ps2.length) c6) (ps ++ ps2) := hch5.join (fun q hq => ownsRow_base (hW.chunks.each q hq) hs1) ho6 hg6
        have hst6 := hW.st.grown hch5.row ty_row ty_bytes hg6
        have ht6 := (HT.out.trans hW.touch).grown hg6 (fun k hk => (hch5.row.lt k hk).1)
        have heb := ends_behind HK.out (x.take j) ((x.drop j).take nn)
        rw [hxj.out] at heb
        have H6 := Lib.hid (And.intro hch6 (And.intro (show psb (ps ++ ps2) = chunksB C (x.take (j + nn)) by rw [heb.1, ← HPS.out, ← hW.told]; simp [psb]) (And.intro (show St w6 w.heap.size s C A5 n5 c5 (leftB C (x.take (j + nn))) by rw [heb.2]; exact hst6) ht6)))
        clear hch5 hW hs1 hs2 hch6 hst6 ht6 heb ho6 hg6 H5
        go_wp2_with fail
        go_roundw
        case rel => exact ⟨j + nn, i1 + 1, kr - nn, ps ++ ps2, A7, cr - nn, A5, n5, c5, by omega, by omega, by go_num, rfl, by omega, by omega, hr7.out, H6.out.1, H6.out.2.1, H6.out.2.2.1, H6.out.2.2.2⟩
        case measure => simp [lenV]; omega
    · obtain rfl : j = m := by omega
      obtain rfl : kr = 0 := by omega
      have hxt : x.take j = x := List.take_of_length_le (by rw [HX.out]; exact Nat.le_refl _)
      rw [hxt] at HS HPS
      clear hxt
      go_wp2_with fail
      with_reducible refine (close_ok w.heap.size s C Ah nh ch (leftB C x) wr HS.out).mono ?_
      rintro e w5 ⟨V2, ps2, rfl, hc2, ht2, _, hT2⟩
      obtain ⟨AV, cV, rfl, _, _⟩ := hc2.form
      have hch5 := HCH.out.touch HS.out.blk hT2
      have hsz : w4.heap.size ≤ w5.heap.size := Nat.le_trans HT.out.size hT2.size
      obtain rfl : za = ps.length + ps2.length := by
        rw [HZA.out]
        have h1 := congrArg List.length HCA.out.2
        rw [tail_len, ← HPS.out, ← ht2] at h1
        simpa [psb] using h1
      have hpl2 : ps2.length ≤ 1 := by
        have := tailB_length (leftB C x)
        rw [← ht2] at this
        simpa [psb] using this
      have H5 := Lib.hid (And.intro hch5 (And.intro hc2 (And.intro ht2 hT2)))
      have HSZ := Lib.hid hsz
      clear hch5 hc2 ht2 hT2 hsz
      go_wp2_with (at_builtin; refine wpList_append_want _ rfl (.tmp 73) (.tmp 75) 32 rfl w4.heap.size 25 i0 (.slice none 0 0) 24 Try.underlying32 hi hz0 hz1 hz2 rfl V ps.length (psv ps) rfl H5.out.1.row w5.heap.size AV cV ps2.length (psv ps2) rfl (by simp) (own_rdv H5.out.2.1.row) (psv_one ps2) (by omega) (by omega) HSZ.out ?_)
      intro A6 c6 w6 ho6 hg6
      obtain ⟨hch5, hc2, ht2, hT2⟩ := H5.out
      have hch6 : Chunks w6 w.heap.size (.slice A6 (ps.length + ps2.length) c6) (ps ++ ps2) := (hch5.base HB4.out.size).join (fun q hq => hc2.each q hq) (ownsRow_base ho6 HB4.out.size) hg6
      have ht6 := (HT.out.trans hT2).grown hg6 (fun k hk => (hch5.row.lt k hk).1)
      have hb6 := ht6.below HB4.out HSW.out HB4.out.size
      have hal := HCA.out.1.touch HST.out.blk ht6
      have hrows : ∃ qs, Parts w6 w6.heap.size A6 qs ∧ psb qs = allC C x := ⟨ps ++ ps2, hch6.parts (by simp), by unfold allC; rw [← HPS.out, ← ht2]; simp [psb]⟩
      have hrows2 : ∃ qs, Parts w6 w6.heap.size Aa qs ∧ psb qs = allC C x := ⟨pa, hal.parts HZA.out.symm, HCA.out.2⟩
      have hlen : (allC C x).length = ps.length + ps2.length := by rw [HZA.out, ← HCA.out.2]; simp [psb]
      have H6 := Lib.hid (And.intro hrows (And.intro hrows2 (And.intro hlen hb6)))
      clear hch5 hc2 ht2 hT2 hch6 ht6 hb6 hal hrows hrows2 hlen ho6 hg6 H5
      go_wp2_with fail
      with_reducible refine (same_told A6 Aa (ps.length + ps2.length) c6 ca (allC C x) (by omega) w6 H6.out.2.2.1 H6.out.1 H6.out.2.1).mono ?_
      rintro e w7 ⟨rfl, hb7⟩
      have hb := Lib.hid (H6.out.2.2.2.trans (hb7.mono H6.out.2.2.2.size))
      clear hb7
      go_wp2_with fail
      go_ret
      exact ⟨rfl, hb.out⟩
theorem walk (mn0 mx0 ma0 ba0 : Int) (A1 : Option Addr) (c1 : Nat) (z1 : List Int) (A2 : Option Addr) (c2 : Nat) (z2 : List Int) (w : World) (hma0 : ma0 < 4294967296) (hba0 : ba0 < 4294967296)
    (hr1 : RdV w w.heap.size A1 (z1.map (Value.int .u8))) (hc1 : z1.length ≤ c1) (hm1 : c1 ≤ maxLen) (hw1 : ∀ n ∈ z1, (Lit.int .u8 n).wf = true)
    (hr2 : RdV w w.heap.size A2 (z2.map (Value.int .u8))) (hc2 : z2.length ≤ c2) (hm2 : c2 ≤ maxLen) (hw2 : ∀ n ∈ z2, (Lit.int .u8 n).wf = true) :
    Calls Try.prog 6 #[ctr mn0 mx0 ma0 ba0, .slice A1 z1.length c1, .slice A2 z2.length c2] w fun e w' => e = .returned (.bool true) ∧ Below w.heap.size w w' := by
  by_cases h : okI mn0 mx0 ma0 ba0
  · obtain ⟨C, K, rfl, rfl, rfl, rfl⟩ := ctr_of h hma0 hba0
    exact pieces_ok C K A1 c1 z1.length (bytesOf z1) A2 c2 z2.length (bytesOf z2) w (bytesOf_length z1) hc1 hm1 (rd_bytes hr1 hw1) (bytesOf_length z2) hc2 hm2 (rd_bytes hr2 hw2)
  · exact pieces_bad mn0 mx0 ma0 ba0 h A1 c1 z1.length _ w hc1 hm1

set_option maxRecDepth 100000 in
theorem lifted (os : Os) (started : os.Started) (H : Type) (enc : TypeId × Value → H) :
    ReturnsInHanded {} Try.checked os 6 .any (Rows.chunkPiecesSpec.pre6 enc Try.prog Try.f6 Rows.chunkPiecesRow.domain false) (Rows.chunkPiecesSpec.post enc Try.prog Try.f6 false true false false) := by
  refine returnsInHanded_of_change (C := Try.checked) own started (by kernel_rfl) Try.func6
    (ChangeSpec.witness6 (enc := enc) (C := Try.checked) false ⟨#[], #[.agg #[.int .i64 0, .int .i64 0, .int .u32 0, .int .u32 0], .slice none 0 0, .slice none 0 0], []⟩ 8 (by kernel_rfl) (by kernel_rfl) (by kernel_rfl) (by kernel_rfl)) ?_
  intro W base args ds gs before hval0 hW hcnd _
  have hval : ∀ (j : Nat) t v, Try.f6.params[j]? = some t → args[j]? = some v → Value.okWide Try.prog W .any base t v := hval0
  have hW' := hW
  obtain ⟨p, q, hA0, hV, rfl, hfz, hnd⟩ := hW
  have hA : DataW.TrodAll enc Try.prog W 0 (fun _ => true) true Try.f6.params.toList args.toList ds p := hA0
  rw [Try.params6] at hA hval
  obtain ⟨v0, vs0, d0, ds0, p0, q0, hargs, rfl, rfl, h0, r0⟩ := trodAll_cons hA
  obtain ⟨v1, vs1, d1, ds1, p1, q1, rfl, rfl, rfl, h1, r1⟩ := trodAll_cons r0
  obtain ⟨v2, vs2, d2, ds2, p2, q2, rfl, rfl, rfl, h2, r2⟩ := trodAll_cons r1
  obtain ⟨rfl, rfl, rfl⟩ := trodAll_nil r2
  obtain rfl : args = #[v0, v1, v2] := by cases args; simp_all
  obtain ⟨rfl, rfl⟩ := trodVars_none hV
  have k0 := h0
  have lt0 : ∀ x ∈ p0, x.block < W.heap.size := by obtain ⟨m, hm⟩ := k0; exact DataW.trod_lt m _ _ _ hm
  obtain ⟨mn0, mx0, ma0, ba0, rfl, hma0, hba0⟩ := open_ctr (hval 0 24 v0 rfl rfl) h0
  obtain ⟨A1, n1, c1, rfl⟩ := okWide_slice Try.underlying25 (hval 1 25 v1 rfl rfl)
  have k1 := h1
  have lt1 : ∀ x ∈ p1, x.block < W.heap.size := by obtain ⟨m, hm⟩ := k1; exact DataW.trod_lt m _ _ _ hm
  obtain ⟨fuel1, hf1⟩ := h1
  obtain ⟨z1, rfl, hr1, hc1, hm1, hw1⟩ := open_ints_arg Try.underlying25 Try.underlying5 (by kernel_rfl) hf1
  obtain ⟨A2, n2, c2, rfl⟩ := okWide_slice Try.underlying25 (hval 2 25 v2 rfl rfl)
  have k2 := h2
  have lt2 : ∀ x ∈ p2, x.block < W.heap.size := by obtain ⟨m, hm⟩ := k2; exact DataW.trod_lt m _ _ _ hm
  obtain ⟨fuel2, hf2⟩ := h2
  obtain ⟨z2, rfl, hr2, hc2, hm2, hw2⟩ := open_ints_arg Try.underlying25 Try.underlying5 (by kernel_rfl) hf2
  clear hA0 hval0
  simp only [List.append_nil] at hW'
  refine (walk mn0 mx0 ma0 ba0 A1 c1 z1 A2 c2 z2 W hma0 hba0 hr1 hc1 hm1 hw1 hr2 hc2 hm2 hw2).mono fun e W' ⟨he, bel⟩ => ?_
  subst he
  exact ⟨_, rfl, _, _, _, [], _, [], hW', trodAll_mk1 (shut_bool Try.underlying4 _), (trodAll_cons_mk (Below.trod laidOut (by kernel_rfl) (of_decide_eq_true (by kernel_rfl)) k0 bel lt0) (trodAll_cons_mk (Below.trod laidOut (by kernel_rfl) (of_decide_eq_true (by kernel_rfl)) k1 bel lt1) (trodAll_cons_mk (Below.trod laidOut (by kernel_rfl) (of_decide_eq_true (by kernel_rfl)) k2 bel lt2) trodAll_mk0))), rfl, bel.frame _, fun h => by cases h⟩

theorem over : Rows.chunkPiecesRow.holds Try.pinned (OpenSpec.ofChange Rows.chunkPiecesSpec) :=
  OpenClaim.holds_of_wide 6 Try.f6 rfl rfl rfl rfl rfl rfl rfl ⟨rfl, rfl, rfl, rfl, rfl⟩ rfl rfl rfl rfl rfl (by kernel_rfl) Try.func6 (by kernel_rfl)
    (of_decide_eq_true (by kernel_rfl)) (by unfold Func.isWrapper; first | (rw [if_pos (by decide +kernel)]; kernel_rfl) | (rw [if_neg (by decide +kernel)]; exact ⟨rfl, rfl⟩))
    (fun os started H enc _ => lifted os started H enc)

theorem proved : Rows.ChunkPiecesSaid := over
#print axioms proved
end Go.Proofs.Ytmnbfmcgnddlaaa.chunkPieces
