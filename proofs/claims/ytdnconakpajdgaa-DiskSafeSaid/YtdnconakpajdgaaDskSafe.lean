/- The walk of DiskSafe, told from what the package's disks do. No statement of the seat is proved here. -/
import Derived.Test.YtdnconakpajdgaaDskGrow
namespace Go.Proofs.Ytdnconakpajdgaa
open Go.RowKit
set_option linter.unusedVariables false

section
variable {St : World → Addr → (Nat → Prop) → DS → Prop}
set_option maxRecDepth 100000 in
set_option maxHeartbeats 4000000 in
theorem safe_walk (K : DisksOk St) (A : Option Addr) (ls : List DActT) (n c N : Nat) (hN : N < 256) (hl : ls.length = n) (hc : n ≤ c) (hm : c ≤ maxLen) (w : World) (hr : RdD w w.heap.size A ls) :
    Calls Try.prog 4 #[.slice A n c, .int .u8 N] w fun e w' => e = .returned (.bool true) ∧ Below w.heap.size w w' := by
  have KF := Lib.hid (fun W (hb : Below w.heap.size w W) => few_any A n c ls hl hc hm W ((hr.below hb).more hb.size))
  have HR := Lib.hid hr
  have HL := Lib.hid hl
  have hc63 : c ≤ 9223372036854775807 := by unfold maxLen at hm; omega
  obtain ⟨q, hqe⟩ : ∃ q, N % 20 = q := ⟨_, rfl⟩
  have hqi : (N : Int) % 20 = (q : Int) := by omega
  have hq20 : q < 20 := by omega
  clear hr hl hm hqe
  go_enter Try.func4, Try.ntmps4
  go_wp2_with fail
  refine (shown_any K _).mono ?_
  rintro e w1 ⟨rfl, hb1⟩
  have KN := Lib.hid (Turned.new (w0 := w) K 20 (by omega) hb1)
  clear hb1
  go_wp2_with fail
  refine KN.out.mono ?_
  rintro e w2 ⟨s, rfl, h2⟩
  have H3 := Lib.hid h2
  have KF3 := Lib.hid (KF.out w2 h2.bel)
  clear h2 KN KF
  go_wp2_with fail
  refine KF3.out.mono ?_
  rintro e w' ⟨k, hkn, hk1, hall, rfl, rfl⟩
  have HALL := Lib.hid hall
  clear hall KF3
  go_wp2_with fail
  obtain ⟨fs, hfs⟩ := act_desc
  have HF := Lib.hid hfs
  have hk63 : k ≤ 9223372036854775807 := by omega
  clear hfs hqi
  go_loopw [9, 33] (fun b i wr => ∃ (j : Nat) (S : DS) (t : Bool), j ≤ k ∧ i = .int .i64 j ∧ b = .bool t ∧ Hid (Dsk St w wr s S ∧ S.n = 20 ∧ S.cnt ≤ j ∧ S.put.length ≤ j ∧ (t = false → Clean S q))) (fun _ i _ => k - (intOf i).toNat)
  case atStart => exact ⟨0, _, false, Nat.zero_le _, rfl, rfl, Lib.hid ⟨H3.out, rfl, Nat.le_refl _, Nat.le_refl _, fun _ p hp => by cases (show p ∈ ([] : List (Nat × List UInt8)) from hp)⟩⟩
  case round =>
    clear H3
    obtain ⟨j, S, t, hj, rfl, rfl, hst⟩ := hrel
    by_cases hlt : j < k
    · have hjx : j < ls.length := by rw [HL.out]; omega
      obtain ⟨g, off, a, rfl, hra, hok, hab, _⟩ := HR.out.get hst.out.1.bel hjx hlt HALL.out
      have HOK := Lib.hid hok
      have HRA := Lib.hid hra
      have HKS := Lib.hid (show (Try.prog.info? 35).map (·.size) = some (dcs a).length from act_size)
      have HKS2 := Lib.hid (show (Try.prog.info? 35).map (·.size) = some (dcs a).toArray.size from act_size)
      have HOLD := Lib.hid (show dz.size = (dcs a).toArray.size from rfl)
      have HBZ := Lib.hid (Blk.new wr 35 dz)
      have HONE := Lib.hid (dcs_one a)
      obtain ⟨w5, ab, hw5, hab5, hb5, hbk5⟩ := act_box wr a
      obtain ⟨F, hst0, hg0, ho0⟩ := hst.out.1
      have hlt0 := K.lt hst0
      rw [hab5] at hlt0
      have hst5 := K.below hst0 hb5
      have HW5 := Lib.hid hw5
      have HAB := Lib.hid hab5
      have HBK := Lib.hid hbk5
      have HLT := Lib.hid hlt0
      have HG0 := Lib.hid hg0
      have HO5 := Lib.hid (ho0.trans (Only.of_below (F := F) hb5) hg0)
      have HSN := Lib.hid hst.out.2
      have hqS : q < S.n := by rw [hst.out.2.1]; exact hq20
      have hFew : Few S := ⟨by have := hst.out.2.2.2.1; omega, by have := hst.out.2.2.1; omega⟩
      have hFew' : Few (doS S a) := ⟨by have := hst.out.2.2.2.1; have := (do_grow S a).2.2; omega, by have := hst.out.2.2.1; have := (do_grow S a).2.1; omega⟩
      have HNX := Lib.hid (show (doS S a).n = 20 ∧ (doS S a).cnt ≤ j + 1 ∧ (doS S a).put.length ≤ j + 1 from ⟨(do_grow S a).1.trans hst.out.2.1, by have := hst.out.2.2.1; have := (do_grow S a).2.1; omega, by have := hst.out.2.2.2.1; have := (do_grow S a).2.2; omega⟩)
      have hck : w5.cell? ⟨ab, 0, none⟩ = some (.int .u8 a.kind) := hbk5.cell 0
      have hca : w5.cell? ⟨ab, 1, none⟩ = some (.int .i64 a.at_) := hbk5.cell 1
      have KR5 := Lib.hid (K.read s F S q w5 hst5 hFew ⟨by omega, by omega⟩)
      have KD6 := Lib.hid (fun (W : World) (hb : Below w5.heap.size w5 W) => does_any K (Turned.refl (K.below hst5 hb)) hFew a ((hok.below ((HO5.out.below (fun _ h => h.elim) (Nat.le_refl _)).trans (hb.mono (HO5.out.size)))).more (Nat.le_trans HO5.out.size hb.size)) hab (out_more hok.rd rfl (out_none _ _) hg0) (out_morev hok.frd (iv_length _) (out_none _ _) hg0))
      have KT := Lib.hid (fun (W w7 : World) (hb : Below w5.heap.size w5 W) (ht : Turned St W s F w7 (doS S a)) => (show Dsk St w w7 s (doS S a) ∧ Blk w7 ab 35 (dcs a).toArray from
        ⟨Turned.step hg0 (HO5.out.trans (Only.of_below (F := F) hb) hg0) ht, Blk.same (HBK.out.below hb HBK.out.lt) (ht.only.block ab (Nat.lt_of_lt_of_le HBK.out.lt hb.size) (fun hf => by have := hlt0 ab hf; omega))⟩))
      have hi1 : (0 : Int) ≤ (j : Int) := by omega
      have hi2 : (j : Int) < (k : Int) := by omega
      have hkd := hok.kind
      obtain ⟨r, hr⟩ : ∃ r, a.kind % 5 = r := ⟨_, rfl⟩
      have hri : (a.kind : Int) % 5 = (r : Int) := by omega
      have HRR := Lib.hid hr
      have hr5 : r < 5 := by omega
      have hdE : doE S a = 0 ∨ ((r = 0 ∨ r = 1) ∧ (doE S a = 1 ∨ doE S a = 6)) := by
        unfold doE writeE flushE
        rw [hr]
        by_cases h0 : r = 0
        · rw [if_pos h0]
          split
          · exact .inr ⟨.inl h0, .inl rfl⟩
          · split
            · exact .inr ⟨.inl h0, .inr rfl⟩
            · exact .inl rfl
        · rw [if_neg h0]
          by_cases h1 : r = 1
          · rw [if_pos h1]
            split
            · exact .inr ⟨.inr h1, .inr rfl⟩
            · exact .inl rfl
          · rw [if_neg h1]; exact .inl rfl
      clear hra hok hab hst hw5 hab5 hb5 hbk5 hr hst0 hg0 ho0 hlt0 hst5 hFew
      obtain ⟨kd, hkk⟩ : ∃ kd, a.kind = kd := ⟨_, rfl⟩
      rw [hkk] at hck hri hkd
      have HKD := Lib.hid hkk
      obtain ⟨av, hav⟩ : ∃ av, a.at_ = av := ⟨_, rfl⟩
      rw [hav] at hca
      have HAV := Lib.hid hav
      obtain ⟨e7, he7⟩ : ∃ e7, doE S a = e7 := ⟨_, rfl⟩
      rw [he7] at hdE
      obtain ⟨S', hS'⟩ : ∃ S', doS S a = S' := ⟨_, rfl⟩
      obtain ⟨f, hf⟩ : ∃ f, readE S q = f := ⟨_, rfl⟩
      obtain ⟨L, hL⟩ : ∃ L, readS S q = L := ⟨_, rfl⟩
      obtain ⟨m6, hm6⟩ : ∃ m6, L.length = m6 := ⟨_, rfl⟩
      have HS' := Lib.hid hS'
      have HE7 := Lib.hid he7
      have HFE := Lib.hid hf
      have HLE := Lib.hid hL
      have HM6 := Lib.hid hm6
      rw [hf, hL, hm6] at KR5
      rw [hS'] at KT hFew' HNX
      simp only [he7, hS'] at KD6
      clear hkk hav he7 hS' hf hL hm6
      have hcase : r = 0 ∨ r = 1 ∨ r = 2 ∨ r = 3 ∨ r = 4 := by omega
      rcases hcase with rfl | rfl | rfl | rfl | rfl
      · have hri : (kd : Int) % 5 = 0 := hri
        have HSE := Lib.hid (show S' = writeS S av a.b by rw [← HS'.out, doS, if_pos HRR.out, HAV.out])
        by_cases hq : av = (q : Int)
        · subst hq
          rcases hdE with rfl | ⟨_, rfl | rfl⟩
          · go_wp2_with (first
              | refine wpList_load_mid rfl 35 (.tmp 35) rfl g (off + j * 5) rfl (dcs a) (.struct fs) HRA.out HF.out rfl HKS.out ?_
              | (refine wpList_store_row rfl 35 (.tmp 11) (.tmp 36) rfl wr.heap.size (dcs a).toArray rfl rfl 35 dz HBZ.out HKS2.out HOLD.out HONE.out ?_; rw [setRow_alloc, HW5.out, HAB.out]))
            (with_reducible refine KR5.out.mono ?_)
            rintro e w6 ⟨A6, c6, rfl, ho6, hb6⟩
            have HB6 := Lib.hid hb6
            have HBK6 := Lib.hid (HBK.out.below hb6 HBK.out.lt)
            have HO6 := Lib.hid ho6
            clear hb6 ho6 hck hca
            go_wp2_with (refine wpList_load_row rfl 35 (.tmp 11) rfl ab rfl 35 (dcs a).toArray (0, 0) (.struct fs) HBK6.out HF.out rfl HKS2.out ?_)
            (with_reducible refine (KD6.out _ HB6.out).mono ?_)
            rintro e w7 ⟨rfl, h7⟩
            have HT7 := Lib.hid (KT.out _ _ HB6.out h7)
            have HO7 := Lib.hid (show w7.ownsRow w5.heap.size 64 1 (.slice A6 m6 c6) m6 (bv L) from rd_own_only HO6.out (fun g hg => .inl (Nat.lt_of_lt_of_le (HLT.out g hg) (Nat.le_of_lt HBK.out.lt))) h7.only)
            have KR7 := Lib.hid (Turned.read K HT7.out.1 hFew' q ⟨by omega, by omega⟩)
            have hck : w7.cell? ⟨ab, 0, none⟩ = some (.int .u8 kd) := by rw [HT7.out.2.cell, ← HKD.out]; rfl
            clear h7
            go_wp2_with fail
            (with_reducible refine KR7.out.mono ?_)
            rintro e w8 ⟨A8, c8, rfl, ho8, hb8, h8, _⟩
            have H8 := Lib.hid h8
            have hck : w8.cell? ⟨ab, 0, none⟩ = some (.int .u8 kd) := (hb8.cell (p := ⟨ab, 0, none⟩) HT7.out.2.lt).trans hck
            clear ho8 hb8 h8
            go_wp2_with fail
            go_roundw
            case rel => exact ⟨j + 1, S', true, by omega, by go_num, rfl, Lib.hid ⟨H8.out, HNX.out.1, HNX.out.2.1, HNX.out.2.2, fun h => by cases h⟩⟩
            case measure => simp [intOf]; omega
          · go_wp2_with (first
              | refine wpList_load_mid rfl 35 (.tmp 35) rfl g (off + j * 5) rfl (dcs a) (.struct fs) HRA.out HF.out rfl HKS.out ?_
              | (refine wpList_store_row rfl 35 (.tmp 11) (.tmp 36) rfl wr.heap.size (dcs a).toArray rfl rfl 35 dz HBZ.out HKS2.out HOLD.out HONE.out ?_; rw [setRow_alloc, HW5.out, HAB.out]))
            (with_reducible refine KR5.out.mono ?_)
            rintro e w6 ⟨A6, c6, rfl, ho6, hb6⟩
            have HB6 := Lib.hid hb6
            have HBK6 := Lib.hid (HBK.out.below hb6 HBK.out.lt)
            have HO6 := Lib.hid ho6
            clear hb6 ho6 hck hca
            go_wp2_with (refine wpList_load_row rfl 35 (.tmp 11) rfl ab rfl 35 (dcs a).toArray (0, 0) (.struct fs) HBK6.out HF.out rfl HKS2.out ?_)
            (with_reducible refine (KD6.out _ HB6.out).mono ?_)
            rintro e w7 ⟨rfl, h7⟩
            have HT7 := Lib.hid (KT.out _ _ HB6.out h7)
            have HO7 := Lib.hid (show w7.ownsRow w5.heap.size 64 1 (.slice A6 m6 c6) m6 (bv L) from rd_own_only HO6.out (fun g hg => .inl (Nat.lt_of_lt_of_le (HLT.out g hg) (Nat.le_of_lt HBK.out.lt))) h7.only)
            have KR7 := Lib.hid (Turned.read K HT7.out.1 hFew' q ⟨by omega, by omega⟩)
            have hck : w7.cell? ⟨ab, 0, none⟩ = some (.int .u8 kd) := by rw [HT7.out.2.cell, ← HKD.out]; rfl
            clear h7
            go_wp2_with fail
            (with_reducible refine KR7.out.mono ?_)
            rintro e w8 ⟨A8, c8, rfl, ho8, hb8, h8, _⟩
            have H8 := Lib.hid h8
            have hck : w8.cell? ⟨ab, 0, none⟩ = some (.int .u8 kd) := (hb8.cell (p := ⟨ab, 0, none⟩) HT7.out.2.lt).trans hck
            clear ho8 hb8 h8
            go_wp2_with fail
            go_roundw
            case rel => exact ⟨j + 1, S', true, by omega, by go_num, rfl, Lib.hid ⟨H8.out, HNX.out.1, HNX.out.2.1, HNX.out.2.2, fun h => by cases h⟩⟩
            case measure => simp [intOf]; omega
          · go_wp2_with (first
              | refine wpList_load_mid rfl 35 (.tmp 35) rfl g (off + j * 5) rfl (dcs a) (.struct fs) HRA.out HF.out rfl HKS.out ?_
              | (refine wpList_store_row rfl 35 (.tmp 11) (.tmp 36) rfl wr.heap.size (dcs a).toArray rfl rfl 35 dz HBZ.out HKS2.out HOLD.out HONE.out ?_; rw [setRow_alloc, HW5.out, HAB.out]))
            (with_reducible refine KR5.out.mono ?_)
            rintro e w6 ⟨A6, c6, rfl, ho6, hb6⟩
            have HB6 := Lib.hid hb6
            have HBK6 := Lib.hid (HBK.out.below hb6 HBK.out.lt)
            have HO6 := Lib.hid ho6
            clear hb6 ho6 hck hca
            go_wp2_with (refine wpList_load_row rfl 35 (.tmp 11) rfl ab rfl 35 (dcs a).toArray (0, 0) (.struct fs) HBK6.out HF.out rfl HKS2.out ?_)
            (with_reducible refine (KD6.out _ HB6.out).mono ?_)
            rintro e w7 ⟨rfl, h7⟩
            have HT7 := Lib.hid (KT.out _ _ HB6.out h7)
            have HO7 := Lib.hid (show w7.ownsRow w5.heap.size 64 1 (.slice A6 m6 c6) m6 (bv L) from rd_own_only HO6.out (fun g hg => .inl (Nat.lt_of_lt_of_le (HLT.out g hg) (Nat.le_of_lt HBK.out.lt))) h7.only)
            have KR7 := Lib.hid (Turned.read K HT7.out.1 hFew' q ⟨by omega, by omega⟩)
            have hck : w7.cell? ⟨ab, 0, none⟩ = some (.int .u8 kd) := by rw [HT7.out.2.cell, ← HKD.out]; rfl
            clear h7
            go_wp2_with fail
            (with_reducible refine KR7.out.mono ?_)
            rintro e w8 ⟨A8, c8, rfl, ho8, hb8, h8, _⟩
            have H8 := Lib.hid h8
            have hck : w8.cell? ⟨ab, 0, none⟩ = some (.int .u8 kd) := (hb8.cell (p := ⟨ab, 0, none⟩) HT7.out.2.lt).trans hck
            clear ho8 hb8 h8
            go_wp2_with fail
            go_roundw
            case rel => exact ⟨j + 1, S', true, by omega, by go_num, rfl, Lib.hid ⟨H8.out, HNX.out.1, HNX.out.2.1, HNX.out.2.2, fun h => by cases h⟩⟩
            case measure => simp [intOf]; omega
        · have hqb : (av == (q : Int)) = false := by simpa using hq
          have HCL := Lib.hid (show t = false → Clean S' q from fun h => by rw [HSE.out]; exact clean_write (HSN.out.2.2.2 h) hq a.b)
          rcases hdE with rfl | ⟨_, rfl | rfl⟩
          · go_wp2_with (first
              | refine wpList_load_mid rfl 35 (.tmp 35) rfl g (off + j * 5) rfl (dcs a) (.struct fs) HRA.out HF.out rfl HKS.out ?_
              | (refine wpList_store_row rfl 35 (.tmp 11) (.tmp 36) rfl wr.heap.size (dcs a).toArray rfl rfl 35 dz HBZ.out HKS2.out HOLD.out HONE.out ?_; rw [setRow_alloc, HW5.out, HAB.out]))
            (with_reducible refine KR5.out.mono ?_)
            rintro e w6 ⟨A6, c6, rfl, ho6, hb6⟩
            have HB6 := Lib.hid hb6
            have HBK6 := Lib.hid (HBK.out.below hb6 HBK.out.lt)
            have HO6 := Lib.hid ho6
            clear hb6 ho6 hck hca
            go_wp2_with (refine wpList_load_row rfl 35 (.tmp 11) rfl ab rfl 35 (dcs a).toArray (0, 0) (.struct fs) HBK6.out HF.out rfl HKS2.out ?_)
            (with_reducible refine (KD6.out _ HB6.out).mono ?_)
            rintro e w7 ⟨rfl, h7⟩
            have HT7 := Lib.hid (KT.out _ _ HB6.out h7)
            have HO7 := Lib.hid (show w7.ownsRow w5.heap.size 64 1 (.slice A6 m6 c6) m6 (bv L) from rd_own_only HO6.out (fun g hg => .inl (Nat.lt_of_lt_of_le (HLT.out g hg) (Nat.le_of_lt HBK.out.lt))) h7.only)
            have KR7 := Lib.hid (Turned.read K HT7.out.1 hFew' q ⟨by omega, by omega⟩)
            have hck : w7.cell? ⟨ab, 0, none⟩ = some (.int .u8 kd) := by rw [HT7.out.2.cell, ← HKD.out]; rfl
            clear h7
            go_wp2_with fail
            (with_reducible refine KR7.out.mono ?_)
            rintro e w8 ⟨A8, c8, rfl, ho8, hb8, h8, _⟩
            have H8 := Lib.hid h8
            have hck : w8.cell? ⟨ab, 0, none⟩ = some (.int .u8 kd) := (hb8.cell (p := ⟨ab, 0, none⟩) HT7.out.2.lt).trans hck
            clear ho8 hb8 h8
            go_wp2_with fail
            go_roundw
            case rel => exact ⟨j + 1, S', t, by omega, by go_num, rfl, Lib.hid ⟨H8.out, HNX.out.1, HNX.out.2.1, HNX.out.2.2, HCL.out⟩⟩
            case measure => simp [intOf]; omega
          · go_wp2_with (first
              | refine wpList_load_mid rfl 35 (.tmp 35) rfl g (off + j * 5) rfl (dcs a) (.struct fs) HRA.out HF.out rfl HKS.out ?_
              | (refine wpList_store_row rfl 35 (.tmp 11) (.tmp 36) rfl wr.heap.size (dcs a).toArray rfl rfl 35 dz HBZ.out HKS2.out HOLD.out HONE.out ?_; rw [setRow_alloc, HW5.out, HAB.out]))
            (with_reducible refine KR5.out.mono ?_)
            rintro e w6 ⟨A6, c6, rfl, ho6, hb6⟩
            have HB6 := Lib.hid hb6
            have HBK6 := Lib.hid (HBK.out.below hb6 HBK.out.lt)
            have HO6 := Lib.hid ho6
            clear hb6 ho6 hck hca
            go_wp2_with (refine wpList_load_row rfl 35 (.tmp 11) rfl ab rfl 35 (dcs a).toArray (0, 0) (.struct fs) HBK6.out HF.out rfl HKS2.out ?_)
            (with_reducible refine (KD6.out _ HB6.out).mono ?_)
            rintro e w7 ⟨rfl, h7⟩
            have HT7 := Lib.hid (KT.out _ _ HB6.out h7)
            have HO7 := Lib.hid (show w7.ownsRow w5.heap.size 64 1 (.slice A6 m6 c6) m6 (bv L) from rd_own_only HO6.out (fun g hg => .inl (Nat.lt_of_lt_of_le (HLT.out g hg) (Nat.le_of_lt HBK.out.lt))) h7.only)
            have KR7 := Lib.hid (Turned.read K HT7.out.1 hFew' q ⟨by omega, by omega⟩)
            have hck : w7.cell? ⟨ab, 0, none⟩ = some (.int .u8 kd) := by rw [HT7.out.2.cell, ← HKD.out]; rfl
            clear h7
            go_wp2_with fail
            (with_reducible refine KR7.out.mono ?_)
            rintro e w8 ⟨A8, c8, rfl, ho8, hb8, h8, _⟩
            have H8 := Lib.hid h8
            have hck : w8.cell? ⟨ab, 0, none⟩ = some (.int .u8 kd) := (hb8.cell (p := ⟨ab, 0, none⟩) HT7.out.2.lt).trans hck
            clear ho8 hb8 h8
            go_wp2_with fail
            go_roundw
            case rel => exact ⟨j + 1, S', t, by omega, by go_num, rfl, Lib.hid ⟨H8.out, HNX.out.1, HNX.out.2.1, HNX.out.2.2, HCL.out⟩⟩
            case measure => simp [intOf]; omega
          · go_wp2_with (first
              | refine wpList_load_mid rfl 35 (.tmp 35) rfl g (off + j * 5) rfl (dcs a) (.struct fs) HRA.out HF.out rfl HKS.out ?_
              | (refine wpList_store_row rfl 35 (.tmp 11) (.tmp 36) rfl wr.heap.size (dcs a).toArray rfl rfl 35 dz HBZ.out HKS2.out HOLD.out HONE.out ?_; rw [setRow_alloc, HW5.out, HAB.out]))
            (with_reducible refine KR5.out.mono ?_)
            rintro e w6 ⟨A6, c6, rfl, ho6, hb6⟩
            have HB6 := Lib.hid hb6
            have HBK6 := Lib.hid (HBK.out.below hb6 HBK.out.lt)
            have HO6 := Lib.hid ho6
            clear hb6 ho6 hck hca
            go_wp2_with (refine wpList_load_row rfl 35 (.tmp 11) rfl ab rfl 35 (dcs a).toArray (0, 0) (.struct fs) HBK6.out HF.out rfl HKS2.out ?_)
            (with_reducible refine (KD6.out _ HB6.out).mono ?_)
            rintro e w7 ⟨rfl, h7⟩
            have HT7 := Lib.hid (KT.out _ _ HB6.out h7)
            have HO7 := Lib.hid (show w7.ownsRow w5.heap.size 64 1 (.slice A6 m6 c6) m6 (bv L) from rd_own_only HO6.out (fun g hg => .inl (Nat.lt_of_lt_of_le (HLT.out g hg) (Nat.le_of_lt HBK.out.lt))) h7.only)
            have KR7 := Lib.hid (Turned.read K HT7.out.1 hFew' q ⟨by omega, by omega⟩)
            have hck : w7.cell? ⟨ab, 0, none⟩ = some (.int .u8 kd) := by rw [HT7.out.2.cell, ← HKD.out]; rfl
            clear h7
            go_wp2_with fail
            (with_reducible refine KR7.out.mono ?_)
            rintro e w8 ⟨A8, c8, rfl, ho8, hb8, h8, _⟩
            have H8 := Lib.hid h8
            have hck : w8.cell? ⟨ab, 0, none⟩ = some (.int .u8 kd) := (hb8.cell (p := ⟨ab, 0, none⟩) HT7.out.2.lt).trans hck
            clear ho8 hb8 h8
            go_wp2_with fail
            go_roundw
            case rel => exact ⟨j + 1, S', t, by omega, by go_num, rfl, Lib.hid ⟨H8.out, HNX.out.1, HNX.out.2.1, HNX.out.2.2, HCL.out⟩⟩
            case measure => simp [intOf]; omega
      · have hri : (kd : Int) % 5 = 1 := hri
        have HSE := Lib.hid (show S' = flushS S by rw [← HS'.out, doS, if_neg (by rw [HRR.out]; decide), if_pos HRR.out])
        have HEE := Lib.hid (show e7 = flushE S by rw [← HE7.out, doE, if_neg (by rw [HRR.out]; decide), if_pos HRR.out])
        rcases hdE with rfl | ⟨_, hdE⟩
        · go_wp2_with (first
            | refine wpList_load_mid rfl 35 (.tmp 35) rfl g (off + j * 5) rfl (dcs a) (.struct fs) HRA.out HF.out rfl HKS.out ?_
            | (refine wpList_store_row rfl 35 (.tmp 11) (.tmp 36) rfl wr.heap.size (dcs a).toArray rfl rfl 35 dz HBZ.out HKS2.out HOLD.out HONE.out ?_; rw [setRow_alloc, HW5.out, HAB.out]))
          (with_reducible refine KR5.out.mono ?_)
          rintro e w6 ⟨A6, c6, rfl, ho6, hb6⟩
          have HB6 := Lib.hid hb6
          have HBK6 := Lib.hid (HBK.out.below hb6 HBK.out.lt)
          have HO6 := Lib.hid ho6
          clear hb6 ho6 hck hca
          go_wp2_with (refine wpList_load_row rfl 35 (.tmp 11) rfl ab rfl 35 (dcs a).toArray (0, 0) (.struct fs) HBK6.out HF.out rfl HKS2.out ?_)
          (with_reducible refine (KD6.out _ HB6.out).mono ?_)
          rintro e w7 ⟨rfl, h7⟩
          have HT7 := Lib.hid (KT.out _ _ HB6.out h7)
          have HO7 := Lib.hid (show w7.ownsRow w5.heap.size 64 1 (.slice A6 m6 c6) m6 (bv L) from rd_own_only HO6.out (fun g hg => .inl (Nat.lt_of_lt_of_le (HLT.out g hg) (Nat.le_of_lt HBK.out.lt))) h7.only)
          have KR7 := Lib.hid (Turned.read K HT7.out.1 hFew' q ⟨by omega, by omega⟩)
          have hck : w7.cell? ⟨ab, 0, none⟩ = some (.int .u8 kd) := by rw [HT7.out.2.cell, ← HKD.out]; rfl
          clear h7
          go_wp2_with fail
          (with_reducible refine KR7.out.mono ?_)
          rintro e w8 ⟨A8, c8, rfl, ho8, hb8, h8, _⟩
          have H8 := Lib.hid h8
          have hck : w8.cell? ⟨ab, 0, none⟩ = some (.int .u8 kd) := (hb8.cell (p := ⟨ab, 0, none⟩) HT7.out.2.lt).trans hck
          clear ho8 hb8 h8
          go_wp2_with fail
          go_roundw
          case rel => exact ⟨j + 1, S', false, by omega, by go_num, rfl, Lib.hid ⟨H8.out, HNX.out.1, HNX.out.2.1, HNX.out.2.2, fun _ => by rw [HSE.out]; exact clean_flushed HEE.out.symm⟩⟩
          case measure => simp [intOf]; omega
        · have he0 : ((e7 : Int) == 0) = false := by simp; omega
          go_wp2_with (first
            | refine wpList_load_mid rfl 35 (.tmp 35) rfl g (off + j * 5) rfl (dcs a) (.struct fs) HRA.out HF.out rfl HKS.out ?_
            | (refine wpList_store_row rfl 35 (.tmp 11) (.tmp 36) rfl wr.heap.size (dcs a).toArray rfl rfl 35 dz HBZ.out HKS2.out HOLD.out HONE.out ?_; rw [setRow_alloc, HW5.out, HAB.out]))
          (with_reducible refine KR5.out.mono ?_)
          rintro e w6 ⟨A6, c6, rfl, ho6, hb6⟩
          have HB6 := Lib.hid hb6
          have HBK6 := Lib.hid (HBK.out.below hb6 HBK.out.lt)
          have HO6 := Lib.hid ho6
          clear hb6 ho6 hck hca
          go_wp2_with (refine wpList_load_row rfl 35 (.tmp 11) rfl ab rfl 35 (dcs a).toArray (0, 0) (.struct fs) HBK6.out HF.out rfl HKS2.out ?_)
          (with_reducible refine (KD6.out _ HB6.out).mono ?_)
          rintro e w7 ⟨rfl, h7⟩
          have HT7 := Lib.hid (KT.out _ _ HB6.out h7)
          have HO7 := Lib.hid (show w7.ownsRow w5.heap.size 64 1 (.slice A6 m6 c6) m6 (bv L) from rd_own_only HO6.out (fun g hg => .inl (Nat.lt_of_lt_of_le (HLT.out g hg) (Nat.le_of_lt HBK.out.lt))) h7.only)
          have KR7 := Lib.hid (Turned.read K HT7.out.1 hFew' q ⟨by omega, by omega⟩)
          have hck : w7.cell? ⟨ab, 0, none⟩ = some (.int .u8 kd) := by rw [HT7.out.2.cell, ← HKD.out]; rfl
          clear h7
          go_wp2_with fail
          (with_reducible refine KR7.out.mono ?_)
          rintro e w8 ⟨A8, c8, rfl, ho8, hb8, h8, _⟩
          have H8 := Lib.hid h8
          have hck : w8.cell? ⟨ab, 0, none⟩ = some (.int .u8 kd) := (hb8.cell (p := ⟨ab, 0, none⟩) HT7.out.2.lt).trans hck
          clear ho8 hb8 h8
          go_wp2_with fail
          go_roundw
          case rel => exact ⟨j + 1, S', t, by omega, by go_num, rfl, Lib.hid ⟨H8.out, HNX.out.1, HNX.out.2.1, HNX.out.2.2, fun h => by rw [HSE.out]; exact clean_flush (HSN.out.2.2.2 h)⟩⟩
          case measure => simp [intOf]; omega
      · have hri : (kd : Int) % 5 = 2 := hri
        have HSE := Lib.hid (show S' = cutS S a.num by rw [← HS'.out, doS, if_neg (by rw [HRR.out]; decide), if_neg (by rw [HRR.out]; decide), if_pos HRR.out])
        obtain rfl : e7 = 0 := by omega
        go_wp2_with (first
          | refine wpList_load_mid rfl 35 (.tmp 35) rfl g (off + j * 5) rfl (dcs a) (.struct fs) HRA.out HF.out rfl HKS.out ?_
          | (refine wpList_store_row rfl 35 (.tmp 11) (.tmp 36) rfl wr.heap.size (dcs a).toArray rfl rfl 35 dz HBZ.out HKS2.out HOLD.out HONE.out ?_; rw [setRow_alloc, HW5.out, HAB.out]))
        (with_reducible refine KR5.out.mono ?_)
        rintro e w6 ⟨A6, c6, rfl, ho6, hb6⟩
        have HB6 := Lib.hid hb6
        have HBK6 := Lib.hid (HBK.out.below hb6 HBK.out.lt)
        have HO6 := Lib.hid ho6
        clear hb6 ho6 hck hca
        go_wp2_with (refine wpList_load_row rfl 35 (.tmp 11) rfl ab rfl 35 (dcs a).toArray (0, 0) (.struct fs) HBK6.out HF.out rfl HKS2.out ?_)
        (with_reducible refine (KD6.out _ HB6.out).mono ?_)
        rintro e w7 ⟨rfl, h7⟩
        have HT7 := Lib.hid (KT.out _ _ HB6.out h7)
        have HO7 := Lib.hid (show w7.ownsRow w5.heap.size 64 1 (.slice A6 m6 c6) m6 (bv L) from rd_own_only HO6.out (fun g hg => .inl (Nat.lt_of_lt_of_le (HLT.out g hg) (Nat.le_of_lt HBK.out.lt))) h7.only)
        have KR7 := Lib.hid (Turned.read K HT7.out.1 hFew' q ⟨by omega, by omega⟩)
        have hck : w7.cell? ⟨ab, 0, none⟩ = some (.int .u8 kd) := by rw [HT7.out.2.cell, ← HKD.out]; rfl
        clear h7
        go_wp2_with fail
        (with_reducible refine KR7.out.mono ?_)
        rintro e w8 ⟨A8, c8, rfl, ho8, hb8, h8, _⟩
        have H8 := Lib.hid h8
        have hck : w8.cell? ⟨ab, 0, none⟩ = some (.int .u8 kd) := (hb8.cell (p := ⟨ab, 0, none⟩) HT7.out.2.lt).trans hck
        clear ho8 hb8 h8
        go_wp2_with fail
        go_roundw
        case rel => exact ⟨j + 1, S', t, by omega, by go_num, rfl, Lib.hid ⟨H8.out, HNX.out.1, HNX.out.2.1, HNX.out.2.2, fun h => by rw [HSE.out]; exact clean_cut (HSN.out.2.2.2 h) _⟩⟩
        case measure => simp [intOf]; omega
      · have hri : (kd : Int) % 5 = 3 := hri
        have HSE := Lib.hid (show S' = crashS S a.fates by rw [← HS'.out, doS, if_neg (by rw [HRR.out]; decide), if_neg (by rw [HRR.out]; decide), if_neg (by rw [HRR.out]; decide), if_pos HRR.out])
        obtain rfl : e7 = 0 := by omega
        cases t with
        | true =>
          go_wp2_with (first
            | refine wpList_load_mid rfl 35 (.tmp 35) rfl g (off + j * 5) rfl (dcs a) (.struct fs) HRA.out HF.out rfl HKS.out ?_
            | (refine wpList_store_row rfl 35 (.tmp 11) (.tmp 36) rfl wr.heap.size (dcs a).toArray rfl rfl 35 dz HBZ.out HKS2.out HOLD.out HONE.out ?_; rw [setRow_alloc, HW5.out, HAB.out]))
          (with_reducible refine KR5.out.mono ?_)
          rintro e w6 ⟨A6, c6, rfl, ho6, hb6⟩
          have HB6 := Lib.hid hb6
          have HBK6 := Lib.hid (HBK.out.below hb6 HBK.out.lt)
          have HO6 := Lib.hid ho6
          clear hb6 ho6 hck hca
          go_wp2_with (refine wpList_load_row rfl 35 (.tmp 11) rfl ab rfl 35 (dcs a).toArray (0, 0) (.struct fs) HBK6.out HF.out rfl HKS2.out ?_)
          (with_reducible refine (KD6.out _ HB6.out).mono ?_)
          rintro e w7 ⟨rfl, h7⟩
          have HT7 := Lib.hid (KT.out _ _ HB6.out h7)
          have HO7 := Lib.hid (show w7.ownsRow w5.heap.size 64 1 (.slice A6 m6 c6) m6 (bv L) from rd_own_only HO6.out (fun g hg => .inl (Nat.lt_of_lt_of_le (HLT.out g hg) (Nat.le_of_lt HBK.out.lt))) h7.only)
          have KR7 := Lib.hid (Turned.read K HT7.out.1 hFew' q ⟨by omega, by omega⟩)
          have hck : w7.cell? ⟨ab, 0, none⟩ = some (.int .u8 kd) := by rw [HT7.out.2.cell, ← HKD.out]; rfl
          clear h7
          go_wp2_with fail
          (with_reducible refine KR7.out.mono ?_)
          rintro e w8 ⟨A8, c8, rfl, ho8, hb8, h8, _⟩
          have H8 := Lib.hid h8
          have hck : w8.cell? ⟨ab, 0, none⟩ = some (.int .u8 kd) := (hb8.cell (p := ⟨ab, 0, none⟩) HT7.out.2.lt).trans hck
          clear ho8 hb8 h8
          go_wp2_with fail
          go_roundw
          case rel => exact ⟨j + 1, S', false, by omega, by go_num, rfl, Lib.hid ⟨H8.out, HNX.out.1, HNX.out.2.1, HNX.out.2.2, fun _ => by rw [HSE.out]; exact clean_crash _ _ _⟩⟩
          case measure => simp [intOf]; omega
        | false =>
          by_cases hf0 : f = 0
          · subst hf0
            obtain ⟨sL, hsL⟩ : ∃ sL : ByteArray, (⟨L.toArray⟩ : ByteArray) = sL := ⟨_, rfl⟩
            have HSL := Lib.hid hsL
            clear hsL
            have HCR := Lib.hid (show readE S' q = 0 ∧ readS S' q = L from by
              have h1 := read_crash hqS a.fates
              rw [HSE.out]
              exact ⟨h1.1, by rw [h1.2, crash_clean (HSN.out.2.2.2 rfl), ← read_ok HFE.out, HLE.out]⟩)
            go_wp2_with (first
              | refine wpList_load_mid rfl 35 (.tmp 35) rfl g (off + j * 5) rfl (dcs a) (.struct fs) HRA.out HF.out rfl HKS.out ?_
              | (refine wpList_store_row rfl 35 (.tmp 11) (.tmp 36) rfl wr.heap.size (dcs a).toArray rfl rfl 35 dz HBZ.out HKS2.out HOLD.out HONE.out ?_; rw [setRow_alloc, HW5.out, HAB.out]))
            (with_reducible refine KR5.out.mono ?_)
            rintro e w6 ⟨A6, c6, rfl, ho6, hb6⟩
            have HB6 := Lib.hid hb6
            have HBK6 := Lib.hid (HBK.out.below hb6 HBK.out.lt)
            have HO6 := Lib.hid ho6
            clear hb6 ho6 hck hca
            go_wp2_with (refine wpList_load_row rfl 35 (.tmp 11) rfl ab rfl 35 (dcs a).toArray (0, 0) (.struct fs) HBK6.out HF.out rfl HKS2.out ?_)
            (with_reducible refine (KD6.out _ HB6.out).mono ?_)
            rintro e w7 ⟨rfl, h7⟩
            have HT7 := Lib.hid (KT.out _ _ HB6.out h7)
            have HO7 := Lib.hid (show w7.ownsRow w5.heap.size 64 1 (.slice A6 m6 c6) m6 (bv L) from rd_own_only HO6.out (fun g hg => .inl (Nat.lt_of_lt_of_le (HLT.out g hg) (Nat.le_of_lt HBK.out.lt))) h7.only)
            have KR7 := Lib.hid (Turned.read K HT7.out.1 hFew' q ⟨by omega, by omega⟩)
            rw [HCR.out.1, HCR.out.2] at KR7
            have hck : w7.cell? ⟨ab, 0, none⟩ = some (.int .u8 kd) := by rw [HT7.out.2.cell, ← HKD.out]; rfl
            clear h7
            go_wp2_with fail
            (with_reducible refine KR7.out.mono ?_)
            rintro e w8 ⟨A8, c8, rfl, ho8, hb8, h8, _⟩
            have H8 := Lib.hid h8
            have hck : w8.cell? ⟨ab, 0, none⟩ = some (.int .u8 kd) := (hb8.cell (p := ⟨ab, 0, none⟩) HT7.out.2.lt).trans hck
            have hv6 : (convert 32 9 (.slice A6 m6 c6)).run Try.prog w8 = .ok (.string sL) w8 := by rw [← HSL.out]; exact conv_own HM6.out (Rd.of_own (ownsRow_below HO7.out hb8))
            have hv8 : (convert 32 9 (.slice A8 m6 c8)).run Try.prog w8 = .ok (.string sL) w8 := by rw [← HSL.out]; exact conv_own HM6.out (Rd.of_own ho8)
            rw [HM6.out]
            clear ho8 hb8 h8
            go_wp2_with fail
            go_roundw
            case rel => exact ⟨j + 1, S', false, by omega, by go_num, rfl, Lib.hid ⟨H8.out, HNX.out.1, HNX.out.2.1, HNX.out.2.2, fun _ => by rw [HSE.out]; exact clean_crash _ _ _⟩⟩
            case measure => simp [intOf]; omega
          · have hfb : ((f : Int) == 0) = false := by simp; omega
            go_wp2_with (first
              | refine wpList_load_mid rfl 35 (.tmp 35) rfl g (off + j * 5) rfl (dcs a) (.struct fs) HRA.out HF.out rfl HKS.out ?_
              | (refine wpList_store_row rfl 35 (.tmp 11) (.tmp 36) rfl wr.heap.size (dcs a).toArray rfl rfl 35 dz HBZ.out HKS2.out HOLD.out HONE.out ?_; rw [setRow_alloc, HW5.out, HAB.out]))
            (with_reducible refine KR5.out.mono ?_)
            rintro e w6 ⟨A6, c6, rfl, ho6, hb6⟩
            have HB6 := Lib.hid hb6
            have HBK6 := Lib.hid (HBK.out.below hb6 HBK.out.lt)
            have HO6 := Lib.hid ho6
            clear hb6 ho6 hck hca
            go_wp2_with (refine wpList_load_row rfl 35 (.tmp 11) rfl ab rfl 35 (dcs a).toArray (0, 0) (.struct fs) HBK6.out HF.out rfl HKS2.out ?_)
            (with_reducible refine (KD6.out _ HB6.out).mono ?_)
            rintro e w7 ⟨rfl, h7⟩
            have HT7 := Lib.hid (KT.out _ _ HB6.out h7)
            have HO7 := Lib.hid (show w7.ownsRow w5.heap.size 64 1 (.slice A6 m6 c6) m6 (bv L) from rd_own_only HO6.out (fun g hg => .inl (Nat.lt_of_lt_of_le (HLT.out g hg) (Nat.le_of_lt HBK.out.lt))) h7.only)
            have KR7 := Lib.hid (Turned.read K HT7.out.1 hFew' q ⟨by omega, by omega⟩)
            have hck : w7.cell? ⟨ab, 0, none⟩ = some (.int .u8 kd) := by rw [HT7.out.2.cell, ← HKD.out]; rfl
            clear h7
            go_wp2_with fail
            (with_reducible refine KR7.out.mono ?_)
            rintro e w8 ⟨A8, c8, rfl, ho8, hb8, h8, _⟩
            have H8 := Lib.hid h8
            have hck : w8.cell? ⟨ab, 0, none⟩ = some (.int .u8 kd) := (hb8.cell (p := ⟨ab, 0, none⟩) HT7.out.2.lt).trans hck
            clear ho8 hb8 h8
            go_wp2_with fail
            go_roundw
            case rel => exact ⟨j + 1, S', false, by omega, by go_num, rfl, Lib.hid ⟨H8.out, HNX.out.1, HNX.out.2.1, HNX.out.2.2, fun _ => by rw [HSE.out]; exact clean_crash _ _ _⟩⟩
            case measure => simp [intOf]; omega
      · have hri : (kd : Int) % 5 = 4 := hri
        have HSE := Lib.hid (show S' = S by rw [← HS'.out, doS, if_neg (by rw [HRR.out]; decide), if_neg (by rw [HRR.out]; decide), if_neg (by rw [HRR.out]; decide), if_neg (by rw [HRR.out]; decide)])
        obtain rfl : e7 = 0 := by omega
        go_wp2_with (first
          | refine wpList_load_mid rfl 35 (.tmp 35) rfl g (off + j * 5) rfl (dcs a) (.struct fs) HRA.out HF.out rfl HKS.out ?_
          | (refine wpList_store_row rfl 35 (.tmp 11) (.tmp 36) rfl wr.heap.size (dcs a).toArray rfl rfl 35 dz HBZ.out HKS2.out HOLD.out HONE.out ?_; rw [setRow_alloc, HW5.out, HAB.out]))
        (with_reducible refine KR5.out.mono ?_)
        rintro e w6 ⟨A6, c6, rfl, ho6, hb6⟩
        have HB6 := Lib.hid hb6
        have HBK6 := Lib.hid (HBK.out.below hb6 HBK.out.lt)
        have HO6 := Lib.hid ho6
        clear hb6 ho6 hck hca
        go_wp2_with (refine wpList_load_row rfl 35 (.tmp 11) rfl ab rfl 35 (dcs a).toArray (0, 0) (.struct fs) HBK6.out HF.out rfl HKS2.out ?_)
        (with_reducible refine (KD6.out _ HB6.out).mono ?_)
        rintro e w7 ⟨rfl, h7⟩
        have HT7 := Lib.hid (KT.out _ _ HB6.out h7)
        have HO7 := Lib.hid (show w7.ownsRow w5.heap.size 64 1 (.slice A6 m6 c6) m6 (bv L) from rd_own_only HO6.out (fun g hg => .inl (Nat.lt_of_lt_of_le (HLT.out g hg) (Nat.le_of_lt HBK.out.lt))) h7.only)
        have KR7 := Lib.hid (Turned.read K HT7.out.1 hFew' q ⟨by omega, by omega⟩)
        have hck : w7.cell? ⟨ab, 0, none⟩ = some (.int .u8 kd) := by rw [HT7.out.2.cell, ← HKD.out]; rfl
        clear h7
        go_wp2_with fail
        (with_reducible refine KR7.out.mono ?_)
        rintro e w8 ⟨A8, c8, rfl, ho8, hb8, h8, _⟩
        have H8 := Lib.hid h8
        have hck : w8.cell? ⟨ab, 0, none⟩ = some (.int .u8 kd) := (hb8.cell (p := ⟨ab, 0, none⟩) HT7.out.2.lt).trans hck
        clear ho8 hb8 h8
        go_wp2_with fail
        go_roundw
        case rel => exact ⟨j + 1, S', t, by omega, by go_num, rfl, Lib.hid ⟨H8.out, HNX.out.1, HNX.out.2.1, HNX.out.2.2, fun h => by rw [HSE.out]; exact HSN.out.2.2.2 h⟩⟩
        case measure => simp [intOf]; omega
    · obtain rfl : k = j := by omega
      have HE := Lib.hid hst.out.1.bel
      clear hst
      go_wp2_with fail
      go_ret
      exact ⟨rfl, HE.out⟩
end
end Go.Proofs.Ytdnconakpajdgaa
