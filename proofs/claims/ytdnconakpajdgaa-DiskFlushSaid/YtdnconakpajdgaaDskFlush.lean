/- The walk of DiskFlush, told from what the package's disks do. No statement of the seat is proved here. -/
import Derived.Test.YtdnconakpajdgaaDskGrow
import Derived.Test.YtdnconakpajdgaaQuiet
namespace Go.Proofs.Ytdnconakpajdgaa
open Go.RowKit
set_option linter.unusedVariables false

/-- The sectors as texts, of which the first i are there. -/
def txs (S : DS) (i : Nat) : Array Value := ((List.range 20).map fun t => if t < i then Value.string ⟨(nowS S t).toArray⟩ else .string ⟨#[]⟩).toArray
theorem txs_zero (S : DS) : txs S 0 = Array.replicate 20 (.string ⟨#[]⟩) := by simp [txs]; rfl
theorem txs_get {S : DS} {i t : Nat} (h : t < 20) : (txs S i)[t]? = some (if t < i then Value.string ⟨(nowS S t).toArray⟩ else .string ⟨#[]⟩) := by simp [txs, h]
theorem txs_set (S : DS) {i : Nat} (h : i < 20) : (txs S i).setIfInBounds i (.string ⟨(nowS S i).toArray⟩) = txs S (i + 1) := by
  apply Array.ext_getElem?
  intro j
  rw [Array.getElem?_setIfInBounds]
  by_cases hj : j < 20
  · rw [txs_get (S := S) (i := i + 1) hj]
    by_cases e : i = j
    · subst e
      rw [if_pos rfl, if_pos (by simp [txs]; exact h), if_pos (by omega)]
    · rw [if_neg e, txs_get (S := S) (i := i) hj]
      by_cases h2 : j < i
      · rw [if_pos h2, if_pos (by omega)]
      · rw [if_neg h2, if_neg (by omega)]
  · have h1 : (txs S i)[j]? = none := Array.getElem?_eq_none (by simp [txs]; omega)
    have h2 : (txs S (i + 1))[j]? = none := Array.getElem?_eq_none (by simp [txs]; omega)
    rw [h1, h2]
    split
    · rename_i e; subst e; rw [if_neg (by simp [txs]; omega)]
    · rfl
theorem flush_dead {S : DS} (h : flushE S ≠ 0) : flushE S = 6 ∧ (flushS S).off = true := by
  unfold flushE at h ⊢
  unfold flushS
  split at h
  · rename_i ho
    rw [if_pos ho, if_pos ho]; exact ⟨rfl, ho⟩
  · exact absurd rfl h
theorem flush_live {S : DS} (h : flushE S = 0) : (flushS S).put = [] ∧ (flushS S).off = false := by
  unfold flushE at h
  unfold flushS
  split at h
  · cases h
  · rename_i ho
    rw [if_neg ho]
    exact ⟨rfl, by simpa [doneS] using ho⟩
theorem read_live {S : DS} (ho : S.off = false) {i : Nat} (hi : i < S.n) : readE S i = 0 ∧ readS S i = nowS S i := by
  have h1 : readE S i = 0 := by
    unfold readE
    rw [if_neg (by omega), if_neg (by rw [ho]; decide)]
  exact ⟨h1, read_ok h1⟩
theorem crash_empty {S : DS} (h : S.put = []) (l : List Int) (i : Nat) : nowS (crashS S l) i = nowS S i := by
  unfold nowS crashS
  simp only [h]
  rfl
section
variable {St : World → Addr → (Nat → Prop) → DS → Prop}
set_option maxRecDepth 100000 in
set_option maxHeartbeats 2000000 in
theorem flush_walk (K : DisksOk St) (A : Option Addr) (ls : List DActT) (n c : Nat) (hl : ls.length = n) (hc : n ≤ c) (hm : c ≤ maxLen) (A1 : Option Addr) (fs1 : List Int) (n1 c1 : Nat) (hl1 : fs1.length = n1) (hc1 : n1 ≤ c1) (hm1 : c1 ≤ maxLen) (hin : ∀ x ∈ fs1, In64 x) (w : World) (hr : RdD w w.heap.size A ls) (hr1 : RdV w w.heap.size A1 (iv fs1)) :
    Calls Try.prog 8 #[.slice A n c, .slice A1 n1 c1] w fun e w' => e = .returned (.bool true) ∧ Below w.heap.size w w' := by
  have KF := Lib.hid (fun W (hb : Below w.heap.size w W) => few_any A n c ls hl hc hm W ((hr.below hb).more hb.size))
  have HR := Lib.hid hr
  have HR1 := Lib.hid hr1
  have HL := Lib.hid hl
  have HL1 := Lib.hid (And.intro hl1 (And.intro hc1 (And.intro hm1 hin)))
  have hc63 : c ≤ 9223372036854775807 := by unfold maxLen at hm; omega
  clear hr hl hm hr1 hl1 hc1 hm1 hin
  go_enter Try.func8, Try.ntmps8
  go_wp2_with fail
  refine (shown_any K _).mono ?_
  rintro e w1 ⟨rfl, hb1⟩
  have KN := Lib.hid (Turned.new (w0 := w) K 20 (by omega) hb1)
  clear hb1
  go_wp2_with fail
  refine KN.out.mono ?_
  rintro e w2 ⟨s, rfl, h2⟩
  have H3 := Lib.hid h2
  have KF3 := Lib.hid (KF.out w2 h2.bel)
  clear h2 KN KF
  go_wp2_with fail
  refine KF3.out.mono ?_
  rintro e w' ⟨k, hkn, hk1, hall, rfl, rfl⟩
  have HALL := Lib.hid hall
  clear hall KF3
  go_wp2_with fail
  obtain ⟨fs, hfs⟩ := act_desc
  have HF := Lib.hid hfs
  have hk63 : k ≤ 9223372036854775807 := by omega
  clear hfs
  go_loopw [33] (fun i wr => ∃ (j : Nat) (S : DS), j ≤ k ∧ i = .int .i64 j ∧ Hid (Dsk St w wr s S ∧ S.n = 20 ∧ S.cnt ≤ j ∧ S.put.length ≤ j)) (fun i _ => k - (intOf i).toNat)
  case atStart => exact ⟨0, _, Nat.zero_le _, rfl, Lib.hid ⟨H3.out, rfl, Nat.le_refl _, Nat.le_refl _⟩⟩
  case round =>
    clear H3
    obtain ⟨j, S, hj, rfl, hst⟩ := hrel
    by_cases hlt : j < k
    · have hjx : j < ls.length := by rw [HL.out]; omega
      obtain ⟨g, off, a, rfl, hra, hok, hab, _⟩ := HR.out.get hst.out.1.bel hjx hlt HALL.out
      have HOK := Lib.hid hok
      have HRA := Lib.hid hra
      have HKS := Lib.hid (show (Try.prog.info? 35).map (·.size) = some (dcs a).length from act_size)
      have HKS2 := Lib.hid (show (Try.prog.info? 35).map (·.size) = some (dcs a).toArray.size from act_size)
      have HOLD := Lib.hid (show dz.size = (dcs a).toArray.size from rfl)
      have HBZ := Lib.hid (Blk.new wr 35 dz)
      have HONE := Lib.hid (dcs_one a)
      obtain ⟨w5, ab, hw5, hab5, hb5, hbk5⟩ := act_box wr a
      have HW5 := Lib.hid hw5
      have HAB := Lib.hid hab5
      have HBK := Lib.hid hbk5
      have hFew : Few S := ⟨by have := hst.out.2.2.2; omega, by have := hst.out.2.2.1; omega⟩
      have HNX := Lib.hid (show (doS S a).n = 20 ∧ (doS S a).cnt ≤ j + 1 ∧ (doS S a).put.length ≤ j + 1 from ⟨(do_grow S a).1.trans hst.out.2.1, by have := hst.out.2.2.1; have := (do_grow S a).2.1; omega, by have := hst.out.2.2.2; have := (do_grow S a).2.2; omega⟩)
      have KD := Lib.hid (does_any K (hst.out.1.on K hb5) hFew a hok hab (out_none _ _) (out_none _ _))
      have hi1 : (0 : Int) ≤ (j : Int) := by omega
      have hi2 : (j : Int) < (k : Int) := by omega
      clear hra hok hab hst hw5 hab5 hb5 hbk5 hFew
      go_wp2_with (first
        | refine wpList_load_mid rfl 35 (.tmp 35) rfl g (off + j * 5) rfl (dcs a) (.struct fs) HRA.out HF.out rfl HKS.out ?_
        | (refine wpList_store_row rfl 35 (.tmp 9) (.tmp 36) rfl wr.heap.size (dcs a).toArray rfl rfl 35 dz HBZ.out HKS2.out HOLD.out HONE.out ?_; rw [setRow_alloc, HW5.out, HAB.out])
        | refine wpList_load_row rfl 35 (.tmp 9) rfl ab rfl 35 (dcs a).toArray (0, 0) (.struct fs) HBK.out HF.out rfl HKS2.out ?_)
      (with_reducible refine KD.out.mono ?_)
      rintro e w6 ⟨rfl, h6⟩
      have H6 := Lib.hid h6
      clear h6
      go_wp2_with fail
      go_roundw
      case rel => exact ⟨j + 1, _, by omega, by go_num, Lib.hid ⟨H6.out, HNX.out⟩⟩
      case measure => simp [intOf]; omega
    · obtain rfl : k = j := by omega
      have hFew : Few S := ⟨by have := hst.out.2.2.2; omega, by have := hst.out.2.2.1; omega⟩
      have KFL := Lib.hid (Turned.flush K hst.out.1 hFew)
      have HSN := Lib.hid (show (flushS S).n = 20 ∧ Few (flushS S) from ⟨(flush_grow S).1.trans hst.out.2.1, ⟨by have := hst.out.2.2.2; have := (flush_grow S).2.2; omega, by have := hst.out.2.2.1; have := (flush_grow S).2.1; omega⟩⟩)
      clear hst hFew
      go_wp2_with fail
      (with_reducible refine KFL.out.mono ?_)
      rintro e w4 ⟨rfl, h4⟩
      by_cases he : flushE S = 0
      · have hlv := flush_live he
        obtain ⟨S1, hS1⟩ : ∃ S1, flushS S = S1 := ⟨_, rfl⟩
        rw [hS1] at hlv HSN h4
        rw [he]
        obtain ⟨F, hst4, hg4, ho4⟩ := h4
        have hlt4 := K.lt hst4
        clear KFL he hS1
        go_wp2_with fail
        obtain ⟨wx, hwx⟩ : ∃ V, w4.alloc (.cells #[.string ⟨#[]⟩, .string ⟨#[]⟩, .string ⟨#[]⟩, .string ⟨#[]⟩, .string ⟨#[]⟩, .string ⟨#[]⟩, .string ⟨#[]⟩, .string ⟨#[]⟩, .string ⟨#[]⟩, .string ⟨#[]⟩, .string ⟨#[]⟩, .string ⟨#[]⟩, .string ⟨#[]⟩, .string ⟨#[]⟩, .string ⟨#[]⟩, .string ⟨#[]⟩, .string ⟨#[]⟩, .string ⟨#[]⟩, .string ⟨#[]⟩, .string ⟨#[]⟩] 52) = V := ⟨_, rfl⟩
        obtain ⟨xb, hxb⟩ : ∃ xb, w4.heap.size = xb := ⟨_, rfl⟩
        have hbx : Below w4.heap.size w4 wx := hwx ▸ (Below.refl _ _).alloc (Nat.le_refl _) _
        have hbk : Blk wx xb 52 (txs S1 0) := by rw [← hwx, ← hxb]; exact Blk.new w4 _ _
        have HX := Lib.hid (show St wx s F S1 ∧ Below w.heap.size w wx ∧ Blk wx xb 52 (txs S1 0) from ⟨K.below hst4 hbx, (ho4.below (fun g h => h.elim) (Nat.le_refl _)).trans (hbx.mono ho4.size), hbk⟩)
        have HXF := Lib.hid (show (∀ g, F g → g ≠ xb) ∧ w.heap.size ≤ xb from ⟨fun g hg e => by have := hlt4 g hg; omega, hxb ▸ ho4.size⟩)
        have HG4 := Lib.hid hg4
        have HLV := Lib.hid hlv
        rw [hwx, hxb]
        clear hbx hbk hst4 hg4 ho4 hlt4 hlv hwx hxb
        go_loopw [54] (fun i wr => ∃ j : Nat, j ≤ 20 ∧ i = .int .i64 j ∧ Hid (St wr s F S1 ∧ Below w.heap.size w wr ∧ Blk wr xb 52 (txs S1 j))) (fun i _ => 20 - (intOf i).toNat)
        case atStart => exact ⟨0, Nat.zero_le _, rfl, HX⟩
        case round =>
          clear HX
          obtain ⟨j, hj, rfl, hst⟩ := hrel
          by_cases hlt : j < 20
          · obtain ⟨hst1, hbw, hbk⟩ := hst.out
            have hrl := read_live HLV.out.2 (i := j) (by rw [HSN.out.1]; exact hlt)
            have KR := K.read s F S1 j wr hst1 HSN.out.2 ⟨by omega, by omega⟩
            rw [hrl.1, hrl.2] at KR
            have KR := Lib.hid KR
            obtain ⟨L, hL⟩ : ∃ L, nowS S1 j = L := ⟨_, rfl⟩
            obtain ⟨m5, hm5⟩ : ∃ m5, L.length = m5 := ⟨_, rfl⟩
            obtain ⟨sL, hsL⟩ : ∃ sL : ByteArray, (⟨L.toArray⟩ : ByteArray) = sL := ⟨_, rfl⟩
            rw [hL, hm5] at KR
            have HL5 := Lib.hid hL
            have HM5 := Lib.hid hm5
            have HSL := Lib.hid hsL
            have HST := Lib.hid (And.intro hst1 (And.intro hbw hbk))
            have hi1 : (0 : Int) ≤ (j : Int) := by omega
            have hi2 : (j : Int) < 20 := by omega
            clear hst hst1 hbw hbk hrl hL hm5 hsL
            go_wp2_with fail
            (with_reducible refine KR.out.mono ?_)
            rintro e w5 ⟨A5, c5, rfl, ho5, hb5⟩
            have hv5 : (convert 32 9 (.slice A5 m5 c5)).run Try.prog w5 = .ok (.string sL) w5 := by rw [← HSL.out]; exact conv_own HM5.out (Rd.of_own ho5)
            have hbk5 := HST.out.2.2.below hb5 HST.out.2.2.lt
            have hcx : w5.cell? ⟨xb, j, none⟩ = some (.string ⟨#[]⟩) := by rw [hbk5.cell, txs_get hlt, if_neg (by omega)]
            have hfx := hbk5.frozen j
            have HN := Lib.hid (show St (w5.setCell ⟨xb, j, none⟩ (.string sL)) s F S1 ∧ Below w.heap.size w (w5.setCell ⟨xb, j, none⟩ (.string sL)) ∧ Blk (w5.setCell ⟨xb, j, none⟩ (.string sL)) xb 52 (txs S1 (j + 1)) from
              ⟨K.keep (K.below HST.out.1 hb5) fun g hg => setCell_block (HXF.out.1 g hg), (HST.out.2.1.trans (hb5.mono HST.out.2.1.size)).setCell HXF.out.2 _, by
                have := hbk5.set_ j (.string sL)
                rw [← HSL.out, ← HL5.out, txs_set S1 hlt, HL5.out, HSL.out] at this
                exact this⟩)
            clear ho5 hb5 hbk5 KR
            go_wp2_with fail
            go_roundw
            case rel => exact ⟨j + 1, by omega, by go_num, HN⟩
            case measure => simp [intOf]; omega
          · obtain rfl : j = 20 := by omega
            obtain ⟨hst1, hbw, hbk⟩ := hst.out
            have KP := K.pending s F S1 wr hst1
            rw [HLV.out.1] at KP
            have KP := Lib.hid KP
            have hmo : Below w.heap.size w wr := hbw
            have KC := Lib.hid (fun W (hb : Below wr.heap.size wr W) => K.crash s F S1 A1 n1 c1 fs1 W (K.below hst1 hb) HSN.out.2 HL1.out.1 HL1.out.2.1 HL1.out.2.2.1 ((HR1.out.below (hbw.trans (hb.mono hbw.size))).more (hbw.trans (hb.mono hbw.size)).size) HL1.out.2.2.2 (out_morev HR1.out (by rw [iv_length]; exact HL1.out.1) (out_none _ _) HG4.out))
            have KT := Lib.hid (fun (W w7 : World) (hb : Below wr.heap.size wr W) (ht : Turned St W s F w7 (crashS S1 fs1)) => (show Dsk St w w7 s (crashS S1 fs1) ∧ Blk w7 xb 52 (txs S1 20) from
              ⟨Turned.step HG4.out (Only.of_below (hbw.trans (hb.mono hbw.size))) ht, Blk.same (hbk.below hb hbk.lt) (ht.only.block xb (Nat.lt_of_lt_of_le hbk.lt hb.size) (fun hf => HXF.out.1 xb hf rfl))⟩))
            clear hst hst1 hbw hbk hmo
            go_wp2_with fail
            (with_reducible refine KP.out.mono ?_)
            rintro e w6 ⟨rfl, hb6⟩
            have HB6 := Lib.hid hb6
            clear hb6
            go_wp2_with fail
            (with_reducible refine (KC.out _ HB6.out).mono ?_)
            rintro e w7 ⟨rfl, h7⟩
            have H7 := Lib.hid (KT.out _ _ HB6.out h7)
            clear h7 KP KC KT
            go_wp2_with fail
            go_loopw [75] (fun i wr => ∃ j : Nat, j ≤ 20 ∧ i = .int .i64 j ∧ Hid (Dsk St w wr s (crashS S1 fs1) ∧ Blk wr xb 52 (txs S1 20))) (fun i _ => 20 - (intOf i).toNat)
            case atStart => exact ⟨0, Nat.zero_le _, rfl, H7⟩
            case round =>
              clear H7
              obtain ⟨j, hj, rfl, hst⟩ := hrel
              by_cases hlt : j < 20
              · have hrl := read_live (S := crashS S1 fs1) rfl (i := j) (by show j < S1.n; rw [HSN.out.1]; exact hlt)
                have KR := Turned.read K hst.out.1 (show Few (crashS S1 fs1) from ⟨Nat.zero_le _, HSN.out.2.2⟩) j ⟨by omega, by omega⟩
                rw [hrl.1, hrl.2, crash_empty HLV.out.1] at KR
                have KR := Lib.hid KR
                obtain ⟨L, hL⟩ : ∃ L, nowS S1 j = L := ⟨_, rfl⟩
                obtain ⟨m5, hm5⟩ : ∃ m5, L.length = m5 := ⟨_, rfl⟩
                obtain ⟨sL, hsL⟩ : ∃ sL : ByteArray, (⟨L.toArray⟩ : ByteArray) = sL := ⟨_, rfl⟩
                rw [hL, hm5] at KR
                have HL5 := Lib.hid hL
                have HM5 := Lib.hid hm5
                have HSL := Lib.hid hsL
                have HST := Lib.hid hst.out.2
                have hi1 : (0 : Int) ≤ (j : Int) := by omega
                have hi2 : (j : Int) < 20 := by omega
                clear hst hrl hL hm5 hsL
                go_wp2_with fail
                (with_reducible refine KR.out.mono ?_)
                rintro e w8 ⟨A5, c5, rfl, ho5, hb8, h8, _⟩
                have hv5 : ∀ q, (convert 32 9 (.slice A5 m5 c5)).run Try.prog (w8.drewN q) = .ok (.string sL) (w8.drewN q) := fun q => by rw [← HSL.out]; exact conv_own HM5.out (Rd.of_own ho5)
                have hbk5 := HST.out.below hb8 HST.out.lt
                have hcx : w8.cell? ⟨xb, j, none⟩ = some (.string sL) := by rw [hbk5.cell, txs_get hlt, if_pos hlt, HL5.out, HSL.out]
                have HN := Lib.hid (show ∀ q, Dsk St w (w8.drewN q) s (crashS S1 fs1) ∧ Blk (w8.drewN q) xb 52 (txs S1 20) from fun q => ⟨h8.on K (show Below w8.heap.size w8 (w8.drewN q) from ⟨rfl, rfl, rfl, Nat.le_refl _, fun _ _ => rfl⟩), hbk5⟩)
                clear ho5 hb8 hbk5 KR h8
                go_wp2_with fail
                go_quiet (fail)
                go_wp2_with fail
                go_roundw
                case rel => exact ⟨j + 1, by omega, by go_num, Lib.hid (HN.out _)⟩
                case measure => simp [intOf]; omega
              · obtain rfl : j = 20 := by omega
                have KP := Lib.hid (show ∀ W, Below wr.heap.size wr W → Calls Try.prog 22 #[.pointer (some s)] W fun e w' => e = .returned (.int .i64 0) ∧ Below W.heap.size W w' from fun W hb => Turned.pending K (hst.out.1.on K hb))
                have KX := Lib.hid (show ∀ W, Below wr.heap.size wr W → Calls Try.prog 23 #[.pointer (some s)] W fun e w' => e = .returned (.bool false) ∧ Below W.heap.size W w' from fun W hb => Turned.dead K (hst.out.1.on K hb))
                have HB := Lib.hid hst.out.1.bel
                clear hst
                go_wp2_with fail
                (with_reducible refine (KP.out _ (Below.refl _ _)).mono ?_)
                rintro e w8 ⟨rfl, hb8⟩
                have HB8 := Lib.hid hb8
                clear hb8
                go_wp2_with fail
                (with_reducible refine (KX.out _ HB8.out).mono ?_)
                rintro e w9 ⟨rfl, hb9⟩
                have HB9 := Lib.hid (HB.out.trans ((HB8.out.trans (hb9.mono HB8.out.size)).mono HB.out.size))
                clear hb9
                go_wp2_with fail
                go_ret
                exact ⟨rfl, HB9.out⟩
      · obtain ⟨he6, hof⟩ := flush_dead he
        rw [he6]
        have KX := Lib.hid (Turned.dead K h4)
        rw [hof] at KX
        have H4 := Lib.hid h4.bel
        clear KFL he he6 hof h4
        go_wp2_with fail
        (with_reducible refine KX.out.mono ?_)
        rintro e w5 ⟨rfl, hb5⟩
        have H5 := Lib.hid (H4.out.trans (hb5.mono H4.out.size))
        clear hb5
        go_wp2_with fail
        go_ret
        exact ⟨rfl, H5.out⟩
end
end Go.Proofs.Ytdnconakpajdgaa
