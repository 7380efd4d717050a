/- The contracts of Or, Bytes, Clear of a filter. No statement of the seat is proved here. -/
import Derived.Test.YtoofhaoaogoomaaGreatZLAZ
import Derived.Test.YtoofhaoaogoomaaGreatZLAO
import Derived.Test.YtoofhaoaogoomaaGreatZLAD
import Derived.Test.YtoofhaoaogoomaaGreatZLAB
import Derived.RegionTactic
import Derived.ChangeAlike
import Derived.BigRegion
import Derived.Lib.SliceRun
namespace Go.Proofs.YtoofhaoaogoomaaGreat
open Go.RowKit

theorem gby_drew {w W : World} {row : Option Nat} (h : w.grownBy W row) : w.grownBy W.drew row := ⟨h.os, h.tape, h.output, h.size, h.block⟩
theorem shl8 (U : Nat) (h : U < 8) : (2 : Int) ^ U % 256 = 2 ^ U := by
  have h1 : 2 ^ U < 256 := Nat.pow_lt_pow_right (show 1 < 2 by omega) h
  rw [show (2 : Int) ^ U = ((2 ^ U : Nat) : Int) by simp]
  generalize 2 ^ U = x at h1 ⊢
  omega
set_option maxRecDepth 100000 in
set_option maxHeartbeats 2000000 in
theorem or_ok (v g n p : Nat) (S : Nat → Bool) (w : World) (h : Vec w v g n p S) (A : Option Addr) (b : List UInt8) (nb c : Nat) (hl : b.length = nb) (hm9 : nb ≤ 9223372036854775807) (hr : ∀ W, w.grownBy W (some g) → Rd W W.heap.size A b) :
    Calls Tryz.prog 50 #[.pointer (some ⟨v, 0, none⟩), .slice A nb c] w fun e w' => (∃ x, e = .returned x) ∧ Vec w' v g n p (orS S b) ∧ w.grownBy w' (some g) := by
  obtain ⟨m, hm⟩ : ∃ m, (n + 7) / 8 = m := ⟨_, rfl⟩
  obtain ⟨k0, hk0⟩ : ∃ k0, k0 = min b.length m := ⟨_, rfl⟩
  have hmin : (if m < nb then (m : Int) else (nb : Int)) = (k0 : Int) := by
    rw [hl] at hk0; split <;> omega
  have hvc := Lib.hid (show ∀ W, w.grownBy W (some g) → W.cell? ⟨v, 0, none⟩ = some (.int .u32 n) ∧ W.cell? ⟨v, 2, none⟩ = some (.slice (some ⟨g, 0, none⟩) m m) from fun W hW => by
    have := h.vb.same (hW.block v h.vb.lt (fun e => h.ne (by injection e)))
    rw [hm] at this
    exact ⟨this.cell 0, this.cell 2⟩)
  have hgb := h.gb
  have hnn := h.hn
  have HV := Lib.hid h
  have HM := Lib.hid hm
  have HK := Lib.hid hk0
  have HL := Lib.hid hl
  have HR := Lib.hid hr
  obtain ⟨hc0, hc2⟩ := hvc.out w (World.grownBy.refl _ _)
  have hmm : m ≤ 131072 := by omega
  have hkm : k0 ≤ m := by omega
  have hkn : k0 ≤ nb := by omega
  clear h hm hk0 hl hr
  go_enter Tryz.func50, Tryz.ntmps50
  go_wp2
  go_loopw [16] (fun i wr => ∃ k : Nat, k ≤ k0 ∧ i = .int .i64 k ∧ Blk wr g 5 (bv (orTo (pk n S) b k)).toArray ∧ w.grownBy wr (some g))
    (fun i _ => k0 - (intOf i).toNat)
  case atStart => exact ⟨0, Nat.zero_le _, rfl, by rw [orTo_zero]; exact hgb, World.grownBy.refl _ _⟩
  case round =>
    clear hc0 hc2 hgb
    obtain ⟨k, hk, rfl, hblk, hgr⟩ := hrel
    obtain ⟨hc0, hc2⟩ := hvc.out wr hgr
    by_cases hlt : k < k0
    · have hkl : k < (orTo (pk n S) b k).length := by rw [orTo_length, pk_length, HM.out]; omega
      have hkb : k < b.length := by rw [HL.out]; omega
      have hcg := hblk.cell k
      rw [List.getElem?_toArray, bv_get hkl] at hcg
      have hfg := hblk.frozen k
      obtain ⟨gb, ob, rfl, hgbl, hcb0⟩ := HR.out wr hgr (by omega)
      have hcb := hcb0 k hkb
      clear hcb0
      have hi1 : (0 : Int) ≤ (k : Int) := by omega
      have hi2 : (k : Int) < (m : Int) := by omega
      have hi3 : (k : Int) < (nb : Int) := by omega
      have hor := u8_or_nat (orTo (pk n S) b k)[k].toNat b[k].toNat (UInt8.toNat_lt _) (UInt8.toNat_lt _)
      have hbd : b.getD k 0 = b[k] := by simp [List.getD, List.getElem?_eq_getElem hkb]
      have hnx := fun x hx => orTo_next hkl x (by rw [hbd]; exact hx)
      have hlt8 : ((orTo (pk n S) b k)[k].toNat ||| b[k].toNat) < 256 := Nat.or_lt_two_pow (n := 8) (UInt8.toNat_lt _) (UInt8.toNat_lt _)
      generalize ((orTo (pk n S) b k)[k].toNat ||| b[k].toNat) = X at *
      have HN := Lib.hid (hnx (UInt8.ofNat X) (by simp only [UInt8.toNat_ofNat']; omega))
      have HX := Lib.hid (show (UInt8.ofNat X).toNat = X by simp only [UInt8.toNat_ofNat']; omega)
      have HOR := Lib.hid hor
      have HBLK := Lib.hid hblk
      have HGR := Lib.hid hgr
      generalize (orTo (pk n S) b k)[k].toNat = Y at *
      generalize b[k].toNat = Z at *
      clear hnx hblk hgr hbd hor hlt8
      go_wp2_with fail
      go_region
      go_wp2_with fail
      go_roundw
      case rel =>
        rw [HOR.out]
        refine ⟨k + 1, by omega, by go_num, ?_, gby_drew (gby_trans HGR.out (grownBy_cell _ _ _ _))⟩
        have h1 := HBLK.out.set_ k (.int .u8 (X : Nat))
        rw [← bv_set _ _ _ HX.out, HN.out] at h1
        exact h1
      case measure => simp [intOf]; omega
    · obtain rfl : k0 = k := by omega
      obtain ⟨U, hU⟩ : ∃ U, n % 8 = U := ⟨_, rfl⟩
      have hUi : (n : Int) % 8 = (U : Int) := by omega
      by_cases hU0 : U = 0
      · subst hU0
        have hpk := pk_or0 (S := S) (k := k0) (by rw [HM.out]; exact HK.out) hU
        have hUi : (n : Int) % 8 = 0 := by omega
        have HP := Lib.hid (show Vec wr v g n p (orS S b) from ⟨HV.out.vb.same (hgr.block v HV.out.vb.lt (fun e => HV.out.ne (by injection e))), by rw [← hpk]; exact hblk, HV.out.hn, HV.out.hp⟩)
        have HG := Lib.hid hgr
        clear hU hpk hblk hgr
        go_wp2
        go_end0
        exact ⟨⟨_, rfl⟩, HP.out, HG.out⟩
      · have hU1 : (0 : Int) < (U : Int) := by omega
        have hU8 : U < 8 := by omega
        have hU2 : 0 < n % 8 := by omega
        obtain ⟨M, rfl⟩ : ∃ M, m = M + 1 := ⟨m - 1, by have := HM.out; omega⟩
        have hML : M < (orTo (pk n S) b k0).length := by rw [orTo_length, pk_length, HM.out]; omega
        have hpk := pk_or1 (S := S) (k := k0) (m := M) (by rw [HM.out]; exact HK.out) hU2 HM.out.symm hML
        have hcg := hblk.cell M
        rw [List.getElem?_toArray, bv_get hML] at hcg
        have hfg := hblk.frozen M
        have hsh := shl8 U hU8
        have hpw : 2 ^ U < 256 := Nat.pow_lt_pow_right (show 1 < 2 by omega) hU8
        have hpp : 0 < 2 ^ U := Nat.pow_pos (by omega)
        obtain ⟨Q, hQ⟩ : ∃ Q : Nat, 2 ^ U - 1 = Q := ⟨_, rfl⟩
        rw [hU, hQ] at hpk
        have hsb : ((2 : Int) ^ U - 1) % 256 = (Q : Int) := by
          rw [show (2 : Int) ^ U = ((2 ^ U : Nat) : Int) by simp]
          generalize 2 ^ U = x at hpw hpp hQ ⊢
          omega
        have hand := u8_and_nat (orTo (pk n S) b k0)[M].toNat Q (UInt8.toNat_lt _) (by omega)
        have hq8 : ((orTo (pk n S) b k0)[M].toNat &&& Q) < 256 := Nat.lt_of_le_of_lt Nat.and_le_left (UInt8.toNat_lt _)
        generalize ((orTo (pk n S) b k0)[M].toNat &&& Q) = X at *
        have HN := Lib.hid (hpk (UInt8.ofNat X) (by simp only [UInt8.toNat_ofNat']; omega))
        have HX := Lib.hid (show (UInt8.ofNat X).toNat = X by simp only [UInt8.toNat_ofNat']; omega)
        have HAND := Lib.hid hand
        have HU := Lib.hid hU
        have HBLK := Lib.hid hblk
        have HGR := Lib.hid hgr
        generalize (orTo (pk n S) b k0)[M].toNat = Y at *
        clear hU hpk hand hblk hgr hQ hpw hpp hq8
        go_wp2_with fail
        rw [hUi]
        go_region
        go_wp2
        go_end0
        rw [HAND.out]
        have h1 := HBLK.out.set_ M (.int .u8 (X : Nat))
        rw [← bv_set _ _ _ HX.out, HN.out] at h1
        have h2 := gby_drew (gby_trans HGR.out (grownBy_cell wr g M (.int .u8 (X : Nat))))
        exact ⟨⟨_, rfl⟩, ⟨HV.out.vb.same (h2.block v HV.out.vb.lt (fun e => HV.out.ne (by injection e))), h1, HV.out.hn, HV.out.hp⟩, h2⟩
end Go.Proofs.YtoofhaoaogoomaaGreat
/- The contracts of Clear of a filter, of Or and Clear of a nil one. No statement of the seat is proved here. -/
namespace Go.Proofs.YtoofhaoaogoomaaGreat
open Go.RowKit Go.Shelf
attribute [local go_sem] Oper.semAt_some

theorem or_nil (A : Option Addr) (n c : Nat) (w : World) : Calls Tryz.prog 50 #[.pointer none, .slice A n c] w fun e w' => (∃ x, e = .returned x) ∧ w = w' := by
  go_enter Tryz.func50, Tryz.ntmps50
  go_wp2
  refine bodyPost_ret (results_none rfl _ _ _) rfl ?_
  exact ⟨⟨_, rfl⟩, rfl⟩
theorem clear_nil (w : World) : Calls Tryz.prog 49 #[.pointer none] w fun e w' => (∃ x, e = .returned x) ∧ w = w' := by
  go_enter Tryz.func49, Tryz.ntmps49
  go_wp2
  refine bodyPost_ret (results_none rfl _ _ _) rfl ?_
  exact ⟨⟨_, rfl⟩, rfl⟩
theorem setCells_grown (g : Nat) : ∀ (vs : List Value) (o : Nat) (w : World), w.grownBy (w.setCells g o vs) (some g)
  | [], _, w => World.grownBy.refl w _
  | u :: r, o, w => gby_trans (grownBy_cell w g o u) (setCells_grown g r (o + 1) (w.setCell ⟨g, o, none⟩ u))
theorem setCells_blk (g : Nat) (t : TypeId) (z : Value) : ∀ (k o : Nat) (w : World) (cs : Array Value), Blk w g t cs → ∃ cs' : Array Value, Blk (w.setCells g o (List.replicate k z)) g t cs' ∧ cs'.size = cs.size ∧ ∀ j, j < cs.size → cs'[j]? = if o ≤ j ∧ j < o + k then some z else cs[j]?
  | 0, o, w, cs, h => ⟨cs, h, rfl, fun j _ => by rw [if_neg (by omega)]⟩
  | k + 1, o, w, cs, h => by
    obtain ⟨cs', h1, h2, h3⟩ := setCells_blk g t z k (o + 1) (w.setCell ⟨g, o, none⟩ z) (cs.setIfInBounds o z) (h.set_ o z)
    refine ⟨cs', h1, by rw [h2]; simp, fun j hj => ?_⟩
    rw [h3 j (by simpa using hj)]
    by_cases e : o = j
    · subst e
      rw [if_neg (by omega), if_pos (by omega)]; simp [hj]
    · rw [Array.getElem?_setIfInBounds_ne e]
      by_cases h4 : o + 1 ≤ j ∧ j < o + 1 + k
      · rw [if_pos h4, if_pos (by omega)]
      · rw [if_neg h4, if_neg (by omega)]
theorem clear_ok (v g n p : Nat) (S : Nat → Bool) (w : World) (h : Vec w v g n p S) :
    Calls Tryz.prog 49 #[.pointer (some ⟨v, 0, none⟩)] w fun e w' => (∃ x, e = .returned x) ∧ Vec w' v g n p (fun _ => false) ∧ w.grownBy w' (some g) := by
  obtain ⟨m, hm⟩ : ∃ m, (n + 7) / 8 = m := ⟨_, rfl⟩
  have hsz : (bv (pk n S)).toArray.size = m := by simp [bv_length, pk_length, hm]
  have hcl : ∀ ty, (Builtin.clear_ #[93] ty #[.slice (some ⟨g, 0, none⟩) m m]).run Tryz.prog w = .ok (.tuple #[]) (w.setCells g 0 (List.replicate m (.int .u8 0))) := fun ty => by
    rcases Nat.eq_zero_or_pos m with h0 | h0
    · subst h0
      simp [Builtin.clear_, run_underlying Tryz.underlying93]
      rfl
    · exact Lib.run_clear_slice w _ 5 ty (.int .u8 0) Tryz.underlying93 (Tryz.zeroValue5) rfl rfl g 0 m m h0 (fun j hj => by
        rw [Nat.zero_add, h.gb.cell, Array.getElem?_eq_getElem (by rw [hsz]; exact hj)]; rfl) (fun j _ => by rw [Nat.zero_add]; exact h.gb.frozen j)
  obtain ⟨cs', hb1, hb2, hb3⟩ := setCells_blk g 5 (.int .u8 0) m 0 w _ h.gb
  have hcs : cs' = (bv (pk n fun _ => false)).toArray := by
    rw [pk_none, hm]
    apply Array.ext_getElem?
    intro j
    by_cases hj : j < m
    · rw [hb3 j (by rw [hsz]; exact hj), if_pos (by omega)]
      simp [bv, hj]
    · rw [Array.getElem?_eq_none (by rw [hb2, hsz]; omega), Array.getElem?_eq_none (by simp [bv]; omega)]
  rw [hcs] at hb1
  have hgr := setCells_grown g (List.replicate m (.int .u8 0)) 0 w
  obtain ⟨_, _, hc2, _⟩ := h.cells
  rw [hm] at hc2
  have H := Lib.hid (show Vec (w.setCells g 0 (List.replicate m (.int .u8 0))) v g n p (fun _ => false) ∧ w.grownBy (w.setCells g 0 (List.replicate m (.int .u8 0))) (some g) from
    ⟨⟨h.vb.same (hgr.block v h.vb.lt (fun e => h.ne (by injection e))), hb1, h.hn, h.hp⟩, hgr⟩)
  clear h hm hsz hb1 hb2 hb3 hcs hgr
  go_enter Tryz.func49, Tryz.ntmps49
  go_wp2
  go_end0
  exact ⟨⟨_, rfl⟩, H.out⟩
end Go.Proofs.YtoofhaoaogoomaaGreat
/- The contract of May of a filter. No statement of the seat is proved here. -/
namespace Go.Proofs.YtoofhaoaogoomaaGreat
open Go.RowKit Go.Shelf
attribute [local go_sem] Oper.semAt_some

/-- Block b is a box that holds u, and of what w had all else lies as it lay. -/
def Row2 (b : Nat) (w : World) (u : Value) (W : World) : Prop := Blk W b 4 #[u] ∧ w.grownBy W (some b)
theorem row2_own {β : Type} {b : Nat} {w : World} (hg : b < w.heap.size) (u : Value) : OwnFrom w.heap.size (fun (_ : β) W => Row2 b w u W) := fun s W W' row ⟨h1, h2⟩ hgr hr => by
  have hne : ∀ k, k < w.heap.size → some k ≠ row := fun k hk e => by have := (hr k e.symm).1; omega
  exact ⟨h1.same (hgr.block b h1.lt (hne b hg)), ⟨hgr.os.trans h2.os, hgr.tape.trans h2.tape, hgr.output.trans h2.output, Nat.le_trans h2.size hgr.size, fun k hk hn => (hgr.block k (Nat.lt_of_lt_of_le hk h2.size) (hne k hk)).trans (h2.block k hk hn)⟩⟩
theorem five_blocks (w : World) (s t u : TypeId) (cs ds es : Array Value) : (((((w.alloc (.cells cs s)).alloc (.cells ds t)).alloc (.cells es u)).alloc (.cells cs s)).alloc (.cells ds t)).heap.size = w.heap.size + 5 ∧
    Below w.heap.size w (((((w.alloc (.cells cs s)).alloc (.cells ds t)).alloc (.cells es u)).alloc (.cells cs s)).alloc (.cells ds t)) ∧ Blk (((((w.alloc (.cells cs s)).alloc (.cells ds t)).alloc (.cells es u)).alloc (.cells cs s)).alloc (.cells ds t)) w.heap.size s cs ∧
    Blk (((((w.alloc (.cells cs s)).alloc (.cells ds t)).alloc (.cells es u)).alloc (.cells cs s)).alloc (.cells ds t)) (w.heap.size + 1 + 1) u es ∧
    Blk (((((w.alloc (.cells cs s)).alloc (.cells ds t)).alloc (.cells es u)).alloc (.cells cs s)).alloc (.cells ds t)) (w.heap.size + 1 + 1 + 1) s cs ∧ Blk (((((w.alloc (.cells cs s)).alloc (.cells ds t)).alloc (.cells es u)).alloc (.cells cs s)).alloc (.cells ds t)) (w.heap.size + 1 + 1 + 1 + 1) t ds := by
  have n0 := Blk.new w s cs
  have n2 := blk_at ((w.alloc (.cells cs s)).alloc (.cells ds t)) u es (g := w.heap.size + 1 + 1) (by simp)
  have n3 := blk_at (((w.alloc (.cells cs s)).alloc (.cells ds t)).alloc (.cells es u)) s cs (g := w.heap.size + 1 + 1 + 1) (by simp)
  have n4 := blk_at ((((w.alloc (.cells cs s)).alloc (.cells ds t)).alloc (.cells es u)).alloc (.cells cs s)) t ds (g := w.heap.size + 1 + 1 + 1 + 1) (by simp)
  have b1 := (Below.refl w.heap.size w).alloc (Nat.le_refl _) (.cells cs s)
  have b2 := b1.alloc b1.size (.cells ds t)
  have b3 := b2.alloc b2.size (.cells es u)
  have b4 := b3.alloc b3.size (.cells cs s)
  have b5 := b4.alloc b4.size (.cells ds t)
  have up := fun (W : World) (o : Obj) => (Below.refl W.heap.size W).alloc (Nat.le_refl _) o
  have m1 := n0.below (up _ (.cells ds t)) n0.lt
  have m2 := m1.below (up _ (.cells es u)) m1.lt
  have m3 := m2.below (up _ (.cells cs s)) m2.lt
  have k3 := n2.below (up _ (.cells cs s)) n2.lt
  exact ⟨by simp, b5, m3.below (up _ (.cells ds t)) m3.lt, k3.below (up _ (.cells ds t)) k3.lt, n3.below (up _ (.cells ds t)) n3.lt, n4⟩

set_option maxRecDepth 100000 in
set_option maxHeartbeats 2000000 in
theorem may_ok (v g n p : Nat) (S : Nat → Bool) (kc : Array Value) (s : List UInt8) (N : Nat) (K : BKeyOk kc s N) (w : World) (h : Vec w v g n p S) :
    Calls Tryz.prog 41 #[.pointer (some ⟨v, 0, none⟩), .agg kc] w fun e w' => e = .returned (.bool ((spotsN n p (keyA s N) (keyB s)).all S)) ∧ Below w.heap.size w w' := by
  obtain ⟨fs, hfs⟩ := bkey_desc
  have hksz : (Tryz.prog.info? 29).map (·.size) = some kc.size := by rw [K.size]; exact bkey_size
  have hkb : Blk ((w.alloc (.cells #[.pointer (some ⟨v, 0, none⟩)] 70)).alloc (.cells kc 29)) (w.heap.size + 1) 29 kc := blk_at _ _ _ (by rw [World.size_alloc])
  have hkb2 : Blk (((w.alloc (.cells #[.pointer (some ⟨v, 0, none⟩)] 70)).alloc (.cells kc 29)).alloc (.cells #[.bool false] 4)) (w.heap.size + 1) 29 kc := hkb.below ((Below.refl _ _).alloc (Nat.le_refl _) _) hkb.lt
  obtain ⟨a, ha⟩ : ∃ a, keyA s N = a := ⟨_, rfl⟩
  obtain ⟨b, hb⟩ : ∃ b, keyB s = b := ⟨_, rfl⟩
  rw [ha, hb]
  have HA := Lib.hid ha
  have HBB := Lib.hid hb
  have HF := Lib.hid hfs
  have HK := Lib.hid hksz
  have HB := Lib.hid hkb2
  clear hfs hksz hkb hkb2 ha hb
  refine (callsIn_wide (n := 3)).1 ?_
  refine callsIn_of_wp_marks Tryz.func41 rfl trivial ?_ rfl
  simp only [Tryz.ntmps41, List.size_toArray, List.length_cons, List.length_nil, Nat.reduceAdd, Nat.reduceSub, Array.replicate_succ, Array.replicate_zero, List.push_toArray, List.append_toArray, List.nil_append, List.cons_append]
  refine wpIn_wide.2 ?_
  go_wp2_with (refine wpList_load_row rfl 29 (.tmp 3) rfl (w.heap.size + 1) rfl 29 kc (0, 0) (.struct fs) HB.out HF.out rfl HK.out ?_)
  refine (bits_ok kc _ _).mono ?_
  rintro e w' ⟨rfl, rfl⟩
  go_wp2_with fail
  obtain ⟨hsz5, hb5, hx0, hr2, hx4, hk4⟩ := five_blocks w 70 29 4 #[.pointer (some ⟨v, 0, none⟩)] kc #[.bool false]
  generalize (((((w.alloc (.cells #[.pointer (some ⟨v, 0, none⟩)] 70)).alloc (.cells kc 29)).alloc (.cells #[.bool false] 4)).alloc (.cells #[.pointer (some ⟨v, 0, none⟩)] 70)).alloc (.cells kc 29)) = w1 at *
  have hv := h.below hb5 h.vb.lt h.gb.lt
  have hgl := h.gb.lt
  have hvl := h.vb.lt
  obtain ⟨hc0, hc1, hc2, hc3⟩ := hv.cells
  have hit := it_all 2 (by omega) (w.heap.size + 1 + 1 + 1) (w.heap.size + 1 + 1 + 1 + 1) w1.heap.size v (w.heap.size + 1 + 1) n p kc s N K w1 hx4 hk4 hc0 hc1 h.hn h.hp (Nat.le_refl _) (by omega) (by omega) (by omega) (by omega)
  rw [HA.out, HBB.out] at hit
  refine (wpIn_wide (n := 3)).1 ?_
  have hent := enters_of Tryz.func77 (by kernel_rfl) rfl
  have hkp := fun W l o o' => KB.putObj (w := w1) (n₀ := w1.heap.size) (g := w.heap.size + 1 + 1) (Nat.le_refl _) W l o o'
  refine wpIn_rangeFunc_ownF (F := Fence.wide) (n := 3) (P := Tryz.prog) rfl (by decide) (gf := 77) (lb := #[.pointer (some ⟨w.heap.size + 1 + 1 + 1, 0, none⟩), .pointer (some ⟨w.heap.size + 1 + 1 + 1 + 1, 0, none⟩)]) rfl trivial hent
    hit KB.trans hkp (Below.refl _ _) (fun _ => rfl)
    (fun pre W => (∀ q ∈ pre, S q.val = true) ∧ Below w1.heap.size w1 W) (fun c pre W => (c = .ret ∧ ∃ q ∈ pre, S q.val = false) ∧ Row2 (w.heap.size + 1 + 1) w1 (.bool false) W)
    ?hown ?hix ?hst
    (fun x => { tmps := #[.pointer (some ⟨v, 0, none⟩), .agg kc, .pointer (some ⟨w.heap.size, 0, none⟩), .pointer (some ⟨w.heap.size + 1, 0, none⟩), .pointer (some ⟨w.heap.size + 1 + 1, 0, none⟩), .int .u32 (x.val : Nat), undef, undef, .pointer (some ⟨v, 0, none⟩), .agg kc,
      .func (.func 77) #[] #[.pointer (some ⟨w.heap.size + 1 + 1 + 1, 0, none⟩), .pointer (some ⟨w.heap.size + 1 + 1 + 1 + 1, 0, none⟩)], .int .u32 (x.val : Nat), undef, undef, undef, undef, undef, undef, undef, undef, undef, undef, undef, undef, undef, undef, undef], defers := [] }) ?assign ?body ?done ?stop
  case hown => exact OwnFrom.and (ownFrom_pure _ _) (ownFrom_below (Nat.le_refl _) (Nat.le_refl _))
  case hix => exact fun c => OwnFrom.and (ownFrom_pure _ (fun pre : List (Fin n) => c = .ret ∧ ∃ q ∈ pre, S q.val = false)) (row2_own (by omega) _)
  case hst => exact ⟨by simp, Below.refl _ _⟩
  case assign =>
    intro l x W K hK
    gi_wp2
    exact hK
  case body =>
    rintro l pre x W ⟨hall, hbl⟩ _
    have hx0' := (hx0.below hbl hx0.lt).cell 0
    have hv' := hv.on hbl
    obtain ⟨_, _, _, hc3⟩ := hv'.cells
    have hxn := x.2
    have hpl := pk_length n S
    have hq8 : x.val / 8 < (n + 7) / 8 := by omega
    have hq9 : x.val / 8 < (pk n S).length := by rw [hpl]; exact hq8
    have hcg := hv'.byte hq9
    have hm8 : (n + 7) / 8 ≤ 131072 := by have := h.hn; omega
    have hrb := hr2.below hbl hr2.lt
    have hrc := hrb.cell 0
    have hrf := hrb.frozen 0
    have hhas := pk_has S hxn hq9
    have hp8 := pow8_lt x.val
    have hband : bits BinOp.and IntKind.u8 ((pk n S)[x.val / 8].toNat : Int) (2 ^ (x.val % 8)) = ((if S x.val = true then 2 ^ (x.val % 8) else 0 : Nat) : Int) := by
      have := u8_and_nat (pk n S)[x.val / 8].toNat (2 ^ (x.val % 8)) (UInt8.toNat_lt _) hp8
      rw [hhas] at this
      rw [← this]; simp
    have hcell := fun W' => CallsIn.inRound l ((callsIn_wide (n := 3 - 1 - 1 - 1)).2 (cell_ok g ((n + 7) / 8) x.val hq8 hm8 W'))
    have HBA := Lib.hid hall
    clear hall hhas
    by_cases hS : S x.val = true
    · have hne : (bits BinOp.and IntKind.u8 ((pk n S)[x.val / 8].toNat : Int) (2 ^ (x.val % 8)) == 0) = false := by
        rw [hband, if_pos hS]
        have : 0 < 2 ^ (x.val % 8) := Nat.pow_pos (by omega)
        generalize 2 ^ (x.val % 8) = X at this
        simp; omega
      have HS := Lib.hid hS
      clear hband hS
      gi_wp2_with ((with_reducible refine And.intro ?_ ?_); exact trivial; gi_at_call 56; (with_reducible refine (hcell _).mono ?_); rintro e w' ⟨rfl, rfl⟩)
      refine own_post (KeepsOthers.refl _) (KB.refl _ _ _) ⟨?_, hbl⟩
      intro q hq
      rcases List.mem_append.1 hq with hq | hq
      · exact HBA.out q hq
      · rw [List.mem_singleton.1 hq]; exact HS.out
    · have hne : (bits BinOp.and IntKind.u8 ((pk n S)[x.val / 8].toNat : Int) (2 ^ (x.val % 8)) == 0) = true := by
        rw [hband, if_neg hS]; rfl
      have HS := Lib.hid hS
      clear hband hS
      gi_wp2_with ((with_reducible refine And.intro ?_ ?_); exact trivial; gi_at_call 56; (with_reducible refine (hcell _).mono ?_); rintro e w' ⟨rfl, rfl⟩)
      exact own_ret (KeepsOthers.setCell _ _ _) ⟨⟨rfl, x, List.mem_append.2 (.inr (by simp)), by simpa using HS.out⟩, by simpa using hrb.set_ 0 (.bool false), gby_trans (below_grown hbl _) (grownBy_cell _ _ _ _)⟩
  case done =>
    rintro D ys W hD rfl ⟨hall, hbl⟩ hK
    have hrb := hr2.below hbl hr2.lt
    have hrc := hrb.cell 0
    have hrf := hrb.frozen 0
    have HBA := Lib.hid hall
    clear hall
    go_wp2
    have hK2 := (KeepsOthers.setCell W ⟨w.heap.size + 1 + 1, 0, none⟩ (.bool true)).same D _ hK rfl
    refine leaves_mark hK2 ?_
    have hc5 := (Blk.same (hrb.set_ 0 (.bool true)) (World.putObj_heap_other (o := .deferred none) (show w.heap.size + 1 + 1 ≠ D by omega))).cell 0
    have hgr := behind_loop (gby_trans (below_grown hbl _) (grownBy_cell W (w.heap.size + 1 + 1) 0 (.bool true))) hD (.deferred none)
    refine ⟨.bool true, ?_, congrArg (fun b => Ending.returned (Value.bool b)) (Eq.symm (List.all_eq_true.2 fun q hq => ?_)), hb5.grown hgr hb5.size (fun k e => by injection e with e; omega)⟩
    · simp [results, Tryz.f41, go_sem, hc5]
    · obtain ⟨q', hq', rfl⟩ := List.mem_map.1 hq
      exact HBA.out q' hq'
  case stop =>
    rintro D c pre W hD hpre ⟨⟨rfl, hex⟩, hrow⟩ hK
    have HE := Lib.hid hex
    clear hex
    gi_wp2
    refine leaves_mark hK ?_
    have hc5 := (Blk.same hrow.1 (World.putObj_heap_other (o := .deferred none) (show w.heap.size + 1 + 1 ≠ D by omega))).cell 0
    have hgr := behind_loop hrow.2 hD (.deferred none)
    refine ⟨.bool false, ?_, congrArg (fun b => Ending.returned (Value.bool b)) (Eq.symm (List.all_eq_false.2 ?_)), hb5.grown hgr hb5.size (fun k e => by injection e with e; omega)⟩
    · simp [results, Tryz.f41, go_sem, hc5]
    · obtain ⟨q, hq, hs⟩ := HE.out
      exact ⟨q.val, List.mem_map.2 ⟨q, hpre.subset hq, rfl⟩, by simp [hs]⟩
end Go.Proofs.YtoofhaoaogoomaaGreat
/- The landed filter as a state with a footprint. No statement of the seat is proved here. -/
namespace Go.Proofs.YtoofhaoaogoomaaGreat
open Go.RowKit
set_option linter.unusedVariables false
set_option linter.unusedSimpArgs false
set_option maxRecDepth 100000

def Rv (w : World) (s : Addr) (F : Nat → Prop) (V : BS) : Prop := ∃ v g, s = ⟨v, 0, none⟩ ∧ Vec w v g V.n V.p V.S ∧ F v ∧ F g ∧ ∀ k, F k → k < w.heap.size
theorem Rv.firm : Firm Rv where
  lt := fun ⟨_, _, _, _, _, _, h⟩ => h
  keep := fun {w w'} {s F V} ⟨r, g, hs, h, hr, hg, hl⟩ hk => ⟨r, g, hs, h.same (hk r hr) (hk g hg), hr, hg, still_lt hl hk⟩
theorem bkey_of {k : KeyT} (hk : k.Ok) : BKeyOk (kcs k).toArray k.1 k.2 where
  sum j hj := by
    rw [List.getElem?_toArray]
    unfold kcs
    rw [List.getElem?_append_left (by rw [bv_length]; exact hj), bv_get hj]
  num := by
    rw [List.getElem?_toArray]
    unfold kcs
    rw [List.getElem?_append_right (by rw [bv_length, hk.1]; exact Nat.le_refl _), bv_length, hk.1]
    rfl
  len := hk.1
  size := by rw [List.size_toArray]; exact kcs_length hk
  lt := hk.2
theorem rv_grown {w w' : World} {F : Nat → Prop} {r g : Nat} {V V' : BS} (hR : Vec w' r g V'.n V'.p V'.S) (hr : F r) (hg : F g) (hl : ∀ k, F k → k < w.heap.size) (h : w.grownBy w' (some g)) : Turned Rv w ⟨r, 0, none⟩ F w' V' :=
  ⟨F, ⟨r, g, rfl, hR, hr, hg, fun k hk => Nat.lt_of_lt_of_le (hl k hk) h.size⟩, fun k hk => .inl hk, grown_only h hg⟩
section
variable {w : World} {s : Addr} {F : Nat → Prop} {V : BS}
theorem rv_add (h : Rv w s F V) (x : KeyT) (hx : x.Ok) :
    Calls Tryz.prog 33 #[.pointer (some s), .agg (kcs x).toArray] w fun e w' => (∃ y, e = .returned y) ∧ Turned Rv w s F w' ⟨V.n, V.p, putL V.S (spotsK V.n V.p x)⟩ := by
  obtain ⟨r, g, rfl, hR, hr, hg, hl⟩ := h
  exact (add_ok r g V.n V.p V.S _ x.1 x.2 (bkey_of hx) w hR).mono fun e w' ⟨h1, h2, h3⟩ => ⟨h1, rv_grown (V := V) (V' := ⟨V.n, V.p, putL V.S (spotsK V.n V.p x)⟩) h2 hr hg hl h3⟩
theorem rv_may (h : Rv w s F V) (x : KeyT) (hx : x.Ok) :
    Calls Tryz.prog 41 #[.pointer (some s), .agg (kcs x).toArray] w fun e w' => e = .returned (.bool ((spotsK V.n V.p x).all V.S)) ∧ Below w.heap.size w w' := by
  obtain ⟨r, g, rfl, hR, hr, hg, hl⟩ := h
  exact may_ok r g V.n V.p V.S _ x.1 x.2 (bkey_of hx) w hR
theorem rv_clear (h : Rv w s F V) :
    Calls Tryz.prog 49 #[.pointer (some s)] w fun e w' => (∃ y, e = .returned y) ∧ Turned Rv w s F w' ⟨V.n, V.p, fun _ => false⟩ := by
  obtain ⟨r, g, rfl, hR, hr, hg, hl⟩ := h
  exact (clear_ok r g V.n V.p V.S w hR).mono fun e w' ⟨h1, h2, h3⟩ => ⟨h1, rv_grown (V := V) (V' := ⟨V.n, V.p, fun _ => false⟩) h2 hr hg hl h3⟩
theorem rv_or (h : Rv w s F V) (A : Option Addr) (b : List UInt8) (nb c : Nat) (hb : b.length = nb) (hm : nb ≤ 9223372036854775807) (hr : Rd w w.heap.size A b) (hF : ∀ ad, A = some ad → 0 < nb → ¬ F ad.block) :
    Calls Tryz.prog 50 #[.pointer (some s), .slice A nb c] w fun e w' => (∃ y, e = .returned y) ∧ Turned Rv w s F w' ⟨V.n, V.p, orS V.S b⟩ := by
  obtain ⟨r, g, rfl, hR, h1, h2, hl⟩ := h
  refine (or_ok r g V.n V.p V.S w hR A b nb c hb hm fun W hW => ?_).mono fun e w' ⟨h3, h4, h6⟩ => ⟨h3, rv_grown (V := V) (V' := ⟨V.n, V.p, orS V.S b⟩) h4 h1 h2 hl h6⟩
  exact (rd_only (N := fun k => k = g) (grown_only hW rfl) hr fun ad e h0 e2 => hF ad e (by rw [← hb]; exact h0) (e2 ▸ h2)).more hW.size
theorem rv_new (n p : Nat) (hn : n ≤ 1048576) (hp : p ≤ 30) (w : World) :
    Calls Tryz.prog 27 #[.int .i64 n, .int .i64 p] w fun e w' => ∃ s F, e = .returned (.tuple #[.pointer (some s), .int .i64 0]) ∧ Rv w' s F ⟨n, p, fun _ => false⟩ ∧ (∀ g, F g → w.heap.size ≤ g) ∧ Below w.heap.size w w' :=
  (new_ok n p hn hp w).mono fun e w' ⟨v, g, h1, h2, h3, h4, h5⟩ => ⟨⟨v, 0, none⟩, fun x => x = v ∨ x = g, h1, ⟨v, g, rfl, h4, .inl rfl, .inr rfl, by
    rintro x (rfl | rfl)
    · exact h4.vb.lt
    · exact h4.gb.lt⟩, by rintro x (rfl | rfl) <;> assumption, h5⟩
end
end Go.Proofs.YtoofhaoaogoomaaGreat
