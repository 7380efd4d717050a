/- The reference's reader as package cont's reference uses it: Get, and 32 bytes (cellarageref11.sum). No statement of the seat is proved here. -/
import Derived.Test.YtoiiiccichkgpaaRefGet
import Derived.Test.YtoiiiccichkgpaaOwnRow
import Derived.Test.YtoiiiccichkgpaaQuiet
import Derived.Deep.DeepCutAuto
import Derived.Deep.WholeRow
import Derived.Laws.ResultCell
import Derived.Laws.Tables
import Derived.WalkSmall
namespace Go.Proofs.Ytoiiiccichkgpaa
open Go.RowKit
set_option linter.unusedVariables false
set_option linter.unusedSimpArgs false

/-- What a read of n bytes from place i does to the place and the fault. -/
def Moved (l : List UInt8) (i : Nat) (f : Int) (n i' : Nat) (f' : Int) : Prop := ((f = 0 ∧ i + n ≤ l.length) → i' = i + n ∧ f' = 0) ∧ (¬ (f = 0 ∧ i + n ≤ l.length) → f' ≠ 0)
theorem Moved.trans {l : List UInt8} {i n i1 m i2 : Nat} {f f1 f2 : Int} (h : Moved l i f n i1 f1) (h2 : Moved l i1 f1 m i2 f2) : Moved l i f (n + m) i2 f2 := by
  by_cases h0 : f = 0 ∧ i + n ≤ l.length
  · obtain ⟨rfl, rfl⟩ := h.1 h0
    refine ⟨fun hc => ?_, fun hc => h2.2 fun hd => hc ⟨h0.1, by omega⟩⟩
    obtain ⟨e1, e2⟩ := h2.1 ⟨rfl, by omega⟩
    exact ⟨by omega, e2⟩
  · have h3 := h.2 h0
    exact ⟨fun hc => absurd ⟨hc.1, by omega⟩ h0, fun _ => h2.2 fun hd => h3 hd.1⟩
theorem Moved.refl {l : List UInt8} {i : Nat} {f : Int} (h : i ≤ l.length) : Moved l i f 0 i f := ⟨fun hc => ⟨rfl, hc.1⟩, fun hc e => hc ⟨e, by omega⟩⟩
theorem rget_two {g c i : Nat} {A : Option Addr} {l : List UInt8} {f : Int} {w : World} (h : Ref w g A c l i f) (k : Nat) (hk : k ≤ 8) :
    Calls Try.prog 32 #[.pointer (some ⟨g, 0, none⟩), .int .i64 k] w fun e w' => w.grownBy w' (some g) ∧ ∃ (V i' : Nat) (f' : Int), e = .returned (.int .u64 V) ∧ V < 256 ^ k ∧ Ref w' g A c l i' f' ∧ Moved l i f k i' f' ∧ ((f = 0 ∧ i + k ≤ l.length) → V = val ((l.drop i).take k)) := by
  refine (rget_any g c i A l f k w h).mono ?_
  rintro e w' ⟨rfl, ⟨i', hr, hd⟩, hg⟩
  have hi := h.2.1
  have hi' := hr.2.1
  have hdl : (l.drop i).length = l.length - i := List.length_drop
  by_cases hc : f = 0 ∧ i + k ≤ l.length
  · have e1 : getV (l.drop i) f k = val ((l.drop i).take k) := by unfold getV; rw [if_pos ⟨hc.1, by omega, by omega, by omega⟩, Int.toNat_natCast]
    have e2 : getL (l.drop i) f k = l.drop (i + k) := by unfold getL; rw [if_pos ⟨hc.1, by omega, by omega, by omega⟩, Int.toNat_natCast, List.drop_drop]
    have e3 : getF (l.drop i) f k = 0 := by unfold getF; rw [if_pos hc.1, if_neg (by omega), if_neg (by omega)]
    rw [e2] at hd
    have e4 := congrArg List.length hd
    rw [List.length_drop, List.length_drop] at e4
    rw [e3] at hr
    refine ⟨hg, _, i', 0, rfl, getV_lt _ _ _, hr, ⟨fun _ => ⟨by omega, rfl⟩, fun h2 => absurd hc h2⟩, fun _ => e1⟩
  · refine ⟨hg, _, i', _, rfl, getV_lt _ _ _, hr, ⟨fun h2 => absurd h2 hc, fun _ => ?_⟩, fun h2 => absurd h2 hc⟩
    unfold getF
    by_cases hf : f = 0
    · rw [if_pos hf, if_neg (by omega), if_pos (by omega)]
      decide
    · rw [if_neg hf]
      exact hf
theorem info_sum : (Try.prog.info? 38).map (fun i => (i.zero, i.size)) = some (some (.agg (bv (List.replicate 32 0)).toArray), 32) := by kernel_rfl
/-- A Sum of which the first bytes are laid. -/
def sumJ (s : List UInt8) : Array Value := (bv (s ++ List.replicate (32 - s.length) 0)).toArray
theorem sumJ_size {s : List UInt8} (h : s.length ≤ 32) : (sumJ s).size = 32 := by simp [sumJ, bv_length]; omega
theorem sumJ_full {s : List UInt8} (h : s.length = 32) : sumJ s = (bv s).toArray := by simp [sumJ, h]
theorem sumJ_one (s : List UInt8) : (sumJ s).all (·.oneCell') = true := by
  rw [sumJ, List.all_toArray, List.all_eq_true]
  intro v hv
  exact bv_oneCell _ v hv
theorem sumJ_set {s : List UInt8} (h : s.length < 32) (x : UInt8) : (sumJ s).setIfInBounds s.length (.int .u8 x.toNat) = sumJ (s ++ [x]) := by
  unfold sumJ
  rw [List.setIfInBounds_toArray, bv_append, bv_append, List.set_append_right _ _ (by rw [bv_length]; exact Nat.le_refl _), bv_length, Nat.sub_self, show 32 - s.length = (32 - (s ++ [x]).length) + 1 by simp; omega, List.replicate_succ]
  simp [bv]
theorem zero_sum : ∃ Z0 : Array Value, (Try.prog.info? 38).map (fun i => (i.zero, i.size)) = some (some (.agg Z0), 32) ∧ Z0 = sumJ [] :=
  ⟨_, info_sum, rfl⟩
theorem gby_setCell {w0 w : World} {r : Option Nat} {g i : Nat} {v : Value} (h : w0.grownBy w r) (hg : w0.heap.size ≤ g) : w0.grownBy (w.setCell ⟨g, i, none⟩ v) r :=
  ⟨h.os, h.tape, h.output, by rw [setCell_size]; exact h.size, fun k hk hn => (setCell_block (by omega)).trans (h.block k hk hn)⟩
theorem gby_setRow {w0 w : World} {r : Option Nat} {g : Nat} {X : Array Value} (h : w0.grownBy w r) (hg : w0.heap.size ≤ g) : w0.grownBy (w.setRow g X) r :=
  ⟨h.os, h.tape, h.output, by simp [World.setRow]; exact h.size, fun k hk hn => (setRow_other _ _ _ _ (by omega)).trans (h.block k hk hn)⟩
theorem gby_trans {w w1 w2 : World} {g : Nat} (h : w.grownBy w1 (some g)) (h2 : w1.grownBy w2 (some g)) : w.grownBy w2 (some g) :=
  ⟨h2.os.trans h.os, h2.tape.trans h.tape, h2.output.trans h.output, Nat.le_trans h.size h2.size, fun k hk hn => (h2.block k (Nat.lt_of_lt_of_le hk h.size) hn).trans (h.block k hk hn)⟩
theorem Ref.gby {w w' : World} {g c i : Nat} {A : Option Addr} {l : List UInt8} {f : Int} (h : Ref w g A c l i f) {r : Option Nat} (hb : w.grownBy w' r) (hne : ∀ k, r = some k → g < k) : Ref w' g A c l i f :=
  ⟨h.1.same (hb.block g h.1.lt fun e => by have := hne _ e.symm; omega), h.2.1, h.2.2.1, h.2.2.2.1, h.2.2.2.2.keep fun p hp => World.cell?_of_block (hb.block p.block (Nat.lt_trans hp h.1.lt) fun e => by have := hne _ e.symm; omega)⟩
set_option maxRecDepth 100000 in
set_option maxHeartbeats 2000000 in
theorem rsum_any (g c i : Nat) (A : Option Addr) (l : List UInt8) (f : Int) (w : World) (h : Ref w g A c l i f) :
    Calls Try.prog 33 #[.pointer (some ⟨g, 0, none⟩)] w fun e w' => w.grownBy w' (some g) ∧ ∃ (s : List UInt8) (i' : Nat) (f' : Int), e = .returned (.agg (bv s).toArray) ∧ s.length = 32 ∧ Ref w' g A c l i' f' ∧ Moved l i f 32 i' f' ∧ ((f = 0 ∧ i + 32 ≤ l.length) → s = (l.drop i).take 32) := by
  obtain ⟨Z0, hi0, hZ0⟩ := zero_sum
  obtain ⟨hzs, hszs⟩ := zero_of_info hi0
  have HZ0 := Lib.hid hZ0
  have HSS := Lib.hid hszs
  clear hi0 hszs hZ0
  obtain ⟨B, hB⟩ : ∃ B, w.heap.size = B := ⟨_, rfl⟩
  obtain ⟨w1, hw1⟩ : ∃ w1, w.alloc (.cells Z0 38) = w1 := ⟨_, rfl⟩
  obtain ⟨w2, hw2⟩ : ∃ w2, w1.alloc (.cells Z0 38) = w2 := ⟨_, rfl⟩
  have hz1 : w1.heap.size = B + 1 := by rw [← hw1, ← hB]; exact Array.size_push ..
  have hz2 : w2.heap.size = B + 2 := by
    have : w2.heap.size = w1.heap.size + 1 := by rw [← hw2]; exact Array.size_push ..
    omega
  have hb1 : Below w.heap.size w w1 := hw1 ▸ (Below.refl _ _).alloc (Nat.le_refl _) _
  have hb2 : Below w1.heap.size w1 w2 := hw2 ▸ (Below.refl _ _).alloc (Nat.le_refl _) _
  have hb12 : Below w.heap.size w w2 := hb1.trans (hb2.mono hb1.size)
  have hgb : w.grownBy w2 (some g) := ⟨hb12.os, hb12.tape, hb12.output, hb12.size, fun k hk _ => hb12.block k hk⟩
  have hB1 : Blk w2 B 38 Z0 := (show Blk w1 B 38 Z0 by rw [← hw1, ← hB]; exact Blk.new w _ _).below hb2 (by omega)
  have hB2 : Blk w2 (B + 1) 38 Z0 := by rw [← hw2, ← hz1]; exact Blk.new w1 _ _
  have hrf := h.below hb12
  have hgB : g < B := by rw [← hB]; exact h.1.lt
  have HK := Lib.hid (And.intro hw1 (And.intro hw2 (And.intro hB (And.intro hz1 hz2))))
  have HH := Lib.hid (And.intro hgb (And.intro hB1 (And.intro hB2 hrf)))
  have HI := Lib.hid h.2.1
  have HGB := Lib.hid hgB
  clear hw1 hw2 hB hz1 hz2 hb1 hb2 hb12 hgb hB1 hB2 hrf h
  go_enter Try.func33, Try.ntmps33
  go_upto_region 1 with fail
  rw [HK.out.1, HK.out.2.2.1]
  go_upto_region 2 with fail
  rw [HK.out.2.1, HK.out.2.2.2.1]
  clear hzs
  go_wp2_with fail
  go_loopw [4] (fun q wr => ∃ (j : Nat) (s : List UInt8) (i' : Nat) (f' : Int), j ≤ 32 ∧ q = .int .i64 j ∧ Hid (s.length = j) ∧ Hid (Ref wr g A c l i' f') ∧ Hid (Blk wr (B + 1) 38 (sumJ s)) ∧ Hid (Blk wr B 38 Z0) ∧ Hid (w.grownBy wr (some g)) ∧ Hid (Moved l i f j i' f' ∧ ((f = 0 ∧ i + j ≤ l.length) → s = (l.drop i).take j))) (fun q _ => 32 - (intOf q).toNat)
  case atStart => exact ⟨0, [], i, f, Nat.zero_le _, rfl, Lib.hid rfl, Lib.hid HH.out.2.2.2, Lib.hid (by rw [← HZ0.out]; exact HH.out.2.2.1), Lib.hid HH.out.2.1, Lib.hid HH.out.1, Lib.hid ⟨Moved.refl HI.out, fun _ => rfl⟩⟩
  case round =>
    clear HH HI
    obtain ⟨j, s, i', f', hj, rfl, HS, HR, HD, HBB, HG, HM⟩ := hrel
    by_cases hlt : j < 32
    · go_wp2_with fail
      refine (rget_two HR.out 1 (by omega)).mono ?_
      rintro e w5 ⟨hg5, V, i2, f2, rfl, hV, hr5, hm5, hv5⟩
      have hV2 : V < 256 := hV
      obtain ⟨x, hx⟩ : ∃ x : UInt8, V = x.toNat := ⟨UInt8.ofNat V, by rw [UInt8.toNat_ofNat']; omega⟩
      subst hx
      have cv : IntKind.u8.wrap (x.toNat : Int) = (x.toNat : Int) := by have := x.toNat_lt; rw [IntKind.wrap_u8']; omega
      have hgB : g < B := HGB.out
      have hD5 : Blk w5 (B + 1) 38 (sumJ s) := HD.out.same (hg5.block _ HD.out.lt (by simp; omega))
      have hB5 : Blk w5 B 38 Z0 := HBB.out.same (hg5.block _ HBB.out.lt (by simp; omega))
      have hwB : w.heap.size ≤ B + 1 := by have := HK.out.2.2.1; omega
      have hne : B ≠ B + 1 := by omega
      have HD6 := Lib.hid (show Blk (w5.setCell ⟨B + 1, j, none⟩ (.int .u8 x.toNat)) (B + 1) 38 (sumJ (s ++ [x])) by
        have := hD5.set_ j (.int .u8 x.toNat)
        rwa [← HS.out, sumJ_set (by rw [HS.out]; exact hlt), HS.out] at this)
      have HB6 := Lib.hid (show Blk (w5.setCell ⟨B + 1, j, none⟩ (.int .u8 x.toNat)) B 38 Z0 from hB5.same (setCell_block hne))
      have HG6 := Lib.hid (gby_setCell (g := B + 1) (i := j) (v := .int .u8 x.toNat) (gby_trans HG.out hg5) hwB)
      have HR6 := Lib.hid (hr5.gby (setCell_grown (g := B + 1) (i := j) (v := .int .u8 x.toNat) (World.grownBy.refl _ _)) fun k hk => by injection hk with hk; omega)
      have HM6 := Lib.hid (show Moved l i f (j + 1) i2 f2 ∧ ((f = 0 ∧ i + (j + 1) ≤ l.length) → s ++ [x] = (l.drop i).take (j + 1)) by
        refine ⟨HM.out.1.trans hm5, fun hc => ?_⟩
        obtain ⟨e1, e2⟩ := HM.out.1.1 ⟨hc.1, by omega⟩
        have e3 := hv5 ⟨e2, by omega⟩
        have hlen : j < (l.drop i).length := by rw [List.length_drop]; omega
        rw [e1, ← List.drop_drop] at e3
        rw [List.take_succ_eq_append_getElem hlen, HM.out.2 ⟨hc.1, by omega⟩]
        congr 2
        have e4 : ((l.drop i).drop j).take 1 = [(l.drop i)[j]] := by
          rw [List.drop_eq_getElem_cons hlen]
          rfl
        rw [e4] at e3
        refine UInt8.toNat_inj.1 ?_
        rw [e3]
        simp [val])
      have HS6 := Lib.hid (show (s ++ [x]).length = j + 1 by rw [List.length_append, HS.out]; rfl)
      have cd := hD5.cell j
      have fd := hD5.frozen j
      have cd2 : ∃ u, w5.cell? ⟨B + 1, j, none⟩ = some u := by
        rw [cd]
        exact ⟨_, Array.getElem?_eq_getElem (by rw [sumJ_size (by rw [HS.out]; omega)]; exact hlt)⟩
      obtain ⟨u, hu⟩ := cd2
      have hi1 : (0 : Int) ≤ (j : Int) := by omega
      have hi2 : (j : Int) < 32 := by omega
      clear cd hg5 hV hr5 hm5 hv5 hD5 hB5 hwB HS HR HD HBB HG HM
      go_wp2_with fail
      go_roundw
      case rel => exact ⟨j + 1, s ++ [x], i2, f2, by omega, by go_num, HS6, HR6, HD6, HB6, HG6, HM6⟩
      case measure => simp [intOf]; omega
    · obtain rfl : j = 32 := by omega
      obtain ⟨R, hR⟩ : ∃ R, sumJ s = R := ⟨_, rfl⟩
      rw [hR] at HD
      have RS := Lib.hid (show R.size = 32 by rw [← hR, sumJ_size (by rw [HS.out]; omega)])
      have RO := Lib.hid (show R.all (·.oneCell') = true by rw [← hR]; exact sumJ_one _)
      have S1 := Lib.hid (show (Try.prog.info? 38).map (·.size) = some R.size by rw [RS.out]; exact HSS.out)
      have hZ32 : Z0.size = 32 := by rw [HZ0.out, sumJ_size (by simp)]
      have HZ32 := Lib.hid hZ32
      have HRR := Lib.hid hR
      have HWB := Lib.hid (show w.heap.size ≤ B by have := HK.out.2.2.1; omega)
      clear hR hZ32
      go_wp2_with (first
        | (refine wpList_load_row rfl 38 (.tmp 3) rfl (B + 1) rfl 38 R (0, 0) _ HD.out Try.underlying38 rfl S1.out ?_)
        | (refine wpList_store_row rfl 38 (.tmp 2) (.tmp 14) rfl B R rfl rfl 38 Z0 HBB.out S1.out (by rw [HZ32.out, RS.out]) RO.out ?_))
      refine bodyPost_ret (v := .agg R) ?_ rfl ⟨gby_setRow HG.out HWB.out, s, i', f', by rw [← HRR.out, sumJ_full HS.out], HS.out, ?_, HM.out.1, HM.out.2⟩
      · exact results_cell_row rfl _ _ B 38 R (0, 0) _ rfl (setRow_heap _ _ _ _ _ _ HBB.out) Try.underlying38 rfl S1.out
      · exact HR.out.gby (r := some B) ⟨rfl, rfl, rfl, by simp, fun k hk hn => setRow_other _ _ _ _ fun e => hn (by rw [e])⟩ fun k hk => by injection hk with hk; have := HGB.out; omega
end Go.Proofs.Ytoiiiccichkgpaa
