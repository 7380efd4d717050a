/- The walk of DiskTorn, told from what the package's disks do. No statement of the seat is proved here. -/
import Derived.Test.YtdnconakpajdgaaDskGrow
import Derived.Test.YtdnconakpajdgaaQuiet
import Derived.Deep.WholeRow
import Derived.Deep.CutBlock
import Derived.Deep.DeepCutAuto
namespace Go.Proofs.Ytdnconakpajdgaa
open Go.RowKit
set_option linter.unusedVariables false

/-- The bytes of a block, from a place on. -/
theorem blk_rd_from {w : World} {g : Nat} {t : TypeId} {l : List UInt8} (h : Blk w g t (bv l).toArray) (k : Nat) : Rd w w.heap.size (some ⟨g, k, none⟩) (l.drop k) := fun hn => by
  refine ⟨g, k, rfl, h.lt, fun j hj => ?_⟩
  rw [List.length_drop] at hj
  rw [h.cell, List.getElem_drop]
  have := bv_get (l := l) (j := k + j) (by omega)
  simpa using this
section
variable (a b : List UInt8)
def to1 : DS := writeS (newS 3) 1 a
def to2 : DS := flushS (to1 a)
def to3 : DS := writeS (to2 a) 1 b
variable {a b}
theorem to1_is (ha : a.length = 128) : to1 a = ⟨3, fun _ => padS [], [(1, padS a)], false, -1, 1⟩ := by
  simp [to1, writeS, badW, newS, tickS, doneS, ha]
theorem to1_e (ha : a.length = 128) : writeE (newS 3) 1 128 = 0 := by decide
theorem to2_is (ha : a.length = 128) : to2 a = ⟨3, updS (fun _ => padS []) 1 (padS a), [], false, -1, 2⟩ := by
  simp [to2, to1_is ha, flushS, tickS, doneS, flushL]
theorem to2_e (ha : a.length = 128) : flushE (to1 a) = 0 := by
  simp [to1_is ha, flushE, tickS]
theorem to3_is (ha : a.length = 128) (hb : b.length = 128) : to3 a b = ⟨3, updS (fun _ => padS []) 1 (padS a), [(1, padS b)], false, -1, 3⟩ := by
  simp [to3, to2_is ha, writeS, badW, tickS, doneS, hb]
theorem to3_e (ha : a.length = 128) : writeE (to2 a) 1 128 = 0 := by
  simp [to2_is ha, writeE, badW, tickS]
theorem to4_r (ha : a.length = 128) (hb : b.length = 128) (x : Int) : readE (crashS (to3 a b) [x]) 1 = 0 ∧ readS (crashS (to3 a b) [x]) 1 = b.take (fateI x) ++ a.drop (fateI x) := by
  have h1 : readE (crashS (to3 a b) [x]) 1 = 0 := by simp [to3_is ha hb, crashS, readE]
  refine ⟨h1, ?_⟩
  unfold readS
  rw [if_pos h1]
  simp [to3_is ha hb, crashS, nowS, flushL, crashL, updS, fateL, padS_full ha, padS_full hb]
theorem to_few (ha : a.length = 128) (hb : b.length = 128) (x : Int) : Few (newS 3) ∧ Few (to1 a) ∧ Few (to2 a) ∧ Few (to3 a b) ∧ Few (crashS (to3 a b) [x]) := by
  rw [to1_is ha, to2_is ha, to3_is ha hb]
  simp [Few, newS, crashS]
end
theorem one_rd (w : World) (x : Int) : RdV (w.alloc (.cells #[.int .i64 x] 3)) (w.alloc (.cells #[.int .i64 x] 3)).heap.size (some ⟨w.heap.size, 0, none⟩) (iv [x]) := by
  have hb := Blk.new w 3 #[.int .i64 x]
  exact fun _ => ⟨w.heap.size, 0, rfl, hb.lt, fun j hj => by
    rw [Nat.zero_add, hb.cell]
    have hj3 : j < 1 := hj
    match j, hj3 with
    | 0, _ => rfl⟩
section
variable {St : World → Addr → (Nat → Prop) → DS → Prop}
set_option maxRecDepth 100000 in
set_option maxHeartbeats 2000000 in
theorem torn_walk (K : DisksOk St) (a b : List UInt8) (ha : a.length = 128) (hb : b.length = 128) (x : Int) (hx : In64 x) (w : World) :
    Calls Try.prog 6 #[.agg (bv a).toArray, .agg (bv b).toArray, .int .i64 x] w fun e w' => e = .returned (.bool true) ∧ Below w.heap.size w w' := by
  obtain ⟨w2, hw2⟩ : ∃ w2, (w.alloc (.cells (bv a).toArray 48)).alloc (.cells (bv b).toArray 48) = w2 := ⟨_, rfl⟩
  obtain ⟨pa, hpa⟩ : ∃ pa, w.heap.size = pa := ⟨_, rfl⟩
  obtain ⟨pb, hpb⟩ : ∃ pb, pa + 1 = pb := ⟨_, rfl⟩
  have hb1 : Below w.heap.size w (w.alloc (.cells (bv a).toArray 48)) := (Below.refl _ _).alloc (Nat.le_refl _) _
  have hb2 : Below (w.alloc (.cells (bv a).toArray 48)).heap.size (w.alloc (.cells (bv a).toArray 48)) w2 := hw2 ▸ (Below.refl _ _).alloc (Nat.le_refl _) _
  have hka0 := Blk.new w 48 (bv a).toArray
  have hka : Blk w2 pa 48 (bv a).toArray := by rw [← hpa]; exact hka0.below hb2 hka0.lt
  have hkb : Blk w2 pb 48 (bv b).toArray := by
    rw [← hw2, ← hpb, ← hpa]
    exact blk_at _ _ _ (by simp)
  have HB := Lib.hid (hb1.trans (hb2.mono hb1.size))
  have HA := Lib.hid hka
  have HBB := Lib.hid hkb
  have HW2 := Lib.hid hw2
  have HPA := Lib.hid hpa
  have HPB := Lib.hid hpb
  have HL := Lib.hid (And.intro ha hb)
  have HFW := Lib.hid (to_few ha hb x)
  have hsa : (bv a).toArray.size = 128 := by rw [List.size_toArray, bv_length]; exact ha
  have hsb : (bv b).toArray.size = 128 := by rw [List.size_toArray, bv_length]; exact hb
  have HS := Lib.hid (show (Try.prog.info? 48).map (·.size) = some (bv a).toArray.size by rw [hsa]; kernel_rfl)
  have hra : Rd w2 w2.heap.size (some ⟨pa, 0, none⟩) a := by have := blk_rd_from hka 0; simpa using this
  have hrb : Rd w2 w2.heap.size (some ⟨pb, 0, none⟩) b := by have := blk_rd_from hkb 0; simpa using this
  have HR := Lib.hid (And.intro hra hrb)
  clear hb1 hb2 hka0 hka hkb hw2 hpa hpb hsa hsb hra hrb
  go_enter Try.func6, Try.ntmps6
  go_upto_region 1 with fail
  rw [HW2.out, HPA.out, HPB.out]
  go_wp2_with fail
  refine (shown_any K _).mono ?_
  rintro e w3 ⟨rfl, hb3⟩
  have KN := Lib.hid (Turned.new (w0 := w2) K 3 (by omega) hb3)
  clear hb3
  go_wp2_with fail
  refine KN.out.mono ?_
  rintro e w4 ⟨s, rfl, h4⟩
  have KW := Lib.hid (Turned.write K h4 HFW.out.1 1 (in64_lit (by omega) (by omega)) (some ⟨pa, 0, none⟩) 128 128 a ha (Nat.le_refl _) (by simp [maxLen]) HR.out.1 (out_none _ _))
  rw [to1_e ha] at KW
  clear KN h4
  go_wp2_with fail
  refine KW.out.mono ?_
  rintro e w5 ⟨rfl, h5⟩
  have h5 : Dsk St w2 w5 s (to1 a) := h5
  have KL := Lib.hid (Turned.flush K h5 HFW.out.2.1)
  rw [to2_e ha] at KL
  clear KW h5
  go_wp2_with fail
  refine KL.out.mono ?_
  rintro e w6 ⟨rfl, h6⟩
  have h6 : Dsk St w2 w6 s (to2 a) := h6
  have KW := Lib.hid (Turned.write K h6 HFW.out.2.2.1 1 (in64_lit (by omega) (by omega)) (some ⟨pb, 0, none⟩) 128 128 b hb (Nat.le_refl _) (by simp [maxLen]) HR.out.2 (out_none _ _))
  rw [to3_e ha] at KW
  clear KL h6
  go_wp2_with fail
  refine KW.out.mono ?_
  rintro e w7 ⟨rfl, h7⟩
  have h7 : Dsk St w2 w7 s (to3 a b) := h7
  have KC := Lib.hid (Turned.crash2 K h7 HFW.out.2.2.2.1 (W := w7.alloc (.cells #[.int .i64 x] 3)) ((Below.refl _ _).alloc (Nat.le_refl _) _) (some ⟨w7.heap.size, 0, none⟩) 1 1 [x] rfl (Nat.le_refl _) (by simp [maxLen]) (one_rd w7 x) (fun y hy => by rw [List.mem_singleton.1 hy]; exact hx) (fun ad e => by injection e with e; rw [← e]; exact Nat.le_refl _))
  clear KW h7
  go_wp2_with fail
  refine KC.out.mono ?_
  rintro e w8 ⟨rfl, h8⟩
  have KR := Lib.hid (Turned.read K h8 HFW.out.2.2.2.2 1 (in64_lit (by omega) (by omega)))
  obtain ⟨r0, r1⟩ := to4_r ha hb x
  obtain ⟨y, hy⟩ : ∃ y, fateI x = y := ⟨_, rfl⟩
  rw [hy] at r1
  have hyl : y ≤ 128 := hy ▸ fateI_le x
  have hlen : (b.take y ++ a.drop y).length = 128 := torn_len hb ha
  rw [r0, r1, hlen] at KR
  have HY := Lib.hid hy
  clear KC h8 r0 r1 hy
  go_wp2_with fail
  refine KR.out.mono ?_
  rintro e w9 ⟨A9, c9, rfl, ho9, hb9, h9, _⟩
  have hbw := h9.bel
  have hv9 : ∀ q, (convert 32 9 (.slice A9 128 c9)).run Try.prog (w9.drewN q) = .ok (.string ⟨(b.take y ++ a.drop y).toArray⟩) (w9.drewN q) := fun q => conv_own hlen (Rd.of_own (l := b.take y ++ a.drop y) ho9)
  have hka := HA.out.below hbw HA.out.lt
  have hkb := HBB.out.below hbw HBB.out.lt
  have hva : ∀ q cp, (convert 32 9 (.slice (some ⟨pa, y, none⟩) (128 - y) cp)).run Try.prog (w9.drewN q) = .ok (.string ⟨(a.drop y).toArray⟩) (w9.drewN q) := fun q cp => conv_own (by rw [List.length_drop, ha]) (blk_rd_from (w := w9.drewN q) hka y)
  have hvb : ∀ q cp, (convert 32 9 (.slice (some ⟨pb, 0, none⟩) y cp)).run Try.prog (w9.drewN q) = .ok (.string ⟨(b.take y).toArray⟩) (w9.drewN q) := fun q cp => conv_own (by rw [List.length_take, hb]; omega) (Rd.take (by have := blk_rd_from (w := w9.drewN q) hkb 0; simpa using this) y)
  have hsum : (⟨(b.take y).toArray⟩ : ByteArray) ++ (⟨(a.drop y).toArray⟩ : ByteArray) = ⟨(b.take y ++ a.drop y).toArray⟩ := by simp [ByteArray.mk_append_mk]
  have hsz : ¬ 9223372036854775807 < (⟨(b.take y).toArray⟩ : ByteArray).size + (⟨(a.drop y).toArray⟩ : ByteArray).size := by
    show ¬ 9223372036854775807 < (b.take y).toArray.size + (a.drop y).toArray.size
    simp; omega
  have HE := Lib.hid (HB.out.trans (hbw.mono HB.out.size))
  clear ho9 hb9 h9 hbw hka hkb hlen KR
  by_cases hx0 : x ≤ 0
  · obtain rfl : y = 0 := by have := HY.out; unfold fateI at this; omega
    have h1 : ¬ (128 : Int) < x := by omega
    have h2 : ¬ (0 : Int) < x := by omega
    have hva1 : ∀ q cp, (convert 32 9 (.slice (some ⟨pa, 0, none⟩) 128 cp)).run Try.prog (w9.drewN q) = .ok (.string ⟨(a.drop 0).toArray⟩) (w9.drewN q) := hva
    generalize (⟨(b.take 0).toArray⟩ : ByteArray) = s1 at *
    generalize (⟨(a.drop 0).toArray⟩ : ByteArray) = s2 at *
    rw [← hsum] at hv9
    clear hsum ha hb hva
    go_wp2_with fail
    go_quiet (fail)
    go_wp2_with fail
    go_ret
    exact ⟨rfl, below_drewN HE.out _⟩
  · by_cases hx1 : 128 < x
    · have h2 : (0 : Int) < x := by omega
      obtain rfl : y = 128 := by have := HY.out; unfold fateI at this; omega
      have hva1 : ∀ q A c, (convert 32 9 (.slice A 0 c)).run Try.prog (w9.drewN q) = .ok (.string ⟨(a.drop 128).toArray⟩) (w9.drewN q) := fun q A c => by rw [List.drop_eq_nil_of_le (by omega)]; exact conv_own rfl (Rd.nil _ 0 _)
      generalize (⟨(b.take 128).toArray⟩ : ByteArray) = s1 at *
      generalize (⟨(a.drop 128).toArray⟩ : ByteArray) = s2 at *
      rw [← hsum] at hv9
      clear hsum ha hb hva
      go_wp2_with fail
      go_quiet (fail)
      go_wp2_with fail
      go_ret
      exact ⟨rfl, below_drewN HE.out _⟩
    · by_cases hx2 : x = 128
      · subst hx2
        obtain rfl : y = 128 := by have := HY.out; unfold fateI at this; omega
        have hva1 : ∀ q A c, (convert 32 9 (.slice A 0 c)).run Try.prog (w9.drewN q) = .ok (.string ⟨(a.drop 128).toArray⟩) (w9.drewN q) := fun q A c => by rw [List.drop_eq_nil_of_le (by omega)]; exact conv_own rfl (Rd.nil _ 0 _)
        generalize (⟨(b.take 128).toArray⟩ : ByteArray) = s1 at *
        generalize (⟨(a.drop 128).toArray⟩ : ByteArray) = s2 at *
        rw [← hsum] at hv9
        clear hsum ha hb hva
        go_wp2_with fail
        go_quiet (fail)
        go_wp2_with fail
        go_ret
        exact ⟨rfl, below_drewN HE.out _⟩
      · obtain rfl : x = (y : Int) := by have := HY.out; unfold fateI at this; omega
        have h1 : ¬ (128 : Int) < (y : Int) := by omega
        have h2 : (0 : Int) < (y : Int) := by omega
        have h3 : y < 128 := by omega
        have h4 : 0 < y := by omega
        generalize (⟨(b.take y).toArray⟩ : ByteArray) = s1 at *
        generalize (⟨(a.drop y).toArray⟩ : ByteArray) = s2 at *
        rw [← hsum] at hv9
        clear hsum ha hb hx0 hx1 hx2
        go_wp2_with fail
        go_quiet (fail)
        go_wp2_with fail
        go_ret
        exact ⟨rfl, below_drewN HE.out _⟩
end
end Go.Proofs.Ytdnconakpajdgaa
