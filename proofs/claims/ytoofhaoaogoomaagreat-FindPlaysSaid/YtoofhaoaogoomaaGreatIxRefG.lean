/- The reference's index (cellarageref13): Get. No statement of the seat is proved here. -/
import Derived.Test.YtoofhaoaogoomaaGreatIxRef
import Derived.Test.YtoofhaoaogoomaaGreatZLAO
namespace Go.Proofs.YtoofhaoaogoomaaGreat
open Go.RowKit
set_option linter.unusedVariables false
set_option linter.unusedSimpArgs false

set_option maxRecDepth 100000 in
set_option maxHeartbeats 8000000 in
theorem rget_any (w : World) (d : Nat) (A : Option Addr) (c : Nat) (L : List RowT) (h : RIx w d A c L) (hl : L.length ≤ 10000) (k : KeyT) (hk : KeyT.Ok k) :
    Calls Tryz.prog 47 #[.pointer (some ⟨d, 0, none⟩), kv k] w fun e w' => e = .returned (.tuple #[pv (getX L k), .bool (hasX L k)]) ∧ Below w.heap.size w w' := by
  obtain ⟨X, hX⟩ : ∃ X, kcs k = X := ⟨_, rfl⟩
  have hXl : X.length = 33 := by rw [← hX]; exact kcs_length hk
  obtain ⟨w1, hw1⟩ : ∃ w1, w.alloc (.cells X.toArray 29) = w1 := ⟨_, rfl⟩
  obtain ⟨kb, hkb⟩ : ∃ kb, w.heap.size = kb := ⟨_, rfl⟩
  have hb1 : Below w.heap.size w w1 := hw1 ▸ (Below.refl _ _).alloc (Nat.le_refl _) _
  have hk1 : Blk w1 kb 29 X.toArray := by rw [← hw1, ← hkb]; exact Blk.new w _ _
  obtain ⟨w2, hw2⟩ : ∃ w2, w1.alloc (.cells #[.int .i64 0, .int .i64 0] 40) = w2 := ⟨_, rfl⟩
  obtain ⟨pb, hpb⟩ : ∃ pb, w1.heap.size = pb := ⟨_, rfl⟩
  have hb2 : Below w1.heap.size w1 w2 := hw2 ▸ (Below.refl _ _).alloc (Nat.le_refl _) _
  have hk2 : Blk w2 pb 40 #[.int .i64 0, .int .i64 0] := by rw [← hw2, ← hpb]; exact Blk.new w1 _ _
  have hb12 := hb1.trans (hb2.mono hb1.size)
  have h2 := h.on hb12
  have KA := rat_any w2 d A c L h2 hl k hk
  obtain ⟨q, hq⟩ : ∃ q, (under L k).length = q := ⟨_, rfl⟩
  have HG := Lib.hid (show hasX L k = true → ∃ hqx : q < L.length, L[q].2 = getX L k from fun e => by
    obtain ⟨M, hM, hn, hh⟩ := at_split h.ok hk
    obtain ⟨s1, s2⟩ := at_stop hM hn hh
    have hul := under_length L k
    rw [hq] at s1 s2 hul
    by_cases hqx : q < L.length
    · refine ⟨hqx, ?_⟩
      have h1 := (s2 hqx).2
      rw [e] at h1
      have h2 := of_decide_eq_true h1.symm
      have h3 := get_mem h.ok.rise (List.getElem_mem hqx)
      rw [h2] at h3
      exact h3.symm
    · have := s1 (by omega)
      rw [this] at e; cases e)
  have HZ := Lib.hid (show hasX L k = false → getX L k = (0, 0) from fun e => by
    unfold getX
    rw [List.find?_eq_none.2 fun x hx hd => ?_]
    unfold hasX at e
    rw [List.any_eq_false] at e
    exact e x hx hd)
  obtain ⟨hs, hhs⟩ : ∃ b, hasX L k = b := ⟨_, rfl⟩
  obtain ⟨p1, hp1⟩ : ∃ p1, (getX L k).1 = p1 := ⟨_, rfl⟩
  obtain ⟨p2, hp2⟩ : ∃ p2, (getX L k).2 = p2 := ⟨_, rfl⟩
  have epv : pv (getX L k) = .agg #[.int .i64 p1, .int .i64 p2] := by rw [← hp1, ← hp2]
  have hgp : getX L k = (p1, p2) := by rw [← hp1, ← hp2]
  unfold kv at KA ⊢
  rw [hX, hq, hhs] at KA
  rw [hhs] at HG HZ
  rw [hgp] at HG HZ
  rw [hX, hhs, epv]
  have HX := Lib.hid (range_of_blk (hk1.below hb2 hk1.lt))
  have HXS := Lib.hid (show (Tryz.prog.info? 29).map (·.size) = some X.length from by rw [hXl]; exact key_size)
  have HP2S := Lib.hid (show (Tryz.prog.info? 40).map (·.size) = some ([.int .i64 p1, .int .i64 p2] : List Value).length from place_size)
  have HP2A := Lib.hid (show (Tryz.prog.info? 40).map (·.size) = some (#[.int .i64 p1, .int .i64 p2] : Array Value).size from place_size)
  have HB := Lib.hid hb12
  have HR := Lib.hid h2
  have HW := Lib.hid (And.intro (And.intro hw1 hkb) (And.intro hw2 (show kb + 1 = pb by rw [← hkb, ← hpb, ← hw1]; simp)))
  have HPB := Lib.hid (And.intro hk2 (show w.heap.size ≤ pb from by rw [← hpb]; exact hb1.size))
  replace KA := Lib.hid KA
  have hcm := h.most
  have hcn := h.cap
  unfold maxLen at hcm
  obtain ⟨n, hN⟩ : ∃ n, L.length = n := ⟨_, rfl⟩
  have HN := Lib.hid hN
  rw [hN] at hcn
  have HC := Lib.hid (show ∀ W, Below w2.heap.size w2 W → W.cell? ⟨d, 0, none⟩ = some (.slice A n c) from fun W hW => by rw [← hN]; exact (h2.blk.below hW h2.blk.lt).cell 0)
  obtain ⟨fs, hfs⟩ := key_desc
  obtain ⟨fp, hfp⟩ := place_desc
  have HF := Lib.hid (And.intro hfs hfp)
  clear h h2 hq hN hhs hX hXl hw1 hkb hb1 hk1 hw2 hpb hb2 hk2 hb12 hfs hfp hk epv hgp hp1 hp2
  go_enter Tryz.func47, Tryz.ntmps47
  go_upto_region 1 with fail
  rw [HW.out.1.1, HW.out.1.2, HW.out.2.1, HW.out.2.2]
  go_wp2_with (refine wpList_load_mid rfl 29 (.tmp 3) rfl kb 0 rfl X (.struct fs) HX.out HF.out.1 rfl HXS.out ?_)
  refine KA.out.mono ?_
  rintro e w3 ⟨rfl, hb3⟩
  have hpk := HPB.out.1.below hb3 HPB.out.1.lt
  have HPK := Lib.hid hpk
  have hcc := HC.out w3 hb3
  have HRW := Lib.hid (HR.out.rows.below hb3)
  have HB3 := Lib.hid (HB.out.trans (hb3.mono HB.out.size))
  clear KA hb3 hpk
  have k0 := HPK.out.cell 0
  have k1 := HPK.out.cell 1
  have f0 := HPK.out.frozen 0
  have f1 := HPK.out.frozen 1
  have HFIN := Lib.hid (show ∀ v0 v1 : Value, Blk ((w3.setCell ⟨pb, 0, none⟩ v0).setCell ⟨pb, 1, none⟩ v1) pb 40 #[v0, v1] ∧ Below w.heap.size w ((w3.setCell ⟨pb, 0, none⟩ v0).setCell ⟨pb, 1, none⟩ v1) from fun v0 v1 => by
    refine ⟨?_, ?_⟩
    · have := (HPK.out.set_ 0 v0).set_ 1 v1
      simpa using this
    · have h1 : Below w.heap.size w (w3.setCell ⟨pb, 0, none⟩ v0) := HB3.out.grown (grown_cell w3 pb 0 v0) HB3.out.size fun r hr => by injection hr with hr; have := HPB.out.2; omega
      exact h1.grown (grown_cell _ pb 1 v1) h1.size fun r hr => by injection hr with hr; have := HPB.out.2; omega)
  cases hs with
  | false =>
    have hz := HZ.out (by trivial)
    injection hz with z1 z2
    subst z1 z2
    go_wp2_with fail
    (try simp only [Exit.inBlock, Exit.then])
    refine bodyPost_ret (v := .tuple #[.agg #[.int .i64 0, .int .i64 0], .bool false]) ?_ rfl ⟨rfl, (HFIN.out _ _).2⟩
    exact res_row_tmpB rfl _ _ pb 40 _ (0, 0) _ rfl (HFIN.out _ _).1 HF.out.2 rfl HP2A.out _ rfl
  | true =>
    obtain ⟨hqx, hgq⟩ := HG.out (by trivial)
    obtain ⟨g, off, hA, hg, hra, hok⟩ := HRW.out.at_ hqx
    have hrp := range_place hok hra
    rw [hgq] at hrp
    have HRP := Lib.hid hrp
    subst hA
    have hqn : q < n := by rw [← HN.out]; exact hqx
    have hi1 : (0 : Int) ≤ (q : Int) := by omega
    have hi2 : (q : Int) < (n : Int) := by omega
    clear hra hok hrp hg hqx hgq
    go_wp2_with (refine wpList_load_mid rfl 40 (.tmp 23) rfl g (off + q * 35 + 33) rfl [.int .i64 p1, .int .i64 p2] (.struct fp) HRP.out HF.out.2 rfl HP2S.out ?_)
    (try simp only [Exit.inBlock, Exit.then])
    refine bodyPost_ret (v := .tuple #[.agg #[.int .i64 p1, .int .i64 p2], .bool true]) ?_ rfl ⟨rfl, (HFIN.out _ _).2⟩
    exact res_row_tmpB rfl _ _ pb 40 _ (0, 0) _ rfl (HFIN.out _ _).1 HF.out.2 rfl HP2A.out _ rfl
end Go.Proofs.YtoofhaoaogoomaaGreat
