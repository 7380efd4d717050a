/- (UNFINISHED: not clean yet) The contract of the reference's Build for package perfect. No statement of the seat is proved here. -/
import Derived.Test.YtacijjioaanlgaaPerfRefW
namespace Go.Proofs.Ytacijjioaanlgaa
open Go.RowKit Go.Maps Go.Sort
set_option linter.unusedVariables false
set_option linter.unusedSimpArgs false

theorem info_u64 : (Try.prog.info? 22).map (fun i => (i.zero, i.size, i.bytes)) = some (some (.int .u64 0), 1, 8) := by kernel_rfl
theorem info_keys : (Try.prog.info? 31).map (fun i => (i.zero, i.size, i.bytes)) = some (some (.slice none 0 0), 1, 24) := by kernel_rfl
set_option maxRecDepth 100000 in
set_option maxHeartbeats 1000000 in
theorem rbuild_any (A : Option Addr) (ks : List KeyT) (n c G : Nat) (hl : ks.length = n) (hc : n ≤ c) (hm : c ≤ maxLen) (hn : n ≤ 16384) (hG : n / 4 + 1 = G) (hd : ks.Nodup) (w : World) (hr : RdK w w.heap.size A ks) :
    Calls Try.prog 13 #[.slice A n c] w fun e w' => ∃ (db cd : Nat) (As : Option Addr) (cs : Nat) (Aa : Option Addr) (ca B : Nat) (O : List Nat),
      e = .returned (.tuple #[.agg (rmc n G (fB n G ks O).left.length db cd As cs Aa ca), .int .i64 0]) ∧ KeysOk n G ks O ∧ RM w' n G (fB n G ks O) db cd As cs Aa ca B ∧ Below w.heap.size w w' := by
  have hi : ¬ (16384 : Int) < (n : Int) := by omega
  have hGi : (n : Int) / 4 + 1 = (G : Int) := by omega
  have hG0 : 0 < G := by omega
  have hG1 : G ≤ 16384 := by omega
  obtain ⟨i0, hi0, hz0, hz1, hz2⟩ := info_parts info_u64
  obtain ⟨i1, hi1, hy0, hy1, hy2⟩ := info_parts info_keys
  obtain ⟨i2, hi2, hx0, hx1, hx2⟩ := info_parts info_key
  have HI2 := Lib.hid (And.intro hi2 (And.intro hx0 (And.intro hx1 hx2)))
  clear hi2 hx0 hx1 hx2
  have hmk1 := fun W => run_make (P := Try.prog) W 37 22 i0 _ Try.underlying37 hi0 hz0 .i64 .i64 (G : Int) (G : Int) (by omega) (by omega) (by rw [hz2]; omega) (by omega)
  have hmk2 := fun W => run_make (P := Try.prog) W 64 31 i1 _ Try.underlying64 hi1 hy0 .i64 .i64 (G : Int) (G : Int) (by omega) (by omega) (by rw [hy2]; omega) (by omega)
  rw [hz1] at hmk1
  rw [hy1] at hmk2
  obtain ⟨wb, hwb⟩ : ∃ wb, w.alloc (.cells #[.int .i64 0, .slice none 0 0, .slice none 0 0, .slice none 0 0] 40) = wb := ⟨_, rfl⟩
  have hb0 : Below w.heap.size w wb := hwb ▸ (Below.refl w.heap.size w).alloc (Nat.le_refl _) _
  obtain ⟨rb, hrb⟩ : ∃ rb, w.heap.size = rb := ⟨_, rfl⟩
  have hbk : Blk wb rb 40 #[.int .i64 0, .slice none 0 0, .slice none 0 0, .slice none 0 0] := by rw [← hwb, ← hrb]; exact Blk.new w _ _
  have hr2 : RdK wb wb.heap.size A ks := (hr.below hb0).more hb0.size
  have K := fun W (h : Below wb.heap.size wb W) => rtwice_any A ks n c hl hc hn W ((hr2.below h).more h.size)
  rw [decide_eq_false (by simpa using hd)] at K
  have HK := Lib.hid K
  have HL := Lib.hid hl
  have HR := Lib.hid hr2
  have HD := Lib.hid hd
  have HWB := Lib.hid hwb
  have HRB := Lib.hid hrb
  have HBW := Lib.hid hb0
  have HBK0 := Lib.hid hbk
  have HB0 := Lib.hid (Below.refl wb.heap.size wb)
  clear K hl hm hd hr hr2 hi0 hz0 hz1 hz2 hi1 hy0 hy1 hy2 hwb hb0 hrb hbk
  go_enter Try.func13, Try.ntmps13
  go_wp2_with fail
  rw [HWB.out, HRB.out]
  (with_reducible refine (HK.out _ HB0.out).mono ?_)
  rintro e w1 ⟨rfl, hb1⟩
  have HB1 := Lib.hid (HB0.out.trans (hb1.mono HB0.out.size))
  clear hb1
  go_wp2_with fail
  obtain ⟨W0, hW0⟩ : ∃ W0, ((w1.alloc (.cells (madeCells #[.int .u64 0] G) 22)).alloc (.cells #[.int .i64 n, .slice (some ⟨w1.heap.size, 0, none⟩) G G, .slice none 0 0, .slice none 0 0] 40)).alloc (.cells (madeCells #[.slice none 0 0] G) 31) = W0 := ⟨_, rfl⟩
  obtain ⟨s1, s2, s3, s4⟩ := rstart3 w1 G #[.int .i64 n, .slice (some ⟨w1.heap.size, 0, none⟩) G G, .slice none 0 0, .slice none 0 0] W0 hW0.symm
  rw [hW0]
  obtain ⟨db, hdb⟩ : ∃ db, w1.heap.size = db := ⟨_, rfl⟩
  rw [hdb] at s1 s2 s3
  rw [hdb]
  obtain ⟨ab, hab⟩ : ∃ ab, db + 1 + 1 = ab := ⟨_, rfl⟩
  rw [hab] at s3 ⊢
  obtain ⟨mb, hmb⟩ : ∃ mb, db + 1 = mb := ⟨_, rfl⟩
  rw [hmb] at s2 ⊢
  have HDB := Lib.hid (show wb.heap.size ≤ db ∧ db < mb ∧ mb < ab from ⟨hdb ▸ HB1.out.size, by omega, by omega⟩)
  have HS := Lib.hid (And.intro s1 (And.intro s2 (And.intro (RG.start (B := wb.heap.size) (gf := fun k => HH 0 k % G) s3) (HB1.out.trans (s4.mono HB1.out.size)))))
  clear s1 s2 s3 s4 hW0 hdb hab hmb hmk1 hmk2
  obtain ⟨gf, hgf⟩ : ∃ gf : KeyT → Nat, (fun k => HH 0 k % G) = gf := ⟨_, rfl⟩
  have HGF := Lib.hid hgf
  rw [hgf] at HS
  clear hgf
  go_loopw [7] (fun i wr => ∃ (j : Nat) (ad : Nat → Option Addr) (cp : Nat → Nat), j ≤ n ∧ i = .int .i64 j ∧ Hid (RG wr wb.heap.size ab G gf (ks.take j) ad cp) ∧ Hid (Blk wr db 22 (sdq G startB) ∧ Blk wr mb 40 #[.int .i64 n, .slice (some ⟨db, 0, none⟩) G G, .slice none 0 0, .slice none 0 0]) ∧ Below wb.heap.size wb wr) (fun i _ => n - (intOf i).toNat)
  case atStart => exact ⟨0, _, _, Nat.zero_le _, rfl, Lib.hid (by simpa using HS.out.2.2.1), Lib.hid ⟨HS.out.1, HS.out.2.1⟩, HS.out.2.2.2⟩
  case round =>
    clear HS
    obtain ⟨j, ad, cp, hj, rfl, hrg, hbk, hbel⟩ := hrel
    by_cases hlt : j < n
    · have hjx : j < ks.length := by rw [HL.out]; exact hlt
      obtain ⟨g, off, rfl, hg, hra, hok⟩ := (HR.out.below hbel).at_ hjx
      obtain ⟨x, hx⟩ : ∃ x, ks[j] = x := ⟨_, rfl⟩
      have HTK := Lib.hid (show ks.take (j + 1) = ks.take j ++ [x] by rw [List.take_succ_eq_append_getElem hjx, hx])
      rw [hx] at hra hok
      obtain ⟨fs, hfs⟩ := key_desc
      have HF := Lib.hid hfs
      have HKS := Lib.hid (show (Try.prog.info? 27).map (·.size) = some (kcs x).length by rw [kcs_length hok]; exact key_size)
      have HRA := Lib.hid hra
      have HOK := Lib.hid hok
      have HBEL := Lib.hid hbel
      obtain ⟨p, hp⟩ : ∃ p, gf x = p := ⟨_, rfl⟩
      have hpG : p < G := by rw [← hp, ← HGF.out]; exact Nat.mod_lt _ hG0
      have hpe : HH 0 x % G = p := by rw [← hp, ← HGF.out]
      have KG := Lib.hid (show ∀ W, Calls Try.prog 25 #[.agg (kcs x).toArray, .int .i64 G] W fun e w' => e = .returned (.int .i64 (p : Nat)) ∧ Below W.heap.size W w' from fun W => by
        have := rgroup_any G hG0 (by omega) x hok W
        rw [hpe] at this
        exact this)
      have hi1 : (0 : Int) ≤ (j : Int) := by omega
      have hi2 : (j : Int) < (n : Int) := by omega
      clear hra hok hx hbel hjx hfs
      go_wp2_with (refine wpList_load_mid rfl 27 (.tmp 45) rfl g (off + j * 33) rfl (kcs x) (.struct fs) HRA.out HF.out rfl HKS.out ?_)
      (with_reducible refine (KG.out _).mono ?_)
      rintro e w2 ⟨rfl, hb2⟩
      have HBL2 := Lib.hid (HBEL.out.trans (hb2.mono HBEL.out.size))
      have HRG2 := Lib.hid (hrg.out.on hb2)
      have HBK2 := Lib.hid (And.intro (Blk.below hbk.out.1 hb2 hbk.out.1.lt) (Blk.below hbk.out.2 hb2 hbk.out.2.lt))
      have HRA2 := Lib.hid (show w2.rangeAt g (off + j * 33) (kcs x) from fun t v hv => by rw [hb2.cell (p := ⟨g, off + j * 33 + t, none⟩) (Nat.lt_of_lt_of_le hg HBEL.out.size)]; exact HRA.out t v hv)
      have HGW := Lib.hid (show g < w2.heap.size ∧ g < wb.heap.size from ⟨Nat.lt_of_lt_of_le hg HBL2.out.size, hg⟩)
      have hi3 : (0 : Int) ≤ (p : Int) := by omega
      have hi4 : (p : Int) < (G : Int) := by omega
      have HPX := Lib.hid hp
      clear hb2 hrg hbk HRA HBEL KG hp hpe hg
      go_wp2_with fail
      have hbB : Below w2.heap.size w2 (w2.drew.alloc (.cells (kcs x).toArray 27)) := (show Below w2.heap.size w2 w2.drew from ⟨rfl, rfl, rfl, Nat.le_refl _, fun _ _ => rfl⟩).alloc (Nat.le_refl _) _
      have HRGB := Lib.hid (HRG2.out.on hbB)
      have HBKB := Lib.hid (And.intro (Blk.below HBK2.out.1 hbB HBK2.out.1.lt) (Blk.below HBK2.out.2 hbB HBK2.out.2.lt))
      have HRB := Lib.hid (show (w2.drew.alloc (.cells (kcs x).toArray 27)).rangeAt g (off + j * 33) (kcs x) from fun t v hv => by rw [hbB.cell (p := ⟨g, off + j * 33 + t, none⟩) HGW.out.1]; exact HRA2.out t v hv)
      have HNW := Lib.hid (show ∀ (j : Nat) (u : Value), (kcs x)[j]? = some u → (w2.drew.alloc (.cells (kcs x).toArray 27)).cell? ((⟨w2.drew.heap.size, 0, none⟩ : Addr).add j) = some u from fun j u hu => by
        rw [Addr.add_lit, (Blk.new w2.drew 27 (kcs x).toArray).cell, Nat.zero_add, List.getElem?_toArray]; exact hu)
      have HONE2 := Lib.hid (show ∀ u ∈ kcs x, u.oneCell' = true from fun u hu => by
        rcases List.mem_append.1 hu with h | h
        · exact bv_oneCell _ u h
        · rw [List.mem_singleton.1 h]; rfl)
      have hkl : cntK gf (ks.take j) p ≤ n := by
        refine Nat.le_trans (List.length_filter_le _ _) ?_
        rw [List.length_take]; omega
      have HLE := Lib.hid (show cntK gf (ks.take j) p + 1 ≤ maxLen ∧ (cntK gf (ks.take j) p + 1) * 36 ≤ 140737488355328 from ⟨by unfold maxLen; omega, by omega⟩)
      have HLE2 := Lib.hid (show wb.heap.size ≤ (w2.drew.alloc (.cells (kcs x).toArray 27)).heap.size from Nat.le_trans HBL2.out.size hbB.size)
      clear hkl
      have HBB := Lib.hid (show ∀ (w3 : World) (r : Option Nat), (w2.drew.alloc (.cells (kcs x).toArray 27)).grownBy w3 r → (∀ k, r = some k → wb.heap.size ≤ k ∧ k < (w2.drew.alloc (.cells (kcs x).toArray 27)).heap.size) → ∀ v, Below wb.heap.size wb (w3.setCell ⟨ab, p, none⟩ v) from fun w3 r hg hr v => by
        have h1 := (HBL2.out.trans (hbB.mono HBL2.out.size)).grown hg (Nat.le_trans HBL2.out.size hbB.size) (fun k e => (hr k e).1)
        exact h1.grown (grownBy_cell w3 ab p v) h1.size (fun k e => by injection e with e; have := HDB.out; omega))
      have HOA := Lib.hid (HRGB.out.own p hpG)
      clear hbB
      have hcs : w2.drew.cell? ⟨ab, p, none⟩ = some (.slice (ad p) (cntK gf (ks.take j) p) (cp p)) := HRG2.out.cell hpG
      refine wp_region_held_drew (S := fun W => W.rangeAt g (off + j * 33) (kcs x)) (by kernel_rfl) HRA2.out (fun hHeld => ?_)
      refine wpAnyH_take (i := 0) (oi := _) (v := .slice (some ⟨ab, 0, none⟩) G G) rfl (by kernel_rfl) (by kernel_rfl) (by kernel_rfl) (fun _ _ _ h => h) (Or.inl ⟨by rfl, by intro w hSw; go_simp⟩) (by assumption) ?_
      simp only [List.getElem_toArray, List.getElem_cons_zero, List.getElem_cons_succ, Act.put, List.setIfInBounds_toArray, List.set_cons_zero, List.set_cons_succ]
      refine wpAnyH_take (i := 1) (oi := _) (v := .int .i64 p) rfl (by kernel_rfl) (by kernel_rfl) (by kernel_rfl) (fun _ _ _ h => h) (Or.inl ⟨by rfl, by intro w hSw; go_simp⟩) (by assumption) ?_
      simp only [List.getElem_toArray, List.getElem_cons_zero, List.getElem_cons_succ, Act.put, List.setIfInBounds_toArray, List.set_cons_zero, List.set_cons_succ]
      refine wpAnyH_take (i := 2) (oi := _) (v := .slice (some ⟨ab, 0, none⟩) G G) rfl (by kernel_rfl) (by kernel_rfl) (by kernel_rfl) (fun _ _ _ h => h) (Or.inl ⟨by rfl, by intro w hSw; go_simp⟩) (by assumption) ?_
      simp only [List.getElem_toArray, List.getElem_cons_zero, List.getElem_cons_succ, Act.put, List.setIfInBounds_toArray, List.set_cons_zero, List.set_cons_succ]
      refine wpAnyH_take (i := 3) (oi := _) (v := .int .i64 p) rfl (by kernel_rfl) (by kernel_rfl) (by kernel_rfl) (fun _ _ _ h => h) (Or.inl ⟨by rfl, by intro w hSw; go_simp⟩) (by assumption) ?_
      simp only [List.getElem_toArray, List.getElem_cons_zero, List.getElem_cons_succ, Act.put, List.setIfInBounds_toArray, List.set_cons_zero, List.set_cons_succ]
      refine wpAnyH_take (i := 4) (oi := _) (v := .pointer (some ⟨ab, p, none⟩)) rfl (by kernel_rfl) (by kernel_rfl) (by kernel_rfl) (fun _ _ _ h => h) (Or.inl ⟨by rfl, by intro w hSw; go_simp⟩) (by assumption) ?_
      simp only [List.getElem_toArray, List.getElem_cons_zero, List.getElem_cons_succ, Act.put, List.setIfInBounds_toArray, List.set_cons_zero, List.set_cons_succ]
      refine wpAnyH_take (i := 6) (oi := _) (v := .slice (some ⟨g, off, none⟩) n c) rfl (by kernel_rfl) (by kernel_rfl) (by kernel_rfl) (fun _ _ _ h => h) (Or.inl ⟨by rfl, by intro w hSw; go_simp⟩) (by assumption) ?_
      simp only [List.getElem_toArray, List.getElem_cons_zero, List.getElem_cons_succ, Act.put, List.setIfInBounds_toArray, List.set_cons_zero, List.set_cons_succ]
      refine wpAnyH_take (i := 7) (oi := _) (v := .int .i64 j) rfl (by kernel_rfl) (by kernel_rfl) (by kernel_rfl) (fun _ _ _ h => h) (Or.inl ⟨by rfl, by intro w hSw; go_simp⟩) (by assumption) ?_
      simp only [List.getElem_toArray, List.getElem_cons_zero, List.getElem_cons_succ, Act.put, List.setIfInBounds_toArray, List.set_cons_zero, List.set_cons_succ]
      refine wpAnyH_take (i := 8) (oi := _) (v := .pointer (some ⟨g, off + j * 33, none⟩)) rfl (by kernel_rfl) (by kernel_rfl) (by kernel_rfl) (fun _ _ _ h => h) (Or.inl ⟨by rfl, by intro w hSw; go_simp⟩) (by assumption) ?_
      simp only [List.getElem_toArray, List.getElem_cons_zero, List.getElem_cons_succ, Act.put, List.setIfInBounds_toArray, List.set_cons_zero, List.set_cons_succ]
      refine wpAnyH_take (i := 9) (oi := { dst := some 59, op := Op.load 27 (Operand.tmp 58), type := 27, pos := "ref.go:92", after := #[{ on := 8, ground := Ground.data }], guard := none }) (v := .agg (kcs x).toArray) rfl (by kernel_rfl) (by kernel_rfl) (by kernel_rfl) (fun _ _ _ h => h)
        (yieldsIf_load_mid (by rfl) _ _ rfl g (off + j * 33) rfl (kcs x) (.struct fs) (fun _ h => h) HF.out rfl HKS.out) (by assumption) ?_
      simp only [Act.put, List.setIfInBounds_toArray, List.set_cons_zero, List.set_cons_succ]
      refine wpAnyH_ready (rs := [5, 10]) (by kernel_rfl) (by simp) ?_
      have hcs2 : (w2.alloc (.cells (kcs x).toArray 27)).cell? ⟨ab, p, none⟩ = some (.slice (ad p) (cntK gf (ks.take j) p) (cp p)) := HRGB.out.cell hpG
      refine AllReadyH.cons rfl (fun K hK => ?_) (AllReadyH.cons rfl (fun K hK => ?_) AllReadyH.nil)
      focus
        go_simp
        refine hK.out _ _ hHeld (fun _ => ?_)
        clear hK K
        refine wpAnyH_ready (rs := [10]) (by kernel_rfl) (by simp) ?_
        refine AllReadyH.cons rfl (fun K hK => ?_) AllReadyH.nil
        rw [if_pos (by rfl)]
        refine wp_buildKey (.tmp 59) rfl HOK.out rfl ?_
        refine hK.out _ _ HRB.out (fun _ => ?_)
        clear hK K
      rotate_left
      focus
        rw [if_pos (by rfl)]
        refine wp_buildKey (.tmp 59) rfl HOK.out rfl ?_
        refine hK.out _ _ HRB.out (fun _ => ?_)
        clear hK K
        simp only [List.getElem_toArray, List.getElem_cons_zero, List.getElem_cons_succ, Act.put, List.setIfInBounds_toArray, List.set_cons_zero, List.set_cons_succ]
        refine wpAnyH_ready (rs := [5]) (by kernel_rfl) (by simp) ?_
        refine AllReadyH.cons rfl (fun K hK => ?_) AllReadyH.nil
        go_simp
        refine hK.out _ _ HRB.out (fun _ => ?_)
        clear hK K
      all_goals
        try simp only [List.getElem_toArray, List.getElem_cons_zero, List.getElem_cons_succ, Act.put, List.setIfInBounds_toArray, List.set_cons_zero, List.set_cons_succ]
        refine wpAnyH_ready (rs := [11]) (by kernel_rfl) (by simp) ?_
        refine AllReadyH.cons rfl (fun K hK => ?_) AllReadyH.nil
        refine step_append_lies _ (by rfl) _ _ _ (by rfl) wb.heap.size 27 i2 _ 33 36 Try.underlying31 HI2.out.1 HI2.out.2.1 HI2.out.2.2.1 HI2.out.2.2.2 rfl (by omega) _ (cntK gf (ks.take j) p) ((grpK gf (ks.take j) p).flatMap kcs) (by rfl) HOA.out
          ⟨w2.drew.heap.size, 0, none⟩ 1 1 (kcs x) (by rfl) (by rw [kcs_length HOK.out]) HNW.out HONE2.out (by omega) HLE.out.1 HLE.out.2 HLE2.out _ rfl ?_
        intro gg cap w3 hown3 hgrow3 hat3 hlt3
        have HPU := Lib.hid (RG.push HRGB.out hpG HPX.out (by show World.ownsRow _ _ _ _ _ _ _; rw [List.length_append, List.flatMap_append]; simpa [cntK] using hown3) hgrow3 (hat3.imp id (fun e => Nat.le_of_eq e.symm)))
        have HBU := Lib.hid (HBB.out w3 _ hgrow3 (World.ownsRow.lt HOA.out) (.slice (some ⟨gg, 0, none⟩) (cntK gf (ks.take j) p + 1) cap))
        have hlv := HRGB.out.leaves hpG hgrow3
        have hcs3 := hlv.1
        have hfz3 := hcs3.2
        have HR3 := Lib.hid (hlv.2.2 _ _ _ HGW.out.2 (Nat.lt_of_lt_of_le HGW.out.2 HLE2.out) HRB.out)
        have HBK3 := Lib.hid (And.intro (Blk.same (hlv.2.1 _ _ _ (by decide) HBKB.out.1) (setCell_block (w := w3) (g := ab) (i := p) (v := .slice (some ⟨gg, 0, none⟩) (cntK gf (ks.take j) p + 1) cap) (by have := HDB.out; omega))) (Blk.same (hlv.2.1 _ _ _ (by decide) HBKB.out.2) (setCell_block (w := w3) (g := ab) (i := p) (v := .slice (some ⟨gg, 0, none⟩) (cntK gf (ks.take j) p + 1) cap) (by have := HDB.out; omega))))
        have HR4 := Lib.hid (show (w3.setCell ⟨ab, p, none⟩ (.slice (some ⟨gg, 0, none⟩) (cntK gf (ks.take j) p + 1) cap)).rangeAt g (off + j * 33) (kcs x) from fun t u hu => by
          have hga : g ≠ ab := by have := HDB.out; have := HGW.out; omega
          rw [World.cell?_of_block (show _ = _ from setCell_block hga)]
          exact HR3.out t u hu)
        refine hK.out _ _ HR3.out (fun _ => ?_)
        clear hK K hcs hcs2 hown3 hgrow3 hat3 hlv
        simp only [List.getElem_toArray, List.getElem_cons_zero, List.getElem_cons_succ, Act.put, List.setIfInBounds_toArray, List.set_cons_zero, List.set_cons_succ]
        refine wpAnyH_ready (rs := [12]) (by kernel_rfl) (by simp) ?_
        refine AllReadyH.cons rfl (fun K hK => ?_) AllReadyH.nil
        go_simp
        refine hK.out _ _ HR3.out (fun _ => ?_)
        clear hK K
        refine wpAnyH_ready (rs := [13]) (by kernel_rfl) (by simp) ?_
        refine AllReadyH.cons rfl (fun K hK => ?_) AllReadyH.nil
        go_simp
        refine hK.out _ _ HR4.out (fun _ => ?_)
        clear hK K
        refine wpAnyH_done (by kernel_rfl) ?_ _
        clear hcs3 hfz3 hlt3
        go_wp2_with fail
        go_roundw
        case rel => exact ⟨j + 1, _, _, by omega, by go_num, Lib.hid (by rw [HTK.out]; exact HPU.out), HBK3, HBU.out⟩
        case measure => simp [intOf]; omega
    · obtain rfl : n = j := by omega
      have htk : ks.take n = ks := List.take_of_length_le (by rw [HL.out]; exact Nat.le_refl _)
      rw [htk] at hrg
      have HRG := hrg
      have HBK := hbk
      have HBEL := Lib.hid hbel
      obtain ⟨i3, hi3, hv0, hv1, hv2⟩ := info_parts info_bool
      have hmk3 := fun W => run_make (P := Try.prog) W 46 4 i3 _ Try.underlying46 hi3 hv0 .i64 .i64 (n : Int) (n : Int) (by omega) (by omega) (by rw [hv2]; omega) (by omega)
      rw [hv1] at hmk3
      clear hrg hbk hbel htk hi3 hv0 hv1 hv2
      obtain ⟨W1, hW1⟩ : ∃ W1, wr.alloc (.cells (madeCells #[.bool false] n) 4) = W1 := ⟨_, rfl⟩
      have hb1 : Below wr.heap.size wr W1 := hW1 ▸ (Below.refl wr.heap.size wr).alloc (Nat.le_refl _) _
      obtain ⟨u, hu⟩ : ∃ u, wr.heap.size = u := ⟨_, rfl⟩
      have HUS := Lib.hid (show Used W1 u n startB.U by rw [← hW1, ← hu, made_bool]; exact Blk.new wr 4 _)
      have HU := Lib.hid (show wb.heap.size ≤ u from hu ▸ HBEL.out.size)
      have HRG1 := Lib.hid (HRG.out.on hb1)
      have HBK1 := Lib.hid (And.intro (Blk.below HBK.out.1 hb1 HBK.out.1.lt) (Blk.below HBK.out.2 hb1 HBK.out.2.lt))
      have HBEL1 := Lib.hid (HBEL.out.trans (hb1.mono HBEL.out.size))
      have HW1 := Lib.hid hW1
      have HUE := Lib.hid hu
      have KO := Lib.hid (rorder_any ab G n hG1 hn (cntK gf ks) (fun i => by refine Nat.le_trans (List.length_filter_le _ _) ?_; rw [HL.out]; exact Nat.le_refl _) ad cp W1 HRG1.out.row.lt (fun i hi => HRG1.out.cell hi))
      clear hb1 hW1 hu HRG HBK HBEL
      go_wp2_with fail
      rw [HW1.out, HUE.out]
      clear hmk3
      (with_reducible refine (KO.out).mono ?_)
      rintro e w5 ⟨Ao, co, O, rfl, hoi, hord, hb5⟩
      have HOI := Lib.hid hoi
      have HON := Lib.hid hord
      have HRG5 := Lib.hid (HRG1.out.on hb5)
      have HRS := Lib.hid (show RS wb w5 w5 u db mb n G startB.U (sdq G startB) none 0 startB.left from
        ⟨Nat.le_refl _, fun _ _ _ _ _ => rfl, Blk.below HUS.out hb5 (Blk.lt HUS.out), HBK1.out.1.below hb5 HBK1.out.1.lt, HBK1.out.2.below hb5 HBK1.out.2.lt, World.ownsRow_nil _ _ _ _, ⟨_, Blk.below HUS.out hb5 (Blk.lt HUS.out)⟩, ⟨_, HBK1.out.1.below hb5 HBK1.out.1.lt⟩, ⟨_, HBK1.out.2.below hb5 HBK1.out.2.lt⟩,
          HBEL1.out.trans (hb5.mono HBEL1.out.size), HU.out, HDB.out.1, by have := HDB.out; omega⟩)
      obtain ⟨m, hm⟩ : ∃ m, O.length = m := ⟨_, rfl⟩
      have HM := Lib.hid hm
      rw [hm]
      have hm16 : m ≤ 16384 := by
        have h1 := ord_len HON.out (fun k _ => by rw [← HGF.out]; exact Nat.mod_lt _ hG0)
        rw [hm, HL.out] at h1
        omega
      have HGL := Lib.hid (show ∀ k ∈ ks, gf k < G from fun k _ => by rw [← HGF.out]; exact Nat.mod_lt _ hG0)
      clear hoi hord hb5 hm KO HRG1 HBK1 HBEL1 HUS HW1 HUE HK HB0 HB1 hlt hj
      go_wp2_with fail
      go_loopw [11] (fun i wr => ∃ (j : Nat) (As : Option Addr) (cs : Nat), j ≤ m ∧ i = .int .i64 j ∧ Hid (RS wb w5 wr u db mb n G (finB n gf ks (O.take j)).U (sdq G (finB n gf ks (O.take j))) As cs (finB n gf ks (O.take j)).left)) (fun i _ => m - (intOf i).toNat)
      case atStart => exact ⟨0, none, 0, Nat.zero_le _, rfl, Lib.hid HRS.out⟩
      case round =>
        clear HRS
        obtain ⟨j, As, cs, hj, rfl, hrs⟩ := hrel
        obtain ⟨S, hS⟩ : ∃ S, finB n gf ks (O.take j) = S := ⟨_, rfl⟩
        rw [hS] at hrs
        have hll : S.left.length ≤ n := by rw [← hS]; exact left_le HON.out HGL.out HL.out j
        by_cases hlt : j < m
        · have hjO : j < O.length := by rw [HM.out]; exact hlt
          obtain ⟨gi, hgi⟩ : ∃ gi, O[j] = gi := ⟨_, rfl⟩
          have hmem := (HON.out.mem gi).1 (by rw [← hgi]; exact List.getElem_mem hjO)
          have hgG : gi < G := hmem.1
          have HTK := Lib.hid (show finB n gf ks (O.take (j + 1)) = stepB n gf ks S gi by rw [List.take_succ_eq_append_getElem hjO, finB_snoc, hS, hgi])
          have HOUTI := Lib.hid (show S.sd gi = 0 by
            rw [← hS]
            refine sd_out fun h => ?_
            have hnd := HON.out.nodup
            rw [← List.take_append_drop j O, List.nodup_append] at hnd
            refine hnd.2.2 _ h gi ?_ rfl
            rw [List.drop_eq_getElem_cons hjO, hgi]
            simp)
          obtain ⟨og, hAo, _, hog, hco⟩ := OwnI.at_ (hrs.out.owni HOI.out) hjO
          have HCO := Lib.hid (show ∀ W U D A c l, RS wb w5 W u db mb n G U D A c l → W.cell? ⟨og, j, none⟩ = some (.int .i64 (gi : Nat)) from fun W U D A c l h => by
            obtain ⟨og', e, _, _, hc⟩ := OwnI.at_ (h.owni HOI.out) hjO
            rw [hAo] at e
            injection e with e
            injection e with e _ _
            subst e
            rw [← hgi]; exact hc)
          subst hAo
          rw [hgi] at hco
          have hcr : wr.cell? ⟨ab, gi, none⟩ = some (.slice (ad gi) (cntK gf ks gi) (cp gi)) := by rw [(hrs.out.rows HRG5.out.row).cell, rgc_get _ _ _ hgG]
          obtain ⟨gk, hgk⟩ : ∃ gk, grpK gf ks gi = gk := ⟨_, rfl⟩
          have HOWN := Lib.hid (show OwnK w5 wb.heap.size (ad gi) (cp gi) gk from hgk ▸ HRG5.out.own gi hgG)
          have hxm : gk.length = cntK gf ks gi := by rw [← hgk]; rfl
          have hxn : cntK gf ks gi ≤ n := by refine Nat.le_trans (List.length_filter_le _ _) ?_; rw [HL.out]; exact Nat.le_refl _
          have HOKG := Lib.hid (show ∀ k ∈ gk, k.Ok from fun k hk => HR.out.each k (by rw [← hgk] at hk; exact (List.mem_filter.1 hk).1))
          have hx0 : 0 < cntK gf ks gi := hmem.2
          have HSS := Lib.hid hS
          have HGK := Lib.hid hgk
          generalize ad gi = xa at *
          generalize cp gi = xc at *
          generalize cntK gf ks gi = xm at *
          have hxc : xm ≤ xc := by
            have h1 := HOWN.out
            rcases h1.2 with ⟨hv, h0⟩ | ⟨g2, cp', cur, hv, _, _, h2, h3, _⟩
            · omega
            · injection hv with _ _ hv; omega
          have HXM := Lib.hid hxm
          have HRS := hrs
          have hi1 : (0 : Int) ≤ (j : Int) := by omega
          have hi2 : (j : Int) < (m : Int) := by omega
          have hi3 : (0 : Int) ≤ (gi : Int) := by omega
          have hi4 : (gi : Int) < (G : Int) := by omega
          clear hrs hS hgk hxm hmem hgi hog
          go_wp2_with fail
          obtain ⟨wo, rfl⟩ : ∃ wo, wo = wr := ⟨_, rfl⟩
          clear hco hcr
          go_loopw [13] (fun d wr => ∃ dd f : Nat, 1 ≤ dd ∧ dd ≤ 257 ∧ d = .int .u64 dd ∧ Hid (RS wb w5 wr u db mb n G (fU n S.U gk f) ((sdq G S).setIfInBounds gi (.int .u64 f)) As cs S.left) ∧ Hid ((f = 0 ∧ ∀ e, 1 ≤ e → e < dd → ¬ Fits S.U (posL n e gk)) ∨ (1 ≤ f ∧ f + 1 = dd ∧ chD n S.U gk = f))) (fun d _ => 257 - (intOf d).toNat)
          case atStart => exact ⟨1, 0, Nat.le_refl _, by omega, rfl, Lib.hid (by rw [show (Value.int .u64 ((0 : Nat) : Int)) = .int .u64 ((0 : Nat) : Int) from rfl, sdq_same (n := n) (gf := gf) (ks := ks) S HOUTI.out]; exact HRS.out), Lib.hid (.inl ⟨rfl, fun e h1 h2 => by omega⟩)⟩
          case round =>
            clear HRS
            obtain ⟨dd, f, hd1, hd2, rfl, hrs, hst⟩ := hrel
            have hco := HCO.out wr _ _ _ _ _ hrs.out
            have hcm : wr.cell? ⟨mb, 1, none⟩ = some (.slice (some ⟨db, 0, none⟩) G G) := hrs.out.m.cell 1
            have hcd : wr.cell? ⟨db, gi, none⟩ = some (.int .u64 (f : Nat)) := by rw [hrs.out.d.cell, sdq_put S _ hgG]
            have HRS := hrs
            by_cases hle : dd ≤ 256
            · have hle' : decide ((dd : Int) ≤ 256) = true := by simpa using (by omega : (dd : Int) ≤ 256)
              by_cases hf : f = 0
              · subst hf
                clear hrs
                go_wp2_with fail
                go_quiet (fail)
                have hst0 : ∀ e, 1 ≤ e → e < dd → ¬ Fits S.U (posL n e gk) := by
                  rcases hst.out with h | h
                  · exact h.2
                  · omega
                have HST0 := Lib.hid hst0
                have KF := Lib.hid (fun W h1 h2 => rfits_any dd n xc xm (by omega) (by omega) hn xa gk HXM.out hxc (by omega) u S.U W h1 h2)
                have HON1 := Lib.hid (fun q => HRS.out.on (below_drewN (Below.refl _ wr) q))
                have HPL := Lib.hid (show (posL n dd gk).length = xm by rw [posL, List.length_map]; exact HXM.out)
                have HPN := Lib.hid (show ∀ p ∈ posL n dd gk, p < n from fun p hp => posL_lt (by omega) hp)
                clear hco hcm hcd hst hst0
                go_wp2_with fail
                (with_reducible refine (KF.out _ (OwnK.rd ((HON1.out _).grp HOWN.out) HOKG.out) (HON1.out _).used).mono ?_)
                rintro e w2 ⟨hres, hb2⟩
                have HRS2 := Lib.hid ((HON1.out _).on hb2)
                clear HON1 KF HRS hb2
                rcases hres with ⟨hfit, Ap, cq, rfl, hop⟩ | ⟨hnf, rfl⟩
                · have HFIT := Lib.hid hfit
                  have HOP := Lib.hid hop
                  clear hfit hop
                  go_wp2_with fail
                  have hco : w2.drew.cell? ⟨og, j, none⟩ = some (.int .i64 (gi : Nat)) := HCO.out w2 _ _ _ _ _ HRS2.out
                  have hcm : w2.drew.cell? ⟨mb, 1, none⟩ = some (.slice (some ⟨db, 0, none⟩) G G) := HRS2.out.m.cell 1
                  have hcd : w2.drew.cell? ⟨db, gi, none⟩ = some (.int .u64 ((0 : Nat) : Int)) := by
                    show w2.cell? ⟨db, gi, none⟩ = _
                    rw [HRS2.out.d.cell, sdq_put S _ hgG]
                  have hcf : w2.drew.frozen? ⟨db, gi, none⟩ = false := HRS2.out.d.frozen gi
                  refine wp_region_still_tail 8 (by kernel_rfl) (by kernel_rfl) ?_
                  simp only [List.take_succ_cons, List.take_zero, List.drop_succ_cons, List.drop_zero]
                  repeat still_step
                  refine wpStill_nil ?_
                  change wpList _ _ _ _ _ w2.drew
                  have HRSD := Lib.hid (show RS wb w5 (w2.drew.setCell ⟨db, gi, none⟩ (.int .u64 (dd : Nat))) u db mb n G (fU n S.U gk 0) ((sdq G S).setIfInBounds gi (.int .u64 (dd : Nat))) As cs S.left by
                    have := (HRS2.out.on (below_drewN (Below.refl _ w2) 1)).setD gi (.int .u64 (dd : Nat))
                    rw [sdq_twice] at this
                    exact this)
                  have HOPD := Lib.hid (show OwnI (w2.drew.setCell ⟨db, gi, none⟩ (.int .u64 (dd : Nat))) _ Ap cq (posL n dd gk) from ownsRow_same HOP.out fun g hv _ => setCell_block (owni_not_t (by decide) HOP.out HRS2.out.d g hv))
                  generalize w2.drew = w2d at *
                  go_wp2_with fail
                  obtain ⟨w2s, hw2s⟩ : ∃ V, w2d.setCell ⟨db, gi, none⟩ (.int .u64 (dd : Nat)) = V := ⟨_, rfl⟩
                  rw [hw2s] at HRSD HOPD ⊢
                  clear hw2s hco hcm hcd hcf HRS2 HOP
                  obtain ⟨Lp, hLp⟩ : ∃ L, posL n dd gk = L := ⟨_, rfl⟩
                  have HCH := Lib.hid (show chD n S.U gk = dd from firstD_first (q := fun d => decide (Fits S.U (posL n d gk))) hd1 hle (by simpa using HFIT.out) (fun e h1 h2 => by simpa using HST0.out e h1 h2))
                  have HOPE := Lib.hid (show ∃ bs, OwnI w2s bs Ap cq Lp from ⟨_, hLp ▸ HOPD.out⟩)
                  rw [hLp] at HPL HPN
                  have HLP := Lib.hid hLp
                  clear hLp HFIT HOPD HST0
                  go_loopw [16] (fun i wr => ∃ q : Nat, q ≤ xm ∧ i = .int .i64 q ∧ Hid (RS wb w5 wr u db mb n G (markL S.U (Lp.take q)) ((sdq G S).setIfInBounds gi (.int .u64 (dd : Nat))) As cs S.left) ∧ Hid (∃ bs, OwnI wr bs Ap cq Lp)) (fun i _ => xm - (intOf i).toNat)
                  case atStart => exact ⟨0, Nat.zero_le _, rfl, Lib.hid (by rw [List.take_zero, markL_nil]; exact HRSD.out), HOPE⟩
                  case round =>
                    clear HRSD HOPE
                    obtain ⟨q, hq, rfl, hrs, hop⟩ := hrel
                    obtain ⟨bs, hop'⟩ := hop.out
                    by_cases hqm : q < xm
                    · have hqL : q < Lp.length := by rw [HPL.out]; exact hqm
                      obtain ⟨gp, hAp, _, hgp, hcp⟩ := OwnI.at_ hop' hqL
                      obtain ⟨t, ht⟩ : ∃ t, Lp[q] = t := ⟨_, rfl⟩
                      have htn : t < n := HPN.out t (ht ▸ List.getElem_mem hqL)
                      have HTQ := Lib.hid (show Lp.take (q + 1) = Lp.take q ++ [t] by rw [List.take_succ_eq_append_getElem hqL, ht])
                      have HAP := Lib.hid hAp
                      subst hAp
                      rw [ht] at hcp
                      have hcu := hrs.out.used.at_ htn
                      have hcf := Blk.frozen hrs.out.used t
                      have HRSM := Lib.hid (hrs.out.mark t)
                      have HOPM := Lib.hid (show OwnI (wr.setCell ⟨u, t, none⟩ (.bool true)) bs (some ⟨gp, 0, none⟩) cq Lp from ownsRow_same hop' fun g hv _ => setCell_block (owni_not_t (by decide) hop' hrs.out.used g hv))
                      have hq1 : (0 : Int) ≤ (q : Int) := by omega
                      have hq2 : (q : Int) < (xm : Int) := by omega
                      have hq3 : (0 : Int) ≤ (t : Int) := by omega
                      have hq4 : (t : Int) < (n : Int) := by omega
                      clear hrs hop hop' ht hgp
                      go_wp2_with fail
                      go_roundw
                      case rel => exact ⟨q + 1, by omega, by go_num, Lib.hid (by rw [HTQ.out, markL_snoc]; exact HRSM.out), Lib.hid ⟨bs, HOPM.out⟩⟩
                      case measure => simp [intOf]; omega
                    · obtain rfl : xm = q := by omega
                      have hTL : Lp.take xm = Lp := List.take_of_length_le (by rw [HPL.out]; exact Nat.le_refl _)
                      rw [hTL] at hrs
                      have HRSE := hrs
                      clear hrs hop hop' hTL
                      go_wp2_with fail
                      go_roundw
                      case rel => exact ⟨dd + 1, dd, by omega, by omega, by go_num, Lib.hid (by rw [fU_pos S.U gk (by omega), HLP.out]; exact HRSE.out), Lib.hid (.inr ⟨by omega, rfl, HCH.out⟩)⟩
                      case measure => simp [intOf]; omega
                · have HNF := Lib.hid hnf
                  clear hnf
                  go_wp2_with fail
                  go_loop [16] (fun i => i = .int .i64 0) (fun _ => 0)
                  case atStart => rfl
                  case round =>
                    obtain rfl := hrel
                    go_wp2_with fail
                    go_roundw
                    case rel => exact ⟨dd + 1, 0, by omega, by omega, by go_num, HRS2, Lib.hid (.inl ⟨rfl, fun e h1 h2 => by
                      by_cases e1 : e = dd
                      · rw [e1]; exact HNF.out
                      · exact HST0.out e h1 (by omega)⟩)⟩
                    case measure => simp [intOf]; omega
              · have hcs : 1 ≤ f ∧ chD n S.U gk = f := by
                  rcases hst.out with h | h
                  · omega
                  · exact ⟨h.1, h.2.2⟩
                have HSTP := Lib.hid (hrs.out.step_pos HGK.out hcs.1 hcs.2)
                have hf0 : ¬ (f : Int) = 0 := by omega
                have hf1 : ((f : Int) == 0) = false := by simpa using hf0
                clear hrs HRS hst hcs
                go_wp2_with fail
                go_quiet (fail)
                go_wp2_with fail
                go_quiet (fail)
                go_wp2_with fail
                go_roundw
                case rel => exact ⟨j + 1, As, cs, by omega, by go_num, Lib.hid (by rw [HTK.out]; exact HSTP.out.on (below_drewN (Below.refl _ _) _))⟩
                case measure => simp [intOf]; omega
            · have hle' : decide ((dd : Int) ≤ 256) = false := by simpa using (by omega : ¬ (dd : Int) ≤ 256)
              by_cases hf : f = 0
              · subst hf
                have hc0 : chD n S.U gk = 0 := by
                  rcases hst.out with h | h
                  · exact firstD_none.2 (fun e h1 h2 => by simpa using h.2 e h1 (by omega))
                  · omega
                have HC0 := Lib.hid hc0
                have HRSQ := Lib.hid (fun q => HRS.out.on (below_drewN (Below.refl _ wr) q))
                have hcs : wr.cell? ⟨mb, 2, none⟩ = some (.slice As S.left.length cs) := hrs.out.m.cell 2
                have HCF := Lib.hid (hrs.out.m.frozen 2)
                have HSTP := Lib.hid (fun q (w3 : World) A3 c3 (hg : (wr.drewN q).grownBy w3 (Value.slice As S.left.length cs).ownBlock) (ho : OwnK w3 w5.heap.size A3 c3 (S.left ++ gk)) => (show RS wb w5 (w3.setCell ⟨mb, 2, none⟩ (.slice A3 (S.left.length + xm) c3)) u db mb n G (fU n S.U gk 0) ((sdq G S).setIfInBounds gi (.int .u64 ((0 : Nat) : Int))) A3 c3 (S.left ++ gk) by
                  have := (HRSQ.out q).push hg ho
                  rw [List.length_append, HXM.out] at this
                  exact this).step_zero HGK.out HC0.out)
                have HLV := Lib.hid (fun q (w3 : World) (hg : (wr.drewN q).grownBy w3 (Value.slice As S.left.length cs).ownBlock) => (HRSQ.out q).leaves hg (by decide) (HRSQ.out q).m)
                clear hst hc0 hrs HRS
                go_wp2_with fail
                go_quiet (fail)
                go_wp2_with fail
                go_quiet (fail)
                go_wp2_with (at_builtin; refine wpList_append_keys _ rfl (.tmp 134) (.tmp 135) rfl w5.heap.size i2 HI2.out.1 HI2.out.2.1 HI2.out.2.2.1 HI2.out.2.2.2 As cs S.left.length S.left rfl rfl (HRSQ.out _).own _ xa xc xm gk rfl HXM.out (OwnK.rd ((HRSQ.out _).grp HOWN.out) HOKG.out) (by omega) (HRSQ.out _).size ?_; intro A3 c3 w3 hown3 hgrow3; have hbm3 := HLV.out _ _ hgrow3; have hcs3 := hbm3.cell 2; have hcf3 := hbm3.frozen 2; have H3 := Lib.hid (HSTP.out _ _ _ _ hgrow3 hown3); clear hown3 hgrow3 hbm3)
                go_roundw
                case rel => exact ⟨j + 1, A3, c3, by omega, by go_num, Lib.hid (by rw [HTK.out]; exact H3.out)⟩
                case measure => simp [intOf]; omega
              · have hcs : 1 ≤ f ∧ chD n S.U gk = f := by
                  rcases hst.out with h | h
                  · omega
                  · exact ⟨h.1, h.2.2⟩
                have HSTP := Lib.hid (hrs.out.step_pos HGK.out hcs.1 hcs.2)
                have hf0 : ¬ (f : Int) = 0 := by omega
                have hf1 : ((f : Int) == 0) = false := by simpa using hf0
                clear hrs HRS hst hcs
                go_wp2_with fail
                go_quiet (fail)
                go_wp2_with fail
                go_quiet (fail)
                go_wp2_with fail
                go_roundw
                case rel => exact ⟨j + 1, As, cs, by omega, by go_num, Lib.hid (by rw [HTK.out]; exact HSTP.out.on (below_drewN (Below.refl _ _) _))⟩
                case measure => simp [intOf]; omega
        · obtain rfl : m = j := by omega
          have hOm : O.take m = O := List.take_of_length_le (by rw [HM.out]; exact Nat.le_refl _)
          rw [hOm] at hS
          have hfr : (freeL n S.U).length = S.left.length := by rw [← hS]; exact fin_free HON.out HGL.out HL.out
          obtain ⟨F, hF⟩ : ∃ F, freeL n S.U = F := ⟨_, rfl⟩
          obtain ⟨ll, hle⟩ : ∃ ll, S.left.length = ll := ⟨_, rfl⟩
          rw [hF] at hfr
          have h5 : wb.heap.size ≤ w5.heap.size := Nat.le_trans HU.out (Nat.le_of_lt hrs.out.ne.2.2.2.1)
          have HRT := Lib.hid (RT.start hrs.out h5)
          rw [hle] at hfr
          have HFL := Lib.hid (show ∀ a q, (freeL a S.U).length = q → q < ll → a < n from fun a q h1 h2 => freeL_lt h1 (by rw [hF]; omega))
          have HFG := Lib.hid (show ∀ a q, (freeL a S.U).length = q → q < ll → S.U a = false → F[q]? = some a from fun a q h1 h2 h3 => hF ▸ freeL_get h1 (freeL_lt h1 (by rw [hF]; omega)) h3)
          have HFS := Lib.hid (show ∀ a, S.U a = true → (freeL (a + 1) S.U).length = (freeL a S.U).length from fun a h => by rw [freeL_succ, h]; simp)
          have HFN := Lib.hid (show ∀ a, S.U a = false → (freeL (a + 1) S.U).length = (freeL a S.U).length + 1 from fun a h => by rw [freeL_succ, h]; simp)
          have HFE := Lib.hid hF
          have HLE := Lib.hid hle
          have HFR := Lib.hid hfr
          have HSS := Lib.hid hS
          obtain ⟨i4, hi4, hv0, hv1, hv2⟩ := info_parts info_i64
          have HI4 := Lib.hid (And.intro hi4 (And.intro hv0 (And.intro hv1 hv2)))
          rw [hle] at hll
          clear hS hOm hfr hF hle h5 hrs hi4 hv0 hv1 hv2
          go_wp2_with fail
          obtain ⟨wo, rfl⟩ : ∃ wo, wo = wr := ⟨_, rfl⟩
          go_loopw [17, 18] (fun a i wr => ∃ (q at_ : Nat) (Aa : Option Addr) (ca : Nat), q ≤ ll ∧ i = .int .i64 q ∧ a = .int .i64 at_ ∧ Hid ((freeL at_ S.U).length = q) ∧ Hid (RT wb wr u db mb n G S.U (sdq G S) As cs S.left Aa ca (F.take q))) (fun _ i _ => ll - (intOf i).toNat)
          case atStart => exact ⟨0, 0, none, 0, Nat.zero_le _, rfl, rfl, Lib.hid rfl, HRT⟩
          case round =>
            clear HRT
            obtain ⟨q, at_, Aa, ca, hq, rfl, rfl, hcnt, hrt⟩ := hrel
            have hcs : wr.cell? ⟨mb, 2, none⟩ = some (.slice As ll cs) := by rw [← HLE.out]; exact hrt.out.m.cell 2
            by_cases hqm : q < ll
            · have hql : (F.take q).length = q := by rw [List.length_take, HFR.out]; omega
              have hca : wr.cell? ⟨mb, 3, none⟩ = some (.slice Aa q ca) := by have := hrt.out.m.cell 3; rw [hql] at this; exact this
              have HQL := Lib.hid hql
              have HRT := hrt
              have HCNT := hcnt
              have hi1 : (0 : Int) ≤ (q : Int) := by omega
              have hi2 : (q : Int) < (ll : Int) := by omega
              clear hrt hql hcnt
              go_wp2_with fail
              go_loop [17] (fun a => ∃ at_ : Nat, a = .int .i64 at_ ∧ Hid ((freeL at_ S.U).length = q)) (fun a => n - (intOf a).toNat)
              case atStart => exact ⟨at_, rfl, HCNT⟩
              case round =>
                clear HCNT
                obtain ⟨a, rfl, hcnt⟩ := hrel
                have han := HFL.out a q hcnt.out hqm
                have hcu := Used.at_ HRT.out.used han
                have ha1 : (0 : Int) ≤ (a : Int) := by omega
                have ha2 : (a : Int) < (n : Int) := by omega
                cases hUa : S.U a
                · rw [hUa] at hcu
                  have HG := Lib.hid (HFG.out a q hcnt.out hqm hUa)
                  have HC := Lib.hid (show (freeL (a + 1) S.U).length = q + 1 by rw [HFN.out a hUa, hcnt.out])
                  have hlt' : q < F.length := by rw [HFR.out]; exact hqm
                  have HTQ := Lib.hid (show F.take (q + 1) = F.take q ++ [a] by
                    rw [List.take_succ_eq_append_getElem hlt']
                    have := HG.out
                    rw [List.getElem?_eq_getElem hlt'] at this
                    rw [Option.some.inj this])
                  clear hUa hcnt hlt'
                  have hbx : Below wr.heap.size wr (wr.alloc (.cells #[.int .i64 (a : Nat)] 3)) := (Below.refl _ _).alloc (Nat.le_refl _) _
                  have HRTA := Lib.hid (HRT.out.on hbx)
                  have HOWN2 := Lib.hid (show (wr.alloc (.cells #[.int .i64 (a : Nat)] 3)).ownsRow wb.heap.size 3 1 (.slice Aa q ca) q (ivs (F.take q)) by
                    have : (wr.alloc (.cells #[.int .i64 (a : Nat)] 3)).ownsRow wb.heap.size 3 1 (.slice Aa (F.take q).length ca) (F.take q).length (ivs (F.take q)) := HRTA.out.at_
                    rw [HQL.out] at this
                    exact this)
                  have HSZ := Lib.hid (show wb.heap.size ≤ (wr.alloc (.cells #[.int .i64 (a : Nat)] 3)).heap.size from Nat.le_trans HRT.out.bel.size hbx.size)
                  have HPU := Lib.hid (fun (w3 : World) A3 c3 (hg : (wr.alloc (.cells #[.int .i64 (a : Nat)] 3)).grownBy w3 (Value.slice Aa q ca).ownBlock) (ho : w3.ownsRow wb.heap.size 3 1 (.slice A3 (q + 1) c3) (q + 1) (ivs (F.take q) ++ [.int .i64 (a : Nat)])) =>
                    (show Blk w3 mb 40 (mcs3 n G db As S.left.length cs Aa (F.take q).length ca) ∧ RT wb (w3.setCell ⟨mb, 3, none⟩ (.slice A3 (q + 1) c3)) u db mb n G S.U (sdq G S) As cs S.left A3 c3 (F.take (q + 1)) from by
                      have hl1 : (F.take (q + 1)).length = q + 1 := by rw [HTQ.out, List.length_append, HQL.out]; rfl
                      have hg' : (wr.alloc (.cells #[.int .i64 (a : Nat)] 3)).grownBy w3 (Value.slice Aa (F.take q).length ca).ownBlock := by rw [HQL.out]; exact hg
                      have ho' : OwnI w3 wb.heap.size A3 c3 (F.take (q + 1)) := by
                        show w3.ownsRow _ _ _ _ _ _
                        rw [hl1, HTQ.out, ivs_snoc]
                        exact ho
                      have h2 := HRTA.out.push hg' ho'
                      rw [hl1] at h2
                      exact ⟨HRTA.out.leaves hg' (by decide) HRTA.out.m, h2⟩))
                  clear hbx HRTA HRT
                  go_wp2_with (at_builtin; refine wpList_append_own _ rfl (.tmp 152) (.tmp 154) 38 rfl wb.heap.size 3 i4 _ 1 8 Try.underlying38 HI4.out.1 HI4.out.2.1 HI4.out.2.2.1 HI4.out.2.2.2 rfl (by omega) (.slice Aa q ca) q (ivs (F.take q)) rfl HOWN2.out ⟨wr.heap.size, 0, none⟩ 1 1 [.int .i64 (a : Nat)] rfl rfl (by intro t v hv; rw [Addr.add_lit, (Blk.new wr 3 #[.int .i64 (a : Nat)]).cell, Nat.zero_add, List.getElem?_toArray]; exact hv) (by intro v hv; rw [List.mem_singleton.1 hv]; rfl) (by unfold maxLen; omega) (by omega) HSZ.out ?_; intro v3 w3 hown3 hgrow3 hnil3; clear hnil3; obtain ⟨A3, c3, hv3, hbk3, hrt3⟩ := (own_form3 hown3 (fun A3 c3 ho => HPU.out w3 A3 c3 hgrow3 ho)); subst hv3; have hcm3 := hbk3.cell 3; have hcf3 := hbk3.frozen 3; have H3 := Lib.hid hrt3; clear hown3 hgrow3 hbk3 hrt3)
                  go_roundw
                  case rel => exact ⟨q + 1, a + 1, A3, c3, by omega, by go_num, by go_num, HC, H3⟩
                  case measure => simp [intOf]; omega
                · rw [hUa] at hcu
                  have HC := Lib.hid (show (freeL (a + 1) S.U).length = q by rw [HFS.out a hUa, hcnt.out])
                  clear hUa hcnt
                  go_wp2_with fail
                  go_round
                  case rel => exact ⟨a + 1, by go_num, HC⟩
                  case measure => simp [intOf]; omega
            · obtain rfl : ll = q := by omega
              have hFT : F.take ll = F := List.take_of_length_le (by rw [HFR.out]; exact Nat.le_refl _)
              rw [hFT] at hrt
              have hca : wr.cell? ⟨mb, 3, none⟩ = some (.slice Aa ll ca) := by have := hrt.out.m.cell 3; rw [HFR.out] at this; exact this
              have hc0 : wr.cell? ⟨mb, 0, none⟩ = some (.int .i64 n) := hrt.out.m.cell 0
              have hc1 : wr.cell? ⟨mb, 1, none⟩ = some (.slice (some ⟨db, 0, none⟩) G G) := hrt.out.m.cell 1
              have hbr := HBK0.out.below hrt.out.bel HBK0.out.lt
              have hr0 := hbr.cell 0
              have hr1 := hbr.cell 1
              have hr2 := hbr.cell 2
              have hr3 := hbr.cell 3
              have hg0 := hbr.frozen 0
              have hg1 := hbr.frozen 1
              have hg2 := hbr.frozen 2
              have hg3 := hbr.frozen 3
              have HBR := Lib.hid hbr
              have HRT := hrt
              clear hrt hbr hcnt hFT
              go_wp2_with fail
              have hz := Blk.set4 (a' := .int .i64 n) (b' := .slice (some ⟨db, 0, none⟩) G G) (c' := .slice As ll cs) (d' := .slice Aa ll ca) HBR.out
              have hgz := grown4 wr rb (.int .i64 n) (.slice (some ⟨db, 0, none⟩) G G) (.slice As ll cs) (.slice Aa ll ca)
              have hrlt : rb < wb.heap.size := HBK0.out.lt
              have HOUT := Lib.hid (RT.out HRT.out hgz HBR.out)
              have HZ := Lib.hid hz
              have HBZ := Lib.hid (show Below w.heap.size w ((((wr.setCell ⟨rb, 0, none⟩ (.int .i64 n)).setCell ⟨rb, 1, none⟩ (.slice (some ⟨db, 0, none⟩) G G)).setCell ⟨rb, 2, none⟩ (.slice As ll cs)).setCell ⟨rb, 3, none⟩ (.slice Aa ll ca)) from
                (HBW.out.trans (HRT.out.bel.mono HBW.out.size)).grown hgz (Nat.le_trans HBW.out.size HRT.out.bel.size) (fun k e => by have e := Option.some.inj e; have := HRB.out; omega))
              clear hca hc0 hc1 hcs hr0 hr1 hr2 hr3 hg0 hg1 hg2 hg3 hz hgz
              generalize (((wr.setCell ⟨rb, 0, none⟩ (.int .i64 n)).setCell ⟨rb, 1, none⟩ (.slice (some ⟨db, 0, none⟩) G G)).setCell ⟨rb, 2, none⟩ (.slice As ll cs)).setCell ⟨rb, 3, none⟩ (.slice Aa ll ca) = wz at *
              obtain ⟨fs, hfs⟩ := map_desc
              (try simp only [Exit.inBlock, Exit.then])
              refine bodyPost_ret (v := .tuple #[.agg (rmc n G ll db G As cs Aa ca), .int .i64 0]) ?_ rfl ⟨db, G, As, cs, Aa, ca, wb.heap.size, O, ?_, ⟨?_, HD.out, HR.out.each, HL.out, hn, hG⟩, ?_, HBZ.out⟩
              · exact results_row_tmp rfl _ _ rb 40 _ (0, 0) _ rfl HZ.out hfs rfl map_size4 _ rfl
              · have hSf : fB n G ks O = S := by rw [fB, HGF.out]; exact HSS.out
                rw [hSf, HLE.out]
              · rw [HGF.out]; exact HON.out
              · have hSf : fB n G ks O = S := by rw [fB, HGF.out]; exact HSS.out
                rw [hSf]
                refine ⟨HOUT.out.2.1.lt, fun i hi => by rw [HOUT.out.2.1.cell, sdq_get _ hi], (OwnK.rd HOUT.out.2.2.1 (fun k hk => HR.out.each k (left_sub n gf ks O k (by rw [HSS.out]; exact hk)))), ?_, Nat.le_refl _⟩
                rw [HFE.out]
                exact HOUT.out.2.2.2
end Go.Proofs.Ytacijjioaanlgaa
