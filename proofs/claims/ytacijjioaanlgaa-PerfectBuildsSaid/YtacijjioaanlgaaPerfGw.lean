/- The contract of groups of package perfect. No statement of the seat is proved here. -/
import Derived.Test.YtacijjioaanlgaaPerfGs
import Derived.Test.YtacijjioaanlgaaKeyRow
import Derived.Test.YtacijjioaanlgaaPerfSort
import Derived.Test.YtacijjioaanlgaaPerfFold
namespace Go.Proofs.Ytacijjioaanlgaa
open Go.RowKit Go.Sort
set_option linter.unusedVariables false

/-- What groups hands back. -/
structure GOut (w : World) (gb G : Nat) (gf : KeyT → Nat) (ks : List KeyT) (F : List GT) : Prop where
  row : ∃ Z, GRow w gb (F ++ Z).toArray
  len : F.length ≤ G
  idx : ∀ g ∈ F, g.idx < G
  keys : ∀ g ∈ F, g.keys = ks.filter fun k => decide (gf k = g.idx)
  rd : ∀ g ∈ F, RdK w w.heap.size g.adr g.keys
  le : ∀ g ∈ F, g.keys.length ≤ g.cap ∧ g.cap ≤ maxLen
  ord : Ord (cntK gf ks) G (F.map (·.idx))
theorem GS.final {w w' : World} {B gb G : Nat} {gf : KeyT → Nat} {ks : List KeyT} {d : Array GT} (h : GS w B gb G gf ks d) (ho : ∀ k ∈ ks, k.Ok) (hg : w.grownBy w' (some gb)) {F' Z : List GT} (hp : F'.Perm (some_ d.toList)) (hs : F'.Pairwise (fun a b => ltOf cfG b a = false)) (hrow : GRow w' gb (F' ++ Z).toArray) :
    GOut w' gb G gf ks F' := by
  have hat : ∀ g ∈ F', ∃ i, i < G ∧ d[i]! = g := fun g hg' => by
    have h1 : g ∈ d.toList := (List.mem_filter.1 (hp.mem_iff.1 hg')).1
    obtain ⟨i, hi, rfl⟩ := List.getElem_of_mem h1
    have hi' : i < d.size := by simpa using hi
    exact ⟨i, by rw [← h.size]; exact hi', by rw [bang _ _ hi']; simp⟩
  have hne : ∀ g ∈ F', 0 < g.keys.length := fun g hg' => by
    have h1 := hp.mem_iff.1 hg'
    rw [some_, List.mem_filter] at h1
    have := h1.2
    simp only [emp, Bool.not_eq_true', decide_eq_false_iff_not] at this
    omega
  have hown : ∀ i, i < G → OwnK w' B d[i]!.adr d[i]!.cap d[i]!.keys := fun i hi => ownsRow_same (h.own i hi) fun g hv hl => hg.block g hl (fun e => by
    injection e with e
    subst e
    rcases (h.own i hi).2 with ⟨hv2, _⟩ | ⟨g2, cp, cur, hv2, _, hh, _⟩
    · rw [hv2] at hv; cases hv
    · rw [hv2] at hv
      injection hv with hv
      have hv : g2 = g := hv
      subst hv
      have := (show w.heap[g2]? = some (.cells (flatK gcs 2 d) 60 (0, 0)) from h.row)
      rw [hh] at this
      injection this with this
      injection this with _ this _
      exact absurd this (by decide))
  have hidx : ∀ g ∈ F', g.idx < G ∧ g.keys = ks.filter fun k => decide (gf k = g.idx) := fun g hg' => by
    obtain ⟨i, hi, rfl⟩ := hat g hg'
    rw [h.idx i hi]
    exact ⟨hi, h.keys i hi⟩
  refine ⟨⟨Z, hrow⟩, ?_, fun g hg' => (hidx g hg').1, fun g hg' => (hidx g hg').2, fun g hg' => ?_, fun g hg' => ?_, ?_, fun i => ?_⟩
  · rw [hp.length_eq]
    refine Nat.le_trans (List.length_filter_le _ _) ?_
    rw [Array.length_toList, h.size]; exact Nat.le_refl _
  · obtain ⟨i, hi, rfl⟩ := hat g hg'
    refine OwnK.rd (hown i hi) fun k hk => ho k ?_
    rw [h.keys i hi] at hk
    exact (List.mem_filter.1 hk).1
  · obtain ⟨i, hi, rfl⟩ := hat g hg'
    rcases (hown i hi).2 with ⟨hv, h0⟩ | ⟨g2, cp, cur, hv, _, _, h1, h2, _⟩
    · injection hv with _ _ hv
      rw [hv, h0]
      exact ⟨Nat.le_refl _, by simp [maxLen]⟩
    · injection hv with _ _ hv
      rw [hv]
      exact ⟨h1, h2⟩
  · rw [List.pairwise_map]
    have hnd : F'.Pairwise (fun a b => a.idx ≠ b.idx) := by
      have h1 : d.toList.Pairwise (fun a b => a.idx ≠ b.idx) := by
        rw [List.pairwise_iff_getElem]
        intro i j hi hj hij
        have hi' : i < d.size := by simpa using hi
        have hj' : j < d.size := by simpa using hj
        have e1 := h.idx i (by rw [← h.size]; exact hi')
        have e2 := h.idx j (by rw [← h.size]; exact hj')
        rw [bang _ _ hi'] at e1
        rw [bang _ _ hj'] at e2
        simp only [Array.getElem_toList]
        omega
      exact (hp.symm.pairwise_iff (fun {a b} (h : a.idx ≠ b.idx) => h.symm)).1 (h1.filter _)
    have hboth : F'.Pairwise (fun a b => a ∈ F' ∧ b ∈ F' ∧ ltOf cfG b a = false ∧ a.idx ≠ b.idx) := by
      have h3 := hs.and hnd
      exact List.Pairwise.imp_of_mem (fun {a b} ha hb hab => ⟨ha, hb, hab.1, hab.2⟩) h3
    refine hboth.imp fun {a b} ⟨ha, hb, hl, hne'⟩ => ?_
    rw [ltG, decide_eq_false_iff_not] at hl
    have k1 := (hidx a ha).2
    have k2 := (hidx b hb).2
    unfold ahead2 cntK grpK
    rw [← k1, ← k2]
    omega
  · rw [List.mem_map]
    constructor
    · rintro ⟨g, hg', rfl⟩
      refine ⟨(hidx g hg').1, ?_⟩
      unfold cntK grpK
      rw [← (hidx g hg').2]
      exact hne g hg'
    · rintro ⟨hi, hc⟩
      have hid : i < d.size := by rw [h.size]; exact hi
      refine ⟨d[i]!, hp.mem_iff.2 ?_, h.idx i hi⟩
      rw [some_, List.mem_filter]
      refine ⟨by rw [bang _ _ hid]; simp, ?_⟩
      have := h.keys i hi
      simp only [emp, Bool.not_eq_true', decide_eq_false_iff_not]
      unfold cntK grpK at hc
      rw [← this] at hc
      omega
set_option maxRecDepth 100000 in
set_option maxHeartbeats 4000000 in
theorem groups_any (A : Option Addr) (ks : List KeyT) (n c G : Nat) (hl : ks.length = n) (hc : n ≤ c) (hm : c ≤ maxLen) (hn : n ≤ 16384) (hG0 : 0 < G) (hG : G ≤ 16384) (w : World) (hr : RdK w w.heap.size A ks) :
    Calls Try.prog 21 #[.slice A n c, .int .i64 G] w fun e w' => ∃ gb F, e = .returned (.slice (some ⟨gb, 0, none⟩) F.length G) ∧ w.heap.size ≤ gb ∧ GOut w' gb G (fun k => HH 0 k % G) ks F ∧ Below w.heap.size w w' := by
  obtain ⟨i0, hi0, hz0, hz1, hz2⟩ := info_parts info_group
  obtain ⟨i1, hi1, hy0, hy1, hy2⟩ := info_parts info_key
  have hmk := run_make (P := Try.prog) w 57 60 i0 _ Try.underlying57 hi0 hz0 .i64 .i64 (G : Int) (G : Int) (by omega) (by omega) (by rw [hz2]; omega) (by omega)
  rw [hz1] at hmk
  have hm63 : c ≤ 9223372036854775807 := by unfold maxLen at hm; omega
  have hG63 : G ≤ 9223372036854775807 := by omega
  have HL := Lib.hid hl
  have HR := Lib.hid hr
  obtain ⟨fs, hfs⟩ := key_desc
  have HF := Lib.hid hfs
  obtain ⟨gb, hgb⟩ : ∃ gb, w.heap.size = gb := ⟨_, rfl⟩
  have HGB := Lib.hid hgb
  have HB0 := Lib.hid ((Below.refl w.heap.size w).alloc (Nat.le_refl _) (.cells (madeCells #[.int .i64 0, .slice none 0 0] (G * 2)) 60))
  have HR0 := Lib.hid (show GRow (w.alloc (.cells (madeCells #[.int .i64 0, .slice none 0 0] (G * 2)) 60)) gb (rowI G 0) by
    rw [← hgb, made_flat, rowI_zero]; exact Blk.new w 60 _)
  obtain ⟨gf, hgf⟩ : ∃ gf : KeyT → Nat, (fun k => HH 0 k % G) = gf := ⟨_, rfl⟩
  have HPOST := Lib.hid (show (fun k : KeyT => HH 0 k % G) = gf from hgf)
  rw [hgf]
  have HOKS := Lib.hid hr.each
  have HGF := Lib.hid (show ∀ k, HH 0 k % G = gf k ∧ gf k < G from fun k => by subst hgf; exact ⟨rfl, Nat.mod_lt _ hG0⟩)
  have HI := Lib.hid (show ∀ x : KeyT, x.Ok → ∀ W, Calls Try.prog 28 #[.int .u64 0, .agg (kcs x).toArray, .int .i64 G] W fun e w' => e = .returned (.int .i64 (gf x)) ∧ Below W.heap.size W w' from fun x hx W => by
    subst hgf
    exact index_zero G hG0 (by omega) x hx W)
  have HI1 := Lib.hid (And.intro hi1 (And.intro hy0 (And.intro hy1 hy2)))
  clear hl hr hfs hm hgb hi0 hz0 hz1 hz2 hgf hi1 hy0 hy1 hy2
  go_enter Try.func21, Try.ntmps21
  go_wp2_with fail
  rw [HGB.out]
  clear hmk
  go_loopw [15] (fun i wr => ∃ j : Nat, j ≤ G ∧ i = .int .i64 j ∧ GRow wr gb (rowI G j) ∧ Below w.heap.size w wr) (fun i _ => G - (intOf i).toNat)
  case atStart => exact ⟨0, Nat.zero_le _, rfl, HR0.out, HB0.out⟩
  case round =>
    clear HR0 HB0
    obtain ⟨j, hj, rfl, hrow, hbel⟩ := hrel
    by_cases hlt : j < G
    · have hc0 := GRow.c0 hrow (i := j) (by rw [rowI_size]; exact hlt)
      have hf0 := Blk.frozen hrow (j * 2)
      have HRS := Lib.hid (show GRow (wr.setCell ⟨gb, j * 2, none⟩ (.int .i64 j)) gb (rowI G (j + 1)) by
        have := Blk.set_ hrow (j * 2) (.int .i64 j)
        rw [rowI_succ hlt] at this
        exact this)
      have HBS := Lib.hid (hbel.grown (grownBy_cell wr gb (j * 2) (.int .i64 j)) hbel.size (fun k e => by injection e with e; rw [HGB.out]; omega))
      have hi1 : (0 : Int) ≤ (j : Int) := by omega
      have hi2 : (j : Int) < (G : Int) := by omega
      clear hrow hbel
      go_wp2_with fail
      go_roundw
      case rel => exact ⟨j + 1, by omega, by go_num, HRS.out, HBS.out⟩
      case measure => simp [intOf]; omega
    · obtain rfl : G = j := by omega
      have HGS := Lib.hid (And.intro (GS.start (B := w.heap.size) (gf := gf) hrow) hbel)
      clear hrow hbel
      go_wp2_with fail
      go_loopw [26] (fun i wz => ∃ (j : Nat) (d : Array GT), j ≤ n ∧ i = .int .i64 j ∧ GS wz w.heap.size gb G gf (ks.take j) d ∧ Below w.heap.size w wz) (fun i _ => n - (intOf i).toNat)
      case atStart => exact ⟨0, _, Nat.zero_le _, rfl, by simpa using HGS.out.1, HGS.out.2⟩
      case round =>
        clear HGS
        obtain ⟨j, d, hj, rfl, hgs, hbel⟩ := hrel
        by_cases hlt : j < n
        · have hjx : j < ks.length := by rw [HL.out]; exact hlt
          obtain ⟨g, off, rfl, hg, hra, hok⟩ := (HR.out.below hbel).at_ hjx
          obtain ⟨x, hx⟩ : ∃ x, ks[j] = x := ⟨_, rfl⟩
          have HTK := Lib.hid (show ks.take (j + 1) = ks.take j ++ [x] by rw [List.take_succ_eq_append_getElem hjx, hx])
          rw [hx] at hra hok
          obtain ⟨p, hp⟩ : ∃ p, gf x = p := ⟨_, rfl⟩
          have hpG : p < G := hp ▸ (HGF.out x).2
          have HP := Lib.hid hp
          have HKS := Lib.hid (show (Try.prog.info? 27).map (·.size) = some (kcs x).length by rw [kcs_length hok]; exact key_size)
          have HKS2 := Lib.hid (show (Try.prog.info? 27).map (·.size) = some (kcs x).toArray.size by rw [List.size_toArray]; exact HKS.out)
          have HOLD := Lib.hid (show (kz 0).size = (kcs x).toArray.size from (show (kz 0).size = 33 from rfl).trans (by rw [List.size_toArray, kcs_length hok]))
          have HRA := Lib.hid hra
          obtain ⟨w1, hw1⟩ : ∃ w1, wr.alloc (.cells (kcs x).toArray 27) = w1 := ⟨_, rfl⟩
          obtain ⟨kb, hkb⟩ : ∃ kb, wr.heap.size = kb := ⟨_, rfl⟩
          have HB1 := Lib.hid (show Blk w1 kb 27 (kcs x).toArray by rw [← hw1, ← hkb]; exact Blk.new wr 27 (kcs x).toArray)
          have HB1W := Lib.hid (show Blk (wr.alloc (.cells (kcs x).toArray 27)) wr.heap.size 27 (kcs x).toArray from Blk.new wr 27 (kcs x).toArray)
          have HBZ := Lib.hid (Blk.new wr 27 (kz 0))
          have HONE := Lib.hid (kcs_one (k := x))
          have hbx : Below wr.heap.size wr w1 := hw1 ▸ (Below.refl wr.heap.size wr).alloc (Nat.le_refl _) (.cells (kcs x).toArray 27)
          have HW1 := Lib.hid hw1
          have HKB := Lib.hid hkb
          have HGS1 := Lib.hid (hgs.on hbx)
          have HKN := Lib.hid (show (Value.slice d[p]!.adr d[p]!.keys.length d[p]!.cap).ownBlock ≠ some kb from fun e => by
            have := (World.ownsRow.lt (hgs.own p hpG) kb e).2
            omega)
          have HGK := Lib.hid (show gb ≠ kb from fun e => by have := Blk.lt hgs.row; omega)
          have HBL1 := Lib.hid (hbel.trans (hbx.mono hbel.size))
          have KI := Lib.hid (hp ▸ HI.out x hok w1)
          have HOK := Lib.hid hok
          have hi1 : (0 : Int) ≤ (j : Int) := by omega
          have hi2 : (j : Int) < (n : Int) := by omega
          clear hra hok hgs hbel hx hp hw1 hkb hbx
          go_wp2_with (first
            | refine wpList_load_mid rfl 27 (.tmp 28) rfl g (off + j * 33) rfl (kcs x) (.struct fs) HRA.out HF.out rfl HKS.out ?_
            | (refine wpList_store_row rfl 27 (.tmp 8) (.tmp 29) rfl wr.heap.size (kcs x).toArray rfl rfl 27 (kz 0) HBZ.out HKS2.out HOLD.out HONE.out ?_; rw [setRow_alloc])
            | refine wpList_load_row rfl 27 (.tmp 8) rfl wr.heap.size rfl 27 (kcs x).toArray (0, 0) (.struct fs) HB1W.out HF.out rfl HKS2.out ?_)
          rw [HW1.out, HKB.out]
          (with_reducible refine KI.out.mono ?_)
          rintro e w2 ⟨rfl, hb2⟩
          have hgs2 := HGS1.out.on hb2
          have hkb2 := HB1.out.below hb2 HB1.out.lt
          have HBL2 := Lib.hid (HBL1.out.trans (hb2.mono HBL1.out.size))
          have HGS2 := Lib.hid hgs2
          have HKB2 := Lib.hid hkb2
          have hi3 : (0 : Int) ≤ (p : Int) := by omega
          have hi4 : (p : Int) < (G : Int) := by omega
          clear hb2 hgs2 hkb2
          go_wp2_with fail
          have HRB := Lib.hid (show (w2.drew.alloc (.cells (kcs x).toArray 27)).rangeAt kb 0 (kcs x) from range_of_blk (HKB2.out.below (w' := w2.drew.alloc (.cells (kcs x).toArray 27)) (B := w2.heap.size) ((show Below w2.heap.size w2 w2.drew from ⟨rfl, rfl, rfl, Nat.le_refl _, fun _ _ => rfl⟩).alloc (Nat.le_refl _) _) HKB2.out.lt))
          have HOA := Lib.hid (show OwnK (w2.drew.alloc (.cells (kcs x).toArray 27)) w.heap.size d[p]!.adr d[p]!.cap d[p]!.keys from World.ownsRow.alloc (w := w2.drew) (HGS2.out.own p hpG) _)
          have HNW := Lib.hid (show ∀ (j : Nat) (u : Value), (kcs x)[j]? = some u → (w2.drew.alloc (.cells (kcs x).toArray 27)).cell? ((⟨w2.drew.heap.size, 0, none⟩ : Addr).add j) = some u from fun j u hu => by
            rw [Addr.add_lit, (Blk.new w2.drew 27 (kcs x).toArray).cell, Nat.zero_add, List.getElem?_toArray]; exact hu)
          have HONE2 := Lib.hid (show ∀ u ∈ kcs x, u.oneCell' = true from fun u hu => by
            rcases List.mem_append.1 hu with h | h
            · exact bv_oneCell _ u h
            · rw [List.mem_singleton.1 h]; rfl)
          have hkl : d[p]!.keys.length ≤ n := by
            rw [HGS2.out.keys p hpG]
            refine Nat.le_trans (List.length_filter_le _ _) ?_
            rw [List.length_take]; omega
          have HLE := Lib.hid (show d[p]!.keys.length + 1 ≤ maxLen ∧ (d[p]!.keys.length + 1) * 36 ≤ 140737488355328 from ⟨by unfold maxLen; omega, by omega⟩)
          have HLE2 := Lib.hid (show w.heap.size ≤ (w2.drew.alloc (.cells (kcs x).toArray 27)).heap.size by have := HBL2.out.size; simp; exact Nat.le_succ_of_le this)
          clear hkl
          have hbB : Below w2.heap.size w2 (w2.drew.alloc (.cells (kcs x).toArray 27)) := (show Below w2.heap.size w2 w2.drew from ⟨rfl, rfl, rfl, Nat.le_refl _, fun _ _ => rfl⟩).alloc (Nat.le_refl _) _
          have HGSB := Lib.hid (HGS2.out.on hbB)
          have HCS2 := Lib.hid (GRow.c1 HGSB.out.row (i := p) (by rw [HGSB.out.size]; exact hpG))
          have HBB := Lib.hid (show ∀ (w3 : World) (r : Option Nat), (w2.drew.alloc (.cells (kcs x).toArray 27)).grownBy w3 r → (∀ k, r = some k → w.heap.size ≤ k ∧ k < (w2.drew.alloc (.cells (kcs x).toArray 27)).heap.size) → ∀ v, Below w.heap.size w (w3.setCell ⟨gb, p * 2 + 1, none⟩ v) from fun w3 r hg hr v => by
            have h1 := (HBL2.out.trans (hbB.mono HBL2.out.size)).grown hg (Nat.le_trans HBL2.out.size hbB.size) (fun k e => (hr k e).1)
            exact h1.grown (grownBy_cell w3 gb (p * 2 + 1) v) h1.size (fun k e => by injection e with e; rw [HGB.out]; omega))
          have HNE := Lib.hid (show some gb ≠ (Value.slice d[p]!.adr d[p]!.keys.length d[p]!.cap).ownBlock from fun e => by
            rcases (HGSB.out.own p hpG).2 with ⟨hv, _⟩ | ⟨g', cp, cur, hv, _, hh, _⟩
            · rw [hv] at e; cases e
            · rw [hv] at e
              injection e with e
              have e : gb = g' := e
              subst e
              have := (show (w2.drew.alloc (.cells (kcs x).toArray 27)).heap[gb]? = some (.cells (flatK gcs 2 d) 60 (0, 0)) from HGSB.out.row)
              rw [hh] at this
              injection this with this
              injection this with _ this _
              exact absurd this (by decide))
          have HFR := Lib.hid (show ∀ w3 : World, (w2.drew.alloc (.cells (kcs x).toArray 27)).grownBy w3 (Value.slice d[p]!.adr d[p]!.keys.length d[p]!.cap).ownBlock → w3.cell? ⟨gb, p * 2 + 1, none⟩ = some (.slice d[p]!.adr d[p]!.keys.length d[p]!.cap) ∧ w3.frozen? ⟨gb, p * 2 + 1, none⟩ = false from fun w3 hg => by
            have hrow : GRow w3 gb d := Blk.same HGSB.out.row (hg.block gb (Blk.lt HGSB.out.row) HNE.out)
            exact ⟨GRow.c1 hrow (by rw [HGSB.out.size]; exact hpG), Blk.frozen hrow _⟩)
          have HR3A := Lib.hid (show ∀ w3 : World, (w2.drew.alloc (.cells (kcs x).toArray 27)).grownBy w3 (Value.slice d[p]!.adr d[p]!.keys.length d[p]!.cap).ownBlock → w3.rangeAt kb 0 (kcs x) from fun w3 hg j u hu => by
            rw [World.cell?_of_block (hg.block kb (Nat.lt_of_lt_of_le HKB2.out.lt hbB.size) (fun e => HKN.out e.symm))]
            exact HRB.out j u hu)
          clear hbB
          have hcs : w2.drew.cell? ⟨gb, p * 2 + 1, none⟩ = some (.slice d[p]!.adr d[p]!.keys.length d[p]!.cap) := GRow.c1 HGS2.out.row (by rw [HGS2.out.size]; exact hpG)
          refine wp_region_held_drew (S := fun W => W.rangeAt kb 0 (kcs x)) (by kernel_rfl) (range_of_blk (w := w2) HKB2.out) (fun hHeld => ?_)
          refine wpAnyH_take (i := 5) (oi := { dst := some 40, op := Op.load 27 (Operand.tmp 8), type := 27, pos := "perfect.go:86", after := #[], guard := none }) (v := .agg (kcs x).toArray) rfl (by kernel_rfl) (by kernel_rfl) (by kernel_rfl) (fun _ _ _ h => h)
            (yieldsIf_load_mid (by rfl) _ _ rfl kb 0 rfl (kcs x) (.struct fs) (fun _ h => h) HF.out rfl HKS.out) (by assumption) ?_
          refine wpAnyH_take (i := 0) (oi := _) (v := .pointer (some ⟨gb, p * 2, none⟩)) rfl (by kernel_rfl) (by kernel_rfl) (by kernel_rfl) (fun _ _ _ h => h) (Or.inl ⟨by rfl, by intro w hSw; go_simp⟩) (by assumption) ?_
          refine wpAnyH_take (i := 1) (oi := _) (v := .pointer (some ⟨gb, p * 2, none⟩)) rfl (by kernel_rfl) (by kernel_rfl) (by kernel_rfl) (fun _ _ _ h => h) (Or.inl ⟨by rfl, by intro w hSw; go_simp⟩) (by assumption) ?_
          refine wpAnyH_take (i := 2) (oi := _) (v := .pointer (some ⟨gb, p * 2, none⟩)) rfl (by kernel_rfl) (by kernel_rfl) (by kernel_rfl) (fun _ _ _ h => h) (Or.inl ⟨by rfl, by intro w hSw; go_simp⟩) (by assumption) ?_
          refine wpAnyH_take (i := 3) (oi := _) (v := .pointer (some ⟨gb, p * 2 + 1, none⟩)) rfl (by kernel_rfl) (by kernel_rfl) (by kernel_rfl) (fun _ _ _ h => h) (Or.inl ⟨by rfl, by intro w hSw; go_simp⟩) (by assumption) ?_
          simp only [Act.put, List.setIfInBounds_toArray, List.set_cons_zero, List.set_cons_succ]
          refine wpAnyH_ready (rs := [4, 6]) (by kernel_rfl) (by simp) ?_
          have hcs2 : (w2.alloc (.cells (kcs x).toArray 27)).cell? ⟨gb, p * 2 + 1, none⟩ = some (.slice d[p]!.adr d[p]!.keys.length d[p]!.cap) := HCS2.out
          refine AllReadyH.cons rfl (fun K hK => ?_) (AllReadyH.cons rfl (fun K hK => ?_) AllReadyH.nil)
          focus
            go_simp
            refine hK.out _ _ hHeld (fun _ => ?_)
            clear hK K
            refine wpAnyH_ready (rs := [6]) (by kernel_rfl) (by simp) ?_
            refine AllReadyH.cons rfl (fun K hK => ?_) AllReadyH.nil
            rw [if_pos (by rfl)]
            refine wp_buildKey (.tmp 40) rfl HOK.out rfl ?_
            refine hK.out _ _ HRB.out (fun _ => ?_)
            clear hK K
          rotate_left
          focus
            rw [if_pos (by rfl)]
            refine wp_buildKey (.tmp 40) rfl HOK.out rfl ?_
            refine hK.out _ _ HRB.out (fun _ => ?_)
            clear hK K
            simp only [List.getElem_toArray, List.getElem_cons_zero, List.getElem_cons_succ, Act.put, List.setIfInBounds_toArray, List.set_cons_zero, List.set_cons_succ]
            refine wpAnyH_ready (rs := [4]) (by kernel_rfl) (by simp) ?_
            refine AllReadyH.cons rfl (fun K hK => ?_) AllReadyH.nil
            go_simp
            refine hK.out _ _ HRB.out (fun _ => ?_)
            clear hK K
          all_goals
            try simp only [List.getElem_toArray, List.getElem_cons_zero, List.getElem_cons_succ, Act.put, List.setIfInBounds_toArray, List.set_cons_zero, List.set_cons_succ]
            refine wpAnyH_ready (rs := [7]) (by kernel_rfl) (by simp) ?_
            refine AllReadyH.cons rfl (fun K hK => ?_) AllReadyH.nil
            refine step_append_lies _ (by rfl) _ _ _ (by rfl) w.heap.size 27 i1 _ 33 36 Try.underlying31 HI1.out.1 HI1.out.2.1 HI1.out.2.2.1 HI1.out.2.2.2 rfl (by omega) _ d[p]!.keys.length (d[p]!.keys.flatMap kcs) (by rfl) HOA.out
              ⟨w2.drew.heap.size, 0, none⟩ 1 1 (kcs x) (by rfl) (by rw [kcs_length HOK.out]) HNW.out HONE2.out (by omega) HLE.out.1 HLE.out.2 HLE2.out _ rfl ?_
            intro gg cap w3 hown3 hgrow3 hat3 hlt3
            have HPU := Lib.hid (GS.push HGSB.out hpG HP.out hown3 hgrow3 (hat3.imp id (fun e => Nat.le_of_eq e.symm)))
            have HBU := Lib.hid (HBB.out w3 _ hgrow3 (World.ownsRow.lt HOA.out) (.slice (some ⟨gg, 0, none⟩) (d[p]!.keys.length + 1) cap))
            have hcs3 := HFR.out w3 hgrow3
            have hfz3 := hcs3.2
            have HR3 := Lib.hid (HR3A.out w3 hgrow3)
            refine hK.out _ _ HR3.out (fun _ => ?_)
            clear hK K hcs hcs2 hown3 hgrow3 hat3
            simp only [List.getElem_toArray, List.getElem_cons_zero, List.getElem_cons_succ, Act.put, List.setIfInBounds_toArray, List.set_cons_zero, List.set_cons_succ]
            refine wpAnyH_ready (rs := [8]) (by kernel_rfl) (by simp) ?_
            refine AllReadyH.cons rfl (fun K hK => ?_) AllReadyH.nil
            go_simp
            refine hK.out _ _ HR3.out (fun _ => ?_)
            clear hK K
            refine wpAnyH_ready (rs := [9]) (by kernel_rfl) (by simp) ?_
            refine AllReadyH.cons rfl (fun K hK => ?_) AllReadyH.nil
            go_simp
            refine hK.out _ _ HR3.out (fun _ => ?_)
            clear hK K
            refine wpAnyH_ready (rs := [10]) (by kernel_rfl) (by simp) ?_
            refine AllReadyH.cons rfl (fun K hK => ?_) AllReadyH.nil
            go_simp
            refine hK.out _ _ (fun j u hu => by rw [World.cell?_of_block (setCell_block (fun e => HGK.out e.symm))]; exact HR3.out j u hu) (fun _ => ?_)
            clear hK K
            refine wpAnyH_done (by kernel_rfl) ?_ _
            clear hcs3 hfz3 hlt3
            go_wp2_with fail
            go_roundw
            case rel => exact ⟨j + 1, _, by omega, by go_num, by rw [HTK.out]; exact HPU.out, HBU.out⟩
            case measure => simp [intOf]; omega
        · obtain rfl : n = j := by omega
          rw [List.take_of_length_le (by rw [HL.out]; exact Nat.le_refl _)] at hgs
          have HGS := Lib.hid hgs
          have HBEL := Lib.hid hbel
          have KD := Lib.hid (delete_any gb G d.toList (by rw [Array.length_toList, hgs.size]) hG wr (by simpa using hgs.row))
          clear hgs hbel
          go_wp2_with fail
          (with_reducible refine KD.out.mono ?_)
          rintro e w2 ⟨rfl, hrow2, hg2⟩
          obtain ⟨m, hm⟩ : ∃ m, (some_ d.toList).length = m := ⟨_, rfl⟩
          have hmG : m ≤ G := by
            rw [← hm]
            refine Nat.le_trans (List.length_filter_le _ _) ?_
            rw [Array.length_toList, HGS.out.size]; exact Nat.le_refl _
          have KS := Lib.hid (sort_any gb m G (some_ d.toList) _ hm (by omega) w2 hrow2)
          have HG2 := Lib.hid hg2
          have HM := Lib.hid hm
          rw [hm]
          clear hrow2 hg2 hm
          go_wp2_with fail
          (with_reducible refine KS.out.mono ?_)
          rintro e w3 ⟨rfl, F', hp, hs, hrow3, hg3⟩
          have HPM := Lib.hid hp.length_eq
          have HOUT := Lib.hid (HGS.out.final HOKS.out (gby_trans HG2.out hg3) hp hs hrow3)
          have HB3 := Lib.hid (HBEL.out.grown (gby_trans HG2.out hg3) HBEL.out.size (fun k e => by injection e with e; rw [HGB.out]; omega))
          clear hp hs hrow3 hg3
          go_wp2_with fail
          go_ret
          exact ⟨gb, F', by rw [HPM.out, HM.out]; rfl, by rw [HGB.out]; exact Nat.le_refl _, HOUT.out, HB3.out⟩
end Go.Proofs.Ytacijjioaanlgaa
