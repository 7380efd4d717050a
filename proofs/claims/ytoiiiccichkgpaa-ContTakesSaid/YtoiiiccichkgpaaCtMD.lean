/- What the landed package cont does: isEmpty, isTooLong, and whether a piece is so. No statement of the seat is proved here. -/
import Derived.Test.YtoiiiccichkgpaaCtMF
import Derived.Test.YtoiiiccichkgpaaCtRow
import Derived.Test.YtoiiiccichkgpaaAllocZ
import Derived.Test.YtoiiiccichkgpaaKeyMap
import Derived.Deep.MidRow
import Derived.Deep.WholeRow
namespace Go.Proofs.Ytoiiiccichkgpaa
open Go.RowKit Go.Maps Go.Sort
set_option linter.unusedVariables false
set_option linter.unusedSimpArgs false

theorem pc_desc : ∃ fs, Try.prog.underlying 42 = some (.struct fs) := ⟨_, Try.underlying42⟩
theorem pc_size : (Try.prog.info? 42).map (·.size) = some 34 := by kernel_rfl
/-- A piece in a variable of its own. -/
structure PV (x : PieceT) : Prop where
  ks : (Try.prog.info? 42).map (·.size) = some (pcs x).length
  ks2 : (Try.prog.info? 42).map (·.size) = some (pcs x).toArray.size
  old : pz.size = (pcs x).toArray.size
  one : (pcs x).toArray.all (·.oneCell') = true
theorem pv_of {x : PieceT} (hx : x.p.Ok) : PV x :=
  ⟨by rw [pcs_length hx]; exact pc_size, by rw [List.size_toArray, pcs_length hx]; exact pc_size, (show (34 : Nat) = _ by rw [List.size_toArray, pcs_length hx]), all_oneCell_toArray (pcs_one x)⟩
theorem pv_data {x : PieceT} (hx : x.p.Ok) (w : World) : (w.alloc (.cells (pcs x).toArray 42)).cell? ⟨w.heap.size, 33, none⟩ = some (.slice x.adr x.p.data.length x.cap) := by
  rw [(Blk.new w 42 _).cell, List.getElem?_toArray]
  exact pcs_data hx
theorem dl_lt {ls : List PieceT} {j : Nat} (hj : j < ls.length) : ls[j].p.data.length = dl ls j := (dl_at hj).symm

theorem isEmpty_any (x : PieceT) (hx : x.p.Ok) (D : Nat) (hD : x.p.data.length = D) (t : Bool) (ht : t = true ↔ D = 0) (w : World) : Calls Try.prog 36 #[.agg (pcs x).toArray] w fun e w' => e = .returned (.bool t) ∧ Below w.heap.size w w' := by
  have HB := Lib.hid ((Below.refl w.heap.size w).alloc (Nat.le_refl _) (.cells (pcs x).toArray 42))
  have hc := pv_data hx w
  rw [hD] at hc
  obtain ⟨R, hR⟩ : ∃ R, (pcs x).toArray = R := ⟨_, rfl⟩
  obtain ⟨B, hB⟩ : ∃ B, x.adr = B := ⟨_, rfl⟩
  obtain ⟨C, hC⟩ : ∃ C, x.cap = C := ⟨_, rfl⟩
  rw [hR, hB, hC] at hc
  rw [hR] at HB ⊢
  have HT := Lib.hid ht
  clear hD hR hB hC ht hx
  go_enter Try.func36, Try.ntmps36
  go_wp2
  go_ret
  have e : ((D : Int) == 0) = t := by
    rw [Bool.eq_iff_iff, HT.out]
    simp <;> omega
  exact ⟨by rw [← e]; rfl, HB.out⟩
set_option maxRecDepth 100000 in
set_option maxHeartbeats 1000000 in
theorem ix_isEmpty (A : Option Addr) (ls : List PieceT) (k c : Nat) (hl : ls.length = k) (hk : k ≤ 3000) (t : Bool) (ht : t = true ↔ ∃ j, j < k ∧ dl ls j = 0) (w : World) (hr : RdPc w w.heap.size A ls) :
    Calls Try.prog 49 #[.slice A k c, .func (.func 36) #[] #[]] w fun e w' => ∃ I : Int, e = .returned (.int .i64 I) ∧ decide (0 ≤ I) = t ∧ Below w.heap.size w w' := by
  have HL := Lib.hid hl
  have HT := Lib.hid ht
  have HR := Lib.hid hr
  obtain ⟨fs, hfs⟩ := pc_desc
  have HF := Lib.hid hfs
  clear hl ht hr hfs
  go_enter Try.func49, Try.ntmps49
  go_wp2_with fail
  go_loopw [8] (fun i wr => ∃ j : Nat, j ≤ k ∧ i = .int .i64 j ∧ Hid (∀ q, q < j → ¬ dl ls q = 0) ∧ Below w.heap.size w wr) (fun i _ => k - (intOf i).toNat)
  case atStart => exact ⟨0, Nat.zero_le _, rfl, Lib.hid (fun q hq => absurd hq (Nat.not_lt_zero _)), Below.refl _ _⟩
  case round =>
    obtain ⟨j, hj, rfl, hno, hbel⟩ := hrel
    have HB := Lib.hid hbel
    by_cases hlt : j < k
    · have hjl : j < ls.length := by rw [HL.out]; exact hlt
      obtain ⟨g, off, rfl, hg, hra, ho⟩ := (HR.out.below hbel).at_ hjl
      have hdj := dl_lt hjl
      have HPV := Lib.hid (pv_of ho.ok)
      have HRA := Lib.hid hra
      obtain ⟨D, hD⟩ : ∃ D, dl ls j = D := ⟨_, rfl⟩
      rw [hD] at hdj
      have hi1 : (0 : Int) ≤ (j : Int) := by omega
      have hi2 : (j : Int) < (k : Int) := by omega
      by_cases he : D = 0
      · have KP := Lib.hid (isEmpty_any ls[j] ho.ok D hdj true (by simp [he]) wr)
        have HTT := Lib.hid (show true = t from (HT.out.2 ⟨j, hlt, by rw [hD]; exact he⟩).symm)
        generalize (ls[j]'hjl) = x at *
        clear hbel hra hno hdj hD he ho HT HR
        go_wp2_with (refine wpList_load_mid rfl 42 (.tmp 14) rfl g (off + j * 34) rfl (pcs x) (.struct fs) HRA.out HF.out rfl HPV.out.ks ?_)
        (with_reducible refine KP.out.mono ?_)
        rintro e w2 ⟨rfl, hb2⟩
        have HB2 := Lib.hid (HB.out.trans (hb2.mono HB.out.size))
        clear hb2
        go_wp2_with fail
        go_ret
        exact ⟨_, rfl, by rw [← HTT.out]; exact decide_eq_true hi1, HB2.out⟩
      · have KP := Lib.hid (isEmpty_any ls[j] ho.ok D hdj false (by simp [he]) wr)
        have HNX := Lib.hid (show ∀ q, q < j + 1 → ¬ dl ls q = 0 from fun q hq => by
          by_cases hqj : q < j
          · exact hno.out q hqj
          · obtain rfl : q = j := by omega
            rw [hD]; exact he)
        generalize (ls[j]'hjl) = x at *
        clear hbel hra hno hdj hD he ho HT HR
        go_wp2_with (refine wpList_load_mid rfl 42 (.tmp 14) rfl g (off + j * 34) rfl (pcs x) (.struct fs) HRA.out HF.out rfl HPV.out.ks ?_)
        (with_reducible refine KP.out.mono ?_)
        rintro e w2 ⟨rfl, hb2⟩
        have HB2 := Lib.hid (HB.out.trans (hb2.mono HB.out.size))
        clear hb2
        go_wp2_with fail
        go_roundw
        case rel => exact ⟨j + 1, by omega, by go_num, HNX, HB2.out⟩
        case measure => simp [intOf]; omega
    · have HTT := Lib.hid (show false = t from by
        cases t with
        | false => rfl
        | true =>
          obtain ⟨q, hq, hp⟩ := HT.out.1 rfl
          exact absurd hp (hno.out q (by omega)))
      clear hbel hno
      go_wp2_with fail
      go_ret
      exact ⟨_, rfl, by rw [← HTT.out]; rfl, HB.out⟩
set_option maxHeartbeats 1000000 in
theorem has_isEmpty (A : Option Addr) (ls : List PieceT) (k c : Nat) (hl : ls.length = k) (hk : k ≤ 3000) (t : Bool) (ht : t = true ↔ ∃ j, j < k ∧ dl ls j = 0) (w : World) (hr : RdPc w w.heap.size A ls) :
    Calls Try.prog 35 #[.slice A k c, .func (.func 36) #[] #[]] w fun e w' => e = .returned (.bool t) ∧ Below w.heap.size w w' := by
  have HI := Lib.hid (ix_isEmpty A ls k c hl hk t ht w hr)
  clear hl ht hr
  go_enter Try.func35, Try.ntmps35
  go_wp2_with fail
  refine HI.out.mono ?_
  rintro e w2 ⟨I, rfl, hd, hb⟩
  have HD := Lib.hid hd
  have HB := Lib.hid hb
  clear hd hb
  go_wp2_with fail
  go_ret
  exact ⟨by rw [← HD.out]; rfl, HB.out⟩

theorem isTooLong_any (x : PieceT) (hx : x.p.Ok) (D : Nat) (hD : x.p.data.length = D) (t : Bool) (ht : t = true ↔ 4096 < D) (w : World) : Calls Try.prog 37 #[.agg (pcs x).toArray] w fun e w' => e = .returned (.bool t) ∧ Below w.heap.size w w' := by
  have HB := Lib.hid ((Below.refl w.heap.size w).alloc (Nat.le_refl _) (.cells (pcs x).toArray 42))
  have hc := pv_data hx w
  rw [hD] at hc
  obtain ⟨R, hR⟩ : ∃ R, (pcs x).toArray = R := ⟨_, rfl⟩
  obtain ⟨B, hB⟩ : ∃ B, x.adr = B := ⟨_, rfl⟩
  obtain ⟨C, hC⟩ : ∃ C, x.cap = C := ⟨_, rfl⟩
  rw [hR, hB, hC] at hc
  rw [hR] at HB ⊢
  have HT := Lib.hid ht
  clear hD hR hB hC ht hx
  go_enter Try.func37, Try.ntmps37
  go_wp2
  go_ret
  have e : decide ((4096 : Int) < (D : Int)) = t := by
    rw [Bool.eq_iff_iff, HT.out]
    simp <;> omega
  exact ⟨by rw [← e]; rfl, HB.out⟩
set_option maxRecDepth 100000 in
set_option maxHeartbeats 1000000 in
theorem ix_isTooLong (A : Option Addr) (ls : List PieceT) (k c : Nat) (hl : ls.length = k) (hk : k ≤ 3000) (t : Bool) (ht : t = true ↔ ∃ j, j < k ∧ 4096 < dl ls j) (w : World) (hr : RdPc w w.heap.size A ls) :
    Calls Try.prog 49 #[.slice A k c, .func (.func 37) #[] #[]] w fun e w' => ∃ I : Int, e = .returned (.int .i64 I) ∧ decide (0 ≤ I) = t ∧ Below w.heap.size w w' := by
  have HL := Lib.hid hl
  have HT := Lib.hid ht
  have HR := Lib.hid hr
  obtain ⟨fs, hfs⟩ := pc_desc
  have HF := Lib.hid hfs
  clear hl ht hr hfs
  go_enter Try.func49, Try.ntmps49
  go_wp2_with fail
  go_loopw [8] (fun i wr => ∃ j : Nat, j ≤ k ∧ i = .int .i64 j ∧ Hid (∀ q, q < j → ¬ 4096 < dl ls q) ∧ Below w.heap.size w wr) (fun i _ => k - (intOf i).toNat)
  case atStart => exact ⟨0, Nat.zero_le _, rfl, Lib.hid (fun q hq => absurd hq (Nat.not_lt_zero _)), Below.refl _ _⟩
  case round =>
    obtain ⟨j, hj, rfl, hno, hbel⟩ := hrel
    have HB := Lib.hid hbel
    by_cases hlt : j < k
    · have hjl : j < ls.length := by rw [HL.out]; exact hlt
      obtain ⟨g, off, rfl, hg, hra, ho⟩ := (HR.out.below hbel).at_ hjl
      have hdj := dl_lt hjl
      have HPV := Lib.hid (pv_of ho.ok)
      have HRA := Lib.hid hra
      obtain ⟨D, hD⟩ : ∃ D, dl ls j = D := ⟨_, rfl⟩
      rw [hD] at hdj
      have hi1 : (0 : Int) ≤ (j : Int) := by omega
      have hi2 : (j : Int) < (k : Int) := by omega
      by_cases he : 4096 < D
      · have KP := Lib.hid (isTooLong_any ls[j] ho.ok D hdj true (by simp [he]) wr)
        have HTT := Lib.hid (show true = t from (HT.out.2 ⟨j, hlt, by rw [hD]; exact he⟩).symm)
        generalize (ls[j]'hjl) = x at *
        clear hbel hra hno hdj hD he ho HT HR
        go_wp2_with (refine wpList_load_mid rfl 42 (.tmp 14) rfl g (off + j * 34) rfl (pcs x) (.struct fs) HRA.out HF.out rfl HPV.out.ks ?_)
        (with_reducible refine KP.out.mono ?_)
        rintro e w2 ⟨rfl, hb2⟩
        have HB2 := Lib.hid (HB.out.trans (hb2.mono HB.out.size))
        clear hb2
        go_wp2_with fail
        go_ret
        exact ⟨_, rfl, by rw [← HTT.out]; exact decide_eq_true hi1, HB2.out⟩
      · have KP := Lib.hid (isTooLong_any ls[j] ho.ok D hdj false (by simp [he]) wr)
        have HNX := Lib.hid (show ∀ q, q < j + 1 → ¬ 4096 < dl ls q from fun q hq => by
          by_cases hqj : q < j
          · exact hno.out q hqj
          · obtain rfl : q = j := by omega
            rw [hD]; exact he)
        generalize (ls[j]'hjl) = x at *
        clear hbel hra hno hdj hD he ho HT HR
        go_wp2_with (refine wpList_load_mid rfl 42 (.tmp 14) rfl g (off + j * 34) rfl (pcs x) (.struct fs) HRA.out HF.out rfl HPV.out.ks ?_)
        (with_reducible refine KP.out.mono ?_)
        rintro e w2 ⟨rfl, hb2⟩
        have HB2 := Lib.hid (HB.out.trans (hb2.mono HB.out.size))
        clear hb2
        go_wp2_with fail
        go_roundw
        case rel => exact ⟨j + 1, by omega, by go_num, HNX, HB2.out⟩
        case measure => simp [intOf]; omega
    · have HTT := Lib.hid (show false = t from by
        cases t with
        | false => rfl
        | true =>
          obtain ⟨q, hq, hp⟩ := HT.out.1 rfl
          exact absurd hp (hno.out q (by omega)))
      clear hbel hno
      go_wp2_with fail
      go_ret
      exact ⟨_, rfl, by rw [← HTT.out]; rfl, HB.out⟩
set_option maxHeartbeats 1000000 in
theorem has_isTooLong (A : Option Addr) (ls : List PieceT) (k c : Nat) (hl : ls.length = k) (hk : k ≤ 3000) (t : Bool) (ht : t = true ↔ ∃ j, j < k ∧ 4096 < dl ls j) (w : World) (hr : RdPc w w.heap.size A ls) :
    Calls Try.prog 35 #[.slice A k c, .func (.func 37) #[] #[]] w fun e w' => e = .returned (.bool t) ∧ Below w.heap.size w w' := by
  have HI := Lib.hid (ix_isTooLong A ls k c hl hk t ht w hr)
  clear hl ht hr
  go_enter Try.func35, Try.ntmps35
  go_wp2_with fail
  refine HI.out.mono ?_
  rintro e w2 ⟨I, rfl, hd, hb⟩
  have HD := Lib.hid hd
  have HB := Lib.hid hb
  clear hd hb
  go_wp2_with fail
  go_ret
  exact ⟨by rw [← HD.out]; rfl, HB.out⟩
end Go.Proofs.Ytoiiiccichkgpaa
/- What the landed package cont does: Size, repeats, fault. No statement of the seat is proved here. -/
namespace Go.Proofs.Ytoiiiccichkgpaa
open Go.RowKit Go.Maps Go.Sort
set_option linter.unusedVariables false
set_option linter.unusedSimpArgs false

set_option maxRecDepth 100000 in
set_option maxHeartbeats 1000000 in
theorem size_any (A : Option Addr) (ls : List PieceT) (k c : Nat) (hl : ls.length = k) (hs : SmallC ls) (w : World) (hr : RdPc w w.heap.size A ls) :
    Calls Try.prog 13 #[.slice A k c] w fun e w' => e = .returned (.int .i64 (sizeC (pds ls) : Nat)) ∧ Below w.heap.size w w' := by
  have hk : k ≤ 3000 := by have := hs.many; omega
  have HL := Lib.hid hl
  have HS := Lib.hid hs
  have HR := Lib.hid hr
  obtain ⟨R, hR⟩ : ∃ R, sizeC (pds ls) = R := ⟨_, rfl⟩
  have HE := Lib.hid (show sizeC ((pds ls).take k) = R by rw [List.take_of_length_le (by rw [pds_length, hl]; exact Nat.le_refl _)]; exact hR)
  obtain ⟨iz, hiz, hzz, _⟩ := info_parts info_piece
  have HZ := Lib.hid (And.intro hiz hzz)
  obtain ⟨fs, hfs⟩ := pc_desc
  have HF := Lib.hid hfs
  rw [hR]
  clear hl hs hr hR hiz hzz hfs
  go_enter Try.func13, Try.ntmps13
  go_wp2_with fail
  go_loopw [3, 13] (fun t i wr => ∃ j s : Nat, j ≤ k ∧ i = .int .i64 j ∧ t = .int .i64 s ∧ s ≤ 1200000 ∧ Hid (sizeC ((pds ls).take j) + 38 * (k - j) = s) ∧ Below w.heap.size w wr) (fun _ i _ => k - (intOf i).toNat)
  case atStart => exact ⟨0, 10 + 38 * k, Nat.zero_le _, rfl, by go_num, by omega, Lib.hid rfl, Below.refl _ _⟩
  case round =>
    obtain ⟨j, s, hj, rfl, rfl, hsb, hst, hbel⟩ := hrel
    have HB := Lib.hid hbel
    by_cases hlt : j < k
    · have hjl : j < ls.length := by rw [HL.out]; exact hlt
      obtain ⟨g, off, rfl, hg, hra, ho⟩ := (HR.out.below hbel).at_ hjl
      obtain ⟨h1, h2⟩ := HS.out.data hjl
      have HPV := Lib.hid (pv_of ho.ok)
      have HRA := Lib.hid hra
      have hcd := pv_data ho.ok wr
      have HNB := Lib.hid (Blk.new wr 42 pz)
      have HB2 := Lib.hid (hbel.alloc hbel.size (.cells (pcs ls[j]).toArray 42))
      generalize (ls[j]'hjl) = x at *
      obtain ⟨D, hD⟩ : ∃ D, x.p.data.length = D := ⟨_, rfl⟩
      rw [hD] at hcd h1
      obtain ⟨B, hB⟩ : ∃ B, x.adr = B := ⟨_, rfl⟩
      obtain ⟨C, hC⟩ : ∃ C, x.cap = C := ⟨_, rfl⟩
      rw [hB, hC] at hcd
      have HNX := Lib.hid (show sizeC ((pds ls).take (j + 1)) + 38 * (k - (j + 1)) = s + D by have := hst.out; omega)
      have hi1 : (0 : Int) ≤ (j : Int) := by omega
      have hi2 : (j : Int) < (k : Int) := by omega
      have hsum : s + D ≤ 1200000 := by have := HNX.out; omega
      clear hst h1 h2 hD hB hC ho hg hra hbel
      go_wp2_with (first
        | (refine wpList_load_mid rfl 42 (.tmp 15) rfl g (off + j * 34) rfl (pcs x) (.struct fs) HRA.out HF.out rfl HPV.out.ks ?_)
        | (refine wpList_alloc_z rfl 42 rfl iz _ HZ.out.1 HZ.out.2 ?_)
        | (refine wpList_store_row rfl 42 (.tmp 5) (.tmp 16) rfl wr.heap.size (pcs x).toArray rfl rfl 42 pz HNB.out HPV.out.ks2 HPV.out.old HPV.out.one ?_; rw [setRow_alloc]))
      go_roundw
      case rel => exact ⟨j + 1, s + D, by omega, by go_num, by go_num, by omega, HNX, HB2.out⟩
      case measure => simp [intOf]; omega
    · obtain rfl : j = k := by omega
      have e : s = R := by rw [← hst.out, ← HE.out]; omega
      subst e
      clear hst hbel
      go_wp2_with fail
      go_ret
      exact ⟨rfl, HB.out⟩
theorem mkMap_keys (n : Nat) (W : World) : (Instr.makeMap 83 (some (.int .i64 (n : Nat)))).run Try.prog W = .ok (.map (some W.heap.size)) (W.alloc (.map #[] 0)) := by
  simp [Instr.makeMap, run_underlying Try.underlying83, asInt, go_sem]
theorem pv_key {x : PieceT} (hx : x.p.Ok) (w : World) : (w.alloc (.cells (pcs x).toArray 42)).rangeAt w.heap.size 0 (kcs x.p.key) := fun i v hv => by
  rw [(Blk.new w 42 _).cell, List.getElem?_toArray, Nat.zero_add]
  unfold pcs
  rw [List.getElem?_append_left (List.getElem?_eq_some_iff.1 hv).1]
  exact hv
set_option maxRecDepth 100000 in
set_option maxHeartbeats 1000000 in
theorem repeats_any (A : Option Addr) (ls : List PieceT) (n c : Nat) (hl : ls.length = n) (hn : n ≤ 3000) (w : World) (hr : RdPc w w.heap.size A ls) :
    Calls Try.prog 38 #[.slice A n c] w fun e w' => e = .returned (.bool (decide (twiceC (pds ls)))) ∧ Below w.heap.size w w' := by
  obtain ⟨ks, hks⟩ : ∃ ks : List KeyT, (pds ls).map PcD.key = ks := ⟨_, rfl⟩
  have hkl : ks.length = n := by rw [← hks, List.length_map, pds_length, hl]
  have hko : ∀ q ∈ ks, KeyT.Ok q := fun q hq => by
    rw [← hks] at hq
    obtain ⟨p, hp, rfl⟩ := List.mem_map.1 hq
    obtain ⟨x, hx, rfl⟩ := List.mem_map.1 hp
    exact (hr.each x hx).ok.key
  have e : decide (twiceC (pds ls)) = decide (¬ ks.Nodup) := by subst hks; rfl
  rw [e]
  have hnm : n < maxLen := by unfold maxLen; omega
  have hmm := mkMap_keys n
  have HL := Lib.hid hl
  have HKL := Lib.hid hkl
  have HKS := Lib.hid (show ∀ (j : Nat) (hj : j < ls.length) (hj2 : j < ks.length), ks[j] = ls[j].p.key from fun j hj hj2 => by subst hks; rw [List.getElem_map, pds_get hj])
  have HR := Lib.hid hr
  have HSZ := Lib.hid (size_kset ks hko)
  obtain ⟨fk, hfk⟩ := key_desc
  obtain ⟨fs, hfs⟩ := pc_desc
  have HF := Lib.hid (And.intro hfs hfk)
  obtain ⟨iz, hiz, hzz, _⟩ := info_parts info_piece
  have HZ := Lib.hid (And.intro hiz hzz)
  have HM0 := Lib.hid (World.ownsMap_made w Try.prog 40 (unitElem (H := Unit)))
  have HB0 := Lib.hid ((Below.refl w.heap.size w).alloc (Nat.le_refl _) (.map #[] 0))
  clear hl hr hfs hfk hkl hko hks e hiz hzz
  go_enter Try.func38, Try.ntmps38
  go_wp2_with fail
  go_loopw [11] (fun i wr => ∃ j : Nat, j ≤ n ∧ i = .int .i64 j ∧ wr.ownsMap Try.prog 40 (unitElem (H := Unit)) w.heap.size j (kset (ks.take j)) ∧ Below w.heap.size w wr) (fun i _ => n - (intOf i).toNat)
  case atStart => exact ⟨0, Nat.zero_le _, rfl, HM0.out, HB0.out⟩
  case round =>
    obtain ⟨j, hj, rfl, hown, hbel⟩ := hrel
    by_cases hlt : j < n
    · have hjl : j < ls.length := by rw [HL.out]; exact hlt
      have hjx : j < ks.length := by rw [HKL.out]; exact hlt
      obtain ⟨g, off, rfl, hg, hra, ho⟩ := (HR.out.below hbel).at_ hjl
      have HTK := Lib.hid (show kset (ks.take (j + 1)) = (kset (ks.take j)).put (kl ls[j].p.key) (.agg []) by rw [List.take_succ_eq_append_getElem hjx, kset_snoc, HKS.out j hjl hjx])
      have HPV := Lib.hid (pv_of ho.ok)
      have HRK := Lib.hid (pv_key ho.ok wr)
      have HKK := Lib.hid (show (Try.prog.info? 40).map (·.size) = some (kcs ls[j].p.key).length by rw [kcs_length ho.ok.key]; exact key_size)
      have HKL2 := Lib.hid (kl_is ho.ok.key)
      generalize (ls[j]'hjl) = x at *
      have HRA := Lib.hid hra
      have HNB := Lib.hid (Blk.new wr 42 pz)
      have HOWN := Lib.hid (hown.alloc (.cells (pcs x).toArray 42))
      have HBEL := Lib.hid (hbel.alloc hbel.size (.cells (pcs x).toArray 42))
      have hi1 : (0 : Int) ≤ (j : Int) := by omega
      have hi2 : (j : Int) < (n : Int) := by omega
      have hjm : j < maxLen := by unfold maxLen; omega
      clear hra hown hbel ho hnm
      go_wp2_with (first
        | (refine wpList_load_mid rfl 42 (.tmp 13) rfl g (off + j * 34) rfl (pcs x) (.struct fs) HRA.out HF.out.1 rfl HPV.out.ks ?_)
        | (refine wpList_alloc_z rfl 42 rfl iz _ HZ.out.1 HZ.out.2 ?_)
        | (refine wpList_store_row rfl 42 (.tmp 5) (.tmp 14) rfl wr.heap.size (pcs x).toArray rfl rfl 42 pz HNB.out HPV.out.ks2 HPV.out.old HPV.out.one ?_; rw [setRow_alloc])
        | (refine wpList_load_mid rfl 40 (.tmp 16) rfl wr.heap.size 0 rfl (kcs x.p.key) (.struct fk) HRK.out HF.out.2 rfl HKK.out ?_)
        | (at_mapUpdate; refine wpList_mapUpdate_own _ rfl _ _ _ 83 rfl 40 84 keyLaw Try.underlying83 _ w.heap.size j _ rfl HOWN.out hjm _ _ _ rfl rfl HKL2.out _ [] unitElem_mk ?_; intro w1 hown1 hgrow1)
        | fail)
      have HX := Lib.hid (And.intro hown1 (HBEL.out.grown hgrow1 HBEL.out.size (fun k e => by injection e with e; omega)))
      clear hown1 hgrow1
      go_roundw
      case rel => exact ⟨j + 1, by omega, by go_num, by rw [HTK.out]; exact HX.out.1, HX.out.2⟩
      case measure => simp [intOf]; omega
    · obtain rfl : n = j := by omega
      rw [List.take_of_length_le (by rw [HKL.out]; exact Nat.le_refl _)] at hown
      have HBEL := Lib.hid hbel
      have HOWN := Lib.hid hown
      clear hown hbel
      go_wp2_with (at_len; refine wpList_len_own _ rfl _ 83 rfl 40 84 Try.underlying83 _ w.heap.size n _ rfl HOWN.out ?_)
      go_ret
      refine ⟨?_, HBEL.out⟩
      have h1 := HSZ.out
      rw [HKL.out] at h1
      have e : decide (Maps.size (kset ks) < n) = decide (¬ ks.Nodup) := by rw [decide_eq_decide]; exact h1.1
      rw [← e]; rfl
set_option maxRecDepth 100000 in
set_option maxHeartbeats 2000000 in
theorem fault_any (A : Option Addr) (ls : List PieceT) (k c : Nat) (hl : ls.length = k) (hs : SmallC ls) (w : World) (hr : RdPc w w.heap.size A ls) :
    Calls Try.prog 22 #[.slice A k c] w fun e w' => e = .returned (.int .i64 (refC (pds ls) : Nat)) ∧ Below w.heap.size w w' := by
  have hk : k ≤ 3000 := by have := hs.many; omega
  obtain ⟨R, hR⟩ : ∃ R, refC (pds ls) = R := ⟨_, rfl⟩
  have HT := Lib.hid (ref_tests ls hR)
  rw [hl] at HT
  obtain ⟨Z, hZ⟩ : ∃ Z, sizeC (pds ls) = Z := ⟨_, rfl⟩
  have HSZ := Lib.hid (fun W (hb : Below w.heap.size w W) => size_any A ls k c hl hs W ((hr.below hb).more hb.size))
  have HTW := Lib.hid (fun W (hb : Below w.heap.size w W) => repeats_any A ls k c hl hk W ((hr.below hb).more hb.size))
  have HC1 := Lib.hid (fun t (ht : t = true ↔ ∃ j, j < k ∧ dl ls j = 0) => has_isEmpty A ls k c hl hk t ht w hr)
  have HC2 := Lib.hid (fun W (hb : Below w.heap.size w W) t (ht : t = true ↔ ∃ j, j < k ∧ 4096 < dl ls j) => has_isTooLong A ls k c hl hk t ht W ((hr.below hb).more hb.size))
  rw [hZ] at HSZ HT
  have hZ2 : Z ≤ 1000000 := hZ ▸ hs.size
  rw [hR]
  clear hl hs hr hZ hR
  by_cases h1 : ∃ j, j < k ∧ dl ls j = 0
  · have HR1 := Lib.hid (HT.out.1 h1)
    have H1 := Lib.hid (HC1.out true (by simp [h1]))
    clear h1 HC1 HC2 HT HSZ HTW
    go_enter Try.func22, Try.ntmps22
    go_wp2_with fail
    refine H1.out.mono ?_
    rintro e w1 ⟨rfl, hb1⟩
    have HB1 := Lib.hid hb1
    clear hb1
    go_wp2_with fail
    go_ret
    exact ⟨by rw [HR1.out]; rfl, HB1.out⟩
  · have hn1 : ∀ j, j < k → dl ls j ≠ 0 := fun j hj e => h1 ⟨j, hj, e⟩
    have H1 := Lib.hid (HC1.out false (by simp [h1]))
    by_cases h2 : 1000 < k
    · have HR1 := Lib.hid (show R = 4 from by
        by_cases h3 : ∃ j, j < k ∧ 4096 < dl ls j
        · exact HT.out.2.1 hn1 h3
        · exact HT.out.2.2.1 hn1 (fun j hj => Nat.le_of_not_lt fun hc => h3 ⟨j, hj, hc⟩) (.inl h2))
      have h2i : (1000 : Int) < (k : Int) := by omega
      have h2b : decide ((1000 : Int) < (k : Int)) = true := decide_eq_true h2i
      clear h1 hn1 HC1 HC2 HT HSZ HTW h2
      go_enter Try.func22, Try.ntmps22
      go_wp2_with fail
      refine H1.out.mono ?_
      rintro e w1 ⟨rfl, hb1⟩
      have HB1 := Lib.hid hb1
      clear hb1
      go_wp2_with fail
      go_ret
      exact ⟨by rw [HR1.out]; rfl, HB1.out⟩
    · have h2i : ¬ (1000 : Int) < (k : Int) := by omega
      have h2b : decide ((1000 : Int) < (k : Int)) = false := decide_eq_false h2i
      by_cases h3 : ∃ j, j < k ∧ 4096 < dl ls j
      · have HR1 := Lib.hid (HT.out.2.1 hn1 h3)
        have H2 := Lib.hid (fun W hb => HC2.out W hb true (by simp [h3]))
        clear h1 hn1 h3 HC1 HC2 HT HSZ HTW
        go_enter Try.func22, Try.ntmps22
        go_wp2_with fail
        refine H1.out.mono ?_
        rintro e w1 ⟨rfl, hb1⟩
        have HB1 := Lib.hid hb1
        clear hb1
        go_wp2_with fail
        refine (H2.out _ HB1.out).mono ?_
        rintro e w2 ⟨rfl, hb2⟩
        have HB2 := Lib.hid (HB1.out.trans (hb2.mono HB1.out.size))
        clear hb2
        go_wp2_with fail
        go_ret
        exact ⟨by rw [HR1.out]; rfl, HB2.out⟩
      · have hn3 : ∀ j, j < k → dl ls j ≤ 4096 := fun j hj => Nat.le_of_not_lt fun hc => h3 ⟨j, hj, hc⟩
        have H2 := Lib.hid (fun W hb => HC2.out W hb false (by simp [h3]))
        by_cases h4 : 65536 < Z
        · have HR1 := Lib.hid (HT.out.2.2.1 hn1 hn3 (.inr h4))
          have h4i : (65536 : Int) < (Z : Int) := by omega
          have h4b : decide ((65536 : Int) < (Z : Int)) = true := decide_eq_true h4i
          clear h1 hn1 h3 hn3 h4 HC1 HC2 HT HTW
          go_enter Try.func22, Try.ntmps22
          go_wp2_with fail
          refine H1.out.mono ?_
          rintro e w1 ⟨rfl, hb1⟩
          have HB1 := Lib.hid hb1
          clear hb1
          go_wp2_with fail
          refine (H2.out _ HB1.out).mono ?_
          rintro e w2 ⟨rfl, hb2⟩
          have HB2 := Lib.hid (HB1.out.trans (hb2.mono HB1.out.size))
          clear hb2
          go_wp2_with fail
          refine (HSZ.out _ HB2.out).mono ?_
          rintro e w3 ⟨rfl, hb3⟩
          have HB3 := Lib.hid (HB2.out.trans (hb3.mono HB2.out.size))
          clear hb3
          go_wp2_with fail
          go_ret
          exact ⟨by rw [HR1.out]; rfl, HB3.out⟩
        · have h4i : ¬ (65536 : Int) < (Z : Int) := by omega
          have h4b : decide ((65536 : Int) < (Z : Int)) = false := decide_eq_false h4i
          have HR1 := Lib.hid (HT.out.2.2.2 hn1 hn3 (by omega))
          obtain ⟨t, ht⟩ : ∃ t, decide (twiceC (pds ls)) = t := ⟨_, rfl⟩
          rw [ht] at HTW
          have HR2 := Lib.hid (show R = if t then 3 else 0 from by
            cases t with
            | true => exact HR1.out.1 (of_decide_eq_true ht)
            | false => exact HR1.out.2 (of_decide_eq_false ht))
          clear h1 hn1 h3 hn3 h4 HC1 HC2 HT HR1 ht
          go_enter Try.func22, Try.ntmps22
          go_wp2_with fail
          refine H1.out.mono ?_
          rintro e w1 ⟨rfl, hb1⟩
          have HB1 := Lib.hid hb1
          clear hb1
          go_wp2_with fail
          refine (H2.out _ HB1.out).mono ?_
          rintro e w2 ⟨rfl, hb2⟩
          have HB2 := Lib.hid (HB1.out.trans (hb2.mono HB1.out.size))
          clear hb2
          go_wp2_with fail
          refine (HSZ.out _ HB2.out).mono ?_
          rintro e w3 ⟨rfl, hb3⟩
          have HB3 := Lib.hid (HB2.out.trans (hb3.mono HB2.out.size))
          clear hb3
          go_wp2_with fail
          refine (HTW.out _ HB3.out).mono ?_
          rintro e w4 ⟨rfl, hb4⟩
          have HB4 := Lib.hid (HB3.out.trans (hb4.mono HB3.out.size))
          clear hb4 HSZ HTW
          cases t with
          | true =>
            go_wp2_with fail
            go_ret
            exact ⟨by rw [HR2.out]; rfl, HB4.out⟩
          | false =>
            go_wp2_with fail
            go_ret
            exact ⟨by rw [HR2.out]; rfl, HB4.out⟩
end Go.Proofs.Ytoiiiccichkgpaa
