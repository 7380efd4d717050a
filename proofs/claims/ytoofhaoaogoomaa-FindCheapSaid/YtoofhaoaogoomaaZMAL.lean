/- FindCheap's walk, told from what the package does. No statement of the seat is proved here. -/
import Derived.Test.YtoofhaoaogoomaaZMAF
import Derived.Test.YtoofhaoaogoomaaZMAG
import Derived.Test.YtoofhaoaogoomaaZMAH
import Derived.Test.YtoofhaoaogoomaaZMAC
import Derived.Test.YtoofhaoaogoomaaZMAE
import Derived.Laws.Tables
namespace Go.Proofs.Ytoofhaoaogoomaa
open Go.RowKit
set_option linter.unusedVariables false
set_option linter.unusedSimpArgs false

/-- Before the first search: an empty cache, nothing asked, all rows on one shelf. -/
structure Fresh (f : FS) (rm : Nat) (sh : Int) : Prop where
  cache : f.C = ⟨rm, []⟩
  asked : f.asked = 0
  loads : f.loads = 0
  rows : ∀ r ∈ f.L, r.2.1 = sh
theorem Fresh.put {f : FS} {rm : Nat} {sh : Int} (h : Fresh f rm sh) (k : List UInt8 × Nat) (sl : Int) : Fresh (putF f k (sh, sl)) rm sh := by
  refine ⟨?_, h.asked, h.loads, fun r hr => ?_⟩
  · show dropC (forgetF f.L f.C k) sh = ⟨rm, []⟩
    unfold forgetF
    rw [h.cache]
    split <;> rfl
  · rcases mem_putX' hr with h1 | rfl
    · exact h.rows r h1
    · rfl
theorem has_put {L : List RowT} (h : RowsOk L) {k k' : List UInt8 × Nat} (hk : KeyOk k) {q : Int × Int} (hx : hasX L k' = true ∨ k' = k) : hasX (putX L k q) k' = true := by
  by_cases e : k' = k
  · exact hasX_row.2 ⟨(k, q), by unfold putX; simp, e.symm⟩
  · obtain ⟨r, hr, rfl⟩ := hasX_row.1 (hx.resolve_right e)
    refine hasX_row.2 ⟨r, ?_, rfl⟩
    unfold putX
    rw [List.mem_append, List.mem_cons, mem_under, mem_over]
    rcases Nat.lt_trichotomy (ordK r.1) (ordK k) with h1 | h1 | h1
    · exact .inl ⟨hr, h1⟩
    · exact absurd (ordK_inj (h.key r hr) hk h1) e
    · exact .inr (.inr ⟨hr, h1⟩)
/-- The first search loads the shelf; from then on all its chunks are known. -/
theorem first_search {f : FS} {rm : Nat} {sh : Int} (hf : Fresh f rm sh) (ho : f.Ok) (hrm : rm ≠ 0) {k : List UInt8 × Nat} (hx : hasX f.L k = true) (d : Nat) :
    (nextF f k d).asked = 1 ∧ (nextF f k d).loads = 1 ∧ ∀ k', hasX f.L k' = true → ∀ d', nextF (nextF f k d) k' d' = nextF f k d := by
  obtain ⟨r, hr, rfl⟩ := hasX_row.1 hx
  have hm := ho.may r hr
  have hk0 : knowsC f.C r.1 = false := by rw [hf.cache]; rfl
  have hg : (getX f.L r.1).1 = sh := by rw [get_mem ho.rows.rise hr]; exact hf.rows r hr
  have e : nextF f r.1 d = ⟨f.n, f.p, f.S, loadC ⟨rm, []⟩ sh (shelfX f.L sh) d, f.L, f.asked + 1, f.loads + 1⟩ := by
    unfold nextF
    rw [if_neg (by rw [hm]; simp), if_neg (by rw [hk0]; simp), if_pos hx, hg, hf.cache]
  rw [e]
  refine ⟨by show f.asked + 1 = 1; rw [hf.asked], by show f.loads + 1 = 1; rw [hf.loads], fun k' hx' d' => ?_⟩
  obtain ⟨r', hr', rfl⟩ := hasX_row.1 hx'
  have h2 : knowsC (loadC ⟨rm, []⟩ sh (shelfX f.L sh) d) r'.1 = true := by
    have := load_knows (L := f.L) (n := rm) (d := d) hrm hr'
    rwa [hf.rows r' hr'] at this
  have h3 : mayF (⟨f.n, f.p, f.S, loadC ⟨rm, []⟩ sh (shelfX f.L sh) d, f.L, f.asked + 1, f.loads + 1⟩ : FS) r'.1 = true := ho.may r' hr'
  unfold nextF
  rw [if_neg (by rw [h3]; simp), if_pos h2]
theorem rcs_shelf (r : RowT) (sh : Int) (hr : r.Ok) : (rcs r).toArray.setIfInBounds 33 (.int .i64 sh) = (rcs (r.1, (sh, r.2.2))).toArray := by
  have hl := kcs_length hr.key
  unfold rcs
  rw [List.setIfInBounds_toArray, List.set_append_right _ _ (by omega), hl]
  rfl
section
variable {Ft : World → Addr → (Nat → Prop) → FS → Prop}
set_option maxRecDepth 100000 in
set_option maxHeartbeats 20000000 in
theorem cheap_walk (K : FindersOk Ft) (qa qb qc : Int) (hqa : In64 qa) (hqb : In64 qb) (hqc : In64 qc) (A : Option Addr) (n c : Nat) (ls : List RowT) (hl : ls.length = n) (hc : n ≤ c) (hm : c ≤ maxLen) (sh : Int) (hsh : In64 sh) (w : World) (hr : RdRw w w.heap.size A ls) :
    Calls Try.prog 5 #[.agg (hws qa qb qc).toArray, .slice A n c, .int .i64 sh] w fun e w' => e = .returned (.bool true) ∧ Below w.heap.size w w' := by
  unfold maxLen at hm
  obtain ⟨m, hm'⟩ : ∃ m, m = min n 50 := ⟨_, rfl⟩
  have hmn : m ≤ n ∧ m ≤ 50 := by omega
  have hif : (if 50 < n then (50 : Int) else (n : Int)) = (m : Int) := by split <;> omega
  have hifi : (if (50 : Int) < (n : Int) then (50 : Int) else (n : Int)) = (m : Int) := by split <;> omega
  have hz1 : (m : Int) ≤ (c : Int) := by omega
  have hz0 : (0 : Int) ≤ (m : Int) := by omega
  obtain ⟨fs, hfs⟩ := key_desc
  obtain ⟨fp, hfp⟩ := place_desc
  obtain ⟨fr, hfr⟩ := row_desc
  obtain ⟨fh, hfh⟩ := how_desc
  have HF := Lib.hid (And.intro hfs (And.intro hfp (And.intro hfr hfh)))
  have HLS := Lib.hid (And.intro hl hr)
  obtain ⟨w1, hw1⟩ : ∃ w1, w.alloc (.cells (hws qa qb qc).toArray 23) = w1 := ⟨_, rfl⟩
  obtain ⟨hb, hhb⟩ : ∃ hb, w.heap.size = hb := ⟨_, rfl⟩
  have hb1 : Below w.heap.size w w1 := hw1 ▸ (Below.refl _ _).alloc (Nat.le_refl _) _
  have hk1 : Blk w1 hb 23 (hws qa qb qc).toArray := by rw [← hhb, ← hw1]; exact Blk.new w _ _
  have HW1 := Lib.hid (And.intro hw1 (And.intro hhb (And.intro hb1 hk1)))
  have HHS := Lib.hid (show (Try.prog.info? 23).map (·.size) = some (hws qa qb qc).length from how_size)
  have KS := Lib.hid (shown_any K w1)
  have KR := fun W => Lib.hid (right_any qa qb qc hqa hqb hqc W)
  have HSH := Lib.hid hsh
  have HMN := Lib.hid hmn
  clear hfs hfp hfr hfh hl hr hw1 hhb hb1 hk1 hm'
  go_enter Try.func5, Try.ntmps5
  go_upto_region 1 with fail
  rw [HW1.out.1, HW1.out.2.1]
  go_wp2_with fail
  refine KS.out.mono ?_
  rintro e w2 ⟨rfl, hb2⟩
  have HR2 := Lib.hid (show w2.rangeAt hb 0 (hws qa qb qc) from range_of_blk (HW1.out.2.2.2.below hb2 HW1.out.2.2.2.lt))
  have HB2 := Lib.hid (HW1.out.2.2.1.trans (hb2.mono HW1.out.2.2.1.size))
  clear hb2 KS
  go_wp2_with (refine wpList_load_mid rfl 23 (.tmp 3) rfl hb 0 rfl (hws qa qb qc) (.struct fh) HR2.out HF.out.2.2.2 rfl HHS.out ?_)
  refine (KR w2).out.mono ?_
  rintro e w3 ⟨x, y, z, hx, hy, hz, rfl, hb3⟩
  have HB3 := Lib.hid (HB2.out.trans (hb3.mono HB2.out.size))
  have KN := Lib.hid (fun (W : World) (hW : Below w.heap.size w W) => K.new' hW x y (z + 1) (by omega) (by omega) (by omega))
  have hzz : ((z : Int) + 1) = ((z + 1 : Nat) : Int) := by omega
  have HZ := Lib.hid hzz
  have hz9 : z ≤ 19 := hz
  clear hx hy hb3 KR HR2 hzz
  go_wp2_with fail
  obtain ⟨w4, hw4⟩ : ∃ w4, w3.alloc (.cells #[.int .i64 x, .int .i64 y, .int .i64 z] 23) = w4 := ⟨_, rfl⟩
  have HB4 := Lib.hid (show Below w.heap.size w w4 from HB3.out.trans ((hw4 ▸ (Below.refl _ _).alloc (Nat.le_refl _) _ : Below w3.heap.size w3 w4).mono HB3.out.size))
  rw [hw4]
  clear hw4
  first
    | refine (KN.out w4 HB4.out).mono ?_
    | (rw [HZ.out]; refine (KN.out w4 HB4.out).mono ?_)
  rintro e w5 ⟨s, rfl, h5⟩
  have H5 := Lib.hid h5
  clear h5 KN
  go_wp2_with fail
  go_loopw [49] (fun i wr => ∃ (j : Nat) (f : FS), j ≤ m ∧ i = .int .i64 j ∧ Hid (Turned Ft w s (fun _ => False) wr f ∧ Fresh f (z + 1) sh ∧ f.L.length ≤ j ∧ ∀ q, q < j → ∀ hx : q < ls.length, hasX f.L (ls[q]).1 = true)) (fun i _ => m - (intOf i).toNat)
  case atStart => exact ⟨0, newF x y (z + 1), Nat.zero_le _, rfl, Lib.hid ⟨H5.out, ⟨rfl, rfl, rfl, fun r hr => by cases hr⟩, Nat.le_refl _, fun q hq => by omega⟩⟩
  case round =>
    clear H5
    obtain ⟨j, f, hj, rfl, hst⟩ := hrel
    by_cases hlt : j < m
    · have hjx : j < ls.length := by rw [HLS.out.1]; omega
      obtain ⟨hst1, hst2, hst3, hst4⟩ := hst.out
      have hbel := hst1.bel
      obtain ⟨g, off, hA, hg, hra, hok⟩ := (HLS.out.2.below hbel).at_ hjx
      obtain ⟨r, hre⟩ : ∃ r, ls[j] = r := ⟨_, rfl⟩
      rw [hre] at hra hok
      subst hA
      obtain ⟨Z, hZ⟩ : ∃ Z, rcs r = Z := ⟨_, rfl⟩
      have hZl : Z.length = 35 := by rw [← hZ]; exact rcs_length hok
      have hset := rcs_shelf r sh hok
      rw [hZ] at hra hset
      have HRA := Lib.hid hra
      have HKS := Lib.hid (show (Try.prog.info? 42).map (·.size) = some Z.length from by rw [hZl]; exact row_size)
      have HKS2 := Lib.hid (show (Try.prog.info? 42).map (·.size) = some Z.toArray.size from by rw [List.size_toArray, hZl]; exact row_size)
      have HOLD := Lib.hid (show rz.size = Z.toArray.size from rz_size.trans (by rw [List.size_toArray, hZl]))
      have HBZ := Lib.hid (Blk.new wr 42 rz)
      have HONE := Lib.hid (show Z.toArray.all (·.oneCell') = true from by rw [← hZ]; exact rcs_one)
      obtain ⟨w8, hw8⟩ : ∃ w8, wr.alloc (.cells Z.toArray 42) = w8 := ⟨_, rfl⟩
      obtain ⟨ab, hab⟩ : ∃ ab, wr.heap.size = ab := ⟨_, rfl⟩
      have hb8 : Below wr.heap.size wr w8 := hw8 ▸ (Below.refl _ _).alloc (Nat.le_refl _) _
      have hk8 : Blk w8 ab 42 Z.toArray := by rw [← hw8, ← hab]; exact Blk.new wr _ _
      obtain ⟨w9, hw9⟩ : ∃ w9, w8.setCell ⟨ab, 33, none⟩ (.int .i64 sh) = w9 := ⟨_, rfl⟩
      have hb9 : Below wr.heap.size wr w9 := by rw [← hw9]; exact hb8.setCell (by rw [hab]; exact Nat.le_refl _) _
      have hk9 : Blk w9 ab 42 (rcs (r.1, (sh, r.2.2))).toArray := by rw [← hw9, ← hset]; exact hk8.set_ 33 _
      have hok9 : RowT.Ok (r.1, (sh, r.2.2)) := ⟨hok.key, HSH.out, hok.slot⟩
      have h9 := K.on hst1 hb9
      obtain ⟨X, hX⟩ : ∃ X, kcs r.1 = X := ⟨_, rfl⟩
      obtain ⟨p2, hp⟩ : ∃ p, r.2.2 = p := ⟨_, rfl⟩
      have HXS := Lib.hid (show (Try.prog.info? 38).map (·.size) = some X.length from by rw [← hX, kcs_length hok.key]; exact key_size)
      have HPS := Lib.hid (show (Try.prog.info? 40).map (·.size) = some ([Value.int .i64 sh, Value.int .i64 p2]).length from place_size)
      have hr9 := range_of_blk hk9
      have HRK := Lib.hid (show w9.rangeAt ab 0 X from by
        have := range_key hr9
        rwa [hX] at this)
      have HRP := Lib.hid (show w9.rangeAt ab 33 [.int .i64 sh, .int .i64 p2] from by
        have := range_place hok9 hr9
        rwa [hp, Nat.zero_add] at this)
      have KP := K.put' h9 (by omega) r.1 hok.key (sh, p2) ⟨HSH.out, by rw [← hp]; exact hok.slot⟩
      have HNX := Lib.hid (show Fresh (putF f r.1 (sh, p2)) (z + 1) sh ∧ (putF f r.1 (sh, p2)).L.length ≤ j + 1 ∧ ∀ q, q < j + 1 → ∀ hx : q < ls.length, hasX (putF f r.1 (sh, p2)).L (ls[q]).1 = true from by
        refine ⟨hst2.put _ _, Nat.le_trans (length_putX' _ _ _) (by omega), fun q hq hx => ?_⟩
        refine has_put (K.good hst1).rows hok.key ?_
        rcases Nat.lt_or_ge q j with h | h
        · exact .inl (hst4 q h hx)
        · obtain rfl : q = j := by omega
          exact .inr (by rw [hre]))
      unfold kv pv at KP
      rw [hX] at KP
      replace KP := Lib.hid KP
      have HW8 := Lib.hid (And.intro hw8 (And.intro hab hw9))
      have f1 : w8.cell? ⟨ab, 33, none⟩ = some (.int .i64 r.2.1) := by
        have := hk8.cell 33
        rw [← hZ] at this
        rw [this, List.getElem?_toArray]
        exact rcs_33 hok
      have f2 : w8.frozen? ⟨ab, 33, none⟩ = false := hk8.frozen 33
      have hi1 : (0 : Int) ≤ (j : Int) := by omega
      have hi2 : (j : Int) < (m : Int) := by omega
      clear hst hst1 hst2 hst3 hst4 hbel hra hok hre hjx hZ hZl hw8 hab hb8 hk8 hw9 hb9 hk9 hok9 h9 hX hp hr9 hset hg
      go_upto_region 10 with (first
        | refine wpList_load_mid rfl 42 (.tmp 51) rfl g (off + j * 35) rfl Z (.struct fr) HRA.out HF.out.2.2.1 rfl HKS.out ?_
        | (refine wpList_store_row rfl 42 (.tmp 13) (.tmp 52) rfl wr.heap.size Z.toArray rfl rfl 42 rz HBZ.out HKS2.out HOLD.out HONE.out ?_; rw [setRow_alloc, HW8.out.1, HW8.out.2.1]))
      go_upto_region 11 with fail
      rw [HW8.out.2.2]
      go_wp2_with (first
        | refine wpList_load_mid rfl 38 (.tmp 57) rfl ab 0 rfl X (.struct fs) HRK.out HF.out.1 rfl HXS.out ?_
        | refine wpList_load_mid rfl 40 (.tmp 59) rfl ab 33 rfl [.int .i64 sh, .int .i64 p2] (.struct fp) HRP.out HF.out.2.1 rfl HPS.out ?_)
      refine KP.out.mono ?_
      rintro e w10 ⟨rfl, h10⟩
      have H10 := Lib.hid h10
      clear h10 KP f1 f2
      go_wp2_with fail
      go_roundw
      case rel => exact ⟨j + 1, _, by omega, by go_num, Lib.hid ⟨H10.out, HNX.out⟩⟩
      case measure => simp [intOf]; omega
    · obtain rfl : j = m := by omega
      obtain ⟨hst1, hst2, hst3, hst4⟩ := hst.out
      by_cases hm0 : j = 0
      · subst hm0
        have HBW := Lib.hid hst1.bel
        clear hst hst1 hst2 hst3 hst4
        go_wp2_with fail
        go_ret
        exact ⟨rfl, HBW.out⟩
      · have h0x : 0 < ls.length := by rw [HLS.out.1]; omega
        obtain ⟨g, off, hA, hg, hra, hok⟩ := (HLS.out.2.below hst1.bel).at_ h0x
        obtain ⟨r, hre⟩ : ∃ r, ls[0] = r := ⟨_, rfl⟩
        have hx0 := hst4 0 (by omega) h0x
        rw [hre] at hra hok hx0
        subst hA
        rw [Nat.zero_mul, Nat.add_zero] at hra
        obtain ⟨X, hX⟩ : ∃ X, kcs r.1 = X := ⟨_, rfl⟩
        have hrk := range_key hra
        rw [hX] at hrk
        have HRK := Lib.hid hrk
        have HXS := Lib.hid (show (Try.prog.info? 38).map (·.size) = some X.length from by rw [← hX, kcs_length hok.key]; exact key_size)
        obtain ⟨s1, s2, s3⟩ := first_search hst2 (K.good hst1) (by omega) hx0 3
        have KFF := K.find' hst1 (by have := HMN.out.2; omega) (by rw [hst2.asked]; omega) (by rw [hst2.loads]; omega) r.1 hok.key 3 (by omega)
        unfold kv at KFF
        rw [hX] at KFF
        have hL1 := next_L f r.1 3
        obtain ⟨f1, hf1⟩ : ∃ f1, nextF f r.1 3 = f1 := ⟨_, rfl⟩
        rw [hf1] at KFF s1 s2 s3 hL1
        replace KFF := Lib.hid KFF
        have HS := Lib.hid (And.intro s1 (And.intro s2 (And.intro s3 (And.intro hL1 (And.intro hst3 hst4)))))
        have hj0 : (0 : Int) < (j : Int) := by omega
        have hj1 : ¬ (j : Int) = 0 := by omega
        clear hst hst1 hst2 hst3 hst4 s1 s2 s3 hL1 hra hok hre hX hrk hg hf1 hx0 h0x
        go_wp2_with (refine wpList_load_mid rfl 38 (.tmp 70) rfl g off rfl X (.struct fs) HRK.out HF.out.1 rfl HXS.out ?_)
        refine KFF.out.mono ?_
        rintro e w6 ⟨rfl, h6⟩
        have KC := K.cost' h6
        rw [HS.out.1, HS.out.2.1] at KC
        replace KC := Lib.hid KC
        have H6 := Lib.hid h6
        clear h6 KFF HRK
        go_wp2_with fail
        refine KC.out.mono ?_
        rintro e w7 ⟨rfl, hb7⟩
        have H7 := Lib.hid (K.on H6.out hb7)
        clear hb7 KC H6
        go_wp2_with fail
        go_loopw [80] (fun i wr => ∃ (q : Nat), q ≤ j ∧ i = .int .i64 q ∧ Hid (Turned Ft w s (fun _ => False) wr f1)) (fun i _ => j - (intOf i).toNat)
        case atStart => exact ⟨0, Nat.zero_le _, rfl, H7⟩
        case round =>
          clear H7
          obtain ⟨q, hq, rfl, hst⟩ := hrel
          by_cases hltq : q < j
          · have hqx : q < ls.length := by rw [HLS.out.1]; omega
            obtain ⟨gr, offr, hA, hgr, hra, hok⟩ := (HLS.out.2.below hst.out.bel).at_ hqx
            obtain ⟨r2, hre⟩ : ∃ r, ls[q] = r := ⟨_, rfl⟩
            have hx2 := HS.out.2.2.2.2.2 q hltq hqx
            rw [hre] at hra hok hx2
            injection hA with hA
            injection hA with e1 e2 _
            subst e1 e2
            obtain ⟨Z, hZ⟩ : ∃ Z, rcs r2 = Z := ⟨_, rfl⟩
            have hZl : Z.length = 35 := by rw [← hZ]; exact rcs_length hok
            rw [hZ] at hra
            have HRA := Lib.hid hra
            have HKS := Lib.hid (show (Try.prog.info? 42).map (·.size) = some Z.length from by rw [hZl]; exact row_size)
            have HKS2 := Lib.hid (show (Try.prog.info? 42).map (·.size) = some Z.toArray.size from by rw [List.size_toArray, hZl]; exact row_size)
            have HOLD := Lib.hid (show rz.size = Z.toArray.size from rz_size.trans (by rw [List.size_toArray, hZl]))
            have HBZ := Lib.hid (Blk.new wr 42 rz)
            have HONE := Lib.hid (show Z.toArray.all (·.oneCell') = true from by rw [← hZ]; exact rcs_one)
            obtain ⟨w8, hw8⟩ : ∃ w8, wr.alloc (.cells Z.toArray 42) = w8 := ⟨_, rfl⟩
            obtain ⟨ab, hab⟩ : ∃ ab, wr.heap.size = ab := ⟨_, rfl⟩
            have hb8 : Below wr.heap.size wr w8 := hw8 ▸ (Below.refl _ _).alloc (Nat.le_refl _) _
            have hk8 : Blk w8 ab 42 Z.toArray := by rw [← hw8, ← hab]; exact Blk.new wr _ _
            have h8 := K.on hst.out hb8
            obtain ⟨Y, hY⟩ : ∃ X, kcs r2.1 = X := ⟨_, rfl⟩
            have HYS := Lib.hid (show (Try.prog.info? 38).map (·.size) = some Y.length from by rw [← hY, kcs_length hok.key]; exact key_size)
            have HRY := Lib.hid (show w8.rangeAt ab 0 Y from by
              have := range_of_blk hk8
              rw [← hZ] at this
              have := range_key this
              rwa [hY] at this)
            have KF2 := K.find' h8 (by rw [HS.out.2.2.2.1]; have := HMN.out.2; have := HS.out.2.2.2.2.1; omega) (by rw [HS.out.1]; omega) (by rw [HS.out.2.1]; omega) r2.1 hok.key 4 (by omega)
            rw [HS.out.2.2.1 r2.1 hx2 4, HS.out.2.2.2.1, hx2] at KF2
            obtain ⟨⟨g1, g2⟩, hgp⟩ : ∃ p, getX f.L r2.1 = p := ⟨_, rfl⟩
            rw [hgp] at KF2
            unfold kv pv at KF2
            rw [hY] at KF2
            replace KF2 := Lib.hid KF2
            have HW8 := Lib.hid (And.intro hw8 hab)
            have hi1 : (0 : Int) ≤ (q : Int) := by omega
            have hi2 : (q : Int) < (j : Int) := by omega
            clear hst hra hok hre hqx hZ hZl hw8 hab hb8 hk8 h8 hY hgp hx2 hgr
            go_wp2_with (first
              | refine wpList_load_mid rfl 42 (.tmp 82) rfl g (off + q * 35) rfl Z (.struct fr) HRA.out HF.out.2.2.1 rfl HKS.out ?_
              | (refine wpList_store_row rfl 42 (.tmp 17) (.tmp 83) rfl wr.heap.size Z.toArray rfl rfl 42 rz HBZ.out HKS2.out HOLD.out HONE.out ?_; rw [setRow_alloc, HW8.out.1, HW8.out.2])
              | refine wpList_load_mid rfl 38 (.tmp 86) rfl ab 0 rfl Y (.struct fs) HRY.out HF.out.1 rfl HYS.out ?_)
            refine KF2.out.mono ?_
            rintro e w9 ⟨rfl, h9⟩
            have H9 := Lib.hid h9
            clear h9 KF2
            go_wp2_with fail
            go_roundw
            case rel => exact ⟨q + 1, by omega, by go_num, Lib.hid (K.on H9.out ((Below.refl _ _).alloc (Nat.le_refl _) _))⟩
            case measure => simp [intOf]; omega
          · obtain rfl : q = j := by omega
            have KC := K.cost' hst.out
            rw [HS.out.1, HS.out.2.1] at KC
            replace KC := Lib.hid KC
            have HST := Lib.hid hst.out.bel
            clear hst
            go_wp2_with fail
            refine KC.out.mono ?_
            rintro e w8 ⟨rfl, hb8⟩
            have H8 := Lib.hid (HST.out.trans (hb8.mono HST.out.size))
            clear hb8 KC
            go_wp2_with fail
            go_ret
            exact ⟨rfl, H8.out⟩
end
end Go.Proofs.Ytoofhaoaogoomaa
/- A slice of rows as an argument. No statement of the seat is proved here. -/
namespace Go.Proofs.Ytoofhaoaogoomaa
open Go.ChangeShapes Go.WideShapes Go.ChangeAt Go.RowKit Go.Deep Go.Joins
section
variable {H : Type} {enc : TypeId × Value → H} {w : World} {base : Nat}
theorem open_rdrw_arg {fuel : Nat} {a : Option Addr} {len cap : Nat} {x : DataW H × List MemPlace}
    (h : DataW.trod enc Try.prog w base (fun _ => true) true fuel 53 (Value.slice a len cap).cells.toList = some x) :
    ∃ ls : List RowT, len = ls.length ∧ RdRw w w.heap.size a ls ∧ ls.length ≤ cap ∧ cap ≤ maxLen ∧ True := by
  obtain ⟨_, _, _, _, _, _, _, hR, _, _⟩ := row_fields
  obtain ⟨zs, h1, h2, h3, h4, h5⟩ := open_rows rcs RowT.Ok Try.underlying53 hR (by omega) (fun n cs y hy => row_cells hy) h
  exact ⟨zs, h1, ⟨h2, h5⟩, h3, h4, trivial⟩
end
end Go.Proofs.Ytoofhaoaogoomaa
/- A key's sum as a part of it. No statement of the seat is proved here. -/
namespace Go.Proofs.Ytoofhaoaogoomaa
open Go.RowKit
theorem sum_desc : ∃ n e, Try.prog.underlying 35 = some (.array n e) := ⟨_, _, Try.underlying35⟩
theorem sum_size : (Try.prog.info? 35).map (·.size) = some 32 := by kernel_rfl
theorem range_sum {w : World} {g o : Nat} {k : KeyT} (h : w.rangeAt g o (kcs k)) : w.rangeAt g o (bv k.1) := fun j u hu => h j u (by
  have hj := (List.getElem?_eq_some_iff.1 hu).1
  unfold kcs
  rw [List.getElem?_append_left hj]
  exact hu)
end Go.Proofs.Ytoofhaoaogoomaa
/- FindNil's walk, told from what the package does. No statement of the seat is proved here. -/
namespace Go.Proofs.Ytoofhaoaogoomaa
open Go.RowKit
set_option linter.unusedVariables false
set_option linter.unusedSimpArgs false

theorem rd_one (w : World) : Rd (w.alloc (.cells #[.int .u8 1] 5)) (w.alloc (.cells #[.int .u8 1] 5)).heap.size (some ⟨w.heap.size, 0, none⟩) [1] := fun _ => by
  refine ⟨w.heap.size, 0, rfl, by simp, fun j hj => ?_⟩
  have : j = 0 := by simpa using hj
  subst this
  rw [(Blk.new w 5 #[.int .u8 1]).cell]
  rfl
section
variable {Ft : World → Addr → (Nat → Prop) → FS → Prop}
set_option maxRecDepth 100000 in
set_option maxHeartbeats 4000000 in
theorem nil_walk (K : FindersOk Ft) (Z : FinderNilOk) (rr : RowT) (hrr : rr.Ok) (d : Nat) (hd : d < 18446744073709551616) (w : World) :
    Calls Try.prog 6 #[.agg (rcs rr).toArray, .int .u64 d] w fun e w' => e = .returned (.bool true) ∧ Below w.heap.size w w' := by
  obtain ⟨V, hV⟩ : ∃ V, rcs rr = V := ⟨_, rfl⟩
  obtain ⟨X, hX⟩ : ∃ X, kcs rr.1 = X := ⟨_, rfl⟩
  obtain ⟨Y, hY⟩ : ∃ Y, bv rr.1.1 = Y := ⟨_, rfl⟩
  obtain ⟨p1, hp1⟩ : ∃ x, rr.2.1 = x := ⟨_, rfl⟩
  obtain ⟨p2, hp2⟩ : ∃ x, rr.2.2 = x := ⟨_, rfl⟩
  have hpv : pvs rr.2 = [.int .i64 p1, .int .i64 p2] := by rw [← hp1, ← hp2]
  have hXl : X.length = 33 := by rw [← hX]; exact kcs_length hrr.key
  have hYl : Y.length = 32 := by rw [← hY, bv_length]; exact hrr.key.1
  have KP := fun W => Z.put rr.1 rr.2 W hrr.key ⟨hrr.shelf, hrr.slot⟩
  have KG := fun W => Z.find rr.1 d W hrr.key hd
  have KD := fun W => Z.drop rr.1 W hrr.key
  have KT := fun W => Z.twins rr.1.1 W hrr.key.1
  have KS := fun W => Z.shelf rr.2.1 W hrr.shelf
  have KB := Lib.hid (fun W (h : Rd W W.heap.size (some ⟨W.heap.size - 1, 0, none⟩) [1]) => Z.blur (some ⟨W.heap.size - 1, 0, none⟩) [1] 1 1 W rfl (Nat.le_refl _) (by simp [maxLen]) h)
  unfold kv pv at KP KG
  unfold kv at KD
  simp only [hX, hY, hpv, hp1] at KP KG KD KT KS
  replace KP := Lib.hid KP
  replace KG := Lib.hid KG
  replace KD := Lib.hid KD
  replace KT := Lib.hid KT
  replace KS := Lib.hid KS
  obtain ⟨w1, hw1⟩ : ∃ w1, w.alloc (.cells V.toArray 42) = w1 := ⟨_, rfl⟩
  obtain ⟨kb, hkb⟩ : ∃ kb, w.heap.size = kb := ⟨_, rfl⟩
  have hb1 : Below w.heap.size w w1 := hw1 ▸ (Below.refl _ _).alloc (Nat.le_refl _) _
  have hk1 : Blk w1 kb 42 V.toArray := by rw [← hw1, ← hkb]; exact Blk.new w _ _
  have HB := Lib.hid (show ∀ W, Below w1.heap.size w1 W → ((W.rangeAt kb 0 X ∧ W.rangeAt kb 0 Y) ∧ W.rangeAt kb 33 [.int .i64 p1, .int .i64 p2] ∧ W.cell? ⟨kb, 33, none⟩ = some (.int .i64 p1)) ∧ Below w.heap.size w W from fun W hW => by
    have h1 := range_of_blk (hk1.below hW hk1.lt)
    rw [← hV] at h1
    have h2 := range_key h1
    have h3 := range_place hrr h1
    have h4 := h1 33 _ (rcs_33 hrr)
    rw [Nat.zero_add, hp1] at h4
    rw [Nat.zero_add, hpv] at h3
    refine ⟨⟨⟨by rw [← hX]; exact h2, by rw [← hY]; exact range_sum h2⟩, h3, h4⟩, hb1.trans (hW.mono hb1.size)⟩)
  have HW := Lib.hid (And.intro hw1 hkb)
  have HKS := Lib.hid (show (Try.prog.info? 38).map (·.size) = some X.length from by rw [hXl]; exact key_size)
  have HSS := Lib.hid (show (Try.prog.info? 35).map (·.size) = some Y.length from by rw [hYl]; exact sum_size)
  have HPS := Lib.hid (show (Try.prog.info? 40).map (·.size) = some ([.int .i64 p1, .int .i64 p2] : List Value).length from place_size)
  obtain ⟨fs, hfs⟩ := key_desc
  obtain ⟨fp, hfp⟩ := place_desc
  obtain ⟨an, ae, hsd⟩ := sum_desc
  have HF := Lib.hid (And.intro hfs (And.intro hsd hfp))
  rw [hV]
  clear hV hX hY hXl hYl hp1 hp2 hpv hw1 hkb hb1 hk1 hfs hsd hfp hrr
  go_enter Try.func6, Try.ntmps6
  go_upto_region 2 with fail
  rw [HW.out.1, HW.out.2]
  have R := Lib.hid (HB.out _ (Below.refl _ _))
  go_wp2_with (first | refine wpList_load_mid rfl 38 (.tmp 11) rfl kb 0 rfl X (.struct fs) R.out.1.1.1 HF.out.1 rfl HKS.out ?_ | refine wpList_load_mid rfl 40 (.tmp 13) rfl kb 33 rfl [.int .i64 p1, .int .i64 p2] (.struct fp) R.out.1.2.1 HF.out.2.2 rfl HPS.out ?_)
  refine (KP.out w1).mono ?_
  rintro e w2 ⟨rfl, hb2⟩
  clear R
  go_wp2_with fail
  refine (Z.anew w2).mono ?_
  rintro e w3 ⟨rfl, hb3⟩
  have H3 := Lib.hid (hb2.trans (hb3.mono hb2.size))
  clear hb2 hb3
  have KB1 := Lib.hid (Z.blur (some ⟨w3.heap.size, 0, none⟩) [1] 1 1 (w3.alloc (.cells #[.int .u8 1] 5)) rfl (Nat.le_refl _) (by simp [maxLen]) (rd_one w3))
  have ha3 := (show Below w3.heap.size w3 (w3.alloc (.cells #[.int .u8 1] 5)) from (Below.refl _ _).alloc (Nat.le_refl _) _)
  have H4 := Lib.hid (H3.out.trans (ha3.mono H3.out.size))
  clear ha3 KB
  go_wp2_with fail
  refine KB1.out.mono ?_
  rintro e w5 ⟨rfl, hb5⟩
  have H5 := Lib.hid (H4.out.trans (hb5.mono H4.out.size))
  clear hb5 KB1
  have R := Lib.hid (HB.out _ H5.out)
  go_wp2_with (refine wpList_load_mid rfl 38 (.tmp 23) rfl kb 0 rfl X (.struct fs) R.out.1.1.1 HF.out.1 rfl HKS.out ?_)
  refine (KG.out w5).mono ?_
  rintro e w6 ⟨rfl, hb6⟩
  obtain ⟨w7, hw7⟩ : ∃ w7, w6.alloc (.cells #[.int .i64 0, .int .i64 0] 40) = w7 := ⟨_, rfl⟩
  have hb7 := hb6.trans ((show Below w6.heap.size w6 w7 from hw7 ▸ (Below.refl _ _).alloc (Nat.le_refl _) _).mono hb6.size)
  have H7 := Lib.hid (H5.out.trans (hb7.mono H5.out.size))
  have HW7 := Lib.hid hw7
  clear hb6 hb7 hw7 R
  go_upto_region 6 with fail
  rw [HW7.out]
  go_wp2_with fail
  refine (Z.cost w7).mono ?_
  rintro e w8 ⟨rfl, hb8⟩
  have H8 := Lib.hid (H7.out.trans (hb8.mono H7.out.size))
  clear hb8
  go_wp2_with fail
  refine (shown_any K w8).mono ?_
  rintro e w9 ⟨rfl, hb9⟩
  have H9 := Lib.hid (H8.out.trans (hb9.mono H8.out.size))
  clear hb9
  have R := Lib.hid (HB.out _ H9.out)
  go_wp2_with (refine wpList_mid_want (by rfl) 38 (.tmp 41) rfl kb 0 rfl X (.struct fs) R.out.1.1.1 HF.out.1 rfl HKS.out ?_)
  refine (KD.out w9).mono ?_
  rintro e w10 ⟨rfl, hb10⟩
  have H10 := Lib.hid (H9.out.trans (hb10.mono H9.out.size))
  clear hb10 R
  have R := Lib.hid (HB.out _ H10.out)
  go_wp2_with (refine wpList_mid_want (by rfl) 35 (.tmp 49) rfl kb 0 rfl Y (.array an ae) R.out.1.1.2 HF.out.2.1 rfl HSS.out ?_)
  refine (KT.out w10).mono ?_
  rintro e w11 ⟨⟨A11, c11, rfl⟩, hb11⟩
  have H11 := Lib.hid (H10.out.trans (hb11.mono H10.out.size))
  clear hb11 R
  have hp0 := (HB.out _ H11.out).1.2.2
  go_wp2_with fail
  refine (KS.out w11).mono ?_
  rintro e w12 ⟨⟨A12, c12, rfl⟩, hb12⟩
  have H12 := Lib.hid (H11.out.trans (hb12.mono H11.out.size))
  clear hb12 hp0
  go_wp2_with fail
  refine (Z.all w12).mono ?_
  rintro e w13 ⟨⟨A13, c13, rfl⟩, hb13⟩
  have H13 := Lib.hid (H12.out.trans (hb13.mono H12.out.size))
  clear hb13
  go_wp2_with fail
  refine (Z.len w13).mono ?_
  rintro e w14 ⟨rfl, hb14⟩
  have H14 := Lib.hid (HB.out _ (H13.out.trans (hb14.mono H13.out.size)))
  clear hb14
  go_wp2_with fail
  go_ret
  exact ⟨rfl, H14.out.2⟩
end
end Go.Proofs.Ytoofhaoaogoomaa
/- A row handed over by value. No statement of the seat is proved here. -/
namespace Go.Proofs.Ytoofhaoaogoomaa
open Go.ChangeShapes Go.WideShapes Go.ChangeAt Go.RowKit Go.Deep Go.Joins
set_option linter.unusedVariables false

set_option maxRecDepth 100000 in
theorem open_rowv {H : Type} {enc : TypeId × Value → H} {w : World} {base : Nat} {sp : Nat → Bool} {held : Bool} {v : Value} {r : Reach} {b0 : Nat} {d : DataW H} {p : List MemPlace}
    (hv : Value.okWide Try.prog w r b0 42 v) (h : DataW.Trod enc Try.prog w base sp held 42 v d p) : ∃ q : RowT, v = .agg (rcs q).toArray ∧ q.Ok := by
  obtain ⟨f0, f1, hs, _⟩ := row_fields
  obtain ⟨cs, rfl, hsz⟩ := okWide_struct hs hv
  obtain ⟨fuel, hf⟩ := h
  obtain ⟨q, hcs, h1⟩ := row_cells hf
  refine ⟨q, ?_, h1⟩
  have e : cs = (rcs q).toArray := by rw [← Array.toList_inj]; exact hcs
  rw [e]
end Go.Proofs.Ytoofhaoaogoomaa
