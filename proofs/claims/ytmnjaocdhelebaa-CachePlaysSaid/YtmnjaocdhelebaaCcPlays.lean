/- CachePlays' walk, told from what the package does. No statement of the seat is proved here. -/
import Derived.Test.YtmnjaocdhelebaaCcTwo
import Derived.Test.YtmnjaocdhelebaaMidWant
import Derived.Test.YtmnjaocdhelebaaIxEq
import Derived.Test.YtmnjaocdhelebaaSameI
import Derived.Deep.DeepCutAuto
namespace Go.Proofs.Ytmnjaocdhelebaa
open Go.RowKit
set_option linter.unusedVariables false
set_option linter.unusedSimpArgs false

section
variable {Ct : World → Addr → (Nat → Prop) → CS → Prop}
theorem getC_ok2 {S : CS} (h : S.Ok) {k : KeyT} {p : Int × Int} (hp : getC S k = p) : In64 p.1 ∧ In64 p.2 := by
  rw [← hp]
  unfold getC
  cases hf : findC S k with
  | none => exact ⟨⟨by decide, by decide⟩, ⟨by decide, by decide⟩⟩
  | some r =>
    unfold findC at hf
    obtain ⟨x, hx, h2⟩ := List.exists_of_findSome?_eq_some hf
    have := (h.rows x hx).2 r (List.mem_of_find?_eq_some h2)
    exact ⟨this.shelf, this.slot⟩
theorem rz_one : rz.all (·.oneCell') = true := by first | rfl | kernel_rfl
set_option maxRecDepth 100000 in
set_option maxHeartbeats 4000000 in
/-- No room that may be. -/
theorem plays_bad (K : CachesOk Ct) (room : Int) (hr64 : In64 room) (hbad : ¬ (0 ≤ room ∧ room ≤ 4096)) (A : Option Addr) (n c : Nat) (rr : RowT) (hrr : rr.Ok) (w : World) :
    Calls Try.prog 3 #[.int .i64 room, .slice A n c, .agg (rcs rr).toArray] w fun e w' => e = .returned (.bool true) ∧ Below w.heap.size w w' := by
  obtain ⟨Y, hY⟩ : ∃ Y, rcs rr = Y := ⟨_, rfl⟩
  rw [hY]
  obtain ⟨w1, hw1⟩ : ∃ w1, w.alloc (.cells Y.toArray 31) = w1 := ⟨_, rfl⟩
  have H1 := Lib.hid (show Below w.heap.size w w1 from hw1 ▸ (Below.refl _ _).alloc (Nat.le_refl _) _)
  have HW1 := Lib.hid hw1
  have KNO := Lib.hid (fun W => K.newNo room W hr64 hbad)
  clear hY hw1
  by_cases h0 : room < 0
  · clear hbad
    go_enter Try.func3, Try.ntmps3
    go_wp2_with fail
    rw [HW1.out]
    refine (shown_any K w1).mono ?_
    rintro e w2 ⟨rfl, hb2⟩
    have H2 := Lib.hid (H1.out.trans (hb2.mono H1.out.size))
    clear hb2
    go_wp2_with fail
    refine (KNO.out w2).mono ?_
    rintro e w3 ⟨rfl, hb3⟩
    have H3 := Lib.hid (H2.out.trans (hb3.mono H2.out.size))
    clear hb3 KNO
    go_wp2_with fail
    go_ret
    exact ⟨rfl, H3.out⟩
  · have h1 : (4096 : Int) < room := by omega
    clear hbad
    go_enter Try.func3, Try.ntmps3
    go_wp2_with fail
    rw [HW1.out]
    refine (shown_any K w1).mono ?_
    rintro e w2 ⟨rfl, hb2⟩
    have H2 := Lib.hid (H1.out.trans (hb2.mono H1.out.size))
    clear hb2
    go_wp2_with fail
    refine (KNO.out w2).mono ?_
    rintro e w3 ⟨rfl, hb3⟩
    have H3 := Lib.hid (H2.out.trans (hb3.mono H2.out.size))
    clear hb3 KNO
    go_wp2_with fail
    go_ret
    exact ⟨rfl, H3.out⟩
set_option maxRecDepth 100000 in
set_option maxHeartbeats 16000000 in
theorem plays_good (K : CachesOk Ct) (q : Nat) (hq : q ≤ 4096) (A : Option Addr) (ls : List CAct) (n c : Nat) (hl : ls.length = n) (hc : n ≤ c) (hm : c ≤ maxLen) (rr : RowT) (hrr : rr.Ok) (w : World) (hr : RdC w w.heap.size A ls) :
    Calls Try.prog 3 #[.int .i64 (q : Nat), .slice A n c, .agg (rcs rr).toArray] w fun e w' => e = .returned (.bool true) ∧ Below w.heap.size w w' := by
  have HR := Lib.hid hr
  have HFEW := Lib.hid (fun W (hW : Below w.heap.size w W) => few_any A n c ls hl hc hm W ((hr.below hW).more hW.size))
  have HL := Lib.hid hl
  unfold maxLen at hm
  have hq0 : ¬ (q : Int) < 0 := by omega
  have hq1 : ¬ (4096 : Int) < (q : Int) := by omega
  obtain ⟨fs, hfs⟩ := cact_desc
  obtain ⟨fk, hfk⟩ := key_desc
  obtain ⟨fr, hfr⟩ := row_desc
  obtain ⟨fp, hfp⟩ := place_desc
  have HF := Lib.hid (And.intro hfs (And.intro hfk (And.intro hfr hfp)))
  obtain ⟨Y, hY⟩ : ∃ Y, rcs rr = Y := ⟨_, rfl⟩
  obtain ⟨X, hX⟩ : ∃ X, kcs rr.1 = X := ⟨_, rfl⟩
  obtain ⟨rs, hrs⟩ : ∃ rs, rr.2.1 = rs := ⟨_, rfl⟩
  have HXS := Lib.hid (show (Try.prog.info? 27).map (·.size) = some X.length from by rw [← hX, kcs_length hrr.key]; exact key_size)
  have HY := Lib.hid (And.intro hY (And.intro hX hrs))
  have HRR := Lib.hid hrr
  rw [hY]
  obtain ⟨kb, hkb⟩ : ∃ kb, w.heap.size = kb := ⟨_, rfl⟩
  obtain ⟨w1, hw1⟩ : ∃ w1, w.alloc (.cells Y.toArray 31) = w1 := ⟨_, rfl⟩
  have HW1 := Lib.hid (And.intro hw1 hkb)
  obtain ⟨EK, hEK⟩ : ∃ EK, ((kb, Obj.cells Y.toArray 31 (0, 0)) : Nat × Obj) = EK := ⟨_, rfl⟩
  have HEK := Lib.hid hEK
  have H1 := Lib.hid (show Below w.heap.size w w1 ∧ Blk w1 kb 31 Y.toArray from by
    rw [← hw1, ← hkb]
    exact ⟨(Below.refl _ _).alloc (Nat.le_refl _) _, Blk.new w _ _⟩)
  have HKB := Lib.hid (show ∀ W s S T tb E, TwoB Ct Rc w W s ⟨tb, 0, none⟩ S T E → EK ∈ E → W.rangeAt kb 0 X ∧ W.cell? ⟨kb, 33, none⟩ = some (.int .i64 rs) from fun W s S T tb E h hm => by
    have h1 : Blk W kb 31 Y.toArray := h.blk (by rw [hEK]; exact hm)
    have h2 := range_of_blk h1
    rw [← hY] at h2
    have h3 := range_key h2
    rw [hX] at h3
    have h4 := h2 33 _ (rcs_33 hrr)
    rw [Nat.zero_add, hrs] at h4
    exact ⟨h3, h4⟩)
  have HQ := Lib.hid hq
  clear hr hl hfs hfk hfr hfp hY hX hrs hrr hw1 hkb hEK
  go_enter Try.func3, Try.ntmps3
  go_wp2_with fail
  rw [HW1.out.1, HW1.out.2]
  refine (shown_any K w1).mono ?_
  rintro e w2 ⟨rfl, hb2⟩
  have H2 := Lib.hid (And.intro (H1.out.1.trans (hb2.mono H1.out.1.size)) (H1.out.2.below hb2 H1.out.2.lt))
  clear hb2 H1
  go_wp2_with fail
  refine (K.new q w2 (by omega)).mono ?_
  rintro e w3 ⟨s, F, rfl, h3, hF, hb3⟩
  obtain ⟨tb, htb⟩ : ∃ tb, w3.heap.size = tb := ⟨_, rfl⟩
  obtain ⟨w4, hw4⟩ : ∃ w4, w3.alloc (.cells #[.slice none 0 0, .int .i64 (q : Nat)] 40) = w4 := ⟨_, rfl⟩
  have H4 := Lib.hid (show TwoB Ct Rc w w4 s ⟨tb, 0, none⟩ ⟨q, []⟩ ⟨q, []⟩ [EK] from hw4 ▸ HEK.out ▸ two_new K hq H2.out.1 H2.out.2 h3 hF hb3 htb)
  have HW4 := Lib.hid (And.intro hw4 htb)
  clear h3 hF hb3 htb hw4 H2
  go_wp2_with fail
  rw [HW4.out.1, HW4.out.2]
  refine (HFEW.out _ H4.out.bel).mono ?_
  rintro e w5 ⟨k, hkn, hk100, hall, rfl, rfl⟩
  have HALL := Lib.hid hall
  clear hall HFEW
  go_wp2_with fail
  go_loopw [55] (fun i wr => ∃ (j : Nat) (S : CS), j ≤ k ∧ i = .int .i64 j ∧ Hid (TwoB Ct Rc w wr s ⟨tb, 0, none⟩ S S [EK])) (fun i _ => k - (intOf i).toNat)
  case atStart => exact ⟨0, _, Nat.zero_le _, rfl, H4⟩
  case round =>
    clear H4 HW4 HW1
    obtain ⟨j, S, hj, rfl, hst⟩ := hrel
    by_cases hlt : j < k
    · have hi1 : (0 : Int) ≤ (j : Int) := by omega
      have hi2 : (j : Int) < (k : Int) := by omega
      have hjl : j < ls.length := by rw [HL.out]; omega
      obtain ⟨g, off, ⟨gn, sh, ad, cp, R, dw⟩, hA, hra, hok, h50, _, hg⟩ := HR.out.get hst.out.bel hjl hlt HALL.out
      obtain ⟨nb, hnb⟩ : ∃ nb, R.length = nb := ⟨_, rfl⟩
      have HRA := Lib.hid (show wr.rangeAt g (off + j * 4) [.bool gn, .int .i64 sh, .slice ad nb cp, .int .u64 dw] from by rw [← hnb]; exact hra)
      have HKS := Lib.hid (show (Try.prog.info? 45).map (·.size) = some ([.bool gn, .int .i64 sh, .slice ad nb cp, .int .u64 dw] : List Value).length from cact_size)
      have HKS2 := Lib.hid (show (Try.prog.info? 45).map (·.size) = some (#[.bool gn, .int .i64 sh, .slice ad nb cp, .int .u64 dw] : Array Value).size from cact_size)
      have HONE := Lib.hid (show (#[.bool gn, .int .i64 sh, .slice ad nb cp, .int .u64 dw] : Array Value).all (·.oneCell') = true from by simp; exact ⟨rfl, rfl, rfl, rfl⟩)
      have HBZ := Lib.hid (Blk.new wr 45 #[.bool false, .int .i64 0, .slice none 0 0, .int .u64 0])
      have HOK := Lib.hid (And.intro hok (And.intro h50 (And.intro hnb (And.intro hst.out.bel (pgood K hst.out)))))
      have hs64 : In64 sh := hok.shelf
      have HS64 := Lib.hid hs64
      obtain ⟨w5, ab, hw5, hab, hb5, hblk⟩ := cact_box wr #[.bool gn, .int .i64 sh, .slice ad nb cp, .int .u64 dw]
      have HW5 := Lib.hid (And.intro hw5 hab)
      have T5 := hst.out.box K.firm Rc.firm hab hw5
      obtain ⟨EA, hEA⟩ : ∃ EA, ((ab, Obj.cells #[.bool gn, .int .i64 sh, .slice ad nb cp, .int .u64 dw] 45 (0, 0)) : Nat × Obj) = EA := ⟨_, rfl⟩
      rw [hEA] at T5
      have HE := Lib.hid hEA
      have HC := Lib.hid (show ∀ W S m E, TwoB Ct Rc w W s ⟨tb, 0, none⟩ S m E → EA ∈ E → Blk W ab 45 #[.bool gn, .int .i64 sh, .slice ad nb cp, .int .u64 dw] from fun _ _ _ _ h hm => h.blk (by rw [hEA]; exact hm))
      have hbk := HC.out _ _ _ _ T5 (List.mem_cons_self)
      have HLT := Lib.hid (show ab < w5.heap.size ∧ kb < w5.heap.size from ⟨hbk.lt, by
        have h := blk_in (T5.blk (t' := 31) (cs := Y.toArray) (g := kb) (by rw [HEK.out]; simp))
        exact h⟩)
      have H5 := Lib.hid T5
      have k0 : w5.cell? ⟨ab, 0, none⟩ = some (.bool gn) := hbk.cell 0
      have k1 : w5.cell? ⟨ab, 1, none⟩ = some (.int .i64 sh) := hbk.cell 1
      have k2 : w5.cell? ⟨ab, 2, none⟩ = some (.slice ad nb cp) := hbk.cell 2
      have k3 : w5.cell? ⟨ab, 3, none⟩ = some (.int .u64 dw) := hbk.cell 3
      obtain ⟨hdb, hhdb⟩ : ∃ b, hasC S sh = b := ⟨_, rfl⟩
      have HBB := Lib.hid (show (hasC S sh != hasC S sh) = false by cases hasC S sh <;> rfl)
      subst hA
      clear hra hok h50 hst hw5 hab hb5 hblk hnb hg hs64 T5 hEA hbk
      cases gn with
      | true =>
        go_upto_region 12 with (first
          | refine wpList_load_mid rfl 45 (.tmp 57) rfl g (off + j * 4) rfl [.bool true, .int .i64 sh, .slice ad nb cp, .int .u64 dw] (.struct fs) HRA.out HF.out.1 rfl HKS.out ?_
          | (refine wpList_store_row rfl 45 (.tmp 12) (.tmp 58) rfl wr.heap.size #[.bool true, .int .i64 sh, .slice ad nb cp, .int .u64 dw] rfl rfl 45 #[.bool false, .int .i64 0, .slice none 0 0, .int .u64 0] HBZ.out HKS2.out rfl HONE.out ?_; rw [setRow_alloc, HW5.out.1, HW5.out.2]))
        refine wp_region_held_drew (S := fun W => W.cell? ⟨ab, 1, none⟩ = some (.int .i64 sh)) (by kernel_rfl) (by exact k1) (fun hHeld => ?_)
        have b0 := hHeld
        have KDL := Lib.hid (fun W (h : TwoB Ct Rc w W s ⟨tb, 0, none⟩ S S [EA, EK]) => pdropL K h sh HS64.out)
        have KDR := Lib.hid (fun W (h : TwoB Ct Rc w W s ⟨tb, 0, none⟩ (dropC S sh) S [EA, EK]) => pdropR K h HOK.out.2.2.2.2 sh)
        have H5D := Lib.hid (H5.out.on K.firm Rc.firm (show Below w5.heap.size w5 w5.drew from ⟨rfl, rfl, rfl, Nat.le_refl _, fun _ _ => rfl⟩))
        refine wpAnyH_take (i := 0) (oi := _) (v := .pointer (some s)) rfl (by kernel_rfl) (by kernel_rfl) (by kernel_rfl) (fun _ _ _ h => h) (Or.inl ⟨by rfl, by intro w hSw; go_simp⟩) b0 ?_
        simp only [List.getElem_toArray, List.getElem_cons_zero, List.getElem_cons_succ, Act.put, List.setIfInBounds_toArray, List.set_cons_zero, List.set_cons_succ]
        refine wpAnyH_take (i := 1) (oi := _) (v := .pointer (some ⟨ab, 1, none⟩)) rfl (by kernel_rfl) (by kernel_rfl) (by kernel_rfl) (fun _ _ _ h => h) (Or.inl ⟨by rfl, by intro w hSw; go_simp⟩) b0 ?_
        simp only [List.getElem_toArray, List.getElem_cons_zero, List.getElem_cons_succ, Act.put, List.setIfInBounds_toArray, List.set_cons_zero, List.set_cons_succ]
        refine wpAnyH_take (i := 2) (oi := _) (v := .int .i64 sh) rfl (by kernel_rfl) (by kernel_rfl) (by kernel_rfl) (fun _ _ _ h => h) (Or.inl ⟨by rfl, by intro w hSw; have hcc : w.cell? ⟨ab, 1, none⟩ = some (.int .i64 sh) := hSw; go_simp⟩) b0 ?_
        simp only [List.getElem_toArray, List.getElem_cons_zero, List.getElem_cons_succ, Act.put, List.setIfInBounds_toArray, List.set_cons_zero, List.set_cons_succ]
        refine wpAnyH_take (i := 4) (oi := _) (v := .pointer (some ⟨tb, 0, none⟩)) rfl (by kernel_rfl) (by kernel_rfl) (by kernel_rfl) (fun _ _ _ h => h) (Or.inl ⟨by rfl, by intro w hSw; go_simp⟩) b0 ?_
        simp only [List.getElem_toArray, List.getElem_cons_zero, List.getElem_cons_succ, Act.put, List.setIfInBounds_toArray, List.set_cons_zero, List.set_cons_succ]
        refine wpAnyH_take (i := 5) (oi := _) (v := .pointer (some ⟨ab, 1, none⟩)) rfl (by kernel_rfl) (by kernel_rfl) (by kernel_rfl) (fun _ _ _ h => h) (Or.inl ⟨by rfl, by intro w hSw; go_simp⟩) b0 ?_
        simp only [List.getElem_toArray, List.getElem_cons_zero, List.getElem_cons_succ, Act.put, List.setIfInBounds_toArray, List.set_cons_zero, List.set_cons_succ]
        refine wpAnyH_take (i := 6) (oi := _) (v := .int .i64 sh) rfl (by kernel_rfl) (by kernel_rfl) (by kernel_rfl) (fun _ _ _ h => h) (Or.inl ⟨by rfl, by intro w hSw; have hcc : w.cell? ⟨ab, 1, none⟩ = some (.int .i64 sh) := hSw; go_simp⟩) b0 ?_
        simp only [List.getElem_toArray, List.getElem_cons_zero, List.getElem_cons_succ, Act.put, List.setIfInBounds_toArray, List.set_cons_zero, List.set_cons_succ]
        refine wpAnyH_ready (rs := [3]) (by kernel_rfl) (by simp) ?_
        refine AllReadyH.cons rfl (fun K hK => ?_) AllReadyH.nil
        go_simp
        (go_at_call 11; (with_reducible refine (KDL.out _ H5D.out).mono ?_))
        rintro e wf ⟨rfl, hf⟩
        have b1 : wf.cell? ⟨ab, 1, none⟩ = some (.int .i64 sh) := (HC.out _ _ _ _ hf List.mem_cons_self).cell 1
        have HFD := Lib.hid hf
        clear hf
        go_wp2_with fail
        refine hK.out _ _ b1 (fun _ => ?_)
        clear hK K
        try simp only [List.getElem_toArray, List.getElem_cons_zero, List.getElem_cons_succ, Act.put, List.setIfInBounds_toArray, List.set_cons_zero, List.set_cons_succ]
        refine wpAnyH_ready (rs := [7]) (by kernel_rfl) (by simp) ?_
        refine AllReadyH.cons rfl (fun K hK => ?_) AllReadyH.nil
        go_simp
        (go_at_call 12; (with_reducible refine (KDR.out _ HFD.out).mono ?_))
        rintro e wh ⟨rfl, hf⟩
        have b2 : wh.cell? ⟨ab, 1, none⟩ = some (.int .i64 sh) := (HC.out _ _ _ _ hf List.mem_cons_self).cell 1
        have H6 := Lib.hid hf.drop
        clear hf
        go_wp2_with fail
        refine hK.out _ _ b2 (fun _ => ?_)
        clear hK K
        try simp only [List.getElem_toArray, List.getElem_cons_zero, List.getElem_cons_succ, Act.put, List.setIfInBounds_toArray, List.set_cons_zero, List.set_cons_succ]
        refine wpAnyH_take (i := 8) (oi := _) (v := .bool false) rfl (by kernel_rfl) (by kernel_rfl) (by kernel_rfl) (fun _ _ _ h => h) (Or.inl ⟨by rfl, by intro w hSw; go_simp⟩) b2 ?_
        simp only [List.getElem_toArray, List.getElem_cons_zero, List.getElem_cons_succ, Act.put, List.setIfInBounds_toArray, List.set_cons_zero, List.set_cons_succ]
        refine wpAnyH_done (by kernel_rfl) ?_ _
        clear b0 b1 b2 hHeld k0 k1 k2 k3
        obtain ⟨T, hT⟩ : ∃ T, dropC S sh = T := ⟨_, rfl⟩
        rw [hT] at H6
        clear hT
        have hkk := HKB.out _ _ _ _ _ _ H6.out List.mem_cons_self
        have RK := Lib.hid hkk.1
        have KG0 := pgetL K H6.out rr.1 HRR.out.key
        obtain ⟨⟨p1, p2⟩, hp⟩ : ∃ p, getC T rr.1 = p := ⟨_, rfl⟩
        obtain ⟨is, his⟩ : ∃ is, knowsC T rr.1 = is := ⟨_, rfl⟩
        unfold kv at KG0
        rw [hp, his, HY.out.2.1] at KG0
        have KG := Lib.hid KG0
        have HPI := Lib.hid (And.intro hp his)
        have HTO := Lib.hid (pgood K H6.out)
        clear hkk KG0 hp his
        go_wp2_with (refine wpList_load_mid rfl 27 (.tmp 101) rfl kb 0 rfl X (.struct fk) RK.out HF.out.2.1 rfl HXS.out ?_)
        refine KG.out.mono ?_
        rintro e v9 ⟨rfl, h9⟩
        obtain ⟨pb, hpb⟩ : ∃ pb, v9.heap.size = pb := ⟨_, rfl⟩
        obtain ⟨v10, hv10⟩ : ∃ v10, v9.alloc (.cells #[.int .i64 p1, .int .i64 p2] 29) = v10 := ⟨_, rfl⟩
        have h10 := h9.box K.firm Rc.firm hpb hv10
        have RK2 := Lib.hid (show (v9.alloc (.cells #[.int .i64 p1, .int .i64 p2] 29)).rangeAt kb 0 X from by rw [hv10]; exact (HKB.out _ _ _ _ _ _ h10 (by simp)).1)
        have KG0 := pgetR K h10 rr.1 HRR.out.key
        unfold kv at KG0
        rw [HPI.out.1, HPI.out.2, HY.out.2.1] at KG0
        have KG2 := Lib.hid KG0
        have HV10 := Lib.hid (And.intro hv10 hpb)
        clear h9 h10 hv10 hpb KG RK KG0
        go_wp2_with (refine wpList_load_mid rfl 27 (.tmp 108) rfl kb 0 rfl X (.struct fk) RK2.out HF.out.2.1 rfl HXS.out ?_)
        rw [HV10.out.1, HV10.out.2]
        refine KG2.out.mono ?_
        rintro e v11 ⟨rfl, h11⟩
        obtain ⟨qb, hqb⟩ : ∃ qb, v11.heap.size = qb := ⟨_, rfl⟩
        obtain ⟨v12, hv12⟩ : ∃ v12, v11.alloc (.cells #[.int .i64 p1, .int .i64 p2] 29) = v12 := ⟨_, rfl⟩
        have h12 := h11.box K.firm Rc.firm hqb hv12
        have HPB := Lib.hid (show v12.rangeAt pb 0 [.int .i64 p1, .int .i64 p2] ∧ v12.rangeAt qb 0 [.int .i64 p1, .int .i64 p2] from ⟨range_of_blk (cs := [.int .i64 p1, .int .i64 p2]) (h12.blk (List.mem_cons_of_mem _ List.mem_cons_self)), range_of_blk (cs := [.int .i64 p1, .int .i64 p2]) (h12.blk List.mem_cons_self)⟩)
        have HPS2 := Lib.hid (show (Try.prog.info? 29).map (·.size) = some ([.int .i64 p1, .int .i64 p2] : List Value).length from place_size)
        have KSL := Lib.hid (pshelvesL K h12)
        have HV12 := Lib.hid (And.intro hv12 hqb)
        clear h11 h12 hv12 hqb KG2 RK2
        go_upto_region 24 with fail
        rw [HV12.out.1, HV12.out.2]
        have QEP : ∀ W : World, (Op.equalIn 10000 29 (.agg #[.int .i64 p1, .int .i64 p2]) (.agg #[.int .i64 p1, .int .i64 p2])).run Try.prog W = .ok true W := fun W => by
          have hpk := getC_ok2 HTO.out HPI.out.1
          have := place_eq (a := (p1, p2)) (b := (p1, p2)) hpk hpk W
          rw [decide_eq_true rfl] at this
          exact this
        have QGP : Try.prog.eqGuardType Try.prog.depth 29 = false := place_guard
        cases is with
        | true =>
          go_wp2_with (first | refine wpList_load_mid rfl 29 (.tmp 15) rfl pb 0 rfl [.int .i64 p1, .int .i64 p2] (.struct fp) HPB.out.1 HF.out.2.2.2 rfl HPS2.out ?_ | refine wpList_load_mid rfl 29 (.tmp 17) rfl qb 0 rfl [.int .i64 p1, .int .i64 p2] (.struct fp) HPB.out.2 HF.out.2.2.2 rfl HPS2.out ?_)
          refine KSL.out.mono ?_
          rintro e v13 ⟨A8, c8, rfl, ho8, hb13, h13⟩
          obtain ⟨V, hV⟩ : ∃ V, shelvesC T = V := ⟨_, rfl⟩
          obtain ⟨m, hml⟩ : ∃ m, V.length = m := ⟨_, rfl⟩
          have hm4 : m ≤ 100000 := by rw [← hml, ← hV, shelves_len]; have h1 := HTO.out.len; have h2 := HTO.out.room; omega
          have KSR0 := pshelvesR K h13
          rw [hV] at ho8
          rw [hV, hml] at KSR0 ⊢
          have KSR := Lib.hid KSR0
          have HO8 := Lib.hid ho8
          have HML := Lib.hid hml
          clear KSR0 ho8 hb13 h13 hV hml KSL
          go_wp2_with fail
          refine KSR.out.mono ?_
          rintro e v14 ⟨A9, c9, rfl, ho9, hb14, h14⟩
          have KM := Lib.hid (same_any A8 m c8 V A9 m c9 V HML.out HML.out hm4 hm4 v14 (HO8.out.on hb14).rdv ho9.rdv)
          rw [decide_eq_true rfl] at KM
          have H14 := Lib.hid h14
          clear ho9 hb14 h14 KSR HO8
          go_wp2_with fail
          refine KM.out.mono ?_
          rintro e v15 ⟨rfl, hb15⟩
          have H15 := Lib.hid ((H14.out.on K.firm Rc.firm hb15).sub (E' := [EK]) (by simp))
          clear hb15 H14 KM
          go_wp2_with fail
          go_roundw
          case rel => exact ⟨j + 1, T, by omega, by go_num, H15⟩
          case measure => simp [intOf]; omega
        | false =>
          go_wp2_with (first | refine wpList_load_mid rfl 29 (.tmp 15) rfl pb 0 rfl [.int .i64 p1, .int .i64 p2] (.struct fp) HPB.out.1 HF.out.2.2.2 rfl HPS2.out ?_ | refine wpList_load_mid rfl 29 (.tmp 17) rfl qb 0 rfl [.int .i64 p1, .int .i64 p2] (.struct fp) HPB.out.2 HF.out.2.2.2 rfl HPS2.out ?_)
          refine KSL.out.mono ?_
          rintro e v13 ⟨A8, c8, rfl, ho8, hb13, h13⟩
          obtain ⟨V, hV⟩ : ∃ V, shelvesC T = V := ⟨_, rfl⟩
          obtain ⟨m, hml⟩ : ∃ m, V.length = m := ⟨_, rfl⟩
          have hm4 : m ≤ 100000 := by rw [← hml, ← hV, shelves_len]; have h1 := HTO.out.len; have h2 := HTO.out.room; omega
          have KSR0 := pshelvesR K h13
          rw [hV] at ho8
          rw [hV, hml] at KSR0 ⊢
          have KSR := Lib.hid KSR0
          have HO8 := Lib.hid ho8
          have HML := Lib.hid hml
          clear KSR0 ho8 hb13 h13 hV hml KSL
          go_wp2_with fail
          refine KSR.out.mono ?_
          rintro e v14 ⟨A9, c9, rfl, ho9, hb14, h14⟩
          have KM := Lib.hid (same_any A8 m c8 V A9 m c9 V HML.out HML.out hm4 hm4 v14 (HO8.out.on hb14).rdv ho9.rdv)
          rw [decide_eq_true rfl] at KM
          have H14 := Lib.hid h14
          clear ho9 hb14 h14 KSR HO8
          go_wp2_with fail
          refine KM.out.mono ?_
          rintro e v15 ⟨rfl, hb15⟩
          have H15 := Lib.hid ((H14.out.on K.firm Rc.firm hb15).sub (E' := [EK]) (by simp))
          clear hb15 H14 KM
          go_wp2_with fail
          go_roundw
          case rel => exact ⟨j + 1, T, by omega, by go_num, H15⟩
          case measure => simp [intOf]; omega
      | false =>
        have hal : Below w5.heap.size w5 (w5.alloc (.cells #[] 31)) := (Below.refl _ _).alloc (Nat.le_refl _) _
        have k2a : (w5.alloc (.cells #[] 31)).cell? ⟨ab, 2, none⟩ = some (.slice ad nb cp) := (hal.cell (p := ⟨ab, 2, none⟩) HLT.out.1).trans k2
        have HAL := Lib.hid hal
        have HE0 := Lib.hid (OwnG.empty (g := rcs) (e := 31) (sz := 35) w5)
        have HRT := Lib.hid (show RdRw (w5.alloc (.cells #[] 31)) (w5.alloc (.cells #[] 31)).heap.size ad R from by
          have hb := H5.out.bel.trans (hal.mono H5.out.bel.size)
          exact (HOK.out.1.rd.below hb).more hb.size)
        clear hal
        go_upto_region 15 with (first
          | refine wpList_load_mid rfl 45 (.tmp 57) rfl g (off + j * 4) rfl [.bool false, .int .i64 sh, .slice ad nb cp, .int .u64 dw] (.struct fs) HRA.out HF.out.1 rfl HKS.out ?_
          | (refine wpList_store_row rfl 45 (.tmp 12) (.tmp 58) rfl wr.heap.size #[.bool false, .int .i64 sh, .slice ad nb cp, .int .u64 dw] rfl rfl 45 #[.bool false, .int .i64 0, .slice none 0 0, .int .u64 0] HBZ.out HKS2.out rfl HONE.out ?_; rw [setRow_alloc, HW5.out.1, HW5.out.2])
          | (at_builtin; refine wpList_append_g rowE rfl (.tmp 70) (.tmp 72) rfl w5.heap.size _ 0 0 [] rfl rfl HE0.out _ ad cp nb R rfl HOK.out.2.2.1 HRT.out.rows HRT.out.each ?_ ?_ ?_))
        case _ => have h1 := HOK.out.2.1; have h2 := HOK.out.2.2.1; omega
        intro A7 c7 w7 ho7 hg7
        try rw [List.nil_append] at ho7
        try rw [show 0 + nb = nb from Nat.zero_add nb]
        have hb7 : Below w5.heap.size w5 w7 := HAL.out.grown hg7 HAL.out.size fun r hr => (HE0.out.lt hr).1
        obtain ⟨E7, h7, hsub, hown⟩ := own_boxed K H5.out hb7 ho7 HOK.out.2.2.1
        have hrd7 : RdRw w7 w7.heap.size A7 R := ⟨ho7.rd rowE HOK.out.1.rd.each, HOK.out.1.rd.each⟩
        have hcap7 := ho7.cap
        rw [HOK.out.2.2.1] at hcap7
        have hn1000 : nb ≤ 1000 := by have h1 := HOK.out.2.1; have h2 := HOK.out.2.2.1; omega
        have HSUB := Lib.hid (show EA ∈ E7 ∧ EK ∈ E7 from ⟨hsub _ List.mem_cons_self, hsub _ (List.mem_cons_of_mem _ List.mem_cons_self)⟩)
        have hbk7 := HC.out _ _ _ _ h7 HSUB.out.1
        have KL := Lib.hid (ploadB K h7 sh HS64.out A7 R nb c7 dw HOK.out.1.draw HOK.out.2.2.1 hcap7.1 hcap7.2 hn1000 hrd7 (fun a e => by
          rcases hown with ⟨h, _⟩ | ⟨og, cur, h, _, _, hE⟩
          · rw [h] at e; cases e
          · rw [h] at e
            injection e with e
            subst e
            exact ⟨_, by rw [hE]; exact List.mem_cons_self⟩))
        have HOWN := Lib.hid hown
        have q1 : w7.cell? ⟨ab, 1, none⟩ = some (.int .i64 sh) := hbk7.cell 1
        have q3 : w7.cell? ⟨ab, 3, none⟩ = some (.int .u64 dw) := hbk7.cell 3
        clear ho7 hg7 hb7 h7 hsub hown hrd7 hcap7 hbk7 HAL HE0 HRT k0 k1 k2 k3 k2a
        go_wp2_with fail
        refine KL.out.mono ?_
        rintro e w8 ⟨rfl, h8⟩
        have hbk8 := HC.out _ _ _ _ h8 HSUB.out.1
        have q1 : w8.cell? ⟨ab, 1, none⟩ = some (.int .i64 sh) := hbk8.cell 1
        have q2 : w8.cell? ⟨ab, 2, none⟩ = some (.slice ad nb cp) := hbk8.cell 2
        have q3 : w8.cell? ⟨ab, 3, none⟩ = some (.int .u64 dw) := hbk8.cell 3
        have KR := Lib.hid (ploadR K h8 HOK.out.2.2.2.2 sh HS64.out ad R nb cp dw HOK.out.1.draw HOK.out.2.2.1 (by rw [← HOK.out.2.2.1]; exact HOK.out.1.le) HOK.out.1.max hn1000 HOK.out.1.rd)
        clear h8 hbk8 KL
        go_wp2_with fail
        refine KR.out.mono ?_
        rintro e w9 ⟨rfl, h9⟩
        obtain ⟨T, hT⟩ : ∃ T, loadC S sh R dw = T := ⟨_, rfl⟩
        rw [hT] at h9
        have H9 := Lib.hid (show TwoB Ct Rc w w9 s ⟨tb, 0, none⟩ T T [EA, EK] ∧ (0 < nb → ∃ og cur, A7 = some ⟨og, 0, none⟩ ∧ w.heap.size ≤ og ∧ (∀ p ∈ [EA, EK], p.1 ≠ og) ∧ nb * 35 ≤ cur.size ∧ TwoB Ct Rc w w9 s ⟨tb, 0, none⟩ T T ((og, Obj.cells cur 31 (0, 0)) :: [EA, EK])) from by
          refine ⟨h9.sub fun p hp => by
            rcases List.mem_cons.1 hp with rfl | hp
            · exact HSUB.out.1
            · rw [List.mem_singleton.1 hp]; exact HSUB.out.2, fun h0 => ?_⟩
          rcases HOWN.out with ⟨_, h, _⟩ | ⟨og, cur, h1, h2, h3, h4⟩
          · omega
          · refine ⟨og, cur, h1, Nat.le_trans H5.out.bel.size h2, fun p hp => ?_, h3, by rw [← h4]; exact h9⟩
            rcases List.mem_cons.1 hp with rfl | hp
            · rw [← HE.out]; have := HLT.out.1; simp only; omega
            · rw [List.mem_singleton.1 hp, ← HEK.out]; have := HLT.out.2; simp only; omega)
        clear h9 hT KR q1 q2 q3
        go_wp2_with fail
        go_loopw [14, 91] (fun x i wx => ∃ u : Nat, u ≤ nb ∧ i = .int .i64 u ∧ Hid (TwoB Ct Rc w wx s ⟨tb, 0, none⟩ T T [EA, EK] ∧ (0 < nb → ∃ og cur, A7 = some ⟨og, 0, none⟩ ∧ w.heap.size ≤ og ∧ (∀ p ∈ [EA, EK], p.1 ≠ og) ∧ nb * 35 ≤ cur.size ∧ TwoB Ct Rc w wx s ⟨tb, 0, none⟩ T T ((og, Obj.cells cur 31 (0, 0)) :: [EA, EK])))) (fun _ i _ => nb - (intOf i).toNat)
        case atStart => exact ⟨0, Nat.zero_le _, rfl, H9⟩
        case round =>
          clear H9
          obtain ⟨u, hu, rfl, hsu⟩ := hrel
          by_cases hul : u < nb
          · obtain ⟨og, cur, rfl, hog, hne, hcz, hbx⟩ := hsu.out.2 (by omega)
            have hub : u * 35 + 35 ≤ nb * 35 := by have := Nat.mul_le_mul_right 35 (show u + 1 ≤ nb from hul); omega
            have hbk : Blk wr og 31 cur := hbx.blk List.mem_cons_self
            have HTH := Lib.hid (show wr.there og (u * 35) 35 from fun t ht => ⟨by rw [hbk.cell, Array.getElem?_eq_getElem (show u * 35 + t < cur.size by omega)]; rfl, hbk.frozen _⟩)
            have HZS := Lib.hid (show (Try.prog.info? 31).map (·.size) = some rz.size from row_size)
            have HZ1 := Lib.hid (show rz.all (·.oneCell') = true from rz_one)
            obtain ⟨cur2, hc2, hb2⟩ := hbx.write K.firm Rc.firm hog hne (u * 35) rz.toList (by show u * 35 + 35 ≤ _; omega)
            have HNX := Lib.hid (show TwoB Ct Rc w (wr.setCells og (u * 35) rz.toList) s ⟨tb, 0, none⟩ T T [EA, EK] ∧ (0 < nb → ∃ og2 cur, (some ⟨og, 0, none⟩ : Option Addr) = some ⟨og2, 0, none⟩ ∧ w.heap.size ≤ og2 ∧ (∀ p ∈ [EA, EK], p.1 ≠ og2) ∧ nb * 35 ≤ cur.size ∧ TwoB Ct Rc w (wr.setCells og (u * 35) rz.toList) s ⟨tb, 0, none⟩ T T ((og2, Obj.cells cur 31 (0, 0)) :: [EA, EK])) from ⟨hb2.drop, fun _ => ⟨og, cur2, rfl, hog, hne, by rw [hc2]; exact hcz, hb2⟩⟩)
            obtain ⟨wn, hwn⟩ : ∃ wn, wr.setCells og (u * 35) rz.toList = wn := ⟨_, rfl⟩
            rw [hwn] at HNX
            have HWN := Lib.hid hwn
            have ui1 : (0 : Int) ≤ (u : Int) := by omega
            have ui2 : (u : Int) < (nb : Int) := by omega
            clear hwn hsu hog hne hcz hbx hub hbk hc2 hb2
            go_wp2_with (refine wpList_store_mid rfl 31 (.tmp 97) (.tmp 96) rfl og (u * 35) rz rfl rfl HTH.out HZS.out HZ1.out ?_; rw [HWN.out])
            go_roundw
            case rel => exact ⟨u + 1, by omega, by go_num, HNX⟩
            case measure => simp [intOf]; omega
          · obtain rfl : u = nb := by omega
            have H10 := Lib.hid (hsu.out.1.sub (E' := [EK]) (by simp))
            clear hsu
            have hkk := HKB.out _ _ _ _ _ _ H10.out List.mem_cons_self
            have RK := Lib.hid hkk.1
            have KG0 := pgetL K H10.out rr.1 HRR.out.key
            obtain ⟨⟨p1, p2⟩, hp⟩ : ∃ p, getC T rr.1 = p := ⟨_, rfl⟩
            obtain ⟨is, his⟩ : ∃ is, knowsC T rr.1 = is := ⟨_, rfl⟩
            unfold kv at KG0
            rw [hp, his, HY.out.2.1] at KG0
            have KG := Lib.hid KG0
            have HPI := Lib.hid (And.intro hp his)
            have HTO := Lib.hid (pgood K H10.out)
            clear hkk KG0 hp his
            go_wp2_with (refine wpList_load_mid rfl 27 (.tmp 101) rfl kb 0 rfl X (.struct fk) RK.out HF.out.2.1 rfl HXS.out ?_)
            refine KG.out.mono ?_
            rintro e v9 ⟨rfl, h9⟩
            obtain ⟨pb, hpb⟩ : ∃ pb, v9.heap.size = pb := ⟨_, rfl⟩
            obtain ⟨v10, hv10⟩ : ∃ v10, v9.alloc (.cells #[.int .i64 p1, .int .i64 p2] 29) = v10 := ⟨_, rfl⟩
            have h10 := h9.box K.firm Rc.firm hpb hv10
            have RK2 := Lib.hid (show (v9.alloc (.cells #[.int .i64 p1, .int .i64 p2] 29)).rangeAt kb 0 X from by rw [hv10]; exact (HKB.out _ _ _ _ _ _ h10 (by simp)).1)
            have KG0 := pgetR K h10 rr.1 HRR.out.key
            unfold kv at KG0
            rw [HPI.out.1, HPI.out.2, HY.out.2.1] at KG0
            have KG2 := Lib.hid KG0
            have HV10 := Lib.hid (And.intro hv10 hpb)
            clear h9 h10 hv10 hpb KG RK KG0
            go_wp2_with (refine wpList_load_mid rfl 27 (.tmp 108) rfl kb 0 rfl X (.struct fk) RK2.out HF.out.2.1 rfl HXS.out ?_)
            rw [HV10.out.1, HV10.out.2]
            refine KG2.out.mono ?_
            rintro e v11 ⟨rfl, h11⟩
            obtain ⟨qb, hqb⟩ : ∃ qb, v11.heap.size = qb := ⟨_, rfl⟩
            obtain ⟨v12, hv12⟩ : ∃ v12, v11.alloc (.cells #[.int .i64 p1, .int .i64 p2] 29) = v12 := ⟨_, rfl⟩
            have h12 := h11.box K.firm Rc.firm hqb hv12
            have HPB := Lib.hid (show v12.rangeAt pb 0 [.int .i64 p1, .int .i64 p2] ∧ v12.rangeAt qb 0 [.int .i64 p1, .int .i64 p2] from ⟨range_of_blk (cs := [.int .i64 p1, .int .i64 p2]) (h12.blk (List.mem_cons_of_mem _ List.mem_cons_self)), range_of_blk (cs := [.int .i64 p1, .int .i64 p2]) (h12.blk List.mem_cons_self)⟩)
            have HPS2 := Lib.hid (show (Try.prog.info? 29).map (·.size) = some ([.int .i64 p1, .int .i64 p2] : List Value).length from place_size)
            have KSL := Lib.hid (pshelvesL K h12)
            have HV12 := Lib.hid (And.intro hv12 hqb)
            clear h11 h12 hv12 hqb KG2 RK2
            go_upto_region 24 with fail
            rw [HV12.out.1, HV12.out.2]
            have QEP : ∀ W : World, (Op.equalIn 10000 29 (.agg #[.int .i64 p1, .int .i64 p2]) (.agg #[.int .i64 p1, .int .i64 p2])).run Try.prog W = .ok true W := fun W => by
              have hpk := getC_ok2 HTO.out HPI.out.1
              have := place_eq (a := (p1, p2)) (b := (p1, p2)) hpk hpk W
              rw [decide_eq_true rfl] at this
              exact this
            have QGP : Try.prog.eqGuardType Try.prog.depth 29 = false := place_guard
            cases is with
            | true =>
              go_wp2_with (first | refine wpList_load_mid rfl 29 (.tmp 15) rfl pb 0 rfl [.int .i64 p1, .int .i64 p2] (.struct fp) HPB.out.1 HF.out.2.2.2 rfl HPS2.out ?_ | refine wpList_load_mid rfl 29 (.tmp 17) rfl qb 0 rfl [.int .i64 p1, .int .i64 p2] (.struct fp) HPB.out.2 HF.out.2.2.2 rfl HPS2.out ?_)
              refine KSL.out.mono ?_
              rintro e v13 ⟨A8, c8, rfl, ho8, hb13, h13⟩
              obtain ⟨V, hV⟩ : ∃ V, shelvesC T = V := ⟨_, rfl⟩
              obtain ⟨m, hml⟩ : ∃ m, V.length = m := ⟨_, rfl⟩
              have hm4 : m ≤ 100000 := by rw [← hml, ← hV, shelves_len]; have h1 := HTO.out.len; have h2 := HTO.out.room; omega
              have KSR0 := pshelvesR K h13
              rw [hV] at ho8
              rw [hV, hml] at KSR0 ⊢
              have KSR := Lib.hid KSR0
              have HO8 := Lib.hid ho8
              have HML := Lib.hid hml
              clear KSR0 ho8 hb13 h13 hV hml KSL
              go_wp2_with fail
              refine KSR.out.mono ?_
              rintro e v14 ⟨A9, c9, rfl, ho9, hb14, h14⟩
              have KM := Lib.hid (same_any A8 m c8 V A9 m c9 V HML.out HML.out hm4 hm4 v14 (HO8.out.on hb14).rdv ho9.rdv)
              rw [decide_eq_true rfl] at KM
              have H14 := Lib.hid h14
              clear ho9 hb14 h14 KSR HO8
              go_wp2_with fail
              refine KM.out.mono ?_
              rintro e v15 ⟨rfl, hb15⟩
              have H15 := Lib.hid ((H14.out.on K.firm Rc.firm hb15).sub (E' := [EK]) (by simp))
              clear hb15 H14 KM
              go_wp2_with fail
              go_roundw
              case rel => exact ⟨j + 1, T, by omega, by go_num, H15⟩
              case measure => simp [intOf]; omega
            | false =>
              go_wp2_with (first | refine wpList_load_mid rfl 29 (.tmp 15) rfl pb 0 rfl [.int .i64 p1, .int .i64 p2] (.struct fp) HPB.out.1 HF.out.2.2.2 rfl HPS2.out ?_ | refine wpList_load_mid rfl 29 (.tmp 17) rfl qb 0 rfl [.int .i64 p1, .int .i64 p2] (.struct fp) HPB.out.2 HF.out.2.2.2 rfl HPS2.out ?_)
              refine KSL.out.mono ?_
              rintro e v13 ⟨A8, c8, rfl, ho8, hb13, h13⟩
              obtain ⟨V, hV⟩ : ∃ V, shelvesC T = V := ⟨_, rfl⟩
              obtain ⟨m, hml⟩ : ∃ m, V.length = m := ⟨_, rfl⟩
              have hm4 : m ≤ 100000 := by rw [← hml, ← hV, shelves_len]; have h1 := HTO.out.len; have h2 := HTO.out.room; omega
              have KSR0 := pshelvesR K h13
              rw [hV] at ho8
              rw [hV, hml] at KSR0 ⊢
              have KSR := Lib.hid KSR0
              have HO8 := Lib.hid ho8
              have HML := Lib.hid hml
              clear KSR0 ho8 hb13 h13 hV hml KSL
              go_wp2_with fail
              refine KSR.out.mono ?_
              rintro e v14 ⟨A9, c9, rfl, ho9, hb14, h14⟩
              have KM := Lib.hid (same_any A8 m c8 V A9 m c9 V HML.out HML.out hm4 hm4 v14 (HO8.out.on hb14).rdv ho9.rdv)
              rw [decide_eq_true rfl] at KM
              have H14 := Lib.hid h14
              clear ho9 hb14 h14 KSR HO8
              go_wp2_with fail
              refine KM.out.mono ?_
              rintro e v15 ⟨rfl, hb15⟩
              have H15 := Lib.hid ((H14.out.on K.firm Rc.firm hb15).sub (E' := [EK]) (by simp))
              clear hb15 H14 KM
              go_wp2_with fail
              go_roundw
              case rel => exact ⟨j + 1, T, by omega, by go_num, H15⟩
              case measure => simp [intOf]; omega
    · obtain rfl : j = k := by omega
      clear HL HALL HR
      have hhk := HKB.out _ _ _ _ _ _ hst.out List.mem_cons_self
      have KSR0 := pshelvesR K hst.out
      obtain ⟨V, hV⟩ : ∃ V, shelvesC S = V := ⟨_, rfl⟩
      obtain ⟨m, hml⟩ : ∃ m, V.length = m := ⟨_, rfl⟩
      have hm4 : m ≤ 100000 := by rw [← hml, ← hV, shelves_len]; have h1 := (pgood K hst.out).len; have h2 := (pgood K hst.out).room; omega
      have HSI := Lib.hid (show ∀ x ∈ V, In64 x from fun x hx => by
        rw [← hV] at hx
        obtain ⟨y, hy, rfl⟩ := List.mem_map.1 hx
        exact (pgood K hst.out).shelf y hy)
      have HVH := Lib.hid (show V.any (fun x => decide (x = rs)) = hasC S rs from by
        rw [Bool.eq_iff_iff, hasC_iff, hV, List.any_eq_true]
        exact ⟨fun ⟨x, hx, e⟩ => of_decide_eq_true e ▸ hx, fun h => ⟨rs, h, decide_eq_true rfl⟩⟩)
      rw [hV, hml] at KSR0
      have KSR := Lib.hid KSR0
      have HML := Lib.hid hml
      have HST := Lib.hid hst.out.bel
      clear KSR0 hV hml hhk hst
      go_wp2_with fail
      refine KSR.out.mono ?_
      rintro e v1 ⟨A8, c8, rfl, ho8, hb1, h1⟩
      have HRV := Lib.hid (show ∀ W, Below v1.heap.size v1 W → RdV W W.heap.size A8 (iv V) from fun W hW => (ho8.rdv.below hW).more hW.size)
      have H1 := Lib.hid h1
      clear ho8 hb1 h1 KSR
      go_wp2_with fail
      go_loopw [19, 133] (fun hv i wr => ∃ t : Nat, t ≤ m ∧ i = .int .i64 t ∧ hv = .bool ((V.take t).any fun x => decide (x = rs)) ∧ Hid (Below v1.heap.size v1 wr)) (fun _ i _ => m - (intOf i).toNat)
      case atStart => exact ⟨0, Nat.zero_le _, rfl, rfl, Lib.hid (Below.refl _ _)⟩
      case round =>
        obtain ⟨t, ht, rfl, rfl, hbt⟩ := hrel
        by_cases htl : t < m
        · have htV : t < V.length := by rw [HML.out]; exact htl
          obtain ⟨si, hsi⟩ : ∃ x, V[t] = x := ⟨_, rfl⟩
          have hst8 : t < (iv V).length := by rw [iv_length]; exact htV
          have hsv : (iv V)[t] = .int .i64 si := by
            have : (iv V)[t]? = some (.int .i64 si) := by unfold iv; simp [htV, hsi]
            rw [List.getElem?_eq_getElem hst8] at this
            injection this
          obtain ⟨g8, o8, hA8, _, hc8⟩ := HRV.out wr hbt.out (by omega)
          have hcell := hc8 t hst8
          rw [hsv] at hcell
          have hkey : wr.cell? ⟨kb, 33, none⟩ = some (.int .i64 rs) := (HKB.out _ _ _ _ _ _ (H1.out.on K.firm Rc.firm hbt.out) List.mem_cons_self).2
          have HNX := Lib.hid (show ((V.take (t + 1)).any fun x => decide (x = rs)) = (((V.take t).any fun x => decide (x = rs)) || decide (si = rs)) from by
            rw [List.take_succ_eq_append_getElem htV, hsi, List.any_append]; simp)
          obtain ⟨hb, hhb⟩ : ∃ b, ((V.take t).any fun x => decide (x = rs)) = b := ⟨_, rfl⟩
          rw [hhb] at HNX ⊢
          have ht1 : (0 : Int) ≤ (t : Int) := by omega
          have ht2 : (t : Int) < (m : Int) := by omega
          subst hA8
          clear hsi hst8 hsv hc8 hhb htV
          cases hb with
          | true =>
            go_wp2_with fail
            go_roundw
            case rel => exact ⟨t + 1, by omega, by go_num, by rw [HNX.out]; rfl, hbt⟩
            case measure => simp [intOf]; omega
          | false =>
            go_wp2_with fail
            go_roundw
            case rel => exact ⟨t + 1, by omega, by go_num, by rw [HNX.out]; rfl, hbt⟩
            case measure => simp [intOf]; omega
        · obtain rfl : t = m := by omega
          have h1t := H1.out.on K.firm Rc.firm hbt.out
          have hkey : wr.cell? ⟨kb, 33, none⟩ = some (.int .i64 rs) := (HKB.out _ _ _ _ _ _ h1t List.mem_cons_self).2
          have hrs64 : In64 rs := by rw [← HY.out.2.2]; exact HRR.out.shelf
          have KH0 := phas2 K h1t rs hrs64
          rw [List.take_of_length_le (by rw [HML.out]; exact Nat.le_refl _), HVH.out]
          obtain ⟨B, hB⟩ : ∃ B, hasC S rs = B := ⟨_, rfl⟩
          rw [hB] at KH0 ⊢
          have KH := Lib.hid KH0
          clear KH0 hB h1t hbt
          cases B with
          | true =>
            go_wp2_with fail
            refine KH.out.mono ?_
            rintro e v3 ⟨rfl, h3⟩
            have H3 := Lib.hid h3.bel
            clear h3 KH
            go_wp2_with fail
            go_ret
            exact ⟨rfl, H3.out⟩
          | false =>
            go_wp2_with fail
            refine KH.out.mono ?_
            rintro e v3 ⟨rfl, h3⟩
            have H3 := Lib.hid h3.bel
            clear h3 KH
            go_wp2_with fail
            go_ret
            exact ⟨rfl, H3.out⟩
end
end Go.Proofs.Ytmnjaocdhelebaa
