/- The contracts of IndexFunc and DeleteFunc at groups of keys. No statement of the seat is proved here. -/
import Derived.Test.YtacijjioaanlgaaPerfGs
import Derived.Laws.CopyRow
namespace Go.Proofs.Ytacijjioaanlgaa
open Go.RowKit Go.Sort
set_option linter.unusedVariables false

def emp (g : GT) : Bool := decide (g.keys.length = 0)
theorem pred_any (g : GT) (w : World) : Calls Try.prog 30 #[.agg #[.int .i64 g.idx, .slice g.adr g.keys.length g.cap]] w fun e w' => e = .returned (.bool (emp g)) ∧ Below w.heap.size w w' := by
  have HB := Lib.hid ((Below.refl w.heap.size w).alloc (Nat.le_refl _) (.cells #[.int .i64 g.idx, .slice g.adr g.keys.length g.cap] 60))
  have HE : Hid _ := Lib.hid (show emp g = decide (g.keys.length = 0) from rfl)
  generalize emp g = b at *
  generalize g.keys.length = m at *
  go_enter Try.func30, Try.ntmps30
  go_wp2
  go_ret
  have e : ((m : Int) == 0) = decide (m = 0) := by rw [Bool.eq_iff_iff]; simp
  exact ⟨by rw [HE.out, ← e]; rfl, HB.out⟩
theorem gm_at {l : List GT} {j : Nat} (hj : j < l.length) (i : Nat) (hi : i < 2) : (l.flatMap gcs)[j * 2 + i]? = (gcs l[j])[i]? := by
  induction l generalizing j with
  | nil => simp at hj
  | cons k l ih =>
    rw [List.flatMap_cons]
    cases j with
    | zero =>
      rw [Nat.zero_mul, Nat.zero_add, List.getElem?_append_left (by rw [gcs_length]; exact hi)]
      rfl
    | succ j =>
      rw [List.getElem?_append_right (by rw [gcs_length]; omega), gcs_length, show (j + 1) * 2 + i - 2 = j * 2 + i by omega]
      exact ih (by simpa using hj)
theorem gm_length (l : List GT) : (l.flatMap gcs).length = l.length * 2 := by
  induction l with
  | nil => rfl
  | cons k l ih => rw [List.flatMap_cons, List.length_append, ih, gcs_length, List.length_cons]; omega
theorem flat_list (l : List GT) : (flatK gcs 2 l.toArray).toList = l.flatMap gcs := by
  apply List.ext_getElem?
  intro t
  by_cases ht : t < l.length * 2
  · rw [show t = t / 2 * 2 + t % 2 by omega, gm_at (j := t / 2) (by omega) (t % 2) (by omega)]
    have hm : t % 2 = 0 ∨ t % 2 = 1 := by omega
    have hb : (l.toArray)[t / 2]! = l[t / 2]'(by omega) := by rw [bang _ _ (by simp; omega)]; simp
    rcases hm with hm | hm
    · have := flat0 (d := l.toArray) (i := t / 2) (by simp; omega)
      rw [hb] at this
      rw [hm, Nat.add_zero, Array.getElem?_toList, this]; rfl
    · have := flat1 (d := l.toArray) (i := t / 2) (by simp; omega)
      rw [hb] at this
      rw [hm, Array.getElem?_toList, this]; rfl
  · rw [List.getElem?_eq_none (by simp; omega), List.getElem?_eq_none (by rw [gm_length]; omega)]
theorem flat_of (l : List GT) : flatK gcs 2 l.toArray = (l.flatMap gcs).toArray := by
  rw [← flat_list]
theorem row_c0 {w : World} {gb : Nat} {l : List GT} (h : GRow w gb l.toArray) {i : Nat} (hi : i < l.length) : w.cell? ⟨gb, i * 2, none⟩ = some (.int .i64 l[i].idx) := by
  have := GRow.c0 h (i := i) (by simpa using hi)
  rw [bang _ _ (by simpa using hi)] at this
  simpa using this
theorem row_c1 {w : World} {gb : Nat} {l : List GT} (h : GRow w gb l.toArray) {i : Nat} (hi : i < l.length) : w.cell? ⟨gb, i * 2 + 1, none⟩ = some (.slice l[i].adr l[i].keys.length l[i].cap) := by
  have := GRow.c1 h (i := i) (by simpa using hi)
  rw [bang _ _ (by simpa using hi)] at this
  simpa using this
set_option maxRecDepth 100000 in
set_option maxHeartbeats 1000000 in
/-- The first group without keys. -/
theorem index_fn (gb G r : Nat) (l : List GT) (hl : l.length = G) (hG : G ≤ 16384) (hr : r ≤ G) (hno : ∀ i (h : i < l.length), i < r → emp l[i] = false) (hyes : ∀ h : r < l.length, emp l[r] = true) (w : World) (h : GRow w gb l.toArray) :
    Calls Try.prog 36 #[.slice (some ⟨gb, 0, none⟩) G G, .func (.func 30) #[] #[]] w fun e w' => e = .returned (.int .i64 (if r < G then (r : Int) else -1)) ∧ Below w.heap.size w w' := by
  have HL := Lib.hid hl
  have HN := Lib.hid hno
  have HY := Lib.hid hyes
  have HH := Lib.hid h
  obtain ⟨R, hR⟩ : ∃ R : Int, (if r < G then (r : Int) else -1) = R := ⟨_, rfl⟩
  have HRR := Lib.hid hR
  rw [hR]
  clear hl hno hyes h hR
  go_enter Try.func36, Try.ntmps36
  go_wp2_with fail
  go_loopw [8] (fun i wr => ∃ j : Nat, j ≤ r ∧ i = .int .i64 j ∧ Below w.heap.size w wr) (fun i _ => G - (intOf i).toNat)
  case atStart => exact ⟨0, Nat.zero_le _, rfl, Below.refl _ _⟩
  case round =>
    obtain ⟨j, hj, rfl, hbel⟩ := hrel
    by_cases hlt : j < G
    · have hjl : j < l.length := by rw [HL.out]; exact hlt
      have hrow := Blk.below HH.out hbel (Blk.lt HH.out)
      have hc0 := row_c0 hrow hjl
      have hc1 := row_c1 hrow hjl
      have HNJ := Lib.hid (HN.out j hjl)
      have HYJ := Lib.hid (show j = r → emp (l[j]'hjl) = true from fun e => by subst e; exact HY.out hjl)
      generalize (l[j]'hjl) = x at *
      have KP := Lib.hid (pred_any x wr)
      have HB := Lib.hid hbel
      have hi1 : (0 : Int) ≤ (j : Int) := by omega
      have hi2 : (j : Int) < (G : Int) := by omega
      clear hbel hrow
      by_cases hjr : j = r
      · have he := HYJ.out hjr
        rw [he] at KP
        subst hjr
        clear he
        go_wp2_with fail
        (with_reducible refine KP.out.mono ?_)
        rintro e w2 ⟨rfl, hb2⟩
        have HB2 := Lib.hid (HB.out.trans (hb2.mono HB.out.size))
        clear hb2
        go_wp2_with fail
        go_ret
        exact ⟨pf_ret (by rw [← HRR.out, if_pos hlt]), HB2.out⟩
      · have he := HNJ.out (by omega)
        rw [he] at KP
        clear he
        go_wp2_with fail
        (with_reducible refine KP.out.mono ?_)
        rintro e w2 ⟨rfl, hb2⟩
        have HB2 := Lib.hid (HB.out.trans (hb2.mono HB.out.size))
        clear hb2
        go_wp2_with fail
        go_roundw
        case rel => exact ⟨j + 1, by omega, by go_num, HB2.out⟩
        case measure => simp [intOf]; omega
    · have HB := Lib.hid hbel
      clear hbel
      go_wp2_with fail
      go_ret
      exact ⟨pf_ret (by rw [← HRR.out, if_neg (by omega)]), HB.out⟩
/-- The groups that have keys. -/
def some_ (l : List GT) : List GT := l.filter fun g => !emp g
theorem some_snoc (l : List GT) (x : GT) : some_ (l ++ [x]) = some_ l ++ if emp x = true then [] else [x] := by
  unfold some_
  rw [List.filter_append]
  cases h : emp x <;> simp [h]
theorem some_lt {l : List GT} {j r : Nat} (hr : r < l.length) (hj : r < j) (he : emp l[r] = true) : (some_ (l.take j)).length < j := by
  have h1 : l.take j = l.take r ++ (l[r] :: (l.take j).drop (r + 1)) := by
    have h2 : (l.take j).take r = l.take r := by rw [List.take_take]; congr 1; omega
    have h3 : r < (l.take j).length := by rw [List.length_take]; omega
    rw [← h2]
    have h4 : (l.take j)[r] = l[r] := List.getElem_take
    rw [← h4, ← List.drop_eq_getElem_cons h3, List.take_append_drop]
  rw [h1, some_, List.filter_append, List.length_append, List.filter_cons]
  rw [if_neg (by simp [he])]
  have h5 := List.length_filter_le (fun g => !emp g) (l.take r)
  have h6 := List.length_filter_le (fun g => !emp g) ((l.take j).drop (r + 1))
  rw [List.length_take] at h5
  rw [List.length_drop, List.length_take] at h6
  omega
theorem row_set2 {w : World} {gb : Nat} {l : List GT} (h : GRow w gb l.toArray) {t : Nat} (ht : t < l.length) (x : GT) : GRow ((w.setCell ⟨gb, t * 2, none⟩ (.int .i64 x.idx)).setCell ⟨gb, t * 2 + 1, none⟩ (.slice x.adr x.keys.length x.cap)) gb (l.set t x).toArray := by
  have h1 := Blk.set_ (Blk.set_ h (t * 2) (.int .i64 x.idx)) (t * 2 + 1) (.slice x.adr x.keys.length x.cap)
  rw [flat_set2 (by simpa using ht) x] at h1
  rw [List.setIfInBounds_toArray] at h1
  exact h1
theorem zeros_flat (n : Nat) : (Builtin.zeroCells #[.int .i64 0, .slice none 0 0] n).toList = (List.replicate n gz).flatMap gcs := by
  rw [← flat_list, show (List.replicate n gz).toArray = Array.replicate n gz by simp, ← made_flat]
  rfl
theorem clear_groups {w : World} {gb t G c : Nat} {F X : List GT} (hF : F.length = t) (hG : t + X.length = G) (ht : t < G) (h : GRow w gb (F ++ X).toArray) (ty : TypeId) :
    ∃ w', (Builtin.clear_ #[57] ty #[.slice (some ⟨gb, t * 2, none⟩) (G - t) c]).run Try.prog w = .ok (.tuple #[]) w' ∧ GRow w' gb (F ++ List.replicate (G - t) gz).toArray ∧ w.grownBy w' (some gb) := by
  have hsz : (flatK gcs 2 (F ++ X).toArray).size = G * 2 := by simp; omega
  have hz : ((List.replicate (G - t) gz).flatMap gcs).length = (G - t) * 2 := by rw [gm_length, List.length_replicate]
  have hst := run_storeCells_at (P := Try.prog) gb (t * 2) 60 ((List.replicate (G - t) gz).flatMap gcs) 0 (flatK gcs 2 (F ++ X).toArray) w h (by rw [hsz, hz]; omega) (fun v hv => by
    obtain ⟨g, _, hg⟩ := List.mem_flatMap.1 hv
    exact gcs_one g v hg)
  have e : ((flatK gcs 2 (F ++ X).toArray).toList.take (t * 2 + 0) ++ (List.replicate (G - t) gz).flatMap gcs ++ (flatK gcs 2 (F ++ X).toArray).toList.drop (t * 2 + 0 + ((List.replicate (G - t) gz).flatMap gcs).length)).toArray = flatK gcs 2 (F ++ List.replicate (G - t) gz).toArray := by
    rw [flat_list, flat_of (F ++ List.replicate (G - t) gz), hz, List.flatMap_append, List.flatMap_append, Nat.add_zero, List.take_append_of_le_length (by rw [gm_length]; omega), List.take_of_length_le (by rw [gm_length]; omega),
      List.drop_of_length_le (by rw [List.length_append, gm_length, gm_length]; omega), List.append_nil]
  rw [e] at hst
  obtain ⟨m, hm⟩ : ∃ m, G - t = m + 1 := ⟨G - t - 1, by omega⟩
  refine ⟨w.setRow gb (flatK gcs 2 (F ++ List.replicate (G - t) gz).toArray), ?_, setRow_heap w gb _ _ _ _ h, ?_⟩
  · rw [hm] at hst ⊢
    simp [Builtin.clear_, run_underlying Try.underlying57, Value.cells, zeros_flat, hst]
  · exact ⟨rfl, rfl, rfl, by rw [size_setRow]; exact Nat.le_refl _, fun k _ hk => setRow_other w gb k _ (fun e => hk (by rw [e]))⟩
set_option maxRecDepth 100000 in
set_option maxHeartbeats 2000000 in
/-- Those without keys are struck. -/
theorem delete_some (gb G r : Nat) (l : List GT) (hl : l.length = G) (hG : G ≤ 16384) (hr : r < G) (hno : ∀ i (h : i < l.length), i < r → emp l[i] = false) (hyes : ∀ h : r < l.length, emp l[r] = true) (w : World) (h : GRow w gb l.toArray) :
    Calls Try.prog 29 #[.slice (some ⟨gb, 0, none⟩) G G, .func (.func 30) #[] #[]] w fun e w' => e = .returned (.slice (some ⟨gb, 0, none⟩) (some_ l).length G) ∧
      GRow w' gb (some_ l ++ List.replicate (G - (some_ l).length) gz).toArray ∧ w.grownBy w' (some gb) := by
  have hrl : r < l.length := by omega
  have HK := Lib.hid (index_fn gb G r l hl hG (by omega) hno hyes w h)
  have HER := Lib.hid (hyes hrl)
  have HL := Lib.hid hl
  have HH := Lib.hid h
  have HST := Lib.hid (show some_ (l.take (r + 1)) = l.take r by
    rw [List.take_succ_eq_append_getElem hrl, some_snoc, hyes hrl, if_pos rfl, List.append_nil, some_, List.filter_eq_self]
    intro g hg
    obtain ⟨i, hi, rfl⟩ := List.getElem_of_mem hg
    rw [List.length_take] at hi
    rw [List.getElem_take, hno i (by omega) (by omega)]; rfl)
  have HIF := Lib.hid (show (if r < G then (r : Int) else -1) = r from if_pos hr)
  have hGi : G ≤ 9223372036854775807 := by omega
  clear hl hno hyes h
  go_enter Try.func29, Try.ntmps29
  go_wp2_with fail
  (with_reducible refine HK.out.mono ?_)
  rintro e w1 ⟨rfl, hb1⟩
  rw [HIF.out]
  have HR1 := Lib.hid (Blk.below HH.out hb1 (Blk.lt HH.out))
  have HG1 := Lib.hid (below_grown hb1 gb)
  have hne : ((r : Int) == -1) = false := by simp
  clear hb1
  go_wp2_with fail
  go_loopw [5, 6] (fun i j wr => ∃ t q : Nat, r < q ∧ q ≤ G ∧ i = .int .i64 t ∧ j = .int .i64 q ∧ t = (some_ (l.take q)).length ∧ GRow wr gb (some_ (l.take q) ++ l.drop t).toArray ∧ w.grownBy wr (some gb)) (fun _ j _ => G - (intOf j).toNat)
  case atStart => exact ⟨r, r + 1, by omega, by omega, rfl, by go_num, by rw [HST.out, List.length_take]; omega, by rw [HST.out, List.take_append_drop]; exact HR1.out, HG1.out⟩
  case round =>
    clear HR1 HG1
    obtain ⟨t, q, hq, hqG, rfl, rfl, ht, hrow, hgr⟩ := hrel
    have htq : t < q := by rw [ht]; exact some_lt hrl hq HER.out
    by_cases hlt : q < G
    · have hql : q < l.length := by rw [HL.out]; exact hlt
      have hlen : (some_ (l.take q) ++ l.drop t).length = G := by rw [List.length_append, ← ht, List.length_drop, HL.out]; omega
      have hqe : (some_ (l.take q) ++ l.drop t)[q]'(by omega) = l[q] := by
        rw [List.getElem_append_right (by omega), List.getElem_drop]
        congr 1; omega
      have hc0 := row_c0 hrow (i := q) (by omega)
      have hc1 := row_c1 hrow (i := q) (by omega)
      rw [hqe] at hc0 hc1
      have HSN := Lib.hid (show some_ (l.take (q + 1)) = some_ (l.take q) ++ if emp l[q] = true then [] else [l[q]] by rw [List.take_succ_eq_append_getElem hql, some_snoc])
      clear hqe
      generalize l[q] = x at *
      have hbx := (Below.refl wr.heap.size wr).alloc (Nat.le_refl _) (.cells #[.int .i64 x.idx, .slice x.adr x.keys.length x.cap] 60)
      have KP := Lib.hid (pred_any x (wr.alloc (.cells #[.int .i64 x.idx, .slice x.adr x.keys.length x.cap] 60)))
      have HB1 := Lib.hid (Blk.new wr 60 #[.int .i64 x.idx, .slice x.adr x.keys.length x.cap])
      have HROW := Lib.hid (Blk.below hrow hbx (Blk.lt hrow))
      have HGR := Lib.hid (gby_trans hgr (below_grown hbx gb))
      have HT := Lib.hid ht
      have HLEN := Lib.hid hlen
      have hi1 : (0 : Int) ≤ (q : Int) := by omega
      have hi2 : (q : Int) < (G : Int) := by omega
      clear hrow hgr hbx ht hlen
      cases he : emp x
      · rw [he] at KP HSN
        clear he
        go_wp2_with fail
        (with_reducible refine KP.out.mono ?_)
        rintro e w2 ⟨rfl, hb2⟩
        have hr2 := Blk.below HROW.out hb2 (Blk.lt HROW.out)
        have hk0 := (HB1.out.below hb2 HB1.out.lt).cell 0
        have hk1 := (HB1.out.below hb2 HB1.out.lt).cell 1
        have ht0 := row_c0 hr2 (i := t) (by rw [HLEN.out]; omega)
        have ht1 := row_c1 hr2 (i := t) (by rw [HLEN.out]; omega)
        have hf0 := Blk.frozen hr2 (t * 2)
        have hf1 := Blk.frozen hr2 (t * 2 + 1)
        have HR3 := Lib.hid (row_set2 hr2 (t := t) (by rw [HLEN.out]; omega) x)
        have HG2 := Lib.hid (gby_trans HGR.out (below_grown hb2 gb))
        have hj1 : (0 : Int) ≤ (t : Int) := by omega
        have hj2 : (t : Int) < (G : Int) := by omega
        clear hb2 hr2
        go_wp2_with fail
        go_roundw
        case rel =>
          have e1 : some_ (l.take (q + 1)) = some_ (l.take q) ++ [x] := by rw [HSN.out]; simp
          have e2 : (some_ (l.take q) ++ l.drop t).set t x = some_ (l.take q) ++ [x] ++ l.drop (t + 1) := by
            have htl : t < l.length := by omega
            rw [List.set_append_right _ _ (by rw [← HT.out]; exact Nat.le_refl _), ← HT.out, Nat.sub_self, List.drop_eq_getElem_cons htl, List.set_cons_zero, List.append_assoc]
            rfl
          exact ⟨t + 1, q + 1, by omega, by omega, by go_num, by go_num, by rw [e1, List.length_append, ← HT.out]; rfl, by rw [e1, ← e2]; exact HR3.out, gby_trans HG2.out (gby_trans (grownBy_cell _ _ _ _) (grownBy_cell _ _ _ _))⟩
        case measure => simp [intOf]; omega
      · rw [he] at KP HSN
        clear he
        go_wp2_with fail
        (with_reducible refine KP.out.mono ?_)
        rintro e w2 ⟨rfl, hb2⟩
        have HR2 := Lib.hid (Blk.below HROW.out hb2 (Blk.lt HROW.out))
        have HG2 := Lib.hid (gby_trans HGR.out (below_grown hb2 gb))
        clear hb2
        go_wp2_with fail
        go_roundw
        case rel =>
          have e1 : some_ (l.take (q + 1)) = some_ (l.take q) := by rw [HSN.out]; simp
          exact ⟨t, q + 1, by omega, by omega, rfl, by go_num, by rw [e1]; exact HT.out, by rw [e1]; exact HR2.out, HG2.out⟩
        case measure => simp [intOf]; omega
    · obtain rfl : G = q := by omega
      rw [List.take_of_length_le (by rw [HL.out]; exact Nat.le_refl _)] at hrow ht
      obtain ⟨w', hrun, hrow', hg'⟩ := clear_groups (c := G - t) ht.symm (by rw [List.length_drop, HL.out]; omega) htq hrow 0
      have HRES := Lib.hid (And.intro hrow' (gby_trans hgr hg'))
      have HT := Lib.hid ht
      have hne2 : ¬ G = t := by omega
      have hj1 : (0 : Int) ≤ (t : Int) := by omega
      have hj2 : (t : Int) ≤ (G : Int) := by omega
      clear hrow hgr hrow' hg' ht
      go_wp2_with fail
      go_ret
      exact ⟨by rw [← HT.out]; rfl, by rw [← HT.out]; exact HRES.out.1, HRES.out.2⟩
theorem delete_any (gb G : Nat) (l : List GT) (hl : l.length = G) (hG : G ≤ 16384) (w : World) (h : GRow w gb l.toArray) :
    Calls Try.prog 29 #[.slice (some ⟨gb, 0, none⟩) G G, .func (.func 30) #[] #[]] w fun e w' => e = .returned (.slice (some ⟨gb, 0, none⟩) (some_ l).length G) ∧
      GRow w' gb (some_ l ++ List.replicate (G - (some_ l).length) gz).toArray ∧ w.grownBy w' (some gb) := by
  by_cases hex : ∃ r, r < G ∧ ∃ h : r < l.length, emp l[r] = true
  · have hmin : ∃ r, (r < G ∧ ∃ h : r < l.length, emp l[r] = true) ∧ ∀ i, i < r → ¬ (i < G ∧ ∃ h : i < l.length, emp l[i] = true) := by
      obtain ⟨r, hr⟩ := hex
      induction r using Nat.strongRecOn with
      | _ r ih =>
        by_cases hs : ∃ i, i < r ∧ (i < G ∧ ∃ h : i < l.length, emp l[i] = true)
        · obtain ⟨i, hi, hp⟩ := hs
          exact ih i hi hp
        · exact ⟨r, hr, fun i hi hp => hs ⟨i, hi, hp⟩⟩
    obtain ⟨r, ⟨hr, h', he⟩, hno⟩ := hmin
    exact delete_some gb G r l hl hG hr (fun i hi hir => by
      cases hx : emp l[i]
      · rfl
      · exact absurd ⟨by omega, hi, hx⟩ (hno i hir)) (fun _ => he) w h
  · have hall : ∀ i (h : i < l.length), emp l[i] = false := fun i hi => by
      cases hx : emp l[i]
      · rfl
      · exact absurd ⟨i, by omega, hi, hx⟩ hex
    have hf : some_ l = l := by
      rw [some_, List.filter_eq_self]
      intro g hg
      obtain ⟨i, hi, rfl⟩ := List.getElem_of_mem hg
      rw [hall i hi]; rfl
    have HK := Lib.hid (index_fn gb G G l hl hG (Nat.le_refl _) (fun i hi _ => hall i hi) (fun h => by omega) w h)
    have HIF := Lib.hid (show (if G < G then (G : Int) else -1) = -1 from if_neg (Nat.lt_irrefl _))
    have HH := Lib.hid h
    rw [hf, hl, Nat.sub_self, List.replicate_zero, List.append_nil]
    clear hex hall hf hl h
    go_enter Try.func29, Try.ntmps29
    go_wp2_with fail
    (with_reducible refine HK.out.mono ?_)
    rintro e w1 ⟨rfl, hb1⟩
    rw [HIF.out]
    have HR1 := Lib.hid (And.intro (Blk.below HH.out hb1 (Blk.lt HH.out)) (below_grown hb1 gb))
    clear hb1
    go_wp2_with fail
    go_ret
    exact ⟨rfl, HR1.out⟩
end Go.Proofs.Ytacijjioaanlgaa
