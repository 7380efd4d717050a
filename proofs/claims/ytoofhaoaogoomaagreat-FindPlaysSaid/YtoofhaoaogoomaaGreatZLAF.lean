/- The reference of package bloom: Add, May. No statement of the seat is proved here. -/
import Derived.Test.YtoofhaoaogoomaaGreatZLAE
import Derived.Test.YtoofhaoaogoomaaGreatZLAC
import Derived.Test.YtoofhaoaogoomaaGreatZLAD
import Derived.Test.YtoofhaoaogoomaaGreatZLAA
import Derived.StillTailTactics
import Derived.Deep.MidRow
import Derived.BigFrame
import Derived.Handy
namespace Go.Proofs.YtoofhaoaogoomaaGreat
set_option maxRecDepth 100000
open Go.RowKit

theorem own_valF {w : World} {b n c k : Nat} {e : TypeId} {A : Option Addr} {xs : List Value} (h : w.ownsRow b e 1 (.slice A n c) n xs) (hk : k < n) : ∃ g, A = some ⟨g, 0, none⟩ ∧ w.cell? ⟨g, k, none⟩ = xs[k]? ∧ b ≤ g ∧ g < w.heap.size := by
  have hl : xs.length = n := by have := h.1; omega
  rcases h.2 with ⟨_, h0⟩ | ⟨g, cap, cur, hv, hbg, hh, hnc, _, hcs, ht⟩
  · omega
  · injection hv with hA _ _
    have hu : xs[k]? = some (xs[k]'(by omega)) := List.getElem?_eq_getElem (by omega)
    have hcell : w.cell? ⟨g, k, none⟩ = xs[k]? := by
      rw [cell_of_row w g k cur _ (0, 0) hh]
      have h2 : (cur.toList.take (n * 1))[k]? = xs[k]? := by rw [ht]
      rw [List.getElem?_take, if_pos (by omega)] at h2
      simpa using h2
    rw [hu] at hcell
    exact ⟨g, hA, by rw [hu]; exact hcell, hbg, World.block_lt_of_cell? w _ hcell⟩
theorem spk_lt {n p q : Nat} {x : KeyT} (h : q ∈ spk n p x) : q < n := by
  unfold spk spotsN at h
  obtain ⟨f, _, rfl⟩ := List.mem_map.1 h
  exact f.2
theorem spk_len {n p : Nat} (x : KeyT) (hp : p ≤ 30) : (spk n p x).length ≤ 30 := by
  unfold spk spotsN
  rw [List.length_map]
  rcases Nat.eq_zero_or_pos n with rfl | h
  · simp [spots]
  · rw [spots_length h]; exact hp
set_option maxRecDepth 100000 in
set_option maxHeartbeats 1000000 in
theorem refadd_ok (r g n p : Nat) (S : Nat → Bool) (x : KeyT) (hx : x.Ok) (w : World) (h : Ref w r g n p S) :
    Calls Tryz.prog 37 #[.pointer (some ⟨r, 0, none⟩), .agg (kcs x).toArray] w fun e w' => (∃ y, e = .returned y) ∧ Ref w' r g n p (putL S (spk n p x)) ∧ w.grownBy w' (some g) := by
  obtain ⟨fs, hfs⟩ := key_desc
  have hksz : (Tryz.prog.info? 29).map (·.size) = some (kcs x).toArray.size := by rw [List.size_toArray, kcs_length hx]; exact key_size
  have hb1 := (Below.refl w.heap.size w).alloc (Nat.le_refl _) (.cells (kcs x).toArray 29)
  have hkb := Blk.new w 29 (kcs x).toArray
  have KP := Lib.hid (places_ok r g n p S x hx _ (h.on hb1))
  have HF := Lib.hid hfs
  have HK := Lib.hid hksz
  have HB := Lib.hid hkb
  have HB1 := Lib.hid hb1
  have HH := Lib.hid (h.on hb1)
  have hln := spk_len (n := n) x h.hp
  have hlt' := fun q (hq : q ∈ spk n p x) => spk_lt hq
  have hn := h.hn
  generalize spk n p x = l at *
  obtain ⟨z, hz⟩ : ∃ z, l.length = z := ⟨_, rfl⟩
  rw [hz] at KP hln
  have HZ := Lib.hid hz
  have HLT := Lib.hid hlt'
  clear hfs hksz hkb hb1 h hz hlt'
  go_enter Tryz.func37, Tryz.ntmps37
  go_wp2_with (refine wpList_load_row rfl 29 (.tmp 3) rfl w.heap.size rfl 29 (kcs x).toArray (0, 0) (.struct fs) HB.out HF.out rfl HK.out ?_)
  (with_reducible refine KP.out.mono ?_)
  rintro e w2 ⟨A, c, rfl, ho, hb2⟩
  have hm := ownsRow_form ho
  have hcc : z ≤ c := by obtain ⟨_, _, e, h1, _⟩ := hm; injection e with _ _ e; omega
  have HO := Lib.hid ho
  have H2 := Lib.hid (HH.out.on hb2)
  have HG2 := Lib.hid (show g < (w.alloc (.cells (kcs x).toArray 29)).heap.size from HH.out.gb.lt)
  have HX2 := Lib.hid (below_grownF (HB1.out.trans (hb2.mono HB1.out.size)) g)
  clear ho hb2 hm
  go_wp2_with fail
  go_loopw [5] (fun i wr => ∃ k : Nat, k ≤ z ∧ i = .int .i64 k ∧ Ref wr r g n p (putL S (l.take k)) ∧ w2.grownBy wr (some g)) (fun i _ => z - (intOf i).toNat)
  case atStart => exact ⟨0, Nat.zero_le _, rfl, H2.out, World.grownBy.refl _ _⟩
  case round =>
    obtain ⟨k, hk, rfl, href, hgr⟩ := hrel
    by_cases hlt : k < z
    · have ho := ownsRow_grown HO.out hgr (fun g' e e' => by injection e with e; have h1 := (HO.out.lt g' e').1; have h2 := HG2.out; omega)
      obtain ⟨gl, rfl, hcl, _, _⟩ := own_valF ho hlt
      have hkl : k < l.length := by rw [HZ.out]; exact hlt
      have hq := HLT.out _ (List.getElem_mem hkl)
      have htk : l.take (k + 1) = l.take k ++ [l[k]] := List.take_succ_eq_append_getElem hkl
      rw [show (iv64 l)[k]? = some (.int .i64 (l[k] : Nat)) by simp [iv64, hkl]] at hcl
      generalize l[k] = q at *
      obtain ⟨hc0, _⟩ := href.cells
      have hcq := href.bit hq
      have hfq := href.gb.frozen q
      have hset := href.gb.set_ q (.bool true)
      rw [bcs_set (putL S (l.take k)) true (T := putL S (l.take (k + 1))) (fun y _ => by
        rw [htk, putL_snoc]
        simp only [put1]
        by_cases e : y = q
        · simp [e]
        · simp [e])] at hset
      have HREF := Lib.hid href
      have HSET := Lib.hid hset
      have HGR := Lib.hid (gby_drewF (gby_transF hgr (grownBy_cellF wr g q (.bool true))))
      have hi1 : (0 : Int) ≤ (k : Int) := by omega
      have hi2 : (k : Int) < (z : Int) := by omega
      have hi3 : (0 : Int) ≤ (q : Int) := by omega
      have hi4 : (q : Int) < (n : Int) := by omega
      clear ho hset hgr href htk
      go_wp2_with fail
      go_region
      go_wp2_with fail
      go_roundw
      case rel => exact ⟨k + 1, by omega, by go_num, ⟨HREF.out.rb.same (HGR.out.block r (by have := H2.out.rb.lt; exact this) (fun e => HREF.out.ne (by injection e)) |>.trans (H2.out.rb.trans HREF.out.rb.symm)), HSET.out, HREF.out.hn, HREF.out.hp⟩, HGR.out⟩
      case measure => simp [intOf]; omega
    · obtain rfl : z = k := by omega
      rw [List.take_of_length_le (by rw [HZ.out]; exact Nat.le_refl _)] at href
      have HREF := Lib.hid href
      have HGR := Lib.hid (gby_transF HX2.out hgr)
      clear href hgr
      go_wp2
      go_end0
      exact ⟨⟨_, rfl⟩, HREF.out, HGR.out⟩
set_option maxRecDepth 100000 in
set_option maxHeartbeats 1000000 in
theorem refmay_ok (r g n p : Nat) (S : Nat → Bool) (x : KeyT) (hx : x.Ok) (w : World) (h : Ref w r g n p S) :
    Calls Tryz.prog 45 #[.pointer (some ⟨r, 0, none⟩), .agg (kcs x).toArray] w fun e w' => e = .returned (.bool ((spk n p x).all S)) ∧ Below w.heap.size w w' := by
  obtain ⟨fs, hfs⟩ := key_desc
  have hksz : (Tryz.prog.info? 29).map (·.size) = some (kcs x).toArray.size := by rw [List.size_toArray, kcs_length hx]; exact key_size
  have hb1 := (Below.refl w.heap.size w).alloc (Nat.le_refl _) (.cells (kcs x).toArray 29)
  have hkb := Blk.new w 29 (kcs x).toArray
  have KP := Lib.hid (places_ok r g n p S x hx _ (h.on hb1))
  have HF := Lib.hid hfs
  have HK := Lib.hid hksz
  have HB := Lib.hid hkb
  have HB1 := Lib.hid hb1
  have HH := Lib.hid (h.on hb1)
  have hln := spk_len (n := n) x h.hp
  have hlt' := fun q (hq : q ∈ spk n p x) => spk_lt hq
  have hn := h.hn
  generalize spk n p x = l at *
  obtain ⟨z, hz⟩ : ∃ z, l.length = z := ⟨_, rfl⟩
  obtain ⟨V, hV⟩ : ∃ V, l.all S = V := ⟨_, rfl⟩
  rw [hz] at KP hln
  rw [hV]
  have HZ := Lib.hid hz
  have HLT := Lib.hid hlt'
  have HV := Lib.hid hV
  clear hfs hksz hkb hb1 h hz hlt' hV
  go_enter Tryz.func45, Tryz.ntmps45
  go_wp2_with (refine wpList_load_row rfl 29 (.tmp 3) rfl w.heap.size rfl 29 (kcs x).toArray (0, 0) (.struct fs) HB.out HF.out rfl HK.out ?_)
  (with_reducible refine KP.out.mono ?_)
  rintro e w2 ⟨A, c, rfl, ho, hb2⟩
  have hm := ownsRow_form ho
  have hcc : z ≤ c := by obtain ⟨_, _, e, h1, _⟩ := hm; injection e with _ _ e; omega
  have HO := Lib.hid ho
  have H2 := Lib.hid (HH.out.on hb2)
  have HX2 := Lib.hid (HB1.out.trans (hb2.mono HB1.out.size))
  clear ho hb2 hm
  go_wp2_with fail
  go_loopw [6] (fun i wr => ∃ k : Nat, k ≤ z ∧ i = .int .i64 k ∧ (∀ q ∈ l.take k, S q = true) ∧ Below w2.heap.size w2 wr) (fun i _ => z - (intOf i).toNat)
  case atStart => exact ⟨0, Nat.zero_le _, rfl, by simp, Below.refl _ _⟩
  case round =>
    obtain ⟨k, hk, rfl, hall, hbel⟩ := hrel
    have href := H2.out.on hbel
    by_cases hlt : k < z
    · have ho := ownsRow_below HO.out hbel
      obtain ⟨gl, rfl, hcl, _, _⟩ := own_valF ho hlt
      have hkl : k < l.length := by rw [HZ.out]; exact hlt
      have hmem := List.getElem_mem hkl
      have hq := HLT.out _ hmem
      have htk : l.take (k + 1) = l.take k ++ [l[k]] := List.take_succ_eq_append_getElem hkl
      rw [show (iv64 l)[k]? = some (.int .i64 (l[k] : Nat)) by simp [iv64, hkl]] at hcl
      generalize l[k] = q at *
      obtain ⟨hc0, _⟩ := href.cells
      have hcq := href.bit hq
      have HTK := Lib.hid htk
      have HMEM := Lib.hid hmem
      have HALL := Lib.hid hall
      have HBEL := Lib.hid hbel
      have hi1 : (0 : Int) ≤ (k : Int) := by omega
      have hi2 : (k : Int) < (z : Int) := by omega
      have hi3 : (0 : Int) ≤ (q : Int) := by omega
      have hi4 : (q : Int) < (n : Int) := by omega
      clear ho hbel href htk hall hmem
      cases hS : S q with
      | true =>
        rw [hS] at hcq
        have HS := Lib.hid hS
        clear hS
        go_wp2_with fail
        go_quiet (fail)
        go_wp2_with fail
        go_roundw
        case rel => exact ⟨k + 1, by omega, by go_num, fun y hy => by
          rw [HTK.out] at hy
          rcases List.mem_append.1 hy with hy | hy
          · exact HALL.out y hy
          · rw [List.mem_singleton.1 hy]; exact HS.out, below_drewN HBEL.out _⟩
        case measure => simp [intOf]; omega
      | false =>
        rw [hS] at hcq
        have hVf : V = false := by
          rw [← HV.out, List.all_eq_false]
          exact ⟨q, HMEM.out, by simp [hS]⟩
        clear hS
        subst hVf
        go_wp2_with fail
        go_quiet (fail)
        go_wp2_with fail
        go_ret
        exact ⟨rfl, HX2.out.trans ((below_drewN HBEL.out _).mono HX2.out.size)⟩
    · obtain rfl : z = k := by omega
      rw [List.take_of_length_le (by rw [HZ.out]; exact Nat.le_refl _)] at hall
      have hVt : V = true := by rw [← HV.out, List.all_eq_true]; exact hall
      have HBEL := Lib.hid hbel
      clear hall hbel href
      subst hVt
      go_wp2
      go_ret
      exact ⟨rfl, HX2.out.trans (HBEL.out.mono HX2.out.size)⟩
end Go.Proofs.YtoofhaoaogoomaaGreat
/- The reference of package bloom: Or, Bytes. No statement of the seat is proved here. -/
namespace Go.Proofs.YtoofhaoaogoomaaGreat
set_option maxRecDepth 100000
open Go.RowKit

/-- Behind k rounds of Or, and of Bytes. -/
def orK (S : Nat → Bool) (b : List UInt8) (k : Nat) : Nat → Bool := fun q => S q || (decide (q < k) && bitOf b q)
theorem orK_zero (S : Nat → Bool) (b : List UInt8) : orK S b 0 = S := by funext q; simp [orK]
theorem orK_at (S : Nat → Bool) (b : List UInt8) (k : Nat) : orK S b k k = S k := by simp [orK]
theorem orK_step (S : Nat → Bool) (b : List UInt8) (k n : Nat) : ∀ x, x < n → orK S b (k + 1) x = if x = k then (S k || bitOf b k) else orK S b k x := fun x _ => by
  unfold orK
  by_cases e : x = k
  · subst e; simp
  · rw [if_neg e]
    by_cases h : x < k
    · simp [h, Nat.lt_succ_of_lt h]
    · have : ¬ x < k + 1 := by omega
      simp [h, this]
theorem orK_end {S : Nat → Bool} {b : List UInt8} {k n q : Nat} (h : k = n ∨ b.length ≤ k / 8) (hq : q < n) : orK S b k q = orS S b q := by
  unfold orK orS
  by_cases hk : q < k
  · simp [hk]
  · have : bitOf b q = false := by
      have hb : b.length ≤ q / 8 := by rcases h with h | h <;> omega
      unfold bitOf
      simp [List.getD, List.getElem?_eq_none hb]
    simp [this]
theorem shr_bit (c i : Nat) : (c / 2 ^ i % 2 == 1) = c.testBit i := by
  rw [Nat.testBit_eq_decide_div_mod_eq]
  by_cases h : c / 2 ^ i % 2 = 1 <;> simp [h]
theorem shr_int (X km : Nat) : (((X : Int) / 2 ^ km).tmod 2 == 1) = (X / 2 ^ km % 2 == 1) := by
  have e : (X : Int) / 2 ^ km = ((X / 2 ^ km : Nat) : Int) := by rw [Int.natCast_ediv]; simp
  rw [e, Int.tmod_eq_emod_of_nonneg (Int.natCast_nonneg _)]
  generalize X / 2 ^ km = y
  rw [Bool.eq_iff_iff, beq_iff_eq, beq_iff_eq]
  omega
set_option maxRecDepth 100000 in
set_option maxHeartbeats 800000 in
theorem refor_ok (r g n p : Nat) (S : Nat → Bool) (w : World) (h : Ref w r g n p S) (A : Option Addr) (b : List UInt8) (nb c : Nat) (hl : b.length = nb) (hm9 : nb ≤ 9223372036854775807) (hr : ∀ W, w.grownBy W (some g) → Rd W W.heap.size A b) :
    Calls Tryz.prog 17 #[.pointer (some ⟨r, 0, none⟩), .slice A nb c] w fun e w' => (∃ y, e = .returned y) ∧ (∃ T, Ref w' r g n p T ∧ ∀ q, q < n → T q = orS S b q) ∧ w.grownBy w' (some g) := by
  have HL := Lib.hid hl
  have HR := Lib.hid hr
  have hn := h.hn
  have HH := Lib.hid h
  clear h hl hr
  go_enter Tryz.func17, Tryz.ntmps17
  go_wp2
  go_loopw [4] (fun i wr => ∃ k : Nat, k ≤ n ∧ i = .int .i64 k ∧ Ref wr r g n p (orK S b k) ∧ w.grownBy wr (some g)) (fun i _ => n - (intOf i).toNat)
  case atStart => exact ⟨0, Nat.zero_le _, rfl, by rw [orK_zero]; exact HH.out, World.grownBy.refl _ _⟩
  case round =>
    obtain ⟨k, hk, rfl, href, hgr⟩ := hrel
    obtain ⟨hc0, _⟩ := href.cells
    by_cases hlt : k < n ∧ k / 8 < nb
    · obtain ⟨hlt, hk8⟩ := hlt
      have hkb : k / 8 < b.length := by rw [HL.out]; exact hk8
      obtain ⟨gb, ob, rfl, _, hcb0⟩ := HR.out wr hgr (by omega)
      have hcb := hcb0 _ hkb
      have hbt : b[k / 8].toNat.testBit (k % 8) = bitOf b k := by
        unfold bitOf; rw [show b.getD (k / 8) 0 = b[k / 8] by simp [List.getD, List.getElem?_eq_getElem hkb]]
      have hshr := shr_bit b[k / 8].toNat (k % 8)
      rw [hbt] at hshr
      have hx8 := b[k / 8].toNat_lt
      generalize b[k / 8].toNat = X at *
      clear hcb0 hbt
      have hcq := href.bit hlt
      rw [orK_at] at hcq
      have hfq := href.gb.frozen k
      have hset := href.gb.set_ k (.bool (S k || bitOf b k))
      rw [bcs_set (orK S b k) (S k || bitOf b k) (T := orK S b (k + 1)) (orK_step S b k n)] at hset
      have HREF := Lib.hid href
      have HSET := Lib.hid hset
      have HGR := Lib.hid (gby_drewF (gby_transF hgr (grownBy_cellF wr g k (.bool (S k || bitOf b k)))))
      have hi1 : (0 : Int) ≤ (k : Int) := by omega
      have hi2 : (k : Int) < (n : Int) := by omega
      have hk8i : (k : Int) / 8 < (nb : Int) := by omega
      have hfin := Lib.hid (show Ref (wr.setCell ⟨g, k, none⟩ (.bool (S k || bitOf b k))).drew r g n p (orK S b (k + 1)) from ⟨HREF.out.rb.same (HGR.out.block r HH.out.rb.lt (fun e => HH.out.ne (by injection e)) |>.trans (HH.out.rb.trans HREF.out.rb.symm)), HSET.out, HREF.out.hn, HREF.out.hp⟩)
      clear hset hgr href HREF HSET
      cases hS : S k with
      | true =>
        rw [hS] at hcq
        have hSV : (S k || bitOf b k) = true := by rw [hS]; rfl
        rw [hSV] at hfin HGR
        clear hS hSV
        go_wp2_with fail
        go_region
        go_wp2_with fail
        go_roundw
        case rel => exact ⟨k + 1, by omega, by go_num, hfin.out, HGR.out⟩
        case measure => simp [intOf]; omega
      | false =>
        rw [hS] at hcq
        have hSV : (S k || bitOf b k) = bitOf b k := by rw [hS]; rfl
        rw [hSV] at hfin HGR
        have HBIT := Lib.hid hshr
        obtain ⟨V, hV⟩ : ∃ V, bitOf b k = V := ⟨_, rfl⟩
        rw [hV] at hfin HGR HBIT
        obtain ⟨kd, hkd⟩ : ∃ kd, k / 8 = kd := ⟨_, rfl⟩
        obtain ⟨km, hkm⟩ : ∃ km, k % 8 = km := ⟨_, rfl⟩
        rw [hkd] at hcb hkb
        rw [hkm] at HBIT
        have hkm8 : km < 8 := by omega
        have hkdi : (k : Int) / 8 = (kd : Int) := by omega
        have q1 : (k : Int).tdiv 8 = (kd : Int) := by rw [Int.tdiv_eq_ediv_of_nonneg (by omega)]; exact hkdi
        have q2 : (k : Int).tmod 8 = (km : Int) := by rw [Int.tmod_eq_emod_of_nonneg (by omega)]; omega
        have q3 : IntKind.i64.wrap (kd : Int) = (kd : Int) := IntWalk.i64_in _ (by omega)
        have q4 : IntKind.i64.wrap (km : Int) = (km : Int) := IntWalk.i64_in _ (by omega)
        have q5 : (0 : Int) ≤ (kd : Int) := by omega
        have q6 : (kd : Int) < (nb : Int) := by omega
        have q7 : (0 : Int) ≤ (km : Int) := by omega
        clear hS hSV hV hshr hk8i
        rw [hkdi] at *
        go_wp2_with fail
        go_region
        rw [shr_int, HBIT.out]
        go_wp2_with fail
        go_roundw
        case rel => exact ⟨k + 1, by omega, by go_num, hfin.out, HGR.out⟩
        case measure => simp [intOf]; omega
    · have hend : k = n ∨ b.length ≤ k / 8 := by rw [HL.out]; omega
      have HREF := Lib.hid href
      have HGR := Lib.hid hgr
      have HEND := Lib.hid hend
      clear href hgr hend
      by_cases h1 : k < n
      · have h2 : nb ≤ k / 8 := by omega
        obtain ⟨kd, hkd⟩ : ∃ kd, k / 8 = kd := ⟨_, rfl⟩
        have hkdi : (k : Int) / 8 = (kd : Int) := by omega
        have h2i : ¬ (kd : Int) < (nb : Int) := by omega
        clear hlt h2 hkd
        go_wp2
        go_end0
        exact ⟨⟨_, rfl⟩, ⟨_, HREF.out, fun q hq => orK_end HEND.out hq⟩, HGR.out⟩
      · obtain rfl : n = k := by omega
        clear hlt
        go_wp2
        go_end0
        exact ⟨⟨_, rfl⟩, ⟨_, HREF.out, fun q hq => orK_end (.inl rfl) hq⟩, HGR.out⟩
end Go.Proofs.YtoofhaoaogoomaaGreat
/- Where a key stands among rows, or would. No statement of the seat is proved here. -/
namespace Go.Proofs.YtoofhaoaogoomaaGreat
set_option linter.unusedVariables false

theorem at_split {L : List RowT} (h : RowsOk L) {k : List UInt8 × Nat} (hk : KeyOk k) :
    ∃ M, L = under L k ++ M ∧ (∀ x ∈ M, ¬ ordK x.1 < ordK k) ∧ hasX L k = (M.head?.map (·.1) == some k) := by
  rcases rise_split h.rise hk h.key with ⟨h1, h2⟩ | ⟨p, h1, _, h2⟩
  · refine ⟨over L k, h2, fun x hx => by have := (mem_over.1 hx).2; omega, ?_⟩
    rw [h1]
    cases ho : over L k with
    | nil => rfl
    | cons r M =>
      have h3 : r ∈ over L k := by rw [ho]; exact List.mem_cons_self
      have h4 := (mem_over.1 h3).2
      have h5 : r.1 ≠ k := fun e => by rw [e] at h4; omega
      simp [h5]
  · refine ⟨(k, p) :: over L k, h2, fun x hx => ?_, ?_⟩
    · rcases List.mem_cons.1 hx with rfl | hx
      · exact Nat.lt_irrefl _
      · have := (mem_over.1 hx).2; omega
    · rw [h1]; simp
theorem at_less {L : List RowT} {k : List UInt8 × Nat} {M : List RowT} (hM : L = under L k ++ M) {j : Nat} (hj : j < (under L k).length) (hjL : j < L.length) : ordK (L[j]).1 < ordK k := by
  have : L[j] = (under L k)[j] := by
    have e : L[j]? = (under L k)[j]? := by
      have e2 : L[j]? = (under L k ++ M)[j]? := congrArg (·[j]?) hM
      rw [e2, List.getElem?_append_left hj]
    rw [List.getElem?_eq_getElem hjL, List.getElem?_eq_getElem hj] at e
    exact Option.some.inj e
  rw [this]
  exact (mem_under.1 (List.getElem_mem hj)).2
theorem at_stop {L : List RowT} {k : List UInt8 × Nat} {M : List RowT} (hM : L = under L k ++ M) (hn : ∀ x ∈ M, ¬ ordK x.1 < ordK k) (hh : hasX L k = (M.head?.map (·.1) == some k)) :
    ((under L k).length = L.length → hasX L k = false) ∧ (∀ hq : (under L k).length < L.length, ¬ ordK (L[(under L k).length]).1 < ordK k ∧ hasX L k = decide ((L[(under L k).length]).1 = k)) := by
  have hl : L.length = (under L k).length + M.length := by
    have := congrArg List.length hM
    rwa [List.length_append] at this
  constructor
  · intro e
    have : M = [] := List.length_eq_zero_iff.1 (by omega)
    rw [hh, this]; rfl
  · intro hq
    cases M with
    | nil => simp at hl; omega
    | cons r M =>
      have e : L[(under L k).length] = r := by
        have e2 : L[(under L k).length]? = (under L k ++ r :: M)[(under L k).length]? := congrArg (·[(under L k).length]?) hM
        rw [List.getElem?_append_right (Nat.le_refl _), Nat.sub_self, List.getElem?_eq_getElem hq] at e2
        exact Option.some.inj e2
      rw [e]
      refine ⟨hn r List.mem_cons_self, ?_⟩
      rw [hh]
      simp only [List.head?_cons, Option.map_some]
      by_cases h : r.1 = k
      · simp [h]
      · simp [h]
theorem under_length (L : List RowT) (k : List UInt8 × Nat) : (under L k).length ≤ L.length := List.length_filter_le _ _
end Go.Proofs.YtoofhaoaogoomaaGreat
/- A key's sum as a part of it. No statement of the seat is proved here. -/
namespace Go.Proofs.YtoofhaoaogoomaaGreat
open Go.RowKit
theorem sum_desc : ∃ n e, Tryz.prog.underlying 26 = some (.array n e) := ⟨_, _, Tryz.underlying26⟩
theorem sum_size : (Tryz.prog.info? 26).map (·.size) = some 32 := by kernel_rfl
theorem range_sum {w : World} {g o : Nat} {k : KeyT} (h : w.rangeAt g o (kcs k)) : w.rangeAt g o (bv k.1) := fun j u hu => h j u (by
  have hj := (List.getElem?_eq_some_iff.1 hu).1
  unfold kcs
  rw [List.getElem?_append_left hj]
  exact hu)
end Go.Proofs.YtoofhaoaogoomaaGreat
/- A row of many cells loaded out of a block's middle, at an operation whose guard says yes. No statement of the seat is proved here. -/
namespace Go.Proofs.YtoofhaoaogoomaaGreat
open Go.RowKit

/-- A row out of the middle of a block, loaded by a guarded operation. -/
theorem wpList_mid_want {P : Program} {ops : Array Oper} {rest : List Oper} {o : Oper} {a : Act} {w : World} {Q : Exit → Act → World → Prop} (hgd : Region.wanted o (yielded ops a.tmps) = true) (ty : TypeId) (x : Operand) (ho : o.op = .load ty x)
    (b of : Nat) (hx : a.eval x = .pointer (some ⟨b, of, none⟩)) (cs : List Value) (d : TypeDesc) (hc : w.rangeAt b of cs) (hu : P.underlying ty = some d) (hd : d.isRow = true) (hi : (P.info? ty).map (·.size) = some cs.length)
    (h : wpList P ops Q rest (a.put o.dst (.agg cs.toArray)) w) : wpList P ops Q (o :: rest) a w :=
  BigFrame.wpList_want hgd fun _ hK => wp_load_mid ty x ho b of hx cs d hc hu hd hi (hK _ _ h)
end Go.Proofs.YtoofhaoaogoomaaGreat
/- Of two lists of bytes as long as one another the one whose number is less stands ahead. No statement of the seat is proved here. -/
namespace Go.Proofs.YtoofhaoaogoomaaGreat
open Go.RowKit

theorem less_val : ∀ (x y : List UInt8), x.length = y.length → Op.bytesLess x y = decide (val x < val y)
  | [], [], _ => by simp [Op.bytesLess, val]
  | a :: x, b :: y, h => by
    have hl : x.length = y.length := by simpa using h
    have ih := less_val x y hl
    rw [Op.bytesLess, ih, val_cons, val_cons, hl]
    have h1 := val_lt x
    have h2 := val_lt y
    rw [hl] at h1
    rcases Nat.lt_trichotomy a.toNat b.toNat with h3 | h3 | h3
    · have e1 : (a < b) := UInt8.lt_iff_toNat_lt.2 h3
      have h4 : (a.toNat + 1) * 256 ^ y.length ≤ b.toNat * 256 ^ y.length := Nat.mul_le_mul_right _ h3
      rw [Nat.add_mul, Nat.one_mul] at h4
      simp only [e1, decide_true, Bool.true_or]
      symm; rw [decide_eq_true_iff]; omega
    · have e1 : a = b := UInt8.toNat_inj.1 h3
      subst e1
      simp
    · have e1 : ¬ (a < b) := fun h => by have := UInt8.lt_iff_toNat_lt.1 h; omega
      have e2 : (a == b) = false := by
        rw [beq_eq_false_iff_ne]; rintro rfl; omega
      have h4 : (b.toNat + 1) * 256 ^ y.length ≤ a.toNat * 256 ^ y.length := Nat.mul_le_mul_right _ h3
      rw [Nat.add_mul, Nat.one_mul] at h4
      simp only [e1, e2, decide_false, Bool.false_or, Bool.false_and]
      symm; rw [decide_eq_false_iff_not]; omega
end Go.Proofs.YtoofhaoaogoomaaGreat
/- Plain mathematics for package index: each row stands once in all, on its shelf and among its twins. No statement of the seat is proved here; nothing of the program is imported. -/
namespace Go.Proofs.YtoofhaoaogoomaaGreat
set_option linter.unusedVariables false

theorem rise_nodup {L : List RowT} (h : Rise L) : L.Nodup := List.Pairwise.imp (fun {a b} hab e => by rw [e] at hab; exact absurd hab (Nat.lt_irrefl _)) h
theorem rise_keys {L : List RowT} (h : Rise L) : (L.map (·.1)).Nodup := by
  unfold List.Nodup
  rw [List.pairwise_map]
  exact List.Pairwise.imp (fun {a b} hab e => by rw [e] at hab; exact absurd hab (Nat.lt_irrefl _)) h
theorem count_insS (l : List RowT) (r x : RowT) : (insS l r).count x = l.count x + if r = x then 1 else 0 := by
  unfold insS
  have h : l.count x = (l.takeWhile (fun y => decide (y.2.2 ≤ r.2.2))).count x + (l.dropWhile (fun y => decide (y.2.2 ≤ r.2.2))).count x := by
    rw [← List.count_append, List.takeWhile_append_dropWhile]
  rw [List.count_append, List.count_cons, h]
  simp only [beq_iff_eq]
  omega
theorem count_foldl_insS (x : RowT) : ∀ (M l : List RowT), (M.foldl insS l).count x = l.count x + M.count x
  | [], l => rfl
  | r :: M, l => by
    rw [List.foldl_cons, count_foldl_insS x M, count_insS, List.count_cons]
    simp only [beq_iff_eq]
    omega
theorem count_one {α : Type} [BEq α] [LawfulBEq α] {l : List α} (h : l.Nodup) {x : α} (hx : x ∈ l) : l.count x = 1 := by
  have h1 := List.nodup_iff_count.1 h x
  have h2 := List.count_pos_iff.2 hx
  omega
theorem count_shelf {L : List RowT} (h : Rise L) {r : RowT} (hr : r ∈ L) : (shelfX L r.2.1).count r = 1 := by
  unfold shelfX
  rw [count_foldl_insS, List.count_nil, Nat.zero_add]
  exact count_one (List.Pairwise.filter _ (rise_nodup h)) (List.mem_filter.2 ⟨hr, by simp⟩)
theorem count_twins {L : List RowT} (h : Rise L) {r : RowT} (hr : r ∈ L) : (twinsX L r.1.1).count r.1 = 1 := by
  unfold twinsX
  refine count_one ?_ (List.mem_map.2 ⟨r, List.mem_filter.2 ⟨hr, by simp⟩, rfl⟩)
  exact rise_keys (List.Pairwise.filter _ h)
theorem get_mem {L : List RowT} (h : Rise L) {r : RowT} (hr : r ∈ L) : getX L r.1 = r.2 := by
  unfold getX
  cases hf : L.find? (fun x => decide (x.1 = r.1)) with
  | none =>
    have := List.find?_eq_none.1 hf r hr
    simp at this
  | some y =>
    have h1 := List.find?_some hf
    have h1 : y.1 = r.1 := by simpa using h1
    have h2 := List.mem_of_find?_eq_some hf
    have h3 : y = r := by
      rcases List.mem_iff_getElem.1 h2 with ⟨i, hi, rfl⟩
      rcases List.mem_iff_getElem.1 hr with ⟨j, hj, rfl⟩
      have hp := List.pairwise_iff_getElem.1 h
      rcases Nat.lt_trichotomy i j with hij | hij | hij
      · have := hp i j hi hj hij; rw [h1] at this; omega
      · subst hij; rfl
      · have := hp j i hj hi hij; rw [h1] at this; omega
    show y.2 = r.2
    rw [h3]
theorem count_step {α : Type} [BEq α] [LawfulBEq α] [DecidableEq α] (l : List α) (x : α) {i : Nat} (hi : i < l.length) : (l.take (i + 1)).count x = (l.take i).count x + if l[i] = x then 1 else 0 := by
  rw [List.take_succ_eq_append_getElem hi, List.count_append, List.count_singleton]
  simp only [beq_iff_eq]
end Go.Proofs.YtoofhaoaogoomaaGreat
