/- The reference of package bloom: Add, May. No statement of the seat is proved here. -/
import Derived.Test.YtjahlachoabmkaaBloomRefB
namespace Go.Proofs.Ytjahlachoabmkaa
open Go.RowKit

theorem own_val {w : World} {b n c k : Nat} {e : TypeId} {A : Option Addr} {xs : List Value} (h : w.ownsRow b e 1 (.slice A n c) n xs) (hk : k < n) : ∃ g, A = some ⟨g, 0, none⟩ ∧ w.cell? ⟨g, k, none⟩ = xs[k]? ∧ b ≤ g ∧ g < w.heap.size := by
  have hl : xs.length = n := by have := h.1; omega
  rcases h.2 with ⟨_, h0⟩ | ⟨g, cap, cur, hv, hbg, hh, hnc, _, hcs, ht⟩
  · omega
  · injection hv with hA _ _
    have hu : xs[k]? = some (xs[k]'(by omega)) := List.getElem?_eq_getElem (by omega)
    have hcell : w.cell? ⟨g, k, none⟩ = xs[k]? := by
      rw [cell_of_row w g k cur _ (0, 0) hh]
      have h2 : (cur.toList.take (n * 1))[k]? = xs[k]? := by rw [ht]
      rw [List.getElem?_take, if_pos (by omega)] at h2
      simpa using h2
    rw [hu] at hcell
    exact ⟨g, hA, by rw [hu]; exact hcell, hbg, World.block_lt_of_cell? w _ hcell⟩
theorem spk_lt {n p q : Nat} {x : KeyT} (h : q ∈ spk n p x) : q < n := by
  unfold spk spotsN at h
  obtain ⟨f, _, rfl⟩ := List.mem_map.1 h
  exact f.2
theorem spk_len {n p : Nat} (x : KeyT) (hp : p ≤ 30) : (spk n p x).length ≤ 30 := by
  unfold spk spotsN
  rw [List.length_map]
  rcases Nat.eq_zero_or_pos n with rfl | h
  · simp [spots]
  · rw [spots_length h]; exact hp
set_option maxRecDepth 100000 in
set_option maxHeartbeats 1000000 in
theorem refadd_ok (r g n p : Nat) (S : Nat → Bool) (x : KeyT) (hx : x.Ok) (w : World) (h : Ref w r g n p S) :
    Calls Try.prog 13 #[.pointer (some ⟨r, 0, none⟩), .agg (kcs x).toArray] w fun e w' => (∃ y, e = .returned y) ∧ Ref w' r g n p (putL S (spk n p x)) ∧ w.grownBy w' (some g) := by
  obtain ⟨fs, hfs⟩ := key_desc
  have hksz : (Try.prog.info? 27).map (·.size) = some (kcs x).toArray.size := by rw [List.size_toArray, kcs_length hx]; exact key_size
  have hb1 := (Below.refl w.heap.size w).alloc (Nat.le_refl _) (.cells (kcs x).toArray 27)
  have hkb := Blk.new w 27 (kcs x).toArray
  have KP := Lib.hid (places_ok r g n p S x hx _ (h.on hb1))
  have HF := Lib.hid hfs
  have HK := Lib.hid hksz
  have HB := Lib.hid hkb
  have HB1 := Lib.hid hb1
  have HH := Lib.hid (h.on hb1)
  have hln := spk_len (n := n) x h.hp
  have hlt' := fun q (hq : q ∈ spk n p x) => spk_lt hq
  have hn := h.hn
  generalize spk n p x = l at *
  obtain ⟨z, hz⟩ : ∃ z, l.length = z := ⟨_, rfl⟩
  rw [hz] at KP hln
  have HZ := Lib.hid hz
  have HLT := Lib.hid hlt'
  clear hfs hksz hkb hb1 h hz hlt'
  go_enter Try.func13, Try.ntmps13
  go_wp2_with (refine wpList_load_row rfl 27 (.tmp 3) rfl w.heap.size rfl 27 (kcs x).toArray (0, 0) (.struct fs) HB.out HF.out rfl HK.out ?_)
  (with_reducible refine KP.out.mono ?_)
  rintro e w2 ⟨A, c, rfl, ho, hb2⟩
  have hm := ownsRow_form ho
  have hcc : z ≤ c := by obtain ⟨_, _, e, h1, _⟩ := hm; injection e with _ _ e; omega
  have HO := Lib.hid ho
  have H2 := Lib.hid (HH.out.on hb2)
  have HG2 := Lib.hid (show g < (w.alloc (.cells (kcs x).toArray 27)).heap.size from HH.out.gb.lt)
  have HX2 := Lib.hid (below_grown (HB1.out.trans (hb2.mono HB1.out.size)) g)
  clear ho hb2 hm
  go_wp2_with fail
  go_loopw [5] (fun i wr => ∃ k : Nat, k ≤ z ∧ i = .int .i64 k ∧ Ref wr r g n p (putL S (l.take k)) ∧ w2.grownBy wr (some g)) (fun i _ => z - (intOf i).toNat)
  case atStart => exact ⟨0, Nat.zero_le _, rfl, H2.out, World.grownBy.refl _ _⟩
  case round =>
    obtain ⟨k, hk, rfl, href, hgr⟩ := hrel
    by_cases hlt : k < z
    · have ho := ownsRow_grown HO.out hgr (fun g' e e' => by injection e with e; have h1 := (HO.out.lt g' e').1; have h2 := HG2.out; omega)
      obtain ⟨gl, rfl, hcl, _, _⟩ := own_val ho hlt
      have hkl : k < l.length := by rw [HZ.out]; exact hlt
      have hq := HLT.out _ (List.getElem_mem hkl)
      have htk : l.take (k + 1) = l.take k ++ [l[k]] := List.take_succ_eq_append_getElem hkl
      rw [show (iv64 l)[k]? = some (.int .i64 (l[k] : Nat)) by simp [iv64, hkl]] at hcl
      generalize l[k] = q at *
      obtain ⟨hc0, _⟩ := href.cells
      have hcq := href.bit hq
      have hfq := href.gb.frozen q
      have hset := href.gb.set_ q (.bool true)
      rw [bcs_set (putL S (l.take k)) true (T := putL S (l.take (k + 1))) (fun y _ => by
        rw [htk, putL_snoc]
        simp only [put1]
        by_cases e : y = q
        · simp [e]
        · simp [e])] at hset
      have HREF := Lib.hid href
      have HSET := Lib.hid hset
      have HGR := Lib.hid (gby_drew (gby_trans hgr (grownBy_cell wr g q (.bool true))))
      have hi1 : (0 : Int) ≤ (k : Int) := by omega
      have hi2 : (k : Int) < (z : Int) := by omega
      have hi3 : (0 : Int) ≤ (q : Int) := by omega
      have hi4 : (q : Int) < (n : Int) := by omega
      clear ho hset hgr href htk
      go_wp2_with fail
      go_region
      go_wp2_with fail
      go_roundw
      case rel => exact ⟨k + 1, by omega, by go_num, ⟨HREF.out.rb.same (HGR.out.block r (by have := H2.out.rb.lt; exact this) (fun e => HREF.out.ne (by injection e)) |>.trans (H2.out.rb.trans HREF.out.rb.symm)), HSET.out, HREF.out.hn, HREF.out.hp⟩, HGR.out⟩
      case measure => simp [intOf]; omega
    · obtain rfl : z = k := by omega
      rw [List.take_of_length_le (by rw [HZ.out]; exact Nat.le_refl _)] at href
      have HREF := Lib.hid href
      have HGR := Lib.hid (gby_trans HX2.out hgr)
      clear href hgr
      go_wp2
      go_end0
      exact ⟨⟨_, rfl⟩, HREF.out, HGR.out⟩
set_option maxRecDepth 100000 in
set_option maxHeartbeats 1000000 in
theorem refmay_ok (r g n p : Nat) (S : Nat → Bool) (x : KeyT) (hx : x.Ok) (w : World) (h : Ref w r g n p S) :
    Calls Try.prog 16 #[.pointer (some ⟨r, 0, none⟩), .agg (kcs x).toArray] w fun e w' => e = .returned (.bool ((spk n p x).all S)) ∧ Below w.heap.size w w' := by
  obtain ⟨fs, hfs⟩ := key_desc
  have hksz : (Try.prog.info? 27).map (·.size) = some (kcs x).toArray.size := by rw [List.size_toArray, kcs_length hx]; exact key_size
  have hb1 := (Below.refl w.heap.size w).alloc (Nat.le_refl _) (.cells (kcs x).toArray 27)
  have hkb := Blk.new w 27 (kcs x).toArray
  have KP := Lib.hid (places_ok r g n p S x hx _ (h.on hb1))
  have HF := Lib.hid hfs
  have HK := Lib.hid hksz
  have HB := Lib.hid hkb
  have HB1 := Lib.hid hb1
  have HH := Lib.hid (h.on hb1)
  have hln := spk_len (n := n) x h.hp
  have hlt' := fun q (hq : q ∈ spk n p x) => spk_lt hq
  have hn := h.hn
  generalize spk n p x = l at *
  obtain ⟨z, hz⟩ : ∃ z, l.length = z := ⟨_, rfl⟩
  obtain ⟨V, hV⟩ : ∃ V, l.all S = V := ⟨_, rfl⟩
  rw [hz] at KP hln
  rw [hV]
  have HZ := Lib.hid hz
  have HLT := Lib.hid hlt'
  have HV := Lib.hid hV
  clear hfs hksz hkb hb1 h hz hlt' hV
  go_enter Try.func16, Try.ntmps16
  go_wp2_with (refine wpList_load_row rfl 27 (.tmp 3) rfl w.heap.size rfl 27 (kcs x).toArray (0, 0) (.struct fs) HB.out HF.out rfl HK.out ?_)
  (with_reducible refine KP.out.mono ?_)
  rintro e w2 ⟨A, c, rfl, ho, hb2⟩
  have hm := ownsRow_form ho
  have hcc : z ≤ c := by obtain ⟨_, _, e, h1, _⟩ := hm; injection e with _ _ e; omega
  have HO := Lib.hid ho
  have H2 := Lib.hid (HH.out.on hb2)
  have HX2 := Lib.hid (HB1.out.trans (hb2.mono HB1.out.size))
  clear ho hb2 hm
  go_wp2_with fail
  go_loopw [6] (fun i wr => ∃ k : Nat, k ≤ z ∧ i = .int .i64 k ∧ (∀ q ∈ l.take k, S q = true) ∧ Below w2.heap.size w2 wr) (fun i _ => z - (intOf i).toNat)
  case atStart => exact ⟨0, Nat.zero_le _, rfl, by simp, Below.refl _ _⟩
  case round =>
    obtain ⟨k, hk, rfl, hall, hbel⟩ := hrel
    have href := H2.out.on hbel
    by_cases hlt : k < z
    · have ho := ownsRow_below HO.out hbel
      obtain ⟨gl, rfl, hcl, _, _⟩ := own_val ho hlt
      have hkl : k < l.length := by rw [HZ.out]; exact hlt
      have hmem := List.getElem_mem hkl
      have hq := HLT.out _ hmem
      have htk : l.take (k + 1) = l.take k ++ [l[k]] := List.take_succ_eq_append_getElem hkl
      rw [show (iv64 l)[k]? = some (.int .i64 (l[k] : Nat)) by simp [iv64, hkl]] at hcl
      generalize l[k] = q at *
      obtain ⟨hc0, _⟩ := href.cells
      have hcq := href.bit hq
      have HTK := Lib.hid htk
      have HMEM := Lib.hid hmem
      have HALL := Lib.hid hall
      have HBEL := Lib.hid hbel
      have hi1 : (0 : Int) ≤ (k : Int) := by omega
      have hi2 : (k : Int) < (z : Int) := by omega
      have hi3 : (0 : Int) ≤ (q : Int) := by omega
      have hi4 : (q : Int) < (n : Int) := by omega
      clear ho hbel href htk hall hmem
      cases hS : S q with
      | true =>
        rw [hS] at hcq
        have HS := Lib.hid hS
        clear hS
        go_wp2_with fail
        go_quiet (fail)
        go_wp2_with fail
        go_roundw
        case rel => exact ⟨k + 1, by omega, by go_num, fun y hy => by
          rw [HTK.out] at hy
          rcases List.mem_append.1 hy with hy | hy
          · exact HALL.out y hy
          · rw [List.mem_singleton.1 hy]; exact HS.out, below_drewN HBEL.out _⟩
        case measure => simp [intOf]; omega
      | false =>
        rw [hS] at hcq
        have hVf : V = false := by
          rw [← HV.out, List.all_eq_false]
          exact ⟨q, HMEM.out, by simp [hS]⟩
        clear hS
        subst hVf
        go_wp2_with fail
        go_quiet (fail)
        go_wp2_with fail
        go_ret
        exact ⟨rfl, HX2.out.trans ((below_drewN HBEL.out _).mono HX2.out.size)⟩
    · obtain rfl : z = k := by omega
      rw [List.take_of_length_le (by rw [HZ.out]; exact Nat.le_refl _)] at hall
      have hVt : V = true := by rw [← HV.out, List.all_eq_true]; exact hall
      have HBEL := Lib.hid hbel
      clear hall hbel href
      subst hVt
      go_wp2
      go_ret
      exact ⟨rfl, HX2.out.trans (HBEL.out.mono HX2.out.size)⟩
end Go.Proofs.Ytjahlachoabmkaa
