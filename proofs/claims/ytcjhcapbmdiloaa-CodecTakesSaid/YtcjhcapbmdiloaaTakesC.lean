/- CodecTakes' walk. No statement of the seat is proved here. -/
import Derived.Test.YtcjhcapbmdiloaaTakesB
namespace Go.Proofs.Ytcjhcapbmdiloaa
open Go.RowKit

/-- Behind the loop that writes over the given bytes: the reader and the reference's stand at the first byte. -/
theorem after_xor {w w2 w3 wr : World} {g1 c0 : Nat} {A0 : Option Addr} {l : List UInt8} {vb : Option Nat} (hA : Rd w w.heap.size A0 l) (hc0 : l.length ≤ c0) (hl : l.length ≤ 100000)
    (hb2 : Below w.heap.size w w2) (hb3 : Below w2.heap.size w2 w3) (hg1 : w2.heap.size ≤ g1) (hnf : NewFar w2 w3 g1 l) (hvb : ∀ k, vb = some k → w.heap.size ≤ k ∧ k < w2.heap.size)
    (hg : (w3.alloc (.cells #[Value.slice A0 l.length c0, .int .i64 0, .int .i64 0] 29)).grownBy wr vb) :
    Rdr wr g1 (l.drop 0) 0 ∧ Ref wr w3.heap.size A0 c0 l 0 0 ∧ Below w.heap.size w wr ∧ w.heap.size ≤ g1 := by
  have hs2 := hb2.size
  have hs3 := hb3.size
  have hw3 : Below w.heap.size w w3 := hb2.trans (hb3.mono hs2)
  have hw4 := hw3.alloc hw3.size (.cells #[Value.slice A0 l.length c0, .int .i64 0, .int .i64 0] 29)
  have hb : Below w.heap.size w wr := hw4.grown hg hw4.size (fun k hk => (hvb k hk).1)
  refine ⟨hnf wr fun j h1 h2 => ?_, ⟨?_, Nat.zero_le _, hl, hc0, (hA.below hb).more hw3.size⟩, hb, Nat.le_trans hs2 hg1⟩
  · rw [hg.block j (by simp; omega) (fun e => by have := (hvb j e.symm).2; omega)]
    exact Below.heap_alloc _ _ _ h2
  · have hn : Blk (w3.alloc (.cells #[Value.slice A0 l.length c0, .int .i64 0, .int .i64 0] 29)) w3.heap.size 29 #[Value.slice A0 l.length c0, .int .i64 0, .int .i64 0] := Blk.new _ _ _
    exact hn.same (hg.block _ hn.lt (fun e => by have := (hvb _ e.symm).2; omega))

theorem ownsRow_addr {w : World} {base : Nat} {A : Option Addr} {n c : Nat} {xs : List Value} (h : w.ownsRow base 5 1 (.slice A n c) n xs) (hn : 0 < n) : ∃ g, A = some ⟨g, 0, none⟩ ∧ n ≤ c := by
  rcases h.2 with ⟨_, h0⟩ | ⟨g, cap, cur, hv, _, _, hnc, _⟩
  · omega
  · injection hv with hA _ hc
    exact ⟨g, hA, by omega⟩

theorem Rdr.far_ref {w w' : World} {g g2 c i : Nat} {A : Option Addr} {l l2 : List UInt8} {f f2 : Int} (h : Rdr w g l f) (h' : Ref w g2 A c l2 i f2) (hb : w.grownBy w' (some g2)) : Rdr w' g l f := by
  obtain ⟨A', c', h1, h2, h3, h4⟩ := h
  have k1 := h'.1
  have hne : g ≠ g2 := by
    rintro rfl
    unfold Blk at h1 k1
    rw [h1] at k1
    simp at k1
  refine ⟨A', c', h1.same (hb.block g h1.lt (by simpa using hne)), h2, h3, fun hn => ?_⟩
  obtain ⟨gb, off, cur, e, hc, hr⟩ := h4 hn
  refine ⟨gb, off, cur, e, hc.same (hb.block gb hc.lt ?_), hr⟩
  rintro ⟨⟩
  unfold Blk at hc k1
  rw [hc] at k1
  simp at k1

/-- Where both readers stand, and how the world stands to the first one. -/
def Both (w wr : World) (g1 g2 c0 : Nat) (A0 : Option Addr) (l : List UInt8) (i : Nat) (f : Int) : Prop := Rdr wr g1 (l.drop i) f ∧ Ref wr g2 A0 c0 l i f ∧ Below w.heap.size w wr

/-- Behind the first of the two calls: the reference's reader is as it was. -/
theorem both_first {w wr w5 : World} {g1 g2 c0 i : Nat} {A0 : Option Addr} {l : List UInt8} {f : Int} (hA : Rd w w.heap.size A0 l) (hb : Both w wr g1 g2 c0 A0 l i f) (h1 : w.heap.size ≤ g1) (h2 : w.heap.size ≤ g2)
    (hg : wr.drew.grownBy w5 (some g1)) : Ref w5 g2 A0 c0 l i f := by
  have hR := hb.1
  have hF := hb.2.1
  have hne : g2 ≠ g1 := by
    rintro rfl
    obtain ⟨_, _, k1, _⟩ := hR
    have k2 := hF.1
    unfold Blk at k1 k2
    rw [k1] at k2
    simp at k2
  exact Ref.far (w := wr.drew) (show Ref wr.drew g2 A0 c0 l i f from hF) hg hne (show Rd wr.drew w.heap.size A0 l from hA.below hb.2.2.drew) h1 hb.2.2.size h2
theorem both_second {w wr w5 w6 : World} {g1 g2 c0 i i2 : Nat} {A0 : Option Addr} {l L : List UInt8} {f F : Int} (hb : Both w wr g1 g2 c0 A0 l i f) (h1 : w.heap.size ≤ g1) (h2 : w.heap.size ≤ g2)
    (hg : wr.drew.grownBy w5 (some g1)) (hr5 : Rdr w5 g1 L F) (hf5 : Ref w5 g2 A0 c0 l i f) (hf6 : Ref w6 g2 A0 c0 l i2 F) (hd : l.drop i2 = L) (hg6 : w5.grownBy w6 (some g2)) :
    Both w w6 g1 g2 c0 A0 l i2 F := by
  have hb5 : Below w.heap.size w w5 := hb.2.2.drew.grown hg hb.2.2.size (fun k hk => by injection hk with hk; omega)
  exact ⟨by rw [hd]; exact hr5.far_ref hf5 hg6, hf6, hb5.grown hg6 hb5.size (fun k hk => by injection hk with hk; omega)⟩

set_option maxRecDepth 100000 in
set_option maxHeartbeats 4000000 in
theorem takes_walk (A0 T0 : Option Addr) (c0 d0 : Nat) (l : List UInt8) (ts : List (Bool × Int)) (w : World)
    (hA : Rd w w.heap.size A0 l) (hT : RdV w w.heap.size T0 (tv ts)) (hc0 : l.length ≤ c0) (hd0 : ts.length ≤ d0) (hd0m : d0 ≤ maxLen) (hm : ∀ t ∈ ts, t.2 ≤ 9223372036854775807) :
    Calls Try.prog 3 #[.slice A0 l.length c0, .slice T0 ts.length d0] w fun e w' => e = .returned (.bool true) ∧ Below w.heap.size w w' := by
  by_cases hlong : 100000 < l.length
  · have h1 : (100000 : Int) < (l.length : Int) := by omega
    clear hA hT hc0 hd0 hm
    go_enter Try.func3, Try.ntmps3
    go_wp2_with fail
    refine (shown_any _).mono ?_
    rintro e w1 ⟨rfl, hb1⟩
    go_wp2_with fail
    go_ret
    exact ⟨rfl, hb1⟩
  · have h1 : ¬ (100000 : Int) < (l.length : Int) := by omega
    have h1' : (l.length : Int) ≤ 100000 := by omega
    have htl : (ts.length : Int) ≤ 9223372036854775807 := by unfold maxLen at hd0m; omega
    obtain ⟨i0, hi, hz0, hz1, hz2⟩ := info_parts info_u8
    clear hd0m
    go_enter Try.func3, Try.ntmps3
    go_wp2_with fail
    refine (shown_any _).mono ?_
    rintro e w1 ⟨rfl, hb1⟩
    have hblk : Below w.heap.size w (w1.alloc (.cells #[] 5)) := hb1.alloc hb1.size _
    have hown0 : (w1.alloc (.cells #[] 5)).ownsRow w.heap.size 5 1 (.slice (some ⟨w1.heap.size, 0, none⟩) 0 0) 0 [] := World.ownsRow_lit w1 #[] 0 hb1.size (by simp [maxLen]) rfl
    have hrd1 : Rd (w1.alloc (.cells #[] 5)) w.heap.size A0 l := hA.below hblk
    go_wp2_with (at_builtin; refine wpList_append_rd _ rfl (.tmp 17) (.tmp 18) 22 rfl w.heap.size 5 i0 Try.underlying22 hi hz0 hz1 hz2 (.slice (some ⟨w1.heap.size, 0, none⟩) 0 0) rfl hown0 w.heap.size A0 c0 l rfl hrd1 (by omega) (by have := hblk.size; omega) ?_; intro A2 c2 w2 ho2 hg2)
    have hb2 : Below w.heap.size w w2 := hblk.grown hg2 hblk.size (fun g hg => (hown0.lt g hg).1)
    have CN := Lib.hid (new_far A2 l c2 w2 (Rd.of_own ho2) (by omega))
    clear hg2 hrd1 hown0 hblk hb1 hi hz0 hz1 hz2
    refine CN.out.mono ?_
    clear CN
    rintro e w3 ⟨g1, rfl, hg1, hnf, hb3, hg1lt⟩
    have ho3 := ownsRow_below ho2 hb3
    have hlt2 := ho2.lt
    have hbw3 : Below w.heap.size w w3 := hb2.trans (hb3.mono hb2.size)
    have HNF := Lib.hid hnf
    have HB2 := Lib.hid hb2
    have HB3 := Lib.hid hb3
    have HLT := Lib.hid hlt2
    clear hnf hb2 hb3 ho2 hlt2
    have ho3 : ∃ vs : List Int, vs.length = l.length ∧ (w3.alloc (.cells #[Value.slice A0 l.length c0, .int .i64 0, .int .i64 0] 29)).ownsRow w.heap.size 5 1 (.slice A2 l.length c2) l.length (vs.map (Value.int .u8)) :=
      ⟨l.map fun b => (b.toNat : Int), by simp, by rw [show (l.map fun b => (b.toNat : Int)).map (Value.int .u8) = bv l by simp [bv]]; exact ho3.alloc _⟩
    go_wp2_with fail
    go_loopw [28] (fun i wr => ∃ k : Nat, k ≤ l.length ∧ i = .int .i64 k ∧ (∃ vs : List Int, vs.length = l.length ∧ wr.ownsRow w.heap.size 5 1 (.slice A2 l.length c2) l.length (vs.map (Value.int .u8))) ∧
        (w3.alloc (.cells #[Value.slice A0 l.length c0, .int .i64 0, .int .i64 0] 29)).grownBy wr (Value.slice A2 l.length c2).ownBlock)
      (fun i _ => l.length - (intOf i).toNat)
    case atStart => exact ⟨0, Nat.zero_le _, rfl, ho3, World.grownBy.refl _ _⟩
    case round =>
      clear ho3
      obtain ⟨k, hk, rfl, ⟨vs, hvs, hown⟩, hgr⟩ := hrel
      by_cases hlt : k < l.length
      · obtain ⟨gv, rfl, hlc⟩ := ownsRow_addr hown (by omega)
        have hcell : wr.cell? ⟨gv, k, none⟩ = some (.int .u8 (vs[k]'(by omega))) := by
          rw [hown.cellAt k (by omega)]; simp [show k < vs.length by omega]
        have hfr := hown.frozenAt k
        have ST := fun y => Lib.hid (hown.stored k (.int .u8 y))
        have HG := Lib.hid hgr
        clear hown hgr
        generalize (vs[k]'(by omega)) = x at hcell
        go_wp2_with fail
        exact ⟨⟨k + 1, by omega, by go_num, ⟨vs.set k _, by simp [hvs], by rw [List.map_set]; exact (ST _).out.1⟩, HG.out.trans (ST _).out.2⟩, by simp [intOf]; omega⟩
      · obtain rfl : k = l.length := by omega
        obtain ⟨hr, hf, hbel, hwg1⟩ := after_xor hA hc0 (by omega) HB2.out HB3.out hg1 HNF.out HLT.out hgr
        have hw3s : w.heap.size ≤ w3.heap.size := hbw3.size
        clear hown hgr hk hlt hvs HNF HLT HB2 HB3 hbw3
        go_wp2_with fail
        go_loopw [40] (fun j wr => ∃ (k i : Nat) (f : Int), k ≤ ts.length ∧ j = .int .i64 k ∧ Rdr wr g1 (l.drop i) f ∧ Ref wr w3.heap.size A0 c0 l i f ∧ Below w.heap.size w wr)
          (fun j _ => ts.length - (intOf j).toNat)
        case atStart => exact ⟨0, 0, 0, Nat.zero_le _, rfl, hr, hf, hbel⟩
        case round =>
          clear hr hf hbel
          obtain ⟨k, i, f, hk, rfl, hr, hf, hbel⟩ := hrel
          by_cases hlt : k < ts.length
          · by_cases hbig : 1000 ≤ k
            · have hbig' : (1000 : Int) ≤ (k : Int) := by omega
              clear hr hf hA hT
              go_wp2_with fail
              go_ret
              exact ⟨rfl, hbel⟩
            · have hbig' : ¬ (1000 : Int) ≤ (k : Int) := by omega
              obtain ⟨gT, off, b, m, rfl, hgT, HT, hcb, hcm⟩ := at_t hT hbel hlt
              rw [Nat.mul_comm 2 k] at hcb hcm
              rw [← Nat.add_assoc] at hcm
              have hmm : m ≤ 9223372036854775807 := by
                have := hm _ (List.getElem_mem hlt); rw [← HT.out] at this; exact this
              have hik : (k : Int) < (ts.length : Int) := by omega
              have hik0 : (0 : Int) ≤ (k : Int) := by omega
              have BOTH := Lib.hid (show Both w wr g1 w3.heap.size c0 A0 l i f from ⟨hr, hf, hbel⟩)
              have SR := fun w5 hg5 => Lib.hid (both_first (w5 := w5) hA BOTH.out hwg1 hw3s hg5)
              have KC := fun w5 (hg5 : wr.drew.grownBy w5 (some g1)) => Lib.hid (show w5.cell? ⟨gT, off + k * 2 + 1, none⟩ = some (.int .i64 m) from hg5.cell (show wr.drew.cell? _ = _ from hcm) (by simp; omega))
              have CT := Lib.hid (rtext_any g1 (l.drop i) f m wr.drew (show Rdr wr.drew g1 (l.drop i) f from hr) hmm)
              have CG := Lib.hid (get_any g1 (l.drop i) f m wr.drew (show Rdr wr.drew g1 (l.drop i) f from hr))
              clear hr hf hbel hA hT hm
              go_upto_if 49 with fail
              go_cut [11] (fun s11 wx => s11 = .bool true ∧ ∃ (i : Nat) (f : Int), Both w wx g1 w3.heap.size c0 A0 l i f)
              case first =>
                cases b
                · go_wp2_with fail
                  go_region_with (first
                    | (go_at_call 12; refine CG.out.mono ?_; rintro e w5 ⟨rfl, hr5, hg5⟩; have hcm5 := (KC w5 hg5).out; have hf5 := SR w5 hg5)
                    | (go_at_call 13; refine (rget_any _ _ _ _ _ _ _ w5 hf5.out).mono ?_; rintro e w6 ⟨rfl, ⟨i2, hf6, hd6⟩, hg6⟩; have B6 := Lib.hid (both_second BOTH.out hwg1 hw3s hg5 hr5 hf5.out hf6 hd6 hg6); clear hf6 hd6 hg6))
                  all_goals go_wp2_with fail
                  all_goals go_meet
                  all_goals exact ⟨rfl, i2, _, B6.out⟩
                · go_wp2_with fail
                  go_region_with (first
                    | (go_at_call 10; refine CT.out.mono ?_; rintro e w5 ⟨rfl, hr5, hg5⟩; have hcm5 := (KC w5 hg5).out; have hf5 := SR w5 hg5)
                    | (go_at_call 11; refine (rrtext_any _ _ _ _ _ _ _ w5 hf5.out hmm).mono ?_; rintro e w6 ⟨rfl, ⟨i2, hf6, hd6⟩, hg6⟩; have B6 := Lib.hid (both_second BOTH.out hwg1 hw3s hg5 hr5 hf5.out hf6 hd6 hg6); clear hf6 hd6 hg6))
                  all_goals go_wp2_with fail
                  all_goals go_meet
                  all_goals exact ⟨rfl, i2, _, B6.out⟩
              case rest =>
                obtain ⟨rfl, i2, f2, hboth⟩ := hcut
                clear BOTH SR KC CT CG HT hcb hcm
                have hi2 := hboth.2.1.2.1
                have hk1 := hboth.2.1.1.cell 1
                have hk2 := hboth.2.1.1.cell 2
                have CL := fun q => Lib.hid (left_lit g1 (l.drop i2) f2 ((l.length : Int) - (i2 : Int)) (wc.drewN q) (show Rdr (wc.drewN q) g1 (l.drop i2) f2 from hboth.1) (by rw [List.length_drop]; omega))
                have CF := fun q => Lib.hid (fault_any g1 (l.drop i2) f2 (wc.drewN q) (show Rdr (wc.drewN q) g1 (l.drop i2) f2 from hboth.1))
                have CE := fun q => Lib.hid (end_any g1 (l.drop i2) f2 (wc.drewN q) (show Rdr (wc.drewN q) g1 (l.drop i2) f2 from hboth.1))
                have CR := fun q => Lib.hid (rend_any w3.heap.size c0 i2 A0 l f2 (wc.drewN q) (show Ref (wc.drewN q) w3.heap.size A0 c0 l i2 f2 from hboth.2.1))
                have HBO := Lib.hid hboth
                have hii : (i2 : Int) ≤ (l.length : Int) := by omega
                have s1 : IntKind.i64.wrap ((l.length : Int) - (i2 : Int)) = (l.length : Int) - (i2 : Int) := by rw [IntKind.wrap_i64]; omega
                clear hboth
                go_wp2_with fail
                go_quiet ((first
                  | (go_at_call 14; exact quiet_left (CL _).out)
                  | (go_at_call 15; exact quiet_left (CF _).out)
                  | (go_at_call 16; exact quiet_left (CE _).out)
                  | (go_at_call 17; exact Calls.quiet_of (CR _).out)))
                go_wp2_with fail
                exact ⟨⟨k + 1, i2, f2, by omega, by go_num, HBO.out.1, HBO.out.2.1, ⟨HBO.out.2.2.os, HBO.out.2.2.tape, HBO.out.2.2.output, HBO.out.2.2.size, HBO.out.2.2.block⟩⟩, by simp [intOf]; omega⟩
          · clear hr hf hA hT
            go_wp2_with fail
            go_ret
            exact ⟨rfl, hbel⟩
end Go.Proofs.Ytcjhcapbmdiloaa
