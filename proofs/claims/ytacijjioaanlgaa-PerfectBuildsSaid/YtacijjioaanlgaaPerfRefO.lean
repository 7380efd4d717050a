/- The contract of the reference's order for package perfect. No statement of the seat is proved here. -/
import Derived.Test.YtacijjioaanlgaaPerfRefF
namespace Go.Proofs.Ytacijjioaanlgaa
open Go.RowKit Go.Maps Go.Sort
set_option linter.unusedVariables false

/-- The greatest of the first j. -/
def mxl (cnt : Nat → Nat) : Nat → Nat
  | 0 => 0
  | j + 1 => max (mxl cnt j) (cnt j)
theorem mxl_le {cnt : Nat → Nat} {N : Nat} (h : ∀ i, cnt i ≤ N) : ∀ j, mxl cnt j ≤ N
  | 0 => Nat.zero_le _
  | j + 1 => Nat.max_le.2 ⟨mxl_le h j, h j⟩
theorem le_mxl {cnt : Nat → Nat} : ∀ {j i : Nat}, i < j → cnt i ≤ mxl cnt j
  | 0, i, h => absurd h (by omega)
  | j + 1, i, h => by
    rw [mxl]
    rcases Nat.lt_or_ge i j with h1 | h1
    · exact Nat.le_trans (le_mxl h1) (Nat.le_max_left _ _)
    · obtain rfl : i = j := by omega
      exact Nat.le_max_right _ _
/-- The groups that have more than q keys, in their order. -/
structure OS (cnt : Nat → Nat) (G q : Nat) (O : List Nat) : Prop where
  pair : O.Pairwise (ahead2 cnt)
  mem : ∀ i, i ∈ O ↔ i < G ∧ q < cnt i
  len : O.length + q * G ≤ 268435456
def lvl (cnt : Nat → Nat) (O : List Nat) (q j : Nat) : List Nat := O ++ (List.range j).filter fun i => decide (cnt i = q)
theorem lvl_zero (cnt : Nat → Nat) (O : List Nat) (q : Nat) : lvl cnt O q 0 = O := by simp [lvl]
theorem lvl_succ (cnt : Nat → Nat) (O : List Nat) (q j : Nat) : lvl cnt O q (j + 1) = lvl cnt O q j ++ (if cnt j = q then [j] else []) := by
  unfold lvl
  rw [List.range_succ, List.filter_append, List.append_assoc]
  congr 2
  simp only [List.filter_cons, List.filter_nil, decide_eq_true_eq]
theorem lvl_length (cnt : Nat → Nat) (O : List Nat) (q j : Nat) : (lvl cnt O q j).length ≤ O.length + j := by
  have : ((List.range j).filter fun i => decide (cnt i = q)).length ≤ j := Nat.le_trans (List.length_filter_le _ _) (by simp)
  rw [lvl, List.length_append]; omega
theorem OS.step {cnt : Nat → Nat} {G q : Nat} {O : List Nat} (h : OS cnt G q O) (hq : 0 < q) : OS cnt G (q - 1) (lvl cnt O q G) := by
  unfold lvl
  refine ⟨List.pairwise_append.2 ⟨h.pair, ?_, fun a ha b hb => ?_⟩, fun i => ?_, ?_⟩
  · have h1 : ((List.range G).filter fun i => decide (cnt i = q)).Pairwise (· < ·) := List.Pairwise.filter _ List.pairwise_lt_range
    refine List.Pairwise.imp_of_mem (fun {a b} ha hb hab => ?_) h1
    have e1 : cnt a = q := by simpa using (List.mem_filter.1 ha).2
    have e2 : cnt b = q := by simpa using (List.mem_filter.1 hb).2
    exact .inr ⟨by omega, hab⟩
  · have e1 := ((h.mem a).1 ha).2
    have e2 : cnt b = q := by simpa using (List.mem_filter.1 hb).2
    exact .inl (by omega)
  · rw [List.mem_append, h.mem, List.mem_filter, List.mem_range, decide_eq_true_eq]
    omega
  · have h1 : ((List.range G).filter fun i => decide (cnt i = q)).length ≤ G := Nat.le_trans (List.length_filter_le _ _) (by simp)
    have := h.len
    obtain ⟨t, rfl⟩ : ∃ t, q = t + 1 := ⟨q - 1, by omega⟩
    rw [Nat.succ_mul] at this
    rw [List.length_append, Nat.add_sub_cancel]
    omega
set_option maxRecDepth 100000 in
set_option maxHeartbeats 2000000 in
theorem rorder_any (ab G N : Nat) (hG : G ≤ 16384) (hN : N ≤ 16384) (cnt : Nat → Nat) (hc : ∀ i, cnt i ≤ N) (ad : Nat → Option Addr) (cp : Nat → Nat) (w : World) (hab : ab < w.heap.size) (hcell : ∀ i, i < G → w.cell? ⟨ab, i, none⟩ = some (.slice (ad i) (cnt i) (cp i))) :
    Calls Try.prog 26 #[.slice (some ⟨ab, 0, none⟩) G G] w fun e w' => ∃ A' c' O, e = .returned (.slice A' O.length c') ∧ OwnI w' w.heap.size A' c' O ∧ Ord cnt G O ∧ Below w.heap.size w w' := by
  obtain ⟨i0, hi0, hz0, hz1, hz2⟩ := info_parts info_i64
  have HI := Lib.hid (And.intro hi0 (And.intro hz0 (And.intro hz1 hz2)))
  have HC := Lib.hid hcell
  have HCN := Lib.hid hc
  clear hi0 hz0 hz1 hz2 hcell hc
  go_enter Try.func26, Try.ntmps26
  go_wp2_with fail
  go_loop [4, 5] (fun t i => ∃ j : Nat, j ≤ G ∧ i = .int .i64 j ∧ t = .int .i64 (mxl cnt j : Nat)) (fun _ i => G - (intOf i).toNat)
  case atStart => exact ⟨0, Nat.zero_le _, rfl, rfl⟩
  case round =>
    obtain ⟨j, hj, rfl, rfl⟩ := hrel
    by_cases hlt : j < G
    · have hcj := HC.out j hlt
      have HMX := Lib.hid (show max ((mxl cnt j : Nat) : Int) (cnt j : Int) = ((mxl cnt (j + 1) : Nat) : Int) by rw [mxl]; omega)
      have hr1 : (0 : Int) ≤ (j : Int) := by omega
      have hr2 : (j : Int) < (G : Int) := by omega
      go_wp2_with fail
      go_round
      case rel => exact ⟨j + 1, by omega, by go_num, by rw [HMX.out]⟩
      case measure => simp [intOf]; omega
    · obtain rfl : G = j := by omega
      have hmN := mxl_le HCN.out G
      have HLE := Lib.hid (show ∀ i, i < G → cnt i ≤ mxl cnt G from fun i hi => le_mxl hi)
      generalize mxl cnt G = most at *
      have HOS := Lib.hid (show OS cnt G most [] from ⟨List.Pairwise.nil, fun i => ⟨fun h => by simp at h, fun h => by have := HLE.out i h.1; omega⟩, by
        have := Nat.mul_le_mul (Nat.le_trans hmN hN) hG
        simpa using this⟩)
      go_wp2_with fail
      go_loopw [3, 6] (fun o i wr => ∃ (q : Nat) (A' : Option Addr) (c' : Nat) (O : List Nat), q ≤ most ∧ i = .int .i64 q ∧ o = .slice A' O.length c' ∧ Hid (OS cnt G q O) ∧ OwnI wr w.heap.size A' c' O ∧ Below w.heap.size w wr) (fun _ i _ => (intOf i).toNat)
      case atStart => exact ⟨most, none, 0, [], Nat.le_refl _, rfl, rfl, HOS, World.ownsRow_nil _ _ _ _, Below.refl _ _⟩
      case round =>
        clear HOS
        obtain ⟨q, A', c', O, hq, rfl, rfl, hos, hown, hbel⟩ := hrel
        by_cases hq0 : 0 < q
        · have HOWN := Lib.hid hown
          have HBEL := Lib.hid hbel
          have hlen := hos.out.len
          have hqi : (0 : Int) < (q : Int) := by omega
          have hqN : q ≤ 16384 := by omega
          have hol : O.length ≤ 268435456 - G := by
            obtain ⟨t, rfl⟩ : ∃ t, q = t + 1 := ⟨q - 1, by omega⟩
            rw [Nat.succ_mul] at hlen; omega
          clear hown hbel hlen
          go_wp2_with fail
          go_loopw [3, 7] (fun o i wr => ∃ (j : Nat) (A' : Option Addr) (c' : Nat), j ≤ G ∧ i = .int .i64 j ∧ o = .slice A' (lvl cnt O q j).length c' ∧ OwnI wr w.heap.size A' c' (lvl cnt O q j) ∧ Below w.heap.size w wr) (fun _ i _ => G - (intOf i).toNat)
          case atStart => exact ⟨0, A', c', Nat.zero_le _, rfl, by rw [lvl_zero], by rw [lvl_zero]; exact HOWN.out, HBEL.out⟩
          case round =>
            clear HOWN HBEL
            obtain ⟨j, A2, c2, hj, rfl, rfl, hown, hbel⟩ := hrel
            by_cases hlt : j < G
            · have HSY := Lib.hid (show cnt j = q → lvl cnt O q (j + 1) = lvl cnt O q j ++ [j] from fun h => by rw [lvl_succ, if_pos h])
              have HSN := Lib.hid (show ¬ cnt j = q → lvl cnt O q (j + 1) = lvl cnt O q j from fun h => by rw [lvl_succ, if_neg h, List.append_nil])
              have hLL : (lvl cnt O q j).length ≤ 268435456 := Nat.le_trans (lvl_length cnt O q j) (by omega)
              generalize lvl cnt O q j = L at *
              obtain ⟨u, hu⟩ : ∃ u, L.length = u := ⟨_, rfl⟩
              have HU := Lib.hid hu
              rw [hu] at hLL ⊢
              have hcj : wr.cell? ⟨ab, j, none⟩ = some (.slice (ad j) (cnt j) (cp j)) := by rw [hbel.cell (p := ⟨ab, j, none⟩) hab]; exact HC.out j hlt
              have hr1 : (0 : Int) ≤ (j : Int) := by omega
              have hr2 : (j : Int) < (G : Int) := by omega
              have HOWN := Lib.hid hown
              have HBEL := Lib.hid hbel
              clear hown hu
              obtain ⟨C, hC⟩ : ∃ C, cnt j = C := ⟨_, rfl⟩
              rw [hC] at hcj HSN HSY
              have hCN : C ≤ N := hC ▸ HCN.out j
              clear hC
              by_cases hCq : C = q
              · have HSZ := Lib.hid (HSY.out hCq)
                clear HSN HSY
                subst hCq
                have HOWN2 := Lib.hid (show (wr.alloc (.cells #[.int .i64 (j : Nat)] 3)).ownsRow w.heap.size 3 1 (.slice A2 u c2) u (ivs L) by
                  have := World.ownsRow.alloc HOWN.out (.cells #[.int .i64 (j : Nat)] 3)
                  rw [HU.out] at this
                  exact this)
                have HBA := Lib.hid (HBEL.out.alloc HBEL.out.size (.cells #[.int .i64 (j : Nat)] 3))
                clear hbel
                go_wp2_with (at_builtin; refine wpList_append_own _ rfl (.tmp 39) (.tmp 41) 38 rfl w.heap.size 3 i0 _ 1 8 Try.underlying38 HI.out.1 HI.out.2.1 HI.out.2.2.1 HI.out.2.2.2 rfl (by omega) (.slice A2 u c2) u (ivs L) rfl HOWN2.out ⟨wr.heap.size, 0, none⟩ 1 1 [.int .i64 (j : Nat)] rfl rfl (by intro t v hv; rw [Addr.add_lit, (Blk.new wr 3 #[.int .i64 (j : Nat)]).cell, Nat.zero_add, List.getElem?_toArray]; exact hv) (by intro v hv; rw [List.mem_singleton.1 hv]; rfl) (by unfold maxLen; omega) (by omega) HBA.out.size ?_; intro v3 w3 hown3 hgrow3 hnil3; clear hnil3; have H3 := Lib.hid (And.intro hown3 hgrow3); clear hown3 hgrow3)
                obtain ⟨A3, c3, hv3⟩ : ∃ A3 c3, v3 = .slice A3 (u + 1) c3 := by
                  rcases H3.out.1.2 with ⟨hv, h0⟩ | ⟨g3, cp, cur, hv, _⟩
                  · omega
                  · exact ⟨_, _, hv⟩
                subst hv3
                go_roundw
                case rel =>
                  refine ⟨j + 1, A3, c3, by omega, by go_num, ?_, ?_, HBA.out.grown H3.out.2 HBA.out.size (fun k e => (World.ownsRow.lt HOWN2.out k e).1)⟩
                  · rw [HSZ.out, List.length_append, HU.out]; rfl
                  · rw [HSZ.out]
                    show w3.ownsRow _ _ _ (.slice A3 (L ++ [j]).length c3) (L ++ [j]).length _
                    rw [List.length_append, HU.out, ivs_snoc]
                    exact H3.out.1
                case measure => simp [intOf]; omega
              · have HSN := Lib.hid (HSN.out hCq)
                clear HSY
                have hne : ¬ (C : Int) = (q : Int) := by omega
                have hne2 : ((C : Int) == (q : Int)) = false := by simpa using hne
                clear hbel
                go_wp2_with fail
                go_roundw
                case rel => exact ⟨j + 1, A2, c2, by omega, by go_num, by rw [HSN.out, HU.out], by rw [HSN.out]; exact HOWN.out, HBEL.out⟩
                case measure => simp [intOf]; omega
            · obtain rfl : G = j := by omega
              have HST := Lib.hid (hos.out.step hq0)
              generalize lvl cnt O q G = L at *
              have HOWN := Lib.hid hown
              have HBEL := Lib.hid hbel
              clear hown hbel
              go_wp2_with fail
              go_roundw
              case rel => exact ⟨q - 1, A2, c2, L, by omega, by congr 1; omega, rfl, HST, HOWN.out, HBEL.out⟩
              case measure => simp [intOf]; try omega
        · obtain rfl : q = 0 := by omega
          have HOWN := Lib.hid hown
          have HBEL := Lib.hid hbel
          have HORD := Lib.hid (show Ord cnt G O from ⟨hos.out.pair, hos.out.mem⟩)
          clear hown hbel
          go_wp2_with fail
          go_ret
          exact ⟨A', c', O, rfl, HOWN.out, HORD.out, HBEL.out⟩
end Go.Proofs.Ytacijjioaanlgaa
