/- The contract of the reference's fits for package perfect. No statement of the seat is proved here. -/
import Derived.Test.YtacijjioaanlgaaPerfRefG
namespace Go.Proofs.Ytacijjioaanlgaa
open Go.RowKit Go.Maps Go.Sort
set_option linter.unusedVariables false

theorem info_i64 : (Try.prog.info? 3).map (fun i => (i.zero, i.size, i.bytes)) = some (some (.int .i64 0), 1, 8) := by kernel_rfl
/-- Numbers in cells. -/
def ivs (l : List Nat) : List Value := l.map fun p => .int .i64 (p : Nat)
theorem ivs_length (l : List Nat) : (ivs l).length = l.length := by simp [ivs]
theorem ivs_get {l : List Nat} {j : Nat} (h : j < l.length) : (ivs l)[j]? = some (.int .i64 (l[j] : Nat)) := by simp [ivs, h]
theorem ivs_snoc (l : List Nat) (p : Nat) : ivs (l ++ [p]) = ivs l ++ [.int .i64 (p : Nat)] := by simp [ivs]
/-- A slice of numbers of the call's own. -/
abbrev OwnI (w : World) (B : Nat) (A : Option Addr) (c : Nat) (l : List Nat) : Prop := w.ownsRow B 3 1 (.slice A l.length c) l.length (ivs l)
theorem OwnI.at_ {w : World} {B c : Nat} {A : Option Addr} {l : List Nat} (h : OwnI w B A c l) {j : Nat} (hj : j < l.length) : ∃ g, A = some ⟨g, 0, none⟩ ∧ B ≤ g ∧ g < w.heap.size ∧ w.cell? ⟨g, j, none⟩ = some (.int .i64 (l[j] : Nat)) := by
  rcases h.2 with ⟨_, h0⟩ | ⟨g, cap, cur, hv, hB, hh, hnc, _, hcs, ht⟩
  · omega
  · injection hv with hA _ _
    refine ⟨g, hA, hB, (Array.getElem?_eq_some_iff.1 hh).1, ?_⟩
    have h1 := ivs_get hj
    rw [← ht, List.getElem?_take] at h1
    split at h1
    · rw [cell_of_row w g j cur _ (0, 0) hh]
      simpa using h1
    · cases h1
theorem OwnI.cap {w : World} {B c : Nat} {A : Option Addr} {l : List Nat} (h : OwnI w B A c l) : l.length ≤ c ∧ c ≤ maxLen := by
  rcases h.2 with ⟨hv, h0⟩ | ⟨g, cp, cur, hv, _, _, h1, h2, _⟩
  · injection hv with _ _ hv
    rw [hv, h0]
    exact ⟨Nat.le_refl _, by simp [maxLen]⟩
  · injection hv with _ _ hv
    rw [hv]
    exact ⟨h1, h2⟩
set_option maxRecDepth 100000 in
set_option maxHeartbeats 2000000 in
theorem rfits_any (d n c m : Nat) (hd : d < 65536) (hn0 : 0 < n) (hn : n ≤ 16384) (A : Option Addr) (ks : List KeyT) (hl : ks.length = m) (hc : m ≤ c) (hm : m ≤ 16384) (u : Nat) (U : Nat → Bool) (w : World) (hr : RdK w w.heap.size A ks) (hu : Used w u n U) :
    Calls Try.prog 27 #[.slice A m c, .int .u64 d, .int .i64 n, .slice (some ⟨u, 0, none⟩) n n] w fun e w' =>
      ((Fits U (posL n d ks) ∧ ∃ A' c', e = .returned (.tuple #[.slice A' m c', .bool true]) ∧ OwnI w' w.heap.size A' c' (posL n d ks)) ∨ (¬ Fits U (posL n d ks) ∧ e = .returned (.tuple #[.slice none 0 0, .bool false]))) ∧ Below w.heap.size w w' := by
  obtain ⟨i0, hi0, hz0, hz1, hz2⟩ := info_parts info_i64
  have HI := Lib.hid (And.intro hi0 (And.intro hz0 (And.intro hz1 hz2)))
  have HL := Lib.hid hl
  have HR := Lib.hid hr
  have HU := Lib.hid hu
  obtain ⟨fs, hfs⟩ := key_desc
  have HF := Lib.hid hfs
  have hul := Blk.lt hu
  clear hl hr hu hfs hi0 hz0 hz1 hz2
  go_enter Try.func27, Try.ntmps27
  go_wp2_with fail
  go_loopw [10, 11] (fun o i wr => ∃ (j : Nat) (A' : Option Addr) (c' : Nat), j ≤ m ∧ i = .int .i64 j ∧ o = .slice A' j c' ∧ Hid (Fits U (posL n d (ks.take j))) ∧ OwnI wr w.heap.size A' c' (posL n d (ks.take j)) ∧ Below w.heap.size w wr) (fun _ i _ => m - (intOf i).toNat)
  case atStart => exact ⟨0, none, 0, Nat.zero_le _, rfl, rfl, Lib.hid (fits_nil U), World.ownsRow_nil _ _ _ _, Below.refl _ _⟩
  case round =>
    obtain ⟨j, A', c', hj, rfl, rfl, hfit, hown, hbel⟩ := hrel
    by_cases hlt : j < m
    · have hjx : j < ks.length := by rw [HL.out]; exact hlt
      obtain ⟨g, off, rfl, hg, hra, hok⟩ := (HR.out.below hbel).at_ hjx
      obtain ⟨x, hx⟩ : ∃ x, ks[j] = x := ⟨_, rfl⟩
      have HTK := Lib.hid (show posL n d (ks.take (j + 1)) = posL n d (ks.take j) ++ [HH d x % n] by rw [List.take_succ_eq_append_getElem hjx, hx]; simp [posL])
      have HMORE := Lib.hid (show Fits U (posL n d ks) → Fits U (posL n d (ks.take (j + 1))) from fun h => by rw [posL_take]; exact fits_take h _)
      have hpl : (posL n d (ks.take j)).length = j := by rw [posL, List.length_map, List.length_take]; omega
      rw [hx] at hra hok
      have HKS := Lib.hid (show (Try.prog.info? 27).map (·.size) = some (kcs x).length by rw [kcs_length hok]; exact key_size)
      have HRA := Lib.hid hra
      have KH := Lib.hid (fun W => rhash_any d (by omega) x hok W)
      have HBEL := Lib.hid hbel
      have HOWN := Lib.hid hown
      have hV : HH d x < 18446744073709551616 := HH_lt (by omega) x
      have hp : HH d x % n < n := Nat.mod_lt _ hn0
      have hi1 : (0 : Int) ≤ (j : Int) := by omega
      have hi2 : (j : Int) < (m : Int) := by omega
      clear hra hok hx hbel hown
      generalize HH d x = V at *
      generalize posL n d (ks.take j) = L at *
      go_wp2_with (refine wpList_load_mid rfl 27 (.tmp 23) rfl g (off + j * 33) rfl (kcs x) (.struct fs) HRA.out HF.out rfl HKS.out ?_)
      refine (KH.out _).mono ?_
      rintro e w1 ⟨rfl, hb1⟩
      have HB1 := Lib.hid (HBEL.out.trans (hb1.mono HBEL.out.size))
      have HO1 := Lib.hid (show OwnI w1 w.heap.size A' c' L from ownsRow_below HOWN.out hb1)
      have hus : Used w1 u n U := Blk.below HU.out HB1.out hul
      have hmc : ((V : Int) % (n : Int)) = ((V % n : Nat) : Int) := by rw [Int.natCast_emod]
      obtain ⟨p, hpe⟩ : ∃ p, V % n = p := ⟨_, rfl⟩
      rw [hpe] at hp hmc HTK
      have hcell := hus.at_ hp
      have hq1 : (0 : Int) ≤ (p : Int) := by omega
      have hq2 : (p : Int) < (n : Int) := by omega
      clear hb1 hus KH
      cases hUp : U p with
      | true =>
        rw [hUp] at hcell
        have HNF := Lib.hid (show ¬ Fits U (posL n d ks) from fun h => by
          have h1 := HMORE.out h
          rw [HTK.out] at h1
          have := h1.2 p (by simp)
          rw [hUp] at this
          cases this)
        go_wp2_with fail
        go_ret2
        exact ⟨.inr ⟨HNF.out, rfl⟩, HB1.out⟩
      | false =>
        rw [hUp] at hcell
        go_wp2_with fail
        go_loop [13] (fun i => ∃ q : Nat, q ≤ j ∧ i = .int .i64 q ∧ Hid (p ∉ L.take q)) (fun i => j - (intOf i).toNat)
        case atStart => exact ⟨0, Nat.zero_le _, rfl, Lib.hid (by simp)⟩
        case round =>
          obtain ⟨q, hq, rfl, hni⟩ := hrel
          by_cases hqj : q < j
          · have hqL : q < L.length := by omega
            obtain ⟨g2, rfl, _, _, hc2⟩ := OwnI.at_ HO1.out hqL
            obtain ⟨t, ht⟩ : ∃ t, L[q] = t := ⟨_, rfl⟩
            have HTQ := Lib.hid (show L.take (q + 1) = L.take q ++ [t] by rw [List.take_succ_eq_append_getElem hqL, ht])
            have HTM := Lib.hid (show t ∈ L by rw [← ht]; exact List.getElem_mem hqL)
            rw [ht] at hc2
            have hr1 : (0 : Int) ≤ (q : Int) := by omega
            have hr2 : (q : Int) < (j : Int) := by omega
            clear ht hqL
            by_cases htp : t = p
            · subst htp
              have HNF := Lib.hid (show ¬ Fits U (posL n d ks) from fun h => by
                have h1 := HMORE.out h
                rw [HTK.out] at h1
                exact (List.nodup_append.1 h1.1).2.2 t HTM.out t (by simp) rfl)
              go_wp2_with fail
              go_ret2
              exact ⟨.inr ⟨HNF.out, rfl⟩, HB1.out⟩
            · have hne : ¬ (t : Int) = (p : Int) := by omega
              have hne2 : ((t : Int) == (p : Int)) = false := by simpa using hne
              go_wp2_with fail
              go_round
              case rel => exact ⟨q + 1, by omega, by go_num, Lib.hid (by rw [HTQ.out, List.mem_append, List.mem_singleton]; exact fun h => h.elim hni.out (fun e => htp e.symm))⟩
              case measure => simp [intOf]; omega
          · obtain rfl : j = q := by omega
            have hpL : p ∉ L := by have := hni.out; rwa [List.take_of_length_le (by omega)] at this
            have HFT := Lib.hid (show Fits U (L ++ [p]) from fits_snoc.2 ⟨hfit.out, by simp [markL, hUp, hpL]⟩)
            have HOWN2 := Lib.hid (show (w1.alloc (.cells #[.int .i64 (p : Nat)] 3)).ownsRow w.heap.size 3 1 (.slice A' j c') j (ivs L) by
              have := World.ownsRow.alloc HO1.out (.cells #[.int .i64 (p : Nat)] 3)
              rw [hpl] at this
              exact this)
            have HBA := Lib.hid (HB1.out.alloc HB1.out.size (.cells #[.int .i64 (p : Nat)] 3))
            clear hni hpL
            go_wp2_with (at_builtin; refine wpList_append_own _ rfl (.tmp 46) (.tmp 48) 38 rfl w.heap.size 3 i0 _ 1 8 Try.underlying38 HI.out.1 HI.out.2.1 HI.out.2.2.1 HI.out.2.2.2 rfl (by omega) (.slice A' j c') j (ivs L) rfl HOWN2.out ⟨w1.heap.size, 0, none⟩ 1 1 [.int .i64 (p : Nat)] rfl rfl (by intro t v hv; rw [Addr.add_lit, (Blk.new w1 3 #[.int .i64 (p : Nat)]).cell, Nat.zero_add, List.getElem?_toArray]; exact hv) (by intro v hv; rw [List.mem_singleton.1 hv]; rfl) (by unfold maxLen; omega) (by omega) HBA.out.size ?_; intro v3 w3 hown3 hgrow3 hnil3; clear hnil3; have H3 := Lib.hid (And.intro hown3 hgrow3); clear hown3 hgrow3)
            obtain ⟨A3, c3, hv3⟩ : ∃ A3 c3, v3 = .slice A3 (j + 1) c3 := by
              rcases H3.out.1.2 with ⟨hv, h0⟩ | ⟨g3, cp, cur, hv, _⟩
              · omega
              · exact ⟨_, _, hv⟩
            subst hv3
            go_roundw
            case rel =>
              refine ⟨j + 1, A3, c3, by omega, by go_num, rfl, Lib.hid (by rw [HTK.out]; exact HFT.out), ?_, HBA.out.grown H3.out.2 HBA.out.size (fun k e => (World.ownsRow.lt HOWN2.out k e).1)⟩
              rw [HTK.out]
              show w3.ownsRow _ _ _ (.slice A3 (L ++ [p]).length c3) (L ++ [p]).length _
              rw [List.length_append, hpl, ivs_snoc]
              exact H3.out.1
            case measure => simp [intOf]; omega
    · obtain rfl : m = j := by omega
      have hall : ks.take m = ks := List.take_of_length_le (by rw [HL.out]; exact Nat.le_refl _)
      rw [hall] at hfit hown
      have HFT := hfit
      have HOWN := Lib.hid hown
      have HBEL := Lib.hid hbel
      clear hfit hown hbel hall
      go_wp2_with fail
      go_ret2
      exact ⟨.inl ⟨HFT.out, A', c', rfl, HOWN.out⟩, HBEL.out⟩
end Go.Proofs.Ytacijjioaanlgaa
