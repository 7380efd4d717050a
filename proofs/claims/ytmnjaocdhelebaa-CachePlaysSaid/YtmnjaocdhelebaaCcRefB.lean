/- The reference's cache (cellarageref14): Shelves. No statement of the seat is proved here. -/
import Derived.Test.YtmnjaocdhelebaaCcRef
namespace Go.Proofs.Ytmnjaocdhelebaa
open Go.RowKit
set_option linter.unusedVariables false
set_option linter.unusedSimpArgs false

set_option maxRecDepth 100000 in
set_option maxHeartbeats 4000000 in
theorem rcshelves_any {w : World} {d : Nat} {A : Option Addr} {c room : Nat} {ts : List TabT} (h : RCs w d A c ts room) : Calls Try.prog 19 #[.pointer (some ⟨d, 0, none⟩)] w fun e w' =>
    ∃ A' c', e = .returned (.slice A' ts.length c') ∧ OwnG 3 1 i1 w' w.heap.size A' c' (ts.map (·.1.1)) ∧ Below w.heap.size w w' := by
  obtain ⟨hl1, hl2, hl3⟩ := h.len
  have HC := Lib.hid (show ∀ W, Below w.heap.size w W → W.cell? ⟨d, 0, none⟩ = some (.slice A ts.length c) from fun W hW => (h.blk.below hW h.blk.lt).cell 0)
  have HA := Lib.hid (fun W (hW : Below w.heap.size w W) j (hj : j < ts.length) => (h.on hW).at_ hj)
  obtain ⟨L, hL⟩ : ∃ L, ts.map (·.1.1) = L := ⟨_, rfl⟩
  have HLX := Lib.hid (show ∀ j (hj : j < ts.length), L.take (j + 1) = L.take j ++ [ts[j].1.1] from fun j hj => by
    rw [List.take_succ_eq_append_getElem (by rw [← hL]; simpa using hj)]
    congr 2
    simp [← hL])
  obtain ⟨n, hn⟩ : ∃ n, ts.length = n := ⟨_, rfl⟩
  have HLN := Lib.hid (show L.length = n by rw [← hL, ← hn]; simp)
  rw [hn] at HC hl1 hl2 ⊢
  rw [hL]
  have HN := Lib.hid hn
  clear h hn hL
  go_enter Try.func19, Try.ntmps19
  go_wp2_with fail
  go_loopw [3, 4] (fun v i wr => ∃ (j : Nat) (Y : Option Addr) (z : Nat), j ≤ n ∧ i = .int .i64 j ∧ v = .slice Y j z ∧ Hid ((L.take j).length = j ∧ OwnG 3 1 i1 wr w.heap.size Y z (L.take j) ∧ Below w.heap.size w wr)) (fun _ i _ => n - (intOf i).toNat)
  case atStart => exact ⟨0, none, 0, Nat.zero_le _, rfl, rfl, Lib.hid ⟨rfl, OwnG.nil _ _, Below.refl _ _⟩⟩
  case round =>
    obtain ⟨j, Y, z, hj, rfl, rfl, hst⟩ := hrel
    have hcc := HC.out _ hst.out.2.2
    by_cases hlt : j < n
    · have hjx : j < ts.length := by rw [HN.out]; exact hlt
      obtain ⟨g, off, hA, hc1, hc2⟩ := HA.out wr hst.out.2.2 j hjx
      have hlx := HLX.out j hjx
      obtain ⟨x, hx⟩ : ∃ x, ts[j].1.1 = x := ⟨_, rfl⟩
      rw [hx] at hc1 hlx
      subst hA
      have HLX1 := Lib.hid hlx
      have H6 := Lib.hid (hst.out.2.1.on ((Below.refl wr.heap.size wr).alloc (Nat.le_refl _) (.cells #[.int .i64 x] 3)))
      have HB6 := Lib.hid (show Below w.heap.size w (wr.alloc (.cells #[.int .i64 x] 3)) from hst.out.2.2.alloc hst.out.2.2.size _)
      have HR1 := Lib.hid (rds_int wr x)
      have HLJ := Lib.hid hst.out.1
      have hi1 : (0 : Int) ≤ (j : Int) := by omega
      have hi2 : (j : Int) < (n : Int) := by omega
      clear hjx hc2 hx hlx hst
      go_wp2_with (at_builtin; refine wpList_append_g intE rfl (.tmp 14) (.tmp 23) rfl w.heap.size Y z j (L.take j) HLJ.out rfl H6.out _ (some ⟨wr.heap.size, 0, none⟩) 1 1 [x] rfl rfl HR1.out (fun _ _ => trivial) ?_ ?_ ?_)
      case _ => omega
      case _ => exact HB6.out.size
      intro A7 c7 w7 ho hg
      have H7 := Lib.hid (show (L.take (j + 1)).length = j + 1 ∧ OwnG 3 1 i1 w7 w.heap.size A7 c7 (L.take (j + 1)) ∧ Below w.heap.size w w7 from by
        rw [HLX1.out]
        exact ⟨by rw [List.length_append, HLJ.out]; rfl, ho, HB6.out.grown hg HB6.out.size fun r hr => (H6.out.lt (by rw [HLJ.out]; exact hr)).1⟩)
      clear ho hg H6 HB6 HR1 hc1 hcc
      go_wp2_with fail
      go_roundw
      case rel => exact ⟨j + 1, A7, c7, by omega, by go_num, rfl, H7⟩
      case measure => simp [intOf]; omega
    · obtain rfl : j = n := by omega
      have HST := hst
      clear hst
      go_wp2_with fail
      go_ret
      obtain ⟨h1, h2, h3⟩ := HST.out
      rw [List.take_of_length_le (by rw [HLN.out]; exact Nat.le_refl _)] at h2
      exact ⟨Y, z, rfl, h2, h3⟩
end Go.Proofs.Ytmnjaocdhelebaa
