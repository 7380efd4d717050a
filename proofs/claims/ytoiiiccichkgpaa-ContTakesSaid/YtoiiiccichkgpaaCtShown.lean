/- The document's examples (shown, of the statements of stage 11), told from what the package does. No statement of the seat is proved here. -/
import Derived.Test.YtoiiiccichkgpaaCtKit
import Derived.Test.YtoiiiccichkgpaaCtMG
import Derived.Lib.SlBytesConst
namespace Go.Proofs.Ytoiiiccichkgpaa
open Go.RowKit
set_option linter.unusedVariables false
set_option linter.unusedSimpArgs false

theorem refC_nil : refC [] = 0 := by decide
theorem lay_nil : (layC 7 []).take 6 = [0, 0, 0, 7, 0, 0] := by
  have h : bodyC 7 [] = [0, 0, 0, 7, 0, 0] := by decide
  unfold layC
  rw [h]
  exact List.take_left' rfl
theorem small_nil : SmallC [] := ⟨by decide, by decide⟩
/-- The piece of the example. -/
def abcT (A : Option Addr) (c : Nat) : PieceT := ⟨A, c, ⟨List.replicate 32 0, 0, [97, 98, 99]⟩⟩
theorem abc_ok (A : Option Addr) (c : Nat) : (abcT A c).p.Ok := ⟨by simp [abcT], show 0 < 4294967296 by decide⟩
theorem rdp_one (w : World) {x : PieceT} (hx : x.Ok w w.heap.size) : RdPc (w.alloc (.cells (pcs x).toArray 42)) (w.alloc (.cells (pcs x).toArray 42)).heap.size (some ⟨w.heap.size, 0, none⟩) [x] := by
  have hb : Below w.heap.size w (w.alloc (.cells (pcs x).toArray 42)) := (Below.refl _ _).alloc (Nat.le_refl _) _
  refine ⟨fun _ => ⟨w.heap.size, 0, rfl, by simp, fun j hj i v hv => ?_⟩, by simpa using (hx.below hb).more hb.size⟩
  obtain rfl : j = 0 := by simpa using hj
  rw [(Blk.new w 42 (pcs x).toArray).cell, List.getElem?_toArray]
  simpa using hv
theorem abc_small (A : Option Addr) (c : Nat) : SmallC [abcT A c] := ⟨by show 1 ≤ 3000; decide, by show 10 + (38 + 3 + 0) ≤ 1000000; decide⟩
theorem lay_seven (K : ContsOk) (w : World) : Calls Try.prog 11 #[.int .u32 7, .slice none 0 0] w fun e w' => ∃ A' c', e = .returned (.tuple #[.slice A' 10 c', .int .i64 0]) ∧ 10 ≤ c' ∧ c' ≤ maxLen ∧ Below w.heap.size w w' ∧
    ∀ W, Below w'.heap.size w' W → (convert 26 9 (.slice A' 6 c')).run Try.prog W = .ok (.string ⟨#[0, 0, 0, 7, 0, 0]⟩) W :=
  (K.lay none [] 0 0 7 w (by decide) rfl (Nat.le_refl _) (by unfold maxLen; omega) small_nil (RdPc.nil _ _ _)).mono fun e w' ⟨h1, _, h3⟩ => by
    obtain ⟨A', c', t, he, ho, _⟩ := h1 refC_nil
    replace ho : w'.ownsRow w.heap.size t 1 (.slice A' 10 c') 10 (bv (layC 7 [])) := ho
    have hr := Rd.of_own ho
    have hc : 10 ≤ c' ∧ c' ≤ maxLen := by
      obtain ⟨_, _, e, q1, q2⟩ := ownsRow_form ho
      injection e with _ _ e
      subst e
      exact ⟨q1, q2⟩
    refine ⟨A', c', he, hc.1, hc.2, h3, fun W hb => ?_⟩
    have h6 := (hr.below hb).take 6
    rw [lay_nil] at h6
    exact run_str (P := Try.prog) 26 9 5 Try.underlying26 Try.underlying5 Try.underlying9 h6 c'
set_option maxRecDepth 100000 in
set_option maxHeartbeats 2000000 in
theorem shown_any (K : ContsOk) (w : World) : Calls Try.prog 9 #[] w fun e w' => e = .returned (.bool true) ∧ Below w.heap.size w w' := by
  have C1 := Lib.hid (lay_seven K w)
  have C2 := Lib.hid (fun W => K.take none 0 0 [] W rfl (Nat.le_refl _) (by unfold maxLen; omega) (by omega) (Rd.nil _ _ _))
  have HT0 := Lib.hid (take_short (b := []) (by decide))
  have C3 := Lib.hid (K.size)
  go_enter Try.func9, Try.ntmps9
  go_wp2_with fail
  refine C1.out.mono ?_
  rintro e w1 ⟨A', c', rfl, hc1, hc2, hb1, hs⟩
  have HO := Lib.hid (And.intro hs hb1)
  have hc3 : (6 : Int) ≤ (c' : Int) := by omega
  clear hs hb1 C1 hc2
  go_wp2_with fail
  refine (C2.out w1).mono ?_
  rintro e w2 ⟨hn, _, hb2⟩
  obtain ⟨A2, c2, rfl⟩ := hn HT0.out
  have HB := Lib.hid (And.intro hb2 (HO.out.2.trans (hb2.mono HO.out.2.size)))
  have hs := HO.out.1 w2 hb2
  clear hn hb2 C2
  have q1 := Lib.run_convert_bytes_const (P := Try.prog) w2 26 5 #[.int .u8 97, .int .u8 98, .int .u8 99] 3 3 Try.underlying26 Try.underlying5
  obtain ⟨d, hd⟩ : ∃ d, w2.heap.size = d := ⟨_, rfl⟩
  obtain ⟨w3, hw3⟩ : ∃ w3, w2.alloc (.cells #[.int .u8 97, .int .u8 98, .int .u8 99] 5 (3, 4)) = w3 := ⟨_, rfl⟩
  have hb3 : Below w2.heap.size w2 w3 := hw3 ▸ (Below.refl _ _).alloc (Nat.le_refl _) _
  have h3 : w3.heap[d]? = some (.cells #[.int .u8 97, .int .u8 98, .int .u8 99] 5 (3, 4)) := by rw [← hw3, ← hd]; exact heap_alloc_new w2 _
  replace q1 : (convert 26 26 (.slice (some ⟨w2.heap.size, 0, none⟩) 3 3)).run Try.prog (w2.alloc (.cells #[.int .u8 97, .int .u8 98, .int .u8 99] 5)) = .ok (.slice (some ⟨w2.heap.size, 0, none⟩) 3 3) w3 := by rw [← hw3]; exact q1
  have HB3 := Lib.hid (show Below w.heap.size w w3 from HB.out.2.trans (hb3.mono HB.out.2.size))
  have H3 := Lib.hid (And.intro h3 hd)
  clear hb3 h3 hw3 hd
  go_wp2_with fail
  have HX := Lib.hid (show (abcT (some ⟨w2.heap.size, 0, none⟩) 3).Ok w3 w3.heap.size from by
    refine ⟨abc_ok _ _, fun _ => ⟨w2.heap.size, 0, rfl, ?_, fun j hj => ?_⟩, Nat.le_refl _, by show 3 ≤ maxLen; unfold maxLen; omega⟩
    · have := (Array.getElem?_eq_some_iff.1 H3.out.1).1
      rw [H3.out.2]
      exact this
    · rw [H3.out.2, cell_of_row w3 d (0 + j) _ _ _ H3.out.1]
      have hj3 : j < 3 := hj
      match j, hj3 with
      | 0, _ => rfl
      | 1, _ => rfl
      | 2, _ => rfl)
  refine (C3.out (some ⟨w3.heap.size, 0, none⟩) [abcT (some ⟨w2.heap.size, 0, none⟩) 3] 1 1 _ rfl (abc_small _ _) (rdp_one w3 HX.out)).mono ?_
  rintro e w5 ⟨rfl, hb5⟩
  have HE := Lib.hid (HB3.out.trans (((Below.refl w3.heap.size w3).alloc (Nat.le_refl _) _).trans (hb5.mono (by rw [World.size_alloc]; omega)) |>.mono HB3.out.size))
  have e51 : sizeC (pds [abcT (some ⟨w2.heap.size, 0, none⟩) 3]) = 51 := rfl
  rw [e51]
  clear hb5 hs q1
  go_wp2_with fail
  go_ret
  exact ⟨rfl, HE.out⟩
end Go.Proofs.Ytoiiiccichkgpaa
