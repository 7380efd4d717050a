/- The contracts of shown and few of the laws of package perfect. No statement of the seat is proved here. -/
import Derived.Test.YtacijjioaanlgaaPerfInj
import Derived.Test.YtacijjioaanlgaaKeyRow
namespace Go.Proofs.Ytacijjioaanlgaa
open Go.RowKit
set_option linter.unusedVariables false

/-- The key of zeros, and the number 7. -/
def k7 : KeyT := (List.replicate 32 0, 7)
def k0 : KeyT := (List.replicate 32 0, 0)
theorem k7_ok : k7.Ok := ⟨rfl, by decide⟩
theorem k0_ok : k0.Ok := ⟨rfl, by decide⟩
theorem k7_cells : (kcs k7).toArray = kz 7 := rfl
theorem k0_cells : (kcs k0).toArray = kz 0 := rfl
theorem rd_blk {w : World} {g : Nat} {k : KeyT} (hk : k.Ok) (h : Blk w g 27 (kcs k).toArray) : RdK w w.heap.size (some ⟨g, 0, none⟩) [k] :=
  ⟨fun _ => ⟨g, 0, rfl, h.lt, fun j hj => by
    have : j = 0 := by simp at hj; omega
    subst this
    exact range_of_blk h⟩, fun x hx => by rw [List.mem_singleton.1 hx]; exact hk⟩
theorem rd_blk2 {w : World} {g : Nat} {k : KeyT} (hk : k.Ok) (h : Blk w g 27 (kcs k ++ kcs k).toArray) : RdK w w.heap.size (some ⟨g, 0, none⟩) [k, k] :=
  ⟨fun _ => ⟨g, 0, rfl, h.lt, fun j hj u v hv => by
    have hr := range_of_blk h
    have hl := kcs_length hk
    have hj2 : j < 2 := by simpa using hj
    rcases (show j = 0 ∨ j = 1 by omega) with rfl | rfl
    · have hv : (kcs k)[u]? = some v := hv
      have hu := (List.getElem?_eq_some_iff.1 hv).1
      rw [show 0 + 0 * 33 + u = 0 + u by omega]
      exact hr u v (by rw [List.getElem?_append_left hu]; exact hv)
    · have hv : (kcs k)[u]? = some v := hv
      rw [show 0 + 1 * 33 + u = 0 + (33 + u) by omega]
      exact hr (33 + u) v (by rw [List.getElem?_append_right (by omega), hl, show 33 + u - 33 = u by omega]; exact hv)⟩, fun x hx => by
    have : x = k := by simpa using hx
    rw [this]; exact hk⟩
set_option maxRecDepth 100000 in
theorem run_build7 (W : World) : (Instr.buildSlice 31 2 #[(0, .agg (kz 7)), (1, .agg (kz 7))]).run Try.prog W = .ok (.slice (some ⟨W.heap.size, 0, none⟩) 2 2) (W.alloc (.cells (kcs k7 ++ kcs k7).toArray 27)) := by
  simp [Instr.buildSlice, run_underlying Try.underlying31, Try.sizeOf27, go_sem]
  rfl
theorem wpList_build7 {ops : Array Oper} {rest : List Oper} {o : Oper} {a : Act} {w : World} {Q : Exit → Act → World → Prop} (hgd : o.guard = none) (x y : Operand) (ho : o.op = .buildSlice 31 2 #[(0, x), (1, y)]) (hx : a.eval x = .agg (kz 7)) (hy : a.eval y = .agg (kz 7))
    (h : wpList Try.prog ops Q rest (a.put o.dst (.slice (some ⟨w.heap.size, 0, none⟩) 2 2)) (w.alloc (.cells (kcs k7 ++ kcs k7).toArray 27))) : wpList Try.prog ops Q (o :: rest) a w :=
  wpList_plain hgd fun _ hK => by
    unfold Oper.wp execOp
    simp only [ho, hx, hy, List.map_toArray, List.map_cons, List.map_nil, Sem.run_bind, run_build7, Result.andThen_ok, Sem.run_pure]
    exact hK _ _ h
theorem place_one {G : Nat} {k : KeyT} {O : List Nat} (h : KeysOk 1 G [k] O) : placeB 1 G (fB 1 G [k] O) k = 0 := by
  obtain ⟨p, hp, hl, _⟩ := place_split h (k := k) (by simp)
  rw [hp]; omega
set_option maxRecDepth 100000 in
set_option maxHeartbeats 2000000 in
theorem shown_any (w : World) : Calls Try.prog 8 #[] w fun e w' => e = .returned (.bool true) ∧ Below w.heap.size w w' := by
  have K1 := Lib.hid (build_any none [] 0 0 1 rfl (Nat.le_refl _) (by simp [maxLen]) (by omega) rfl (by simp) w (RdK.nil w _ _))
  go_enter Try.func8, Try.ntmps8
  go_wp2_with fail
  (with_reducible refine K1.out.mono ?_)
  rintro e w1 ⟨m, O, rfl, hko, hbu, hb1⟩
  have HM := Lib.hid (And.intro hko hbu)
  have HB1 := Lib.hid hb1
  clear hko hbu hb1
  obtain ⟨wa, hwa⟩ : ∃ wa, w1.alloc (.cells (kcs k7).toArray 27) = wa := ⟨_, rfl⟩
  have hba : Below w1.heap.size w1 wa := hwa ▸ (Below.refl w1.heap.size w1).alloc (Nat.le_refl _) _
  have hka : Blk wa w1.heap.size 27 (kcs k7).toArray := hwa ▸ Blk.new w1 27 _
  have HWA := Lib.hid hwa
  have K2 := Lib.hid (build_any (some ⟨w1.heap.size, 0, none⟩) [k7] 1 1 1 rfl (Nat.le_refl _) (by simp [maxLen]) (by omega) rfl (by simp) wa (rd_blk k7_ok hka))
  have HBA := Lib.hid (And.intro (HM.out.2.on hba) (HB1.out.trans (hba.mono HB1.out.size)))
  clear hwa hba hka
  go_wp2_with (refine wpList_buildKey rfl (.tmp 12) rfl k7_ok rfl ?_)
  rw [HWA.out]
  (with_reducible refine K2.out.mono ?_)
  rintro e w2 ⟨n, P, rfl, hkp, hbn, hb2⟩
  have HN := Lib.hid (And.intro hkp (And.intro hbn (And.intro (HBA.out.1.on hb2) (HBA.out.2.trans (hb2.mono HBA.out.2.size)))))
  clear hkp hbn hb2
  obtain ⟨wb, hwb⟩ : ∃ wb, w2.alloc (.cells (kcs k7 ++ kcs k7).toArray 27) = wb := ⟨_, rfl⟩
  have hbb : Below w2.heap.size w2 wb := hwb ▸ (Below.refl w2.heap.size w2).alloc (Nat.le_refl _) _
  have hkb : Blk wb w2.heap.size 27 (kcs k7 ++ kcs k7).toArray := hwb ▸ Blk.new w2 27 _
  have HWB := Lib.hid hwb
  have K3 := Lib.hid (build_twice (some ⟨w2.heap.size, 0, none⟩) [k7, k7] 2 2 rfl (Nat.le_refl _) (by simp [maxLen]) (by omega) (by simp) wb (rd_blk2 k7_ok hkb))
  have HNB := Lib.hid (And.intro (HN.out.2.1.on hbb) (And.intro (HN.out.2.2.1.on hbb) (HN.out.2.2.2.trans (hbb.mono HN.out.2.2.2.size))))
  clear hwb hbb hkb
  go_wp2_with (refine wpList_build7 rfl (.tmp 18) (.tmp 19) rfl rfl rfl ?_)
  rw [HWB.out]
  (with_reducible refine K3.out.mono ?_)
  rintro e w3 ⟨rfl, hb3⟩
  have HX := Lib.hid (And.intro (HNB.out.1.on hb3) (And.intro (HNB.out.2.1.on hb3) (HNB.out.2.2.trans (hb3.mono HNB.out.2.2.size))))
  have K4 := Lib.hid (built_len HX.out.2.1)
  have K5 := Lib.hid (place_any HM.out.1 k0 k0_ok HX.out.2.1)
  have K6 := Lib.hid (show ∀ W, Built W n 1 1 [k7] P → Calls Try.prog 14 #[.pointer (some ⟨n, 0, none⟩), .agg (kz 7)] W fun e w' => e = .returned (.int .i64 0) ∧ Below W.heap.size W w' from fun W hW => by
    have := place_any HN.out.1 k7 k7_ok hW
    rw [place_one HN.out.1] at this
    exact this)
  clear hb3
  go_wp2_with fail
  (with_reducible refine K4.out.mono ?_)
  rintro e w' ⟨rfl, rfl⟩
  go_wp2_with fail
  refine K5.out.mono ?_
  rintro e w4 ⟨rfl, hb4⟩
  have HY := Lib.hid (And.intro (HX.out.1.on hb4) (HX.out.2.2.trans (hb4.mono HX.out.2.2.size)))
  rw [show placeB 0 1 (fB 0 1 [] O) k0 = -1 from rfl]
  clear hb4
  go_wp2_with fail
  refine (K6.out _ HY.out.1).mono ?_
  rintro e w5 ⟨rfl, hb5⟩
  have HZ := Lib.hid (HY.out.2.trans (hb5.mono HY.out.2.size))
  clear hb5
  go_wp2_with fail
  go_ret
  exact ⟨rfl, HZ.out⟩
/-- The first 400. -/
theorem few_any (A : Option Addr) (n c m : Nat) (hm : min n 400 = m) (w : World) (hc : n ≤ c) :
    Calls Try.prog 12 #[.slice A n c] w fun e w' => e = .returned (.slice A m c) ∧ w = w' := by
  have hmm : (min (n : Int) 400).toNat = m := by omega
  go_enter Try.func12, Try.ntmps12
  go_wp2_with fail
  go_ret
  exact ⟨rfl, rfl⟩
end Go.Proofs.Ytacijjioaanlgaa
