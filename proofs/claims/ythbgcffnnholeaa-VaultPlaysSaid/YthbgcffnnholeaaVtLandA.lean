/- The contracts of the package's vault: what it is in memory; New, Room, Len, where a shelf begins, what is refused. No statement of the seat is proved here. -/
import Derived.Test.YthbgcffnnholeaaVtKit
import Derived.Test.YthbgcffnnholeaaVMF
import Derived.Test.YthbgcffnnholeaaQuiet
namespace Go.Proofs.Ythbgcffnnholeaa
open Go.RowKit
set_option linter.unusedVariables false
set_option linter.unusedSimpArgs false

abbrev vcs (d : Nat) (V : VS) : Array Value := #[.pointer (some ⟨d, 0, none⟩), .int .i64 (V.from_ : Nat), .int .i64 (V.each : Nat), .int .i64 (V.n : Nat)]
/-- The package's vaults, as the walks of the statements use them. -/
def Vst (w : World) (v : Addr) (G : Nat → Prop) (s : Addr) (V : VS) : Prop := ∃ vb d, v = ⟨vb, 0, none⟩ ∧ s = ⟨d, 0, none⟩ ∧ Blk w vb 73 (vcs d V) ∧ ∀ g, G g ↔ g = vb
section
variable {w : World} {vb d : Nat} {V : VS}
theorem none_no (h : Blk w vb 73 (vcs d V)) : Calls Try.prog 34 #[.pointer (some ⟨vb, 0, none⟩)] w fun x w' => x = .returned (.bool false) ∧ w = w' := by
  have hc0 : w.cell? ⟨vb, 0, none⟩ = some (.pointer (some ⟨d, 0, none⟩)) := h.cell 0
  clear h
  go_enter Try.func34, Try.ntmps34
  go_wp2_with fail
  go_ret
  exact ⟨rfl, rfl⟩
theorem none_yes (w : World) : Calls Try.prog 34 #[.pointer none] w fun x w' => x = .returned (.bool true) ∧ w = w' := by
  go_enter Try.func34, Try.ntmps34
  go_wp2_with fail
  go_ret
  exact ⟨rfl, rfl⟩
theorem fault_ok (h : Blk w vb 73 (vcs d V)) (hn : V.n ≤ 16384) (t : Nat) (ht : t < V.n) : Calls Try.prog 35 #[.pointer (some ⟨vb, 0, none⟩), .int .i64 (t : Nat)] w fun x w' => x = .returned (.int .i64 0) ∧ w = w' := by
  have hc3 : w.cell? ⟨vb, 3, none⟩ = some (.int .i64 (V.n : Nat)) := h.cell 3
  have KN := Lib.hid (none_no h)
  obtain ⟨n, hn'⟩ : ∃ n, V.n = n := ⟨_, rfl⟩
  rw [hn'] at hc3 hn ht
  have h1 : (0 : Int) ≤ (t : Int) := by omega
  have h2 : (t : Int) < (n : Int) := by omega
  clear h hn' ht
  go_enter Try.func35, Try.ntmps35
  go_wp2_with fail
  (with_reducible refine KN.out.mono ?_)
  rintro e w' ⟨rfl, rfl⟩
  go_wp2_with fail
  go_ret
  exact ⟨rfl, rfl⟩
theorem fault_bad (h : Blk w vb 73 (vcs d V)) (hn : V.n ≤ 16384) (at_ : Int) (ha : at_ < 0 ∨ (V.n : Int) ≤ at_) : Calls Try.prog 35 #[.pointer (some ⟨vb, 0, none⟩), .int .i64 at_] w fun x w' => x = .returned (.int .i64 1) ∧ w = w' := by
  have hc3 : w.cell? ⟨vb, 3, none⟩ = some (.int .i64 (V.n : Nat)) := h.cell 3
  have KN := Lib.hid (none_no h)
  obtain ⟨n, hn'⟩ : ∃ n, V.n = n := ⟨_, rfl⟩
  rw [hn'] at hc3 hn ha
  clear h hn'
  by_cases h1 : at_ < 0
  · clear ha
    go_enter Try.func35, Try.ntmps35
    go_wp2_with fail
    (with_reducible refine KN.out.mono ?_)
    rintro e w' ⟨rfl, rfl⟩
    go_wp2_with fail
    go_ret
    exact ⟨rfl, rfl⟩
  · have h2 : (n : Int) ≤ at_ := by omega
    clear ha
    go_enter Try.func35, Try.ntmps35
    go_wp2_with fail
    (with_reducible refine KN.out.mono ?_)
    rintro e w' ⟨rfl, rfl⟩
    go_wp2_with fail
    go_ret
    exact ⟨rfl, rfl⟩
theorem fault_nil (at_ : Int) (w : World) : Calls Try.prog 35 #[.pointer none, .int .i64 at_] w fun x w' => x = .returned (.int .i64 2) ∧ w = w' := by
  have KN := Lib.hid (none_yes w)
  go_enter Try.func35, Try.ntmps35
  go_wp2_with fail
  (with_reducible refine KN.out.mono ?_)
  rintro e w' ⟨rfl, rfl⟩
  go_wp2_with fail
  go_ret
  exact ⟨rfl, rfl⟩
/-- Where a shelf begins. -/
theorem first_any (h : Blk w vb 73 (vcs d V)) {size : Nat} (hf : V.Fits size) (hs : size ≤ 16384) (t : Nat) (ht : t < V.n) : Calls Try.prog 37 #[.pointer (some ⟨vb, 0, none⟩), .int .i64 (t : Nat)] w fun x w' => x = .returned (.int .i64 (V.first t : Nat)) ∧ ∃ q, w.drewN q = w' := by
  have hc1 : w.cell? ⟨vb, 1, none⟩ = some (.int .i64 (V.from_ : Nat)) := h.cell 1
  have hc2 : w.cell? ⟨vb, 2, none⟩ = some (.int .i64 (V.each : Nat)) := h.cell 2
  have hin := hf.in_ (j := 0) ht hf.each.1
  have e1 : (V.first t : Nat) = V.from_ + t * V.each := rfl
  obtain ⟨f, hf'⟩ : ∃ f, V.from_ = f := ⟨_, rfl⟩
  obtain ⟨e, he'⟩ : ∃ e, V.each = e := ⟨_, rfl⟩
  obtain ⟨r, hr⟩ : ∃ r, V.first t = r := ⟨_, rfl⟩
  obtain ⟨m, hm⟩ : ∃ m, t * e = m := ⟨_, rfl⟩
  rw [hf', he', hr, hm] at e1
  rw [hr] at hin ⊢
  rw [hf'] at hc1
  rw [he'] at hc2
  have hmul : (t : Int) * (e : Int) = (m : Int) := by rw [← hm]; exact (Int.natCast_mul t e).symm
  have hwm : IntKind.i64.wrap (m : Int) = (m : Int) := by rw [IntKind.wrap_i64]; omega
  have hadd : (f : Int) + (m : Int) = (r : Int) := by omega
  have hwr : IntKind.i64.wrap (r : Int) = (r : Int) := by rw [IntKind.wrap_i64]; omega
  clear h hf ht hf' he' hr hm e1 hin
  go_enter Try.func37, Try.ntmps37
  go_wp2_with fail
  go_quiet (fail)
  go_wp2_with fail
  go_ret
  exact ⟨rfl, _, rfl⟩
theorem room_ok (h : Blk w vb 73 (vcs d V)) (h1 : 1 ≤ V.each) (h2 : V.each ≤ 16384) : Calls Try.prog 12 #[.pointer (some ⟨vb, 0, none⟩)] w fun x w' => x = .returned (.int .i64 (V.room : Nat)) ∧ w = w' := by
  have hc2 : w.cell? ⟨vb, 2, none⟩ = some (.int .i64 (V.each : Nat)) := h.cell 2
  have KN := Lib.hid (none_no h)
  have e1 : V.room = 128 * V.each - 4 := rfl
  obtain ⟨e, he'⟩ : ∃ e, V.each = e := ⟨_, rfl⟩
  obtain ⟨r, hr⟩ : ∃ r, V.room = r := ⟨_, rfl⟩
  rw [he', hr] at e1
  rw [hr]
  rw [he'] at hc2 h1 h2
  have HE := Lib.hid (show (128 : Int) * (e : Int) - 4 = (r : Int) by omega)
  clear h e1 he' hr
  go_enter Try.func12, Try.ntmps12
  go_wp2_with fail
  (with_reducible refine KN.out.mono ?_)
  rintro x w' ⟨rfl, rfl⟩
  go_wp2_with fail
  go_ret
  exact ⟨(show Ending.returned (.int .i64 (128 * (e : Int) - 4)) = Ending.returned (.int .i64 (r : Int)) by rw [HE.out]), rfl⟩
theorem room_nil (w : World) : Calls Try.prog 12 #[.pointer none] w fun x w' => x = .returned (.int .i64 0) ∧ w = w' := by
  have KN := Lib.hid (none_yes w)
  go_enter Try.func12, Try.ntmps12
  go_wp2_with fail
  (with_reducible refine KN.out.mono ?_)
  rintro x w' ⟨rfl, rfl⟩
  go_wp2_with fail
  go_ret
  exact ⟨rfl, rfl⟩
theorem len_ok (h : Blk w vb 73 (vcs d V)) : Calls Try.prog 14 #[.pointer (some ⟨vb, 0, none⟩)] w fun x w' => x = .returned (.int .i64 (V.n : Nat)) ∧ w = w' := by
  have hc3 : w.cell? ⟨vb, 3, none⟩ = some (.int .i64 (V.n : Nat)) := h.cell 3
  have KN := Lib.hid (none_no h)
  clear h
  go_enter Try.func14, Try.ntmps14
  go_wp2_with fail
  (with_reducible refine KN.out.mono ?_)
  rintro x w' ⟨rfl, rfl⟩
  go_wp2_with fail
  go_ret
  exact ⟨rfl, rfl⟩
theorem len_nil (w : World) : Calls Try.prog 14 #[.pointer none] w fun x w' => x = .returned (.int .i64 0) ∧ w = w' := by
  have KN := Lib.hid (none_yes w)
  go_enter Try.func14, Try.ntmps14
  go_wp2_with fail
  (with_reducible refine KN.out.mono ?_)
  rintro x w' ⟨rfl, rfl⟩
  go_wp2_with fail
  go_ret
  exact ⟨rfl, rfl⟩
end
theorem vget_nil (at_ : Int) (w : World) : Calls Try.prog 18 #[.pointer none, .int .i64 at_] w fun x w' => x = .returned (.tuple #[.slice none 0 0, .int .i64 2]) ∧ w = w' := by
  have KF := Lib.hid (fault_nil at_ w)
  go_enter Try.func18, Try.ntmps18
  go_wp2_with fail
  (with_reducible refine KF.out.mono ?_)
  rintro x w' ⟨rfl, rfl⟩
  go_wp2_with fail
  go_ret2
  exact ⟨rfl, rfl⟩
theorem vnew_nil (f e n : Int) (w : World) : Calls Try.prog 10 #[.pointer none, .int .i64 f, .int .i64 e, .int .i64 n] w fun x w' => x = .returned (.tuple #[.pointer none, .int .i64 2]) ∧ w = w' := by
  go_enter Try.func10, Try.ntmps10
  go_wp2_with fail
  go_ret2
  exact ⟨rfl, rfl⟩
/-! ### New -/
section
variable {w : World} {d : Nat} {F : Nat → Prop} {S : DS}
theorem vnew_ok (h : Lst w ⟨d, 0, none⟩ F S) (f e n : Nat) (hv : FitV S.n f e n) : Calls Try.prog 10 #[.pointer (some ⟨d, 0, none⟩), .int .i64 (f : Nat), .int .i64 (e : Nat), .int .i64 (n : Nat)] w fun x w' => ∃ vb, x = .returned (.tuple #[.pointer (some ⟨vb, 0, none⟩), .int .i64 0]) ∧ Blk w' vb 73 (vcs d ⟨f, e, n⟩) ∧ w.heap.size ≤ vb ∧ Below w.heap.size w w' := by
  have KS := Lib.hid (fun W (hb : Below w.heap.size w W) => disksOk.size ⟨d, 0, none⟩ F S W (disksOk.below h hb))
  have hle := (disksOk.ok h).le
  obtain ⟨z, hz⟩ : ∃ z, S.n = z := ⟨_, rfl⟩
  rw [hz] at KS hv hle
  obtain ⟨h1, h2, h3, h4, h5, h6⟩ := hv
  have hq : n ≤ (z - f) / e := by
    rw [Nat.le_div_iff_mul_le (by omega)]
    have : ((n * e : Nat) : Int) = (n : Int) * e := Int.natCast_mul n e
    omega
  have hq2 : (z - f) / e ≤ 16384 := Nat.le_trans (Nat.div_le_self _ _) (by omega)
  obtain ⟨y, hy⟩ : ∃ y, z - f = y := ⟨_, rfl⟩
  obtain ⟨q, hqq⟩ : ∃ q, y / e = q := ⟨_, rfl⟩
  rw [hy, hqq] at hq hq2
  have h21 : ¬ (z : Int) < (f : Int) := by omega
  have h31 : ¬ (e : Int) < 1 := by omega
  have h32 : ¬ (e : Int) = 0 := by omega
  have h41 : ¬ (16384 : Int) < (e : Int) := by omega
  have hsub : (z : Int) - (f : Int) = (y : Int) := by omega
  have hdiv : (y : Int).tdiv (e : Int) = (q : Int) := by rw [← hqq]; rfl
  have hn1 : ¬ (q : Int) < (n : Int) := by omega
  have HV := Lib.hid (show (0 : Int) ≤ f ∧ (0 : Int) ≤ n from ⟨h1, h5⟩)
  clear h hz hqq hy h6 h2 h3 h4 h5 h1 hq
  go_enter Try.func10, Try.ntmps10
  go_wp2_with fail
  (with_reducible refine (KS.out _ (Below.refl _ _)).mono ?_)
  rintro x w1 ⟨rfl, hb1⟩
  go_wp2_with fail
  (with_reducible refine (KS.out _ hb1).mono ?_)
  rintro x w2 ⟨rfl, hb2⟩
  have HB := Lib.hid (hb1.trans (hb2.mono hb1.size))
  clear hb1 hb2
  go_wp2_with fail
  go_ret2
  exact ⟨_, rfl, Blk.new _ _ _, HB.out.size, HB.out.alloc HB.out.size _⟩
theorem vnew_bad (h : Lst w ⟨d, 0, none⟩ F S) (f e n : Int) (hf : In64 f) (he : In64 e) (hn : In64 n) (hv : ¬ FitV S.n f e n) : Calls Try.prog 10 #[.pointer (some ⟨d, 0, none⟩), .int .i64 f, .int .i64 e, .int .i64 n] w fun x w' => x = .returned (.tuple #[.pointer none, .int .i64 1]) ∧ Below w.heap.size w w' := by
  have KS := Lib.hid (fun W (hb : Below w.heap.size w W) => disksOk.size ⟨d, 0, none⟩ F S W (disksOk.below h hb))
  have hle := (disksOk.ok h).le
  obtain ⟨z, hz⟩ : ∃ z, S.n = z := ⟨_, rfl⟩
  rw [hz] at KS hv hle
  clear h hz
  by_cases h1 : f < 0
  · have HB := Lib.hid (Below.refl w.heap.size w)
    clear hv KS
    go_enter Try.func10, Try.ntmps10
    go_wp2_with fail
    go_ret2
    exact ⟨rfl, HB.out⟩
  · obtain ⟨f, rfl⟩ := Int.eq_ofNat_of_zero_le (show 0 ≤ f by omega)
    by_cases h2 : (z : Int) < (f : Int)
    · clear hv
      go_enter Try.func10, Try.ntmps10
      go_wp2_with fail
      (with_reducible refine (KS.out _ (Below.refl _ _)).mono ?_)
      rintro x w1 ⟨rfl, hb1⟩
      have HB := Lib.hid hb1
      clear hb1 KS
      go_wp2_with fail
      go_ret2
      exact ⟨rfl, HB.out⟩
    · by_cases h3 : e < 1
      · clear hv
        go_enter Try.func10, Try.ntmps10
        go_wp2_with fail
        (with_reducible refine (KS.out _ (Below.refl _ _)).mono ?_)
        rintro x w1 ⟨rfl, hb1⟩
        have HB := Lib.hid hb1
        clear hb1 KS
        go_wp2_with fail
        go_ret2
        exact ⟨rfl, HB.out⟩
      · obtain ⟨e, rfl⟩ := Int.eq_ofNat_of_zero_le (show 0 ≤ e by omega)
        by_cases h4 : (16384 : Int) < (e : Int)
        · clear hv
          go_enter Try.func10, Try.ntmps10
          go_wp2_with fail
          (with_reducible refine (KS.out _ (Below.refl _ _)).mono ?_)
          rintro x w1 ⟨rfl, hb1⟩
          have HB := Lib.hid hb1
          clear hb1 KS
          go_wp2_with fail
          go_ret2
          exact ⟨rfl, HB.out⟩
        · by_cases h5 : n < 0
          · clear hv
            go_enter Try.func10, Try.ntmps10
            go_wp2_with fail
            (with_reducible refine (KS.out _ (Below.refl _ _)).mono ?_)
            rintro x w1 ⟨rfl, hb1⟩
            have HB := Lib.hid hb1
            clear hb1 KS
            go_wp2_with fail
            go_ret2
            exact ⟨rfl, HB.out⟩
          · obtain ⟨n, rfl⟩ := Int.eq_ofNat_of_zero_le (show 0 ≤ n by omega)
            have hq : (z - f) / e < n := by
              rw [Nat.div_lt_iff_lt_mul (by omega)]
              have h6 : ¬ ((f : Int) + (n : Int) * (e : Int) ≤ z) := fun h => hv ⟨by omega, by omega, by omega, by omega, by omega, h⟩
              have : ((n * e : Nat) : Int) = (n : Int) * e := Int.natCast_mul n e
              omega
            have hq2 : (z - f) / e ≤ 16384 := Nat.le_trans (Nat.div_le_self _ _) (by omega)
            obtain ⟨y, hy⟩ : ∃ y, z - f = y := ⟨_, rfl⟩
            obtain ⟨q, hqq⟩ : ∃ q, y / e = q := ⟨_, rfl⟩
            rw [hy, hqq] at hq hq2
            have h32 : ¬ (e : Int) = 0 := by omega
            have hsub : (z : Int) - (f : Int) = (y : Int) := by omega
            have hdiv : (y : Int).tdiv (e : Int) = (q : Int) := by rw [← hqq]; rfl
            have hn1 : (q : Int) < (n : Int) := by omega
            have hfe := hf
            clear hv hqq hy hq hf he hn hfe
            go_enter Try.func10, Try.ntmps10
            go_wp2_with fail
            (with_reducible refine (KS.out _ (Below.refl _ _)).mono ?_)
            rintro x w1 ⟨rfl, hb1⟩
            go_wp2_with fail
            (with_reducible refine (KS.out _ hb1).mono ?_)
            rintro x w2 ⟨rfl, hb2⟩
            have HB := Lib.hid (hb1.trans (hb2.mono hb1.size))
            clear hb1 hb2 KS
            go_wp2_with fail
            go_ret2
            exact ⟨rfl, HB.out⟩
end
end Go.Proofs.Ythbgcffnnholeaa
