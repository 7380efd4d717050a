/-
  For every slice of bytes (the first 10,000 of it are looked at), whatever the memory: RollAlls returns true, and its argument reads as before: roll.All of the bytes is the document's list of hashes. No condition.
-/
import Derived.Test.YtoimhajijjhbiaaRows
import Derived.Test.YtoimhajijjhbiaaOpen
import Derived.Test.YtoimhajijjhbiaaRollShown
import Derived.Test.YtoimhajijjhbiaaArgB
import Derived.Test.YtoimhajijjhbiaaRollQuiet
import Derived.WalkKit
import Derived.ProofKit
import Derived.OpenShut
import Derived.ShutString
import Derived.ChangeOld
import Derived.Below
namespace Go.Proofs.Ytoimhajijjhbiaa.rollAlls
open Go.ChangeShapes Go.WideShapes Go.ChangeAt Go.RowKit
open Go.ChangeMaps (open_string shut_string)
set_option linter.unusedVariables false

theorem own : ownKnob Try.prog.godebug = none := by kernel_rfl
theorem laidOut : laidOutB Try.prog = true := by kernel_rfl

theorem refall_sl (A : Option Addr) (l : List UInt8) (c n m : Nat) (w : World) (hk : l.length = n) (hr : Rd w w.heap.size A l) (hc : n ≤ c) (hl : n ≤ 100000) (hm : c ≤ 9223372036854775807) (he : n - 15 = m) :
    Calls Try.prog 14 #[.slice A n c] w fun e w' => ∃ A' c', e = .returned (.slice A' m c') ∧ w'.ownsRow w.heap.size 24 1 (.slice A' m c') m (uv (allB l)) ∧ Below w.heap.size w w' := by
  subst he
  refine (refall_any A l c n w hk hr hc hm hl).mono ?_
  rintro e w' ⟨v, rfl, ho, hb⟩
  obtain ⟨A', c', rfl, _, _⟩ := ownsRow_form ho
  exact ⟨A', c', rfl, ho, hb⟩
theorem row_at {w : World} {base m c : Nat} {A : Option Addr} {xs : List (BitVec 32)} (h : w.ownsRow base 24 1 (.slice A m c) m (uv xs)) (hm : 0 < m) :
    ∃ g, A = some ⟨g, 0, none⟩ ∧ ∀ j (hj : j < xs.length), w.cell? ⟨g, j, none⟩ = some (.int .u32 (xs[j].toNat : Nat)) := by
  rcases h.2 with ⟨_, h0⟩ | ⟨g, cap, cur, hv, _, hh, _, _, _, ht⟩
  · omega
  · injection hv with hA _ _
    refine ⟨g, hA, fun j hj => ?_⟩
    have hu : (uv xs)[j]? = some (.int .u32 (xs[j].toNat : Nat)) := by simp [uv, hj]
    rw [cell_of_row w g j cur _ (0, 0) hh]
    rw [← ht, List.getElem?_take] at hu
    split at hu
    · simpa using hu
    · cases hu
set_option maxHeartbeats 1000000 in
theorem alls_few (A : Option Addr) (c n : Nat) (l : List UInt8) (w : World) (hl : l.length = n) (hn : n ≤ 10000) (hc : n ≤ c) (hm : c ≤ 9223372036854775807) (hr : Rd w w.heap.size A l) :
    Calls Try.prog 5 #[.slice A n c] w fun e w' => e = .returned (.bool true) ∧ Below w.heap.size w w' := by
  have h1 : ¬ (10000 : Int) < (n : Int) := by omega
  have h2 : (n : Int) ≤ 10000 := by omega
  have h3 : (n : Int) ≤ (c : Int) := by omega
  have HT := Lib.hid (show (l).length = n by exact hl)
  clear hl
  have hrl : ∀ w' : World, Below w.heap.size w w' → Rd w' w'.heap.size A (l) := fun w' hb => (hr.below hb).more hb.size
  have HRL := Lib.hid hrl
  clear hrl hr
  go_enter Try.func5, Try.ntmps5
  go_wp2_with fail
  refine (shown_any _).mono ?_
  rintro e w1 ⟨rfl, hb1⟩
  go_wp2_with fail
  obtain ⟨m, hm15⟩ : ∃ m, n - 15 = m := ⟨_, rfl⟩
  have HM := Lib.hid (show (allB (l)).length = m by rw [allB_length, HT.out]; exact hm15)
  have HM15 := Lib.hid hm15
  have hm9 : m ≤ 10000 := by omega
  clear hm15
  have hr1 := HRL.out w1 hb1
  with_reducible refine (all_sl A (l) c n m w1 HT.out hr1 (by omega) (by omega) hm HM15.out).mono ?_
  rintro e w2 ⟨A2, c2, rfl, ho2, hb2⟩
  have hb2 := hb1.trans (hb2.mono hb1.size)
  clear hr1
  have hr2 := HRL.out w2 hb2
  go_wp2_with fail
  with_reducible refine (refall_sl A (l) c n m w2 HT.out hr2 (by omega) (by omega) hm HM15.out).mono ?_
  rintro e w3 ⟨A3, c3, rfl, ho3, hb3⟩
  have ho2 := ownsRow_below ho2 hb3
  have hb3 := hb2.trans (hb3.mono hb2.size)
  clear hb2 hb1 hr2 HRL
  generalize allB (l) = L at *
  go_wp2_with fail
  have HB3 := Lib.hid hb3
  clear hb3
  go_loopw [25] (fun i wr => ∃ j : Nat, j ≤ m ∧ i = .int .i64 j ∧ ∃ q, wr = w3.drewN q) (fun i _ => m - (intOf i).toNat)
  case atStart => exact ⟨0, Nat.zero_le _, rfl, 0, rfl⟩
  case round =>
    obtain ⟨j, hj, rfl, q, rfl⟩ := hrel
    by_cases hlt : j < m
    · obtain ⟨g2, rfl, hc2⟩ := row_at ho2 (by omega)
      obtain ⟨g3, rfl, hc3⟩ := row_at ho3 (by omega)
      have hck2 := hc2 j (by rw [HM.out]; exact hlt)
      have hck3 := hc3 j (by rw [HM.out]; exact hlt)
      have hr0 := (L[j]'(by rw [HM.out]; exact hlt)).isLt
      clear hc2 hc3 ho2 ho3
      generalize (L[j]'(by rw [HM.out]; exact hlt)) = x at *
      go_wp2_with fail
      go_quiet (fail)
      go_wp2_with fail
      go_roundw
      case rel => exact ⟨j + 1, by omega, by go_num, _, rfl⟩
      case measure => simp [intOf]; omega
    · obtain rfl : j = m := by omega
      go_wp2
      go_ret
      exact ⟨rfl, below_drewN HB3.out _⟩
set_option maxHeartbeats 1000000 in
theorem alls_more (A : Option Addr) (c n : Nat) (l : List UInt8) (w : World) (hl : l.length = n) (hn : 10000 < n) (hc : n ≤ c) (hm : c ≤ 9223372036854775807) (hr : Rd w w.heap.size A l) :
    Calls Try.prog 5 #[.slice A n c] w fun e w' => e = .returned (.bool true) ∧ Below w.heap.size w w' := by
  have h1 : ¬ (n : Int) ≤ 10000 := by omega
  have h2 : (10000 : Int) < (n : Int) := by omega
  have h3 : (10000 : Int) ≤ (c : Int) := by omega
  have HT := Lib.hid (show (l.take 10000).length = 10000 by rw [List.length_take, hl]; omega)
  clear hl
  have hrl : ∀ w' : World, Below w.heap.size w w' → Rd w' w'.heap.size A (l.take 10000) := fun w' hb => ((hr.below hb).take 10000).more hb.size
  have HRL := Lib.hid hrl
  clear hrl hr
  go_enter Try.func5, Try.ntmps5
  go_wp2_with fail
  refine (shown_any _).mono ?_
  rintro e w1 ⟨rfl, hb1⟩
  go_wp2_with fail
  obtain ⟨m, hm15⟩ : ∃ m, 10000 - 15 = m := ⟨_, rfl⟩
  have HM := Lib.hid (show (allB (l.take 10000)).length = m by rw [allB_length, HT.out]; exact hm15)
  have HM15 := Lib.hid hm15
  have hm9 : m ≤ 10000 := by omega
  clear hm15
  have hr1 := HRL.out w1 hb1
  with_reducible refine (all_sl A (l.take 10000) c 10000 m w1 HT.out hr1 (by omega) (by omega) hm HM15.out).mono ?_
  rintro e w2 ⟨A2, c2, rfl, ho2, hb2⟩
  have hb2 := hb1.trans (hb2.mono hb1.size)
  clear hr1
  have hr2 := HRL.out w2 hb2
  go_wp2_with fail
  with_reducible refine (refall_sl A (l.take 10000) c 10000 m w2 HT.out hr2 (by omega) (by omega) hm HM15.out).mono ?_
  rintro e w3 ⟨A3, c3, rfl, ho3, hb3⟩
  have ho2 := ownsRow_below ho2 hb3
  have hb3 := hb2.trans (hb3.mono hb2.size)
  clear hb2 hb1 hr2 HRL
  generalize allB (l.take 10000) = L at *
  go_wp2_with fail
  have HB3 := Lib.hid hb3
  clear hb3
  go_loopw [25] (fun i wr => ∃ j : Nat, j ≤ m ∧ i = .int .i64 j ∧ ∃ q, wr = w3.drewN q) (fun i _ => m - (intOf i).toNat)
  case atStart => exact ⟨0, Nat.zero_le _, rfl, 0, rfl⟩
  case round =>
    obtain ⟨j, hj, rfl, q, rfl⟩ := hrel
    by_cases hlt : j < m
    · obtain ⟨g2, rfl, hc2⟩ := row_at ho2 (by omega)
      obtain ⟨g3, rfl, hc3⟩ := row_at ho3 (by omega)
      have hck2 := hc2 j (by rw [HM.out]; exact hlt)
      have hck3 := hc3 j (by rw [HM.out]; exact hlt)
      have hr0 := (L[j]'(by rw [HM.out]; exact hlt)).isLt
      clear hc2 hc3 ho2 ho3
      generalize (L[j]'(by rw [HM.out]; exact hlt)) = x at *
      go_wp2_with fail
      go_quiet (fail)
      go_wp2_with fail
      go_roundw
      case rel => exact ⟨j + 1, by omega, by go_num, _, rfl⟩
      case measure => simp [intOf]; omega
    · obtain rfl : j = m := by omega
      go_wp2
      go_ret
      exact ⟨rfl, below_drewN HB3.out _⟩
theorem walk (A0 : Option Addr) (c0 : Nat) (z0 : List Int) (w : World)
    (hr0 : RdV w w.heap.size A0 (z0.map (Value.int .u8))) (hc0 : z0.length ≤ c0) (hm0 : c0 ≤ maxLen) (hw0 : ∀ n ∈ z0, (Lit.int .u8 n).wf = true) :
    Calls Try.prog 5 #[.slice A0 z0.length c0] w fun e w' => e = .returned (.bool true) ∧ Below w.heap.size w w' := by
  rcases Nat.lt_or_ge 10000 z0.length with h | h
  · exact alls_more A0 c0 z0.length (bytesOf z0) w (bytesOf_length z0) h hc0 hm0 (rd_bytes hr0 hw0)
  · exact alls_few A0 c0 z0.length (bytesOf z0) w (bytesOf_length z0) h hc0 hm0 (rd_bytes hr0 hw0)

set_option maxRecDepth 100000 in
theorem lifted (os : Os) (started : os.Started) (H : Type) (enc : TypeId × Value → H) :
    ReturnsInHanded {} Try.checked os 5 .any (Rows.rollAllsSpec.pre6 enc Try.prog Try.f5 Rows.rollAllsRow.domain false) (Rows.rollAllsSpec.post enc Try.prog Try.f5 false true false false) := by
  refine returnsInHanded_of_change (C := Try.checked) own started (by kernel_rfl) Try.func5
    (ChangeSpec.witness6 (enc := enc) (C := Try.checked) false ⟨#[], #[.slice none 0 0], []⟩ 8 (by kernel_rfl) (by kernel_rfl) (by kernel_rfl) (by kernel_rfl)) ?_
  intro W base args ds gs before hval0 hW hcnd _
  have hval : ∀ (j : Nat) t v, Try.f5.params[j]? = some t → args[j]? = some v → Value.okWide Try.prog W .any base t v := hval0
  have hW' := hW
  obtain ⟨p, q, hA0, hV, rfl, hfz, hnd⟩ := hW
  have hA : DataW.TrodAll enc Try.prog W 0 (fun _ => true) true Try.f5.params.toList args.toList ds p := hA0
  rw [Try.params5] at hA hval
  obtain ⟨v0, vs0, d0, ds0, p0, q0, hargs, rfl, rfl, h0, r0⟩ := trodAll_cons hA
  obtain ⟨rfl, rfl, rfl⟩ := trodAll_nil r0
  obtain rfl : args = #[v0] := by cases args; simp_all
  obtain ⟨rfl, rfl⟩ := trodVars_none hV
  obtain ⟨A0, n0, c0, rfl⟩ := okWide_slice Try.underlying22 (hval 0 22 v0 rfl rfl)
  have k0 := h0
  have lt0 : ∀ x ∈ p0, x.block < W.heap.size := by obtain ⟨m, hm⟩ := k0; exact DataW.trod_lt m _ _ _ hm
  obtain ⟨fuel0, hf0⟩ := h0
  obtain ⟨z0, rfl, hr0, hc0, hm0, hw0⟩ := open_ints_arg Try.underlying22 Try.underlying5 (by kernel_rfl) hf0
  clear hA0 hval0
  simp only [List.append_nil] at hW'
  refine (walk A0 c0 z0 W hr0 hc0 hm0 hw0).mono fun e W' ⟨he, bel⟩ => ?_
  subst he
  exact ⟨_, rfl, _, _, _, [], _, [], hW', trodAll_mk1 (shut_bool Try.underlying4 _), (trodAll_cons_mk (Below.trod laidOut (by kernel_rfl) (of_decide_eq_true (by kernel_rfl)) k0 bel lt0) trodAll_mk0), rfl, bel.frame _, fun h => by cases h⟩

theorem over : Rows.rollAllsRow.holds Try.pinned (OpenSpec.ofChange Rows.rollAllsSpec) :=
  OpenClaim.holds_of_wide 5 Try.f5 rfl rfl rfl rfl rfl rfl rfl ⟨rfl, rfl, rfl, rfl, rfl⟩ rfl rfl rfl rfl rfl (by kernel_rfl) Try.func5 (by kernel_rfl)
    (of_decide_eq_true (by kernel_rfl)) (by unfold Func.isWrapper; first | (rw [if_pos (by decide +kernel)]; kernel_rfl) | (rw [if_neg (by decide +kernel)]; exact ⟨rfl, rfl⟩))
    (fun os started H enc _ => lifted os started H enc)

theorem proved : Rows.RollAllsSaid := over
#print axioms proved
end Go.Proofs.Ytoimhajijjhbiaa.rollAlls
