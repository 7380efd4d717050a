/-
  The sums of three lists of bytes of one length, and of the list that has their bytes xored, xored together are 0; for every three slices of bytes (their first 10,000 bytes, as many as all have).
-/
import Derived.Test.YteemebecllhldaaRows
import Derived.Test.YteemebecllhldaaOpen
import Derived.Test.YteemebecllhldaaCrcHead
import Derived.Test.YteemebecllhldaaArgB
import Derived.Test.YteemebecllhldaaLinMath
import Derived.WalkKit
import Derived.ProofKit
import Derived.OpenShut
import Derived.ShutString
import Derived.ChangeOld
import Derived.Below
namespace Go.Proofs.Yteemebecllhldaa.crcLinear
open Go.ChangeShapes Go.WideShapes Go.ChangeAt Go.RowKit
open Go.ChangeMaps (open_string shut_string)
set_option linter.unusedVariables false

theorem own : ownKnob Try.prog.godebug = none := by kernel_rfl
theorem laidOut : laidOutB Try.prog = true := by kernel_rfl

theorem run_min4 {P : Program} (w : World) (ts : Array TypeId) (t : TypeId) (x y z u : Int) : (Builtin.min_ ts t #[.int .i64 x, .int .i64 y, .int .i64 z, .int .i64 u]).run P w = .ok (.int .i64 (min (min (min x y) z) u)) w := by
  have e : ∀ a b : Int, (if b < a then b else a) = min a b := fun a b => by omega
  simp [Builtin.min_, Builtin.min2, e]
theorem lin_get (m : Nat) (a b c : List UInt8) (k : Nat) (hk : k < m) (ha : m ≤ a.length) (hb : m ≤ b.length) (hc : m ≤ c.length) :
    ∃ x y z d : UInt8, a[k]? = some x ∧ b[k]? = some y ∧ c[k]? = some z ∧ (dOf m a b c)[k]? = some d ∧ ((d.toNat : Nat) : Int) = bits .xor .u8 (bits .xor .u8 ((x.toNat : Nat) : Int) ((y.toNat : Nat) : Int)) ((z.toNat : Nat) : Int) := by
  refine ⟨a[k]'(by omega), b[k]'(by omega), c[k]'(by omega), (dOf m a b c)[k]'(by rw [dOf_length m a b c ha hb hc]; exact hk), by simp, by simp, by simp, by simp, ?_⟩
  rw [dOf_get m a b c k hk ha hb hc]
  have h1 := (a[k]'(by omega)).toNat_lt
  have h2 := (b[k]'(by omega)).toNat_lt
  have h3 := (c[k]'(by omega)).toNat_lt
  have h4 := ((a[k]'(by omega)) ^^^ (b[k]'(by omega))).toNat_lt
  rw [bits_xor_u8_nat _ _ (by omega) (by omega), ← UInt8.toNat_xor, bits_xor_u8_nat _ _ (by omega) (by omega), ← UInt8.toNat_xor]
theorem rowTo_next' (n : Nat) (D : List UInt8) (k : Nat) (d : UInt8) (h : D.length = n) (hd : D[k]? = some d) : (rowTo n D k).setIfInBounds k (.int .u8 (d.toNat : Int)) = rowTo n D (k + 1) := by
  obtain ⟨h1, h2⟩ := List.getElem?_eq_some_iff.1 hd
  subst h2
  exact rowTo_next n D k h (by omega)
theorem lin_zero (m : Nat) (a b c : List UInt8) (ha : m ≤ a.length) (hb : m ≤ b.length) (hc : m ≤ c.length) :
    bits .xor .u32 (bits .xor .u32 (bits .xor .u32 (((sumOf (a.take m)).toNat : Nat) : Int) (((sumOf (b.take m)).toNat : Nat) : Int)) (((sumOf (c.take m)).toNat : Nat) : Int)) (((sumOf (dOf m a b c)).toNat : Nat) : Int) = 0 := by
  have h := sum_linear (a.take m) (b.take m) (c.take m) (by simp; omega) (by simp; omega)
  have e : List.zipWith (· ^^^ ·) (List.zipWith (· ^^^ ·) (a.take m) (b.take m)) (c.take m) = dOf m a b c := rfl
  rw [e] at h
  have h1 := (sumOf (a.take m)).isLt
  have h2 := (sumOf (b.take m)).isLt
  have h3 := (sumOf (c.take m)).isLt
  have h4 := (sumOf (dOf m a b c)).isLt
  have h5 := (sumOf (a.take m) ^^^ sumOf (b.take m)).isLt
  have h6 := (sumOf (a.take m) ^^^ sumOf (b.take m) ^^^ sumOf (c.take m)).isLt
  rw [bits_xor_u32_nat _ _ (by omega) (by omega), ← xor_toNat, bits_xor_u32_nat _ _ (by omega) (by omega), ← xor_toNat, bits_xor_u32_nat _ _ (by omega) (by omega), ← xor_toNat, h]
  rfl
theorem rd_row {w : World} {g : Nat} {D : List UInt8} (h : Blk w g 5 (bv D).toArray) : Rd w w.heap.size (some ⟨g, 0, none⟩) D := fun _ => by
  refine ⟨g, 0, rfl, h.lt, fun j hj => ?_⟩
  rw [h.cell, Nat.zero_add, List.getElem?_toArray]
  exact bv_get hj
theorem rd_at {w w' : World} {B : Nat} {A : Option Addr} {l : List UInt8} (h : Rd w B A l) (hb : Below B w w') {k : Nat} {x : UInt8} (hx : l[k]? = some x) :
    ∃ g off, A = some ⟨g, off, none⟩ ∧ g < B ∧ w'.cell? ⟨g, off + k, none⟩ = some (.int .u8 x.toNat) := by
  obtain ⟨h1, h2⟩ := List.getElem?_eq_some_iff.1 hx
  obtain ⟨g, off, e, hg, hc⟩ := (h.below hb) (by omega)
  exact ⟨g, off, e, hg, by rw [hc k h1, h2]⟩
attribute [local go_sem ↓] Go.wp_at_zero Go.wp_at_succ
set_option maxHeartbeats 1000000 in
theorem linear_walk (A B C : Option Addr) (ca cb cc na nb nc : Nat) (a b c : List UInt8) (w : World) (hna : a.length = na) (hnb : b.length = nb) (hnc : c.length = nc)
    (ha : Rd w w.heap.size A a) (hb : Rd w w.heap.size B b) (hc : Rd w w.heap.size C c) (hca : na ≤ ca) (hcb : nb ≤ cb) (hcc : nc ≤ cc) (hma : ca ≤ maxLen) (hmb : cb ≤ maxLen) (hmc : cc ≤ maxLen) :
    Calls Try.prog 8 #[.slice A na ca, .slice B nb cb, .slice C nc cc] w fun e w' => e = .returned (.bool true) ∧ Below w.heap.size w w' := by
  unfold maxLen at hma hmb hmc
  go_enter Try.func8, Try.ntmps8
  go_wp2_with fail
  refine (shown_any _).mono ?_
  rintro e w1 ⟨rfl, hb1⟩
  obtain ⟨m, hm⟩ : ∃ m, m = min (min (min na nb) nc) 10000 := ⟨_, rfl⟩
  have hma1 : m ≤ na := by omega
  have hmb1 : m ≤ nb := by omega
  have hmc1 : m ≤ nc := by omega
  have hm1 : m ≤ 10000 := by omega
  have hmin : (Builtin.min_ #[3, 3, 3, 3] 3 #[Value.int IntKind.i64 na, Value.int IntKind.i64 nb, Value.int IntKind.i64 nc, Value.int IntKind.i64 10000]).run Try.prog w1 = .ok (.int .i64 (m : Int)) w1 := by
    rw [run_min4]; congr 2; omega
  clear hm
  obtain ⟨i0, hi, hz0, hz1, hz2⟩ := info_parts info_u8
  have hmk := run_make (P := Try.prog) w1 23 5 i0 (.int .u8 0) Try.underlying23 hi hz0 .i64 .i64 (m : Int) (m : Int) (by omega) (by omega) (by rw [hz2]; omega) (by omega)
  go_wp2_with fail
  have HNA := Lib.hid hna
  have HNB := Lib.hid hnb
  have HNC := Lib.hid hnc
  have hD : (dOf m a b c).length = m := dOf_length m a b c (by omega) (by omega) (by omega)
  have HD := Lib.hid hD
  have hbel : Below w.heap.size w (w1.alloc (.cells (madeCells #[Value.int IntKind.u8 0] m) 5)) := hb1.alloc hb1.size _
  have hblk : Blk (w1.alloc (.cells (madeCells #[Value.int IntKind.u8 0] m) 5)) w1.heap.size 5 (rowTo m (dOf m a b c) 0) := by
    rw [← rowTo_zero]; exact Blk.new _ _ _
  have hwg := hb1.size
  generalize w1.alloc (.cells (madeCells #[Value.int IntKind.u8 0] m) 5) = w2 at *
  generalize w1.heap.size = g at *
  clear hmk hmin hb1 hi hz0 hz1 hz2 hD hna hnb hnc
  go_loopw [10, 23] (fun _ i wr => ∃ k : Nat, k ≤ m ∧ i = .int .i64 k ∧ Blk wr g 5 (rowTo m (dOf m a b c) k) ∧ Below w.heap.size w wr)
    (fun _ i _ => m - (intOf i).toNat)
  case atStart => exact ⟨0, Nat.zero_le _, rfl, hblk, hbel⟩
  case round =>
    clear hblk hbel
    obtain ⟨k, hk, rfl, hblk, hbel⟩ := hrel
    by_cases hlt : k < m
    · obtain ⟨x, y, z, d, ea, eb, ec, ed, exd⟩ := lin_get m a b c k hlt (by rw [HNA.out]; omega) (by rw [HNB.out]; omega) (by rw [HNC.out]; omega)
      obtain ⟨ga, oa, rfl, hga, qa⟩ := rd_at ha hbel ea
      obtain ⟨gb, ob, rfl, hgb, qb⟩ := rd_at hb hbel eb
      obtain ⟨gc, oc, rfl, hgc, qc⟩ := rd_at hc hbel ec
      have HNX := Lib.hid (rowTo_next' m (dOf m a b c) k d HD.out ed)
      have HX := Lib.hid exd
      clear ea eb ec ed exd
      have qd := hblk.cell k
      rw [rowTo_at _ _ _ HD.out hlt] at qd
      have qf := hblk.frozen k
      have hi1 : (0 : Int) ≤ (k : Int) := by omega
      have hia : (k : Int) < (na : Int) := by omega
      have hib : (k : Int) < (nb : Int) := by omega
      have hic : (k : Int) < (nc : Int) := by omega
      have him : (k : Int) < (m : Int) := by omega
      have HBLK := Lib.hid hblk
      have HBEL := Lib.hid hbel
      clear hblk hbel ha hb hc
      go_wp2_with fail
      go_region
      go_wp2_with fail
      go_roundw
      case rel =>
        refine ⟨k + 1, by omega, by go_num, ?_, ?_⟩
        · have h := HBLK.out.set_ k (.int .u8 ((d.toNat : Nat) : Int))
          rw [HNX.out, HX.out] at h
          exact h
        · exact below_drew (HBEL.out.setCell hwg _)
      case measure => simp [intOf]; omega
    · obtain rfl : k = m := by omega
      rw [rowTo_full _ _ HD.out] at hblk
      have L0 := Lib.hid (lin_zero k a b c (by rw [HNA.out]; omega) (by rw [HNB.out]; omega) (by rw [HNC.out]; omega))
      have C1 := Lib.hid (sum_from wr A (a.take k) ca k (by rw [List.length_take, HNA.out]; omega) (((ha.below hbel).more hbel.size).take k) (by rw [List.length_take, HNA.out]; omega))
      have C2 := Lib.hid (sum_from wr B (b.take k) cb k (by rw [List.length_take, HNB.out]; omega) (((hb.below hbel).more hbel.size).take k) (by rw [List.length_take, HNB.out]; omega))
      have C3 := Lib.hid (sum_from wr C (c.take k) cc k (by rw [List.length_take, HNC.out]; omega) (((hc.below hbel).more hbel.size).take k) (by rw [List.length_take, HNC.out]; omega))
      have C4 := Lib.hid (sum_from wr (some ⟨g, 0, none⟩) (dOf k a b c) k k HD.out (rd_row hblk) (by rw [HD.out]; omega))
      generalize (((sumOf (a.take k)).toNat : Nat) : Int) = S1 at *
      generalize (((sumOf (b.take k)).toNat : Nat) : Int) = S2 at *
      generalize (((sumOf (c.take k)).toNat : Nat) : Int) = S3 at *
      generalize (((sumOf (dOf k a b c)).toNat : Nat) : Int) = S4 at *
      have l0 := L0.out
      have q1 : (k : Int) ≤ (ca : Int) := by omega
      have q2 : (k : Int) ≤ (cb : Int) := by omega
      have q3 : (k : Int) ≤ (cc : Int) := by omega
      have q0 : (0 : Int) ≤ (k : Int) := by omega
      have hb0 := below_drew (Below.refl wr.heap.size wr)
      have HBEL := Lib.hid hbel
      clear hblk hbel ha hb hc
      go_wp2_with fail
      go_region_held3 (fun _ => True) (exact trivial) (first
        | (go_at_call 10; (with_reducible refine (C1.out _ (by assumption)).mono ?_); rintro e x1 ⟨rfl, hx1⟩)
        | (go_at_call 10; (with_reducible refine (C2.out _ (by assumption)).mono ?_); rintro e x2 ⟨rfl, hx2⟩)
        | (go_at_call 10; (with_reducible refine (C3.out _ (by assumption)).mono ?_); rintro e x3 ⟨rfl, hx3⟩)
        | (go_at_call 10; (with_reducible refine (C4.out _ (by assumption)).mono ?_); rintro e x4 ⟨rfl, hx4⟩))
      go_wp2_with fail
      go_ret
      exact ⟨rfl, HBEL.out.trans (hx4.mono HBEL.out.size)⟩
theorem walk (A0 : Option Addr) (c0 : Nat) (z0 : List Int) (A1 : Option Addr) (c1 : Nat) (z1 : List Int) (A2 : Option Addr) (c2 : Nat) (z2 : List Int) (w : World) 
    (hr0 : RdV w w.heap.size A0 (z0.map (Value.int .u8))) (hc0 : z0.length ≤ c0) (hm0 : c0 ≤ maxLen) (hw0 : ∀ n ∈ z0, (Lit.int .u8 n).wf = true)
    (hr1 : RdV w w.heap.size A1 (z1.map (Value.int .u8))) (hc1 : z1.length ≤ c1) (hm1 : c1 ≤ maxLen) (hw1 : ∀ n ∈ z1, (Lit.int .u8 n).wf = true)
    (hr2 : RdV w w.heap.size A2 (z2.map (Value.int .u8))) (hc2 : z2.length ≤ c2) (hm2 : c2 ≤ maxLen) (hw2 : ∀ n ∈ z2, (Lit.int .u8 n).wf = true) :
    Calls Try.prog 8 #[.slice A0 z0.length c0, .slice A1 z1.length c1, .slice A2 z2.length c2] w fun e w' => e = .returned (.bool true) ∧ Below w.heap.size w w' :=
  linear_walk A0 A1 A2 c0 c1 c2 _ _ _ _ _ _ w (bytesOf_length z0) (bytesOf_length z1) (bytesOf_length z2) (rd_bytes hr0 hw0) (rd_bytes hr1 hw1) (rd_bytes hr2 hw2) hc0 hc1 hc2 hm0 hm1 hm2

set_option maxRecDepth 100000 in
theorem lifted (os : Os) (started : os.Started) (H : Type) (enc : TypeId × Value → H) :
    ReturnsInHanded {} Try.checked os 8 .any (Rows.crcLinearSpec.pre6 enc Try.prog Try.f8 Rows.crcLinearRow.domain false) (Rows.crcLinearSpec.post enc Try.prog Try.f8 false true false false) := by
  refine returnsInHanded_of_change (C := Try.checked) own started (by kernel_rfl) Try.func8
    (ChangeSpec.witness6 (enc := enc) (C := Try.checked) false ⟨#[], #[.slice none 0 0, .slice none 0 0, .slice none 0 0], []⟩ 8 (by kernel_rfl) (by kernel_rfl) (by kernel_rfl) (by kernel_rfl)) ?_
  intro W base args ds gs before hval0 hW hcnd _
  have hval : ∀ (j : Nat) t v, Try.f8.params[j]? = some t → args[j]? = some v → Value.okWide Try.prog W .any base t v := hval0
  have hW' := hW
  obtain ⟨p, q, hA0, hV, rfl, hfz, hnd⟩ := hW
  have hA : DataW.TrodAll enc Try.prog W 0 (fun _ => true) true Try.f8.params.toList args.toList ds p := hA0
  rw [Try.params8] at hA hval
  obtain ⟨v0, vs0, d0, ds0, p0, q0, hargs, rfl, rfl, h0, r0⟩ := trodAll_cons hA
  obtain ⟨v1, vs1, d1, ds1, p1, q1, rfl, rfl, rfl, h1, r1⟩ := trodAll_cons r0
  obtain ⟨v2, vs2, d2, ds2, p2, q2, rfl, rfl, rfl, h2, r2⟩ := trodAll_cons r1
  obtain ⟨rfl, rfl, rfl⟩ := trodAll_nil r2
  obtain rfl : args = #[v0, v1, v2] := by cases args; simp_all
  obtain ⟨rfl, rfl⟩ := trodVars_none hV
  obtain ⟨A0, n0, c0, rfl⟩ := okWide_slice Try.underlying23 (hval 0 23 v0 rfl rfl)
  have k0 := h0
  have lt0 : ∀ x ∈ p0, x.block < W.heap.size := by obtain ⟨m, hm⟩ := k0; exact DataW.trod_lt m _ _ _ hm
  obtain ⟨fuel0, hf0⟩ := h0
  obtain ⟨z0, rfl, hr0, hc0, hm0, hw0⟩ := open_ints_arg Try.underlying23 Try.underlying5 (by kernel_rfl) hf0
  obtain ⟨A1, n1, c1, rfl⟩ := okWide_slice Try.underlying23 (hval 1 23 v1 rfl rfl)
  have k1 := h1
  have lt1 : ∀ x ∈ p1, x.block < W.heap.size := by obtain ⟨m, hm⟩ := k1; exact DataW.trod_lt m _ _ _ hm
  obtain ⟨fuel1, hf1⟩ := h1
  obtain ⟨z1, rfl, hr1, hc1, hm1, hw1⟩ := open_ints_arg Try.underlying23 Try.underlying5 (by kernel_rfl) hf1
  obtain ⟨A2, n2, c2, rfl⟩ := okWide_slice Try.underlying23 (hval 2 23 v2 rfl rfl)
  have k2 := h2
  have lt2 : ∀ x ∈ p2, x.block < W.heap.size := by obtain ⟨m, hm⟩ := k2; exact DataW.trod_lt m _ _ _ hm
  obtain ⟨fuel2, hf2⟩ := h2
  obtain ⟨z2, rfl, hr2, hc2, hm2, hw2⟩ := open_ints_arg Try.underlying23 Try.underlying5 (by kernel_rfl) hf2
  clear hA0 hval0
  simp only [List.append_nil] at hW'
  refine (walk A0 c0 z0 A1 c1 z1 A2 c2 z2 W hr0 hc0 hm0 hw0 hr1 hc1 hm1 hw1 hr2 hc2 hm2 hw2).mono fun e W' ⟨he, bel⟩ => ?_
  subst he
  exact ⟨_, rfl, _, _, _, [], _, [], hW', trodAll_mk1 (shut_bool Try.underlying4 _), (trodAll_cons_mk (Below.trod laidOut (by kernel_rfl) (of_decide_eq_true (by kernel_rfl)) k0 bel lt0) (trodAll_cons_mk (Below.trod laidOut (by kernel_rfl) (of_decide_eq_true (by kernel_rfl)) k1 bel lt1) (trodAll_cons_mk (Below.trod laidOut (by kernel_rfl) (of_decide_eq_true (by kernel_rfl)) k2 bel lt2) trodAll_mk0))), rfl, bel.frame _, fun h => by cases h⟩

theorem over : Rows.crcLinearRow.holds Try.pinned (OpenSpec.ofChange Rows.crcLinearSpec) :=
  OpenClaim.holds_of_wide 8 Try.f8 rfl rfl rfl rfl rfl rfl rfl ⟨rfl, rfl, rfl, rfl, rfl⟩ rfl rfl rfl rfl rfl (by kernel_rfl) Try.func8 (by kernel_rfl)
    (of_decide_eq_true (by kernel_rfl)) (by unfold Func.isWrapper; first | (rw [if_pos (by decide +kernel)]; kernel_rfl) | (rw [if_neg (by decide +kernel)]; exact ⟨rfl, rfl⟩))
    (fun os started H enc _ => lifted os started H enc)

theorem proved : Rows.CrcLinearSaid := over
#print axioms proved
end Go.Proofs.Yteemebecllhldaa.crcLinear
