/-
  Bytes that a filter told, or that came to it, are the caller's: for all numbers of bits and all bytes. No conditions.
-/
import Derived.Test.YtjahlachoabmkaaRows
import Derived.Test.YtjahlachoabmkaaOpen
import Derived.Test.YtjahlachoabmkaaBloomShown
import Derived.Test.YtjahlachoabmkaaArgB
import Derived.Test.YtjahlachoabmkaaBloomRow
import Derived.Test.YtjahlachoabmkaaHeldKit
import Derived.WalkKit
import Derived.ProofKit
import Derived.OpenShut
import Derived.ShutString
import Derived.ChangeOld
import Derived.Below
namespace Go.Proofs.Ytjahlachoabmkaa.bloomOwn
open Go.ChangeShapes Go.WideShapes Go.ChangeAt Go.RowKit
open Go.ChangeMaps (open_string shut_string)
set_option linter.unusedVariables false

theorem own : ownKnob Try.prog.godebug = none := by kernel_rfl
theorem laidOut : laidOutB Try.prog = true := by kernel_rfl

set_option maxRecDepth 100000 in
set_option maxHeartbeats 1000000 in
theorem own_long (bits : Nat) (hb : bits < 65536) (A : Option Addr) (c k : Nat) (hk : 10000 < k) (w : World) :
    Calls Try.prog 6 #[.int .u16 bits, .slice A k c] w fun e w' => e = .returned (.bool true) ∧ Below w.heap.size w w' := by
  have k1 : ∀ W, Calls Try.prog 9 #[.int .i64 bits, .int .i64 3] W _ := fun W => new_ok bits 3 (by omega) (by omega) W
  have K1 := Lib.hid k1
  have hki : (10000 : Int) < (k : Int) := by omega
  clear k1
  go_enter Try.func6, Try.ntmps6
  go_wp2_with fail
  refine (shown_any _).mono ?_
  rintro e w1 ⟨rfl, hb1⟩
  go_wp2_with fail
  refine (K1.out _).mono ?_
  rintro e w2 ⟨v, g, rfl, hv2, hg2, h2, hb2⟩
  have H := Lib.hid (hb1.trans (hb2.mono hb1.size))
  clear hb1 hb2 h2 hv2 hg2
  go_wp2_with fail
  go_ret
  exact ⟨rfl, H.out⟩
set_option maxRecDepth 100000 in
set_option maxHeartbeats 2000000 in
theorem own_walk (bits : Nat) (hb : bits < 65536) (A : Option Addr) (c k : Nat) (l : List UInt8) (hl : l.length = k) (hk : k ≤ 10000) (w : World) (hr : Rd w w.heap.size A l) :
    Calls Try.prog 6 #[.int .u16 bits, .slice A k c] w fun e w' => e = .returned (.bool true) ∧ Below w.heap.size w w' := by
  obtain ⟨i0, hi, hz0, hz1, hz2⟩ := info_parts bl_byte
  obtain ⟨m, hm⟩ : ∃ m, (bits + 7) / 8 = m := ⟨_, rfl⟩
  have k1 : ∀ W, Calls Try.prog 9 #[.int .i64 bits, .int .i64 3] W _ := fun W => new_ok bits 3 (by omega) (by omega) W
  have K1 := Lib.hid k1
  have HL := Lib.hid hl
  have HR := Lib.hid hr
  have hki : ¬ (10000 : Int) < (k : Int) := by omega
  have hk9 : k ≤ 9223372036854775807 := by omega
  clear k1 hl hr
  go_enter Try.func6, Try.ntmps6
  go_wp2_with fail
  refine (shown_any _).mono ?_
  rintro e w1 ⟨rfl, hb1⟩
  go_wp2_with fail
  refine (K1.out _).mono ?_
  rintro e w2 ⟨v, g, rfl, hv2, hg2, h2, hb2⟩
  have hx2 := hb1.trans (hb2.mono hb1.size)
  have hvl := h2.vb.lt
  have hgl := h2.gb.lt
  have H2 := Lib.hid h2
  have HX2 := Lib.hid hx2
  have hown : (w2.alloc (.cells #[] 5)).ownsRow w2.heap.size 5 1 (.slice (some ⟨w2.heap.size, 0, none⟩) 0 0) 0 [] := World.ownsRow_lit w2 #[] 0 (Nat.le_refl _) (by simp [maxLen]) rfl
  have hba := (Below.refl w2.heap.size w2).alloc (Nat.le_refl _) (.cells #[] 5)
  have hra := HR.out.below (hx2.trans (hba.mono hx2.size))
  have HGW := Lib.hid (And.intro (show w.heap.size ≤ g from Nat.le_trans hb1.size hg2) (show w.heap.size ≤ v from Nat.le_trans hb1.size hv2))
  clear h2 hx2 hb1 hb2 hv2 hg2
  go_wp2_with (at_builtin; refine wpList_append_more _ rfl (.tmp 41) (.tmp 42) 37 rfl w2.heap.size 5 i0 Try.underlying37 hi hz0 hz1 hz2 _ 0 [] rfl hown w.heap.size A c k l rfl HL.out hra (by rw [HL.out]; omega) hba.size ?_)
  intro A3 c3 w3 ho3 hg3
  have hb3 : Below w2.heap.size w2 w3 := hba.grown hg3 hba.size (fun g hg => (hown.lt g hg).1)
  have h3 := H2.out.on hb3
  have HO3 := Lib.hid (show w3.ownsRow w2.heap.size 5 1 (.slice A3 k c3) k (bv l) from ho3)
  have hor := or_ok v g bits 3 _ w3 h3 A3 l k c3 HL.out hk9 (fun W hW => Rd.of_own (ownsRow_grown HO3.out hW (fun g' e e' => by injection e with e; have := (HO3.out.lt g' e').1; omega)))
  have HOR := Lib.hid hor
  have HB3 := Lib.hid hb3
  have HX3 := Lib.hid (HX2.out.trans (hb3.mono HX2.out.size))
  clear hor h3 hb3 ho3 hg3 hown hba hra hi hz0 hz1 hz2
  go_wp2_with fail
  refine HOR.out.mono ?_
  rintro e w4 ⟨⟨x4, rfl⟩, h4, hg4⟩
  obtain ⟨S, hS⟩ : ∃ S, S = orS (fun _ => false) l := ⟨_, rfl⟩
  rw [← hS] at h4
  have hx4 : Below w.heap.size w w4 := HX3.out.grown hg4 HX3.out.size (fun k e => by injection e with e; have := HGW.out; omega)
  have ho4 := ownsRow_grown HO3.out hg4 (fun g' e e' => by injection e with e; have := (HO3.out.lt g' e').1; omega)
  have s1 := str_of ho4 HL.out
  have s2 := run_str (P := Try.prog) 37 9 5 Try.underlying37 Try.underlying5 Try.underlying9 (HR.out.below hx4) c
  rw [HL.out] at s2
  have H4 := Lib.hid h4
  have HX4 := Lib.hid hx4
  have HO4 := Lib.hid ho4
  clear h4 hx4 ho4 hg4 hS
  go_wp2_with fail
  refine (bytes_ok v g bits 3 _ _ H4.out).mono ?_
  rintro e w5 ⟨A5, c5, rfl, ho5, hb5⟩
  have HM := Lib.hid hm
  rw [hm] at ho5 ⊢
  have H5 := Lib.hid (H4.out.on hb5)
  have HX5 := Lib.hid (HX4.out.trans (hb5.mono HX4.out.size))
  have HO5 := Lib.hid (ownsRow_below HO4.out hb5)
  have HP5 := Lib.hid ho5
  clear ho5 hb5 s1 s2 hm
  go_wp2_with fail
  go_loopw [56] (fun i wr => ∃ q : Nat, q ≤ k ∧ i = .int .i64 q ∧ w5.grownBy wr (Value.slice A3 k c3).ownBlock ∧ ∃ l', wr.ownsRow w2.heap.size 5 1 (.slice A3 k c3) k (bv l'))
    (fun i _ => k - (intOf i).toNat)
  case atStart => exact ⟨0, Nat.zero_le _, rfl, World.grownBy.refl _ _, l, HO5.out⟩
  case round =>
    obtain ⟨q, hq, rfl, hgr, l', hol⟩ := hrel
    by_cases hlt : q < k
    · obtain ⟨ga, x, hA3, hob, hcq, hfq, hgal, hgab⟩ := own_xor hol hlt
      have hset := own_set (j := q) hol (g := ga) (x ^^^ 255)
      have hcn : (k : Int) ≤ (c3 : Int) := by have := ownsRow_form hol; obtain ⟨_, _, e, h1, _⟩ := this; injection e with _ _ e; omega
      have hgr2 : w5.grownBy (wr.setCell ⟨ga, q, none⟩ (.int .u8 ((x ^^^ 255 : UInt8).toNat : Nat))) (Value.slice A3 k c3).ownBlock := gby_trans hgr (by rw [hob]; exact grownBy_cell _ _ _ _)
      have hx := xor_255 x
      have HSET := Lib.hid hset
      have HGR := Lib.hid hgr2
      have hi1 : (0 : Int) ≤ (q : Int) := by omega
      have hi2 : (q : Int) < (k : Int) := by omega
      have HOB := Lib.hid hob
      clear hset hgr2 hgr hol hob
      subst hA3
      go_wp2
      go_roundw
      case rel => exact ⟨q + 1, by omega, by go_num, HGR.out, HSET.out⟩
      case measure => simp [intOf]; omega
    · obtain rfl : k = q := by omega
      have h6 := H5.out.row HO5.out hgr hvl hgl
      have hp6 := ownsRow_grown HP5.out hgr (fun g' e e' => by have h1 := (HO4.out.lt g' e).2; have h2 := (HP5.out.lt g' e').1; omega)
      have hx6 : Below w.heap.size w wr := HX5.out.grown hgr HX5.out.size (fun k e => by have h1 := (HO5.out.lt k e).1; have h2 := HX2.out.size; omega)
      have HVG := Lib.hid (And.intro H4.out.vb.lt H4.out.gb.lt)
      have H6 := Lib.hid h6
      have HP6 := Lib.hid hp6
      have HX6 := Lib.hid hx6
      clear h6 hp6 hx6 hgr hol l' hvl hgl
      go_wp2_with fail
      refine (bytes_ok v g bits 3 _ _ H6.out).mono ?_
      rintro e w7 ⟨A7, c7, rfl, ho7, hb7⟩
      rw [HM.out] at ho7 ⊢
      have H7 := Lib.hid (H6.out.on hb7)
      have HX7 := Lib.hid (HX6.out.trans (hb7.mono HX6.out.size))
      have HP7 := Lib.hid (ownsRow_below HP6.out hb7)
      have HO7 := Lib.hid ho7
      have hmm : m ≤ 9223372036854775807 := by have := HM.out; omega
      clear ho7 hb7
      go_wp2_with fail
      go_loopw [70] (fun i wz => ∃ q : Nat, q ≤ m ∧ i = .int .i64 q ∧ w7.grownBy wz (Value.slice A5 m c5).ownBlock ∧ ∃ l', wz.ownsRow w4.heap.size 5 1 (.slice A5 m c5) m (bv l'))
        (fun i _ => m - (intOf i).toNat)
      case atStart => exact ⟨0, Nat.zero_le _, rfl, World.grownBy.refl _ _, _, HP7.out⟩
      case round =>
        obtain ⟨q, hq, rfl, hgr, l', hol⟩ := hrel
        by_cases hlt : q < m
        · obtain ⟨ga, x, hA5, hob, hcq, hfq, hgal, hgab⟩ := own_xor hol hlt
          have hset := own_set (j := q) hol (g := ga) (x ^^^ 255)
          have hcn : (m : Int) ≤ (c5 : Int) := by have := ownsRow_form hol; obtain ⟨_, _, e, h1, _⟩ := this; injection e with _ _ e; omega
          have hgr2 : w7.grownBy (wr.setCell ⟨ga, q, none⟩ (.int .u8 ((x ^^^ 255 : UInt8).toNat : Nat))) (Value.slice A5 m c5).ownBlock := gby_trans hgr (by rw [hob]; exact grownBy_cell _ _ _ _)
          have hx := xor_255 x
          have HSET := Lib.hid hset
          have HGR := Lib.hid hgr2
          have hi1 : (0 : Int) ≤ (q : Int) := by omega
          have hi2 : (q : Int) < (m : Int) := by omega
          have HOB := Lib.hid hob
          clear hset hgr2 hgr hol hob
          subst hA5
          go_wp2
          go_roundw
          case rel => exact ⟨q + 1, by omega, by go_num, HGR.out, HSET.out⟩
          case measure => simp [intOf]; omega
        · obtain rfl : m = q := by omega
          have h8 := H7.out.row HP7.out hgr HVG.out.1 HVG.out.2
          have ho8 := ownsRow_grown HO7.out hgr (fun g' e e' => by have h1 := (HP6.out.lt g' e).2; have h2 := (HO7.out.lt g' e').1; omega)
          have hx8 : Below w.heap.size w wr := HX7.out.grown hgr HX7.out.size (fun k e => by have h1 := (HP7.out.lt k e).1; have h2 := HX4.out.size; omega)
          have SY := Lib.hid (show ∀ W, Below wr.heap.size wr W → (convert 37 9 (.slice A7 m c7)).run Try.prog W = .ok (.string ⟨(pk bits S).toArray⟩) W from fun W hW => str_of (ownsRow_below ho8 hW) (by rw [pk_length, HM.out]))
          have CB := Lib.hid (show ∀ W, Below wr.heap.size wr W → Calls Try.prog 17 #[.pointer (some ⟨v, 0, none⟩)] W _ from fun W hW => bytes_ok v g bits 3 S W (h8.on hW))
          have HX8 := Lib.hid hx8
          have hmi : ((bits : Int) + 7) / 8 = (m : Int) := by have := HM.out; omega
          have hbw : Below wr.heap.size wr wr.drew := ⟨rfl, rfl, rfl, Nat.le_refl _, fun _ _ => rfl⟩
          have hin0 : IntKind.i64.wrap (bits : Int) = (bits : Int) := IntWalk.i64_in _ (by omega)
          have hin : IntKind.i64.wrap ((bits : Int) + 7) = (bits : Int) + 7 := IntWalk.i64_in _ (by omega)
          have hdv : ((bits : Int) + 7).tdiv 8 = (m : Int) := by rw [Int.tdiv_eq_ediv_of_nonneg (by omega)]; exact hmi
          have hinm : IntKind.i64.wrap (m : Int) = (m : Int) := IntWalk.i64_in _ (by omega)
          clear hmi
          clear h8 ho8 hx8 hgr hol l'
          go_wp2_with fail
          first | (go_region_held (fun w' => (convert 37 9 (.slice A7 m c7)).run Try.prog w' = .ok (.string ⟨(pk bits S).toArray⟩) w') (exact SY.out _ (by assumption)) (first
            | (go_at_call 17; (with_reducible refine (CB.out _ (by assumption)).mono ?_); rintro e w9 ⟨A9, c9, rfl, ho9, hb9⟩; have hs9 := str_of ho9 (by rw [pk_length]); have hx9 := hbw.trans (hb9.mono hbw.size); rw [HM.out] at hs9 ⊢))) | fail
          go_wp2_with fail
          go_ret
          exact ⟨rfl, HX8.out.trans (hx9.mono HX8.out.size)⟩
theorem walk (a0 : Int) (A1 : Option Addr) (c1 : Nat) (z1 : List Int) (w : World) (w0 : (Lit.int .u16 a0).wf = true)
    (hr1 : RdV w w.heap.size A1 (z1.map (Value.int .u8))) (hc1 : z1.length ≤ c1) (hm1 : c1 ≤ maxLen) (hw1 : ∀ n ∈ z1, (Lit.int .u8 n).wf = true) :
    Calls Try.prog 6 #[.int .u16 a0, .slice A1 z1.length c1] w fun e w' => e = .returned (.bool true) ∧ Below w.heap.size w w' := by
  have b := bounds_u16 w0
  obtain ⟨n, rfl⟩ : ∃ n : Nat, a0 = n := ⟨a0.toNat, by omega⟩
  by_cases h : 10000 < z1.length
  · exact own_long n (by omega) A1 c1 _ h w
  · exact own_walk n (by omega) A1 c1 _ _ (bytesOf_length z1) (by omega) w (rd_bytes hr1 hw1)

set_option maxRecDepth 100000 in
theorem lifted (os : Os) (started : os.Started) (H : Type) (enc : TypeId × Value → H) :
    ReturnsInHanded {} Try.checked os 6 .any (Rows.bloomOwnSpec.pre6 enc Try.prog Try.f6 Rows.bloomOwnRow.domain false) (Rows.bloomOwnSpec.post enc Try.prog Try.f6 false true false false) := by
  refine returnsInHanded_of_change (C := Try.checked) own started (by kernel_rfl) Try.func6
    (ChangeSpec.witness6 (enc := enc) (C := Try.checked) false ⟨#[], #[.int .u16 0, .slice none 0 0], []⟩ 8 (by kernel_rfl) (by kernel_rfl) (by kernel_rfl) (by kernel_rfl)) ?_
  intro W base args ds gs before hval0 hW hcnd _
  have hval : ∀ (j : Nat) t v, Try.f6.params[j]? = some t → args[j]? = some v → Value.okWide Try.prog W .any base t v := hval0
  have hW' := hW
  obtain ⟨p, q, hA0, hV, rfl, hfz, hnd⟩ := hW
  have hA : DataW.TrodAll enc Try.prog W 0 (fun _ => true) true Try.f6.params.toList args.toList ds p := hA0
  rw [Try.params6] at hA hval
  obtain ⟨v0, vs0, d0, ds0, p0, q0, hargs, rfl, rfl, h0, r0⟩ := trodAll_cons hA
  obtain ⟨v1, vs1, d1, ds1, p1, q1, rfl, rfl, rfl, h1, r1⟩ := trodAll_cons r0
  obtain ⟨rfl, rfl, rfl⟩ := trodAll_nil r1
  obtain rfl : args = #[v0, v1] := by cases args; simp_all
  obtain ⟨rfl, rfl⟩ := trodVars_none hV
  obtain ⟨a0, rfl, rfl, rfl, w0⟩ := open_int Try.underlying49 (hval 0 49 v0 rfl rfl) h0
  obtain ⟨A1, n1, c1, rfl⟩ := okWide_slice Try.underlying37 (hval 1 37 v1 rfl rfl)
  have k1 := h1
  have lt1 : ∀ x ∈ p1, x.block < W.heap.size := by obtain ⟨m, hm⟩ := k1; exact DataW.trod_lt m _ _ _ hm
  obtain ⟨fuel1, hf1⟩ := h1
  obtain ⟨z1, rfl, hr1, hc1, hm1, hw1⟩ := open_ints_arg Try.underlying37 Try.underlying5 (by kernel_rfl) hf1
  clear hA0 hval0
  simp only [List.append_nil] at hW'
  refine (walk a0 A1 c1 z1 W w0 hr1 hc1 hm1 hw1).mono fun e W' ⟨he, bel⟩ => ?_
  subst he
  exact ⟨_, rfl, _, _, _, [], _, [], hW', trodAll_mk1 (shut_bool Try.underlying4 _), (trodAll_cons_mk (shut_int Try.underlying49 w0) (trodAll_cons_mk (Below.trod laidOut (by kernel_rfl) (of_decide_eq_true (by kernel_rfl)) k1 bel lt1) trodAll_mk0)), rfl, bel.frame _, fun h => by cases h⟩

theorem over : Rows.bloomOwnRow.holds Try.pinned (OpenSpec.ofChange Rows.bloomOwnSpec) :=
  OpenClaim.holds_of_wide 6 Try.f6 rfl rfl rfl rfl rfl rfl rfl ⟨rfl, rfl, rfl, rfl, rfl⟩ rfl rfl rfl rfl rfl (by kernel_rfl) Try.func6 (by kernel_rfl)
    (of_decide_eq_true (by kernel_rfl)) (by unfold Func.isWrapper; first | (rw [if_pos (by decide +kernel)]; kernel_rfl) | (rw [if_neg (by decide +kernel)]; exact ⟨rfl, rfl⟩))
    (fun os started H enc _ => lifted os started H enc)

theorem proved : Rows.BloomOwnSaid := over
#print axioms proved
end Go.Proofs.Ytjahlachoabmkaa.bloomOwn
