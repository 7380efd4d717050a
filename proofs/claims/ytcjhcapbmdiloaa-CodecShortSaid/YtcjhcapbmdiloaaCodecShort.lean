/-
  CodecShort holds: called with any uint64, any string, any uint16, in any memory, the Go function returns true and leaves its arguments alone. Conditions: none.
-/
import Derived.Test.YtcjhcapbmdiloaaRows
import Derived.WalkKit
import Derived.ProofKit
import Derived.OpenShut
import Derived.ShutString
import Derived.Test.YtcjhcapbmdiloaaShown
import Derived.ChangeOld
import Derived.Below
namespace Go.Proofs.Ytcjhcapbmdiloaa.codecShort
open Go.ChangeShapes Go.WideShapes Go.ChangeAt Go.RowKit
open Go.ChangeMaps (open_string shut_string)
set_option linter.unusedVariables false      -- a walk need not use every 'w<i>' (that an integer argument fits its kind)

theorem own : ownKnob Try.prog.godebug = none := by kernel_rfl

theorem short_lits (l : List UInt8) : getV l 10 0 = 0 ∧ getL l 10 0 = l ∧ getF l 10 0 = 10 ∧ (⟨(textS l 10 9).toArray⟩ : ByteArray) = ⟨#[]⟩ ∧ textL l 10 9 = l ∧ textF l 10 9 = 10 ∧ endOf l 10 = 10 := by
  simp [getV, getL, getF, textS, textL, textF, TextOk, endOf]
theorem short_get (l : List UInt8) (h : l.length < 8) : getV l 0 8 = 0 ∧ getL l 0 8 = l ∧ getF l 0 8 = 10 := by
  have hno : ¬ ((0 : Int) = 0 ∧ (0 : Int) ≤ 8 ∧ (8 : Int) ≤ 8 ∧ (8 : Int) ≤ (l.length : Int)) := by omega
  refine ⟨if_neg hno, if_neg hno, ?_⟩
  rw [getF, if_pos rfl, if_neg (by omega), if_pos (by omega)]
theorem short_text (s l : List UInt8) (k : Nat) (hk : k < 4 + s.length) (hs : s.length ≤ 100000) (hl : l = (be 4 s.length ++ s).take k) :
    (⟨(textS l 0 s.length).toArray⟩ : ByteArray) = ⟨#[]⟩ ∧ textL l 0 s.length = l ∧ textF l 0 s.length = 10 := by
  have hlen : l.length = k := by rw [hl, List.length_take, List.length_append, be_length]; omega
  by_cases h4 : k < 4
  · have hno : ¬ TextOk l 0 s.length := by unfold TextOk; omega
    rw [textS, textL, textF, if_neg hno, if_neg hno, if_pos rfl, if_pos (by omega)]
    exact ⟨rfl, rfl, rfl⟩
  · have hv : val (l.take 4) = s.length := by
      rw [hl, List.take_take, show min 4 k = 4 by omega, List.take_append_of_le_length (by rw [be_length]; omega), List.take_of_length_le (by rw [be_length]; omega)]
      exact val_be_of_lt (by omega)
    have hno : ¬ TextOk l 0 s.length := by unfold TextOk; omega
    rw [textS, textL, textF, if_neg hno, if_neg hno, if_pos rfl, if_neg (by omega), if_neg (by omega), if_pos (by omega)]
    exact ⟨rfl, rfl, rfl⟩

set_option maxHeartbeats 4000000 in
theorem walk (a0 : Int) (a1 : ByteArray) (a2 : Int) (w0 : (Lit.int .u64 a0).wf = true) (w1 : a1.size ≤ maxLen) (w2 : (Lit.int .u16 a2).wf = true) (w : World) :
    Calls Try.prog 6 #[.int .u64 a0, .string a1, .int .u16 a2] w fun e w' => e = .returned (.bool true) ∧ Below w.heap.size w w' := by
  have b0 := bounds_u64 w0
  have b2 := bounds_u16 w2
  obtain ⟨m, rfl⟩ := Int.eq_ofNat_of_zero_le b0.1
  obtain ⟨cut, rfl⟩ := Int.eq_ofNat_of_zero_le b2.1
  clear w0 w2
  by_cases hlong : 100000 < a1.size
  · have h1 : (100000 : Int) < (a1.size : Int) := by omega
    go_enter Try.func6, Try.ntmps6
    go_wp2_with fail
    refine (shown_any _).mono ?_
    rintro e w1 ⟨rfl, hb1⟩
    go_wp2_with fail
    go_ret
    exact ⟨rfl, hb1⟩
  · have h1 : ¬ (100000 : Int) < (a1.size : Int) := by omega
    go_enter Try.func6, Try.ntmps6
    go_wp2_with fail
    refine (shown_any _).mono ?_
    rintro e w1 ⟨rfl, hb1⟩
    go_wp2_with fail
    refine (put_sl none [] 0 0 m 8 8 (be 8 m) w1 rfl (Rd.nil _ _ _) (by simp) (by decide) rfl).mono ?_
    rintro e w2 ⟨A1, c1, rfl, ho1, hb2⟩
    go_wp2_with fail
    refine (text_sl none [] 0 0 a1 (4 + a1.size) (be 4 a1.size ++ a1.data.toList) w2 rfl (Rd.nil _ _ _) (by simp; omega) (by simp) (by simp)).mono ?_
    rintro e w3 ⟨A2, c2, rfl, ho2, hb3⟩
    have h8c := ho1.cap
    have h9c := ho2.cap
    have hc8 : (8 : Int) ≤ (c1 : Int) := by omega
    have hc9 : (4 : Int) + (a1.size : Int) ≤ (c2 : Int) := by omega
    clear h8c h9c
    have hB3 : Below w.heap.size w w3 := (hb1.trans (hb2.mono hb1.size)).trans (hb3.mono (Nat.le_trans hb1.size hb2.size))
    have ha : Below w3.heap.size w3 (w3.alloc (.cells #[Value.slice A1 8 c1, Value.slice A2 (4 + a1.size) c2] 22)) := (Below.refl _ _).alloc (Nat.le_refl _) _
    have hB4 := hB3.trans (ha.mono hB3.size)
    have ho1 := (ho1.below hb3).below ha
    have ho2 := ho2.below ha
    have hblk : Blk (w3.alloc (.cells #[Value.slice A1 8 c1, Value.slice A2 (4 + a1.size) c2] 22)) w3.heap.size 22 #[Value.slice A1 8 c1, Value.slice A2 (4 + a1.size) c2] := Blk.new _ _ _
    have hww : w.heap.size ≤ w3.heap.size := hB3.size
    clear hb1 hb2 hb3 ha hB3
    go_wp2_with fail
    refine wp_loop_rounds 3 ?_
    rw [rounds_succ]
    go_wp2_with fail
    obtain ⟨L1, hL1⟩ : ∃ L1, L1 = (be 8 m).take (cut % 8) := ⟨_, rfl⟩
    have hl1 : L1.length = cut % 8 := by rw [hL1, List.length_take, be_length]; omega
    have hr1 : Rd _ _ A1 L1 := hL1 ▸ ho1.rd.take (cut % 8)
    refine (new_sl A1 L1 c1 (cut % 8) _ hl1 hr1 (by omega)).mono ?_
    clear hr1 hL1
    rintro e w4 ⟨g1, rfl, hg1, hr1, hb4⟩
    have hB5 := hB4.trans (hb4.mono hB4.size)
    have ho2 := ho2.below hb4
    have hblk := hblk.below hb4 hblk.lt
    have hgb : w3.heap.size < g1 := by simp at hg1; omega
    clear ho1 hB4 hb4 hg1
    go_wp2_with fail
    refine (get_lit g1 L1 0 8 0 L1 10 w4 hr1 (short_get _ (by omega)).1 (short_get _ (by omega)).2.1 (short_get _ (by omega)).2.2).mono ?_
    rintro e w5 ⟨rfl, hr1', hg5⟩
    have ho2 := ho2.far hr1 hg5
    have hblk := hblk.same (hg5.block _ hblk.lt (by simp; omega))
    have hB6 := hB5.grown hg5 hB5.size (fun k hk => by injection hk with hk; omega)
    have hr1 := hr1'
    clear hr1' hg5 hB5
    go_wp2_with fail
    refine (fault_lit g1 _ 10 _ hr1).mono ?_
    rintro e wx ⟨rfl, rfl⟩
    go_wp2_with fail
    refine (left_lit g1 _ 10 ((cut % 8 : Nat) : Int) _ hr1 (by rw [hl1])).mono ?_
    rintro e wx ⟨rfl, rfl⟩
    go_wp2_with fail
    refine (get_lit g1 _ 10 0 0 _ 10 _ hr1 (short_lits _).1 (short_lits _).2.1 (short_lits _).2.2.1).mono ?_
    rintro e wb1 ⟨rfl, hrb1, hgb1⟩
    go_wp2_with fail
    refine (rtext_lit g1 _ 10 9 ⟨#[]⟩ _ 10 _ hrb1 (by omega) (short_lits _).2.2.2.1 (short_lits _).2.2.2.2.1 (short_lits _).2.2.2.2.2.1).mono ?_
    rintro e wc1 ⟨rfl, hrc1, hgc1⟩
    go_wp2_with fail
    refine (end_lit g1 _ 10 10 _ hrc1 (short_lits _).2.2.2.2.2.2).mono ?_
    rintro e wx ⟨rfl, rfl⟩
    have ho2 := (ho2.far hr1 hgb1).far hrb1 hgc1
    have hblk := (hblk.same (hgb1.block _ hblk.lt (by simp; omega)))
    have hblk := (hblk.same (hgc1.block _ hblk.lt (by simp; omega)))
    have hB7 := hB6.grown hgb1 hB6.size (fun k hk => by injection hk with hk; omega)
    have hB8 := hB7.grown hgc1 hB7.size (fun k hk => by injection hk with hk; omega)
    clear hgb1 hgc1 hB6 hB7 hr1 hrb1 hrc1 hgb
    have hcell : wc1.cell? ⟨w3.heap.size, 1, none⟩ = some (.slice A2 (4 + a1.size) c2) := hblk.cell 1
    clear hblk
    go_wp2_with fail
    rw [rounds_succ]
    have hcut0 : (cut : Int) % (4 + (a1.size : Int)) = ((cut % (4 + a1.size) : Nat) : Int) := by rw [Int.natCast_emod, Int.natCast_add]; rfl
    have hlt2 : cut % (4 + a1.size) < 4 + a1.size := Nat.mod_lt _ (by omega)
    have hne0 : ((4 : Int) + (a1.size : Int) == 0) = false := by simp; omega
    generalize cut % (4 + a1.size) = k2 at hcut0 hlt2
    go_wp2_with fail
    obtain ⟨L2, hL2⟩ : ∃ L2, L2 = (be 4 a1.size ++ a1.data.toList).take k2 := ⟨_, rfl⟩
    have hsz : a1.data.toList.length = a1.size := by rw [Array.length_toList]; rfl
    have hl2 : L2.length = k2 := by rw [hL2, List.length_take, List.length_append, be_length, hsz]; omega
    have hr2 : Rd _ _ A2 L2 := hL2 ▸ ho2.rd.take k2
    refine (new_sl A2 L2 c2 k2 _ hl2 hr2 (by omega)).mono ?_
    have ST := short_text a1.data.toList L2 k2 (by omega) (by omega) (by rw [hsz]; exact hL2)
    rw [hsz] at ST
    have ST := Lib.hid ST
    clear hr2 hL2 hsz
    rintro e w6 ⟨g2, rfl, hg2, hr2, hb7⟩
    have hB9 := hB8.trans (hb7.mono hB8.size)
    have hgw : w.heap.size ≤ g2 := Nat.le_trans hB8.size hg2
    clear ho2 hB8 hb7 hg2 hcell
    go_wp2_with fail
    refine (rtext_lit g2 L2 0 (a1.size : Int) ⟨#[]⟩ L2 10 w6 hr2 (by omega) ST.out.1 ST.out.2.1 ST.out.2.2).mono ?_
    rintro e w7 ⟨rfl, hr2', hg7⟩
    have hB10 := hB9.grown hg7 hB9.size (fun k hk => by injection hk with hk; omega)
    have hr2 := hr2'
    clear hr2' hg7 hB9 ST
    go_wp2_with fail
    refine (fault_lit g2 _ 10 _ hr2).mono ?_
    rintro e wx ⟨rfl, rfl⟩
    go_wp2_with fail
    refine (left_lit g2 _ 10 ((cut : Int) % (4 + (a1.size : Int))) _ hr2 (by rw [hl2]; exact hcut0.symm)).mono ?_
    rintro e wx ⟨rfl, rfl⟩
    go_wp2_with fail
    refine (get_lit g2 _ 10 0 0 _ 10 _ hr2 (short_lits _).1 (short_lits _).2.1 (short_lits _).2.2.1).mono ?_
    rintro e wb2 ⟨rfl, hrb2, hgb2⟩
    go_wp2_with fail
    refine (rtext_lit g2 _ 10 9 ⟨#[]⟩ _ 10 _ hrb2 (by omega) (short_lits _).2.2.2.1 (short_lits _).2.2.2.2.1 (short_lits _).2.2.2.2.2.1).mono ?_
    rintro e wc2 ⟨rfl, hrc2, hgc2⟩
    go_wp2_with fail
    refine (end_lit g2 _ 10 10 _ hrc2 (short_lits _).2.2.2.2.2.2).mono ?_
    rintro e wx ⟨rfl, rfl⟩
    have hB11 := hB10.grown hgb2 hB10.size (fun k hk => by injection hk with hk; omega)
    have hB12 := hB11.grown hgc2 hB11.size (fun k hk => by injection hk with hk; omega)
    clear hgb2 hgc2 hB10 hB11 hr2 hrb2 hrc2
    go_wp2_with fail
    rw [rounds_succ]
    go_wp2_with fail
    go_ret
    exact ⟨rfl, hB12⟩

/-! ### THE ROW's STEP: WRITTEN OUT: LEAVE IT -/
set_option maxRecDepth 100000 in
theorem lifted (os : Os) (started : os.Started) (H : Type) (enc : TypeId × Value → H) :
    ReturnsInHanded {} Try.checked os 6 .any (Rows.codecShortSpec.pre6 enc Try.prog Try.f6 Rows.codecShortRow.domain false) (Rows.codecShortSpec.post enc Try.prog Try.f6 false true false false) := by
  refine returnsInHanded_of_change (C := Try.checked) own started (by kernel_rfl) Try.func6
    (ChangeSpec.witness6 (enc := enc) (C := Try.checked) false ⟨#[], #[.int .u64 0, .string ByteArray.empty, .int .u16 0], []⟩ 8 (by kernel_rfl) (by kernel_rfl) (by kernel_rfl) (by kernel_rfl)) ?_
  intro W base args ds gs before hval0 hW hcnd _
  have hval : ∀ (j : Nat) t v, Try.f6.params[j]? = some t → args[j]? = some v → Value.okWide Try.prog W .any base t v := hval0
  have hW' := hW
  obtain ⟨p, q, hA0, hV, rfl, hfz, hnd⟩ := hW
  have hA : DataW.TrodAll enc Try.prog W 0 (fun _ => true) true Try.f6.params.toList args.toList ds p := hA0
  rw [Try.params6] at hA hval
  obtain ⟨v0, vs0, d0, ds0, p0, q0, hargs, rfl, rfl, h0, r0⟩ := trodAll_cons hA
  obtain ⟨v1, vs1, d1, ds1, p1, q1, rfl, rfl, rfl, h1, r1⟩ := trodAll_cons r0
  obtain ⟨v2, vs2, d2, ds2, p2, q2, rfl, rfl, rfl, h2, r2⟩ := trodAll_cons r1
  obtain ⟨rfl, rfl, rfl⟩ := trodAll_nil r2
  obtain rfl : args = #[v0, v1, v2] := by cases args; simp_all
  obtain ⟨rfl, rfl⟩ := trodVars_none hV
  obtain ⟨a0, rfl, rfl, rfl, w0⟩ := open_int Try.underlying33 (hval 0 33 v0 rfl rfl) h0
  obtain ⟨a1, rfl, rfl, rfl, w1⟩ := open_string Try.underlying9 (hval 1 9 v1 rfl rfl) h1
  obtain ⟨a2, rfl, rfl, rfl, w2⟩ := open_int Try.underlying44 (hval 2 44 v2 rfl rfl) h2
  clear hA0 hval0
  simp only [List.append_nil] at hW'
  refine (walk a0 a1 a2 w0 w1 w2 W).mono fun e W' ⟨he, hg⟩ => ?_
  subst he
  exact ⟨_, rfl, _, _, _, [], [], [], hW', trodAll_mk1 (shut_bool Try.underlying4 _), (trodAll_cons_mk (shut_int Try.underlying33 w0) (trodAll_cons_mk (shut_string Try.underlying9 w1) (trodAll_cons_mk (shut_int Try.underlying44 w2) trodAll_mk0))), rfl, hg.frame _, fun h => by cases h⟩

theorem over : Rows.codecShortRow.holds Try.pinned (OpenSpec.ofChange Rows.codecShortSpec) :=
  OpenClaim.holds_of_wide 6 Try.f6 rfl rfl rfl rfl rfl rfl rfl ⟨rfl, rfl, rfl, rfl, rfl⟩ rfl rfl rfl rfl rfl (by kernel_rfl) Try.func6 (by kernel_rfl)
    (of_decide_eq_true (by kernel_rfl)) (by unfold Func.isWrapper; first | (rw [if_pos (by decide +kernel)]; kernel_rfl) | (rw [if_neg (by decide +kernel)]; exact ⟨rfl, rfl⟩))
    (fun os started H enc _ => lifted os started H enc)

/-- ████ THE STATEMENT ████ -/
theorem proved : Rows.CodecShortSaid :=
  over
#print axioms proved
end Go.Proofs.Ytcjhcapbmdiloaa.codecShort
