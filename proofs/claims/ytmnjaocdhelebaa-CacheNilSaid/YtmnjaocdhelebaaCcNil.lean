/- CacheNil's walk, told from what the package does. No statement of the seat is proved here. -/
import Derived.Test.YtmnjaocdhelebaaCcShown
import Derived.Test.YtmnjaocdhelebaaIxRows
import Derived.Deep.MidRow
import Derived.Great.BuildSlice
namespace Go.Proofs.Ytmnjaocdhelebaa
open Go.RowKit
set_option linter.unusedVariables false
set_option linter.unusedSimpArgs false

theorem built_row1 {k : KeyT} (hk : KeyT.Ok k) : Try.prog.built 31 [(0, .agg (kcs k).toArray)] = some (rcs (k, (0, 0))).toArray := by
  obtain ⟨fields, hf, hm⟩ := row_places
  have hz := info_row
  cases hi : Try.prog.info? 31 with
  | none => rw [hi] at hz; cases hz
  | some it =>
    rw [hi] at hz
    simp only [Option.map_some, Option.some.injEq] at hz
    have hfold : ((kcs k).toArray.zipIdx.foldl (fun cs (c, j) => cs.setIfInBounds (0 + j) c) (Value.agg (kcs (List.replicate 32 0, 0) ++ [Value.int .i64 0, Value.int .i64 0]).toArray).cells) = (kcs k ++ [Value.int .i64 0, Value.int .i64 0]).toArray := by
      have := fold_head (kcs k) [] (kcs (List.replicate 32 0, 0)) [.int .i64 0, .int .i64 0] (by rw [kcs_length hk, kcs_length ⟨by simp, by decide⟩])
      rw [← Array.foldl_toList, Array.toList_zipIdx]
      exact this
    have hz33 : 33 ≤ (Value.agg (kcs (List.replicate 32 0, 0) ++ [Value.int .i64 0, Value.int .i64 0]).toArray).cells.size := by show 33 ≤ (kcs (List.replicate 32 0, 0) ++ [Value.int .i64 0, Value.int .i64 0]).toArray.size; rw [List.size_toArray, List.length_append, kcs_length ⟨by simp, by decide⟩]; exact Nat.le_add_right _ _
    obtain ⟨ZZ, hZZ⟩ : ∃ ZZ, (kcs (List.replicate 32 0, 0) ++ [Value.int .i64 0, Value.int .i64 0]).toArray = ZZ := ⟨_, rfl⟩
    rw [hZZ] at hz hfold hz33
    clear hZZ
    unfold Program.built
    rw [hi, hf]
    simp only [hz, hm]
    unfold Instr.fill
    have h33 : (Value.agg (kcs k).toArray).cells.size = 33 := by show (kcs k).toArray.size = 33; simp [kcs_length hk]
    rw [show ([(0, 33), (33, 2)] : List (Nat × Nat)).toArray[0]? = some (0, 33) from rfl]
    simp only [h33]
    rw [if_neg (by simp; omega)]
    show some _ = _
    congr 1
section
variable {Ct : World → Addr → (Nat → Prop) → CS → Prop}
set_option maxRecDepth 100000 in
set_option maxHeartbeats 4000000 in
theorem nil_walk (K : CachesOk Ct) (Z : CacheNilOk) (k : KeyT) (hk : KeyT.Ok k) (sh : Int) (hs : In64 sh) (w : World) :
    Calls Try.prog 6 #[.agg (kcs k).toArray, .int .i64 sh] w fun e w' => e = .returned (.bool true) ∧ Below w.heap.size w w' := by
  have hrow : RowT.Ok (k, ((0 : Int), (0 : Int))) := ⟨hk, show In64 0 from in64_lit (by omega) (by omega), show In64 0 from in64_lit (by omega) (by omega)⟩
  have HBR := Lib.hid (built_row1 hk)
  have KG := fun W => Z.get k W hk
  obtain ⟨X, hX⟩ : ∃ X, kcs k = X := ⟨_, rfl⟩
  have hXl : X.length = 33 := by rw [← hX]; exact kcs_length hk
  obtain ⟨w1, hw1⟩ : ∃ w1, w.alloc (.cells X.toArray 27) = w1 := ⟨_, rfl⟩
  obtain ⟨kb, hkb⟩ : ∃ kb, w.heap.size = kb := ⟨_, rfl⟩
  have hb1 : Below w.heap.size w w1 := hw1 ▸ (Below.refl _ _).alloc (Nat.le_refl _) _
  have hk1 : Blk w1 kb 27 X.toArray := by rw [← hw1, ← hkb]; exact Blk.new w _ _
  have HX := Lib.hid (show ∀ W, Below w1.heap.size w1 W → W.rangeAt kb 0 X from fun W hW => range_of_blk (hk1.below hW hk1.lt))
  have HXS := Lib.hid (show (Try.prog.info? 27).map (·.size) = some X.length from by rw [hXl]; exact key_size)
  unfold kv at KG
  simp only [hX] at KG
  rw [hX] at HBR ⊢
  replace KG := Lib.hid KG
  have HW := Lib.hid (And.intro hw1 (And.intro hkb hb1))
  have HRW := Lib.hid hrow
  have HL := Lib.hid (fun W (h : RdRw W W.heap.size (some ⟨w1.heap.size, 0, none⟩) [(k, ((0 : Int), (0 : Int)))]) => Z.load sh (some ⟨w1.heap.size, 0, none⟩) [(k, ((0 : Int), (0 : Int)))] 1 1 1 W hs (by omega) rfl (Nat.le_refl _) (by simp [maxLen]) (by omega) h)
  have HR := Lib.hid (show RdRw (w1.alloc (.cells (rcs (k, (0, 0))).toArray 31)) (w1.alloc (.cells (rcs (k, (0, 0))).toArray 31)).heap.size (some ⟨w1.heap.size, 0, none⟩) [(k, ((0 : Int), (0 : Int)))] from ⟨rds_one w1 (k, (0, 0)) 31 35 rcs, fun y hy => by rw [List.mem_singleton.1 hy]; exact hrow⟩)
  have HA := Lib.hid (show Below w1.heap.size w1 (w1.alloc (.cells (rcs (k, (0, 0))).toArray 31)) from (Below.refl _ _).alloc (Nat.le_refl _) _)
  obtain ⟨fk, hfk⟩ := key_desc
  have HF := Lib.hid hfk
  have HS := Lib.hid hs
  clear hX hXl hw1 hkb hb1 hk1 hrow hk hfk hs
  go_enter Try.func6, Try.ntmps6
  go_upto_region 1 with fail
  rw [HW.out.1, HW.out.2.1]
  go_wp2_with (first
    | (refine wpList_load_mid rfl 27 (.tmp 2) rfl kb 0 rfl X (.struct fk) (HX.out _ (Below.refl _ _)) HF.out rfl HXS.out ?_)
    | (refine wpList_buildTo rfl 31 #[(0, Operand.tmp 10)] rfl (some 11) rfl (rcs (k, (0, 0))).toArray (by simp only [List.map_toArray, List.map_cons, List.map_nil]; exact HBR.out) ?_)
    | (refine wpList_buildOne rowE rfl (.tmp 11) rfl HRW.out rfl ?_))
  refine (HL.out _ HR.out).mono ?_
  rintro e w2 ⟨rfl, hb2⟩
  have HB2 := Lib.hid (HA.out.trans (hb2.mono HA.out.size))
  clear hb2 HL HR HA
  go_wp2_with (refine wpList_load_mid rfl 27 (.tmp 2) rfl kb 0 rfl X (.struct fk) (HX.out _ HB2.out) HF.out rfl HXS.out ?_)
  refine (KG.out w2).mono ?_
  rintro e w3 ⟨rfl, hb3⟩
  have HB3 := Lib.hid (HB2.out.trans ((hb3.trans ((show Below w3.heap.size w3 (w3.alloc (.cells #[.int .i64 0, .int .i64 0] 29)) from (Below.refl _ _).alloc (Nat.le_refl _) _).mono hb3.size)).mono HB2.out.size))
  clear hb3 KG
  go_wp2_with fail
  refine (shown_any K _).mono ?_
  rintro e w4 ⟨rfl, hb4⟩
  have HB4 := Lib.hid (HB3.out.trans (hb4.mono HB3.out.size))
  clear hb4
  go_wp2_with fail
  refine (Z.has sh w4 HS.out).mono ?_
  rintro e w5 ⟨rfl, hb5⟩
  have HB5 := Lib.hid (HB4.out.trans (hb5.mono HB4.out.size))
  clear hb5
  go_wp2_with fail
  refine (Z.drop sh w5 HS.out).mono ?_
  rintro e w6 ⟨rfl, hb6⟩
  have HB6 := Lib.hid (HB5.out.trans (hb6.mono HB5.out.size))
  clear hb6
  go_wp2_with fail
  refine (Z.shelves w6).mono ?_
  rintro e w7 ⟨⟨A7, c7, rfl⟩, hb7⟩
  have HB7 := Lib.hid (HW.out.2.2.trans ((HB6.out.trans (hb7.mono HB6.out.size)).mono HW.out.2.2.size))
  clear hb7
  go_wp2_with fail
  go_ret
  exact ⟨rfl, HB7.out⟩
end
end Go.Proofs.Ytmnjaocdhelebaa
