/- The document's examples for extents. No statement of the seat is proved here. -/
import Derived.Test.YtgemjipbifgbgaaZXAG
import Derived.Test.YtgemjipbifgbgaaZXAA
import Derived.Deep.DeepCutAuto
import Derived.Laws.Tables
namespace Go.Proofs.Ytgemjipbifgbgaa
open Go.RowKit
set_option linter.unusedVariables false
set_option linter.unusedSimpArgs false

theorem built_02 {P : Program} {t : TypeId} {it : TypeInfo} {fields : Array Field} {z : Value} {places : List (Nat × Nat)} {v1 v2 : Value} {n1 o2 n2 : Nat} (r1 : Array Value) (hi : P.info? t = some it) (hu : P.underlying t = some (.struct fields)) (hz : it.zero = some z)
    (hp : fields.toList.mapM (fun f => (P.info? f.type).map fun i => (f.offset, i.size)) = some places) (h0 : places.toArray[0]? = some (0, n1)) (h1 : places.toArray[2]? = some (o2, n2)) (hv1 : v1.cells.size = n1) (hv2 : v2.cells.size = n2) (hn1 : n1 ≤ z.cells.size)
    (hr : v1.cells.zipIdx.foldl (fun cs (c, j) => cs.setIfInBounds (0 + j) c) z.cells = r1) (hn2 : o2 + n2 ≤ r1.size) :
    P.built t [(0, v1), (2, v2)] = some (v2.cells.zipIdx.foldl (fun cs (c, j) => cs.setIfInBounds (o2 + j) c) r1) := by
  unfold Program.built
  rw [hi, hu]
  simp only [hz, hp]
  unfold Instr.fill
  rw [h0]
  simp only [hv1]
  rw [if_neg (by simp; omega)]
  have hr' : v1.cells.zipIdx.foldl (fun cs (x : Value × Nat) => cs.setIfInBounds (0 + x.2) x.1) z.cells = r1 := hr
  unfold Instr.fill
  rw [h1]
  simp only [hv2]
  rw [hr', if_neg (by simp; omega)]
  rfl
set_option maxRecDepth 100000 in
theorem built_ext2 {k : KeyT} (hk : KeyT.Ok k) (n : Int) : Try.prog.built 51 [(0, .agg (kcs k).toArray), (2, .int .i64 n)] = some (rcs (k, (0, n))).toArray := by
  obtain ⟨fields, hf, hm⟩ := ext_places
  have hz := info_ext
  cases hi : Try.prog.info? 51 with
  | none => rw [hi] at hz; cases hz
  | some it =>
    rw [hi] at hz
    simp only [Option.map_some, Option.some.injEq] at hz
    have hfold : ((kcs k).toArray.zipIdx.foldl (fun cs (c, j) => cs.setIfInBounds (0 + j) c) (Value.agg (kcs (List.replicate 32 0, 0) ++ [Value.int .i64 0, Value.int .i64 0]).toArray).cells) = (kcs k ++ [Value.int .i64 0, Value.int .i64 0]).toArray := by
      have := fold_head (kcs k) [] (kcs (List.replicate 32 0, 0)) [Value.int .i64 0, Value.int .i64 0] (by rw [kcs_length hk, kcs_length ⟨by simp, by decide⟩])
      rw [← Array.foldl_toList, Array.toList_zipIdx]
      exact this
    rw [built_02 (v1 := .agg (kcs k).toArray) (v2 := .int .i64 n) (n1 := 33) (o2 := 34) (n2 := 1) (kcs k ++ [Value.int .i64 0, Value.int .i64 0]).toArray hi hf hz hm rfl rfl (by show (kcs k).toArray.size = 33; simp [kcs_length hk]) rfl (by show 33 ≤ (kcs (List.replicate 32 0, 0) ++ [Value.int .i64 0, Value.int .i64 0]).toArray.size; rw [List.size_toArray, List.length_append, kcs_length ⟨by simp, by decide⟩]; exact Nat.le_add_right _ _) hfold (by simp [kcs_length hk])]
    congr 1
    show (kcs k ++ [Value.int .i64 0, Value.int .i64 0]).toArray.setIfInBounds (34 + 0) (.int .i64 n) = _
    rw [List.setIfInBounds_toArray]
    congr 1
    rw [List.set_append_right _ _ (by rw [kcs_length hk]; omega), kcs_length hk]
    rfl
def k1E : KeyT := (List.replicate 32 0, 1)
def k2E : KeyT := (List.replicate 32 0, 2)
def ShM (E0 E1 E2 E3 E4 E5 : RowT) : Prop := sliceE [E0, E1] 8 5 = [E2, E3] ∧ joinE [[E4], [E5]] = [E0] ∧ takeE [0, 0, 0, 0] = [] ∧ takeOk [0, 0, 0, 0] = true ∧ totalE [E0, E1] = 20
theorem sh_math : ShM (k1E, (0, 10)) (k2E, (5, 10)) (k1E, (8, 2)) (k2E, (5, 3)) (k1E, (0, 4)) (k1E, (4, 6)) := by unfold ShM; decide +kernel
/-- A literal list that reads. -/
theorem rdrw_list {w : World} {b : Nat} {l : List RowT} (h : Blk w b 51 (l.flatMap rcs).toArray) (hq : ∀ x ∈ l, RowT.Ok x) : RdRw w w.heap.size (some ⟨b, 0, none⟩) l := ⟨rds_list extE (c := l.length) h hq, hq⟩
theorem wpList_built1 {P : Program} {ops : Array Oper} {rest : List Oper} {o : Oper} {a : Act} {w : World} {Q : Exit → Act → World → Prop} (hgd : Region.wanted o (yielded ops a.tmps) = true) (t : TypeId) (i : Nat) (x : Operand) (ho : o.op = .build t #[(i, x)])
    (v1 : Value) (hx : a.eval x = v1) (cells : Array Value) (hc : P.built t [(i, v1)] = some cells) (h : wpList P ops Q rest (a.put o.dst (.agg cells)) w) : wpList P ops Q (o :: rest) a w :=
  BigFrame.wpList_want hgd fun K hK => by
    have := run_build w t #[(i, v1)] cells hc
    unfold Oper.wp execOp
    simp only [ho, List.map_toArray, List.map_cons, List.map_nil, hx, Sem.run_bind, this, Result.andThen_ok, Sem.run_pure]
    exact hK _ _ h
theorem zero_keyE : (Try.prog.info? 49).map (fun i => (i.zero, i.size)) = some (some (.agg (kz 0)), 33) := by kernel_rfl
theorem built_ka : Try.prog.built 49 [(1, .int .u32 1)] = some (kcs k1E).toArray := by kernel_rfl
theorem built_kb : Try.prog.built 49 [(1, .int .u32 2)] = some (kcs k2E).toArray := by kernel_rfl
/-- The built literals. -/
structure BuE (ka kb : KeyT) (E0 E1 E2 E3 E4 E5 : RowT) : Prop where
  b0 : Try.prog.built 51 [(0, .agg (kcs ka).toArray), (2, .int .i64 10)] = some (rcs E0).toArray
  b1 : Try.prog.built 51 [(0, .agg (kcs kb).toArray), (1, .int .i64 5), (2, .int .i64 10)] = some (rcs E1).toArray
  b2 : Try.prog.built 51 [(0, .agg (kcs ka).toArray), (1, .int .i64 8), (2, .int .i64 2)] = some (rcs E2).toArray
  b3 : Try.prog.built 51 [(0, .agg (kcs kb).toArray), (1, .int .i64 5), (2, .int .i64 3)] = some (rcs E3).toArray
  b4 : Try.prog.built 51 [(0, .agg (kcs ka).toArray), (2, .int .i64 4)] = some (rcs E4).toArray
  b5 : Try.prog.built 51 [(0, .agg (kcs ka).toArray), (1, .int .i64 4), (2, .int .i64 6)] = some (rcs E5).toArray
  o0 : E0.Ok
  o1 : E1.Ok
  o2 : E2.Ok
  o3 : E3.Ok
  o4 : E4.Ok
  o5 : E5.Ok
theorem bue {ka kb : KeyT} (oka : KeyT.Ok ka) (okb : KeyT.Ok kb) : BuE ka kb (ka, (0, 10)) (kb, (5, 10)) (ka, (8, 2)) (kb, (5, 3)) (ka, (0, 4)) (ka, (4, 6)) := by
  have row : ∀ k : KeyT, KeyT.Ok k → ∀ o n : Int, 0 ≤ o → o ≤ 100 → 0 ≤ n → n ≤ 100 → RowT.Ok (k, (o, n)) := fun k hk o n h1 h2 h3 h4 => ⟨hk, ⟨by show -9223372036854775808 ≤ o; omega, by show o ≤ 9223372036854775807; omega⟩, ⟨by show -9223372036854775808 ≤ n; omega, by show n ≤ 9223372036854775807; omega⟩⟩
  exact ⟨built_ext2 oka 10, built_ext okb 5 10, built_ext oka 8 2, built_ext okb 5 3, built_ext2 oka 4, built_ext oka 4 6, row _ oka _ _ (by omega) (by omega) (by omega) (by omega), row _ okb _ _ (by omega) (by omega) (by omega) (by omega), row _ oka _ _ (by omega) (by omega) (by omega) (by omega), row _ okb _ _ (by omega) (by omega) (by omega) (by omega), row _ oka _ _ (by omega) (by omega) (by omega) (by omega), row _ oka _ _ (by omega) (by omega) (by omega) (by omega)⟩
set_option maxRecDepth 100000 in
set_option maxHeartbeats 4000000 in
theorem shown_core (K : ExtentsOk) (ka kb : KeyT) (oka : KeyT.Ok ka) (okb : KeyT.Ok kb) (E0 E1 E2 E3 E4 E5 : RowT) (hm : ShM E0 E1 E2 E3 E4 E5) (hbu : BuE ka kb E0 E1 E2 E3 E4 E5) (bka : Try.prog.built 49 [(1, .int .u32 1)] = some (kcs ka).toArray) (bkb : Try.prog.built 49 [(1, .int .u32 2)] = some (kcs kb).toArray) (w : World) : Calls Try.prog 11 #[] w fun e w' => e = .returned (.bool true) ∧ Below w.heap.size w w' := by
  have HBK := Lib.hid (And.intro bka bkb)
  unfold ShM at hm
  have HU := Lib.hid hbu
  have HOK := Lib.hid (And.intro oka okb)
  have HM := Lib.hid hm
  obtain ⟨fk, hfk⟩ := key_desc
  obtain ⟨fe, hfe⟩ := ext_desc
  have HF := Lib.hid (And.intro hfk hfe)
  have HKA := Lib.hid (show (Try.prog.info? 49).map (·.size) = some (kcs ka).length by rw [kcs_length oka]; exact key_size)
  have HKB := Lib.hid (show (Try.prog.info? 49).map (·.size) = some (kcs kb).length by rw [kcs_length okb]; exact key_size)
  obtain ⟨iz, hiz, hzz, _⟩ := zero_parts zero_keyE
  have HZ := Lib.hid (And.intro hiz hzz)
  obtain ⟨z, hz⟩ : ∃ z, kz 0 = z := ⟨_, rfl⟩
  rw [hz] at HZ
  have hzs : z.size = 33 := by rw [← hz]; rfl
  obtain ⟨u1, hu1⟩ : ∃ u, w.alloc (.cells z 49) = u := ⟨_, rfl⟩
  obtain ⟨u2, hu2⟩ : ∃ u, u1.alloc (.cells z 49) = u := ⟨_, rfl⟩
  obtain ⟨a, ha⟩ : ∃ a, w.heap.size = a := ⟨_, rfl⟩
  have hs1 : u1.heap.size = a + 1 := by rw [← hu1, ← ha]; exact Array.size_push ..
  have hb1 : Below w.heap.size w u1 := hu1 ▸ (Below.refl _ _).alloc (Nat.le_refl _) _
  have hb2 : Below u1.heap.size u1 u2 := hu2 ▸ (Below.refl _ _).alloc (Nat.le_refl _) _
  have ba : Blk u2 a 49 z := (show Blk u1 a 49 z by rw [← hu1, ← ha]; exact Blk.new w _ _).below hb2 (by omega)
  have bb : Blk u2 (a + 1) 49 z := by rw [← hu2, ← hs1]; exact Blk.new u1 _ _
  obtain ⟨u3, hu3⟩ : ∃ u, u2.setRow a (kcs ka).toArray = u := ⟨_, rfl⟩
  have ba3 : Blk u3 a 49 (kcs ka).toArray := by rw [← hu3]; exact setRow_heap _ _ _ _ _ _ ba
  have bb3 : Blk u3 (a + 1) 49 z := by rw [← hu3]; exact bb.same (setRow_other _ _ _ _ (by omega))
  obtain ⟨w2, hw2⟩ : ∃ u, u3.setRow (a + 1) (kcs kb).toArray = u := ⟨_, rfl⟩
  have hl2 : Below w.heap.size w w2 := by
    have h12 := hb1.trans (hb2.mono hb1.size)
    refine ⟨by rw [← hw2, ← hu3]; exact h12.os, by rw [← hw2, ← hu3]; exact h12.tape, by rw [← hw2, ← hu3]; exact h12.output, by rw [← hw2, ← hu3]; simpa [World.setRow] using h12.size, fun k hk => ?_⟩
    rw [← hw2, setRow_other _ _ _ _ (by omega), ← hu3, setRow_other _ _ _ _ (by omega)]
    exact h12.block k hk
  have HA2 := Lib.hid (show Blk w2 a 49 (kcs ka).toArray by rw [← hw2]; exact ba3.same (setRow_other _ _ _ _ (by omega)))
  have HB2 := Lib.hid (show Blk w2 (a + 1) 49 (kcs kb).toArray by rw [← hw2]; exact setRow_heap _ _ _ _ _ _ bb3)
  have HL2 := Lib.hid hl2
  have HBA := Lib.hid ba
  have HBB := Lib.hid bb3
  have HKSA := Lib.hid (show (Try.prog.info? 49).map (·.size) = some (kcs ka).toArray.size by rw [List.size_toArray]; exact HKA.out)
  have HKSB := Lib.hid (show (Try.prog.info? 49).map (·.size) = some (kcs kb).toArray.size by rw [List.size_toArray]; exact HKB.out)
  have HZA := Lib.hid (show z.size = (kcs ka).toArray.size by rw [hzs, List.size_toArray, kcs_length oka])
  have HZB := Lib.hid (show z.size = (kcs kb).toArray.size by rw [hzs, List.size_toArray, kcs_length okb])
  have HW := Lib.hid (And.intro hu1 (And.intro ha (And.intro hu2 (And.intro hs1 (And.intro hu3 hw2)))))
  clear oka okb hm bka bkb hbu hfk hfe hu1 ha hu2 hs1 hu3 hw2 hb1 hb2 ba bb ba3 bb3 hl2 hz hzs hiz hzz
  go_enter Try.func11, Try.ntmps11
  go_upto_region 2 with (first
    | (refine wpList_built1 rfl 49 1 (.const (.int .u32 1)) rfl (.int .u32 1) rfl (kcs ka).toArray HBK.out.1 ?_; simp only [Act.put, List.setIfInBounds_toArray, List.set_cons_zero, List.set_cons_succ])
    | (refine wpList_built1 rfl 49 1 (.const (.int .u32 2)) rfl (.int .u32 2) rfl (kcs kb).toArray HBK.out.2 ?_; simp only [Act.put, List.setIfInBounds_toArray, List.set_cons_zero, List.set_cons_succ])
    | (refine wpList_alloc_z rfl 49 rfl iz z HZ.out.1 HZ.out.2 ?_; first | rw [HW.out.1, HW.out.2.1] | rw [HW.out.2.2.1, HW.out.2.2.2.1]; simp only [Act.put, List.setIfInBounds_toArray, List.set_cons_zero, List.set_cons_succ])
    | (refine wpList_store_row rfl 49 (.tmp 1) (.tmp 8) rfl a (kcs ka).toArray rfl rfl 49 z HBA.out HKSA.out HZA.out kcs_one ?_; rw [HW.out.2.2.2.2.1]; simp only [Act.put, List.setIfInBounds_toArray, List.set_cons_zero, List.set_cons_succ])
    | (refine wpList_store_row rfl 49 (.tmp 2) (.tmp 9) rfl (a + 1) (kcs kb).toArray rfl rfl 49 z HBB.out HKSB.out HZB.out kcs_one ?_; rw [HW.out.2.2.2.2.2]; simp only [Act.put, List.setIfInBounds_toArray, List.set_cons_zero, List.set_cons_succ]))
  clear HW HZ HBA HBB
  have HRA := Lib.hid (range_of_blk HA2.out)
  have HRB := Lib.hid (range_of_blk HB2.out)
  go_upto_region 3 with (first
    | (refine wpList_load_mid rfl 49 (.tmp 1) rfl a 0 rfl (kcs ka) (.struct fk) HRA.out HF.out.1 rfl HKA.out ?_; simp only [Act.put, List.setIfInBounds_toArray, List.set_cons_zero, List.set_cons_succ])
    | (refine wpList_load_mid rfl 49 (.tmp 2) rfl (a + 1) 0 rfl (kcs kb) (.struct fk) HRB.out HF.out.1 rfl HKB.out ?_; simp only [Act.put, List.setIfInBounds_toArray, List.set_cons_zero, List.set_cons_succ])
    | (refine wpList_built02 rfl 51 (.tmp 10) (.const (.int .i64 10)) rfl (.agg (kcs ka).toArray) (.int .i64 10) rfl rfl (rcs E0).toArray HU.out.b0 ?_; simp only [Act.put, List.setIfInBounds_toArray, List.set_cons_zero, List.set_cons_succ])
    | (refine wpList_built3 rfl 51 (.tmp 12) (.const (.int .i64 5)) (.const (.int .i64 10)) rfl (.agg (kcs kb).toArray) (.int .i64 5) (.int .i64 10) rfl rfl rfl (rcs E1).toArray HU.out.b1 ?_; simp only [Act.put, List.setIfInBounds_toArray, List.set_cons_zero, List.set_cons_succ])
    | (refine wpList_buildTwo extE rfl (.tmp 11) (.tmp 13) rfl (p := E0) (q := E1) HU.out.o0 HU.out.o1 rfl rfl ?_; simp only [Act.put, List.setIfInBounds_toArray, List.set_cons_zero, List.set_cons_succ]))
  obtain ⟨b, hb⟩ : ∃ b, w2.heap.size = b := ⟨_, rfl⟩
  obtain ⟨w3, hw3⟩ : ∃ w3, w2.alloc (.cells (rcs E0 ++ rcs E1).toArray 51) = w3 := ⟨_, rfl⟩
  rw [hb, hw3]
  have e0 : RowT.Ok E0 := HU.out.o0
  have e1 : RowT.Ok E1 := HU.out.o1
  have hok2 : ∀ x ∈ [E0, E1], RowT.Ok x := fun x hx => by
    rcases List.mem_cons.1 hx with rfl | hx
    · exact e0
    · rw [List.mem_singleton.1 hx]
      exact e1
  have hg3 : GivenE w3 (some ⟨b, 0, none⟩) [E0, E1] 2 2 := ⟨rfl, Nat.le_refl _, by unfold maxLen; omega, by omega, rdrw_list (by rw [← hb, ← hw3]; simpa using Blk.new w2 51 (rcs E0 ++ rcs E1).toArray) hok2⟩
  have hb3 : Below w2.heap.size w2 w3 := hw3 ▸ (Below.refl _ _).alloc (Nat.le_refl _) _
  have HG3 := Lib.hid hg3
  have HL3 := Lib.hid (HL2.out.trans (hb3.mono HL2.out.size))
  have HA3 := Lib.hid (HA2.out.below hb3 HA2.out.lt)
  have HB3 := Lib.hid (HB2.out.below hb3 HB2.out.lt)
  clear e0 e1 hg3 hb3 hb hw3 HL2 HA2 HB2 HRA HRB
  have KS := Lib.hid (K.slice HG3.out (off := 8) (n := 5) (by constructor <;> omega) (by constructor <;> omega))
  rw [HM.out.1] at KS
  go_wp2_with fail
  refine KS.out.mono ?_
  rintro e w4 ⟨Y, y, rfl, _, _, hry, hb4⟩
  have HRY := Lib.hid hry
  have HG4 := Lib.hid (HG3.out.on hb4)
  have HL4 := Lib.hid (HL3.out.trans (hb4.mono HL3.out.size))
  have HA4 := Lib.hid (HA3.out.below hb4 HA3.out.lt)
  have HB4 := Lib.hid (HB3.out.below hb4 HB3.out.lt)
  clear hry hb4 KS HG3 HL3 HA3 HB3
  have HRA := Lib.hid (range_of_blk HA4.out)
  obtain ⟨b5, hb5⟩ : ∃ b, w4.heap.size = b := ⟨_, rfl⟩
  obtain ⟨w5, hw5⟩ : ∃ w5, w4.alloc (.cells (rcs E4).toArray 51) = w5 := ⟨_, rfl⟩
  have hl5 : Below w4.heap.size w4 w5 := hw5 ▸ (Below.refl _ _).alloc (Nat.le_refl _) _
  have HA5 := Lib.hid (HA4.out.below hl5 HA4.out.lt)
  have HRA5 := Lib.hid (range_of_blk HA5.out)
  obtain ⟨b6, hb6⟩ : ∃ b, w5.heap.size = b := ⟨_, rfl⟩
  obtain ⟨w6, hw6⟩ : ∃ w6, w5.alloc (.cells (rcs E5).toArray 51) = w6 := ⟨_, rfl⟩
  obtain ⟨b7, hb7⟩ : ∃ b, w6.heap.size = b := ⟨_, rfl⟩
  obtain ⟨w7, hw7⟩ : ∃ w7, w6.alloc (.cells #[.slice (some ⟨b5, 0, none⟩) 1 1, .slice (some ⟨b6, 0, none⟩) 1 1] 22) = w7 := ⟨_, rfl⟩
  have e4 : RowT.Ok E4 := HU.out.o4
  have e6 : RowT.Ok E5 := HU.out.o5
  have hl6 : Below w5.heap.size w5 w6 := hw6 ▸ (Below.refl _ _).alloc (Nat.le_refl _) _
  have hl7 : Below w6.heap.size w6 w7 := hw7 ▸ (Below.refl _ _).alloc (Nat.le_refl _) _
  have hq5 : Blk w7 b5 51 (rcs E4).toArray := (show Blk w5 b5 51 (rcs E4).toArray by rw [← hb5, ← hw5]; exact Blk.new w4 _ _).below (hl6.trans (hl7.mono hl6.size)) (Blk.lt (by rw [← hb5, ← hw5]; exact Blk.new w4 51 _))
  have hq6 : Blk w7 b6 51 (rcs E5).toArray := (show Blk w6 b6 51 (rcs E5).toArray by rw [← hb6, ← hw6]; exact Blk.new w5 _ _).below hl7 (Blk.lt (by rw [← hb6, ← hw6]; exact Blk.new w5 51 _))
  have hq7 : Blk w7 b7 22 #[.slice (some ⟨b5, 0, none⟩) 1 1, .slice (some ⟨b6, 0, none⟩) 1 1] := by rw [← hb7, ← hw7]; exact Blk.new w6 _ _
  have hrl : RdLs w7 w7.heap.size (some ⟨b7, 0, none⟩) [((some ⟨b5, 0, none⟩, 1), [E4]), ((some ⟨b6, 0, none⟩, 1), [E5])] := by
    refine ⟨fun _ => ⟨b7, 0, rfl, hq7.lt, fun j hj i v hv => ?_⟩, fun x hx => ?_, fun x hx => ?_⟩
    · have hj2 : j = 0 ∨ j = 1 := by simp at hj; omega
      rcases hj2 with rfl | rfl
      · have hi : i = 0 := by
          have := (List.getElem?_eq_some_iff.1 hv).1
          simp [lcs] at this; omega
        subst hi
        rw [hq7.cell]
        simpa [lcs] using hv
      · have hi : i = 0 := by
          have := (List.getElem?_eq_some_iff.1 hv).1
          simp [lcs] at this; omega
        subst hi
        rw [hq7.cell]
        simpa [lcs] using hv
    · rcases List.mem_cons.1 hx with rfl | hx
      · exact rdrw_list (by simpa using hq5) (by intro x hx; rw [List.mem_singleton.1 hx]; exact e4)
      · rw [List.mem_singleton.1 hx]
        exact rdrw_list (by simpa using hq6) (by intro x hx; rw [List.mem_singleton.1 hx]; exact e6)
    · rcases List.mem_cons.1 hx with rfl | hx
      · simp [maxLen]
      · rw [List.mem_singleton.1 hx]
        simp [maxLen]
  have hl47 := hl5.trans ((hl6.trans (hl7.mono hl6.size)).mono hl5.size)
  have HG7 := Lib.hid (HG4.out.on hl47)
  have HRY7 := Lib.hid (HRY.out.on hl47)
  have HL7 := Lib.hid (HL4.out.trans (hl47.mono HL4.out.size))
  have HA7 := Lib.hid (HA4.out.below hl47 HA4.out.lt)
  have HB7 := Lib.hid (HB4.out.below hl47 HB4.out.lt)
  have KJ := Lib.hid (K.join (k := 2) (c := 2) rfl (by omega) hrl)
  have hms : List.map (fun x : LsT => x.2) [((some ⟨b5, 0, none⟩, 1), [E4]), ((some ⟨b6, 0, none⟩, 1), [E5])] = [[E4], [E5]] := rfl
  rw [hms, HM.out.2.1] at KJ
  have HW := Lib.hid (And.intro (And.intro hb5 hw5) (And.intro (And.intro hb6 hw6) (And.intro hb7 hw7)))
  have HE := Lib.hid (And.intro e4 e6)
  clear hb5 hw5 hb6 hw6 hb7 hw7 hl5 hl6 hl7 hq5 hq6 hq7 hrl hl47 hms e4 e6 HG4 HRY HL4 HA4 HB4 HA5
  go_wp2_with (first
    | (refine wpList_load_mid rfl 49 (.tmp 1) rfl a 0 rfl (kcs ka) (.struct fk) HRA.out HF.out.1 rfl HKA.out ?_; simp only [Act.put, List.setIfInBounds_toArray, List.set_cons_zero, List.set_cons_succ])
    | (refine wpList_load_mid rfl 49 (.tmp 1) rfl a 0 rfl (kcs ka) (.struct fk) HRA5.out HF.out.1 rfl HKA.out ?_; simp only [Act.put, List.setIfInBounds_toArray, List.set_cons_zero, List.set_cons_succ])
    | (refine wpList_built02 rfl 51 (.tmp 17) (.const (.int .i64 4)) rfl (.agg (kcs ka).toArray) (.int .i64 4) rfl rfl (rcs E4).toArray HU.out.b4 ?_; simp only [Act.put, List.setIfInBounds_toArray, List.set_cons_zero, List.set_cons_succ])
    | (refine wpList_built3 rfl 51 (.tmp 20) (.const (.int .i64 4)) (.const (.int .i64 6)) rfl (.agg (kcs ka).toArray) (.int .i64 4) (.int .i64 6) rfl rfl rfl (rcs E5).toArray HU.out.b5 ?_; simp only [Act.put, List.setIfInBounds_toArray, List.set_cons_zero, List.set_cons_succ])
    | (refine wpList_buildOne extE rfl (.tmp 18) rfl HE.out.1 rfl ?_; rw [HW.out.1.1, HW.out.1.2]; simp only [Act.put, List.setIfInBounds_toArray, List.set_cons_zero, List.set_cons_succ])
    | (refine wpList_buildOne extE rfl (.tmp 21) rfl HE.out.2 rfl ?_; rw [HW.out.2.1.1, HW.out.2.1.2]; simp only [Act.put, List.setIfInBounds_toArray, List.set_cons_zero, List.set_cons_succ])
    | (go_at_call 22; rw [HW.out.2.2.1, HW.out.2.2.2]; (with_reducible refine KJ.out.mono ?_); rintro e w8 ⟨Z, z, rfl, _, _, hrz, hb8⟩))
  have HRZ := Lib.hid hrz
  have HG8 := Lib.hid (HG7.out.on hb8)
  have HRY8 := Lib.hid (HRY7.out.on hb8)
  have HL8 := Lib.hid (HL7.out.trans (hb8.mono HL7.out.size))
  have HA8 := Lib.hid (HA7.out.below hb8 HA7.out.lt)
  have HB8 := Lib.hid (HB7.out.below hb8 HB7.out.lt)
  clear hrz hb8 KJ HG7 HRY7 HL7 HA7 HB7 HRA HRA5 HW HE
  obtain ⟨b9, hb9⟩ : ∃ b, w8.heap.size = b := ⟨_, rfl⟩
  obtain ⟨w9, hw9⟩ : ∃ w9, w8.alloc (.cells #[.int .u8 0, .int .u8 0, .int .u8 0, .int .u8 0] 5) = w9 := ⟨_, rfl⟩
  have hl9 : Below w8.heap.size w8 w9 := hw9 ▸ (Below.refl _ _).alloc (Nat.le_refl _) _
  have hq9 : Blk w9 b9 5 #[.int .u8 0, .int .u8 0, .int .u8 0, .int .u8 0] := by rw [← hb9, ← hw9]; exact Blk.new w8 _ _
  have hrd : Rd w9 w9.heap.size (some ⟨b9, 0, none⟩) [0, 0, 0, 0] := fun _ => ⟨b9, 0, rfl, hq9.lt, fun j hj => by
    have hj4 : j = 0 ∨ j = 1 ∨ j = 2 ∨ j = 3 := by simp at hj; omega
    rcases hj4 with rfl | rfl | rfl | rfl <;> (rw [hq9.cell]; rfl)⟩
  have KT := K.take (b := [0, 0, 0, 0]) (n := 4) (c := 4) rfl (Nat.le_refl _) (by unfold maxLen; omega) (by omega) hrd
  rw [HM.out.2.2.1, HM.out.2.2.2.1, if_pos rfl] at KT
  replace KT := Lib.hid KT
  have HG9 := Lib.hid (HG8.out.on hl9)
  have HRY9 := Lib.hid (HRY8.out.on hl9)
  have HRZ9 := Lib.hid (HRZ.out.on hl9)
  have HL9 := Lib.hid (HL8.out.trans (hl9.mono HL8.out.size))
  have HA9 := Lib.hid (HA8.out.below hl9 HA8.out.lt)
  have HB9 := Lib.hid (HB8.out.below hl9 HB8.out.lt)
  have HW := Lib.hid (And.intro hb9 hw9)
  clear hb9 hw9 hl9 hq9 hrd HG8 HRY8 HRZ HL8 HA8 HB8
  rw [HW.out.1, HW.out.2]
  refine KT.out.mono ?_
  rintro e w10 ⟨T, t, rfl, _, _, _, hb10⟩
  have HG10 := Lib.hid (HG9.out.on hb10)
  have HRY10 := Lib.hid (HRY9.out.on hb10)
  have HRZ10 := Lib.hid (HRZ9.out.on hb10)
  have HL10 := Lib.hid (HL9.out.trans (hb10.mono HL9.out.size))
  have HA10 := Lib.hid (HA9.out.below hb10 HA9.out.lt)
  have HB10 := Lib.hid (HB9.out.below hb10 HB9.out.lt)
  clear hb10 KT HW HG9 HRY9 HRZ9 HL9 HA9 HB9
  have KTO := K.total HG10.out
  rw [HM.out.2.2.2.2] at KTO
  replace KTO := Lib.hid KTO
  go_wp2_with fail
  refine KTO.out.mono ?_
  rintro e w11 ⟨rfl, hb11⟩
  have HG11 := Lib.hid (HG10.out.on hb11)
  have HRY11 := Lib.hid (HRY10.out.on hb11)
  have HRZ11 := Lib.hid (HRZ10.out.on hb11)
  have HL11 := Lib.hid (HL10.out.trans (hb11.mono HL10.out.size))
  have HA11 := Lib.hid (range_of_blk (HA10.out.below hb11 HA10.out.lt))
  have HB11 := Lib.hid (range_of_blk (HB10.out.below hb11 HB10.out.lt))
  clear hb11 KTO HG10 HRY10 HRZ10 HL10 HA10 HB10
  have e8 : RowT.Ok E2 := HU.out.o2
  have e5 : RowT.Ok E3 := HU.out.o3
  obtain ⟨b12, hb12⟩ : ∃ b, w11.heap.size = b := ⟨_, rfl⟩
  obtain ⟨w12, hw12⟩ : ∃ w12, w11.alloc (.cells (rcs E2 ++ rcs E3).toArray 51) = w12 := ⟨_, rfl⟩
  have hl12 : Below w11.heap.size w11 w12 := hw12 ▸ (Below.refl _ _).alloc (Nat.le_refl _) _
  have hok2 : ∀ x ∈ [E2, E3], RowT.Ok x := fun x hx => by
    rcases List.mem_cons.1 hx with rfl | hx
    · exact e8
    · rw [List.mem_singleton.1 hx]
      exact e5
  have hrl : RdRw w12 w12.heap.size (some ⟨b12, 0, none⟩) [E2, E3] := rdrw_list (by rw [← hb12, ← hw12]; simpa using Blk.new w11 51 (rcs E2 ++ rcs E3).toArray) hok2
  have KS1 := Lib.hid (same_true Y (some ⟨b12, 0, none⟩) [E2, E3] 2 y 2 rfl (by omega) w12 (HRY11.out.on hl12) hrl)
  have KS2 := Lib.hid (fun W (hW : Below w12.heap.size w12 W) => same_true Z (some ⟨b, 0, none⟩) [E0] 1 z 2 rfl (by omega) W ((HRZ11.out.on hl12).on hW) (((HG11.out.rd.take 1).on hl12).on hW))
  have HL12 := Lib.hid (HL11.out.trans (hl12.mono HL11.out.size))
  have HW := Lib.hid (And.intro hb12 hw12)
  have HE := Lib.hid (And.intro e8 e5)
  clear hb12 hw12 hl12 hok2 hrl HG11 HRY11 HRZ11 HL11 e8 e5
  go_wp2_with (first
    | (refine wpList_mid_want rfl 49 (.tmp 1) rfl a 0 rfl (kcs ka) (.struct fk) HA11.out HF.out.1 rfl HKA.out ?_; simp only [Act.put, List.setIfInBounds_toArray, List.set_cons_zero, List.set_cons_succ])
    | (refine wpList_mid_want rfl 49 (.tmp 2) rfl (a + 1) 0 rfl (kcs kb) (.struct fk) HB11.out HF.out.1 rfl HKB.out ?_; simp only [Act.put, List.setIfInBounds_toArray, List.set_cons_zero, List.set_cons_succ])
    | (refine wpList_built3 rfl 51 (.tmp 35) (.const (.int .i64 8)) (.const (.int .i64 2)) rfl (.agg (kcs ka).toArray) (.int .i64 8) (.int .i64 2) rfl rfl rfl (rcs E2).toArray HU.out.b2 ?_; simp only [Act.put, List.setIfInBounds_toArray, List.set_cons_zero, List.set_cons_succ])
    | (refine wpList_built3 rfl 51 (.tmp 37) (.const (.int .i64 5)) (.const (.int .i64 3)) rfl (.agg (kcs kb).toArray) (.int .i64 5) (.int .i64 3) rfl rfl rfl (rcs E3).toArray HU.out.b3 ?_; simp only [Act.put, List.setIfInBounds_toArray, List.set_cons_zero, List.set_cons_succ])
    | (refine wpList_buildTwo extE rfl (.tmp 36) (.tmp 38) rfl (p := E2) (q := E3) HE.out.1 HE.out.2 rfl rfl ?_; rw [HW.out.1, HW.out.2]; simp only [Act.put, List.setIfInBounds_toArray, List.set_cons_zero, List.set_cons_succ])
    | fail)
  refine KS1.out.mono ?_
  rintro e w13 ⟨rfl, hb13⟩
  have HL13 := Lib.hid (HL12.out.trans (hb13.mono HL12.out.size))
  have KS3 := Lib.hid (KS2.out w13 hb13)
  clear hb13 KS1 KS2 HL12
  go_wp2_with fail
  refine KS3.out.mono ?_
  rintro e w14 ⟨rfl, hb14⟩
  have HL14 := Lib.hid (HL13.out.trans (hb14.mono HL13.out.size))
  clear hb14 KS3 HL13
  go_wp2_with fail
  go_ret
  exact ⟨rfl, HL14.out⟩
theorem shown_any (K : ExtentsOk) : ShownE := fun w => shown_core K k1E k2E ⟨by decide, by decide⟩ ⟨by decide, by decide⟩ _ _ _ _ _ _ sh_math (bue ⟨by decide, by decide⟩ ⟨by decide, by decide⟩) built_ka built_kb w
end Go.Proofs.Ytgemjipbifgbgaa
