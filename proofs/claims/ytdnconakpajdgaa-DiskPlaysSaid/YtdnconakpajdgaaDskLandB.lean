/- The contract of the package's Read; what the calls do on a nil disk. No statement of the seat is proved here. -/
import Derived.Test.YtdnconakpajdgaaDskLandA
namespace Go.Proofs.Ytdnconakpajdgaa
open Go.RowKit
set_option linter.unusedVariables false
set_option linter.unusedSimpArgs false

/-- A variable of its own, its zero cells by a letter. -/
theorem wpList_alloc_z {ops : Array Oper} {rest : List Oper} {o : Oper} {a : Act} {w : World} {Q : Exit → Act → World → Prop} (hgd : o.guard = none) (ty : TypeId) (ho : o.op = .alloc ty) (i : TypeInfo) (z : Array Value) (hi : Try.prog.info? ty = some i) (hz : i.zero = some (.agg z))
    (h : wpList Try.prog ops Q rest (a.put o.dst (.pointer (some ⟨w.heap.size, 0, none⟩))) (w.alloc (.cells z ty))) : wpList Try.prog ops Q (o :: rest) a w := by
  refine wpList_plain hgd fun K hK => ?_
  unfold Oper.wp execOp
  have hr : (Instr.alloc ty true (.tuple #[])).run Try.prog w = .ok (.pointer (some ⟨w.heap.size, 0, none⟩)) (w.alloc (.cells z ty)) := by
    simp [Instr.alloc, zeroValue, typeInfo, hi, hz, newVar, newRow, Value.cells]
  simp only [ho, Sem.run_bind, hr, Result.andThen_ok, Sem.run_pure]
  exact hK _ _ h
theorem zero_parts {x : Option TypeInfo} {n : Nat} {z : Array Value} (h : x.map (fun i => (i.zero, i.size)) = some (some (.agg z), n)) : ∃ i, x = some i ∧ i.zero = some (.agg z) ∧ i.size = n := by
  cases x with
  | none => cases h
  | some i =>
    refine ⟨i, rfl, ?_⟩
    simp only [Option.map_some, Option.some.injEq, Prod.mk.injEq] at h
    exact h
theorem sector_zero : ∃ i, Try.prog.info? 64 = some i ∧ i.zero = some (.agg (bv (List.replicate 128 0)).toArray) ∧ i.size = 128 := zero_parts (by kernel_rfl)
theorem write_zero : ∃ i, Try.prog.info? 67 = some i ∧ i.zero = some (.agg (wc (0, List.replicate 128 0)).toArray) ∧ i.size = 129 := zero_parts (by kernel_rfl)
section
variable {w : World} {d : Nat} {An : Option Addr} {cn : Nat} {As : Option Addr} {cs : Nat} {Ap : Option Addr} {cp : Nat} {n : Nat} {N Sf : Nat → List UInt8} {ps : List (Nat × List UInt8)} {fl : Fl}
set_option maxHeartbeats 1000000 in
theorem read_bad (h : LD w d An cn As cs Ap cp n N Sf ps fl) (hn : n ≤ 16384) (at_ : Int) (ha : at_ < 0 ∨ (n : Int) ≤ at_) : Calls Try.prog 19 #[.pointer (some ⟨d, 0, none⟩), .int .i64 at_] w fun e w' => e = .returned (.tuple #[.slice none 0 0, .int .i64 1]) ∧ w = w' := by
  have KH := Lib.hid (has_no h at_ ha hn)
  clear h ha
  go_enter Try.func19, Try.ntmps19
  go_wp2_with fail
  (with_reducible refine KH.out.mono ?_)
  rintro e w' ⟨rfl, rfl⟩
  go_wp2_with fail
  go_ret2
  exact ⟨rfl, rfl⟩
set_option maxHeartbeats 1000000 in
theorem read_dead (h : LD w d An cn As cs Ap cp n N Sf ps fl) (hn : n ≤ 16384) (hd : fl.dead = true) (t : Nat) (ht : t < n) : Calls Try.prog 19 #[.pointer (some ⟨d, 0, none⟩), .int .i64 (t : Nat)] w fun e w' => e = .returned (.tuple #[.slice none 0 0, .int .i64 6]) ∧ w = w' := by
  have KH := Lib.hid (has_yes h t ht hn)
  have hc3 : w.cell? ⟨d, 3, none⟩ = some (.bool true) := by rw [← hd]; exact h.blk.cell 3
  clear h hd ht
  go_enter Try.func19, Try.ntmps19
  go_wp2_with fail
  (with_reducible refine KH.out.mono ?_)
  rintro e w' ⟨rfl, rfl⟩
  go_wp2_with fail
  go_ret2
  exact ⟨rfl, rfl⟩
set_option maxHeartbeats 1000000 in
theorem read_good (h : LD w d An cn As cs Ap cp n N Sf ps fl) (hn : n ≤ 16384) (hN : ∀ i, (N i).length = 128) (hd : fl.dead = false) (t : Nat) (ht : t < n) : Calls Try.prog 19 #[.pointer (some ⟨d, 0, none⟩), .int .i64 (t : Nat)] w fun e w' =>
    e = .returned (.tuple #[.slice (some ⟨w.heap.size, 0, none⟩) 128 128, .int .i64 0]) ∧ w.alloc (.cells (bv (N t)).toArray 64) = w' := by
  have KH := Lib.hid (has_yes h t ht hn)
  have hc3 : w.cell? ⟨d, 3, none⟩ = some (.bool false) := by rw [← hd]; exact h.blk.cell 3
  have hc0 : w.cell? ⟨d, 0, none⟩ = some (.slice An n cn) := h.blk.cell 0
  obtain ⟨g, rfl, _, hra, _⟩ := h.at_now hN ht
  obtain ⟨L, hL⟩ : ∃ L, N t = L := ⟨_, rfl⟩
  have hl : L.length = 128 := hL ▸ hN t
  rw [hL] at hra ⊢
  obtain ⟨iz, hiz, hzz, hzs⟩ := sector_zero
  obtain ⟨z, hz⟩ : ∃ z, (bv (List.replicate 128 0)).toArray = z := ⟨_, rfl⟩
  rw [hz] at hzz
  have hzl : z.size = 128 := by rw [← hz]; simp [bv_length]
  obtain ⟨sn, se, hsd⟩ := sector_desc
  have HRA := Lib.hid hra
  have HZ := Lib.hid (And.intro hiz hzz)
  have HD := Lib.hid hsd
  have HS1 := Lib.hid (show (Try.prog.info? 64).map (·.size) = some (bv L).length by rw [bv_length, hl]; exact sector_size)
  have HS2 := Lib.hid (show (Try.prog.info? 64).map (·.size) = some (bv L).toArray.size by rw [List.size_toArray, bv_length, hl]; exact sector_size)
  have HOLD := Lib.hid (show z.size = (bv L).toArray.size by rw [hzl, List.size_toArray, bv_length, hl])
  have HONE := Lib.hid (all_oneCell_toArray (bv_one L))
  have HB := Lib.hid (Blk.new w 64 z)
  have hi1 : (0 : Int) ≤ (t : Int) := by omega
  have hi2 : (t : Int) < (n : Int) := by omega
  obtain ⟨R, hR⟩ : ∃ R, (bv L).toArray = R := ⟨_, rfl⟩
  have HR := Lib.hid hR
  clear h hd ht hra hL hl hiz hzz hzs hz hzl hsd hR hN
  go_enter Try.func19, Try.ntmps19
  go_wp2_with fail
  (with_reducible refine KH.out.mono ?_)
  rintro e w' ⟨rfl, rfl⟩
  go_wp2_with (first
    | refine wpList_load_mid rfl 64 (.tmp 22) rfl g (t * 128) rfl (bv L) (.array sn se) HRA.out HD.out rfl HS1.out ?_
    | refine wpList_alloc_z rfl 64 rfl iz z HZ.out.1 HZ.out.2 ?_
    | (refine wpList_store_row rfl 64 (.tmp 6) (.tmp 23) rfl w.heap.size (bv L).toArray rfl rfl 64 z HB.out HS2.out HOLD.out HONE.out ?_; rw [setRow_alloc, HR.out]))
  go_ret2
  exact ⟨rfl, by rw [HR.out]⟩
end
theorem nil_write (at_ : Int) (A : Option Addr) (n c : Nat) (w : World) : Calls Try.prog 15 #[.pointer none, .int .i64 at_, .slice A n c] w fun e w' => e = .returned (.int .i64 2) ∧ w = w' := by
  go_enter Try.func15, Try.ntmps15
  go_wp2_with fail
  go_ret
  exact ⟨rfl, rfl⟩
theorem nil_flush (w : World) : Calls Try.prog 24 #[.pointer none] w fun e w' => e = .returned (.int .i64 2) ∧ w = w' := by
  go_enter Try.func24, Try.ntmps24
  go_wp2_with fail
  go_ret
  exact ⟨rfl, rfl⟩
theorem nil_read (at_ : Int) (w : World) : Calls Try.prog 19 #[.pointer none, .int .i64 at_] w fun e w' => e = .returned (.tuple #[.slice none 0 0, .int .i64 2]) ∧ w = w' := by
  go_enter Try.func19, Try.ntmps19
  go_wp2_with fail
  go_ret2
  exact ⟨rfl, rfl⟩
theorem nil_cut (n : Int) (w : World) : Calls Try.prog 20 #[.pointer none, .int .i64 n] w fun e w' => e = .returned (.tuple #[]) ∧ w = w' := by
  go_enter Try.func20, Try.ntmps20
  go_wp2_with fail
  (try simp only [Exit.inBlock, Exit.then]); refine bodyPost_ret (results_none rfl _ _ _) rfl ?_
  exact ⟨rfl, rfl⟩
theorem nil_crash (A : Option Addr) (n c : Nat) (w : World) : Calls Try.prog 14 #[.pointer none, .slice A n c] w fun e w' => e = .returned (.tuple #[]) ∧ w = w' := by
  go_enter Try.func14, Try.ntmps14
  go_wp2_with fail
  (try simp only [Exit.inBlock, Exit.then]); refine bodyPost_ret (results_none rfl _ _ _) rfl ?_
  exact ⟨rfl, rfl⟩
theorem nil_size (w : World) : Calls Try.prog 25 #[.pointer none] w fun e w' => e = .returned (.int .i64 0) ∧ w = w' := by
  go_enter Try.func25, Try.ntmps25
  go_wp2_with fail
  go_ret
  exact ⟨rfl, rfl⟩
theorem nil_pending (w : World) : Calls Try.prog 22 #[.pointer none] w fun e w' => e = .returned (.int .i64 0) ∧ w = w' := by
  go_enter Try.func22, Try.ntmps22
  go_wp2_with fail
  go_ret
  exact ⟨rfl, rfl⟩
theorem nil_dead (w : World) : Calls Try.prog 23 #[.pointer none] w fun e w' => e = .returned (.bool false) ∧ w = w' := by
  go_enter Try.func23, Try.ntmps23
  go_wp2_with fail
  go_ret
  exact ⟨rfl, rfl⟩
theorem nil_done (w : World) : Calls Try.prog 21 #[.pointer none] w fun e w' => e = .returned (.int .i64 0) ∧ w = w' := by
  go_enter Try.func21, Try.ntmps21
  go_wp2_with fail
  go_ret
  exact ⟨rfl, rfl⟩
theorem nil_copy (w : World) : Calls Try.prog 13 #[.pointer none] w fun e w' => e = .returned (.pointer none) ∧ w = w' := by
  go_enter Try.func13, Try.ntmps13
  go_wp2_with fail
  go_ret
  exact ⟨rfl, rfl⟩
theorem nilOk : NilOk where
  write at_ A n c w := (nil_write at_ A n c w).mono fun e w' ⟨h, k⟩ => ⟨h, k ▸ Below.refl _ _⟩
  flush w := (nil_flush w).mono fun e w' ⟨h, k⟩ => ⟨h, k ▸ Below.refl _ _⟩
  read at_ w := (nil_read at_ w).mono fun e w' ⟨h, k⟩ => ⟨⟨none, 0, h⟩, k ▸ Below.refl _ _⟩
  cut n w := (nil_cut n w).mono fun e w' ⟨h, k⟩ => ⟨h, k ▸ Below.refl _ _⟩
  crash A n c w := (nil_crash A n c w).mono fun e w' ⟨h, k⟩ => ⟨h, k ▸ Below.refl _ _⟩
  size w := (nil_size w).mono fun e w' ⟨h, k⟩ => ⟨h, k ▸ Below.refl _ _⟩
  pending w := (nil_pending w).mono fun e w' ⟨h, k⟩ => ⟨h, k ▸ Below.refl _ _⟩
  dead w := (nil_dead w).mono fun e w' ⟨h, k⟩ => ⟨h, k ▸ Below.refl _ _⟩
  count w := (nil_done w).mono fun e w' ⟨h, k⟩ => ⟨h, k ▸ Below.refl _ _⟩
  copy w := (nil_copy w).mono fun e w' ⟨h, k⟩ => ⟨h, k ▸ Below.refl _ _⟩
end Go.Proofs.Ytdnconakpajdgaa
