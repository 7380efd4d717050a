/- The contracts of the package's disk: has, begin, Size, Pending, Dead, Done, Cut, Read. No statement of the seat is proved here. -/
import Derived.Test.YthbgcffnnholeaaDskLand
import Derived.Test.YthbgcffnnholeaaMem
import Derived.Deep.AppendLies
import Derived.Lib.SliceRun
namespace Go.Proofs.Ythbgcffnnholeaa
open Go.RowKit
set_option linter.unusedVariables false
set_option linter.unusedSimpArgs false

theorem sector_size : (Try.prog.info? 89).map (·.size) = some 128 := by kernel_rfl
theorem sector_desc : ∃ n e, Try.prog.underlying 89 = some (.array n e) := ⟨_, _, Try.underlying89⟩
section
variable {w : World} {d : Nat} {An : Option Addr} {cn : Nat} {As : Option Addr} {cs : Nat} {Ap : Option Addr} {cp : Nat} {n : Nat} {N Sf : Nat → List UInt8} {ps : List (Nat × List UInt8)} {fl : Fl}
theorem has_yes (h : LD w d An cn As cs Ap cp n N Sf ps fl) (t : Nat) (ht : t < n) (hn : n ≤ 16384) : Calls Try.prog 43 #[.pointer (some ⟨d, 0, none⟩), .int .i64 (t : Nat)] w fun e w' => e = .returned (.bool true) ∧ w = w' := by
  have hc0 : w.cell? ⟨d, 0, none⟩ = some (.slice An n cn) := h.blk.cell 0
  have h1 : (0 : Int) ≤ (t : Int) := by omega
  have h2 : (t : Int) < (n : Int) := by omega
  clear h ht
  go_enter Try.func43, Try.ntmps43
  go_wp2_with fail
  go_ret
  exact ⟨rfl, rfl⟩
theorem has_no (h : LD w d An cn As cs Ap cp n N Sf ps fl) (at_ : Int) (ha : at_ < 0 ∨ (n : Int) ≤ at_) (hn : n ≤ 16384) : Calls Try.prog 43 #[.pointer (some ⟨d, 0, none⟩), .int .i64 at_] w fun e w' => e = .returned (.bool false) ∧ w = w' := by
  have hc0 : w.cell? ⟨d, 0, none⟩ = some (.slice An n cn) := h.blk.cell 0
  clear h
  by_cases h1 : at_ < 0
  · have h2 : ¬ (0 : Int) ≤ at_ := by omega
    clear ha
    go_enter Try.func43, Try.ntmps43
    go_wp2_with fail
    go_ret
    exact ⟨rfl, rfl⟩
  · have h2 : (0 : Int) ≤ at_ := by omega
    have h3 : ¬ at_ < (n : Int) := by omega
    clear ha h1
    go_enter Try.func43, Try.ntmps43
    go_wp2_with fail
    go_ret
    exact ⟨rfl, rfl⟩
set_option maxHeartbeats 1000000 in
theorem begin_any (h : LD w d An cn As cs Ap cp n N Sf ps fl) (hc : fl.cnt ≤ 100000) (hl : In64 fl.left) (hp : fl.cut = true → 0 ≤ fl.left) : Calls Try.prog 44 #[.pointer (some ⟨d, 0, none⟩)] w fun e w' => e = .returned (.bool (beginF fl).2) ∧ LD w' d An cn As cs Ap cp n N Sf ps (beginF fl).1 ∧ w.grownBy w' (some d) := by
  obtain ⟨dead, cut, left, cnt⟩ := fl
  have hc3 : w.cell? ⟨d, 3, none⟩ = some (.bool dead) := h.blk.cell 3
  have hc4 : w.cell? ⟨d, 4, none⟩ = some (.bool cut) := h.blk.cell 4
  have hc5 : w.cell? ⟨d, 5, none⟩ = some (.int .i64 left) := h.blk.cell 5
  have hc6 : w.cell? ⟨d, 6, none⟩ = some (.int .i64 (cnt : Nat)) := h.blk.cell 6
  have hf3 := h.blk.frozen 3
  have hf5 := h.blk.frozen 5
  have hf6 := h.blk.frozen 6
  have HD := Lib.hid (h.flag (fl' := ⟨true, cut, left, cnt⟩) 3 (.bool true) rfl)
  have HDG := Lib.hid (grown_cell w d 3 (.bool true))
  have HC := Lib.hid (h.flag (fl' := ⟨dead, cut, left, cnt + 1⟩) 6 (.int .i64 ((cnt + 1 : Nat) : Int)) rfl)
  have HCG := Lib.hid (grown_cell w d 6 (.int .i64 ((cnt + 1 : Nat) : Int)))
  have HL := Lib.hid ((h.flag (fl' := ⟨dead, cut, left - 1, cnt⟩) 5 (.int .i64 (left - 1)) rfl).flag (fl' := ⟨dead, cut, left - 1, cnt + 1⟩) 6 (.int .i64 ((cnt + 1 : Nat) : Int)) rfl)
  have HLG := Lib.hid (grown_trans (grown_cell w d 5 (.int .i64 (left - 1))) (grown_cell _ d 6 (.int .i64 ((cnt + 1 : Nat) : Int))))
  have H := Lib.hid h
  have hw1 : IntKind.i64.wrap ((cnt : Int) + 1) = ((cnt + 1 : Nat) : Int) := by simp only at hc; rw [IntKind.wrap_i64]; omega
  cases cut with
  | false =>
    cases dead with
    | false =>
      show Calls _ _ _ _ fun e w' => e = .returned (.bool true) ∧ LD w' d An cn As cs Ap cp n N Sf ps ⟨false, false, left, cnt + 1⟩ ∧ _
      clear h hc hl hp
      go_enter Try.func44, Try.ntmps44
      go_wp2_with fail
      go_ret
      exact ⟨rfl, HC.out, HCG.out⟩
    | true =>
      show Calls _ _ _ _ fun e w' => e = .returned (.bool false) ∧ LD w' d An cn As cs Ap cp n N Sf ps ⟨true, false, left, cnt⟩ ∧ _
      clear h hc hl hp
      go_enter Try.func44, Try.ntmps44
      go_wp2_with fail
      go_ret
      exact ⟨rfl, H.out, World.grownBy.refl _ _⟩
  | true =>
    by_cases hz : left = 0
    · subst hz
      have e : beginF ⟨dead, true, 0, cnt⟩ = (⟨true, true, 0, cnt⟩, false) := by simp [beginF]
      rw [e]
      clear h hc hl hp e
      go_enter Try.func44, Try.ntmps44
      go_wp2_with fail
      go_ret
      exact ⟨rfl, HD.out, HDG.out⟩
    · have hz2 : (left == 0) = false := by simpa using hz
      cases dead with
      | true =>
        show Calls _ _ _ _ fun e w' => e = .returned (.bool false) ∧ LD w' d An cn As cs Ap cp n N Sf ps ⟨true, true, left, cnt⟩ ∧ _
        clear h hc hl hp hz2
        go_enter Try.func44, Try.ntmps44
        go_wp2_with fail
        go_ret
        exact ⟨rfl, H.out, World.grownBy.refl _ _⟩
      | false =>
        have e : beginF ⟨false, true, left, cnt⟩ = (⟨false, true, left - 1, cnt + 1⟩, true) := by simp [beginF, hz2]
        rw [e]
        have hp0 : 0 ≤ left := hp rfl
        have hl2 : left ≤ 9223372036854775807 := hl.2
        have hw2 : IntKind.i64.wrap (left - 1) = left - 1 := by rw [IntKind.wrap_i64]; omega
        clear h hc hl hp hz2 e hl2
        go_enter Try.func44, Try.ntmps44
        go_wp2_with fail
        go_ret
        exact ⟨rfl, HL.out, HLG.out⟩
theorem size_any (h : LD w d An cn As cs Ap cp n N Sf ps fl) : Calls Try.prog 32 #[.pointer (some ⟨d, 0, none⟩)] w fun e w' => e = .returned (.int .i64 (n : Nat)) ∧ w = w' := by
  have hc0 : w.cell? ⟨d, 0, none⟩ = some (.slice An n cn) := h.blk.cell 0
  clear h
  go_enter Try.func32, Try.ntmps32
  go_wp2_with fail
  go_ret
  exact ⟨rfl, rfl⟩
theorem dead_any (h : LD w d An cn As cs Ap cp n N Sf ps fl) : Calls Try.prog 29 #[.pointer (some ⟨d, 0, none⟩)] w fun e w' => e = .returned (.bool fl.dead) ∧ w = w' := by
  have hc0 : w.cell? ⟨d, 3, none⟩ = some (.bool fl.dead) := h.blk.cell 3
  clear h
  generalize fl.dead = b at *
  go_enter Try.func29, Try.ntmps29
  go_wp2_with fail
  go_ret
  exact ⟨rfl, rfl⟩
theorem done_any (h : LD w d An cn As cs Ap cp n N Sf ps fl) : Calls Try.prog 28 #[.pointer (some ⟨d, 0, none⟩)] w fun e w' => e = .returned (.int .i64 (fl.cnt : Nat)) ∧ w = w' := by
  have hc0 : w.cell? ⟨d, 6, none⟩ = some (.int .i64 (fl.cnt : Nat)) := h.blk.cell 6
  clear h
  generalize fl.cnt = b at *
  go_enter Try.func28, Try.ntmps28
  go_wp2_with fail
  go_ret
  exact ⟨rfl, rfl⟩
set_option maxHeartbeats 1000000 in
theorem cut_any (h : LD w d An cn As cs Ap cp n N Sf ps fl) (x : Int) : Calls Try.prog 24 #[.pointer (some ⟨d, 0, none⟩), .int .i64 x] w fun e w' => e = .returned (.tuple #[]) ∧ LD w' d An cn As cs Ap cp n N Sf ps (if fl.dead = true then fl else ⟨fl.dead, decide (0 ≤ x), x, fl.cnt⟩) ∧ w.grownBy w' (some d) := by
  obtain ⟨dead, cut, left, cnt⟩ := fl
  have hc3 : w.cell? ⟨d, 3, none⟩ = some (.bool dead) := h.blk.cell 3
  have hc4 : w.cell? ⟨d, 4, none⟩ = some (.bool cut) := h.blk.cell 4
  have hc5 : w.cell? ⟨d, 5, none⟩ = some (.int .i64 left) := h.blk.cell 5
  have hf4 := h.blk.frozen 4
  have hf5 := h.blk.frozen 5
  have HL := Lib.hid (fun b => (h.flag (fl' := ⟨dead, b, left, cnt⟩) 4 (.bool b) rfl).flag (fl' := ⟨dead, b, x, cnt⟩) 5 (.int .i64 x) rfl)
  have HLG := Lib.hid (fun b : Bool => grown_trans (grown_cell w d 4 (.bool b)) (grown_cell _ d 5 (.int .i64 x)))
  have H := Lib.hid h
  cases dead with
  | true =>
    show Calls _ _ _ _ fun e w' => e = .returned (.tuple #[]) ∧ LD w' d An cn As cs Ap cp n N Sf ps ⟨true, cut, left, cnt⟩ ∧ _
    clear h
    go_enter Try.func24, Try.ntmps24
    go_wp2_with fail
    (try simp only [Exit.inBlock, Exit.then]); refine bodyPost_ret (results_none rfl _ _ _) rfl ?_
    exact ⟨rfl, H.out, World.grownBy.refl _ _⟩
  | false =>
    show Calls _ _ _ _ fun e w' => e = .returned (.tuple #[]) ∧ LD w' d An cn As cs Ap cp n N Sf ps ⟨false, decide (0 ≤ x), x, cnt⟩ ∧ _
    clear h
    by_cases hx : 0 ≤ x
    · have e : decide (0 ≤ x) = true := by simpa using hx
      rw [e]
      clear e
      go_enter Try.func24, Try.ntmps24
      go_wp2_with fail
      go_end0
      exact ⟨rfl, HL.out true, HLG.out true⟩
    · have e : decide (0 ≤ x) = false := by simpa using hx
      rw [e]
      clear e
      go_enter Try.func24, Try.ntmps24
      go_wp2_with fail
      go_end0
      exact ⟨rfl, HL.out false, HLG.out false⟩
end
end Go.Proofs.Ythbgcffnnholeaa
/- A variable of many cells is made. No statement of the seat is proved here. -/
namespace Go.Proofs.Ythbgcffnnholeaa
open Go.RowKit
set_option linter.unusedVariables false
set_option linter.unusedSimpArgs false

/-- A variable of its own, its zero cells by a letter. -/
theorem wpList_alloc_z {ops : Array Oper} {rest : List Oper} {o : Oper} {a : Act} {w : World} {Q : Exit → Act → World → Prop} (hgd : o.guard = none) (ty : TypeId) (ho : o.op = .alloc ty) (i : TypeInfo) (z : Array Value) (hi : Try.prog.info? ty = some i) (hz : i.zero = some (.agg z))
    (h : wpList Try.prog ops Q rest (a.put o.dst (.pointer (some ⟨w.heap.size, 0, none⟩))) (w.alloc (.cells z ty))) : wpList Try.prog ops Q (o :: rest) a w := by
  refine wpList_plain hgd fun K hK => ?_
  unfold Oper.wp execOp
  have hr : (Instr.alloc ty true (.tuple #[])).run Try.prog w = .ok (.pointer (some ⟨w.heap.size, 0, none⟩)) (w.alloc (.cells z ty)) := by
    simp [Instr.alloc, zeroValue, typeInfo, hi, hz, newVar, newRow, Value.cells]
  simp only [ho, Sem.run_bind, hr, Result.andThen_ok, Sem.run_pure]
  exact hK _ _ h
theorem zero_parts {x : Option TypeInfo} {n : Nat} {z : Array Value} (h : x.map (fun i => (i.zero, i.size)) = some (some (.agg z), n)) : ∃ i, x = some i ∧ i.zero = some (.agg z) ∧ i.size = n := by
  cases x with
  | none => cases h
  | some i =>
    refine ⟨i, rfl, ?_⟩
    simp only [Option.map_some, Option.some.injEq, Prod.mk.injEq] at h
    exact h
end Go.Proofs.Ythbgcffnnholeaa
/- The contract of the package's Read; what the calls do on a nil disk. No statement of the seat is proved here. -/
namespace Go.Proofs.Ythbgcffnnholeaa
open Go.RowKit
set_option linter.unusedVariables false
set_option linter.unusedSimpArgs false

theorem sector_zero : ∃ i, Try.prog.info? 89 = some i ∧ i.zero = some (.agg (bv (List.replicate 128 0)).toArray) ∧ i.size = 128 := zero_parts (by kernel_rfl)
theorem write_zero : ∃ i, Try.prog.info? 91 = some i ∧ i.zero = some (.agg (wc (0, List.replicate 128 0)).toArray) ∧ i.size = 129 := zero_parts (by kernel_rfl)
section
variable {w : World} {d : Nat} {An : Option Addr} {cn : Nat} {As : Option Addr} {cs : Nat} {Ap : Option Addr} {cp : Nat} {n : Nat} {N Sf : Nat → List UInt8} {ps : List (Nat × List UInt8)} {fl : Fl}
set_option maxHeartbeats 1000000 in
theorem read_bad (h : LD w d An cn As cs Ap cp n N Sf ps fl) (hn : n ≤ 16384) (at_ : Int) (ha : at_ < 0 ∨ (n : Int) ≤ at_) : Calls Try.prog 30 #[.pointer (some ⟨d, 0, none⟩), .int .i64 at_] w fun e w' => e = .returned (.tuple #[.slice none 0 0, .int .i64 1]) ∧ w = w' := by
  have KH := Lib.hid (has_no h at_ ha hn)
  clear h ha
  go_enter Try.func30, Try.ntmps30
  go_wp2_with fail
  (with_reducible refine KH.out.mono ?_)
  rintro e w' ⟨rfl, rfl⟩
  go_wp2_with fail
  go_ret2
  exact ⟨rfl, rfl⟩
set_option maxHeartbeats 1000000 in
theorem read_dead (h : LD w d An cn As cs Ap cp n N Sf ps fl) (hn : n ≤ 16384) (hd : fl.dead = true) (t : Nat) (ht : t < n) : Calls Try.prog 30 #[.pointer (some ⟨d, 0, none⟩), .int .i64 (t : Nat)] w fun e w' => e = .returned (.tuple #[.slice none 0 0, .int .i64 6]) ∧ w = w' := by
  have KH := Lib.hid (has_yes h t ht hn)
  have hc3 : w.cell? ⟨d, 3, none⟩ = some (.bool true) := by rw [← hd]; exact h.blk.cell 3
  clear h hd ht
  go_enter Try.func30, Try.ntmps30
  go_wp2_with fail
  (with_reducible refine KH.out.mono ?_)
  rintro e w' ⟨rfl, rfl⟩
  go_wp2_with fail
  go_ret2
  exact ⟨rfl, rfl⟩
set_option maxHeartbeats 1000000 in
theorem read_good (h : LD w d An cn As cs Ap cp n N Sf ps fl) (hn : n ≤ 16384) (hN : ∀ i, (N i).length = 128) (hd : fl.dead = false) (t : Nat) (ht : t < n) : Calls Try.prog 30 #[.pointer (some ⟨d, 0, none⟩), .int .i64 (t : Nat)] w fun e w' =>
    e = .returned (.tuple #[.slice (some ⟨w.heap.size, 0, none⟩) 128 128, .int .i64 0]) ∧ w.alloc (.cells (bv (N t)).toArray 89) = w' := by
  have KH := Lib.hid (has_yes h t ht hn)
  have hc3 : w.cell? ⟨d, 3, none⟩ = some (.bool false) := by rw [← hd]; exact h.blk.cell 3
  have hc0 : w.cell? ⟨d, 0, none⟩ = some (.slice An n cn) := h.blk.cell 0
  obtain ⟨g, rfl, _, hra, _⟩ := h.at_now hN ht
  obtain ⟨L, hL⟩ : ∃ L, N t = L := ⟨_, rfl⟩
  have hl : L.length = 128 := hL ▸ hN t
  rw [hL] at hra ⊢
  obtain ⟨iz, hiz, hzz, hzs⟩ := sector_zero
  obtain ⟨z, hz⟩ : ∃ z, (bv (List.replicate 128 0)).toArray = z := ⟨_, rfl⟩
  rw [hz] at hzz
  have hzl : z.size = 128 := by rw [← hz]; simp [bv_length]
  obtain ⟨sn, se, hsd⟩ := sector_desc
  have HRA := Lib.hid hra
  have HZ := Lib.hid (And.intro hiz hzz)
  have HD := Lib.hid hsd
  have HS1 := Lib.hid (show (Try.prog.info? 89).map (·.size) = some (bv L).length by rw [bv_length, hl]; exact sector_size)
  have HS2 := Lib.hid (show (Try.prog.info? 89).map (·.size) = some (bv L).toArray.size by rw [List.size_toArray, bv_length, hl]; exact sector_size)
  have HOLD := Lib.hid (show z.size = (bv L).toArray.size by rw [hzl, List.size_toArray, bv_length, hl])
  have HONE := Lib.hid (all_oneCell_toArray (bv_one L))
  have HB := Lib.hid (Blk.new w 89 z)
  have hi1 : (0 : Int) ≤ (t : Int) := by omega
  have hi2 : (t : Int) < (n : Int) := by omega
  obtain ⟨R, hR⟩ : ∃ R, (bv L).toArray = R := ⟨_, rfl⟩
  have HR := Lib.hid hR
  clear h hd ht hra hL hl hiz hzz hzs hz hzl hsd hR hN
  go_enter Try.func30, Try.ntmps30
  go_wp2_with fail
  (with_reducible refine KH.out.mono ?_)
  rintro e w' ⟨rfl, rfl⟩
  go_wp2_with (first
    | refine wpList_load_mid rfl 89 (.tmp 22) rfl g (t * 128) rfl (bv L) (.array sn se) HRA.out HD.out rfl HS1.out ?_
    | refine wpList_alloc_z rfl 89 rfl iz z HZ.out.1 HZ.out.2 ?_
    | (refine wpList_store_row rfl 89 (.tmp 6) (.tmp 23) rfl w.heap.size (bv L).toArray rfl rfl 89 z HB.out HS2.out HOLD.out HONE.out ?_; rw [setRow_alloc, HR.out]))
  go_ret2
  exact ⟨rfl, by rw [HR.out]⟩
end
theorem nil_write (at_ : Int) (A : Option Addr) (n c : Nat) (w : World) : Calls Try.prog 20 #[.pointer none, .int .i64 at_, .slice A n c] w fun e w' => e = .returned (.int .i64 2) ∧ w = w' := by
  go_enter Try.func20, Try.ntmps20
  go_wp2_with fail
  go_ret
  exact ⟨rfl, rfl⟩
theorem nil_flush (w : World) : Calls Try.prog 22 #[.pointer none] w fun e w' => e = .returned (.int .i64 2) ∧ w = w' := by
  go_enter Try.func22, Try.ntmps22
  go_wp2_with fail
  go_ret
  exact ⟨rfl, rfl⟩
theorem nil_read (at_ : Int) (w : World) : Calls Try.prog 30 #[.pointer none, .int .i64 at_] w fun e w' => e = .returned (.tuple #[.slice none 0 0, .int .i64 2]) ∧ w = w' := by
  go_enter Try.func30, Try.ntmps30
  go_wp2_with fail
  go_ret2
  exact ⟨rfl, rfl⟩
theorem nil_cut (n : Int) (w : World) : Calls Try.prog 24 #[.pointer none, .int .i64 n] w fun e w' => e = .returned (.tuple #[]) ∧ w = w' := by
  go_enter Try.func24, Try.ntmps24
  go_wp2_with fail
  (try simp only [Exit.inBlock, Exit.then]); refine bodyPost_ret (results_none rfl _ _ _) rfl ?_
  exact ⟨rfl, rfl⟩
theorem nil_crash (A : Option Addr) (n c : Nat) (w : World) : Calls Try.prog 26 #[.pointer none, .slice A n c] w fun e w' => e = .returned (.tuple #[]) ∧ w = w' := by
  go_enter Try.func26, Try.ntmps26
  go_wp2_with fail
  (try simp only [Exit.inBlock, Exit.then]); refine bodyPost_ret (results_none rfl _ _ _) rfl ?_
  exact ⟨rfl, rfl⟩
theorem nil_size (w : World) : Calls Try.prog 32 #[.pointer none] w fun e w' => e = .returned (.int .i64 0) ∧ w = w' := by
  go_enter Try.func32, Try.ntmps32
  go_wp2_with fail
  go_ret
  exact ⟨rfl, rfl⟩
theorem nil_dead (w : World) : Calls Try.prog 29 #[.pointer none] w fun e w' => e = .returned (.bool false) ∧ w = w' := by
  go_enter Try.func29, Try.ntmps29
  go_wp2_with fail
  go_ret
  exact ⟨rfl, rfl⟩
theorem nil_done (w : World) : Calls Try.prog 28 #[.pointer none] w fun e w' => e = .returned (.int .i64 0) ∧ w = w' := by
  go_enter Try.func28, Try.ntmps28
  go_wp2_with fail
  go_ret
  exact ⟨rfl, rfl⟩
theorem nilOk : NilOk where
  write at_ A n c w := (nil_write at_ A n c w).mono fun e w' ⟨h, k⟩ => ⟨h, k ▸ Below.refl _ _⟩
  flush w := (nil_flush w).mono fun e w' ⟨h, k⟩ => ⟨h, k ▸ Below.refl _ _⟩
  read at_ w := (nil_read at_ w).mono fun e w' ⟨h, k⟩ => ⟨⟨none, 0, h⟩, k ▸ Below.refl _ _⟩
  cut n w := (nil_cut n w).mono fun e w' ⟨h, k⟩ => ⟨h, k ▸ Below.refl _ _⟩
  crash A n c w := (nil_crash A n c w).mono fun e w' ⟨h, k⟩ => ⟨h, k ▸ Below.refl _ _⟩
  size w := (nil_size w).mono fun e w' ⟨h, k⟩ => ⟨h, k ▸ Below.refl _ _⟩
  dead w := (nil_dead w).mono fun e w' ⟨h, k⟩ => ⟨h, k ▸ Below.refl _ _⟩
  count w := (nil_done w).mono fun e w' ⟨h, k⟩ => ⟨h, k ▸ Below.refl _ _⟩
end Go.Proofs.Ythbgcffnnholeaa
/- The contracts of the package's New and of Clone at sectors and at writes. No statement of the seat is proved here. -/
namespace Go.Proofs.Ythbgcffnnholeaa
open Go.RowKit
set_option linter.unusedVariables false
set_option linter.unusedSimpArgs false

theorem made_at (z : Array Value) (n j : Nat) (hj : j < n) (h : j < (madeCells z n).size) : (madeCells z n)[j] = z[j % z.size]! := by
  simp [madeCells]
theorem made_secs (n : Nat) : madeCells (bv (List.replicate 128 0)).toArray (n * 128) = (secs n fun _ => padS []).toArray := by
  have e0 : padS [] = List.replicate 128 0 := by simp [padS]
  rw [e0]
  have hl : (secs n fun _ => List.replicate 128 0).length = n * 128 := secs_length fun _ => by simp
  have h5 : (bv (List.replicate 128 (0 : UInt8))).toArray.size = 128 := by simp [bv_length]
  apply Array.ext
  · rw [size_madeCells, List.size_toArray, hl]
  · intro j hj hj2
    rw [size_madeCells] at hj
    have h1 : j / 128 < n := by omega
    have h2 : j % 128 < 128 := by omega
    have h3 := secs_at (n := n) (i := j / 128) (j := j % 128) (f := fun _ => List.replicate 128 0) (fun _ => by simp) h1 h2
    rw [show j / 128 * 128 + j % 128 = j by omega, List.getElem?_eq_getElem (by omega), List.getElem?_eq_getElem (by rw [bv_length, List.length_replicate]; exact h2)] at h3
    have h3 := Option.some.inj h3
    rw [made_at _ _ _ hj, h5, List.getElem_toArray, h3, getElem!_pos _ _ (by rw [h5]; exact h2), List.getElem_toArray]
theorem sector_parts : ∃ i, Try.prog.info? 89 = some i ∧ i.zero = some (.agg (bv (List.replicate 128 0)).toArray) ∧ i.size = 128 ∧ i.bytes = 128 := by
  obtain ⟨i, h1, h2, h3⟩ := sector_zero
  have h4 : (Try.prog.info? 89).map (·.bytes) = some 128 := by kernel_rfl
  rw [h1] at h4
  exact ⟨i, h1, h2, h3, by simpa using h4⟩
theorem write_parts : ∃ i, Try.prog.info? 91 = some i ∧ i.zero = some (.agg (wc (0, List.replicate 128 0)).toArray) ∧ i.size = 129 ∧ i.bytes = 136 := by
  obtain ⟨i, h1, h2, h3⟩ := write_zero
  have h4 : (Try.prog.info? 91).map (·.bytes) = some 136 := by kernel_rfl
  rw [h1] at h4
  exact ⟨i, h1, h2, h3, by simpa using h4⟩
theorem new_bad (x : Int) (hx : x < 0 ∨ 16384 < x) (w : World) : Calls Try.prog 8 #[.int .i64 x] w fun e w' => e = .returned (.tuple #[.pointer none, .int .i64 1]) ∧ w = w' := by
  by_cases h1 : x < 0
  · clear hx
    go_enter Try.func8, Try.ntmps8
    go_wp2_with fail
    go_ret2
    exact ⟨rfl, rfl⟩
  · have h2 : 16384 < x := by omega
    clear hx
    go_enter Try.func8, Try.ntmps8
    go_wp2_with fail
    go_ret2
    exact ⟨rfl, rfl⟩
/-- The rows of a new disk, whichever was made first. -/
theorem new_ld (n : Nat) (hn : n ≤ 16384) (w : World) (A B : Nat) (hAB : (A = w.heap.size ∧ B = w.heap.size + 1) ∨ (A = w.heap.size + 1 ∧ B = w.heap.size)) {w3 : World}
    (h3 : w3 = ((w.alloc (.cells (secs n fun _ => padS []).toArray 89)).alloc (.cells (secs n fun _ => padS []).toArray 89)).alloc (.cells (lcells (some ⟨A, 0, none⟩) n (some ⟨B, 0, none⟩) n none 0 n 0 ⟨false, false, 0, 0⟩) 70)) :
    LD w3 (w.heap.size + 2) (some ⟨A, 0, none⟩) n (some ⟨B, 0, none⟩) n none 0 n (fun _ => padS []) (fun _ => padS []) [] ⟨false, false, 0, 0⟩ ∧ Below w.heap.size w w3 := by
  have hs : (secs n fun _ => padS []).length = n * 128 := secs_length fun _ => padS_length (by simp)
  obtain ⟨M, hM⟩ : ∃ M, (secs n fun _ => padS []) = M := ⟨_, rfl⟩
  rw [hM] at h3 hs
  obtain ⟨w1, hw1⟩ : ∃ w1, w.alloc (.cells M.toArray 89) = w1 := ⟨_, rfl⟩
  obtain ⟨w2, hw2⟩ : ∃ w2, w1.alloc (.cells M.toArray 89) = w2 := ⟨_, rfl⟩
  rw [hw1, hw2] at h3
  have z1 : w1.heap.size = w.heap.size + 1 := by rw [← hw1]; exact Array.size_push ..
  have z2 : w2.heap.size = w.heap.size + 2 := by
    rw [← hw2]
    have : (w1.alloc (.cells M.toArray 89)).heap.size = w1.heap.size + 1 := Array.size_push ..
    omega
  have b1 : Below w.heap.size w w1 := hw1 ▸ (Below.refl _ _).alloc (Nat.le_refl _) _
  have b2 : Below w1.heap.size w1 w2 := hw2 ▸ (Below.refl _ _).alloc (Nat.le_refl _) _
  have b3 : Below w2.heap.size w2 w3 := h3 ▸ (Below.refl _ _).alloc (Nat.le_refl _) _
  have k1 : Blk w3 w.heap.size 89 M.toArray := ((show Blk w1 w.heap.size 89 M.toArray by rw [← hw1]; exact Blk.new w _ _).below b2 (by omega)).below b3 (by omega)
  have k2 : Blk w3 (w.heap.size + 1) 89 M.toArray := (show Blk w2 (w.heap.size + 1) 89 M.toArray by rw [← hw2, ← z1]; exact Blk.new w1 _ _).below b3 (by omega)
  have k3 : Blk w3 (w.heap.size + 2) 70 (lcells (some ⟨A, 0, none⟩) n (some ⟨B, 0, none⟩) n none 0 n 0 ⟨false, false, 0, 0⟩) := by rw [h3, ← z2]; exact Blk.new w2 _ _
  have row : ∀ g, Blk w3 g 89 M.toArray → w3.ownsRow 0 89 128 (.slice (some ⟨g, 0, none⟩) n n) n M := fun g hg =>
    ⟨hs, .inr ⟨g, n, M.toArray, rfl, Nat.zero_le _, hg, Nat.le_refl _, by unfold maxLen; omega, by rw [List.size_toArray, hs], by rw [List.toList_toArray, List.take_of_length_le (by omega)]⟩⟩
  refine ⟨⟨k3, ?_, ?_, World.ownsRow_nil _ _ _ _, ?_⟩, b1.trans ((b2.mono b1.size).trans (b3.mono (Nat.le_trans b1.size b2.size)))⟩
  · rw [hM]
    rcases hAB with ⟨rfl, rfl⟩ | ⟨rfl, rfl⟩
    · exact row _ k1
    · exact row _ k2
  · rw [hM]
    rcases hAB with ⟨rfl, rfl⟩ | ⟨rfl, rfl⟩
    · exact row _ k2
    · exact row _ k1
  · intro g hg e
    have e1 : A = g := by simpa [Value.ownBlock] using hg
    have e2 : B = g := by simpa [Value.ownBlock] using e
    omega
set_option maxHeartbeats 1000000 in
theorem new_good (n : Nat) (hn : n ≤ 16384) (w : World) : Calls Try.prog 8 #[.int .i64 (n : Nat)] w fun e w' => ∃ A B, e = .returned (.tuple #[.pointer (some ⟨w.heap.size + 2, 0, none⟩), .int .i64 0]) ∧
    LD w' (w.heap.size + 2) (some ⟨A, 0, none⟩) n (some ⟨B, 0, none⟩) n none 0 n (fun _ => padS []) (fun _ => padS []) [] ⟨false, false, 0, 0⟩ ∧ w.heap.size ≤ A ∧ w.heap.size ≤ B ∧ Below w.heap.size w w' := by
  obtain ⟨iz, hiz, hzz, hzs, hzb⟩ := sector_parts
  have hmk : ∀ W, (Instr.makeSlice 67 (.int .i64 (n : Int)) (.int .i64 (n : Int))).run Try.prog W = .ok (.slice (some ⟨W.heap.size, 0, none⟩) n n) (W.alloc (.cells (secs n fun _ => padS []).toArray 89)) := fun W => by
    have := run_make (P := Try.prog) W 67 89 iz _ Try.underlying67 hiz hzz .i64 .i64 (n : Int) (n : Int) (by omega) (by omega) (by rw [hzb]; omega) (by omega)
    rw [hzs, Int.toNat_natCast] at this
    rw [this, Value.cells, made_secs]
  have HL := Lib.hid (fun A B hAB w3 h3 => new_ld n hn w A B hAB (w3 := w3) h3)
  obtain ⟨M, hM⟩ : ∃ M, (secs n fun _ => padS []) = M := ⟨_, rfl⟩
  rw [hM] at hmk HL
  have h1 : ¬ (n : Int) < 0 := by omega
  have h2 : ¬ (16384 : Int) < (n : Int) := by omega
  clear hiz hzz hzs hzb hM
  go_enter Try.func8, Try.ntmps8
  go_wp2_with fail
  go_region
  · go_wp2_with fail
    go_ret2
    obtain ⟨k1, k2⟩ := HL.out _ _ (.inl ⟨rfl, rfl⟩) _ rfl
    exact ⟨w.heap.size, w.heap.size + 1, rfl, k1.keep fun g _ => rfl, Nat.le_refl _, Nat.le_succ _, ⟨k2.os, k2.tape, k2.output, k2.size, k2.block⟩⟩
  · go_wp2_with fail
    go_ret2
    obtain ⟨k1, k2⟩ := HL.out _ _ (.inr ⟨rfl, rfl⟩) _ rfl
    exact ⟨w.heap.size + 1, w.heap.size, rfl, k1.keep fun g _ => rfl, Nat.le_succ _, Nat.le_refl _, ⟨k2.os, k2.tape, k2.output, k2.size, k2.block⟩⟩
end Go.Proofs.Ythbgcffnnholeaa
