/- The contracts of the package's space: there, Len, Has, flip, New. No statement of the seat is proved here. -/
import Derived.Test.YtlcbmpojigjjlaaSpcLand
namespace Go.Proofs.Ytlcbmpojigjjlaa
open Go.RowKit
set_option linter.unusedVariables false
set_option linter.unusedSimpArgs false

theorem info_u64S : (Try.prog.info? 60).map (fun i => (i.zero, i.size, i.bytes)) = some (some (.int .u64 0), 1, 8) := by kernel_rfl
section
variable {w : World} {d : Nat} {A : Option Addr} {c n : Nat} {f : Nat → Bool}
theorem there_any (h : LSp w d A c n f) (at_ : Int) : Calls Try.prog 31 #[.pointer (some ⟨d, 0, none⟩), .int .i64 at_] w fun e w' => e = .returned (.bool (decide (0 ≤ at_) && decide (at_ < (n : Int)))) ∧ w = w' := by
  have hc0 := h.cells.1
  clear h
  by_cases h1 : 0 ≤ at_
  · by_cases h2 : at_ < (n : Int)
    · have e : (decide (0 ≤ at_) && decide (at_ < (n : Int))) = true := by simp [h1, h2]
      rw [e]
      clear e
      go_enter Try.func31, Try.ntmps31
      go_wp2_with fail
      go_ret
      exact ⟨rfl, rfl⟩
    · have e : (decide (0 ≤ at_) && decide (at_ < (n : Int))) = false := by simp [h2]
      rw [e]
      clear e
      go_enter Try.func31, Try.ntmps31
      go_wp2_with fail
      go_ret
      exact ⟨rfl, rfl⟩
  · have e : (decide (0 ≤ at_) && decide (at_ < (n : Int))) = false := by simp [h1]
    rw [e]
    clear e
    go_enter Try.func31, Try.ntmps31
    go_wp2_with fail
    go_ret
    exact ⟨rfl, rfl⟩
theorem len_anyS (h : LSp w d A c n f) : Calls Try.prog 17 #[.pointer (some ⟨d, 0, none⟩)] w fun e w' => e = .returned (.int .i64 n) ∧ w = w' := by
  have hc0 := h.cells.1
  clear h
  go_enter Try.func17, Try.ntmps17
  go_wp2_with fail
  go_ret
  exact ⟨rfl, rfl⟩
set_option maxHeartbeats 1000000 in
theorem has_anyS (h : LSp w d A c n f) (hn : n ≤ 16384) (at_ : Int) : Calls Try.prog 15 #[.pointer (some ⟨d, 0, none⟩), .int .i64 at_] w fun e w' => e = .returned (.bool (hasV ⟨n, f⟩ at_)) ∧ w = w' := by
  have HT := Lib.hid (there_any h at_)
  obtain ⟨B, hB⟩ : ∃ B, (decide (0 ≤ at_) && decide (at_ < (n : Int))) = B := ⟨_, rfl⟩
  rw [hB] at HT
  have hc1 := h.cells.2
  cases B with
  | false =>
    have e : hasV ⟨n, f⟩ at_ = false := by
      show (decide (0 ≤ at_) && (decide (at_ < (n : Int)) && f at_.toNat)) = false
      rw [← Bool.and_assoc, hB]; rfl
    rw [e]
    clear e hB h hc1
    go_enter Try.func15, Try.ntmps15
    go_wp2_with (go_at_call 31; refine HT.out.mono ?_; rintro e w' ⟨rfl, rfl⟩)
    go_ret
    exact ⟨rfl, rfl⟩
  | true =>
    have hb2 : 0 ≤ at_ ∧ at_ < (n : Int) := by simpa using hB
    obtain ⟨t, rfl⟩ : ∃ t : Nat, at_ = t := ⟨at_.toNat, by omega⟩
    have ht : t < n := by omega
    obtain ⟨g, hA, _, hcj, _⟩ := h.at_ (j := t / 64) (by omega)
    have hi1 : (0 : Int) ≤ (t : Int) := by omega
    obtain ⟨m, hm⟩ : ∃ m, (n + 63) / 64 = m := ⟨_, rfl⟩
    obtain ⟨td, htd⟩ : ∃ td, t / 64 = td := ⟨_, rfl⟩
    obtain ⟨tm, htm⟩ : ∃ tm, t % 64 = tm := ⟨_, rfl⟩
    obtain ⟨X, hX⟩ : ∃ X, w64 f td = X := ⟨_, rfl⟩
    have hX64 : X < 2 ^ 64 := hX ▸ w64_lt2 f td
    have hb : X.testBit tm = f t := by rw [← hX, w64_bit f td (by omega), show 64 * td + tm = t by omega]
    have e : hasV ⟨n, f⟩ t = f t := by
      show (decide (0 ≤ (t : Int)) && (decide ((t : Int) < (n : Int)) && f (t : Int).toNat)) = f t
      rw [← Bool.and_assoc, hB, Int.toNat_natCast]; rfl
    rw [e]
    have q1 : (t : Int) / 64 = (td : Int) := by omega
    have q2 : (t : Int) % 64 = (tm : Int) := by omega
    have q3 : (td : Int) < (m : Int) := by omega
    have q4 : (0 : Int) ≤ (td : Int) := by omega
    have q5 : (0 : Int) ≤ (tm : Int) := by omega
    have q6 : tm < 64 := by omega
    have q7 : m ≤ 256 := by omega
    rw [hm] at hc1
    rw [htd, hX] at hcj
    rw [hA] at hc1
    cases hft : f t with
    | true =>
      have h1 : bits BinOp.and IntKind.u64 ((X : Int) / 2 ^ tm) 1 = 1 := by rw [and_bit X tm hX64, hb, hft]; rfl
      clear e hB h hm htd htm hX hX64 hb hA hb2 hft ht
      go_enter Try.func15, Try.ntmps15
      go_wp2_with (go_at_call 31; refine HT.out.mono ?_; rintro e w' ⟨rfl, rfl⟩)
      go_ret
      exact ⟨rfl, rfl⟩
    | false =>
      have h1 : bits BinOp.and IntKind.u64 ((X : Int) / 2 ^ tm) 1 = 0 := by rw [and_bit X tm hX64, hb, hft]; rfl
      clear e hB h hm htd htm hX hX64 hb hA hb2 hft ht
      go_enter Try.func15, Try.ntmps15
      go_wp2_with (go_at_call 31; refine HT.out.mono ?_; rintro e w' ⟨rfl, rfl⟩)
      go_ret
      exact ⟨rfl, rfl⟩
theorem new_badS (x : Int) (hx : x < 0 ∨ 16384 < x) (w : World) : Calls Try.prog 10 #[.int .i64 x] w fun e w' => e = .returned (.tuple #[.pointer none, .int .i64 1]) ∧ w = w' := by
  by_cases h1 : x < 0
  · clear hx
    go_enter Try.func10, Try.ntmps10
    go_wp2_with fail
    go_ret2
    exact ⟨rfl, rfl⟩
  · have h2 : 16384 < x := by omega
    clear hx
    go_enter Try.func10, Try.ntmps10
    go_wp2_with fail
    go_ret2
    exact ⟨rfl, rfl⟩
theorem new_goodS (n : Nat) (hn : n ≤ 16384) (w : World) : Calls Try.prog 10 #[.int .i64 (n : Nat)] w fun e w' => ∃ d A c, e = .returned (.tuple #[.pointer (some ⟨d, 0, none⟩), .int .i64 0]) ∧ LSp w' d A c n (fun _ => false) ∧ (∀ g, LSF d A c n g → w.heap.size ≤ g) ∧ Below w.heap.size w w' := by
  obtain ⟨ib, hib, hy0, hy1, hy2⟩ := info_parts info_u64S
  obtain ⟨m, hm⟩ : ∃ m, (n + 63) / 64 = m := ⟨_, rfl⟩
  have hmi : ((n : Int) + 64 - 1) / 64 = (m : Int) := by omega
  have hmk : ∀ W, (Instr.makeSlice 57 (.int .i64 (m : Int)) (.int .i64 (m : Int))).run Try.prog W = .ok (.slice (some ⟨W.heap.size, 0, none⟩) m m) (W.alloc (.cells (madeCells #[.int .u64 0] m) 60)) := fun W => by
    have := run_make (P := Try.prog) W 57 60 ib _ Try.underlying57 hib hy0 .i64 .i64 (m : Int) (m : Int) (by omega) (by omega) (by rw [hy2]; omega) (by omega)
    rw [hy1, Int.toNat_natCast, Nat.mul_one] at this
    exact this
  obtain ⟨w1, hw1⟩ : ∃ w1, w.alloc (.cells (madeCells #[.int .u64 0] m) 60) = w1 := ⟨_, rfl⟩
  obtain ⟨g, hg⟩ : ∃ g, w.heap.size = g := ⟨_, rfl⟩
  obtain ⟨w2, hw2⟩ : ∃ w2, w1.alloc (.cells #[.int .i64 n, .slice (some ⟨g, 0, none⟩) m m] 59) = w2 := ⟨_, rfl⟩
  have hz : w1.heap.size = g + 1 := by rw [← hw1, ← hg]; exact Array.size_push ..
  have hb1 : Below w.heap.size w w1 := hw1 ▸ (Below.refl _ _).alloc (Nat.le_refl _) _
  have hb2 : Below w1.heap.size w1 w2 := hw2 ▸ (Below.refl _ _).alloc (Nat.le_refl _) _
  have k1 : Blk w2 g 60 (wds n fun _ => false).toArray := (show Blk w1 g 60 (wds n fun _ => false).toArray by rw [← hw1, ← hg, ← wds_made, hm]; exact Blk.new w _ _).below hb2 (by omega)
  have k2 : Blk w2 (g + 1) 59 #[.int .i64 n, .slice (some ⟨g, 0, none⟩) m m] := by rw [← hw2, ← hz]; exact Blk.new w1 _ _
  have HE := Lib.hid (show LSp w2 (g + 1) (some ⟨g, 0, none⟩) m n (fun _ => false) ∧ (∀ k, LSF (g + 1) (some ⟨g, 0, none⟩) m n k → w.heap.size ≤ k) ∧ Below w.heap.size w w2 from
    ⟨⟨by rw [hm]; exact k2, ⟨by rw [wds_length]; exact (Nat.mul_one _).symm, .inr ⟨g, m, _, rfl, Nat.zero_le _, k1, by omega, by unfold maxLen; omega, by rw [List.size_toArray, wds_length, Nat.mul_one, hm], by
      rw [List.toList_toArray, List.take_of_length_le (by rw [wds_length, Nat.mul_one]; exact Nat.le_refl _)]⟩⟩⟩, fun k hk => by
        rcases hk with rfl | hk
        · omega
        · have : g = k := by simpa [Value.ownBlock] using hk
          omega, hb1.trans (hb2.mono hb1.size)⟩)
  have HW1 := Lib.hid hw1
  have HW2 := Lib.hid hw2
  have HG := Lib.hid hg
  have HZ := Lib.hid hz
  clear hib hy0 hy1 hy2 hw1 hw2 hg hz hb1 hb2 k1 k2 hm
  go_enter Try.func10, Try.ntmps10
  go_wp2_with fail
  rw [HW1.out, HG.out]
  go_wp2_with fail
  rw [HW2.out]
  go_ret2
  have HE := HE.out
  rw [HG.out] at HE
  exact ⟨_, _, _, rfl, HE⟩
set_option maxHeartbeats 1000000 in
theorem flip_any (h : LSp w d A c n f) (hn : n ≤ 16384) (t : Nat) (ht : t < n) : Calls Try.prog 36 #[.pointer (some ⟨d, 0, none⟩), .int .i64 t] w fun e w' => e = .returned (.tuple #[]) ∧ LSp w' d A c n (flip1 f t) ∧ ∃ g, (Value.slice A ((n + 63) / 64) c).ownBlock = some g ∧ w.grownBy w' (some g) := by
  obtain ⟨g, hA, ho, hcj, hfj⟩ := h.at_ (j := t / 64) (by omega)
  have hS := h.set ho (flip_off f t)
  rw [w64_flip] at hS
  have hc1 := h.cells.2
  obtain ⟨m, hm⟩ : ∃ m, (n + 63) / 64 = m := ⟨_, rfl⟩
  obtain ⟨td, htd⟩ : ∃ td, t / 64 = td := ⟨_, rfl⟩
  obtain ⟨tm, htm⟩ : ∃ tm, t % 64 = tm := ⟨_, rfl⟩
  obtain ⟨X, hX⟩ : ∃ X, w64 f td = X := ⟨_, rfl⟩
  have hX64 : X < 2 ^ 64 := hX ▸ w64_lt2 f td
  rw [htd, htm, hX] at hS
  rw [htd, hX] at hcj
  rw [htd] at hfj
  have hp : 2 ^ tm < 2 ^ 64 := Nat.pow_lt_pow_right (by omega) (by omega)
  have hx := bits_xor_u64_nat X (2 ^ tm) (by rw [← two64]; exact hX64) (by rw [← two64]; exact hp)
  have HE := Lib.hid (show LSp (w.setCell ⟨g, td, none⟩ (.int .u64 (X ^^^ 2 ^ tm : Nat))) d A c n (flip1 f t) ∧ ∃ k, (Value.slice A ((n + 63) / 64) c).ownBlock = some k ∧ w.grownBy (w.setCell ⟨g, td, none⟩ (.int .u64 (X ^^^ 2 ^ tm : Nat))) (some k) from ⟨hS, g, ho, grown_cell _ _ _ _⟩)
  have HX := Lib.hid (show bits BinOp.xor IntKind.u64 (X : Int) (2 ^ tm) = ((X ^^^ 2 ^ tm : Nat) : Int) by rw [← hx]; simp)
  have q0 : IntKind.u64.wrap (2 ^ tm) = 2 ^ tm := by
    rw [IntKind.wrap_u64, show (2 : Int) ^ tm = ((2 ^ tm : Nat) : Int) by simp]
    generalize 2 ^ tm = y at hp ⊢
    omega
  have q1 : (t : Int).tdiv 64 = (td : Int) := by rw [Int.tdiv_eq_ediv_of_nonneg (by omega)]; omega
  have q2 : (t : Int).tmod 64 = (tm : Int) := by rw [Int.tmod_eq_emod_of_nonneg (by omega)]; omega
  have q3 : IntKind.i64.wrap (td : Int) = (td : Int) := IntWalk.i64_in _ (by omega)
  have q4 : IntKind.i64.wrap (tm : Int) = (tm : Int) := IntWalk.i64_in _ (by omega)
  have q5 : (0 : Int) ≤ (td : Int) := by omega
  have q6 : (td : Int) < (m : Int) := by omega
  have q7 : (0 : Int) ≤ (tm : Int) := by omega
  have q8 : tm < 64 := by omega
  have q11 : m ≤ 256 := by omega
  have q9 : (t : Int) / 64 = (td : Int) := by omega
  have q10 : (t : Int) % 64 = (tm : Int) := by omega
  rw [hm] at hc1
  rw [hA] at hc1
  clear h hA ho hS hm htd htm hX hX64 hp hx ht
  go_enter Try.func36, Try.ntmps36
  go_wp2_with fail
  go_region
  rw [HX.out]
  go_end0
  obtain ⟨h1, k, h2, h3⟩ := HE.out
  exact ⟨rfl, h1.keep fun _ _ => rfl, k, h2, ⟨h3.os, h3.tape, h3.output, h3.size, h3.block⟩⟩
end
end Go.Proofs.Ytlcbmpojigjjlaa
