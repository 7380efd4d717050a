/- The package's space: what it is in memory; size, cell, firstFree, there, Len, Has. No statement of the seat is proved here. -/
import Derived.Test.YtlcbmpojigjjlaaSpcWord
import Derived.Test.YtlcbmpojigjjlaaSpcKit
import Derived.Test.YtlcbmpojigjjlaaQuiet
import Derived.Laws.MakeOwn
namespace Go.Proofs.Ytlcbmpojigjjlaa
open Go.RowKit
set_option linter.unusedVariables false
set_option linter.unusedSimpArgs false

/-- In w the block d is a space of n places, of which those of f are used. -/
structure LSp (w : World) (d : Nat) (A : Option Addr) (c n : Nat) (f : Nat → Bool) : Prop where
  blk : Blk w d 59 #[.int .i64 n, .slice A ((n + 63) / 64) c]
  row : w.ownsRow 0 60 1 (.slice A ((n + 63) / 64) c) ((n + 63) / 64) (wds n f)
def LSF (d : Nat) (A : Option Addr) (c n : Nat) (g : Nat) : Prop := g = d ∨ (Value.slice A ((n + 63) / 64) c).ownBlock = some g
def Lsp (w : World) (s : Addr) (F : Nat → Prop) (S : PS) : Prop := ∃ d A c, s = ⟨d, 0, none⟩ ∧ LSp w d A c S.n S.S ∧ S.Ok ∧ ∀ g, F g ↔ LSF d A c S.n g
section
variable {w w' : World} {d : Nat} {A : Option Addr} {c n : Nat} {f : Nat → Bool} {S : PS}
theorem LSp.ne (h : LSp w d A c n f) : ∀ g, (Value.slice A ((n + 63) / 64) c).ownBlock = some g → g ≠ d := fun g hv => by
  obtain ⟨_, cur, hb, _⟩ := row_blk h.row g hv
  exact blk_other hb h.blk (by decide)
theorem LSp.lt (h : LSp w d A c n f) : ∀ g, LSF d A c n g → g < w.heap.size := fun g hg => by
  rcases hg with rfl | hg
  · exact h.blk.lt
  · exact (World.ownsRow.lt h.row g hg).2
theorem LSp.keep (h : LSp w d A c n f) (hk : ∀ g, LSF d A c n g → w'.heap[g]? = w.heap[g]?) : LSp w' d A c n f :=
  ⟨h.blk.same (hk d (.inl rfl)), ownsRow_same h.row fun g hv _ => hk g (.inr hv)⟩
theorem LSp.below (h : LSp w d A c n f) (hb : Below w.heap.size w w') : LSp w' d A c n f := h.keep fun g hg => hb.block g (h.lt g hg)
theorem LSp.at_ (h : LSp w d A c n f) {j : Nat} (hj : j < (n + 63) / 64) : ∃ g, A = some ⟨g, 0, none⟩ ∧ (Value.slice A ((n + 63) / 64) c).ownBlock = some g ∧ w.cell? ⟨g, j, none⟩ = some (.int .u64 (w64 f j : Nat)) ∧ w.frozen? ⟨g, j, none⟩ = false := by
  obtain ⟨g, hA, ho, _, hr⟩ := row_at h.row (by omega)
  have := hr j _ (wds_get f hj)
  exact ⟨g, hA, ho, this.1, this.2⟩
theorem LSp.set (h : LSp w d A c n f) {j g : Nat} (ho : (Value.slice A ((n + 63) / 64) c).ownBlock = some g) {f' : Nat → Bool} (hx : ∀ q, q / 64 ≠ j → f' q = f q) : LSp (w.setCell ⟨g, j, none⟩ (.int .u64 (w64 f' j : Nat))) d A c n f' := by
  refine ⟨h.blk.same (setCell_block (Ne.symm (h.ne g ho))), ?_⟩
  have := row_set h.row ho (.int .u64 (w64 f' j : Nat)) (i := j)
  rwa [wds_set hx] at this
theorem LSp.cells (h : LSp w d A c n f) : w.cell? ⟨d, 0, none⟩ = some (.int .i64 n) ∧ w.cell? ⟨d, 1, none⟩ = some (.slice A ((n + 63) / 64) c) := ⟨h.blk.cell 0, h.blk.cell 1⟩
theorem lsp_lt {s : Addr} {F : Nat → Prop} (h : Lsp w s F S) : ∀ g, F g → g < w.heap.size := by
  obtain ⟨d, A, c, _, hd, _, hF⟩ := h
  exact fun g hg => hd.lt g ((hF g).1 hg)
theorem lsp_keep {s : Addr} {F : Nat → Prop} (h : Lsp w s F S) (hk : ∀ g, F g → w'.heap[g]? = w.heap[g]?) : Lsp w' s F S := by
  obtain ⟨d, A, c, e, hd, ho, hF⟩ := h
  exact ⟨d, A, c, e, hd.keep fun g hg => hk g ((hF g).2 hg), ho, hF⟩
end
theorem size_ok (n : Nat) (hn : n ≤ 16384) (w : World) : Calls Try.prog 33 #[.int .i64 n] w fun e w' => e = .returned (.int .i64 ((n + 7) / 8 : Nat)) ∧ w = w' := by
  obtain ⟨m, hm⟩ : ∃ m, (n + 7) / 8 = m := ⟨_, rfl⟩
  have hmi : ((n : Int) + 7) / 8 = (m : Int) := by omega
  rw [hm]
  clear hm
  go_enter Try.func33, Try.ntmps33
  go_wp2
  go_ret
  exact ⟨by rw [← hmi]; rfl, rfl⟩
theorem cell_okS (i : Nat) (hi : i ≤ 16384) (w : World) : Calls Try.prog 34 #[.int .i64 i] w fun e w' => e = .returned (.tuple #[.int .i64 (i * 8 / 64 : Nat), .int .i64 (i * 8 % 64 : Nat)]) ∧ w = w' := by
  obtain ⟨a, ha⟩ : ∃ a, i * 8 / 64 = a := ⟨_, rfl⟩
  obtain ⟨b, hb⟩ : ∃ b, i * 8 % 64 = b := ⟨_, rfl⟩
  have h1 : ((i : Int) * 8) / 64 = (a : Int) := by omega
  have h2 : ((i : Int) * 8) % 64 = (b : Int) := by omega
  rw [ha, hb]
  clear ha hb
  go_enter Try.func34, Try.ntmps34
  go_wp2
  go_ret2
  exact ⟨by rw [← h1, ← h2]; rfl, rfl⟩
theorem bits_and_u64_nat (a b : Nat) (ha : a < 2 ^ 64) (hb : b < 2 ^ 64) : bits .and .u64 (a : Int) (b : Int) = ((a &&& b : Nat) : Int) := by
  have hx : a &&& b < 2 ^ 64 := Nat.and_lt_two_pow _ hb
  have h1 : (BitVec.ofInt 64 (a : Int)).toNat = a := by
    rw [BitVec.ofInt_natCast, BitVec.toNat_ofNat]; exact Nat.mod_eq_of_lt ha
  have h2 : (BitVec.ofInt 64 (b : Int)).toNat = b := by
    rw [BitVec.ofInt_natCast, BitVec.toNat_ofNat]; exact Nat.mod_eq_of_lt hb
  show IntKind.u64.wrap ((BitVec.ofInt 64 (a : Int) &&& BitVec.ofInt 64 (b : Int)).toNat : Int) = _
  rw [BitVec.toNat_and, h1, h2, IntKind.wrap_u64]
  omega
theorem and_bit (x k : Nat) (hx : x < 2 ^ 64) : bits .and .u64 ((x : Int) / 2 ^ k) 1 = ((x.testBit k).toNat : Int) := by
  have h := bits_and_u64_nat (x / 2 ^ k) 1 (Nat.lt_of_le_of_lt (Nat.div_le_self _ _) hx) (by decide)
  rw [Nat.and_one_is_mod, shr_bit] at h
  rw [← h]
  simp
set_option maxRecDepth 100000 in
set_option maxHeartbeats 400000 in
theorem first_ok (x : Nat) (hx : x < 2 ^ 64) (w : World) : Calls Try.prog 37 #[.int .u64 x] w fun e w' => e = .returned (.int .i64 (leastF (fun i => x.testBit i) 64 : Nat)) ∧ w = w' := by
  obtain ⟨R, hR⟩ : ∃ R, leastF (fun i => x.testBit i) 64 = R := ⟨_, rfl⟩
  have HR := Lib.hid (show ∀ k, k ≤ 64 → (∀ j, j < k → x.testBit j = true) → (k < 64 → x.testBit k = false) → k = R from fun k h1 h2 h3 => by rw [← hR]; exact (leastF_eq h1 h2 h3).symm)
  have HX := Lib.hid hx
  rw [hR]
  clear hR hx
  go_enter Try.func37, Try.ntmps37
  go_wp2
  go_loop [4] (fun i => ∃ k : Nat, k ≤ 64 ∧ i = .int .i64 k ∧ Hid (∀ j, j < k → x.testBit j = true)) (fun i => 64 - (intOf i).toNat)
  case atStart => exact ⟨0, Nat.zero_le _, rfl, Lib.hid (fun j hj => by omega)⟩
  case round =>
    obtain ⟨k, hk, rfl, hst⟩ := hrel
    have hx64 := HX.out
    by_cases hlt : k < 64
    · cases hb : x.testBit k with
      | true =>
        have h1 : bits BinOp.and IntKind.u64 ((x : Int) / 2 ^ k) 1 = 1 := by rw [and_bit x k hx64, hb]; rfl
        have HNX := Lib.hid (show ∀ j, j < k + 1 → x.testBit j = true from fun j hj => by
          by_cases e : j = k
          · rw [e]; exact hb
          · exact hst.out j (by omega))
        clear hst hb hx64
        go_wp2
        go_round
        case rel => exact ⟨k + 1, by omega, by go_num, HNX⟩
        case measure => simp [intOf]; omega
      | false =>
        have h1 : bits BinOp.and IntKind.u64 ((x : Int) / 2 ^ k) 1 = 0 := by rw [and_bit x k hx64, hb]; rfl
        obtain rfl : k = R := HR.out k hk hst.out fun _ => hb
        clear hst hb hx64
        go_wp2
        go_ret
        exact ⟨rfl, rfl⟩
    · obtain rfl : k = 64 := by omega
      obtain rfl : 64 = R := HR.out 64 hk hst.out fun h => absurd h (by omega)
      clear hst hx64
      go_wp2
      go_ret
      exact ⟨rfl, rfl⟩
end Go.Proofs.Ytlcbmpojigjjlaa
