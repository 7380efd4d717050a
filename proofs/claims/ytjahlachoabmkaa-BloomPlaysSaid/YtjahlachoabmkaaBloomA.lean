/- The contracts of number, cell, New, bits of package bloom. No statement of the seat is proved here. -/
import Derived.Test.YtjahlachoabmkaaQuiet
import Derived.Test.YtjahlachoabmkaaBloomMath
import Derived.Lib.Hide
import Derived.Laws.BitsAllLaws
import Derived.Laws.MakeOwn
namespace Go.Proofs.Ytjahlachoabmkaa
open Go.RowKit

theorem bl_ret {k : IntKind} {a b : Int} (h : a = b) : Ending.returned (.int k a) = .returned (.int k b) := by rw [h]
theorem bl_byte : (Try.prog.info? 5).map (fun i => (i.zero, i.size, i.bytes)) = some (some (.int .u8 0), 1, 1) := by kernel_rfl

theorem val_take_snoc (l : List UInt8) (k : Nat) (h : k < l.length) : val (l.take (k + 1)) = val (l.take k) * 256 + l[k].toNat := by
  rw [List.take_succ_eq_append_getElem h, val_snoc]
theorem val_take_lt (l : List UInt8) (k : Nat) (h : k ≤ 3) : val (l.take k) < 16777216 := by
  refine Nat.lt_of_lt_of_le (val_lt _) ?_
  refine Nat.le_trans (Nat.pow_le_pow_right (by omega) (show (l.take k).length ≤ 3 by rw [List.length_take]; omega)) (by decide)
set_option maxHeartbeats 1000000 in
theorem number_ok (A : Option Addr) (l : List UInt8) (n c : Nat) (hl : l.length = n) (hn : n ≤ 4) (w : World) (hr : Rd w w.heap.size A l) :
    Calls Try.prog 28 #[.slice A n c] w fun e w' => e = .returned (.int .u32 (val l)) ∧ w = w' := by
  have HL := Lib.hid hl
  have HR := Lib.hid hr
  clear hl hr
  go_enter Try.func28, Try.ntmps28
  go_wp2
  go_loop [3, 8] (fun v i => ∃ k : Nat, k ≤ n ∧ i = .int .i64 k ∧ v = .int .u32 (val (l.take k))) (fun _ i => n - (intOf i).toNat)
  case atStart => exact ⟨0, Nat.zero_le _, rfl, rfl⟩
  case round =>
    obtain ⟨k, hk, rfl, rfl⟩ := hrel
    by_cases hlt : k < n
    · obtain ⟨g, off, hA, hg, hc⟩ := HR.out (by rw [HL.out]; omega)
      have hck := hc k (by rw [HL.out]; exact hlt)
      have hs := Lib.hid (val_take_snoc l k (by rw [HL.out]; exact hlt))
      have hb := val_take_lt l k (by omega)
      have hkl : k < l.length := by rw [HL.out]; exact hlt
      have ht := (l[k]'hkl).toNat_lt
      have hV : ∃ V, V = val (l.take k) := ⟨_, rfl⟩
      obtain ⟨V, hV⟩ := hV
      rw [← hV] at hb hs ⊢
      subst hA
      generalize hx : l[k]'hkl = x at *
      clear hc hV hx
      go_wp2
      go_round
      case rel => exact ⟨k + 1, by omega, by go_num, by
          rw [hs.out, ← shl_or V _ ht, Nat.shiftLeft_eq]
          have := u32_or_nat (V * 2 ^ 8) x.toNat (by omega) (by omega)
          rw [← this]; rfl⟩
      case measure => simp [intOf]; omega
    · obtain rfl : k = n := by omega
      go_wp2
      go_ret
      exact ⟨bl_ret (by rw [List.take_of_length_le (by rw [HL.out]; exact Nat.le_refl _)]), rfl⟩

theorem pow8_lt (q : Nat) : 2 ^ (q % 8) < 256 := Nat.pow_lt_pow_right (show 1 < 2 by omega) (show q % 8 < 8 by omega)
theorem cell_ok (g m q : Nat) (hq : q / 8 < m) (hm : m ≤ 131072) (w : World) :
    Calls Try.prog 22 #[.slice (some ⟨g, 0, none⟩) m m, .int .u32 q] w fun e w' => e = .returned (.tuple #[.pointer (some ⟨g, q / 8, none⟩), .int .u8 ((2 ^ (q % 8) : Nat))]) ∧ w = w' := by
  have hp2 : ((2 ^ (q % 8) : Nat) : Int) = 2 ^ (q % 8) % 256 := by
    have h := pow8_lt q
    rw [show (2 : Int) ^ (q % 8) = ((2 ^ (q % 8) : Nat) : Int) by simp]
    generalize 2 ^ (q % 8) = x at h ⊢
    omega
  go_enter Try.func22, Try.ntmps22
  go_wp2
  go_ret2
  exact ⟨by rw [hp2]; rfl, rfl⟩
theorem bits_ok (kc : Array Value) (v : Option Addr) (w : World) :
    Calls Try.prog 24 #[.pointer v, .agg kc] w fun e w' => e = .returned (.func (.func 27) #[] #[.pointer (some ⟨w.heap.size, 0, none⟩), .pointer (some ⟨w.heap.size + 1, 0, none⟩)]) ∧ w' = (w.alloc (.cells #[.pointer v] 29)).alloc (.cells kc 27) := by
  go_enter Try.func24, Try.ntmps24
  go_wp2
  go_ret
  exact ⟨rfl, rfl⟩
theorem new_bad (bits probes : Int) (h : bits < 0 ∨ 1048576 < bits ∨ probes < 0 ∨ 30 < probes) (w : World) :
    Calls Try.prog 9 #[.int .i64 bits, .int .i64 probes] w fun e w' => e = .returned (.tuple #[.pointer none, .int .i64 1]) ∧ w = w' := by
  by_cases h1 : bits < 0
  · go_enter Try.func9, Try.ntmps9
    go_wp2
    go_ret2
    exact ⟨rfl, rfl⟩
  by_cases h2 : 1048576 < bits
  · go_enter Try.func9, Try.ntmps9
    go_wp2
    go_ret2
    exact ⟨rfl, rfl⟩
  by_cases h3 : probes < 0
  · go_enter Try.func9, Try.ntmps9
    go_wp2
    go_ret2
    exact ⟨rfl, rfl⟩
  have h4 : 30 < probes := by omega
  go_enter Try.func9, Try.ntmps9
  go_wp2
  go_ret2
  exact ⟨rfl, rfl⟩
/-- In w the block v is a filter with n bits, of which those of S are 1, and p probes; its bytes lie in block g. -/
structure Vec (w : World) (v g n p : Nat) (S : Nat → Bool) : Prop where
  vb : Blk w v 59 #[.int .u32 n, .int .i64 p, .slice (some ⟨g, 0, none⟩) ((n + 7) / 8) ((n + 7) / 8), .func (.func 22) #[.slice (some ⟨g, 0, none⟩) ((n + 7) / 8) ((n + 7) / 8)] #[]]
  gb : Blk w g 5 (bv (pk n S)).toArray
  hn : n ≤ 1048576
  hp : p ≤ 30
theorem made_zero (m : Nat) : madeCells #[Value.int .u8 0] m = (bv (List.replicate m 0)).toArray := by
  rw [← Array.toList_inj, toList_madeCells_one]
  simp [bv]
section
variable {w w' : World} {v g n p : Nat} {S T : Nat → Bool}
theorem Blk.other {a b : Nat} {s t : TypeId} {cs ds : Array Value} (h : Blk w a s cs) (k : Blk w b t ds) (hne : s ≠ t) : a ≠ b := by
  rintro rfl
  unfold Blk at h k
  rw [h] at k
  injection k with k
  injection k with _ k _
  exact hne k
theorem Vec.ne (h : Vec w v g n p S) : v ≠ g := h.vb.other h.gb (by decide)
theorem Vec.congr (h : Vec w v g n p S) (he : ∀ q, q < n → S q = T q) : Vec w v g n p T := ⟨h.vb, pk_congr he ▸ h.gb, h.hn, h.hp⟩
theorem Vec.same (h : Vec w v g n p S) (h1 : w'.heap[v]? = w.heap[v]?) (h2 : w'.heap[g]? = w.heap[g]?) : Vec w' v g n p S := ⟨h.vb.same h1, h.gb.same h2, h.hn, h.hp⟩
theorem Vec.below {B : Nat} (h : Vec w v g n p S) (hb : Below B w w') (hv : v < B) (hg : g < B) : Vec w' v g n p S := h.same (hb.block v hv) (hb.block g hg)
theorem Vec.on (h : Vec w v g n p S) (hb : Below w.heap.size w w') : Vec w' v g n p S := h.below hb h.vb.lt h.gb.lt
theorem Vec.cells (h : Vec w v g n p S) : w.cell? ⟨v, 0, none⟩ = some (.int .u32 n) ∧ w.cell? ⟨v, 1, none⟩ = some (.int .i64 p) ∧ w.cell? ⟨v, 2, none⟩ = some (.slice (some ⟨g, 0, none⟩) ((n + 7) / 8) ((n + 7) / 8)) ∧
    w.cell? ⟨v, 3, none⟩ = some (.func (.func 22) #[.slice (some ⟨g, 0, none⟩) ((n + 7) / 8) ((n + 7) / 8)] #[]) := ⟨h.vb.cell 0, h.vb.cell 1, h.vb.cell 2, h.vb.cell 3⟩
theorem Vec.byte (h : Vec w v g n p S) {j : Nat} (hj : j < (pk n S).length) : w.cell? ⟨g, j, none⟩ = some (.int .u8 (pk n S)[j].toNat) := by
  rw [h.gb.cell, List.getElem?_toArray, bv_get hj]
end
theorem new_ok (n p : Nat) (hn : n ≤ 1048576) (hp : p ≤ 30) (w : World) :
    Calls Try.prog 9 #[.int .i64 n, .int .i64 p] w fun e w' => ∃ v g, e = .returned (.tuple #[.pointer (some ⟨v, 0, none⟩), .int .i64 0]) ∧ w.heap.size ≤ v ∧ w.heap.size ≤ g ∧ Vec w' v g n p (fun _ => false) ∧ Below w.heap.size w w' := by
  obtain ⟨i0, hi, hz0, hz1, hz2⟩ := info_parts bl_byte
  obtain ⟨m, hm⟩ : ∃ m, (n + 7) / 8 = m := ⟨_, rfl⟩
  have hmi : ((n : Int) + 7) / 8 = (m : Int) := by omega
  have hmk := run_make (P := Try.prog) w 56 5 i0 (.int .u8 0) Try.underlying56 hi hz0 .i64 .i64 (m : Int) (m : Int) (by omega) (by omega) (by rw [hz2]; omega) (by omega)
  have HM := Lib.hid hm
  clear hm
  go_enter Try.func9, Try.ntmps9
  go_wp2
  go_ret2
  have hb1 := (Below.refl w.heap.size w).alloc (Nat.le_refl _) (.cells (madeCells #[Value.int .u8 0] m) 5)
  have hgb := Blk.new w 5 (madeCells #[Value.int .u8 0] m)
  rw [made_zero] at hb1 hgb ⊢
  refine ⟨w.heap.size + 1, w.heap.size, rfl, by omega, Nat.le_refl _, ⟨?_, ?_, hn, hp⟩, ?_⟩
  · rw [HM.out]
    exact blk_at _ _ _ (by simp)
  · rw [pk_none, HM.out]
    exact hgb.below (B := w.heap.size + 1) ((Below.refl _ _).alloc (by rw [World.size_alloc]; exact Nat.le_refl _) _) (by omega)
  · exact hb1.alloc hb1.size _
end Go.Proofs.Ytjahlachoabmkaa
