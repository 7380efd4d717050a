/- The contracts of withRoom and appendNumber. No statement of the seat is proved here. -/
import Derived.Test.YthbgcffnnholeaaLaidTo
import Derived.Test.YthbgcffnnholeaaMem
import Derived.Handy
import Derived.WalkSpells
import Derived.WalkLawsBesides
namespace Go.Proofs.Ythbgcffnnholeaa
open Go.RowKit

/-- The byte that is cut off a shifted number. -/
theorem byte_of_shift (m i : Nat) : (IntKind.u8.wrap ((m >>> (8 * i) : Nat) : Int)) = ((UInt8.ofNat (m / 256 ^ i)).toNat : Int) := by
  rw [Nat.shiftRight_eq_div_pow, Nat.pow_mul]
  simp [IntKind.wrap_u8, UInt8.toNat_ofNat']

set_option maxHeartbeats 1000000 in
theorem room_any (A : Option Addr) (l : List UInt8) (c more : Nat) (w : World) (hr : Rd w w.heap.size A l) (hlen : l.length + more ≤ 140737488355328) :
    Calls Try.prog 49 #[.slice A l.length c, .int .i64 more] w fun e w' =>
      ∃ v, e = .returned v ∧ w'.ownsRow w.heap.size 5 1 v l.length (bv l) ∧ Below w.heap.size w w' := by
  obtain ⟨i0, hi, hz0, hz1, hz2⟩ := info_parts info_u8
  have hmk := run_make (P := Try.prog) w 42 5 i0 (.int .u8 0) Try.underlying42 hi hz0 .i64 .i64 (l.length : Int) ((l.length : Int) + (more : Int)) (by omega) (by omega) (by rw [hz2]; omega) (by omega)
  have hmc : Hid ((madeCells #[Value.int .u8 0] (l.length + more)).toList.length = l.length + more) := by show _ = _; simp [size_madeCells]
  have hb1 : (l.length : Int) + (more : Int) ≤ 140737488355328 := by omega
  go_enter Try.func49, Try.ntmps49
  go_wp2_with (with_reducible refine wpList_copy_splice rfl (.tmp 13) (.tmp 14) 42 42 rfl 5 Try.underlying42 ?hsz (some ⟨w.heap.size, 0, none⟩) A l.length (l.length + more) l.length c rfl rfl w.heap.size 0 (madeCells #[Value.int IntKind.u8 0] (l.length + more)).toList 5 ?hg (bv l) ?hn ?hpos ?hfit (bv_oneCell l) w.heap.size w ?hb (Nat.le_refl _) ?_)
  case hsz => rw [hi]; simp [hz1]
  case hg => simpa using heap_alloc_new w _
  case hn => rw [bv_length]; exact (Nat.min_self _).symm
  case hpos =>
    intro h0
    rw [bv_length] at h0
    obtain ⟨ad, e, hc⟩ := (hr.below ((Below.refl w.heap.size w).alloc (Nat.le_refl _) _)).cells h0
    first | exact ⟨rfl, ad, e, hc⟩ | exact ⟨ad, e, hc⟩
  case hfit => rw [hmc.out, bv_length]; omega
  case hb => exact (Below.refl _ _).alloc (Nat.le_refl _) _
  intro w1 hg1 hb1
  go_wp2
  go_ret
  refine ⟨_, rfl, ⟨by simp [bv_length], .inr ⟨w.heap.size, l.length + more, _, rfl, Nat.le_refl _, hg1.out, by omega, by simp only [maxLen]; omega, ?_, ?_⟩⟩, hb1⟩
  · rw [List.size_toArray, length_splice _ _ _ (by rw [hmc.out, bv_length]; omega), hmc.out, Nat.mul_one]
  · simp [splice, Nat.mul_one, List.take_left' (bv_length l)]
end Go.Proofs.Ythbgcffnnholeaa
/- The contract of appendNumber. No statement of the seat is proved here. -/
namespace Go.Proofs.Ythbgcffnnholeaa
open Go.RowKit

theorem byte_of (m j : Nat) : ((m : Int) / 2 ^ (8 * j) % 256) = ((UInt8.ofNat (m / 256 ^ j)).toNat : Int) := by
  have e : ((2 : Int) ^ (8 * j)) = ((256 ^ j : Nat) : Int) := by rw [show (256 : Nat) = 2 ^ 8 from rfl, ← Nat.pow_mul]; norm_cast
  rw [e]
  simp [UInt8.toNat_ofNat']

set_option maxHeartbeats 1000000 in
theorem appnum_any (v : Value) (l : List UInt8) (m k base : Nat) (w : World) (hown : w.ownsRow base 5 1 v l.length (bv l)) (hbase : base ≤ w.heap.size) (hk : k ≤ 8) (hlen : l.length ≤ 140737488355000) :
    Calls Try.prog 48 #[v, .int .u64 m, .int .i64 k] w fun e w' =>
      ∃ v', e = .returned v' ∧ w'.ownsRow base 5 1 v' (l.length + k) (bv (l ++ be k m)) ∧ Below base w w' := by
  obtain ⟨i0, hi, hz0, hz1, hz2⟩ := info_parts info_u8
  go_enter Try.func48, Try.ntmps48
  go_wp2
  go_loopw [0, 7] (fun u i wr => ∃ q : Int, -1 ≤ q ∧ q < k ∧ i = .int .i64 q ∧ wr.ownsRow base 5 1 u (l.length + (laidTo k m q).length) (bv (l ++ laidTo k m q)) ∧ Below base w wr)
    (fun _ i _ => (intOf i + 1).toNat)
  case atStart => exact ⟨(k : Int) - 1, by omega, by omega, rfl, by rw [laidTo_start]; simpa using hown, Below.refl _ _⟩
  case round =>
    obtain ⟨q, hq1, hq2, rfl, hwn, hbel⟩ := hrel
    by_cases hq : 0 ≤ q
    · obtain ⟨j, rfl⟩ := Int.eq_ofNat_of_zero_le hq
      have hstep := Lib.hid (laidTo_step k m j (by omega))
      have hjk : (laidTo k m (j : Int)).length ≤ 8 := by rw [laidTo_length k m _ hq1 hq2]; omega
      go_wp2_with (at_builtin; refine wpList_append_own _ rfl (.tmp 14) (.tmp 20) 42 rfl base 5 i0 (.int .u8 0) 1 1 Try.underlying42 hi hz0 hz1 hz2 rfl (by decide) _ (l.length + (laidTo k m (j : Int)).length) (bv (l ++ laidTo k m (j : Int))) rfl (hwn.alloc _) ⟨wr.heap.size, 0, none⟩ 1 1 [.int .u8 ((m : Int) / 2 ^ (8 * j) % 256)] rfl rfl ?c1 ?c2 ?c3 ?c4 ?c5 ?_)
      case c1 => exact cell_one_new _ _ _
      case c2 => intro u hu; simp at hu; subst hu; rfl
      case c3 => unfold maxLen; omega
      case c4 => omega
      case c5 => have := hbel.size; simp; omega
      intro v' w1 hown' hgrow _
      have hbel' : Below base w w1 := (hbel.alloc (by have := hbel.size; omega) _).grown hgrow (by have := hbel.size; simp; omega) (fun g hg => (hwn.lt g hg).1)
      have hown2 : w1.ownsRow base 5 1 v' (l.length + (laidTo k m ((j : Int) - 1)).length) (bv (l ++ laidTo k m ((j : Int) - 1))) := by
        rw [hstep.out]
        simpa [bv, byte_of, Nat.add_assoc] using hown'
      clear hown' hgrow hwn hstep
      go_wp2
      go_roundw
      case rel => exact ⟨(j : Int) - 1, by omega, by omega, rfl, hown2, hbel'⟩
      case measure => simp [intOf]
    · obtain rfl : q = -1 := by omega
      rw [laidTo_end] at hwn
      go_wp2
      go_ret
      exact ⟨_, rfl, by simpa [be_length] using hwn, hbel⟩
end Go.Proofs.Ythbgcffnnholeaa
/- Words for memory: a codec reader's block. No statement of the seat is proved here. -/
namespace Go.Proofs.Ythbgcffnnholeaa
open Go.RowKit

/-- A reader's own block g: what is left of its bytes (in an array of the same make), and its fault. -/
def Rdr (w : World) (g : Nat) (l : List UInt8) (f : Int) : Prop :=
  ∃ A c, Blk w g 98 #[.slice A l.length c, .int .i64 f] ∧ l.length ≤ c ∧ c ≤ maxLen ∧
    (0 < l.length → ∃ gb off cur, A = some ⟨gb, off, none⟩ ∧ Blk w gb 5 cur ∧ ∀ j (_ : j < l.length), cur[off + j]? = some (.int .u8 l[j].toNat))
section
variable {w w' : World} {g g' : Nat} {l l' : List UInt8} {f f' : Int}
theorem Rdr.lt (h : Rdr w g l f) : g < w.heap.size := by
  obtain ⟨_, _, hb, _⟩ := h; exact hb.lt
theorem Rdr.below (h : Rdr w g l f) (hb : Below w.heap.size w w') : Rdr w' g l f := by
  obtain ⟨A, c, h1, h2, h3, h4⟩ := h
  refine ⟨A, c, h1.below hb h1.lt, h2, h3, fun hn => ?_⟩
  obtain ⟨gb, off, cur, e, hc, hr⟩ := h4 hn
  exact ⟨gb, off, cur, e, hc.below hb hc.lt, hr⟩
theorem Rdr.far (h : Rdr w g l f) (h' : Rdr w g' l' f') (hne : g ≠ g') (hb : w.grownBy w' (some g')) : Rdr w' g l f := by
  obtain ⟨A, c, h1, h2, h3, h4⟩ := h
  refine ⟨A, c, h1.same (hb.block g h1.lt (by simpa using hne)), h2, h3, fun hn => ?_⟩
  obtain ⟨gb, off, cur, e, hc, hr⟩ := h4 hn
  refine ⟨gb, off, cur, e, hc.same (hb.block gb hc.lt ?_), hr⟩
  rintro ⟨⟩
  obtain ⟨_, _, k1, _⟩ := h'
  unfold Blk at hc k1
  rw [hc] at k1
  simp at k1
theorem Rdr.rd {A : Option Addr} (h4 : 0 < l.length → ∃ gb off cur, A = some ⟨gb, off, none⟩ ∧ Blk w gb 5 cur ∧ ∀ j (_ : j < l.length), cur[off + j]? = some (.int .u8 l[j].toNat)) : Rd w w.heap.size A l := fun hn => by
  obtain ⟨gb, off, cur, e, hc, hr⟩ := h4 hn
  exact ⟨gb, off, e, hc.lt, fun j hj => by rw [hc.cell]; exact hr j hj⟩
/-- What the call owns stays owned while a reader's block is written. -/
theorem own_far {base : Nat} {v : Value} {n : Nat} {xs : List Value} (h : w.ownsRow base 5 1 v n xs) (h' : Rdr w g' l' f') (hb : w.grownBy w' (some g')) : w'.ownsRow base 5 1 v n xs := by
  refine h.kept hb ?_
  rcases h.2 with ⟨rfl, _⟩ | ⟨g0, cap, cur, rfl, _, hh, _⟩
  · left; rfl
  · right
    rintro ⟨⟩
    obtain ⟨_, _, k1, _⟩ := h'
    unfold Blk at k1
    rw [hh] at k1
    simp at k1
end
end Go.Proofs.Ythbgcffnnholeaa
/- The contracts of Put and New. No statement of the seat is proved here. -/
namespace Go.Proofs.Ythbgcffnnholeaa
open Go.RowKit

/-- How many bytes Put lays. -/
def kOf (many : Int) : Nat := (min (max many 0) 8).toNat
theorem kOf_le (many : Int) : kOf many ≤ 8 := by unfold kOf; omega
theorem kOf_cast (many : Int) : ((kOf many : Nat) : Int) = min (max many 0) 8 := by unfold kOf; omega
theorem kOf_id {k : Nat} (h : k ≤ 8) : kOf k = k := by unfold kOf; omega

theorem room_int (A : Option Addr) (l : List UInt8) (c : Nat) (more : Int) (w : World) (hr : Rd w w.heap.size A l) (h0 : 0 ≤ more) (hlen : (l.length : Int) + more ≤ 140737488355328) :
    Calls Try.prog 49 #[.slice A l.length c, .int .i64 more] w fun e w' =>
      ∃ v, e = .returned v ∧ w'.ownsRow w.heap.size 5 1 v l.length (bv l) ∧ Below w.heap.size w w' := by
  obtain ⟨k, rfl⟩ := Int.eq_ofNat_of_zero_le h0
  exact room_any A l c k w hr (by omega)
theorem appnum_int (v : Value) (l : List UInt8) (m base : Nat) (k : Int) (w : World) (hown : w.ownsRow base 5 1 v l.length (bv l)) (hbase : base ≤ w.heap.size) (h0 : 0 ≤ k) (hk : k ≤ 8) (hlen : l.length ≤ 140737488355000) :
    Calls Try.prog 48 #[v, .int .u64 m, .int .i64 k] w fun e w' =>
      ∃ v', e = .returned v' ∧ w'.ownsRow base 5 1 v' (l.length + k.toNat) (bv (l ++ be k.toNat m)) ∧ Below base w w' := by
  obtain ⟨k, rfl⟩ := Int.eq_ofNat_of_zero_le h0
  exact appnum_any v l m k base w hown hbase (by omega) hlen

set_option maxHeartbeats 1000000 in
theorem put_any (A : Option Addr) (l : List UInt8) (c m : Nat) (many : Int) (w : World) (hr : Rd w w.heap.size A l) (hlen : l.length ≤ 140737488355000) :
    Calls Try.prog 36 #[.slice A l.length c, .int .u64 m, .int .i64 many] w fun e w' =>
      ∃ v, e = .returned v ∧ w'.ownsRow w.heap.size 5 1 v (l.length + kOf many) (bv (l ++ be (kOf many) m)) ∧ Below w.heap.size w w' := by
  have fin : ∀ k : Int, 0 ≤ k → k ≤ 8 → kOf many = k.toNat → ∀ (e : Ending) (w1 w' : World), Below w.heap.size w w1 → (∃ v', e = .returned v' ∧ w'.ownsRow w.heap.size 5 1 v' (l.length + k.toNat) (bv (l ++ be k.toNat m)) ∧ Below w.heap.size w1 w') →
      ∃ v, e = .returned v ∧ w'.ownsRow w.heap.size 5 1 v (l.length + kOf many) (bv (l ++ be (kOf many) m)) ∧ Below w.heap.size w w' := by
    intro k _ _ hk e w1 w' hb ⟨v', he, ho, hb'⟩
    exact ⟨v', he, by rw [hk]; exact ho, hb.trans hb'⟩
  by_cases hneg : many < 0
  · have hk : kOf many = (0 : Int).toNat := by unfold kOf; omega
    have FIN := fun e w1 w' => Lib.hid (fin 0 (by omega) (by omega) hk e w1 w')
    clear fin hk
    go_enter Try.func36, Try.ntmps36
    go_wp2_with (first
      | (go_at_call 49; refine (room_int A l c 0 w hr (by omega) (by omega)).mono ?_; rintro e w1 ⟨v1, rfl, hown1, hb1⟩)
      | (go_at_call 48; refine (appnum_int v1 l m w.heap.size 0 w1 hown1 hb1.size (by omega) (by omega) hlen).mono ?_; rintro e w2 ⟨v2, rfl, hown2, hb2⟩))
    go_ret
    exact (FIN _ w1 _).out hb1 ⟨_, rfl, hown2, hb2⟩
  · by_cases hbig : 8 < many
    · have hk : kOf many = (8 : Int).toNat := by unfold kOf; omega
      have FIN := fun e w1 w' => Lib.hid (fin 8 (by omega) (by omega) hk e w1 w')
      clear fin hk
      go_enter Try.func36, Try.ntmps36
      go_wp2_with (first
        | (go_at_call 49; refine (room_int A l c 8 w hr (by omega) (by omega)).mono ?_; rintro e w1 ⟨v1, rfl, hown1, hb1⟩)
        | (go_at_call 48; refine (appnum_int v1 l m w.heap.size 8 w1 hown1 hb1.size (by omega) (by omega) hlen).mono ?_; rintro e w2 ⟨v2, rfl, hown2, hb2⟩))
      go_ret
      exact (FIN _ w1 _).out hb1 ⟨_, rfl, hown2, hb2⟩
    · have hk : kOf many = many.toNat := by unfold kOf; omega
      have FIN := fun e w1 w' => Lib.hid (fin many (by omega) (by omega) hk e w1 w')
      clear fin hk
      go_enter Try.func36, Try.ntmps36
      go_wp2_with (first
        | (go_at_call 49; refine (room_int A l c many w hr (by omega) (by omega)).mono ?_; rintro e w1 ⟨v1, rfl, hown1, hb1⟩)
        | (go_at_call 48; refine (appnum_int v1 l m w.heap.size many w1 hown1 hb1.size (by omega) (by omega) hlen).mono ?_; rintro e w2 ⟨v2, rfl, hown2, hb2⟩))
      go_ret
      exact (FIN _ w1 _).out hb1 ⟨_, rfl, hown2, hb2⟩

theorem room_slice (A : Option Addr) (l : List UInt8) (c : Nat) (w : World) (hr : Rd w w.heap.size A l) (hlen : l.length ≤ 140737488355000) :
    Calls Try.prog 49 #[.slice A l.length c, .int .i64 0] w fun e w' =>
      ∃ A' c', e = .returned (.slice A' l.length c') ∧ w'.ownsRow w.heap.size 5 1 (.slice A' l.length c') l.length (bv l) ∧ Below w.heap.size w w' := by
  refine (room_int A l c 0 w hr (by omega) (by omega)).mono ?_
  rintro e w' ⟨v, rfl, ho, hb⟩
  obtain ⟨A', c', rfl, _, _⟩ := ownsRow_form ho
  exact ⟨A', c', rfl, ho, hb⟩

theorem rdr_new {w w1 : World} {A : Option Addr} {l : List UInt8} {c : Nat} (h : w1.ownsRow w.heap.size 5 1 (.slice A l.length c) l.length (bv l)) (hb : Below w.heap.size w w1) :
    w.heap.size ≤ w1.heap.size ∧ Rdr (w1.alloc (.cells #[.slice A l.length c, .int .i64 0] 98)) w1.heap.size l 0 ∧ Below w.heap.size w (w1.alloc (.cells #[.slice A l.length c, .int .i64 0] 98)) := by
  refine ⟨hb.size, ⟨A, c, Blk.new _ _ _, ?_, ?_, fun hn => ?_⟩, hb.alloc hb.size _⟩
  · obtain ⟨_, _, e, h1, _⟩ := ownsRow_form h; injection e with _ _ e; omega
  · obtain ⟨_, _, e, _, h2⟩ := ownsRow_form h; injection e with _ _ e; omega
  · rcases h.2 with ⟨_, h0⟩ | ⟨g, cap, cur, hv, _, hh, hnc, _, hcs, ht⟩
    · omega
    · injection hv with hA _ _
      have hc : Blk w1 g 5 cur := hh
      refine ⟨g, 0, cur, hA, hc.same (Below.heap_alloc _ _ _ hc.lt), fun j hj => ?_⟩
      have hl : (bv l)[j]? = some (.int .u8 l[j].toNat) := bv_get hj
      rw [Nat.zero_add]
      rw [← ht, List.getElem?_take] at hl
      split at hl
      · simpa using hl
      · cases hl

set_option maxHeartbeats 1000000 in
theorem new_any (A : Option Addr) (l : List UInt8) (c : Nat) (w : World) (hr : Rd w w.heap.size A l) (hlen : l.length ≤ 140737488355000) :
    Calls Try.prog 40 #[.slice A l.length c] w fun e w' =>
      ∃ g, e = .returned (.pointer (some ⟨g, 0, none⟩)) ∧ w.heap.size ≤ g ∧ Rdr w' g l 0 ∧ Below w.heap.size w w' := by
  go_enter Try.func40, Try.ntmps40
  go_wp2_with (go_at_call 49; refine (room_slice A l c w hr hlen).mono ?_; rintro e w1 ⟨A1, c1, rfl, hown1, hb1⟩)
  go_ret
  have R := rdr_new hown1 hb1
  exact ⟨_, rfl, R.1, R.2.1, R.2.2⟩
end Go.Proofs.Ythbgcffnnholeaa
