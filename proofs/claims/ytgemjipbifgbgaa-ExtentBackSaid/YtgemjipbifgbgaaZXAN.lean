/- The contracts of withRoom and appendNumber. No statement of the seat is proved here. -/
import Derived.Test.YtgemjipbifgbgaaZXAM
import Derived.Test.YtgemjipbifgbgaaZXAA
import Derived.Handy
import Derived.WalkSpells
import Derived.WalkLawsBesides
namespace Go.Proofs.Ytgemjipbifgbgaa
open Go.RowKit

/-- The byte that is cut off a shifted number. -/
theorem byte_of_shift (m i : Nat) : (IntKind.u8.wrap ((m >>> (8 * i) : Nat) : Int)) = ((UInt8.ofNat (m / 256 ^ i)).toNat : Int) := by
  rw [Nat.shiftRight_eq_div_pow, Nat.pow_mul]
  simp [IntKind.wrap_u8, UInt8.toNat_ofNat']

set_option maxHeartbeats 1000000 in
theorem room_any (A : Option Addr) (l : List UInt8) (c more : Nat) (w : World) (hr : Rd w w.heap.size A l) (hlen : l.length + more ≤ 140737488355328) :
    Calls Try.prog 40 #[.slice A l.length c, .int .i64 more] w fun e w' =>
      ∃ v, e = .returned v ∧ w'.ownsRow w.heap.size 5 1 v l.length (bv l) ∧ Below w.heap.size w w' := by
  obtain ⟨i0, hi, hz0, hz1, hz2⟩ := info_parts info_u8
  have hmk := run_make (P := Try.prog) w 37 5 i0 (.int .u8 0) Try.underlying37 hi hz0 .i64 .i64 (l.length : Int) ((l.length : Int) + (more : Int)) (by omega) (by omega) (by rw [hz2]; omega) (by omega)
  have hmc : Hid ((madeCells #[Value.int .u8 0] (l.length + more)).toList.length = l.length + more) := by show _ = _; simp [size_madeCells]
  have hb1 : (l.length : Int) + (more : Int) ≤ 140737488355328 := by omega
  go_enter Try.func40, Try.ntmps40
  go_wp2_with (with_reducible refine wpList_copy_splice rfl (.tmp 13) (.tmp 14) 37 37 rfl 5 Try.underlying37 ?hsz (some ⟨w.heap.size, 0, none⟩) A l.length (l.length + more) l.length c rfl rfl w.heap.size 0 (madeCells #[Value.int IntKind.u8 0] (l.length + more)).toList 5 ?hg (bv l) ?hn ?hpos ?hfit (bv_oneCell l) w.heap.size w ?hb (Nat.le_refl _) ?_)
  case hsz => rw [hi]; simp [hz1]
  case hg => simpa using heap_alloc_new w _
  case hn => rw [bv_length]; exact (Nat.min_self _).symm
  case hpos =>
    intro h0
    rw [bv_length] at h0
    obtain ⟨ad, e, hc⟩ := (hr.below ((Below.refl w.heap.size w).alloc (Nat.le_refl _) _)).cells h0
    first | exact ⟨rfl, ad, e, hc⟩ | exact ⟨ad, e, hc⟩
  case hfit => rw [hmc.out, bv_length]; omega
  case hb => exact (Below.refl _ _).alloc (Nat.le_refl _) _
  intro w1 hg1 hb1
  go_wp2
  go_ret
  refine ⟨_, rfl, ⟨by simp [bv_length], .inr ⟨w.heap.size, l.length + more, _, rfl, Nat.le_refl _, hg1.out, by omega, by simp only [maxLen]; omega, ?_, ?_⟩⟩, hb1⟩
  · rw [List.size_toArray, length_splice _ _ _ (by rw [hmc.out, bv_length]; omega), hmc.out, Nat.mul_one]
  · simp [splice, Nat.mul_one, List.take_left' (bv_length l)]
end Go.Proofs.Ytgemjipbifgbgaa
/- The contract of appendNumber. No statement of the seat is proved here. -/
namespace Go.Proofs.Ytgemjipbifgbgaa
open Go.RowKit

theorem byte_of (m j : Nat) : ((m : Int) / 2 ^ (8 * j) % 256) = ((UInt8.ofNat (m / 256 ^ j)).toNat : Int) := by
  have e : ((2 : Int) ^ (8 * j)) = ((256 ^ j : Nat) : Int) := by rw [show (256 : Nat) = 2 ^ 8 from rfl, ← Nat.pow_mul]; norm_cast
  rw [e]
  simp [UInt8.toNat_ofNat']

set_option maxHeartbeats 1000000 in
theorem appnum_any (v : Value) (l : List UInt8) (m k base : Nat) (w : World) (hown : w.ownsRow base 5 1 v l.length (bv l)) (hbase : base ≤ w.heap.size) (hk : k ≤ 8) (hlen : l.length ≤ 140737488355000) :
    Calls Try.prog 39 #[v, .int .u64 m, .int .i64 k] w fun e w' =>
      ∃ v', e = .returned v' ∧ w'.ownsRow base 5 1 v' (l.length + k) (bv (l ++ be k m)) ∧ Below base w w' := by
  obtain ⟨i0, hi, hz0, hz1, hz2⟩ := info_parts info_u8
  go_enter Try.func39, Try.ntmps39
  go_wp2
  go_loopw [0, 7] (fun u i wr => ∃ q : Int, -1 ≤ q ∧ q < k ∧ i = .int .i64 q ∧ wr.ownsRow base 5 1 u (l.length + (laidTo k m q).length) (bv (l ++ laidTo k m q)) ∧ Below base w wr)
    (fun _ i _ => (intOf i + 1).toNat)
  case atStart => exact ⟨(k : Int) - 1, by omega, by omega, rfl, by rw [laidTo_start]; simpa using hown, Below.refl _ _⟩
  case round =>
    obtain ⟨q, hq1, hq2, rfl, hwn, hbel⟩ := hrel
    by_cases hq : 0 ≤ q
    · obtain ⟨j, rfl⟩ := Int.eq_ofNat_of_zero_le hq
      have hstep := Lib.hid (laidTo_step k m j (by omega))
      have hjk : (laidTo k m (j : Int)).length ≤ 8 := by rw [laidTo_length k m _ hq1 hq2]; omega
      go_wp2_with (at_builtin; refine wpList_append_own _ rfl (.tmp 14) (.tmp 20) 37 rfl base 5 i0 (.int .u8 0) 1 1 Try.underlying37 hi hz0 hz1 hz2 rfl (by decide) _ (l.length + (laidTo k m (j : Int)).length) (bv (l ++ laidTo k m (j : Int))) rfl (hwn.alloc _) ⟨wr.heap.size, 0, none⟩ 1 1 [.int .u8 ((m : Int) / 2 ^ (8 * j) % 256)] rfl rfl ?c1 ?c2 ?c3 ?c4 ?c5 ?_)
      case c1 => exact cell_one_new _ _ _
      case c2 => intro u hu; simp at hu; subst hu; rfl
      case c3 => unfold maxLen; omega
      case c4 => omega
      case c5 => have := hbel.size; simp; omega
      intro v' w1 hown' hgrow _
      have hbel' : Below base w w1 := (hbel.alloc (by have := hbel.size; omega) _).grown hgrow (by have := hbel.size; simp; omega) (fun g hg => (hwn.lt g hg).1)
      have hown2 : w1.ownsRow base 5 1 v' (l.length + (laidTo k m ((j : Int) - 1)).length) (bv (l ++ laidTo k m ((j : Int) - 1))) := by
        rw [hstep.out]
        simpa [bv, byte_of, Nat.add_assoc] using hown'
      clear hown' hgrow hwn hstep
      go_wp2
      go_roundw
      case rel => exact ⟨(j : Int) - 1, by omega, by omega, rfl, hown2, hbel'⟩
      case measure => simp [intOf]
    · obtain rfl : q = -1 := by omega
      rw [laidTo_end] at hwn
      go_wp2
      go_ret
      exact ⟨_, rfl, by simpa [be_length] using hwn, hbel⟩
end Go.Proofs.Ytgemjipbifgbgaa
/- Words for memory: a codec reader's block. No statement of the seat is proved here. -/
namespace Go.Proofs.Ytgemjipbifgbgaa
open Go.RowKit

/-- A reader's own block g: what is left of its bytes (in an array of the same make), and its fault. -/
def Rdr (w : World) (g : Nat) (l : List UInt8) (f : Int) : Prop :=
  ∃ A c, Blk w g 74 #[.slice A l.length c, .int .i64 f] ∧ l.length ≤ c ∧ c ≤ maxLen ∧
    (0 < l.length → ∃ gb off cur, A = some ⟨gb, off, none⟩ ∧ Blk w gb 5 cur ∧ ∀ j (_ : j < l.length), cur[off + j]? = some (.int .u8 l[j].toNat))
section
variable {w w' : World} {g g' : Nat} {l l' : List UInt8} {f f' : Int}
theorem Rdr.lt (h : Rdr w g l f) : g < w.heap.size := by
  obtain ⟨_, _, hb, _⟩ := h; exact hb.lt
theorem Rdr.below (h : Rdr w g l f) (hb : Below w.heap.size w w') : Rdr w' g l f := by
  obtain ⟨A, c, h1, h2, h3, h4⟩ := h
  refine ⟨A, c, h1.below hb h1.lt, h2, h3, fun hn => ?_⟩
  obtain ⟨gb, off, cur, e, hc, hr⟩ := h4 hn
  exact ⟨gb, off, cur, e, hc.below hb hc.lt, hr⟩
theorem Rdr.far (h : Rdr w g l f) (h' : Rdr w g' l' f') (hne : g ≠ g') (hb : w.grownBy w' (some g')) : Rdr w' g l f := by
  obtain ⟨A, c, h1, h2, h3, h4⟩ := h
  refine ⟨A, c, h1.same (hb.block g h1.lt (by simpa using hne)), h2, h3, fun hn => ?_⟩
  obtain ⟨gb, off, cur, e, hc, hr⟩ := h4 hn
  refine ⟨gb, off, cur, e, hc.same (hb.block gb hc.lt ?_), hr⟩
  rintro ⟨⟩
  obtain ⟨_, _, k1, _⟩ := h'
  unfold Blk at hc k1
  rw [hc] at k1
  simp at k1
theorem Rdr.rd {A : Option Addr} (h4 : 0 < l.length → ∃ gb off cur, A = some ⟨gb, off, none⟩ ∧ Blk w gb 5 cur ∧ ∀ j (_ : j < l.length), cur[off + j]? = some (.int .u8 l[j].toNat)) : Rd w w.heap.size A l := fun hn => by
  obtain ⟨gb, off, cur, e, hc, hr⟩ := h4 hn
  exact ⟨gb, off, e, hc.lt, fun j hj => by rw [hc.cell]; exact hr j hj⟩
/-- What the call owns stays owned while a reader's block is written. -/
theorem own_far {base : Nat} {v : Value} {n : Nat} {xs : List Value} (h : w.ownsRow base 5 1 v n xs) (h' : Rdr w g' l' f') (hb : w.grownBy w' (some g')) : w'.ownsRow base 5 1 v n xs := by
  refine h.kept hb ?_
  rcases h.2 with ⟨rfl, _⟩ | ⟨g0, cap, cur, rfl, _, hh, _⟩
  · left; rfl
  · right
    rintro ⟨⟩
    obtain ⟨_, _, k1, _⟩ := h'
    unfold Blk at k1
    rw [hh] at k1
    simp at k1
end
end Go.Proofs.Ytgemjipbifgbgaa
/- The contracts of Put and New. No statement of the seat is proved here. -/
namespace Go.Proofs.Ytgemjipbifgbgaa
open Go.RowKit

/-- How many bytes Put lays. -/
def kOf (many : Int) : Nat := (min (max many 0) 8).toNat
theorem kOf_le (many : Int) : kOf many ≤ 8 := by unfold kOf; omega
theorem kOf_cast (many : Int) : ((kOf many : Nat) : Int) = min (max many 0) 8 := by unfold kOf; omega
theorem kOf_id {k : Nat} (h : k ≤ 8) : kOf k = k := by unfold kOf; omega

theorem room_int (A : Option Addr) (l : List UInt8) (c : Nat) (more : Int) (w : World) (hr : Rd w w.heap.size A l) (h0 : 0 ≤ more) (hlen : (l.length : Int) + more ≤ 140737488355328) :
    Calls Try.prog 40 #[.slice A l.length c, .int .i64 more] w fun e w' =>
      ∃ v, e = .returned v ∧ w'.ownsRow w.heap.size 5 1 v l.length (bv l) ∧ Below w.heap.size w w' := by
  obtain ⟨k, rfl⟩ := Int.eq_ofNat_of_zero_le h0
  exact room_any A l c k w hr (by omega)
theorem appnum_int (v : Value) (l : List UInt8) (m base : Nat) (k : Int) (w : World) (hown : w.ownsRow base 5 1 v l.length (bv l)) (hbase : base ≤ w.heap.size) (h0 : 0 ≤ k) (hk : k ≤ 8) (hlen : l.length ≤ 140737488355000) :
    Calls Try.prog 39 #[v, .int .u64 m, .int .i64 k] w fun e w' =>
      ∃ v', e = .returned v' ∧ w'.ownsRow base 5 1 v' (l.length + k.toNat) (bv (l ++ be k.toNat m)) ∧ Below base w w' := by
  obtain ⟨k, rfl⟩ := Int.eq_ofNat_of_zero_le h0
  exact appnum_any v l m k base w hown hbase (by omega) hlen

set_option maxHeartbeats 1000000 in
theorem put_any (A : Option Addr) (l : List UInt8) (c m : Nat) (many : Int) (w : World) (hr : Rd w w.heap.size A l) (hlen : l.length ≤ 140737488355000) :
    Calls Try.prog 29 #[.slice A l.length c, .int .u64 m, .int .i64 many] w fun e w' =>
      ∃ v, e = .returned v ∧ w'.ownsRow w.heap.size 5 1 v (l.length + kOf many) (bv (l ++ be (kOf many) m)) ∧ Below w.heap.size w w' := by
  have fin : ∀ k : Int, 0 ≤ k → k ≤ 8 → kOf many = k.toNat → ∀ (e : Ending) (w1 w' : World), Below w.heap.size w w1 → (∃ v', e = .returned v' ∧ w'.ownsRow w.heap.size 5 1 v' (l.length + k.toNat) (bv (l ++ be k.toNat m)) ∧ Below w.heap.size w1 w') →
      ∃ v, e = .returned v ∧ w'.ownsRow w.heap.size 5 1 v (l.length + kOf many) (bv (l ++ be (kOf many) m)) ∧ Below w.heap.size w w' := by
    intro k _ _ hk e w1 w' hb ⟨v', he, ho, hb'⟩
    exact ⟨v', he, by rw [hk]; exact ho, hb.trans hb'⟩
  by_cases hneg : many < 0
  · have hk : kOf many = (0 : Int).toNat := by unfold kOf; omega
    have FIN := fun e w1 w' => Lib.hid (fin 0 (by omega) (by omega) hk e w1 w')
    clear fin hk
    go_enter Try.func29, Try.ntmps29
    go_wp2_with (first
      | (go_at_call 40; refine (room_int A l c 0 w hr (by omega) (by omega)).mono ?_; rintro e w1 ⟨v1, rfl, hown1, hb1⟩)
      | (go_at_call 39; refine (appnum_int v1 l m w.heap.size 0 w1 hown1 hb1.size (by omega) (by omega) hlen).mono ?_; rintro e w2 ⟨v2, rfl, hown2, hb2⟩))
    go_ret
    exact (FIN _ w1 _).out hb1 ⟨_, rfl, hown2, hb2⟩
  · by_cases hbig : 8 < many
    · have hk : kOf many = (8 : Int).toNat := by unfold kOf; omega
      have FIN := fun e w1 w' => Lib.hid (fin 8 (by omega) (by omega) hk e w1 w')
      clear fin hk
      go_enter Try.func29, Try.ntmps29
      go_wp2_with (first
        | (go_at_call 40; refine (room_int A l c 8 w hr (by omega) (by omega)).mono ?_; rintro e w1 ⟨v1, rfl, hown1, hb1⟩)
        | (go_at_call 39; refine (appnum_int v1 l m w.heap.size 8 w1 hown1 hb1.size (by omega) (by omega) hlen).mono ?_; rintro e w2 ⟨v2, rfl, hown2, hb2⟩))
      go_ret
      exact (FIN _ w1 _).out hb1 ⟨_, rfl, hown2, hb2⟩
    · have hk : kOf many = many.toNat := by unfold kOf; omega
      have FIN := fun e w1 w' => Lib.hid (fin many (by omega) (by omega) hk e w1 w')
      clear fin hk
      go_enter Try.func29, Try.ntmps29
      go_wp2_with (first
        | (go_at_call 40; refine (room_int A l c many w hr (by omega) (by omega)).mono ?_; rintro e w1 ⟨v1, rfl, hown1, hb1⟩)
        | (go_at_call 39; refine (appnum_int v1 l m w.heap.size many w1 hown1 hb1.size (by omega) (by omega) hlen).mono ?_; rintro e w2 ⟨v2, rfl, hown2, hb2⟩))
      go_ret
      exact (FIN _ w1 _).out hb1 ⟨_, rfl, hown2, hb2⟩

theorem room_slice (A : Option Addr) (l : List UInt8) (c : Nat) (w : World) (hr : Rd w w.heap.size A l) (hlen : l.length ≤ 140737488355000) :
    Calls Try.prog 40 #[.slice A l.length c, .int .i64 0] w fun e w' =>
      ∃ A' c', e = .returned (.slice A' l.length c') ∧ w'.ownsRow w.heap.size 5 1 (.slice A' l.length c') l.length (bv l) ∧ Below w.heap.size w w' := by
  refine (room_int A l c 0 w hr (by omega) (by omega)).mono ?_
  rintro e w' ⟨v, rfl, ho, hb⟩
  obtain ⟨A', c', rfl, _, _⟩ := ownsRow_form ho
  exact ⟨A', c', rfl, ho, hb⟩

theorem rdr_new {w w1 : World} {A : Option Addr} {l : List UInt8} {c : Nat} (h : w1.ownsRow w.heap.size 5 1 (.slice A l.length c) l.length (bv l)) (hb : Below w.heap.size w w1) :
    w.heap.size ≤ w1.heap.size ∧ Rdr (w1.alloc (.cells #[.slice A l.length c, .int .i64 0] 74)) w1.heap.size l 0 ∧ Below w.heap.size w (w1.alloc (.cells #[.slice A l.length c, .int .i64 0] 74)) := by
  refine ⟨hb.size, ⟨A, c, Blk.new _ _ _, ?_, ?_, fun hn => ?_⟩, hb.alloc hb.size _⟩
  · obtain ⟨_, _, e, h1, _⟩ := ownsRow_form h; injection e with _ _ e; omega
  · obtain ⟨_, _, e, _, h2⟩ := ownsRow_form h; injection e with _ _ e; omega
  · rcases h.2 with ⟨_, h0⟩ | ⟨g, cap, cur, hv, _, hh, hnc, _, hcs, ht⟩
    · omega
    · injection hv with hA _ _
      have hc : Blk w1 g 5 cur := hh
      refine ⟨g, 0, cur, hA, hc.same (Below.heap_alloc _ _ _ hc.lt), fun j hj => ?_⟩
      have hl : (bv l)[j]? = some (.int .u8 l[j].toNat) := bv_get hj
      rw [Nat.zero_add]
      rw [← ht, List.getElem?_take] at hl
      split at hl
      · simpa using hl
      · cases hl

set_option maxHeartbeats 1000000 in
theorem new_any (A : Option Addr) (l : List UInt8) (c : Nat) (w : World) (hr : Rd w w.heap.size A l) (hlen : l.length ≤ 140737488355000) :
    Calls Try.prog 32 #[.slice A l.length c] w fun e w' =>
      ∃ g, e = .returned (.pointer (some ⟨g, 0, none⟩)) ∧ w.heap.size ≤ g ∧ Rdr w' g l 0 ∧ Below w.heap.size w w' := by
  go_enter Try.func32, Try.ntmps32
  go_wp2_with (go_at_call 40; refine (room_slice A l c w hr hlen).mono ?_; rintro e w1 ⟨A1, c1, rfl, hown1, hb1⟩)
  go_ret
  have R := rdr_new hown1 hb1
  exact ⟨_, rfl, R.1, R.2.1, R.2.2⟩
end Go.Proofs.Ytgemjipbifgbgaa
/- The contract of value. No statement of the seat is proved here. -/
namespace Go.Proofs.Ytgemjipbifgbgaa
open Go.RowKit

/-- One byte more, in the walk's own spelling. -/
theorem or_step (t : List UInt8) (c : UInt8) (h : t.length ≤ 7) :
    bits BinOp.or IntKind.u64 (IntKind.u64.wrap (((val t : Nat) : Int) * 256)) (IntKind.u64.wrap ((c.toNat : Nat) : Int)) = ((val (t ++ [c]) : Nat) : Int) := by
  have h1 := val_lt t
  have h2 : 256 ^ t.length ≤ 256 ^ 7 := Nat.pow_le_pow_right (by omega) h
  have h3 := c.toNat_lt
  have e1 : IntKind.u64.wrap (((val t : Nat) : Int) * 256) = ((val t * 256 : Nat) : Int) := by
    rw [IntKind.wrap_u64]; omega
  have e2 : IntKind.u64.wrap ((c.toNat : Nat) : Int) = ((c.toNat : Nat) : Int) := by rw [IntKind.wrap_u64]; omega
  rw [e1, e2, bits_or_u64_nat _ _ (by omega) (by omega), val_snoc, ← shl_or _ _ h3, Nat.shiftLeft_eq]

set_option maxHeartbeats 1000000 in
theorem value_any (A : Option Addr) (l : List UInt8) (c B : Nat) (w : World) (hr : Rd w B A l) (h8 : l.length ≤ 8) :
    Calls Try.prog 41 #[.slice A l.length c] w fun e w' => e = .returned (.int .u64 (val l)) ∧ w = w' := by
  go_enter Try.func41, Try.ntmps41
  go_wp2
  go_loop [3, 8] (fun n i => ∃ k : Nat, k ≤ l.length ∧ i = .int .i64 k ∧ n = .int .u64 (val (l.take k))) (fun _ i => l.length - (intOf i).toNat)
  case atStart => exact ⟨0, Nat.zero_le _, rfl, rfl⟩
  case round =>
    obtain ⟨k, hk, rfl, rfl⟩ := hrel
    by_cases hlt : k < l.length
    · obtain ⟨g, off, rfl, hb, hc⟩ := hr (by omega)
      have hck := hc k hlt
      have hstep := Lib.hid (or_step (l.take k) l[k] (by rw [List.length_take]; omega))
      have htake := Lib.hid (show l.take (k + 1) = l.take k ++ [l[k]] from List.take_succ_eq_append_getElem hlt)
      clear hc
      go_wp2
      refine ⟨⟨k + 1, by omega, by go_num, ?_⟩, by simp [intOf]; omega⟩
      rw [htake.out, hstep.out]
    · go_wp2
      go_ret
      exact ⟨by rw [List.take_of_length_le (by omega)]; rfl, rfl⟩
end Go.Proofs.Ytgemjipbifgbgaa
/- What a reader's Get returns, leaves, and its fault behind it (the package's and the reference's alike). No statement of the seat is proved here; nothing of the program is imported. -/
namespace Go.Proofs.Ytgemjipbifgbgaa
open Go.RowKit

/-- What Get returns, leaves, and its fault behind it. -/
def getV (l : List UInt8) (f many : Int) : Nat := if f = 0 ∧ 0 ≤ many ∧ many ≤ 8 ∧ many ≤ l.length then val (l.take many.toNat) else 0
def getL (l : List UInt8) (f many : Int) : List UInt8 := if f = 0 ∧ 0 ≤ many ∧ many ≤ 8 ∧ many ≤ l.length then l.drop many.toNat else l
def getF (l : List UInt8) (f many : Int) : Int := if f = 0 then (if many < 0 ∨ 8 < many then 1 else if (l.length : Int) < many then 10 else 0) else f
theorem getV_lt (l : List UInt8) (f : Int) (k : Nat) : getV l f k < 256 ^ k := by
  unfold getV
  split
  · rename_i h
    refine Nat.lt_of_lt_of_le (val_lt _) (Nat.pow_le_pow_right (by omega) ?_)
    rw [List.length_take]
    omega
  · exact Nat.pow_pos (by omega)
end Go.Proofs.Ytgemjipbifgbgaa
/- The contract of Get. No statement of the seat is proved here. -/
namespace Go.Proofs.Ytgemjipbifgbgaa
open Go.RowKit

def GetPost (w : World) (g : Nat) (l : List UInt8) (f many : Int) (e : Ending) (w' : World) : Prop :=
  e = .returned (.int .u64 (getV l f many)) ∧ Rdr w' g (getL l f many) (getF l f many) ∧ w.grownBy w' (some g)

theorem grownBy_set (w : World) (g i : Nat) (u : Value) : w.grownBy (w.setCell ⟨g, i, none⟩ u) (some g) :=
  ⟨rfl, rfl, rfl, by simp [World.setCell], fun k _ hk => Below.heap_setCell _ _ _ _ (by rintro rfl; exact hk rfl)⟩

theorem rdr_fault {w : World} {g : Nat} {l : List UInt8} {f : Int} (h : Rdr w g l f) (f' : Int) : Rdr (w.setCell ⟨g, 1, none⟩ (.int .i64 f')) g l f' := by
  obtain ⟨A, c, h1, h2, h3, h4⟩ := h
  refine ⟨A, c, by simpa using h1.set_ 1 (.int .i64 f'), h2, h3, fun hn => ?_⟩
  obtain ⟨gb, off, cur, e, hc, hr⟩ := h4 hn
  refine ⟨gb, off, cur, e, hc.same (Below.heap_setCell _ _ _ _ ?_), hr⟩
  rintro rfl
  unfold Blk at hc h1
  rw [hc] at h1
  simp at h1
theorem rdr_cut {w : World} {g : Nat} {l : List UInt8} {f : Int} {A : Option Addr} {c k : Nat} (h1 : Blk w g 74 #[.slice A l.length c, .int .i64 f]) (h2 : l.length ≤ c) (h3 : c ≤ maxLen)
    (h4 : 0 < l.length → ∃ gb off cur, A = some ⟨gb, off, none⟩ ∧ Blk w gb 5 cur ∧ ∀ j (_ : j < l.length), cur[off + j]? = some (.int .u8 l[j].toNat)) (hk : k ≤ l.length) {A' : Option Addr} {n' c' : Nat}
    (hA : k < l.length → A' = A.map (·.add k)) (hn : n' = l.length - k) (hc' : c' = c - k) :
    Rdr (w.setCell ⟨g, 0, none⟩ (.slice A' n' c')) g (l.drop k) f := by
  subst hn hc'
  refine ⟨A', c - k, ?_, by rw [List.length_drop]; omega, by omega, fun hn => ?_⟩
  · have := h1.set_ 0 (.slice A' (l.length - k) (c - k))
    simpa using this
  · rw [List.length_drop] at hn
    obtain ⟨gb, off, cur, rfl, hc, hr⟩ := h4 (by omega)
    refine ⟨gb, off + k, cur, by rw [hA (by omega)]; simp [Addr.add_lit], hc.same (Below.heap_setCell _ _ _ _ ?_), fun j hj => ?_⟩
    · rintro rfl
      unfold Blk at hc h1
      rw [hc] at h1
      simp at h1
    · rw [List.length_drop] at hj
      rw [Nat.add_assoc, hr (k + j) (by omega), List.getElem_drop]

set_option maxHeartbeats 1000000 in
theorem get_nil (many : Int) (w : World) : Calls Try.prog 33 #[.pointer none, .int .i64 many] w fun e w' => e = .returned (.int .u64 0) ∧ w = w' := by
  go_enter Try.func33, Try.ntmps33
  go_wp2
  go_ret
  exact ⟨rfl, rfl⟩

set_option maxHeartbeats 1000000 in
theorem get_bad (g : Nat) (l : List UInt8) (f many : Int) (w : World) (h : Rdr w g l f) (hf : ¬ f = 0) : Calls Try.prog 33 #[.pointer (some ⟨g, 0, none⟩), .int .i64 many] w (GetPost w g l f many) := by
  have fin : GetPost w g l f many (.returned (.int .u64 0)) w := by
    refine ⟨by simp [getV, hf], by simpa [getL, getF, hf] using h, World.grownBy.refl _ _⟩
  have hf' : (f != 0) = true := by simpa using hf
  have FIN := Lib.hid fin
  obtain ⟨A, c, hb, _, _, _⟩ := h
  have hc0 := hb.cell 0
  have hc1 := hb.cell 1
  clear hb hf fin
  go_enter Try.func33, Try.ntmps33
  go_wp2
  go_ret
  exact FIN.out

set_option maxHeartbeats 1000000 in
theorem get_arg (g : Nat) (l : List UInt8) (many : Int) (w : World) (h : Rdr w g l 0) (hm : many < 0 ∨ 8 < many) : Calls Try.prog 33 #[.pointer (some ⟨g, 0, none⟩), .int .i64 many] w (GetPost w g l 0 many) := by
  have fin : GetPost w g l 0 many (.returned (.int .u64 0)) (w.setCell ⟨g, 1, none⟩ (.int .i64 1)) := by
    refine ⟨?_, ?_, grownBy_set _ _ _ _⟩
    · rw [getV, if_neg (by omega)]; rfl
    · rw [getL, if_neg (by omega), getF, if_pos rfl, if_pos hm]; exact rdr_fault h 1
  have FIN := Lib.hid fin
  obtain ⟨A, c, hb, _, _, _⟩ := h
  have hc0 := hb.cell 0
  have hc1 := hb.cell 1
  have hz1 := hb.frozen 1
  clear hb fin
  rcases hm with hm | hm
  · go_enter Try.func33, Try.ntmps33
    go_wp2
    go_ret
    exact FIN.out
  · have hm0 : ¬ many < 0 := by omega
    go_enter Try.func33, Try.ntmps33
    go_wp2
    go_ret
    exact FIN.out

set_option maxHeartbeats 1000000 in
theorem get_short (g : Nat) (l : List UInt8) (many : Int) (w : World) (h : Rdr w g l 0) (hm0 : ¬ many < 0) (hm8 : ¬ 8 < many) (hs : (l.length : Int) < many) : Calls Try.prog 33 #[.pointer (some ⟨g, 0, none⟩), .int .i64 many] w (GetPost w g l 0 many) := by
  have fin : GetPost w g l 0 many (.returned (.int .u64 0)) (w.setCell ⟨g, 1, none⟩ (.int .i64 10)) := by
    refine ⟨?_, ?_, grownBy_set _ _ _ _⟩
    · rw [getV, if_neg (by omega)]; rfl
    · rw [getL, if_neg (by omega), getF, if_pos rfl, if_neg (by omega), if_pos hs]; exact rdr_fault h 10
  have FIN := Lib.hid fin
  obtain ⟨A, c, hb, _, _, _⟩ := h
  have hc0 := hb.cell 0
  have hc1 := hb.cell 1
  have hz1 := hb.frozen 1
  clear hb fin
  go_enter Try.func33, Try.ntmps33
  go_wp2
  go_ret
  exact FIN.out

set_option maxHeartbeats 1000000 in
theorem get_ok (g : Nat) (l : List UInt8) (k : Nat) (w : World) (h : Rdr w g l 0) (hk8 : k ≤ 8) (hk : k ≤ l.length) : Calls Try.prog 33 #[.pointer (some ⟨g, 0, none⟩), .int .i64 k] w (GetPost w g l 0 k) := by
  obtain ⟨A, c, hb, h2, h3, h4⟩ := h
  have fin : ∀ A' n' c', (k < l.length → A' = A.map (·.add k)) → n' = l.length - k → c' = c - k → GetPost w g l 0 k (.returned (.int .u64 (val (l.take k)))) (w.setCell ⟨g, 0, none⟩ (.slice A' n' c')) := by
    intro A' n' c' hA hn hc'
    refine ⟨?_, ?_, grownBy_set _ _ _ _⟩
    · rw [getV, if_pos (by omega), Int.toNat_natCast]
    · rw [getL, if_pos (by omega), getF, if_pos rfl, if_neg (by omega), if_neg (by omega), Int.toNat_natCast]
      exact rdr_cut hb h2 h3 h4 hk hA hn hc'
  have FIN := fun A' n' c' => Lib.hid (fin A' n' c')
  have hrd : Rd w w.heap.size A (l.take k) := (Rdr.rd h4).take k
  have hlk : (l.take k).length = k := by rw [List.length_take]; omega
  have hv := value_any A (l.take k) c w.heap.size w hrd (by omega)
  rw [hlk] at hv
  have HV := Lib.hid hv
  have hc0 := hb.cell 0
  have hc1 := hb.cell 1
  have hz0 := hb.frozen 0
  clear hb fin h4 hrd hlk hv
  have hkc : k ≤ c := by omega
  go_enter Try.func33, Try.ntmps33
  go_wp2_with (go_at_call 41; refine HV.out.mono ?_; rintro e w' ⟨rfl, rfl⟩)
  · go_ret
    exact (FIN _ _ _).out (fun hlt => by omega) rfl (by omega)
  · go_ret
    exact (FIN _ _ _).out (fun _ => rfl) rfl rfl

theorem get_any (g : Nat) (l : List UInt8) (f many : Int) (w : World) (h : Rdr w g l f) : Calls Try.prog 33 #[.pointer (some ⟨g, 0, none⟩), .int .i64 many] w (GetPost w g l f many) := by
  by_cases hf : f = 0
  · subst hf
    by_cases hm : many < 0 ∨ 8 < many
    · exact get_arg g l many w h hm
    · by_cases hs : (l.length : Int) < many
      · exact get_short g l many w h (by omega) (by omega) hs
      · obtain ⟨k, rfl⟩ := Int.eq_ofNat_of_zero_le (show 0 ≤ many by omega)
        exact get_ok g l k w h (by omega) (by omega)
  · exact get_bad g l f many w h hf
end Go.Proofs.Ytgemjipbifgbgaa
/- Bytes of the call's own; the string of bytes, in every world behind. No statement of the seat is proved here. -/
namespace Go.Proofs.Ytgemjipbifgbgaa
open Go.RowKit

/-- The slice value '.slice A n c' owns the bytes L, in blocks from B on. -/
def Own (w : World) (B : Nat) (A : Option Addr) (c n : Nat) (L : List UInt8) : Prop := L.length = n ∧ w.ownsRow B 5 1 (.slice A n c) n (bv L)
section
variable {w w' : World} {B : Nat} {A : Option Addr} {c n : Nat} {L : List UInt8}
theorem Own.rd (h : Own w B A c n L) : Rd w w.heap.size A L := Rd.of_own h.2
theorem Own.below (h : Own w B A c n L) (hb : Below w.heap.size w w') : Own w' B A c n L := ⟨h.1, ownsRow_below h.2 hb⟩
theorem Own.base {B' : Nat} (h : Own w B A c n L) (hb : B' ≤ B) : Own w B' A c n L := ⟨h.1, ownsRow_base h.2 hb⟩
theorem Own.cap (h : Own w B A c n L) : n ≤ c ∧ c ≤ maxLen := by
  obtain ⟨_, _, e, h1, h2⟩ := ownsRow_form h.2
  injection e with _ _ e
  subst e; exact ⟨h1, h2⟩
theorem Own.alloc (h : Own w B A c n L) (o : Obj) : Own (w.alloc o) B A c n L := ⟨h.1, h.2.alloc o⟩
theorem Own.str (h : Own w B A c n L) : (convert 37 9 (.slice A n c)).run Try.prog w = .ok (.string ⟨L.toArray⟩) w := by
  have := run_str (P := Try.prog) 37 9 5 Try.underlying37 Try.underlying5 Try.underlying9 h.rd c
  rwa [h.1] at this
end

/-- A row of the call's own that reads as L, behind the world w0. -/
def Rw (w0 w : World) (A : Option Addr) (c n : Nat) (L : List UInt8) : Prop := w.ownsRow w0.heap.size 5 1 (.slice A n c) n (bv L) ∧ Below w0.heap.size w0 w
section
variable {w0 w w' : World} {A : Option Addr} {c n : Nat} {L : List UInt8}
theorem Rw.on (h : Rw w0 w A c n L) (hb : Below w.heap.size w w') : Rw w0 w' A c n L := ⟨ownsRow_below h.1 hb, h.2.trans (hb.mono h.2.size)⟩
theorem Rw.app {A' : Option Addr} {c' m : Nat} {b : List UInt8} (h : Rw w0 w A c n L) (ho : w'.ownsRow w0.heap.size 5 1 (.slice A' m c') m (bv L ++ bv b)) (hg : w.grownBy w' (Value.slice A n c).ownBlock) : Rw w0 w' A' c' m (L ++ b) :=
  ⟨by rw [bv_append]; exact ho, h.2.grown hg h.2.size (fun k hk => (h.1.lt k hk).1)⟩
end

/-- The slice's string, in every world behind. -/
theorem Rd.str {w : World} {B : Nat} {A : Option Addr} {l : List UInt8} (h : Rd w B A l) (k c : Nat) (hk : l.length = k) (W : World) (hb : Below B w W) :
    (convert 37 9 (.slice A k c)).run Try.prog W = .ok (.string ⟨l.toArray⟩) W := by
  have := run_str (P := Try.prog) 37 9 5 Try.underlying37 Try.underlying5 Try.underlying9 (h.below hb) c
  rwa [hk] at this

theorem below_drew {B : Nat} {a w : World} (h : Below B a w) : Below B a w.drew := h.trans ⟨rfl, rfl, rfl, Nat.le_refl _, fun _ _ => rfl⟩
end Go.Proofs.Ytgemjipbifgbgaa
/- The contracts of Put, New, Get in the shape in which the statements' walks use them. No statement of the seat is proved here. -/
namespace Go.Proofs.Ytgemjipbifgbgaa
open Go.RowKit

section
variable {w w' : World} {B : Nat} {A : Option Addr} {c n : Nat} {L : List UInt8}
theorem Own.far {g : Nat} {l : List UInt8} {f : Int} (h : Own w B A c n L) (h' : Rdr w g l f) (hb : w.grownBy w' (some g)) : Own w' B A c n L := ⟨h.1, own_far h.2 h' hb⟩
end

theorem put_sl (A : Option Addr) (l : List UInt8) (c k m : Nat) (many : Int) (n : Nat) (L : List UInt8) (w : World) (hl : l.length = k) (hr : Rd w w.heap.size A l) (hlen : l.length ≤ 140737488355000) (hn : l.length + kOf many = n) (hL : l ++ be (kOf many) m = L) :
    Calls Try.prog 29 #[.slice A k c, .int .u64 m, .int .i64 many] w fun e w' => ∃ A' c', e = .returned (.slice A' n c') ∧ Own w' w.heap.size A' c' n L ∧ Below w.heap.size w w' := by
  subst hl hn hL
  refine (put_any A l c m many w hr hlen).mono ?_
  rintro e w' ⟨v, rfl, ho, hb⟩
  obtain ⟨A', c', rfl, _, _⟩ := ownsRow_form ho
  exact ⟨A', c', rfl, ⟨by simp [be_length], ho⟩, hb⟩
theorem new_sl (A : Option Addr) (l : List UInt8) (c k : Nat) (w : World) (hl : l.length = k) (hr : Rd w w.heap.size A l) (hlen : l.length ≤ 140737488355000) :
    Calls Try.prog 32 #[.slice A k c] w fun e w' => ∃ g, e = .returned (.pointer (some ⟨g, 0, none⟩)) ∧ w.heap.size ≤ g ∧ Rdr w' g l 0 ∧ Below w.heap.size w w' := by
  subst hl; exact new_any A l c w hr hlen
theorem get_lit (g : Nat) (l : List UInt8) (f many : Int) (V : Nat) (L : List UInt8) (F : Int) (w : World) (h : Rdr w g l f) (hV : getV l f many = V) (hL : getL l f many = L) (hF : getF l f many = F) :
    Calls Try.prog 33 #[.pointer (some ⟨g, 0, none⟩), .int .i64 many] w fun e w' => e = .returned (.int .u64 V) ∧ Rdr w' g L F ∧ w.grownBy w' (some g) := by
  subst hV hL hF; exact get_any g l f many w h
/-- A new block of bytes. -/
theorem rd_block (w : World) (cs : Array Value) (l : List UInt8) (h : ∀ j (_ : j < l.length), cs[j]? = some (.int .u8 l[j].toNat)) : Rd (w.alloc (.cells cs 5)) (w.alloc (.cells cs 5)).heap.size (some ⟨w.heap.size, 0, none⟩) l := fun _ => by
  refine ⟨w.heap.size, 0, rfl, by simp, fun j hj => ?_⟩
  rw [(Blk.new w 5 cs).cell, Nat.zero_add]; exact h j hj
end Go.Proofs.Ytgemjipbifgbgaa
