/- The contracts of Put and New. No statement of the seat is proved here. -/
import Derived.Test.YtmfbidohmkoeeaaCodecB
import Derived.Test.YtmfbidohmkoeeaaRdr
namespace Go.Proofs.Ytmfbidohmkoeeaa
open Go.RowKit

/-- How many bytes Put lays. -/
def kOf (many : Int) : Nat := (min (max many 0) 8).toNat
theorem kOf_le (many : Int) : kOf many ≤ 8 := by unfold kOf; omega
theorem kOf_cast (many : Int) : ((kOf many : Nat) : Int) = min (max many 0) 8 := by unfold kOf; omega
theorem kOf_id {k : Nat} (h : k ≤ 8) : kOf k = k := by unfold kOf; omega

theorem room_int (A : Option Addr) (l : List UInt8) (c : Nat) (more : Int) (w : World) (hr : Rd w w.heap.size A l) (h0 : 0 ≤ more) (hlen : (l.length : Int) + more ≤ 140737488355328) :
    Calls Try.prog 25 #[.slice A l.length c, .int .i64 more] w fun e w' =>
      ∃ v, e = .returned v ∧ w'.ownsRow w.heap.size 5 1 v l.length (bv l) ∧ Below w.heap.size w w' := by
  obtain ⟨k, rfl⟩ := Int.eq_ofNat_of_zero_le h0
  exact room_any A l c k w hr (by omega)
theorem appnum_int (v : Value) (l : List UInt8) (m base : Nat) (k : Int) (w : World) (hown : w.ownsRow base 5 1 v l.length (bv l)) (hbase : base ≤ w.heap.size) (h0 : 0 ≤ k) (hk : k ≤ 8) (hlen : l.length ≤ 140737488355000) :
    Calls Try.prog 24 #[v, .int .u64 m, .int .i64 k] w fun e w' =>
      ∃ v', e = .returned v' ∧ w'.ownsRow base 5 1 v' (l.length + k.toNat) (bv (l ++ be k.toNat m)) ∧ Below base w w' := by
  obtain ⟨k, rfl⟩ := Int.eq_ofNat_of_zero_le h0
  exact appnum_any v l m k base w hown hbase (by omega) hlen

set_option maxHeartbeats 1000000 in
theorem put_any (A : Option Addr) (l : List UInt8) (c m : Nat) (many : Int) (w : World) (hr : Rd w w.heap.size A l) (hlen : l.length ≤ 140737488355000) :
    Calls Try.prog 20 #[.slice A l.length c, .int .u64 m, .int .i64 many] w fun e w' =>
      ∃ v, e = .returned v ∧ w'.ownsRow w.heap.size 5 1 v (l.length + kOf many) (bv (l ++ be (kOf many) m)) ∧ Below w.heap.size w w' := by
  have fin : ∀ k : Int, 0 ≤ k → k ≤ 8 → kOf many = k.toNat → ∀ (e : Ending) (w1 w' : World), Below w.heap.size w w1 → (∃ v', e = .returned v' ∧ w'.ownsRow w.heap.size 5 1 v' (l.length + k.toNat) (bv (l ++ be k.toNat m)) ∧ Below w.heap.size w1 w') →
      ∃ v, e = .returned v ∧ w'.ownsRow w.heap.size 5 1 v (l.length + kOf many) (bv (l ++ be (kOf many) m)) ∧ Below w.heap.size w w' := by
    intro k _ _ hk e w1 w' hb ⟨v', he, ho, hb'⟩
    exact ⟨v', he, by rw [hk]; exact ho, hb.trans hb'⟩
  by_cases hneg : many < 0
  · have hk : kOf many = (0 : Int).toNat := by unfold kOf; omega
    have FIN := fun e w1 w' => Lib.hid (fin 0 (by omega) (by omega) hk e w1 w')
    clear fin hk
    go_enter Try.func20, Try.ntmps20
    go_wp2_with (first
      | (go_at_call 25; refine (room_int A l c 0 w hr (by omega) (by omega)).mono ?_; rintro e w1 ⟨v1, rfl, hown1, hb1⟩)
      | (go_at_call 24; refine (appnum_int v1 l m w.heap.size 0 w1 hown1 hb1.size (by omega) (by omega) hlen).mono ?_; rintro e w2 ⟨v2, rfl, hown2, hb2⟩))
    go_ret
    exact (FIN _ w1 _).out hb1 ⟨_, rfl, hown2, hb2⟩
  · by_cases hbig : 8 < many
    · have hk : kOf many = (8 : Int).toNat := by unfold kOf; omega
      have FIN := fun e w1 w' => Lib.hid (fin 8 (by omega) (by omega) hk e w1 w')
      clear fin hk
      go_enter Try.func20, Try.ntmps20
      go_wp2_with (first
        | (go_at_call 25; refine (room_int A l c 8 w hr (by omega) (by omega)).mono ?_; rintro e w1 ⟨v1, rfl, hown1, hb1⟩)
        | (go_at_call 24; refine (appnum_int v1 l m w.heap.size 8 w1 hown1 hb1.size (by omega) (by omega) hlen).mono ?_; rintro e w2 ⟨v2, rfl, hown2, hb2⟩))
      go_ret
      exact (FIN _ w1 _).out hb1 ⟨_, rfl, hown2, hb2⟩
    · have hk : kOf many = many.toNat := by unfold kOf; omega
      have FIN := fun e w1 w' => Lib.hid (fin many (by omega) (by omega) hk e w1 w')
      clear fin hk
      go_enter Try.func20, Try.ntmps20
      go_wp2_with (first
        | (go_at_call 25; refine (room_int A l c many w hr (by omega) (by omega)).mono ?_; rintro e w1 ⟨v1, rfl, hown1, hb1⟩)
        | (go_at_call 24; refine (appnum_int v1 l m w.heap.size many w1 hown1 hb1.size (by omega) (by omega) hlen).mono ?_; rintro e w2 ⟨v2, rfl, hown2, hb2⟩))
      go_ret
      exact (FIN _ w1 _).out hb1 ⟨_, rfl, hown2, hb2⟩

theorem room_slice (A : Option Addr) (l : List UInt8) (c : Nat) (w : World) (hr : Rd w w.heap.size A l) (hlen : l.length ≤ 140737488355000) :
    Calls Try.prog 25 #[.slice A l.length c, .int .i64 0] w fun e w' =>
      ∃ A' c', e = .returned (.slice A' l.length c') ∧ w'.ownsRow w.heap.size 5 1 (.slice A' l.length c') l.length (bv l) ∧ Below w.heap.size w w' := by
  refine (room_int A l c 0 w hr (by omega) (by omega)).mono ?_
  rintro e w' ⟨v, rfl, ho, hb⟩
  obtain ⟨A', c', rfl, _, _⟩ := ownsRow_form ho
  exact ⟨A', c', rfl, ho, hb⟩

theorem rdr_new {w w1 : World} {A : Option Addr} {l : List UInt8} {c : Nat} (h : w1.ownsRow w.heap.size 5 1 (.slice A l.length c) l.length (bv l)) (hb : Below w.heap.size w w1) :
    w.heap.size ≤ w1.heap.size ∧ Rdr (w1.alloc (.cells #[.slice A l.length c, .int .i64 0] 56)) w1.heap.size l 0 ∧ Below w.heap.size w (w1.alloc (.cells #[.slice A l.length c, .int .i64 0] 56)) := by
  refine ⟨hb.size, ⟨A, c, Blk.new _ _ _, ?_, ?_, fun hn => ?_⟩, hb.alloc hb.size _⟩
  · obtain ⟨_, _, e, h1, _⟩ := ownsRow_form h; injection e with _ _ e; omega
  · obtain ⟨_, _, e, _, h2⟩ := ownsRow_form h; injection e with _ _ e; omega
  · rcases h.2 with ⟨_, h0⟩ | ⟨g, cap, cur, hv, _, hh, hnc, _, hcs, ht⟩
    · omega
    · injection hv with hA _ _
      have hc : Blk w1 g 5 cur := hh
      refine ⟨g, 0, cur, hA, hc.same (Below.heap_alloc _ _ _ hc.lt), fun j hj => ?_⟩
      have hl : (bv l)[j]? = some (.int .u8 l[j].toNat) := bv_get hj
      rw [Nat.zero_add]
      rw [← ht, List.getElem?_take] at hl
      split at hl
      · simpa using hl
      · cases hl

set_option maxHeartbeats 1000000 in
theorem new_any (A : Option Addr) (l : List UInt8) (c : Nat) (w : World) (hr : Rd w w.heap.size A l) (hlen : l.length ≤ 140737488355000) :
    Calls Try.prog 21 #[.slice A l.length c] w fun e w' =>
      ∃ g, e = .returned (.pointer (some ⟨g, 0, none⟩)) ∧ w.heap.size ≤ g ∧ Rdr w' g l 0 ∧ Below w.heap.size w w' := by
  go_enter Try.func21, Try.ntmps21
  go_wp2_with (go_at_call 25; refine (room_slice A l c w hr hlen).mono ?_; rintro e w1 ⟨A1, c1, rfl, hown1, hb1⟩)
  go_ret
  have R := rdr_new hown1 hb1
  exact ⟨_, rfl, R.1, R.2.1, R.2.2⟩
end Go.Proofs.Ytmfbidohmkoeeaa
