/- What CodecTakes' walk wants besides: append of a slice that came in, a reader that hangs on its own blocks alone, a slice of Takes that came in. No statement of the seat is proved here. -/
import Derived.Test.YtcjhcapbmdiloaaShown
import Derived.Test.YtcjhcapbmdiloaaRefC
import Derived.Test.YtcjhcapbmdiloaaOpen
import Derived.Deep.RegionHeld3
import Derived.Deep.DeepCutAuto
import Derived.Deep.Slices
import Derived.Deep.Fields
namespace Go.Proofs.Ytcjhcapbmdiloaa
open Go.RowKit

section
variable {P : Program} (w : World)
theorem run_append_of_nil (base : Nat) (t ty e : TypeId) (i : TypeInfo) (size : Nat) (ht : P.underlying t = some (.slice e)) (hi : P.info? e = some i)
    (v : Value) (n : Nat) (xs : List Value) (hown : w.ownsRow base e size v n xs) (c : Nat) : (Builtin.append_ #[t, t] ty #[v, .slice none 0 c]).run P w = .ok v w := by
  rcases hown.2 with ⟨rfl, rfl⟩ | ⟨g, cap, cur, rfl, _, _, hnc, _⟩
  · simp [Builtin.append_, run_underlying ht, sizeOf, typeInfo, hi, Builtin.lenOf, Builtin.firstCells]
  · simp [Builtin.append_, run_underlying ht, sizeOf, typeInfo, hi, Builtin.lenOf, Builtin.firstCells, hnc, storeCells]

/-- 'append([]byte{}, b...)', b whatever slice came in: a row of the call's own that reads as b did. -/
theorem wpList_append_rd {ops : Array Oper} {rest : List Oper} {o : Oper} {a : Act} {Q : Exit → Act → World → Prop} (hgd : o.guard = none) (s x : Operand) (t : TypeId)
    (ho : o.op = .call { callee := .builtin .append, args := #[s, x], argTypes := #[t, t] })
    (base : Nat) (e : TypeId) (i : TypeInfo) (ht : P.underlying t = some (.slice e)) (hi : P.info? e = some i) (hz : i.zero = some (.int .u8 0)) (hsize : i.size = 1) (hby : i.bytes = 1)
    (v : Value) (hs : a.eval s = v) (hown : w.ownsRow base e 1 v 0 [])
    (B : Nat) (A : Option Addr) (c : Nat) (l : List UInt8) (hx : a.eval x = .slice A l.length c) (hr : Rd w B A l) (hl : l.length ≤ 100000) (hbase : base ≤ w.heap.size)
    (h : ∀ A' c' w', w'.ownsRow base e 1 (.slice A' l.length c') l.length (bv l) → w.grownBy w' v.ownBlock → wpList P ops Q rest (a.put o.dst (.slice A' l.length c')) w') : wpList P ops Q (o :: rest) a w := by
  have hrun : ∃ v' w', (Builtin.append_ #[t, t] o.type #[v, .slice A l.length c]).run P w = .ok v' w' ∧ w'.ownsRow base e 1 v' l.length (bv l) ∧ w.grownBy w' v.ownBlock := by
    rcases A with _ | ad
    · have hl0 : l = [] := by
        rcases Nat.eq_zero_or_pos l.length with h0 | h0
        · exact List.eq_nil_of_length_eq_zero h0
        · obtain ⟨_, _, e, _⟩ := hr h0; cases e
      subst hl0
      exact ⟨v, w, run_append_of_nil w base t o.type e i 1 ht hi v 0 [] hown c, hown, World.grownBy.refl w _⟩
    · have hcells : ∀ j u, (bv l)[j]? = some u → w.cell? (ad.add j) = some u := by
        intro j u hu
        have hj : j < l.length := by have := (List.getElem?_eq_some_iff.1 hu).1; rwa [bv_length] at this
        obtain ⟨ad', e, hc⟩ := hr.cells (by omega)
        injection e with e; subst e
        exact hc j u hu
      obtain ⟨v', w', h1, h2, h3, _⟩ := run_append_own (P := P) w base t o.type e i (.int .u8 0) 1 1 ht hi hz hsize hby rfl (by decide) v 0 [] hown ad l.length c (bv l) (by rw [bv_length, Nat.mul_one]) hcells (bv_oneCell l) (by simp [maxLen]; omega) (by omega) hbase
      rw [Nat.zero_add, List.nil_append] at h2
      exact ⟨v', w', h1, h2, h3⟩
  refine wpList_plain hgd fun K hK => ?_
  obtain ⟨v', w', h1, h2, h3⟩ := hrun
  obtain ⟨A', c', rfl, _, _⟩ := ownsRow_form h2
  unfold Oper.wp execOp
  simp only [ho, resolve, invoke, builtin, Sem.run_bind, Sem.run_pure, Result.andThen_ok, List.map_toArray, List.map_cons, List.map_nil, hs, hx, h1]
  exact hK _ _ (h A' c' w' h2 h3)
end

theorem rdr_new_far {w w1 : World} {A : Option Addr} {l : List UInt8} {c : Nat} (h : w1.ownsRow w.heap.size 5 1 (.slice A l.length c) l.length (bv l)) :
    ∀ w'', (∀ j, w.heap.size ≤ j → j < (w1.alloc (.cells #[.slice A l.length c, .int .i64 0] 50)).heap.size → w''.heap[j]? = (w1.alloc (.cells #[.slice A l.length c, .int .i64 0] 50)).heap[j]?) → w.heap.size ≤ w1.heap.size → Rdr w'' w1.heap.size l 0 := by
  intro w'' hk hsz
  obtain ⟨_, _, e, h1, h2⟩ := ownsRow_form h
  injection e with _ _ e
  subst e
  refine ⟨A, c, ?_, h1, h2, fun hn => ?_⟩
  · have hb : Blk (w1.alloc (.cells #[.slice A l.length c, .int .i64 0] 50)) w1.heap.size 50 #[.slice A l.length c, .int .i64 0] := Blk.new _ _ _
    exact hb.same (hk _ hsz hb.lt)
  · rcases h.2 with ⟨_, h0⟩ | ⟨g, cap, cur, hv, hbg, hh, hnc, _, hcs, ht⟩
    · omega
    · injection hv with hA _ _
      have hc : Blk w1 g 5 cur := hh
      have hc2 : Blk (w1.alloc (.cells #[.slice A l.length c, .int .i64 0] 50)) g 5 cur := hc.same (Below.heap_alloc _ _ _ hc.lt)
      refine ⟨g, 0, cur, hA, hc2.same (hk _ hbg hc2.lt), fun j hj => ?_⟩
      have hl : (bv l)[j]? = some (.int .u8 l[j].toNat) := bv_get hj
      rw [Nat.zero_add]
      rw [← ht, List.getElem?_take] at hl
      split at hl
      · simpa using hl
      · cases hl

def NewFar (w w' : World) (g : Nat) (l : List UInt8) : Prop := ∀ w'', (∀ j, w.heap.size ≤ j → j < w'.heap.size → w''.heap[j]? = w'.heap[j]?) → Rdr w'' g l 0
set_option maxHeartbeats 1000000 in
theorem new_far (A : Option Addr) (l : List UInt8) (c : Nat) (w : World) (hr : Rd w w.heap.size A l) (hlen : l.length ≤ 140737488355000) :
    Calls Try.prog 9 #[.slice A l.length c] w fun e w' =>
      ∃ g, e = .returned (.pointer (some ⟨g, 0, none⟩)) ∧ w.heap.size ≤ g ∧ NewFar w w' g l ∧ Below w.heap.size w w' ∧ g < w'.heap.size := by
  go_enter Try.func9, Try.ntmps9
  go_wp2_with (go_at_call 20; refine (room_slice A l c w hr hlen).mono ?_; rintro e w1 ⟨A1, c1, rfl, hown1, hb1⟩)
  go_ret
  exact ⟨_, rfl, hb1.size, fun w'' hk => rdr_new_far hown1 w'' hk hb1.size, hb1.alloc hb1.size _, by simp⟩

/-- The reference's reader stays while another block is written. -/
theorem Ref.far {w w' : World} {g c i : Nat} {A : Option Addr} {l : List UInt8} {f : Int} {g' B : Nat} (h : Ref w g A c l i f) (hb : w.grownBy w' (some g')) (hne : g ≠ g') (hrd : Rd w B A l) (hB : B ≤ g') (hBw : B ≤ w.heap.size) (hBg : B ≤ g) : Ref w' g A c l i f :=
  ⟨h.1.same (hb.block g h.1.lt (by simpa using hne)), h.2.1, h.2.2.1, h.2.2.2.1,
    (hrd.keep fun p hp => World.cell?_of_block (hb.block p.block (Nat.lt_of_lt_of_le hp hBw) (by simp; omega))).more hBg⟩

/-- Takes as cells. -/
def tv (ts : List (Bool × Int)) : List Value := ts.flatMap fun t => [.bool t.1, .int .i64 t.2]
theorem tv_length (ts : List (Bool × Int)) : (tv ts).length = 2 * ts.length := by
  induction ts with
  | nil => rfl
  | cons t ts ih => simp [tv] at ih ⊢; omega
theorem tv_get0 : ∀ (ts : List (Bool × Int)) (k : Nat) (h : k < ts.length), (tv ts)[2 * k]? = some (.bool ts[k].1)
  | t :: ts, 0, _ => by simp [tv]
  | t :: ts, k + 1, h => by
    have := tv_get0 ts k (by simpa using h)
    simpa [tv, Nat.mul_add] using this
theorem tv_get1 : ∀ (ts : List (Bool × Int)) (k : Nat) (h : k < ts.length), (tv ts)[2 * k + 1]? = some (.int .i64 ts[k].2)
  | t :: ts, 0, _ => by simp [tv]
  | t :: ts, k + 1, h => by
    have := tv_get1 ts k (by simpa using h)
    simpa [tv, Nat.mul_add] using this
theorem at_t {w w' : World} {B : Nat} {A : Option Addr} {ts : List (Bool × Int)} (h : RdV w B A (tv ts)) (hb : Below B w w') {k : Nat} (hk : k < ts.length) :
    ∃ g off b m, A = some ⟨g, off, none⟩ ∧ g < B ∧ Hid ((b, m) = ts[k]) ∧ w'.cell? ⟨g, off + 2 * k, none⟩ = some (.bool b) ∧ w'.cell? ⟨g, off + (2 * k + 1), none⟩ = some (.int .i64 m) := by
  have hl := tv_length ts
  obtain ⟨g, off, e, hg, hc⟩ := h (by omega)
  refine ⟨g, off, ts[k].1, ts[k].2, e, hg, rfl, ?_, ?_⟩
  · rw [hb.cell (p := ⟨g, off + 2 * k, none⟩) hg, hc (2 * k) (by omega), ← tv_get0 ts k hk, List.getElem?_eq_getElem]
  · rw [hb.cell (p := ⟨g, off + (2 * k + 1), none⟩) hg, hc (2 * k + 1) (by omega), ← tv_get1 ts k hk, List.getElem?_eq_getElem]
end Go.Proofs.Ytcjhcapbmdiloaa
