/- What the laws on filters lean on: bits that are there, loop variables of many cells. No statement of the seat is proved here. -/
import Derived.Test.YtjahlachoabmkaaBloomDo
import Derived.Test.YtjahlachoabmkaaBloomShown
namespace Go.Proofs.Ytjahlachoabmkaa
open Go.RowKit

/-- All bits of a key are there. -/
def had (n p : Nat) (S : Nat → Bool) (x : KeyT) : Prop := (spotsN n p (keyA x.1 x.2) (keyB x.1)).all S = true
theorem had_mono {n p : Nat} {S T : Nat → Bool} (h : ∀ q, S q = true → T q = true) {x : KeyT} (hx : had n p S x) : had n p T x := by
  unfold had at *
  rw [List.all_eq_true] at *
  exact fun q hq => h q (hx q hq)
theorem put_mono (S : Nat → Bool) (l : List Nat) (q : Nat) (h : S q = true) : putL S l q = true := by rw [putL_at, h]; simp
theorem had_put (n p : Nat) (S : Nat → Bool) (x : KeyT) : had n p (putL S (spotsN n p (keyA x.1 x.2) (keyB x.1))) x := by
  unfold had
  rw [List.all_eq_true]
  intro q hq
  rw [putL_at]
  simp [hq]
theorem act_mono {n p : Nat} {S : Nat → Bool} {a : ActT} (h : a.kind % 3 < 2) (q : Nat) (hq : S q = true) : actS n p S a q = true := by
  unfold actS
  split
  · exact put_mono S _ q hq
  · rw [if_pos (by omega)]
    show (S q || _) = true
    rw [hq]; rfl
/-- A box that is made and filled. -/
theorem setRow_alloc (w : World) (t : TypeId) (cs ds : Array Value) : (w.alloc (.cells cs t)).setRow w.heap.size ds = w.alloc (.cells ds t) := by
  have e : ∀ f : Obj → Obj, f (.cells cs t) = .cells ds t → (w.heap.push (.cells cs t)).modify w.heap.size f = w.heap.push (.cells ds t) := fun f hf => by
    apply Array.ext
    · simp
    · intro i h1 h2
      rw [Array.getElem_modify]
      by_cases e : w.heap.size = i
      · subst e
        simp [hf]
      · have hi : i < w.heap.size := by simp at h2; omega
        rw [if_neg e, Array.getElem_push_lt hi, Array.getElem_push_lt hi]
  unfold World.setRow
  show ({ (w.alloc (.cells cs t)) with heap := (w.heap.push (.cells cs t)).modify w.heap.size _ } : World) = _
  rw [e _ rfl]
  rfl
/-- An act of zeros. -/
abbrev az : Array Value := #[.int .u8 0, .int .u8 0, .int .u8 0, .int .u8 0, .int .u8 0, .int .u8 0, .int .u8 0, .int .u8 0, .int .u8 0, .int .u8 0, .int .u8 0, .int .u8 0, .int .u8 0, .int .u8 0, .int .u8 0, .int .u8 0, .int .u8 0, .int .u8 0, .int .u8 0, .int .u8 0, .int .u8 0, .int .u8 0, .int .u8 0, .int .u8 0, .int .u8 0, .int .u8 0, .int .u8 0, .int .u8 0, .int .u8 0, .int .u8 0, .int .u8 0, .int .u8 0, .int .u8 0, .int .u32 0, .slice none 0 0]
theorem kcs_one {k : KeyT} : (kcs k).toArray.all (·.oneCell') = true := by
  refine all_oneCell_toArray fun v hv => ?_
  rcases List.mem_append.1 hv with h | h
  · exact bv_oneCell _ v h
  · rw [List.mem_singleton.1 h]; rfl
theorem acs_one {a : ActT} : (acs a).toArray.all (·.oneCell') = true := by
  refine all_oneCell_toArray fun v hv => ?_
  rcases List.mem_cons.1 hv with rfl | hv
  · rfl
  · rcases List.mem_append.1 hv with h | h
    · rcases List.mem_append.1 h with h | h
      · exact bv_oneCell _ v h
      · rw [List.mem_singleton.1 h]; rfl
    · rw [List.mem_singleton.1 h]; rfl
end Go.Proofs.Ytjahlachoabmkaa
