/- An act upon a space in a variable of its own; the rows of the places that are used. No statement of the seat is proved here. -/
import Derived.Test.YtlcbmpojigjjlaaSpcDo
import Derived.Test.YtlcbmpojigjjlaaSpcShown
namespace Go.Proofs.Ytlcbmpojigjjlaa
open Go.RowKit
set_option linter.unusedVariables false

/-- A box that is made and filled. -/
theorem setRow_new (w : World) (t : TypeId) (cs ds : Array Value) : (w.alloc (.cells cs t)).setRow w.heap.size ds = w.alloc (.cells ds t) := by
  have e : ∀ f : Obj → Obj, f (.cells cs t) = .cells ds t → (w.heap.push (.cells cs t)).modify w.heap.size f = w.heap.push (.cells ds t) := fun f hf => by
    apply Array.ext
    · simp
    · intro i h1 h2
      rw [Array.getElem_modify]
      by_cases e : w.heap.size = i
      · subst e
        simp [hf]
      · have hi : i < w.heap.size := by simp at h2; omega
        rw [if_neg e, Array.getElem_push_lt hi, Array.getElem_push_lt hi]
  unfold World.setRow
  show ({ (w.alloc (.cells cs t)) with heap := (w.heap.push (.cells cs t)).modify w.heap.size _ } : World) = _
  rw [e _ rfl]
  rfl
abbrev pdz : Array Value := #[.int .u8 0, .int .i64 0]
theorem pcs_one (a : PActT) : (pcsA a).toArray.all (·.oneCell') = true := by simp [pcsA]; exact ⟨rfl, rfl⟩
theorem pact_box (w : World) (a : PActT) : ∃ w1 ab, w.alloc (.cells (pcsA a).toArray 33) = w1 ∧ w.heap.size = ab ∧ Below w.heap.size w w1 ∧ Blk w1 ab 33 (pcsA a).toArray :=
  ⟨_, _, rfl, rfl, (Below.refl _ _).alloc (Nat.le_refl _) _, Blk.new w _ _⟩
theorem RdP.get {w wr : World} {A : Option Addr} {ls : List PActT} (h : RdP w w.heap.size A ls) (hb : Below w.heap.size w wr) {j : Nat} (hj : j < ls.length) :
    ∃ g off a, A = some ⟨g, off, none⟩ ∧ wr.rangeAt g (off + j * 2) (pcsA a) ∧ a.Ok ∧ ls[j] = a := by
  obtain ⟨g, off, e, _, hra, hok⟩ := (h.below hb).at_ hj
  exact ⟨g, off, _, e, hra, hok, rfl⟩
/-- What the act's load and store ask for. -/
theorem pact_facts (a : PActT) : (Try.prog.info? 33).map (·.size) = some (pcsA a).length ∧ (Try.prog.info? 33).map (·.size) = some (pcsA a).toArray.size ∧ pdz.size = (pcsA a).toArray.size ∧ (pcsA a).toArray.all (·.oneCell') = true :=
  ⟨pact_size, pact_size, rfl, pcs_one a⟩
/-- A number of a row of the call's own. -/
theorem int_at {w : World} {b n c : Nat} {e : TypeId} {A : Option Addr} {l : List Int} (h : w.ownsRow b e 1 (.slice A n c) n (iv l)) {k : Nat} (hk : k < n) : ∃ g, A = some ⟨g, 0, none⟩ ∧ g < w.heap.size ∧ ∃ x, l[k]? = some x ∧ w.cell? ⟨g, k, none⟩ = some (.int .i64 x) := by
  obtain ⟨g, hA, _, hlt, hr⟩ := row_at h (by omega)
  have hl : l.length = n := by have := h.1; rw [iv_length] at this; omega
  refine ⟨g, hA, hlt, l[k], List.getElem?_eq_getElem (by omega), ?_⟩
  exact (hr k _ (iv_get (by omega))).1
/-! ### What is taken is the least -/
theorem allF_split (S : Nat → Bool) (a b : Nat) : allF S (a + b) = allF S a ++ ((List.range b).map (a + ·)).filter S := by
  unfold allF
  rw [List.range_add, List.filter_append]
theorem allF_up {S : Nat → Bool} {k : Nat} (h : ∀ i, i < k → S i = true) : allF S k = List.range k := by
  unfold allF
  exact List.filter_eq_self.2 fun x hx => h x (List.mem_range.1 hx)
theorem allF_take {S : Nat → Bool} {m : Nat} (h : leastF S m < m) : ∃ R, allF S m = List.range (leastF S m) ++ R ∧ allF (put1 S (leastF S m)) m = List.range (leastF S m + 1) ++ R := by
  obtain ⟨h1, h2, h3⟩ := leastF_spec S m
  have h4 := h3 h
  clear h3
  obtain ⟨k, hk⟩ : ∃ k, leastF S m = k := ⟨_, rfl⟩
  rw [hk] at h h2 h4 ⊢
  obtain ⟨r, hr⟩ : ∃ r, m = (k + 1) + r := ⟨m - (k + 1), by omega⟩
  subst hr
  refine ⟨((List.range r).map (k + 1 + ·)).filter S, ?_, ?_⟩
  · rw [allF_split, allF_succ, allF_up h2, h4]
    simp
  · rw [allF_split]
    congr 1
    · exact allF_up fun i hi => by
        show (i == k || S i) = true
        by_cases e : i = k
        · simp [e]
        · rw [h2 i (by omega)]; simp
    · apply List.filter_congr
      intro x hx
      obtain ⟨y, _, rfl⟩ := List.mem_map.1 hx
      show (k + 1 + y == k || S (k + 1 + y)) = S (k + 1 + y)
      have : (k + 1 + y == k) = false := by simp; omega
      rw [this, Bool.false_or]
theorem allF_full {S : Nat → Bool} {m : Nat} (h : ¬ leastF S m < m) : (allF S m).length = m := by
  obtain ⟨h1, h2, _⟩ := leastF_spec S m
  have e : leastF S m = m := by omega
  rw [e] at h2
  rw [allF_up h2, List.length_range]
end Go.Proofs.Ytlcbmpojigjjlaa
