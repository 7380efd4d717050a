/- Pairs in the order of their keys: the mathematics of package tree. No statement of the seat is proved here; nothing of the program is named. -/
import Derived.Test.YtiomfkhblmmdoaaMath
import Derived.Sort.Walk0
set_option linter.unusedVariables false
namespace Go.Proofs.Ytiomfkhblmmdoaa
open Go.Proofs
abbrev PT : Type := List UInt8 × List UInt8
theorem tx_irrefl (a : List UInt8) : ¬ a < a := List.lt_irrefl a
theorem tx_trans {a b c : List UInt8} (h1 : a < b) (h2 : b < c) : a < c := List.lt_trans h1 h2
theorem tx_total {a b : List UInt8} (h1 : ¬ a < b) (h2 : ¬ a = b) : b < a := by
  rcases Classical.em (b < a) with h | h
  · exact h
  · exact absurd (List.le_antisymm (List.not_lt.1 h) (List.not_lt.1 h1)) h2
theorem tx_asymm {a b : List UInt8} (h1 : a < b) : ¬ b < a := fun h2 => tx_irrefl a (tx_trans h1 h2)
theorem tx_ne {a b : List UInt8} (h1 : a < b) : a ≠ b := fun e => tx_irrefl a (by rw [← e] at h1; exact h1)

/-- Where a key stands, or would. -/
def posL : List PT → List UInt8 → Nat
  | [], _ => 0
  | p :: m, k => if p.1 < k then posL m k + 1 else 0
def getL : List PT → List UInt8 → Option (List UInt8)
  | [], _ => none
  | p :: m, k => if p.1 < k then getL m k else if p.1 = k then some p.2 else none
def putL : List PT → List UInt8 → List UInt8 → List PT
  | [], k, v => [(k, v)]
  | p :: m, k, v => if p.1 < k then p :: putL m k v else if p.1 = k then (k, v) :: m else (k, v) :: p :: m
def dropL : List PT → List UInt8 → List PT
  | [], _ => []
  | p :: m, k => if p.1 < k then p :: dropL m k else if p.1 = k then m else p :: m
def isL (m : List PT) (k : List UInt8) : Bool := (getL m k).isSome
def getE (m : List PT) (k : List UInt8) : List UInt8 × Bool := ((getL m k).getD [], isL m k)
def fromL (m : List PT) (k : List UInt8) (n : Int) : List PT := (m.drop (posL m k)).take n.toNat
def OrdL (m : List PT) : Prop := m.Pairwise fun a b => a.1 < b.1

/-! ### where a key stands -/
theorem pos_le : ∀ (m : List PT) (k : List UInt8), posL m k ≤ m.length
  | [], _ => Nat.le_refl _
  | p :: m, k => by
    rw [posL]
    split
    · exact Nat.succ_le_succ (pos_le m k)
    · exact Nat.zero_le _
theorem pos_below : ∀ (m : List PT) (k : List UInt8) (j : Nat) (hj : j < m.length), j < posL m k → m[j].1 < k
  | p :: m, k, j, hj, h => by
    rw [posL] at h
    split at h
    · rename_i hp
      cases j with
      | zero => exact hp
      | succ j => exact pos_below m k j (by simpa using hj) (by omega)
    · omega
theorem pos_at : ∀ (m : List PT) (k : List UInt8) (h : posL m k < m.length), ¬ m[posL m k].1 < k
  | p :: m, k, h => by
    by_cases hp : p.1 < k
    · have e : posL (p :: m) k = posL m k + 1 := by rw [posL, if_pos hp]
      simp only [e, List.getElem_cons_succ]
      exact pos_at m k (by rw [e] at h; simpa using h)
    · have e : posL (p :: m) k = 0 := by rw [posL, if_neg hp]
      simp only [e, List.getElem_cons_zero]
      exact hp
/-- A row's place tells itself: what stands ahead is less, what stands there is not. -/
theorem pos_of {m : List PT} {k : List UInt8} {i : Nat} (hi : i ≤ m.length) (h1 : ∀ j (hj : j < m.length), j < i → m[j].1 < k) (h2 : ∀ h : i < m.length, ¬ m[i].1 < k) : posL m k = i := by
  have hp := pos_le m k
  rcases Nat.lt_trichotomy (posL m k) i with h | h | h
  · exact absurd (h1 _ (by omega) h) (pos_at m k (by omega))
  · exact h
  · exact absurd (pos_below m k i (by omega) h) (h2 (by omega))
theorem pos_nil (m : List PT) : posL m [] = 0 := by
  cases m with
  | nil => rfl
  | cons p m => rw [posL, if_neg (List.not_lt_nil _)]
theorem get_pos : ∀ (m : List PT) (k : List UInt8), getL m k = if h : posL m k < m.length then (if m[posL m k].1 = k then some m[posL m k].2 else none) else none
  | [], k => by simp [getL]
  | p :: m, k => by
    rw [getL]
    by_cases hp : p.1 < k
    · have e : posL (p :: m) k = posL m k + 1 := by rw [posL, if_pos hp]
      simp only [e, if_pos hp, List.getElem_cons_succ, List.length_cons, Nat.succ_lt_succ_iff]
      rw [get_pos m k]
    · have e : posL (p :: m) k = 0 := by rw [posL, if_neg hp]
      simp only [e, if_neg hp, List.getElem_cons_zero, List.length_cons, Nat.zero_lt_succ, dite_true]
theorem is_pos (m : List PT) (k : List UInt8) : isL m k = true ↔ ∃ h : posL m k < m.length, m[posL m k].1 = k := by
  unfold isL
  rw [get_pos]
  split
  · rename_i h
    split
    · rename_i h2
      simp only [Option.isSome_some, true_iff]
      exact ⟨h, h2⟩
    · rename_i h2
      simp only [Option.isSome_none, Bool.false_eq_true, false_iff]
      rintro ⟨_, h3⟩
      exact h2 h3
  · rename_i h
    simp only [Option.isSome_none, Bool.false_eq_true, false_iff]
    rintro ⟨h3, _⟩
    exact h h3
theorem put_pos : ∀ (m : List PT) (k v : List UInt8), putL m k v = m.take (posL m k) ++ (k, v) :: m.drop (if isL m k = true then posL m k + 1 else posL m k)
  | [], k, v => by simp [putL, posL]
  | p :: m, k, v => by
    rw [putL]
    by_cases hp : p.1 < k
    · have e : posL (p :: m) k = posL m k + 1 := by rw [posL, if_pos hp]
      have ei : isL (p :: m) k = isL m k := by unfold isL; rw [getL, if_pos hp]
      rw [if_pos hp, e, ei, put_pos m k v, List.take_succ_cons, List.cons_append]
      split <;> rw [List.drop_succ_cons]
    · have e : posL (p :: m) k = 0 := by rw [posL, if_neg hp]
      rw [if_neg hp, e]
      by_cases hk : p.1 = k
      · have ei : isL (p :: m) k = true := by unfold isL; rw [getL, if_neg hp, if_pos hk]; rfl
        rw [if_pos hk, ei]
        rfl
      · have ei : isL (p :: m) k = false := by unfold isL; rw [getL, if_neg hp, if_neg hk]; rfl
        rw [if_neg hk, ei]
        rfl
theorem drop_pos : ∀ (m : List PT) (k : List UInt8), dropL m k = if isL m k = true then m.take (posL m k) ++ m.drop (posL m k + 1) else m
  | [], k => by simp [dropL]
  | p :: m, k => by
    rw [dropL]
    by_cases hp : p.1 < k
    · have e : posL (p :: m) k = posL m k + 1 := by rw [posL, if_pos hp]
      have ei : isL (p :: m) k = isL m k := by unfold isL; rw [getL, if_pos hp]
      rw [if_pos hp, e, ei, drop_pos m k]
      split
      · rw [List.take_succ_cons, List.cons_append, List.drop_succ_cons]
      · rfl
    · have e : posL (p :: m) k = 0 := by rw [posL, if_neg hp]
      rw [if_neg hp, e]
      by_cases hk : p.1 = k
      · have ei : isL (p :: m) k = true := by unfold isL; rw [getL, if_neg hp, if_pos hk]; rfl
        rw [if_pos hk, ei]
        rfl
      · have ei : isL (p :: m) k = false := by unfold isL; rw [getL, if_neg hp, if_neg hk]; rfl
        rw [if_neg hk, ei]
        rfl

/-! ### the order is kept -/
theorem put_mem {m : List PT} {k v : List UInt8} {x : PT} (h : x ∈ putL m k v) : x = (k, v) ∨ x ∈ m := by
  rw [put_pos] at h
  simp only [List.mem_append, List.mem_cons] at h
  rcases h with h | h | h
  · exact .inr (List.mem_of_mem_take h)
  · exact .inl h
  · exact .inr (List.mem_of_mem_drop h)
theorem drop_mem {m : List PT} {k : List UInt8} {x : PT} (h : x ∈ dropL m k) : x ∈ m := by
  rw [drop_pos] at h
  split at h
  · simp only [List.mem_append] at h
    rcases h with h | h
    · exact List.mem_of_mem_take h
    · exact List.mem_of_mem_drop h
  · exact h
theorem OrdL.put {k v : List UInt8} : ∀ {m : List PT}, OrdL m → OrdL (putL m k v)
  | [], _ => by simp [putL, OrdL]
  | p :: m, h => by
    have h' := List.pairwise_cons.1 h
    rw [putL]
    split
    · rename_i hp
      exact List.pairwise_cons.2 ⟨fun x hx => by
        rcases put_mem hx with rfl | hx
        · exact hp
        · exact h'.1 x hx, OrdL.put h'.2⟩
    · rename_i hp
      split
      · rename_i hk
        exact List.pairwise_cons.2 ⟨fun x hx => by
          show k < x.1
          rw [← hk]
          exact h'.1 x hx, h'.2⟩
      · rename_i hk
        have hlt := tx_total hp hk
        exact List.pairwise_cons.2 ⟨fun x hx => by
          rcases List.mem_cons.1 hx with rfl | hx
          · exact hlt
          · exact tx_trans hlt (h'.1 x hx), h⟩
theorem OrdL.drop {k : List UInt8} : ∀ {m : List PT}, OrdL m → OrdL (dropL m k)
  | [], _ => by simp [dropL, OrdL]
  | p :: m, h => by
    have h' := List.pairwise_cons.1 h
    rw [dropL]
    split
    · exact List.pairwise_cons.2 ⟨fun x hx => h'.1 x (drop_mem hx), OrdL.drop h'.2⟩
    · split
      · exact h'.2
      · exact h
theorem OrdL.lt {m : List PT} (h : OrdL m) {i j : Nat} (hi : i < m.length) (hj : j < m.length) (hij : i < j) : m[i].1 < m[j].1 := List.pairwise_iff_getElem.1 h i j hi hj hij
theorem OrdL.pos {m : List PT} (h : OrdL m) {j : Nat} (hj : j < m.length) : posL m m[j].1 = j :=
  pos_of (by omega) (fun i hi hij => h.lt hi hj hij) fun _ => tx_irrefl _

/-! ### what is found -/
theorem get_none : ∀ {m : List PT} {k : List UInt8}, (∀ p ∈ m, k < p.1) → getL m k = none
  | [], _, _ => rfl
  | p :: m, k, h => by
    have h1 := h p (by simp)
    rw [getL, if_neg (tx_asymm h1), if_neg (fun e => tx_ne h1 e.symm)]
theorem get_put : ∀ (m : List PT) (k v k' : List UInt8), getL (putL m k v) k' = if k' = k then some v else getL m k'
  | [], k, v, k' => by
    simp only [putL, getL]
    by_cases e : k' = k
    · subst e
      rw [if_neg (tx_irrefl _), if_pos rfl]
    · rw [if_neg e]
      split
      · rfl
      · rw [if_neg (fun h => e h.symm)]
  | p :: m, k, v, k' => by
    rw [putL]
    by_cases hp : p.1 < k
    · rw [if_pos hp, getL, getL, get_put m k v k']
      by_cases e : k' = k
      · subst e
        rw [if_pos rfl, if_pos hp, if_pos rfl]
      · rw [if_neg e, if_neg e]
    · rw [if_neg hp]
      by_cases hk : p.1 = k
      · rw [if_pos hk, getL, getL, hk]
        by_cases e : k' = k
        · subst e
          rw [if_neg (tx_irrefl _), if_pos rfl, if_pos rfl]
        · rw [if_neg e]
          split
          · rfl
          · rw [if_neg (fun h => e h.symm), if_neg (fun h => e h.symm)]
      · rw [if_neg hk, getL]
        have hlt := tx_total hp hk
        by_cases e : k' = k
        · subst e
          rw [if_neg (tx_irrefl _), if_pos rfl, if_pos rfl]
        · rw [if_neg e]
          by_cases h : k < k'
          · rw [if_pos h]
          · have h2 : k' < p.1 := tx_trans (tx_total h fun x => e x.symm) hlt
            rw [if_neg h, if_neg (fun x => e x.symm), getL, if_neg (tx_asymm h2), if_neg (fun x => tx_ne h2 x.symm)]
theorem get_drop : ∀ {m : List PT} (h : OrdL m) (k k' : List UInt8), getL (dropL m k) k' = if k' = k then none else getL m k'
  | [], _, k, k' => by simp [dropL, getL]
  | p :: m, h, k, k' => by
    have h' := List.pairwise_cons.1 h
    rw [dropL]
    by_cases hp : p.1 < k
    · rw [if_pos hp, getL, getL, get_drop h'.2 k k']
      by_cases e : k' = k
      · subst e
        rw [if_pos rfl, if_pos hp, if_pos rfl]
      · rw [if_neg e, if_neg e]
    · rw [if_neg hp]
      by_cases hk : p.1 = k
      · rw [if_pos hk]
        subst hk
        by_cases e : k' = p.1
        · rw [if_pos e, e]
          exact get_none h'.1
        · rw [if_neg e, getL]
          split
          · rfl
          · rename_i hn
            rw [if_neg (fun x => e x.symm)]
            exact get_none fun x hx => tx_trans (tx_total hn fun x => e x.symm) (h'.1 x hx)
      · rw [if_neg hk]
        by_cases e : k' = k
        · subst e
          rw [if_pos rfl, getL, if_neg hp, if_neg hk]
        · rw [if_neg e]
theorem get_mem : ∀ {m : List PT} {k v : List UInt8}, getL m k = some v → (k, v) ∈ m
  | p :: m, k, v, h => by
    rw [getL] at h
    split at h
    · exact List.mem_cons_of_mem _ (get_mem h)
    · split at h
      · rename_i hk
        injection h with h
        subst h
        subst hk
        exact List.mem_cons_self
      · cases h
theorem OrdL.get : ∀ {m : List PT} (h : OrdL m) {p : PT} (hp : p ∈ m), getL m p.1 = some p.2
  | q :: m, h, p, hp => by
    have h' := List.pairwise_cons.1 h
    rw [getL]
    rcases List.mem_cons.1 hp with rfl | hp
    · rw [if_neg (tx_irrefl _), if_pos rfl]
    · rw [if_pos (h'.1 p hp)]
      exact OrdL.get h'.2 hp
/-- What has the same keys and values is the same. -/
theorem ord_ext : ∀ {a b : List PT} (ha : OrdL a) (hb : OrdL b) (h : ∀ k, getL a k = getL b k), a = b
  | [], [], _, _, _ => rfl
  | [], q :: b, _, hb, h => by
    have h1 := h q.1
    rw [hb.get List.mem_cons_self] at h1
    cases h1
  | p :: a, [], ha, _, h => by
    have h1 := h p.1
    rw [ha.get List.mem_cons_self] at h1
    cases h1
  | p :: a, q :: b, ha, hb, h => by
    have ha' := List.pairwise_cons.1 ha
    have hb' := List.pairwise_cons.1 hb
    have e : p.1 = q.1 := by
      rcases Classical.em (p.1 < q.1) with h1 | h1
      · have h2 := h p.1
        rw [ha.get List.mem_cons_self, get_none (m := q :: b) (k := p.1) fun x hx => by
          rcases List.mem_cons.1 hx with rfl | hx
          · exact h1
          · exact tx_trans h1 (hb'.1 x hx)] at h2
        cases h2
      · rcases Classical.em (p.1 = q.1) with h2 | h2
        · exact h2
        · have h3 := tx_total h1 h2
          have h4 := h q.1
          rw [hb.get List.mem_cons_self, get_none (m := p :: a) (k := q.1) fun x hx => by
            rcases List.mem_cons.1 hx with rfl | hx
            · exact h3
            · exact tx_trans h3 (ha'.1 x hx)] at h4
          cases h4
    have e2 : p.2 = q.2 := by
      have h1 := h p.1
      rw [ha.get List.mem_cons_self, e, hb.get List.mem_cons_self] at h1
      injection h1
    have et : a = b := ord_ext ha'.2 hb'.2 fun k => by
      have h1 := h k
      rw [getL, getL, e] at h1
      by_cases hk : q.1 < k
      · rw [if_pos hk, if_pos hk] at h1
        exact h1
      · have hl : ∀ x, q.1 < x → k < x := fun x hx => by
          by_cases e3 : q.1 = k
          · rw [← e3]
            exact hx
          · exact tx_trans (tx_total hk e3) hx
        rw [get_none fun x hx => hl x.1 (e ▸ ha'.1 x hx), get_none fun x hx => hl x.1 (hb'.1 x hx)]
    rw [et, Prod.ext e e2]

/-! ### the laws of maps -/
theorem put_put {m : List PT} (h : OrdL m) (k v v' : List UInt8) : putL (putL m k v) k v' = putL m k v' := ord_ext h.put.put h.put fun x => by
  rw [get_put, get_put, get_put]
  split <;> rfl
theorem put_drop {m : List PT} (h : OrdL m) (k v : List UInt8) : dropL (putL m k v) k = dropL m k := ord_ext h.put.drop h.drop fun x => by
  rw [get_drop h.put, get_put, get_drop h]
  split <;> rfl
theorem put_comm {m : List PT} (h : OrdL m) (k v k' v' : List UInt8) (hk : k = k' → v = v') : putL (putL m k v) k' v' = putL (putL m k' v') k v := ord_ext h.put.put h.put.put fun x => by
  rw [get_put, get_put, get_put, get_put]
  by_cases h1 : x = k'
  · by_cases h2 : x = k
    · rw [if_pos h1, if_pos h2, hk (h2.symm.trans h1)]
    · rw [if_pos h1, if_neg h2, if_pos h1]
  · by_cases h2 : x = k
    · rw [if_neg h1, if_pos h2, if_pos h2]
    · rw [if_neg h1, if_neg h2, if_neg h2, if_neg h1]
theorem is_put (m : List PT) (k v : List UInt8) : isL (putL m k v) k = true := by
  unfold isL
  rw [get_put, if_pos rfl]
  rfl
theorem put_len (m : List PT) (k v : List UInt8) : (putL m k v).length ≤ m.length + 1 ∧ 1 ≤ (putL m k v).length := by
  have := pos_le m k
  rw [put_pos, List.length_append, List.length_cons, List.length_take, List.length_drop]
  split <;> omega
theorem drop_len (m : List PT) (k : List UInt8) : (dropL m k).length ≤ m.length := by
  have := pos_le m k
  rw [drop_pos]
  split
  · rw [List.length_append, List.length_take, List.length_drop]
    omega
  · exact Nat.le_refl _
theorem from_all (m : List PT) {n : Int} (h : (m.length : Int) ≤ n) : fromL m [] n = m := by
  unfold fromL
  rw [pos_nil, List.drop_zero, List.take_of_length_le (by omega)]
theorem from_big (m : List PT) (k : List UInt8) {n : Int} (h : (m.length : Int) ≤ n) : fromL m k n = m.drop (posL m k) := by
  unfold fromL
  rw [List.take_of_length_le (by rw [List.length_drop]; omega)]
/-- The pairs from one of them on. -/
theorem from_on {m : List PT} (h : OrdL m) (k : List UInt8) {j : Nat} (hj : j < (m.drop (posL m k)).length) {n : Int} (hn : (m.length : Int) ≤ n) : fromL m (m.drop (posL m k))[j].1 n = (m.drop (posL m k)).drop j := by
  rw [List.length_drop] at hj
  rw [from_big _ _ hn, List.getElem_drop, h.pos, List.drop_drop]

/-! ### what is put again in another order -/
def putsL (u : List PT) (l : List PT) : List PT := l.foldl (fun u p => putL u p.1 p.2) u
theorem OrdL.puts : ∀ {l u : List PT}, OrdL u → OrdL (putsL u l)
  | [], _, h => h
  | p :: l, u, h => OrdL.puts (l := l) (h.put (k := p.1) (v := p.2))
/-- All keys of u are keys of m. -/
def KeysIn (u m : List PT) : Prop := ∀ k, isL u k = true → isL m k = true
theorem KeysIn.nil (m : List PT) : KeysIn [] m := fun k h => by cases h
theorem KeysIn.put {u m : List PT} (h : KeysIn u m) {k v : List UInt8} (hk : isL m k = true) : KeysIn (putL u k v) m := fun x hx => by
  unfold isL at hx
  rw [get_put] at hx
  split at hx
  · rename_i e
    rw [e]
    exact hk
  · exact h x hx
theorem puts_back : ∀ {m : List PT} (hm : OrdL m) (u : List PT) (k : List UInt8), getL (putsL u m.reverse) k = (getL m k).or (getL u k)
  | [], _, u, k => rfl
  | p :: m, hm, u, k => by
    have hm' := List.pairwise_cons.1 hm
    have e : putsL u (p :: m).reverse = putL (putsL u m.reverse) p.1 p.2 := by
      unfold putsL
      rw [List.reverse_cons, List.foldl_append]
      rfl
    rw [e, get_put, puts_back hm'.2 u k, getL]
    by_cases h1 : k = p.1
    · rw [if_pos h1, h1, if_neg (tx_irrefl _), if_pos rfl]
      rfl
    · rw [if_neg h1]
      by_cases h2 : p.1 < k
      · rw [if_pos h2]
      · rw [if_neg h2, if_neg fun x => h1 x.symm, get_none fun x hx => tx_trans (tx_total h2 fun x => h1 x.symm) (hm'.1 x hx)]
theorem puts_all {m u : List PT} (hm : OrdL m) (hu : OrdL u) (h : KeysIn u m) : putsL u m.reverse = m := ord_ext hu.puts hm fun k => by
  rw [puts_back hm]
  cases hg : getL m k with
  | some v => rfl
  | none =>
    cases hu' : getL u k with
    | none => rfl
    | some v =>
      have := h k (by unfold isL; rw [hu']; rfl)
      unfold isL at this
      rw [hg] at this
      cases this
end Go.Proofs.Ytiomfkhblmmdoaa
