/- Four filters. No statement of the seat is proved here. -/
import Derived.Test.YtjahlachoabmkaaBloomFil
import Derived.Test.YtjahlachoabmkaaHeldKit
import Derived.StillTailTactics
namespace Go.Proofs.Ytjahlachoabmkaa
open Go.RowKit

def up (L : Fin 4 → List KeyT) (i : Fin 4) (X : List KeyT) : Fin 4 → List KeyT := fun j => if j = i then X else L j
/-- Four filters of the same numbers, whose bits are those of the keys, in an array of pointers. -/
structure Four (w : World) (B b n p : Nat) (v g : Fin 4 → Nat) (L : Fin 4 → List KeyT) : Prop where
  vec : ∀ i, Vec w (v i) (g i) n p (fil n p (L i))
  inj : ∀ i j, i ≠ j → g i ≠ g j
  blk : Blk w b 52 #[.pointer (some ⟨v 0, 0, none⟩), .pointer (some ⟨v 1, 0, none⟩), .pointer (some ⟨v 2, 0, none⟩), .pointer (some ⟨v 3, 0, none⟩)]
  le : ∀ i, B ≤ g i
section
variable {w w' : World} {B b n p : Nat} {v g : Fin 4 → Nat} {L : Fin 4 → List KeyT}
theorem Four.drew (h : Four w B b n p v g L) : Four w.drew B b n p v g L := ⟨fun i => (h.vec i).same rfl rfl, h.inj, h.blk.same rfl, h.le⟩
theorem Four.on (h : Four w B b n p v g L) (hb : Below w.heap.size w w') : Four w' B b n p v g L := ⟨fun i => (h.vec i).on hb, h.inj, h.blk.below hb h.blk.lt, h.le⟩
theorem Four.put (h : Four w B b n p v g L) (i : Fin 4) (X : List KeyT) (hv : Vec w' (v i) (g i) n p (fil n p X)) (hg : w.grownBy w' (some (g i))) : Four w' B b n p v g (up L i X) := by
  refine ⟨fun j => ?_, h.inj, h.blk.same (hg.block b h.blk.lt (fun e => h.blk.other (h.vec i).gb (by decide) (by injection e))), h.le⟩
  by_cases e : j = i
  · subst e
    simp only [up, if_true]; exact hv
  · simp only [up, if_neg e]
    exact (h.vec j).grown hg ((h.vec j).vb.other (h.vec i).gb (by decide)) (h.inj j i e)
theorem Four.add (h : Four w B b n p v g L) (i : Fin 4) {x : KeyT} (hx : x.Ok) :
    Calls Try.prog 19 #[.pointer (some ⟨v i, 0, none⟩), .agg (kcs x).toArray] w fun e w' => (∃ y, e = .returned y) ∧ Four w' B b n p v g (up L i (L i ++ [x])) ∧ w.grownBy w' (some (g i)) :=
  (add_ok (v i) (g i) n p _ (kcs x).toArray x.1 x.2 (kcs_ok hx) w (h.vec i)).mono fun e w' ⟨he, hv, hg⟩ => ⟨he, h.put i _ (by rw [fil_put] at hv; exact hv) hg, hg⟩
theorem Four.cells (h : Four w B b n p v g L) : w.cell? ⟨b, 0, none⟩ = some (.pointer (some ⟨v 0, 0, none⟩)) ∧ w.cell? ⟨b, 1, none⟩ = some (.pointer (some ⟨v 1, 0, none⟩)) ∧ w.cell? ⟨b, 2, none⟩ = some (.pointer (some ⟨v 2, 0, none⟩)) ∧ w.cell? ⟨b, 3, none⟩ = some (.pointer (some ⟨v 3, 0, none⟩)) :=
  ⟨h.blk.cell 0, h.blk.cell 1, h.blk.cell 2, h.blk.cell 3⟩
theorem Four.bel {w0 : World} {B0 : Nat} {i : Fin 4} (h : Four w B b n p v g L) (hb : Below B0 w0 w) (hg : w.grownBy w' (some (g i))) (hB : B0 ≤ B) (h0 : B0 ≤ w.heap.size) : Below B0 w0 w' :=
  hb.grown hg h0 (fun k e => by injection e with e; have := h.le i; omega)
end
/-- The bytes of a filter, told from a base world: what they read as, in every world behind. -/
theorem told_bytes {w W : World} {v g n p m : Nat} {S : Nat → Bool} (h : Vec w v g n p S) (hW : Below w.heap.size w W) (hm : (n + 7) / 8 = m) :
    Calls Try.prog 17 #[.pointer (some ⟨v, 0, none⟩)] W fun e W' => ∃ A c, e = .returned (.slice A m c) ∧ (∀ X, Below W'.heap.size W' X → (convert 37 9 (.slice A m c)).run Try.prog X = .ok (.string ⟨(pk n S).toArray⟩) X) ∧ Below w.heap.size w W' ∧ Below W.heap.size W W' :=
  (bytes_ok v g n p S W (h.on hW)).mono fun e W' ⟨A, c, he, ho, hb⟩ => by
    rw [hm] at he ho
    exact ⟨A, c, he, fun X hX => str_of (ownsRow_below ho hX) (by rw [pk_length, hm]), hW.trans (hb.mono hW.size), hb⟩
theorem told_row {w W : World} {v g n p m : Nat} {S : Nat → Bool} (h : Vec w v g n p S) (hW : Below w.heap.size w W) (hm : (n + 7) / 8 = m) :
    Calls Try.prog 17 #[.pointer (some ⟨v, 0, none⟩)] W fun e W' => ∃ A c, e = .returned (.slice A m c) ∧ W'.ownsRow w.heap.size 5 1 (.slice A m c) m (bv (pk n S)) ∧ Below w.heap.size w W' :=
  (bytes_ok v g n p S W (h.on hW)).mono fun e W' ⟨A, c, he, ho, hb⟩ => by
    rw [hm] at he ho
    exact ⟨A, c, he, ownsRow_base ho hW.size, hW.trans (hb.mono hW.size)⟩
theorem held_cells {w w' : World} {B b n p : Nat} {v g : Fin 4 → Nat} {L : Fin 4 → List KeyT} (h : Four w B b n p v g L) (hg : w.grownBy w' (some (g 2))) :
    w'.cell? ⟨b, 2, none⟩ = some (.pointer (some ⟨v 2, 0, none⟩)) ∧ w'.cell? ⟨b, 3, none⟩ = some (.pointer (some ⟨v 3, 0, none⟩)) := by
  have := h.blk.same (hg.block b h.blk.lt (fun e => h.blk.other (h.vec 2).gb (by decide) (by injection e)))
  exact ⟨this.cell 2, this.cell 3⟩
/-- What the four filters have behind j keys. -/
structure OrderOk (xs : List KeyT) (j : Nat) (L : Fin 4 → List KeyT) : Prop where
  a : L 0 = xs.take j
  b : ∀ x ∈ L 1, x ∈ xs
  c : ∀ t, t < j → ∀ x, xs[xs.length - 1 - t]? = some x → x ∈ L 1
  d : ∀ x, x ∈ xs.take j ↔ x ∈ L 2 ∨ x ∈ L 3
theorem OrderOk.start (xs : List KeyT) : OrderOk xs 0 (fun _ => []) := ⟨by simp, by simp, fun t h => by omega, by simp⟩
theorem OrderOk.step {xs : List KeyT} {j : Nat} {L : Fin 4 → List KeyT} (h : OrderOk xs j L) (hj : j < xs.length) {x y z : KeyT} (hx : xs[j]? = some x) (hy : xs[xs.length - 1 - j]? = some y) (hz : xs[0]? = some z) (i : Fin 4) (hi : i = 2 ∨ i = 3)
    {L1 L2 L3 L4 : Fin 4 → List KeyT} (e1 : L1 = up L 0 (L 0 ++ [x])) (e2 : L2 = up L1 1 (L1 1 ++ [y])) (e3 : L3 = up L2 1 (L2 1 ++ [z])) (e4 : L4 = up L3 i (L3 i ++ [x])) : OrderOk xs (j + 1) L4 := by
  have htk : xs.take (j + 1) = xs.take j ++ [x] := by
    rw [List.take_succ_eq_append_getElem hj]
    rw [List.getElem?_eq_getElem hj] at hx
    injection hx with hx
    rw [hx]
  have m0 : L4 0 = L 0 ++ [x] := by rcases hi with rfl | rfl <;> rw [e4, e3, e2, e1] <;> rfl
  have m1 : L4 1 = L 1 ++ [y] ++ [z] := by rcases hi with rfl | rfl <;> rw [e4, e3, e2, e1] <;> rfl
  have m23 : ∀ u, (u ∈ L4 2 ∨ u ∈ L4 3) ↔ (u ∈ L 2 ∨ u ∈ L 3) ∨ u = x := fun u => by
    rcases hi with rfl | rfl
    · have q2 : L4 2 = L 2 ++ [x] := by rw [e4, e3, e2, e1]; rfl
      have q3 : L4 3 = L 3 := by rw [e4, e3, e2, e1]; rfl
      rw [q2, q3, List.mem_append, List.mem_singleton]
      exact ⟨fun h => by rcases h with (h | h) | h <;> simp [h], fun h => by rcases h with (h | h) | h <;> simp [h]⟩
    · have q2 : L4 2 = L 2 := by rw [e4, e3, e2, e1]; rfl
      have q3 : L4 3 = L 3 ++ [x] := by rw [e4, e3, e2, e1]; rfl
      rw [q2, q3, List.mem_append, List.mem_singleton]
      exact ⟨fun h => by rcases h with h | h | h <;> simp [h], fun h => by rcases h with (h | h) | h <;> simp [h]⟩
  refine ⟨by rw [m0, h.a, htk], fun u hu => ?_, fun t ht u hu => ?_, fun u => ?_⟩
  · rw [m1] at hu
    rcases List.mem_append.1 hu with hu | hu
    · rcases List.mem_append.1 hu with hu | hu
      · exact h.b u hu
      · rw [List.mem_singleton.1 hu]; exact List.mem_of_getElem? hy
    · rw [List.mem_singleton.1 hu]; exact List.mem_of_getElem? hz
  · rw [m1]
    by_cases e : t = j
    · subst e
      rw [hy] at hu
      injection hu with hu
      simp [hu]
    · simp [h.c t (by omega) u hu]
  · rw [htk, List.mem_append, List.mem_singleton, m23, h.d u]
theorem OrderOk.ends {xs : List KeyT} {L : Fin 4 → List KeyT} (n p : Nat) (h : OrderOk xs xs.length L) : fil n p (L 0) = fil n p xs ∧ fil n p (L 1) = fil n p xs ∧ pk n (orS (fil n p (L 2)) (pk n (fil n p (L 3)))) = pk n (fil n p xs) := by
  have ht : xs.take xs.length = xs := List.take_length
  refine ⟨by rw [h.a, ht], fil_congr fun x => ⟨h.b x, fun hx => ?_⟩, fil_or fun x => ?_⟩
  · obtain ⟨k, hk, e⟩ := List.getElem_of_mem hx
    refine h.c (xs.length - 1 - k) (by omega) x ?_
    rw [show xs.length - 1 - (xs.length - 1 - k) = k by omega, List.getElem?_eq_getElem hk, e]
  · have := h.d x
    rw [ht] at this
    exact this
/-- The array with the first filters. -/
def ptrs (l : List (Nat × Nat)) : Array Value := (List.map (fun f : Nat × Nat => Value.pointer (some ⟨f.1, 0, none⟩)) l ++ List.replicate (4 - l.length) (Value.pointer none)).toArray
theorem ptrs_at {l : List (Nat × Nat)} (h : l.length < 4) : (ptrs l)[l.length]? = some (.pointer none) := by
  obtain ⟨q, hq⟩ : ∃ q, 4 - l.length = q + 1 := ⟨4 - l.length - 1, by omega⟩
  unfold ptrs
  rw [List.getElem?_toArray, List.getElem?_append_right (by simp), hq]
  simp
theorem ptrs_set {l : List (Nat × Nat)} (h : l.length < 4) (f : Nat × Nat) : (ptrs l).setIfInBounds l.length (.pointer (some ⟨f.1, 0, none⟩)) = ptrs (l ++ [f]) := by
  obtain ⟨q, hq⟩ : ∃ q, 4 - l.length = q + 1 := ⟨4 - l.length - 1, by omega⟩
  have hq2 : 4 - (l.length + 1) = q := by omega
  unfold ptrs
  rw [← Array.toList_inj, Array.toList_setIfInBounds, hq, List.set_append_right _ _ (by simp)]
  simp [List.replicate_succ, hq2]
structure Few (w : World) (B b n p : Nat) (l : List (Nat × Nat)) : Prop where
  vec : ∀ f ∈ l, Vec w f.1 f.2 n p (fun _ => false)
  inj : (l.map (·.2)).Pairwise (· ≠ ·)
  blk : Blk w b 52 (ptrs l)
  le : ∀ f ∈ l, B ≤ f.2
theorem Few.on {w w' : World} {B b n p : Nat} {l : List (Nat × Nat)} (h : Few w B b n p l) (hb : Below w.heap.size w w') : Few w' B b n p l := ⟨fun f hf => (h.vec f hf).on hb, h.inj, h.blk.below hb h.blk.lt, h.le⟩
theorem Few.push {w w' : World} {B b n p v g : Nat} {l : List (Nat × Nat)} (h : Few w B b n p l) (hb : Below w.heap.size w w') (hl : l.length < 4) (hv : Vec w' v g n p (fun _ => false)) (hg : w.heap.size ≤ g) (hB : B ≤ g) :
    Few (w'.setCell ⟨b, l.length, none⟩ (.pointer (some ⟨v, 0, none⟩))) B b n p (l ++ [(v, g)]) := by
  have h' := h.on hb
  have keep : ∀ {v g : Nat}, Vec w' v g n p (fun _ => false) → Vec (w'.setCell ⟨b, l.length, none⟩ (.pointer (some ⟨v, 0, none⟩))) v g n p (fun _ => false) := fun hv => hv.grown (grownBy_cell w' b l.length _) (hv.vb.other h'.blk (by decide)) (hv.gb.other h'.blk (by decide))
  have keep2 : ∀ {v' g' : Nat}, Vec w' v' g' n p (fun _ => false) → Vec (w'.setCell ⟨b, l.length, none⟩ (.pointer (some ⟨v, 0, none⟩))) v' g' n p (fun _ => false) := fun hv => hv.grown (grownBy_cell w' b l.length _) (hv.vb.other h'.blk (by decide)) (hv.gb.other h'.blk (by decide))
  refine ⟨fun f hf => ?_, ?_, ?_, fun f hf => ?_⟩
  · rcases List.mem_append.1 hf with hf | hf
    · exact keep2 (h'.vec f hf)
    · rw [List.mem_singleton.1 hf]; exact keep hv
  · rw [List.map_append, List.pairwise_append]
    refine ⟨h.inj, by simp, fun x hx y hy => ?_⟩
    obtain ⟨f, hf, rfl⟩ := List.mem_map.1 hx
    simp at hy
    subst hy
    have := (h.vec f hf).gb.lt
    omega
  · rw [← ptrs_set hl (v, g)]
    exact h'.blk.set_ _ _
  · rcases List.mem_append.1 hf with hf | hf
    · exact h.le f hf
    · rw [List.mem_singleton.1 hf]; exact hB
theorem Few.four {w : World} {B b n p : Nat} {l : List (Nat × Nat)} (h : Few w B b n p l) (hl : l.length = 4) : ∃ v g : Fin 4 → Nat, Four w B b n p v g (fun _ => []) := by
  match l, hl with
  | [f0, f1, f2, f3], _ =>
    obtain ⟨hv, hi, hb, hB⟩ := h
    simp only [List.map_cons, List.map_nil, List.pairwise_cons, List.mem_cons, List.not_mem_nil, or_false, forall_eq_or_imp, forall_eq] at hi
    obtain ⟨⟨i1, i2, i3⟩, ⟨i4, i5⟩, i6, _⟩ := hi
    refine ⟨fun i => [f0.1, f1.1, f2.1, f3.1][i], fun i => [f0.2, f1.2, f2.2, f3.2][i], ⟨fun i => ?_, fun i j hij => ?_, (show Blk w b 52 #[.pointer (some ⟨f0.1, 0, none⟩), .pointer (some ⟨f1.1, 0, none⟩), .pointer (some ⟨f2.1, 0, none⟩), .pointer (some ⟨f3.1, 0, none⟩)] from hb), fun i => ?_⟩⟩
    · match i with
      | 0 => exact hv f0 (by simp)
      | 1 => exact hv f1 (by simp)
      | 2 => exact hv f2 (by simp)
      | 3 => exact hv f3 (by simp)
    · match i, j with
      | 0, 0 | 1, 1 | 2, 2 | 3, 3 => exact absurd rfl hij
      | 0, 1 => exact i1
      | 0, 2 => exact i2
      | 0, 3 => exact i3
      | 1, 2 => exact i4
      | 1, 3 => exact i5
      | 2, 3 => exact i6
      | 1, 0 => exact Ne.symm i1
      | 2, 0 => exact Ne.symm i2
      | 3, 0 => exact Ne.symm i3
      | 2, 1 => exact Ne.symm i4
      | 3, 1 => exact Ne.symm i5
      | 3, 2 => exact Ne.symm i6
    · match i with
      | 0 => exact hB f0 (by simp)
      | 1 => exact hB f1 (by simp)
      | 2 => exact hB f2 (by simp)
      | 3 => exact hB f3 (by simp)
end Go.Proofs.Ytjahlachoabmkaa
