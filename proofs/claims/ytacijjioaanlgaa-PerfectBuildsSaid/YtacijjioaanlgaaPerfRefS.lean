/- The reference's groups (package perfect): a row of slices, each of its own. No statement of the seat is proved here. -/
import Derived.Test.YtacijjioaanlgaaPerfRefP
namespace Go.Proofs.Ytacijjioaanlgaa
open Go.RowKit Go.Maps Go.Sort
set_option linter.unusedVariables false

theorem key_not_slice : (27 : TypeId) ≠ 31 := by decide
/-- The slices' cells. -/
def rgc (G : Nat) (ad : Nat → Option Addr) (cnt cp : Nat → Nat) : Array Value := ((List.range G).map fun i => Value.slice (ad i) (cnt i) (cp i)).toArray
theorem rgc_get {G i : Nat} (ad : Nat → Option Addr) (cnt cp : Nat → Nat) (h : i < G) : (rgc G ad cnt cp)[i]? = some (.slice (ad i) (cnt i) (cp i)) := by simp [rgc, h]
def upd {α : Type} (f : Nat → α) (p : Nat) (v : α) : Nat → α := fun i => if i = p then v else f i
theorem upd_same {α : Type} (f : Nat → α) (p : Nat) (v : α) : upd f p v p = v := by simp [upd]
theorem upd_other {α : Type} (f : Nat → α) {p i : Nat} (v : α) (h : i ≠ p) : upd f p v i = f i := by simp [upd, h]
theorem rgc_set {G p : Nat} (ad : Nat → Option Addr) (cnt cp : Nat → Nat) (a : Option Addr) (n c : Nat) : (rgc G ad cnt cp).setIfInBounds p (.slice a n c) = rgc G (upd ad p a) (upd cnt p n) (upd cp p c) := by
  apply Array.ext (by simp [rgc])
  intro i h1 h2
  have h3 : i < (rgc G ad cnt cp).size := by simpa using h1
  rw [Array.getElem_setIfInBounds h3]
  simp only [rgc, List.getElem_toArray, List.getElem_map, List.getElem_range]
  by_cases e : p = i
  · subst e; simp [upd_same]
  · rw [if_neg e, upd_other _ _ (fun h => e h.symm), upd_other _ _ (fun h => e h.symm), upd_other _ _ (fun h => e h.symm)]
theorem cntK_snoc {gf : KeyT → Nat} (l : List KeyT) {x : KeyT} {p : Nat} (hx : gf x = p) : cntK gf (l ++ [x]) = upd (cntK gf l) p (cntK gf l p + 1) := by
  funext i
  unfold cntK grpK
  rw [List.filter_append, List.length_append]
  by_cases e : i = p
  · subst e; rw [upd_same]; simp [hx]
  · rw [upd_other _ _ e]
    have : ¬ gf x = i := fun h => e (h.symm.trans hx)
    simp [this]
/-- In w the block ab holds the groups of the keys l; each is a slice of its own. -/
structure RG (w : World) (B ab G : Nat) (gf : KeyT → Nat) (l : List KeyT) (ad : Nat → Option Addr) (cp : Nat → Nat) : Prop where
  row : Blk w ab 31 (rgc G ad (cntK gf l) cp)
  own : ∀ i, i < G → OwnK w B (ad i) (cp i) (grpK gf l i)
  apart : ∀ i j, i < G → j < G → i ≠ j → ∀ b, ad i = some ⟨b, 0, none⟩ → ad j ≠ some ⟨b, 0, none⟩
section
variable {w w' : World} {B ab G : Nat} {gf : KeyT → Nat} {l : List KeyT} {ad : Nat → Option Addr} {cp : Nat → Nat}
theorem RG.on (h : RG w B ab G gf l ad cp) (hb : Below w.heap.size w w') : RG w' B ab G gf l ad cp := ⟨Blk.below h.row hb (Blk.lt h.row), fun i hi => ownsRow_below (h.own i hi) hb, h.apart⟩
theorem RG.start (h : Blk w ab 31 (rgc G (fun _ => none) (fun _ => 0) (fun _ => 0))) : RG w B ab G gf [] (fun _ => none) (fun _ => 0) :=
  ⟨h, fun i hi => World.ownsRow_nil _ _ _ _, fun i j hi hj _ b e => by cases e⟩
theorem RG.cell (h : RG w B ab G gf l ad cp) {i : Nat} (hi : i < G) : w.cell? ⟨ab, i, none⟩ = some (.slice (ad i) (cntK gf l i) (cp i)) := by
  rw [h.row.cell, rgc_get _ _ _ hi]
theorem own_not {w : World} {A : Option Addr} {c : Nat} {ks : List KeyT} {cs : Array Value} (ho : OwnK w B A c ks) (hr : Blk w ab 31 cs) : ∀ g, (Value.slice A ks.length c).ownBlock = some g → g ≠ ab := fun g hv e => by
  rcases ho.2 with ⟨hv2, _⟩ | ⟨g2, cp, cur, hv2, _, hh, _⟩
  · rw [hv2] at hv; cases hv
  · rw [hv2] at hv
    injection hv with hv
    have hv : g2 = g := hv
    subst hv
    subst e
    have hk : Blk w g2 27 cur := hh
    exact Blk.other hk hr key_not_slice rfl
/-- A key comes to its group. -/
theorem RG.push (h : RG w B ab G gf l ad cp) {x : KeyT} {p : Nat} (hp : p < G) (hx : gf x = p) {w1 : World} {gg cap : Nat} (hown : OwnK w1 B (some ⟨gg, 0, none⟩) cap (grpK gf l p ++ [x]))
    (hgr : w.grownBy w1 (Value.slice (ad p) (cntK gf l p) (cp p)).ownBlock) (hat : (Value.slice (ad p) (cntK gf l p) (cp p)).ownBlock = some gg ∨ w.heap.size ≤ gg) :
    RG (w1.setCell ⟨ab, p, none⟩ (.slice (some ⟨gg, 0, none⟩) (cntK gf l p + 1) cap)) B ab G gf (l ++ [x]) (upd ad p (some ⟨gg, 0, none⟩)) (upd cp p cap) := by
  have hfar : ∀ i, i < G → i ≠ p → ∀ b, ad i = some ⟨b, 0, none⟩ → some b ≠ (Value.slice (ad p) (cntK gf l p) (cp p)).ownBlock := fun i hi hne b hb e => by
    rcases (h.own p hp).2 with ⟨hv, _⟩ | ⟨g, cp', cur, hv, _⟩
    · injection hv with hv _ _
      rw [hv] at e; cases e
    · injection hv with hv _ _
      rw [hv] at e
      injection e with e
      subst e
      exact h.apart i p hi hp hne _ hb hv
  have hkeep : ∀ i, i < G → i ≠ p → OwnK w1 B (ad i) (cp i) (grpK gf l i) := fun i hi hne =>
    ownsRow_same (h.own i hi) fun g hv hl => hgr.block g hl (by
      rcases (h.own i hi).2 with ⟨hv2, _⟩ | ⟨g2, cp', cur, hv2, _⟩
      · rw [hv2] at hv; cases hv
      · injection hv2 with hv2 _ _
        rw [hv2] at hv
        injection hv with hv
        subst hv
        exact hfar i hi hne _ hv2)
  have hgbne : some ab ≠ (Value.slice (ad p) (cntK gf l p) (cp p)).ownBlock := fun e => own_not (h.own p hp) h.row ab e.symm rfl
  have hrow1 : Blk w1 ab 31 (rgc G ad (cntK gf l) cp) := Blk.same h.row (hgr.block ab (Blk.lt h.row) hgbne)
  have hsame : ∀ g, g ≠ ab → (w1.setCell ⟨ab, p, none⟩ (.slice (some ⟨gg, 0, none⟩) (cntK gf l p + 1) cap)).heap[g]? = w1.heap[g]? := fun g hg => setCell_block hg
  have hgrp : ∀ i, i ≠ p → grpK gf (l ++ [x]) i = grpK gf l i := fun i hi => by
    have : ¬ gf x = i := fun e => hi (e.symm.trans hx)
    simp [grpK, List.filter_append, this]
  have hgrp2 : grpK gf (l ++ [x]) p = grpK gf l p ++ [x] := by simp [grpK, List.filter_append, hx]
  refine ⟨?_, fun i hi => ?_, fun i j hi hj hne b => ?_⟩
  · have := Blk.set_ hrow1 p (.slice (some ⟨gg, 0, none⟩) (cntK gf l p + 1) cap)
    rw [rgc_set] at this
    rw [cntK_snoc l hx]
    exact this
  · by_cases e : i = p
    · subst e
      rw [upd_same, upd_same, hgrp2]
      exact ownsRow_same hown fun g hv _ => hsame g (own_not hown hrow1 g hv)
    · rw [upd_other _ _ e, upd_other _ _ e, hgrp i e]
      exact ownsRow_same (hkeep i hi e) fun g hv _ => hsame g (own_not (hkeep i hi e) hrow1 g hv)
  · have hgg : ∀ q, q < G → q ≠ p → ad q ≠ some ⟨gg, 0, none⟩ := fun q hq hqp e => by
      rcases hat with ha | ha
      · exact hfar q hq hqp gg e ha.symm
      · rcases (h.own q hq).2 with ⟨hv2, _⟩ | ⟨g2, cp', cur, hv2, _, hh, _⟩
        · injection hv2 with hv2 _ _
          rw [hv2] at e; cases e
        · injection hv2 with hv2 _ _
          rw [hv2] at e
          injection e with e
          injection e with e _ _
          subst e
          have := (Array.getElem?_eq_some_iff.1 hh).1
          omega
    by_cases e1 : i = p
    · subst e1
      rw [upd_same, upd_other _ _ (fun e => hne e.symm)]
      intro e h2
      injection e with e
      injection e with e _ _
      subst e
      exact hgg j hj (fun e => hne e.symm) h2
    · rw [upd_other _ _ e1]
      by_cases e2 : j = p
      · subst e2
        rw [upd_same]
        intro e h2
        injection h2 with h2
        injection h2 with h2 _ _
        subst h2
        exact hgg i hi e1 e
      · rw [upd_other _ _ e2]
        exact h.apart i j hi hj hne b
end
/-- The tries, as numbers of 64 bits. -/
def sdq (G : Nat) (s : BS) : Array Value := ((sdL G s).map fun d => Value.int .u64 (d : Nat)).toArray
theorem sdq_get {G i : Nat} (s : BS) (h : i < G) : (sdq G s)[i]? = some (.int .u64 (s.sd i : Nat)) := by
  rw [sdq, List.getElem?_toArray, List.getElem?_map, sdL_get s h]; rfl
theorem made_u64 (G : Nat) : madeCells #[.int .u64 0] G = sdq G startB := by
  apply Array.ext_getElem?
  intro j
  by_cases hj : j < G
  · rw [sdq_get _ hj, ← Array.getElem?_toList, toList_madeCells_one]
    simp [hj, startB]
  · rw [Array.getElem?_eq_none (by rw [size_madeCells]; omega), Array.getElem?_eq_none (by simp [sdq, sdL]; omega)]
theorem made_rows (G : Nat) : madeCells #[.slice none 0 0] G = rgc G (fun _ => none) (fun _ => 0) (fun _ => 0) := by
  apply Array.ext_getElem?
  intro j
  by_cases hj : j < G
  · rw [rgc_get _ _ _ hj, ← Array.getElem?_toList, toList_madeCells_one]
    simp [hj]
  · rw [Array.getElem?_eq_none (by rw [size_madeCells]; omega), Array.getElem?_eq_none (by simp [rgc]; omega)]
theorem rstart3 (w : World) (G : Nat) (cs : Array Value) :
    ∀ W, W = ((w.alloc (.cells (madeCells #[.int .u64 0] G) 22)).alloc (.cells cs 40)).alloc (.cells (madeCells #[.slice none 0 0] G) 31) →
      Blk W w.heap.size 22 (sdq G startB) ∧ Blk W (w.heap.size + 1) 40 cs ∧ Blk W (w.heap.size + 1 + 1) 31 (rgc G (fun _ => none) (fun _ => 0) (fun _ => 0)) ∧ Below w.heap.size w W := by
  intro W hW
  have n1 := Blk.new w 22 (madeCells #[.int .u64 0] G)
  have n2 := blk_at (w.alloc (.cells (madeCells #[.int .u64 0] G) 22)) 40 cs (g := w.heap.size + 1) (by simp)
  have n3 := blk_at ((w.alloc (.cells (madeCells #[.int .u64 0] G) 22)).alloc (.cells cs 40)) 31 (madeCells #[.slice none 0 0] G) (g := w.heap.size + 1 + 1) (by simp)
  have b1 := (Below.refl w.heap.size w).alloc (Nat.le_refl _) (.cells (madeCells #[.int .u64 0] G) 22)
  have b2 := b1.alloc b1.size (.cells cs 40)
  have b3 := b2.alloc b2.size (.cells (madeCells #[.slice none 0 0] G) 31)
  have c2 : ∀ (V : World) (o : Obj), Below V.heap.size V (V.alloc o) := fun V o => (Below.refl V.heap.size V).alloc (Nat.le_refl _) o
  have d2 := c2 (w.alloc (.cells (madeCells #[.int .u64 0] G) 22)) (.cells cs 40)
  have d3 := c2 ((w.alloc (.cells (madeCells #[.int .u64 0] G) 22)).alloc (.cells cs 40)) (.cells (madeCells #[.slice none 0 0] G) 31)
  rw [← hW] at n3 b3 d3
  have m1 := n1.below d2 n1.lt
  have m2 := m1.below d3 m1.lt
  rw [made_u64] at m2
  rw [made_rows] at n3
  exact ⟨m2, n2.below d3 n2.lt, n3, b3⟩
end Go.Proofs.Ytacijjioaanlgaa
