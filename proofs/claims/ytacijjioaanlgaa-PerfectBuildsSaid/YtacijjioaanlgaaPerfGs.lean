/- The loops of groups of package perfect. No statement of the seat is proved here. -/
import Derived.Test.YtacijjioaanlgaaPerfGrp
import Derived.Test.YtacijjioaanlgaaPerfPlace
import Derived.Test.YtacijjioaanlgaaHeldKit
import Derived.Maps.AppendAt
import Derived.Deep.AppendLies
import Derived.Laws.MakeOwn
namespace Go.Proofs.Ytacijjioaanlgaa
open Go.RowKit Go.Sort
set_option linter.unusedVariables false

theorem info_key : (Try.prog.info? 27).map (fun i => (i.zero, i.size, i.bytes)) = some (some (.agg (kz 0)), 33, 36) := by kernel_rfl
theorem info_group : (Try.prog.info? 60).map (fun i => (i.zero, i.size, i.bytes)) = some (some (.agg #[.int .i64 0, .slice none 0 0]), 2, 32) := by kernel_rfl
theorem flat_kcs {l : List KeyT} (h : ∀ k ∈ l, k.Ok) : (l.flatMap kcs).length = l.length * 33 := by
  induction l with
  | nil => rfl
  | cons k l ih =>
    rw [List.flatMap_cons, List.length_append, kcs_length (h k (by simp)), ih fun x hx => h x (by simp [hx]), List.length_cons]; omega
theorem flat_at {l : List KeyT} (h : ∀ k ∈ l, k.Ok) {j : Nat} (hj : j < l.length) (i : Nat) (hi : i < 33) : (l.flatMap kcs)[j * 33 + i]? = (kcs l[j])[i]? := by
  induction l generalizing j with
  | nil => simp at hj
  | cons k l ih =>
    rw [List.flatMap_cons]
    cases j with
    | zero =>
      rw [Nat.zero_mul, Nat.zero_add, List.getElem?_append_left (by rw [kcs_length (h k (by simp))]; exact hi)]
      rfl
    | succ j =>
      rw [List.getElem?_append_right (by rw [kcs_length (h k (by simp))]; omega), kcs_length (h k (by simp)), show (j + 1) * 33 + i - 33 = j * 33 + i by omega]
      exact ih (fun x hx => h x (by simp [hx])) (by simpa using hj)
theorem RdK.flat {w : World} {B : Nat} {A : Option Addr} {l : List KeyT} (h : RdK w B A l) (h0 : 0 < l.length) :
    ∃ b off, A = some ⟨b, off, none⟩ ∧ b < B ∧ ∀ j u, (l.flatMap kcs)[j]? = some u → w.cell? ((⟨b, off, none⟩ : Addr).add j) = some u := by
  obtain ⟨b, off, e, hb, hc⟩ := h.rows (by simpa using h0)
  refine ⟨b, off, e, hb, fun j u hu => ?_⟩
  have hj : j < l.length * 33 := by have := (List.getElem?_eq_some_iff.1 hu).1; rwa [flat_kcs h.each] at this
  have hj2 : j / 33 < l.length := by omega
  have h1 := flat_at h.each hj2 (j % 33) (by omega)
  rw [show j / 33 * 33 + j % 33 = j by omega, hu] at h1
  have h2 := hc (j / 33) (by simpa using hj2) (j % 33) u (by rw [List.getElem_map]; exact h1.symm)
  rw [Addr.add_lit]
  rw [show off + j / 33 * 33 + j % 33 = off + j by omega] at h2
  exact h2
/-- A slice of keys of the call's own. -/
abbrev OwnK (w : World) (B : Nat) (A : Option Addr) (c : Nat) (l : List KeyT) : Prop := w.ownsRow B 27 33 (.slice A l.length c) l.length (l.flatMap kcs)
theorem OwnK.rd {w : World} {B c : Nat} {A : Option Addr} {l : List KeyT} (h : OwnK w B A c l) (ho : ∀ k ∈ l, k.Ok) : RdK w w.heap.size A l := by
  refine ⟨fun hn => ?_, ho⟩
  have hn' : 0 < l.length := by simpa using hn
  rcases h.2 with ⟨_, h0⟩ | ⟨g, cap, cur, hv, _, hh, hnc, _, hcs, ht⟩
  · omega
  · injection hv with hA _ _
    refine ⟨g, 0, hA, (Array.getElem?_eq_some_iff.1 hh).1, fun j hj i v hv => ?_⟩
    have hj' : j < l.length := by simpa using hj
    rw [List.getElem_map] at hv
    have hi : i < 33 := by
      have := (List.getElem?_eq_some_iff.1 hv).1
      rw [kcs_length (ho _ (List.getElem_mem hj'))] at this; exact this
    have h1 := flat_at ho hj' i hi
    rw [hv, ← ht, List.getElem?_take] at h1
    split at h1
    · rw [Nat.zero_add, cell_of_row w g (j * 33 + i) cur _ (0, 0) hh]
      simpa using h1
    · cases h1
/-- In w the block gb holds the groups of the keys l; each has a slice of its own. -/
structure GS (w : World) (B gb G : Nat) (gf : KeyT → Nat) (l : List KeyT) (d : Array GT) : Prop where
  row : GRow w gb d
  size : d.size = G
  idx : ∀ i, i < G → d[i]!.idx = i
  keys : ∀ i, i < G → d[i]!.keys = l.filter fun k => decide (gf k = i)
  own : ∀ i, i < G → OwnK w B d[i]!.adr d[i]!.cap d[i]!.keys
  apart : ∀ i j, i < G → j < G → i ≠ j → ∀ b, d[i]!.adr = some ⟨b, 0, none⟩ → d[j]!.adr ≠ some ⟨b, 0, none⟩
/-- The groups, of which the first j have their index. -/
def rowI (G j : Nat) : Array GT := (Array.range G).map fun i => if i < j then ⟨i, none, 0, []⟩ else gz
theorem rowI_size (G j : Nat) : (rowI G j).size = G := by simp [rowI]
theorem rowI_get {G j i : Nat} (h : i < G) : (rowI G j)[i]! = if i < j then ⟨i, none, 0, []⟩ else gz := by
  rw [bang _ _ (by rw [rowI_size]; exact h)]; simp [rowI]
theorem rowI_zero (G : Nat) : Array.replicate G gz = rowI G 0 := by
  apply Array.ext (by simp [rowI])
  intro i h1 h2
  simp [rowI]
theorem rowI_succ {G j : Nat} (hj : j < G) : (flatK gcs 2 (rowI G j)).setIfInBounds (j * 2) (.int .i64 j) = flatK gcs 2 (rowI G (j + 1)) := by
  have h := flat_set (d := rowI G j) (i := j) (c := 0) (by rw [rowI_size]; exact hj) (by omega) ⟨j, none, 0, []⟩ (.int .i64 j) rfl (fun e h1 h2 => by
    have he : e = 1 := by omega
    subst he
    rw [rowI_get hj, if_neg (by omega)]; rfl)
  rw [Nat.add_zero] at h
  rw [h]
  congr 1
  apply Array.ext (by simp [rowI])
  intro i h1 h2
  rw [rowI_size] at h2
  rw [← bang _ _ h1, set_get! _ _ _ _ (by rw [rowI_size]; exact h2), rowI_get h2, ← bang _ _ (by rw [rowI_size]; exact h2), rowI_get h2]
  by_cases e : j = i
  · subst e; simp
  · rw [if_neg e]
    by_cases h3 : i < j
    · rw [if_pos h3, if_pos (by omega)]
    · rw [if_neg h3, if_neg (by omega)]
section
variable {w w' : World} {B gb G : Nat} {gf : KeyT → Nat} {l : List KeyT} {d : Array GT}
theorem GS.on (h : GS w B gb G gf l d) (hb : Below w.heap.size w w') : GS w' B gb G gf l d := ⟨Blk.below h.row hb (Blk.lt h.row), h.size, h.idx, h.keys, fun i hi => ownsRow_below (h.own i hi) hb, h.apart⟩
theorem GS.start {G gb B : Nat} {w : World} {gf : KeyT → Nat} (h : GRow w gb (rowI G G)) : GS w B gb G gf [] (rowI G G) :=
  ⟨h, rowI_size _ _, fun i hi => by rw [rowI_get hi, if_pos hi], fun i hi => by rw [rowI_get hi, if_pos hi]; rfl, fun i hi => by rw [rowI_get hi, if_pos hi]; exact World.ownsRow_nil _ _ _ _,
   fun i j hi hj _ b e => by rw [rowI_get hi, if_pos hi] at e; cases e⟩
/-- A key comes to its group. -/
theorem GS.push (h : GS w B gb G gf l d) {x : KeyT} {p : Nat} (hp : p < G) (hx : gf x = p) {w1 : World} {gg cap : Nat} (hown : w1.ownsRow B 27 33 (.slice (some ⟨gg, 0, none⟩) (d[p]!.keys.length + 1) cap) (d[p]!.keys.length + 1) (d[p]!.keys.flatMap kcs ++ kcs x))
    (hgr : w.grownBy w1 (Value.slice d[p]!.adr d[p]!.keys.length d[p]!.cap).ownBlock) (hat : (Value.slice d[p]!.adr d[p]!.keys.length d[p]!.cap).ownBlock = some gg ∨ w.heap.size ≤ gg) :
    GS (w1.setCell ⟨gb, p * 2 + 1, none⟩ (.slice (some ⟨gg, 0, none⟩) (d[p]!.keys.length + 1) cap)) B gb G gf (l ++ [x]) (d.setIfInBounds p ⟨p, some ⟨gg, 0, none⟩, cap, d[p]!.keys ++ [x]⟩) := by
  have hpd : p < d.size := by rw [h.size]; exact hp
  have hfar : ∀ i, i < G → i ≠ p → ∀ b, d[i]!.adr = some ⟨b, 0, none⟩ → some b ≠ (Value.slice d[p]!.adr d[p]!.keys.length d[p]!.cap).ownBlock := fun i hi hne b hb e => by
    rcases (h.own p hp).2 with ⟨hv, _⟩ | ⟨g, cp, cur, hv, _⟩
    · injection hv with hv _ _
      rw [hv] at e; cases e
    · injection hv with hv _ _
      rw [hv] at e
      injection e with e
      subst e
      exact h.apart i p hi hp hne _ hb hv
  have hkeep : ∀ i, i < G → i ≠ p → OwnK w1 B d[i]!.adr d[i]!.cap d[i]!.keys := fun i hi hne =>
    ownsRow_same (h.own i hi) fun g hv hl => hgr.block g hl (by
      rcases (h.own i hi).2 with ⟨hv2, _⟩ | ⟨g2, cp, cur, hv2, _⟩
      · rw [hv2] at hv; cases hv
      · injection hv2 with hv2 _ _
        rw [hv2] at hv
        injection hv with hv
        subst hv
        exact hfar i hi hne _ hv2)
  have hgbne : some gb ≠ (Value.slice d[p]!.adr d[p]!.keys.length d[p]!.cap).ownBlock := fun e => by
    rcases (h.own p hp).2 with ⟨hv, _⟩ | ⟨g, cp, cur, hv, _, hh, _⟩
    · injection hv with hv _ _
      rw [hv] at e; cases e
    · injection hv with hv _ _
      rw [hv] at e
      injection e with e
      have e : gb = g := e
      subst e
      have := (show w.heap[gb]? = some (.cells (flatK gcs 2 d) 60 (0, 0)) from h.row)
      rw [hh] at this
      injection this with this
      injection this with _ this _
      exact absurd this (by decide)
  have hrow1 : GRow w1 gb d := Blk.same h.row (hgr.block gb (Blk.lt h.row) hgbne)
  have hsame : ∀ g, g ≠ gb → (w1.setCell ⟨gb, p * 2 + 1, none⟩ (.slice (some ⟨gg, 0, none⟩) (d[p]!.keys.length + 1) cap)).heap[g]? = w1.heap[g]? := fun g hg => setCell_block hg
  have hnot : ∀ {A : Option Addr} {c : Nat} {ks : List KeyT}, OwnK w1 B A c ks → ∀ g, (Value.slice A ks.length c).ownBlock = some g → g ≠ gb := fun ho g hv e => by
    rcases ho.2 with ⟨hv2, _⟩ | ⟨g2, cp, cur, hv2, _, hh, _⟩
    · rw [hv2] at hv; cases hv
    · rw [hv2] at hv
      injection hv with hv
      subst hv
      have e : g2 = gb := e
      subst e
      have := (show w1.heap[g2]? = some (.cells (flatK gcs 2 d) 60 (0, 0)) from hrow1)
      rw [hh] at this
      injection this with this
      injection this with _ this _
      exact absurd this (by decide)
  have hval : ∀ i, i < G → (d.setIfInBounds p ⟨p, some ⟨gg, 0, none⟩, cap, d[p]!.keys ++ [x]⟩)[i]! = if p = i then ⟨p, some ⟨gg, 0, none⟩, cap, d[p]!.keys ++ [x]⟩ else d[i]! := fun i hi => set_get! _ _ _ _ (by rw [h.size]; exact hi)
  have hnew : OwnK w1 B (some ⟨gg, 0, none⟩) cap (d[p]!.keys ++ [x]) := by
    show World.ownsRow _ _ _ _ _ _ _
    rw [List.length_append, List.flatMap_append]
    simpa using hown
  refine ⟨?_, by simpa using h.size, fun i hi => ?_, fun i hi => ?_, fun i hi => ?_, fun i j hi hj hne b => ?_⟩
  · have := Blk.set_ hrow1 (p * 2 + 1) (.slice (some ⟨gg, 0, none⟩) (d[p]!.keys.length + 1) cap)
    rw [flat_set (d := d) (i := p) (c := 1) hpd (by omega) ⟨p, some ⟨gg, 0, none⟩, cap, d[p]!.keys ++ [x]⟩ _ (by simp [gcs]) (fun e h1 h2 => by
      have he : e = 0 := by omega
      subst he
      simp only [gcs, h.idx p hp]; rfl)] at this
    exact this
  · rw [hval i hi]
    by_cases e : p = i
    · rw [if_pos e]; exact e
    · rw [if_neg e]; exact h.idx i hi
  · rw [hval i hi, List.filter_append]
    by_cases e : p = i
    · rw [if_pos e, ← e, h.keys p hp]
      simp [hx]
    · rw [if_neg e, h.keys i hi]
      simp [hx, e]
  · rw [hval i hi]
    by_cases e : p = i
    · rw [if_pos e]
      exact ownsRow_same hnew fun g hv _ => hsame g (hnot hnew g hv)
    · rw [if_neg e]
      have hk := hkeep i hi (fun e' => e e'.symm)
      exact ownsRow_same hk fun g hv _ => hsame g (hnot hk g hv)
  · rw [hval i hi, hval j hj]
    have hgg : ∀ q, q < G → q ≠ p → d[q]!.adr ≠ some ⟨gg, 0, none⟩ := fun q hq hqp e => by
      rcases hat with ha | ha
      · exact hfar q hq hqp gg e ha.symm
      · rcases (h.own q hq).2 with ⟨hv2, _⟩ | ⟨g2, cp, cur, hv2, _, hh, _⟩
        · injection hv2 with hv2 _ _
          rw [hv2] at e; cases e
        · injection hv2 with hv2 _ _
          rw [hv2] at e
          injection e with e
          injection e with e _ _
          subst e
          have := (Array.getElem?_eq_some_iff.1 hh).1
          omega
    by_cases e1 : p = i
    · have e2 : p ≠ j := fun e2 => hne (e1.symm.trans e2)
      rw [if_pos e1, if_neg e2]
      intro e3 e4
      injection e3 with e3
      injection e3 with e3 _ _
      subst e3
      exact hgg j hj (fun h => e2 h.symm) e4
    · rw [if_neg e1]
      by_cases e2 : p = j
      · rw [if_pos e2]
        intro e3 e4
        injection e4 with e4
        injection e4 with e4 _ _
        subst e4
        exact hgg i hi (fun h => e1 h.symm) e3
      · rw [if_neg e2]
        exact h.apart i j hi hj hne b
end
end Go.Proofs.Ytacijjioaanlgaa
