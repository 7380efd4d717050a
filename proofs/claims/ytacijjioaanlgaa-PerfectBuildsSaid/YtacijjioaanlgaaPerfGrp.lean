/- Rows of groups of keys (package perfect). No statement of the seat is proved here. -/
import Derived.Test.YtacijjioaanlgaaPerfTake
import Derived.Shelf.GgSortFunc.RowK
namespace Go.Proofs.Ytacijjioaanlgaa
open Go.RowKit Go.Sort
set_option linter.unusedVariables false

/-- A group: its index, and its slice of keys. -/
structure GT where
  idx : Nat
  adr : Option Addr
  cap : Nat
  keys : List KeyT
deriving Inhabited
def gz : GT := ⟨0, none, 0, []⟩
def gcs (g : GT) : List Value := [.int .i64 g.idx, .slice g.adr g.keys.length g.cap]
theorem gcs_length (g : GT) : (gcs g).length = 2 := rfl
theorem gcs_one (g : GT) : ∀ v ∈ gcs g, v.oneCell' = true := by
  intro v hv
  simp [gcs] at hv
  rcases hv with rfl | rfl <;> rfl
theorem flat0 {d : Array GT} {i : Nat} (h : i < d.size) : (flatK gcs 2 d)[i * 2]? = some (.int .i64 d[i]!.idx) := by
  have hs : i * 2 < d.size * 2 := by omega
  have := get_flatK gcs 2 d (i * 2) hs
  rw [getElem!_pos _ _ (by simpa using hs)] at this
  rw [Array.getElem?_eq_getElem (by simpa using hs), this, show i * 2 / 2 = i by omega, show i * 2 % 2 = 0 by omega]
  rfl
theorem flat1 {d : Array GT} {i : Nat} (h : i < d.size) : (flatK gcs 2 d)[i * 2 + 1]? = some (.slice d[i]!.adr d[i]!.keys.length d[i]!.cap) := by
  have hs : i * 2 + 1 < d.size * 2 := by omega
  have := get_flatK gcs 2 d (i * 2 + 1) hs
  rw [getElem!_pos _ _ (by simpa using hs)] at this
  rw [Array.getElem?_eq_getElem (by simpa using hs), this, show (i * 2 + 1) / 2 = i by omega, show (i * 2 + 1) % 2 = 1 by omega]
  rfl
theorem bang {α : Type} [Inhabited α] (a : Array α) (t : Nat) (h : t < a.size) : a[t]! = a[t] := getElem!_pos a t h
theorem set_get! (d : Array GT) (i j : Nat) (g : GT) (hj : j < d.size) : (d.setIfInBounds i g)[j]! = if i = j then g else d[j]! := by
  rw [bang _ _ (show j < (d.setIfInBounds i g).size by simpa using hj), Array.getElem_setIfInBounds, bang d j hj]
/-- Cell c of element i is written. -/
theorem flat_set {d : Array GT} {i c : Nat} (hi : i < d.size) (hc : c < 2) (g : GT) (v : Value) (hv : (gcs g)[c]! = v) (ho : ∀ e, e < 2 → e ≠ c → (gcs g)[e]! = (gcs d[i]!)[e]!) : (flatK gcs 2 d).setIfInBounds (i * 2 + c) v = flatK gcs 2 (d.setIfInBounds i g) := by
  refine ext_get! (by simp) fun t ht => ?_
  have ht' : t < d.size * 2 := by simpa using ht
  rw [get_flatK _ _ _ t (by simpa using ht'), set_get! d i (t / 2) g (by omega), bang _ t ht, Array.getElem_setIfInBounds (by simpa using ht')]
  by_cases e : i * 2 + c = t
  · have e1 : t / 2 = i := by omega
    have e2 : t % 2 = c := by omega
    rw [if_pos e, if_pos e1.symm, e2, hv]
  · rw [if_neg e]
    have hg := get_flatK gcs 2 d t ht'
    rw [getElem!_pos _ _ (by simpa using ht')] at hg
    rw [hg]
    by_cases e1 : i = t / 2
    · rw [if_pos e1, ← e1, ho (t % 2) (by omega) (by omega)]
    · rw [if_neg e1]
/-- Both cells of element i are written. -/
theorem flat_set2 {d : Array GT} {i : Nat} (hi : i < d.size) (g : GT) : ((flatK gcs 2 d).setIfInBounds (i * 2) (.int .i64 g.idx)).setIfInBounds (i * 2 + 1) (.slice g.adr g.keys.length g.cap) = flatK gcs 2 (d.setIfInBounds i g) := by
  have h1 := flat_set (c := 0) hi (by omega) { d[i]! with idx := g.idx } (.int .i64 g.idx) rfl (fun e h1 h2 => by
    have he : e = 1 := by omega
    subst he; rfl)
  rw [Nat.add_zero] at h1
  have h2 := flat_set (d := d.setIfInBounds i { d[i]! with idx := g.idx }) (i := i) (c := 1) (by simpa using hi) (by omega) g (.slice g.adr g.keys.length g.cap) rfl (fun e h1 h2 => by
    have he : e = 0 := by omega
    subst he
    rw [set_get! d i i _ hi, if_pos rfl]; rfl)
  rw [h1, h2]
  congr 1
  apply Array.ext (by simp)
  intro j h1 h2
  have hj : j < d.size := by simpa using h2
  rw [← bang _ _ h1, ← bang _ _ h2, set_get! _ _ _ _ (by simpa using hj), set_get! _ _ _ _ hj, set_get! _ _ _ _ hj]
  split <;> rfl
/-- In w the block b holds those groups. -/
abbrev GRow (w : World) (b : Nat) (d : Array GT) : Prop := Blk w b 60 (flatK gcs 2 d)
theorem GRow.c0 {w : World} {b : Nat} {d : Array GT} (h : GRow w b d) {i : Nat} (hi : i < d.size) : w.cell? ⟨b, i * 2, none⟩ = some (.int .i64 d[i]!.idx) := by
  rw [Blk.cell h, flat0 hi]
theorem GRow.c1 {w : World} {b : Nat} {d : Array GT} (h : GRow w b d) {i : Nat} (hi : i < d.size) : w.cell? ⟨b, i * 2 + 1, none⟩ = some (.slice d[i]!.adr d[i]!.keys.length d[i]!.cap) := by
  rw [Blk.cell h, flat1 hi]
theorem made_flat (G : Nat) : madeCells #[.int .i64 0, .slice none 0 0] (G * 2) = flatK gcs 2 (Array.replicate G gz) := by
  refine ext_get! (by simp [size_madeCells]) fun t ht => ?_
  rw [size_madeCells] at ht
  rw [get_flatK _ _ _ t (by simpa using ht), bang _ t (by rw [size_madeCells]; exact ht), bang _ (t / 2) (show t / 2 < (Array.replicate G gz).size by simp; omega)]
  simp only [madeCells, Array.getElem_map, Array.getElem_range, Array.getElem_replicate]
  have h : t % 2 = 0 ∨ t % 2 = 1 := by omega
  rcases h with h | h
  · simp [h, gcs, gz]
  · simp [h, gcs, gz]
end Go.Proofs.Ytacijjioaanlgaa
