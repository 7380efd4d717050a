/- Plain mathematics for package cache: tables in the order in which they were loaded. No statement of the seat is proved here; nothing of the program is imported. -/
import Derived.Test.YtmnjaocdhelebaaIxMath
namespace Go.Proofs.Ytmnjaocdhelebaa
set_option linter.unusedVariables false

/-- Room, and the tables: a shelf and its rows. -/
structure CS where
  room : Nat
  t : List (Int × List RowT)
def hasC (S : CS) (sh : Int) : Bool := S.t.any fun x => decide (x.1 = sh)
def shelvesC (S : CS) : List Int := S.t.map (·.1)
def dropC (S : CS) (sh : Int) : CS := ⟨S.room, S.t.filter fun x => !decide (x.1 = sh)⟩
def loadC (S : CS) (sh : Int) (ls : List RowT) (draw : Nat) : CS :=
  if S.room = 0 ∨ hasC S sh = true then S else ⟨S.room, (if S.t.length = S.room then S.t.eraseIdx (draw % S.t.length) else S.t) ++ [(sh, ls)]⟩
/-- The first row with that key. -/
def findC (S : CS) (k : List UInt8 × Nat) : Option RowT := S.t.findSome? fun x => x.2.find? fun r => decide (r.1 = k)
def knowsC (S : CS) (k : List UInt8 × Nat) : Bool := (findC S k).isSome
def getC (S : CS) (k : List UInt8 × Nat) : Int × Int := match findC S k with
  | some r => r.2
  | none => (0, 0)
def In64C (x : Int) : Prop := -9223372036854775808 ≤ x ∧ x ≤ 9223372036854775807
structure RowOkC (r : RowT) : Prop where
  key : KeyOk r.1
  shelf : In64C r.2.1
  slot : In64C r.2.2
structure CS.Ok (S : CS) : Prop where
  room : S.room ≤ 4096
  len : S.t.length ≤ S.room
  once : (shelvesC S).Nodup
  shelf : ∀ x ∈ S.t, In64C x.1
  rows : ∀ x ∈ S.t, x.2.length ≤ 1000 ∧ ∀ r ∈ x.2, RowOkC r
theorem hasC_iff {S : CS} {sh : Int} : hasC S sh = true ↔ sh ∈ shelvesC S := by
  unfold hasC shelvesC
  rw [List.any_eq_true, List.mem_map]
  constructor
  · rintro ⟨x, hx, h⟩
    exact ⟨x, hx, by simpa using h⟩
  · rintro ⟨x, hx, h⟩
    exact ⟨x, hx, by simpa using h⟩
theorem CS.Ok.new {n : Nat} (h : n ≤ 4096) : CS.Ok ⟨n, []⟩ := ⟨h, Nat.zero_le _, List.nodup_nil, by simp, by simp⟩
theorem CS.Ok.drop {S : CS} (h : S.Ok) (sh : Int) : (dropC S sh).Ok :=
  ⟨h.room, Nat.le_trans (List.length_filter_le _ _) h.len, by
    unfold shelvesC dropC
    exact List.Nodup.sublist (List.Sublist.map _ List.filter_sublist) h.once, fun x hx => h.shelf x ((List.mem_filter.1 hx).1), fun x hx => h.rows x ((List.mem_filter.1 hx).1)⟩
theorem CS.Ok.load {S : CS} (h : S.Ok) {sh : Int} (hs : In64C sh) {ls : List RowT} (hl : ls.length ≤ 1000 ∧ ∀ r ∈ ls, RowOkC r) (draw : Nat) : (loadC S sh ls draw).Ok := by
  unfold loadC
  split
  · exact h
  · rename_i hc
    rw [not_or] at hc
    obtain ⟨h0, hn⟩ := hc
    have hn' : sh ∉ shelvesC S := fun hm => hn (hasC_iff.2 hm)
    have key : ∀ M : List (Int × List RowT), M.Sublist S.t → M.length < S.room → CS.Ok ⟨S.room, M ++ [(sh, ls)]⟩ := fun M hM hlt => by
      refine ⟨h.room, by simp; omega, ?_, fun x hx => ?_, fun x hx => ?_⟩
      · unfold shelvesC
        rw [List.map_append, List.nodup_append]
        refine ⟨List.Nodup.sublist (hM.map _) h.once, by simp, fun a ha b hb e => ?_⟩
        have : b = sh := by simpa using hb
        subst this
        exact hn' (e ▸ (hM.map Prod.fst).subset ha)
      · rcases List.mem_append.1 hx with hx | hx
        · exact h.shelf x (hM.subset hx)
        · rw [List.mem_singleton.1 hx]; exact hs
      · rcases List.mem_append.1 hx with hx | hx
        · exact h.rows x (hM.subset hx)
        · rw [List.mem_singleton.1 hx]; exact hl
    have hlen := h.len
    split
    · rename_i he
      refine key _ (List.eraseIdx_sublist _ _) ?_
      rw [List.length_eraseIdx]
      split
      · omega
      · rename_i hx
        exact absurd (Nat.mod_lt _ (by omega)) hx
    · exact key _ (List.Sublist.refl _) (by omega)
theorem loadC_had {S : CS} {sh : Int} (h : hasC S sh = true) (ls : List RowT) (draw : Nat) : loadC S sh ls draw = S := by
  unfold loadC
  rw [if_pos (.inr h)]
theorem loadC_new {S : CS} {sh : Int} (h0 : S.room ≠ 0) (h : hasC S sh = false) (ls : List RowT) (draw : Nat) : loadC S sh ls draw = ⟨S.room, (if S.t.length = S.room then S.t.eraseIdx (draw % S.t.length) else S.t) ++ [(sh, ls)]⟩ := by
  unfold loadC
  rw [if_neg (by rw [h]; simp [h0])]
theorem loadC_room (S : CS) (sh : Int) (ls : List RowT) (draw : Nat) : (loadC S sh ls draw).room = S.room := by
  unfold loadC
  split <;> rfl
theorem loadC_has {S : CS} {sh : Int} (h0 : S.room ≠ 0) (ls : List RowT) (draw : Nat) : hasC (loadC S sh ls draw) sh = true := by
  by_cases h : hasC S sh = true
  · rw [loadC_had h]; exact h
  · rw [loadC_new h0 (by simpa using h), hasC_iff]
    unfold shelvesC
    simp
theorem shelves_len (S : CS) : (shelvesC S).length = S.t.length := by simp [shelvesC]
theorem drop_has (S : CS) (sh : Int) : hasC (dropC S sh) sh = false := by
  rw [Bool.eq_false_iff]
  intro h
  rw [hasC_iff] at h
  unfold shelvesC dropC at h
  rw [List.mem_map] at h
  obtain ⟨x, hx, e⟩ := h
  rw [List.mem_filter] at hx
  simp [e] at hx
end Go.Proofs.Ytmnjaocdhelebaa
