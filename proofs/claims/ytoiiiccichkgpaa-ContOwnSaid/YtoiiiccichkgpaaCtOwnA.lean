/- Pieces of the call's own whose bytes are written, and grow. No statement of the seat is proved here. -/
import Derived.Test.YtoiiiccichkgpaaCtKit
import Derived.Test.YtoiiiccichkgpaaCtRowB
import Derived.ArgAppend
namespace Go.Proofs.Ytoiiiccichkgpaa
open Go.RowKit
set_option linter.unusedVariables false
set_option linter.unusedSimpArgs false

structure OW (w : World) (B : Nat) (A : Option Addr) (c m : Nat) (ls : List PieceT) : Prop where
  own : OwnP w B A c m ls
  apt : Apart w B ls
  ok : ∀ x ∈ ls, x.p.Ok
  n : ls.length = m
section
variable {w w' : World} {B c m : Nat} {A : Option Addr} {ls : List PieceT}
theorem OW.far (h : OW w B A c m ls) {g : Nat} (hg : w.grownBy w' (some g)) (hB : g < B) : OW w' B A c m ls :=
  ⟨ownsRow_grown h.own hg fun k e e2 => by injection e with e; have := (h.own.lt k e2).1; omega, ⟨fun x hx => by
    obtain ⟨k, o, cur, t, h1, h2, h3, h4⟩ := h.apt.each x hx
    exact ⟨k, o, cur, t, h1, h2, h3.same (hg.block k h3.lt (by simp; omega)), h4⟩, h.apt.two⟩, h.ok, h.n⟩
theorem OW.on (h : OW w B A c m ls) (hb : Below w.heap.size w w') : OW w' B A c m ls := ⟨ownsRow_below h.own hb, h.apt.below hb, h.ok, h.n⟩
theorem OW.rd (h : OW w B A c m ls) : RdPc w w.heap.size A ls := by
  have h1 := h.own
  rw [← h.n] at h1
  exact OwnP.rd h1 (h.apt.ok h.ok)
theorem ok_set (h : ∀ x ∈ ls, x.p.Ok) {i : Nat} (hi : i < ls.length) (a : Option Addr) (cc : Nat) (d : List UInt8) : ∀ x ∈ ls.set i (ls[i].with_ a cc d), x.p.Ok := fun x hx => by
  rcases List.mem_or_eq_of_mem_set hx with hx | rfl
  · exact h x hx
  · have := h _ (List.getElem_mem hi)
    exact ⟨this.s, this.n⟩
theorem blk_ne {k d : Nat} {t : TypeId} {cs ds : Array Value} (h : Blk w k t cs) (h2 : Blk w d 42 ds) (hne : t ≠ 42) : k ≠ d := fun e => by
  subst e
  unfold Blk at h h2
  rw [h] at h2
  injection h2 with h2
  injection h2 with _ h2 _
  exact hne h2
/-- What is not the block of the pieces themselves. -/
theorem Apart.row (h : Apart w B ls) {d : Nat} {ds : Array Value} (hd : Blk w d 42 ds) (i : Nat) (v : Value) : Apart (w.setCell ⟨d, i, none⟩ v) B ls :=
  ⟨fun x hx => by
    obtain ⟨k, o, cur, t, h1, h2, h3, h4, h5⟩ := h.each x hx
    exact ⟨k, o, cur, t, h1, h2, h3.same (setCell_block (blk_ne h3 hd h4)), h4, h5⟩, h.two⟩
theorem own_blkp (h : OwnP w B A c m ls) (hm : 0 < m) : ∃ d ds, (Value.slice A m c).ownBlock = some d ∧ Blk w d 42 ds := by
  rcases h.2 with ⟨_, h0⟩ | ⟨g, cap, cur, hv, _, hh, _⟩
  · omega
  · injection hv with hA _ hC
    subst hA hC
    exact ⟨g, cur, rfl, hh⟩
theorem own_data {k : Nat} {t : TypeId} {cs : Array Value} (h : OwnP w B A c m ls) (hk : Blk w k t cs) (hne : t ≠ 42) : (Value.slice A m c).ownBlock ≠ some k := fun e => by
  rcases h.2 with ⟨hv, h0⟩ | ⟨g, cap, cur, hv, _, hh, _⟩
  · rw [hv] at e
    cases e
  · rw [hv] at e
    have e1 : g = k := by simpa [Value.ownBlock] using e
    subst e1
    exact blk_ne hk hh hne rfl
/-- A byte of a piece's. -/
theorem OW.byte (h : OW w B A c m ls) {i : Nat} (hi : i < ls.length) {k : Nat} (hk : k < ls[i].p.data.length) :
    ∃ g o, ls[i].adr = some ⟨g, o, none⟩ ∧ B ≤ g ∧ g < w.heap.size ∧ w.cell? ⟨g, o + k, none⟩ = some (.int .u8 ls[i].p.data[k].toNat) ∧ w.frozen? ⟨g, o + k, none⟩ = false ∧
      ∀ v : UInt8, OW (w.setCell ⟨g, o + k, none⟩ (.int .u8 v.toNat)) B A c m (ls.set i (ls[i].with_ ls[i].adr ls[i].cap (ls[i].p.data.set k v))) := by
  obtain ⟨g, o, cur, t, h1, h2, h3, h4, h5, h6, h7, h8⟩ := h.apt.each _ (List.getElem_mem hi)
  refine ⟨g, o, h1, h2, h3.lt, by rw [h3.cell]; exact h8 k hk, h3.frozen _, fun v => ?_⟩
  have hlen : ∀ j, (ls.set i (ls[i].with_ ls[i].adr ls[i].cap (ls[i].p.data.set k v))).length = ls.length := fun _ => List.length_set ..
  have hcells : (ls.set i (ls[i].with_ ls[i].adr ls[i].cap (ls[i].p.data.set k v))).flatMap pcs = ls.flatMap pcs := by
    rw [← flatp_set h.ok hi, List.length_set]
    have h9 := flatp_at h.ok hi 33 (by omega)
    rw [pcs_data (h.ok _ (List.getElem_mem hi))] at h9
    apply List.ext_getElem?
    intro j
    rw [List.getElem?_set]
    split
    · rename_i e
      subst e
      split
      · exact h9.symm
      · rename_i hc
        exact (List.getElem?_eq_none (by omega)).symm
    · rfl
  have hgr : w.grownBy (w.setCell ⟨g, o + k, none⟩ (.int .u8 v.toNat)) (some g) := setCell_grown (World.grownBy.refl w _)
  refine ⟨?_, ⟨fun x hx => ?_, fun a b ha hb hab p q p' q' e1 e2 => ?_⟩, ok_set h.ok hi _ _ _, by rw [List.length_set]; exact h.n⟩
  · show World.ownsRow _ _ _ _ _ _ _
    rw [hcells]
    exact ownsRow_grown h.own hgr fun r e => by injection e with e; rw [← e]; exact own_data h.own h3 h4
  · obtain ⟨j, hj, rfl⟩ := List.getElem_of_mem hx
    rw [List.length_set] at hj
    rw [List.getElem_set]
    by_cases e : i = j
    · subst e
      rw [if_pos rfl]
      refine ⟨g, o, _, t, h1, h2, h3.set_ _ _, h4, by show o + ls[i].cap ≤ (cur.setIfInBounds _ _).size; rw [Array.size_setIfInBounds]; exact h5, by show (ls[i].p.data.set k v).length ≤ _; rw [List.length_set]; exact h6, h7, fun q hq => ?_⟩
      have hq2 : q < (ls[i].p.data.set k v).length := hq
      have hq3 : q < ls[i].p.data.length := by rwa [List.length_set] at hq2
      show (cur.setIfInBounds (o + k) _)[o + q]? = some (.int .u8 ((ls[i].p.data.set k v)[q]'hq2).toNat)
      rw [Array.getElem?_setIfInBounds, List.getElem_set]
      by_cases e : k = q
      · subst e
        rw [if_pos rfl, if_pos rfl, if_pos (by omega)]
      · rw [if_neg e, if_neg (by omega)]
        exact h8 q hq3
    · rw [if_neg e]
      obtain ⟨g2, o2, cur2, t2, k1, k2, k3, k4, k5, k6, k7, k8⟩ := h.apt.each _ (List.getElem_mem hj)
      by_cases eg : g2 = g
      · subst eg
        have e2 : cur2 = cur ∧ t2 = t := by
          unfold Blk at h3 k3
          rw [h3] at k3
          injection k3 with k3
          injection k3 with a1 a2 _
          exact ⟨a1.symm, a2.symm⟩
        obtain ⟨rfl, rfl⟩ := e2
        refine ⟨g2, o2, _, t2, k1, k2, h3.set_ _ _, k4, by simpa using k5, k6, k7, fun q hq => ?_⟩
        rw [Array.getElem?_setIfInBounds, if_neg ?_]
        · exact k8 q hq
        · have hd : o + ls[i].cap ≤ o2 ∨ o2 + ls[j].cap ≤ o := by
            rcases Nat.lt_or_gt_of_ne e with hlt | hlt
            · rcases h.apt.two i j hi hj hlt _ _ _ _ h1 k1 with hh | hh | hh
              · exact absurd rfl hh
              · exact .inl hh
              · exact .inr hh
            · rcases h.apt.two j i hj hi hlt _ _ _ _ k1 h1 with hh | hh | hh
              · exact absurd rfl hh
              · exact .inr hh
              · exact .inl hh
          omega
      · exact ⟨g2, o2, cur2, t2, k1, k2, k3.same (setCell_block eg), k4, k5, k6, k7, k8⟩
  · rw [List.length_set] at ha hb
    have key : ∀ j (hj : j < ls.length), ((ls.set i (ls[i].with_ ls[i].adr ls[i].cap (ls[i].p.data.set k v)))[j]'(by rw [List.length_set]; exact hj)).adr = ls[j].adr ∧ ((ls.set i (ls[i].with_ ls[i].adr ls[i].cap (ls[i].p.data.set k v)))[j]'(by rw [List.length_set]; exact hj)).cap = ls[j].cap := fun j hj => by
      rw [List.getElem_set]
      by_cases e : i = j
      · subst e
        rw [if_pos rfl]
        exact ⟨rfl, rfl⟩
      · rw [if_neg e]
        exact ⟨rfl, rfl⟩
    rw [(key a ha).1] at e1
    rw [(key b hb).1] at e2
    rw [(key a ha).2, (key b hb).2]
    exact h.apt.two a b ha hb hab p q p' q' e1 e2
end
end Go.Proofs.Ytoiiiccichkgpaa
