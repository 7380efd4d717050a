/- The contracts of Bytes and Clear of a filter, and of all calls of a nil one. No statement of the seat is proved here. -/
import Derived.Test.YtjahlachoabmkaaBloomOr
import Derived.Test.YtjahlachoabmkaaBloomMay
import Derived.Test.YtjahlachoabmkaaClone
namespace Go.Proofs.Ytjahlachoabmkaa
open Go.RowKit Go.Shelf
attribute [local go_sem] Oper.semAt_some

theorem Vec.rd {w : World} {v g n p : Nat} {S : Nat → Bool} (h : Vec w v g n p S) : Rd w w.heap.size (some ⟨g, 0, none⟩) (pk n S) := fun _ =>
  ⟨g, 0, rfl, h.gb.lt, fun j hj => by rw [Nat.zero_add]; exact h.byte hj⟩
theorem bytes_ok (v g n p : Nat) (S : Nat → Bool) (w : World) (h : Vec w v g n p S) :
    Calls Try.prog 17 #[.pointer (some ⟨v, 0, none⟩)] w fun e w' => ∃ A c, e = .returned (.slice A ((n + 7) / 8) c) ∧ w'.ownsRow w.heap.size 5 1 (.slice A ((n + 7) / 8) c) ((n + 7) / 8) (bv (pk n S)) ∧ Below w.heap.size w w' := by
  obtain ⟨m, hm⟩ : ∃ m, (n + 7) / 8 = m := ⟨_, rfl⟩
  obtain ⟨_, _, hc2, _⟩ := h.cells
  have hn := h.hn
  have HR := Lib.hid h.rd
  have HL := Lib.hid (show (pk n S).length = m by rw [pk_length, hm])
  rw [hm] at hc2 ⊢
  have hm9 : m ≤ 1000000000 := by omega
  clear h hm
  go_enter Try.func17, Try.ntmps17
  go_wp2_with fail
  refine (clone_any _ (pk n S) m m HL.out hm9 w HR.out).mono ?_
  rintro e w' ⟨A, c, rfl, ho, hb⟩
  have H := Lib.hid (And.intro ho hb)
  clear ho hb
  go_wp2
  go_ret
  exact ⟨_, _, rfl, H.out⟩
theorem bytes_nil (w : World) : Calls Try.prog 17 #[.pointer none] w fun e w' => e = .returned (.slice none 0 0) ∧ w = w' := by
  go_enter Try.func17, Try.ntmps17
  go_wp2
  go_ret
  exact ⟨rfl, rfl⟩
theorem or_nil (A : Option Addr) (n c : Nat) (w : World) : Calls Try.prog 20 #[.pointer none, .slice A n c] w fun e w' => (∃ x, e = .returned x) ∧ w = w' := by
  go_enter Try.func20, Try.ntmps20
  go_wp2
  refine bodyPost_ret (results_none rfl _ _ _) rfl ?_
  exact ⟨⟨_, rfl⟩, rfl⟩
theorem clear_nil (w : World) : Calls Try.prog 21 #[.pointer none] w fun e w' => (∃ x, e = .returned x) ∧ w = w' := by
  go_enter Try.func21, Try.ntmps21
  go_wp2
  refine bodyPost_ret (results_none rfl _ _ _) rfl ?_
  exact ⟨⟨_, rfl⟩, rfl⟩
theorem setCells_grown (g : Nat) : ∀ (vs : List Value) (o : Nat) (w : World), w.grownBy (w.setCells g o vs) (some g)
  | [], _, w => World.grownBy.refl w _
  | u :: r, o, w => gby_trans (grownBy_cell w g o u) (setCells_grown g r (o + 1) (w.setCell ⟨g, o, none⟩ u))
theorem setCells_blk (g : Nat) (t : TypeId) (z : Value) : ∀ (k o : Nat) (w : World) (cs : Array Value), Blk w g t cs → ∃ cs' : Array Value, Blk (w.setCells g o (List.replicate k z)) g t cs' ∧ cs'.size = cs.size ∧ ∀ j, j < cs.size → cs'[j]? = if o ≤ j ∧ j < o + k then some z else cs[j]?
  | 0, o, w, cs, h => ⟨cs, h, rfl, fun j _ => by rw [if_neg (by omega)]⟩
  | k + 1, o, w, cs, h => by
    obtain ⟨cs', h1, h2, h3⟩ := setCells_blk g t z k (o + 1) (w.setCell ⟨g, o, none⟩ z) (cs.setIfInBounds o z) (h.set_ o z)
    refine ⟨cs', h1, by rw [h2]; simp, fun j hj => ?_⟩
    rw [h3 j (by simpa using hj)]
    by_cases e : o = j
    · subst e
      rw [if_neg (by omega), if_pos (by omega)]; simp [hj]
    · rw [Array.getElem?_setIfInBounds_ne e]
      by_cases h4 : o + 1 ≤ j ∧ j < o + 1 + k
      · rw [if_pos h4, if_pos (by omega)]
      · rw [if_neg h4, if_neg (by omega)]
theorem clear_ok (v g n p : Nat) (S : Nat → Bool) (w : World) (h : Vec w v g n p S) :
    Calls Try.prog 21 #[.pointer (some ⟨v, 0, none⟩)] w fun e w' => (∃ x, e = .returned x) ∧ Vec w' v g n p (fun _ => false) ∧ w.grownBy w' (some g) := by
  obtain ⟨m, hm⟩ : ∃ m, (n + 7) / 8 = m := ⟨_, rfl⟩
  have hsz : (bv (pk n S)).toArray.size = m := by simp [bv_length, pk_length, hm]
  have hcl : ∀ ty, (Builtin.clear_ #[56] ty #[.slice (some ⟨g, 0, none⟩) m m]).run Try.prog w = .ok (.tuple #[]) (w.setCells g 0 (List.replicate m (.int .u8 0))) := fun ty => by
    rcases Nat.eq_zero_or_pos m with h0 | h0
    · subst h0
      simp [Builtin.clear_, run_underlying Try.underlying56]
      rfl
    · exact Lib.run_clear_slice w _ 5 ty (.int .u8 0) Try.underlying56 (Try.zeroValue5) rfl rfl g 0 m m h0 (fun j hj => by
        rw [Nat.zero_add, h.gb.cell, Array.getElem?_eq_getElem (by rw [hsz]; exact hj)]; rfl) (fun j _ => by rw [Nat.zero_add]; exact h.gb.frozen j)
  obtain ⟨cs', hb1, hb2, hb3⟩ := setCells_blk g 5 (.int .u8 0) m 0 w _ h.gb
  have hcs : cs' = (bv (pk n fun _ => false)).toArray := by
    rw [pk_none, hm]
    apply Array.ext_getElem?
    intro j
    by_cases hj : j < m
    · rw [hb3 j (by rw [hsz]; exact hj), if_pos (by omega)]
      simp [bv, hj]
    · rw [Array.getElem?_eq_none (by rw [hb2, hsz]; omega), Array.getElem?_eq_none (by simp [bv]; omega)]
  rw [hcs] at hb1
  have hgr := setCells_grown g (List.replicate m (.int .u8 0)) 0 w
  obtain ⟨_, _, hc2, _⟩ := h.cells
  rw [hm] at hc2
  have H := Lib.hid (show Vec (w.setCells g 0 (List.replicate m (.int .u8 0))) v g n p (fun _ => false) ∧ w.grownBy (w.setCells g 0 (List.replicate m (.int .u8 0))) (some g) from
    ⟨⟨h.vb.same (hgr.block v h.vb.lt (fun e => h.ne (by injection e))), hb1, h.hn, h.hp⟩, hgr⟩)
  clear h hm hsz hb1 hb2 hb3 hcs hgr
  go_enter Try.func21, Try.ntmps21
  go_wp2
  go_end0
  exact ⟨⟨_, rfl⟩, H.out⟩
end Go.Proofs.Ytjahlachoabmkaa
