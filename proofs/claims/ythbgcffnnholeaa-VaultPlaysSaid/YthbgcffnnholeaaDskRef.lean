/- The reference's disk (cellarageref08): what it is in memory; pad, off, done. No statement of the seat is proved here. -/
import Derived.Test.YthbgcffnnholeaaDskPure
import Derived.Test.YthbgcffnnholeaaQuiet
import Derived.Laws.MakeOwn
namespace Go.Proofs.Ythbgcffnnholeaa
open Go.RowKit
set_option linter.unusedVariables false

/-- Bytes as a text. -/
def st (l : List UInt8) : Value := .string ⟨l.toArray⟩
def sts (n : Nat) (f : Nat → List UInt8) : List Value := (List.range n).map fun i => st (f i)
theorem sts_length (n : Nat) (f : Nat → List UInt8) : (sts n f).length = n := by simp [sts]
theorem sts_get {n i : Nat} (f : Nat → List UInt8) (h : i < n) : (sts n f)[i]? = some (st (f i)) := by simp [sts, h]
theorem sts_set {n i : Nat} (f : Nat → List UInt8) (v : List UInt8) : (sts n f).set i (st v) = sts n (updS f i v) := by
  apply List.ext_getElem?
  intro j
  rw [List.getElem?_set]
  by_cases hj : j < n
  · rw [sts_get (updS f i v) hj]
    by_cases e : i = j
    · subst e
      rw [if_pos rfl, if_pos (by rw [sts_length]; exact hj), updS, if_pos rfl]
    · rw [if_neg e, sts_get f hj, updS, if_neg fun h => e h.symm]
  · have h1 : (sts n (updS f i v))[j]? = none := List.getElem?_eq_none (by rw [sts_length]; omega)
    have h2 : (sts n f)[j]? = none := List.getElem?_eq_none (by rw [sts_length]; omega)
    rw [h1, h2]
    split
    · rename_i e; subst e; rw [if_neg (by rw [sts_length]; omega)]
    · rfl
def pcs (l : List (Nat × List UInt8)) : List Value := l.flatMap fun p => [.int .i64 (p.1 : Nat), st p.2]
theorem pcs_length (l : List (Nat × List UInt8)) : (pcs l).length = l.length * 2 := by
  induction l with
  | nil => rfl
  | cons p l ih =>
    show (_ ++ pcs l).length = _
    rw [List.length_append, ih, List.length_cons]; simp; omega
theorem pcs_at {l : List (Nat × List UInt8)} {j : Nat} (h : j < l.length) : (pcs l)[j * 2]? = some (.int .i64 (l[j].1 : Nat)) ∧ (pcs l)[j * 2 + 1]? = some (st l[j].2) := by
  induction l generalizing j with
  | nil => simp at h
  | cons p l ih =>
    cases j with
    | zero => exact ⟨rfl, rfl⟩
    | succ j =>
      have := ih (j := j) (by simpa using h)
      rw [show (j + 1) * 2 = j * 2 + 2 by omega]
      exact this
theorem pcs_snoc (l : List (Nat × List UInt8)) (p : Nat × List UInt8) : pcs (l ++ [p]) = pcs l ++ [.int .i64 (p.1 : Nat), st p.2] := by simp [pcs]
abbrev dcells (As : Option Addr) (cs : Nat) (Ap : Option Addr) (cp : Nat) (S : DS) : Array Value := #[.slice As S.n cs, .slice Ap S.put.length cp, .bool S.off, .int .i64 S.left, .int .i64 (S.cnt : Nat)]
/-- In w the block d is the reference's disk S; its rows are of its own. -/
structure RD (w : World) (d : Nat) (As : Option Addr) (cs : Nat) (Ap : Option Addr) (cp : Nat) (S : DS) : Prop where
  blk : Blk w d 58 (dcells As cs Ap cp S)
  safe : w.ownsRow 0 9 1 (.slice As S.n cs) S.n (sts S.n S.safe)
  put : w.ownsRow 0 93 2 (.slice Ap S.put.length cp) S.put.length (pcs S.put)
/-- The blocks of it. -/
def RF (d : Nat) (As : Option Addr) (cs : Nat) (Ap : Option Addr) (cp : Nat) (S : DS) (g : Nat) : Prop :=
  g = d ∨ (Value.slice As S.n cs).ownBlock = some g ∨ (Value.slice Ap S.put.length cp).ownBlock = some g
/-- The same, told as the package's disks are. -/
def Rst (w : World) (s : Addr) (F : Nat → Prop) (S : DS) : Prop := ∃ d As cs Ap cp, s = ⟨d, 0, none⟩ ∧ RD w d As cs Ap cp S ∧ S.Ok ∧ ∀ g, F g ↔ RF d As cs Ap cp S g
/-- A cell of the struct is written. -/
theorem rd_put {w : World} {d : Nat} {As : Option Addr} {cs : Nat} {Ap : Option Addr} {cp : Nat} {S S' : DS} (h : RD w d As cs Ap cp S) (i : Nat) (v : Value) (hd : (dcells As cs Ap cp S).setIfInBounds i v = dcells As cs Ap cp S') (hn : S'.n = S.n) (hs : S'.safe = S.safe) (hp : S'.put = S.put) :
    RD (w.setCell ⟨d, i, none⟩ v) d As cs Ap cp S' := by
  have h1 : ∀ g, (Value.slice As S.n cs).ownBlock = some g → g ≠ d := fun g hv => by
    obtain ⟨_, cur, hb, _⟩ := row_blk h.safe g hv
    exact blk_other hb h.blk (by decide)
  have h2 : ∀ g, (Value.slice Ap S.put.length cp).ownBlock = some g → g ≠ d := fun g hv => by
    obtain ⟨_, cur, hb, _⟩ := row_blk h.put g hv
    exact blk_other hb h.blk (by decide)
  refine ⟨?_, ?_, ?_⟩
  · have := h.blk.set_ i v
    rw [hd] at this
    exact this
  · rw [hn, hs]
    exact ownsRow_same h.safe fun g hv _ => setCell_block (h1 g hv)
  · rw [hp]
    exact ownsRow_same h.put fun g hv _ => setCell_block (h2 g hv)
theorem rf_lt {w : World} {d : Nat} {As : Option Addr} {cs : Nat} {Ap : Option Addr} {cp : Nat} {S : DS} (h : RD w d As cs Ap cp S) : ∀ g, RF d As cs Ap cp S g → g < w.heap.size := fun g hg => by
  rcases hg with rfl | hg | hg
  · exact h.blk.lt
  · exact (World.ownsRow.lt h.safe g hg).2
  · exact (World.ownsRow.lt h.put g hg).2
theorem rd_keep {w w' : World} {d : Nat} {As : Option Addr} {cs : Nat} {Ap : Option Addr} {cp : Nat} {S : DS} (h : RD w d As cs Ap cp S) (hk : ∀ g, RF d As cs Ap cp S g → w'.heap[g]? = w.heap[g]?) : RD w' d As cs Ap cp S :=
  ⟨h.blk.same (hk d (.inl rfl)), ownsRow_same h.safe fun g hv _ => hk g (.inr (.inl hv)), ownsRow_same h.put fun g hv _ => hk g (.inr (.inr hv))⟩
theorem rst_lt {w : World} {s : Addr} {F : Nat → Prop} {S : DS} (h : Rst w s F S) : ∀ g, F g → g < w.heap.size := by
  obtain ⟨d, As, cs, Ap, cp, _, hd, _, hF⟩ := h
  exact fun g hg => rf_lt hd g ((hF g).1 hg)
theorem rst_keep {w w' : World} {s : Addr} {F : Nat → Prop} {S : DS} (h : Rst w s F S) (hk : ∀ g, F g → w'.heap[g]? = w.heap[g]?) : Rst w' s F S := by
  obtain ⟨d, As, cs, Ap, cp, e, hd, ho, hF⟩ := h
  exact ⟨d, As, cs, Ap, cp, e, rd_keep hd fun g hg => hk g ((hF g).2 hg), ho, hF⟩
theorem made_zero (n : Nat) : madeCells #[.int .u8 0] n = (bv (List.replicate n 0)).toArray := by
  apply Array.ext_getElem?
  intro j
  rw [← Array.getElem?_toList, toList_madeCells_one]
  simp [bv, List.getElem?_replicate, Array.getElem?_replicate]
/-- A row of zeros whose head is b's. -/
def padR (b : List UInt8) (i : Nat) : List UInt8 := b.take i ++ List.replicate (128 - i) 0
theorem padR_zero (b : List UInt8) : padR b 0 = List.replicate 128 0 := by simp [padR]
theorem padR_length {b : List UInt8} {i : Nat} (hi : i ≤ b.length) (hb : b.length ≤ 128) : (padR b i).length = 128 := by simp [padR]; omega
theorem padR_set {b : List UInt8} {i : Nat} (hi : i < b.length) (hb : b.length ≤ 128) : (padR b i).set i b[i] = padR b (i + 1) := by
  apply List.ext_getElem?
  intro j
  rw [List.getElem?_set]
  by_cases e : i = j
  · subst e
    rw [if_pos rfl, if_pos (by rw [padR_length (by omega) hb]; omega), padR, List.getElem?_append_left (by rw [List.length_take]; omega), List.getElem?_take, if_pos (by omega), List.getElem?_eq_getElem hi]
  · rw [if_neg e]
    unfold padR
    by_cases h : j < i
    · rw [List.getElem?_append_left (by rw [List.length_take]; omega), List.getElem?_append_left (by rw [List.length_take]; omega), List.getElem?_take, List.getElem?_take, if_pos h, if_pos (by omega)]
    · rw [List.getElem?_append_right (by rw [List.length_take]; omega), List.getElem?_append_right (by rw [List.length_take]; omega), List.length_take, List.length_take, List.getElem?_replicate, List.getElem?_replicate]
      by_cases h2 : j < 128
      · rw [if_pos (by omega), if_pos (by omega)]
      · rw [if_neg (by omega), if_neg (by omega)]
theorem padR_end {b : List UInt8} : padR b b.length = padS b := by simp [padR, padS]
theorem bv_set (l : List UInt8) (i : Nat) (x : UInt8) : (bv l).toArray.setIfInBounds i (.int .u8 x.toNat) = (bv (l.set i x)).toArray := by
  rw [List.setIfInBounds_toArray]
  simp [bv, List.map_set]
set_option maxRecDepth 100000 in
set_option maxHeartbeats 1000000 in
theorem rpad_any (b : List UInt8) (n : Nat) (hl : b.length = n) (hn : n ≤ 128) (w : World) :
    Calls Try.prog 33 #[st b] w fun e w' => e = .returned (st (padS b)) ∧ Below w.heap.size w w' := by
  obtain ⟨ib, hib, hy0, hy1, hy2⟩ := info_parts info_u8
  have hmk := fun W => run_make (P := Try.prog) W 42 5 ib _ Try.underlying42 hib hy0 .i64 .i64 (128 : Int) (128 : Int) (by omega) (by omega) (by rw [hy2]; omega) (by omega)
  rw [hy1] at hmk
  obtain ⟨g, hg⟩ : ∃ g, w.heap.size = g := ⟨_, rfl⟩
  obtain ⟨w1, hw1⟩ : ∃ w1, w.alloc (.cells (madeCells #[.int .u8 0] 128) 5) = w1 := ⟨_, rfl⟩
  have HBK := Lib.hid (show Blk w1 g 5 (bv (padR b 0)).toArray by rw [← hw1, ← hg, made_zero, padR_zero]; exact Blk.new w _ _)
  have HB := Lib.hid (show Below w.heap.size w w1 from hw1 ▸ (Below.refl _ _).alloc (Nat.le_refl _) _)
  have HW1 := Lib.hid hw1
  have HG := Lib.hid hg
  have HL := Lib.hid hl
  have HRES := Lib.hid (show st (padS b) = st (padR b n) by rw [← hl, padR_end])
  rw [HRES.out]
  obtain ⟨R, hR⟩ : ∃ R, st (padR b n) = R := ⟨_, rfl⟩
  have HRR := Lib.hid hR
  rw [hR]
  clear hR
  show Calls _ _ #[.string ⟨b.toArray⟩] _ _
  obtain ⟨sb, hsb⟩ : ∃ sb : ByteArray, (⟨b.toArray⟩ : ByteArray) = sb := ⟨_, rfl⟩
  have hbs : sb.size = n := by rw [← hsb]; exact hl
  have HBY := Lib.hid (show ∀ i (h : i < b.length) (h2 : i < sb.size), sb[i]'h2 = b[i] by subst hsb; intro i h h2; rfl)
  rw [hsb]
  clear hsb
  clear hib hy0 hy1 hy2 hw1 hg hl
  go_enter Try.func33, Try.ntmps33
  go_wp2_with fail
  rw [HW1.out, HG.out]
  clear hmk
  go_loopw [4] (fun i wr => ∃ j : Nat, j ≤ n ∧ i = .int .i64 j ∧ Hid (Blk wr g 5 (bv (padR b j)).toArray ∧ Below w.heap.size w wr)) (fun i _ => n - (intOf i).toNat)
  case atStart => exact ⟨0, Nat.zero_le _, rfl, Lib.hid ⟨HBK.out, HB.out⟩⟩
  case round =>
    clear HBK HB
    obtain ⟨j, hj, rfl, hst⟩ := hrel
    by_cases hlt : j < n
    · have hjb : j < b.length := by rw [HL.out]; exact hlt
      have hcx := hst.out.1.cell j
      rw [List.getElem?_toArray, bv_get (by rw [padR_length (by omega) (by rw [HL.out]; exact hn)]; omega)] at hcx
      obtain ⟨v0, hcz⟩ : ∃ v, wr.cell? ⟨g, j, none⟩ = some v := ⟨_, hcx⟩
      clear hcx
      have hfx := hst.out.1.frozen j
      obtain ⟨x, hx⟩ : ∃ x, b[j] = x := ⟨_, rfl⟩
      have HXX := Lib.hid (show ∀ h2 : j < sb.size, sb[j]'h2 = x from fun h2 => by rw [HBY.out j hjb h2, hx])
      have HN := Lib.hid (show Blk (wr.setCell ⟨g, j, none⟩ (.int .u8 x.toNat)) g 5 (bv (padR b (j + 1))).toArray ∧ Below w.heap.size w (wr.setCell ⟨g, j, none⟩ (.int .u8 x.toNat)) from
        ⟨by have := hst.out.1.set_ j (.int .u8 x.toNat); rw [bv_set, ← hx, padR_set hjb (by rw [HL.out]; exact hn), hx] at this; exact this, hst.out.2.setCell (by rw [HG.out]; exact Nat.le_refl _) _⟩)
      have hi1 : (0 : Int) ≤ (j : Int) := by omega
      have hi2 : (j : Int) < (n : Int) := by omega
      have hi3 : (j : Int) < 128 := by omega
      clear hst hx hjb
      go_wp2_with fail
      go_roundw
      case rel => exact ⟨j + 1, by omega, by go_num, Lib.hid (by rw [HXX.out]; exact HN.out)⟩
      case measure => simp [intOf]; omega
    · obtain rfl : n = j := by omega
      have hl8 : (padR b n).length = 128 := padR_length (by rw [HL.out]; exact Nat.le_refl _) (by rw [HL.out]; exact hn)
      have hcv : (convert 42 9 (.slice (some ⟨g, 0, none⟩) 128 128)).run Try.prog wr = .ok R wr := by
        rw [← HRR.out]
        refine conv_own (B := wr.heap.size) hl8 fun hn0 => ?_
        refine ⟨g, 0, rfl, hst.out.1.lt, fun t ht => ?_⟩
        rw [Nat.zero_add, hst.out.1.cell, List.getElem?_toArray, bv_get ht]
      have HE := Lib.hid hst.out.2
      clear hst hl8
      go_wp2_with fail
      go_ret
      exact ⟨rfl, HE.out⟩
end Go.Proofs.Ythbgcffnnholeaa
