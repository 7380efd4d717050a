/- Plain mathematics for package vault: shelves of a disk whose power stays on. No statement of the seat is proved here; nothing of the program is imported. -/
import Derived.Test.YthbgcffnnholeaaVMA
namespace Go.Proofs.Ythbgcffnnholeaa
set_option linter.unusedVariables false

/-- The power is on, and does not go off. -/
def On (S : DS) : Prop := S.off = false ∧ S.left = -1
theorem On.tick {S : DS} (h : On S) : tickS S = S := by unfold tickS; rw [if_neg (by rw [h.2]; omega)]
theorem on_new (n : Nat) : On (newS n) := ⟨rfl, rfl⟩
theorem On.write {S : DS} (h : On S) {a : Nat} (ha : a < S.n) {x : List UInt8} (hx : x.length ≤ 128) :
    writeE S a x.length = 0 ∧ On (writeS S a x) ∧ (writeS S a x).n = S.n ∧ (writeS S a x).cnt = S.cnt + 1 ∧ (∀ j, nowS (writeS S a x) j = if j = a then padS x else nowS S j) ∧ (writeS S a x).put.length = S.put.length + 1 := by
  have hb : ¬ badW S a x.length := by unfold badW; omega
  have ho : ¬ (tickS S).off = true := by rw [h.tick, h.1]; decide
  have e : writeS S a x = doneS { S with put := S.put ++ [(a, padS x)] } := by
    unfold writeS; rw [if_neg hb, if_neg ho, h.tick]; rfl
  refine ⟨by unfold writeE; rw [if_neg hb, if_neg ho], ?_, by rw [e]; rfl, by rw [e]; rfl, fun j => ?_, by rw [e]; simp [doneS]⟩
  · rw [e]
    refine ⟨h.1, ?_⟩
    show (if 0 < S.left then S.left - 1 else S.left) = -1
    rw [h.2]; rfl
  · rw [e]
    show flushL (S.put ++ [(a, padS x)]) S.safe j = _
    rw [flushL_snoc, updS]
    rfl
/-- The sectors that bytes are written to. -/
def pieceS (x : List UInt8) (j : Nat) : List UInt8 := padS ((x.drop (128 * j)).take 128)
theorem On.putL : ∀ (k : Nat) {S : DS} (h : On S) {a : Nat} (ha : a + k ≤ S.n) (x : List UInt8),
    (putL k S a x).2 = 0 ∧ On (putL k S a x).1 ∧ (putL k S a x).1.n = S.n ∧ (putL k S a x).1.cnt = S.cnt + k ∧ (putL k S a x).1.put.length = S.put.length + k ∧ ∀ j, nowS (putL k S a x).1 j = if a ≤ j ∧ j < a + k then pieceS x (j - a) else nowS S j
  | 0, S, h, a, ha, x => ⟨rfl, h, rfl, rfl, rfl, fun j => by rw [if_neg (by omega)]; rfl⟩
  | k + 1, S, h, a, ha, x => by
    obtain ⟨w1, w2, w3, w4, w5, w6⟩ := h.write (a := a) (by omega) (x := x.take 128) (by rw [List.length_take]; omega)
    obtain ⟨i1, i2, i3, i4, i5, i6⟩ := On.putL k w2 (a := a + 1) (by rw [w3]; omega) (x.drop 128)
    rw [putL_go w1]
    refine ⟨i1, i2, i3.trans w3, by rw [i4, w4]; omega, by rw [i5, w6]; omega, fun j => ?_⟩
    rw [i6 j, w5 j]
    by_cases h1 : a + 1 ≤ j ∧ j < a + 1 + k
    · rw [if_pos h1, if_pos (by omega)]
      unfold pieceS
      rw [List.drop_drop, show 128 + 128 * (j - (a + 1)) = 128 * (j - a) by omega]
    · rw [if_neg h1]
      by_cases h2 : j = a
      · subst h2
        rw [if_pos rfl, if_pos (by omega), Nat.sub_self]
        rfl
      · rw [if_neg h2, if_neg (by omega)]
def catF (f : Nat → List UInt8) : Nat → List UInt8
  | 0 => []
  | k + 1 => catF f k ++ f k
theorem rowS_cat (S : DS) (a : Nat) : ∀ k, rowS S a k = catF (fun j => nowS S (a + j)) k
  | 0 => rfl
  | k + 1 => by rw [rowS, catF, rowS_cat S a k]
theorem catF_same {f g : Nat → List UInt8} : ∀ k, (∀ j, j < k → f j = g j) → catF f k = catF g k
  | 0, _ => rfl
  | k + 1, h => by rw [catF, catF, catF_same k fun j hj => h j (by omega), h k (by omega)]
theorem catF_front (x : List UInt8) : ∀ k, 128 * k ≤ x.length → catF (pieceS x) k = x.take (128 * k)
  | 0, _ => by simp [catF]
  | k + 1, h => by
    rw [catF, catF_front x k (by omega), pieceS, padS_full (by rw [List.length_take, List.length_drop]; omega), show 128 * (k + 1) = 128 * k + 128 by omega, List.take_add]
theorem catF_app (f : Nat → List UInt8) (k : Nat) : ∀ m, ∃ r, catF f (k + m) = catF f k ++ r
  | 0 => ⟨[], by simp⟩
  | m + 1 => by
    obtain ⟨r, hr⟩ := catF_app f k m
    exact ⟨r ++ f (k + m), by rw [← Nat.add_assoc, catF, hr, List.append_assoc]⟩
/-- What was written stands at the head of the sectors. -/
theorem catF_head {x : List UInt8} {f : Nat → List UInt8} {k m : Nat} (h1 : 128 * k < x.length) (h2 : x.length ≤ 128 * (k + 1)) (hm : k + 1 ≤ m) (hf : ∀ j, j < k + 1 → f j = pieceS x j) : ∃ r, catF f m = x ++ r := by
  obtain ⟨r, hr⟩ := catF_app f (k + 1) (m - (k + 1))
  rw [show k + 1 + (m - (k + 1)) = m by omega] at hr
  rw [hr, catF_same (k + 1) hf, catF, catF_front x k (by omega), pieceS, padS]
  have e : (x.drop (128 * k)).take 128 = x.drop (128 * k) := List.take_of_length_le (by rw [List.length_drop]; omega)
  rw [e]
  exact ⟨List.replicate (128 - (x.drop (128 * k)).length) 0 ++ r, by rw [← List.append_assoc, List.take_append_drop, List.append_assoc]⟩
theorem val_four (n : Nat) (b r : List UInt8) (h : n < 4294967296) : val ((be 4 n ++ b ++ r).take 4) = n := by
  rw [List.append_assoc, List.take_left' (be_length 4 n)]
  exact val_be_of_lt h
/-- What each shelf has; what lies outside of them is as it was made. -/
structure Has (V : VS) (S : DS) (last : Nat → List UInt8) : Prop where
  on : On S
  fits : V.Fits S.n
  got : ∀ t, t < V.n → vgetE V S t = 0 ∧ vgetB V S t = last t
  out : ∀ j, (j < V.from_ ∨ V.from_ + V.n * V.each ≤ j) → nowS S j = List.replicate 128 0
theorem zero_take (k : Nat) (m : Nat) : val ((List.replicate k (0 : UInt8)).take m) = 0 := by
  rw [List.take_replicate]
  generalize min m k = j
  induction j with
  | zero => rfl
  | succ j ih => rw [List.replicate_succ', val_snoc, ih]; rfl
theorem rowS_new (n a : Nat) : ∀ k, rowS (newS n) a k = List.replicate (k * 128) 0
  | 0 => by simp [rowS]
  | k + 1 => by
    rw [rowS, rowS_new n a k]
    show List.replicate (k * 128) 0 ++ List.replicate 128 0 = _
    rw [List.replicate_append_replicate]
    congr 1; omega
theorem has_new {V : VS} {n : Nat} (h : V.Fits n) : Has V (newS n) fun _ => [] := by
  refine ⟨on_new n, h, fun t ht => ?_, fun j _ => rfl⟩
  have hr : V.row (newS n) t = List.replicate (V.each * 128) 0 := rowS_new n _ _
  have e : vgetE V (newS n) t = 0 := by
    unfold vgetE
    rw [if_neg (by omega), if_neg (by show ¬ false = true; decide), Int.toNat_natCast, hr, zero_take, if_neg (by omega)]
  refine ⟨e, ?_⟩
  unfold vgetB
  rw [if_pos e, Int.toNat_natCast, hr, zero_take, List.take_zero]
theorem putV_long {V : VS} {S : DS} {t : Nat} {b : List UInt8} (ht : t < V.n) (hb : V.room < b.length) : putV V S t b = (S, 4) := by
  unfold putV
  rw [if_neg (by omega), if_pos hb]
/-- Bytes that fit are put: that shelf has them, the others what they had. -/
theorem Has.put {V : VS} {S : DS} {last : Nat → List UInt8} (h : Has V S last) {t : Nat} (ht : t < V.n) {b : List UInt8} (hb : b.length ≤ V.room) (hl : b.length < 4294967296) :
    (putV V S t b).2 = 0 ∧ Has V (putV V S t b).1 (fun u => if u = t then b else last u) ∧ (putV V S t b).1.cnt = S.cnt + nSec (b.length + 4) ∧ (putV V S t b).1.put.length = S.put.length + nSec (b.length + 4) ∧ (putV V S t b).1.n = S.n := by
  have hE := h.fits.each
  have hk : nSec (b.length + 4) ≤ V.each := by unfold nSec; unfold VS.room at hb; omega
  have hin : V.first t + nSec (b.length + 4) ≤ S.n := by
    have := h.fits.in_ ht (j := V.each - 1) (by omega)
    omega
  have e : putV V S t b = putL (nSec (b.length + 4)) S (V.first t) (headB b) := by
    unfold putV
    rw [if_neg (by omega), if_neg (by omega), Int.toNat_natCast]
  rw [e]
  obtain ⟨p1, p2, p3, p4, p5, p6⟩ := h.on.putL _ hin (headB b)
  refine ⟨p1, ⟨p2, by rw [p3]; exact h.fits, fun u hu => ?_, fun j hj => ?_⟩, p4, p5, p3⟩
  · by_cases hut : u = t
    · subst hut
      rw [if_pos rfl]
      have hlen := headB_length b
      obtain ⟨k, hk2⟩ : ∃ k, nSec (b.length + 4) = k + 1 := ⟨nSec (b.length + 4) - 1, by unfold nSec; omega⟩
      obtain ⟨r, hr⟩ := catF_head (x := headB b) (f := fun j => nowS (putL (nSec (b.length + 4)) S (V.first u) (headB b)).1 (V.first u + j)) (k := k) (m := V.each) (by rw [hlen]; unfold nSec at hk2; omega) (by rw [hlen]; unfold nSec at hk2; omega) (by omega) fun j hj => by
        show nowS _ (V.first u + j) = _
        rw [p6, if_pos (by omega), Nat.add_sub_cancel_left]
      have hrow : V.row (putL (nSec (b.length + 4)) S (V.first u) (headB b)).1 u = be 4 b.length ++ b ++ r := by
        unfold VS.row
        rw [rowS_cat, hr]; rfl
      have hv := val_four b.length b r hl
      have eE : vgetE V (putL (nSec (b.length + 4)) S (V.first u) (headB b)).1 u = 0 := by
        unfold vgetE
        rw [if_neg (by omega), if_neg (by rw [p2.1]; decide), Int.toNat_natCast, hrow, hv, if_neg (by omega)]
      refine ⟨eE, ?_⟩
      unfold vgetB
      rw [if_pos eE, Int.toNat_natCast, hrow, hv, List.append_assoc, List.drop_left' (be_length 4 _), List.take_left' rfl]
    · rw [if_neg hut]
      have hrow : V.row (putL (nSec (b.length + 4)) S (V.first t) (headB b)).1 u = V.row S u := by
        unfold VS.row
        rw [rowS_cat, rowS_cat]
        refine catF_same _ fun j hj => ?_
        rw [p6, if_neg]
        unfold VS.first
        rcases Nat.lt_or_gt_of_ne hut with hlt | hlt
        · have := Nat.mul_le_mul_right V.each (show u + 1 ≤ t by omega)
          rw [Nat.add_mul] at this
          omega
        · have := Nat.mul_le_mul_right V.each (show t + 1 ≤ u by omega)
          rw [Nat.add_mul] at this
          omega
      have h2 := h.got u hu
      have hon := h.on
      unfold vgetB vgetE at h2 ⊢
      rw [p2.1, Int.toNat_natCast, hrow]
      rw [hon.1, Int.toNat_natCast] at h2
      exact h2
  · rw [p6, if_neg]
    · exact h.out j hj
    · unfold VS.first
      have := Nat.mul_le_mul_right V.each (show t + 1 ≤ V.n by omega)
      rw [Nat.add_mul] at this
      omega
/-- Bytes are put, whether they fit or not. -/
theorem Has.putAny {V : VS} {S : DS} {last : Nat → List UInt8} (h : Has V S last) {t : Nat} (ht : t < V.n) {b : List UInt8} {n : Nat} (hn : b.length = n) (hl : n < 4294967296) :
    ∃ fe dn S' l', (putV V S t b).2 = fe ∧ (putV V S t b).1 = S' ∧ Has V S' l' ∧ S'.cnt = S.cnt + dn ∧ S'.put.length = S.put.length + dn ∧ S'.n = S.n ∧
      ((fe = 0 ∧ n ≤ V.room ∧ dn = nSec (n + 4) ∧ l' = fun u => if u = t then b else last u) ∨ (fe = 4 ∧ V.room < n ∧ dn = 0 ∧ l' = last)) := by
  by_cases hr : n ≤ V.room
  · obtain ⟨h1, h2, h3, h4, h5⟩ := h.put ht (b := b) (by omega) (by omega)
    exact ⟨0, nSec (n + 4), _, _, h1, rfl, h2, by rw [h3, hn], by rw [h4, hn], h5, .inl ⟨rfl, hr, rfl, rfl⟩⟩
  · have e := putV_long (S := S) ht (b := b) (by omega)
    exact ⟨4, 0, S, last, by rw [e], by rw [e], h, rfl, rfl, rfl, .inr ⟨rfl, by omega, rfl, rfl⟩⟩
/-- A sector outside is read. -/
theorem Has.read {V : VS} {S : DS} {last : Nat → List UInt8} (h : Has V S last) {j : Nat} (hj : j < V.from_ ∨ V.from_ + V.n * V.each ≤ j) (hn : j < S.n) : readE S j = 0 ∧ readS S j = List.replicate 128 0 := by
  have e : readE S j = 0 := by rw [readE_in hn, if_neg (by rw [h.on.1]; decide)]
  refine ⟨e, ?_⟩
  unfold readS
  rw [if_pos e, Int.toNat_natCast]
  exact h.out j hj
end Go.Proofs.Ythbgcffnnholeaa
