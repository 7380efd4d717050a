/- The contracts of Seal and Open as the statements' walks use them. No statement of the seat is proved here. -/
import Derived.Test.YteemebecllhldaaCrcHead
namespace Go.Proofs.Yteemebecllhldaa
open Go.RowKit

theorem sealOf_take (l : List UInt8) : (sealOf l).take l.length = l := by simp [sealOf]
theorem sealOf_drop (l : List UInt8) : (sealOf l).drop l.length = be 4 (sumOf l).toNat := by simp [sealOf]
theorem val_sum (l : List UInt8) : val (be 4 (sumOf l).toNat) = (sumOf l).toNat := val_be_of_lt (sumOf l).isLt
theorem seal_iff (n : Nat) (l : List UInt8) (h : l.length = n + 4) : val (l.drop n) = (sumOf (l.take n)).toNat ↔ l = sealOf (l.take n) := by
  constructor
  · intro e
    have h4 : (l.drop n).length = 4 := by rw [List.length_drop]; omega
    have hb := be_val (l.drop n)
    rw [h4, e] at hb
    unfold sealOf
    rw [hb, List.take_append_drop]
  · intro e
    have hn : (l.take n).length = n := by rw [List.length_take]; omega
    have e2 := congrArg (List.drop n) e
    have e3 := sealOf_drop (l.take n)
    rw [hn] at e3
    rw [e3] at e2
    rw [e2, val_sum]

/-- The slice's string, in every world behind. -/
theorem Rd.str {w : World} {B : Nat} {A : Option Addr} {l : List UInt8} (h : Rd w B A l) (k c : Nat) (hk : l.length = k) (W : World) (hb : Below B w W) :
    (convert 23 9 (.slice A k c)).run Try.prog W = .ok (.string ⟨l.toArray⟩) W := by
  have := run_str (P := Try.prog) 23 9 5 Try.underlying23 Try.underlying5 Try.underlying9 (h.below hb) c
  rwa [hk] at this

theorem seal_from (w : World) (A : Option Addr) (l : List UInt8) (c k : Nat) (hk : l.length = k) (hr : Rd w w.heap.size A l) (hl : l.length ≤ 140737488350000) (W : World) (hb : Below w.heap.size w W) :
    Calls Try.prog 15 #[.slice A k c] W fun e w' => ∃ A' c', e = .returned (.slice A' (k + 4) c') ∧ Own w' W.heap.size A' c' (k + 4) (sealOf l) ∧ Below w.heap.size w w' ∧ Below W.heap.size W w' :=
  (seal_any A l c k W hk ((hr.below hb).more hb.size) hl).mono fun _ _ ⟨A', c', he, ho, hb'⟩ => ⟨A', c', he, ho, hb.trans (hb'.mono hb.size), hb'⟩

theorem sum_lit_from (w : World) (A : Option Addr) (l : List UInt8) (c k m : Nat) (hk : l.length = k) (hr : Rd w w.heap.size A l) (hl : l.length ≤ 140737488355328) (hm : (sumOf l).toNat = m) (W : World) (hb : Below w.heap.size w W) :
    Calls Try.prog 10 #[.slice A k c] W fun e w' => e = .returned (.int .u32 m) ∧ Below w.heap.size w w' ∧ Below W.heap.size W w' :=
  (sum_lit A l c k m W hk ((hr.below hb).more hb.size) hl hm).mono fun _ _ ⟨he, hb'⟩ => ⟨he, hb.trans (hb'.mono hb.size), hb'⟩
theorem seal_from' (w : World) (A : Option Addr) (l : List UInt8) (c k j : Nat) (hj : k + 4 = j) (hk : l.length = k) (hr : Rd w w.heap.size A l) (hl : l.length ≤ 140737488350000) (W : World) (hb : Below w.heap.size w W) :
    Calls Try.prog 15 #[.slice A k c] W fun e w' => ∃ A' c', e = .returned (.slice A' j c') ∧ Own w' W.heap.size A' c' j (sealOf l) ∧ Below w.heap.size w w' ∧ Below W.heap.size W w' := by
  subst hj; exact seal_from w A l c k hk hr hl W hb
/-- What was sealed is opened. -/
theorem open_yes (w : World) (A : Option Addr) (l : List UInt8) (c n k : Nat) (hk : k = n + 4) (hl : l.length = n) (hc : k ≤ c) (hcm : c ≤ maxLen) (hr : Rd w w.heap.size A (sealOf l)) (hb : n + 4 ≤ 140737488350000) (W : World) (hbW : Below w.heap.size w W) :
    Calls Try.prog 13 #[.slice A k c] W fun e w' => ∃ A' c', e = .returned (.tuple #[.slice A' n c', .bool true]) ∧ Own w' W.heap.size A' c' n l ∧ Below w.heap.size w w' ∧ Below W.heap.size W w' := by
  subst hk
  have h4 : (sealOf l).length = n + 4 := by rw [sealOf_length, hl]
  obtain ⟨g, off, rfl, _⟩ := hr (by omega)
  have h := open_long g off n c (sealOf l) W h4 hc hcm ((hr.below hbW).more hbW.size) hb
  have ht : (sealOf l).take n = l := by rw [← hl]; exact sealOf_take l
  have hd : (sealOf l).drop n = be 4 (sumOf l).toNat := by rw [← hl]; exact sealOf_drop l
  rw [ht, hd, val_sum] at h
  refine h.mono fun e w' ⟨h1, _, h3⟩ => ?_
  obtain ⟨A', c', he, ho⟩ := h1 rfl
  exact ⟨A', c', he, ho, hbW.trans (h3.mono hbW.size), h3⟩
/-- What was not sealed is not. -/
theorem open_no (w : World) (A : Option Addr) (l : List UInt8) (c k : Nat) (hl : l.length = k) (hc : k ≤ c) (hcm : c ≤ maxLen) (hr : Rd w w.heap.size A l) (hb : k ≤ 140737488350000) (hno : ∀ m, l ≠ sealOf m) (W : World) (hbW : Below w.heap.size w W) :
    Calls Try.prog 13 #[.slice A k c] W fun e w' => e = .returned (.tuple #[.slice none 0 0, .bool false]) ∧ Below w.heap.size w w' ∧ Below W.heap.size W w' := by
  by_cases h4 : k < 4
  · exact (open_short A k c W h4).mono fun e w' ⟨he, hw⟩ => ⟨he, by rw [← hw]; exact hbW, by rw [← hw]; exact Below.refl _ _⟩
  · obtain ⟨n, rfl⟩ : ∃ n, k = n + 4 := ⟨k - 4, by omega⟩
    obtain ⟨g, off, rfl, _⟩ := hr (by omega)
    have h := open_long g off n c l W hl hc hcm ((hr.below hbW).more hbW.size) hb
    refine h.mono fun e w' ⟨_, h2, h3⟩ => ⟨h2 (fun e => hno _ ((seal_iff n l hl).1 e)), hbW.trans (h3.mono hbW.size), h3⟩
theorem toArr_inj {l m : List UInt8} (h : l ≠ m) : (⟨l.toArray⟩ : ByteArray) ≠ ⟨m.toArray⟩ := fun e => h (by
  have := congrArg (fun b : ByteArray => b.data.toList) e
  simpa using this)
end Go.Proofs.Yteemebecllhldaa
