/- The bits of a list of keys. No statement of the seat is proved here. -/
import Derived.Test.YtjahlachoabmkaaBloomHad
namespace Go.Proofs.Ytjahlachoabmkaa
open Go.RowKit

def spk (n p : Nat) (x : KeyT) : List Nat := spotsN n p (keyA x.1 x.2) (keyB x.1)
/-- The bits of keys. -/
def fil (n p : Nat) (L : List KeyT) : Nat → Bool := fun q => L.any fun x => (spk n p x).contains q
theorem fil_nil (n p : Nat) : fil n p [] = fun _ => false := rfl
theorem fil_put (n p : Nat) (L : List KeyT) (x : KeyT) : putL (fil n p L) (spotsN n p (keyA x.1 x.2) (keyB x.1)) = fil n p (L ++ [x]) := by
  funext q
  rw [putL_at]
  simp only [fil, spk, List.any_append, List.any_cons, List.any_nil, Bool.or_false]
  rw [Bool.or_comm]
theorem fil_congr {n p : Nat} {L M : List KeyT} (h : ∀ x, x ∈ L ↔ x ∈ M) : fil n p L = fil n p M := by
  funext q
  rw [Bool.eq_iff_iff]
  simp only [fil, List.any_eq_true]
  exact ⟨fun ⟨x, hx, hq⟩ => ⟨x, (h x).1 hx, hq⟩, fun ⟨x, hx, hq⟩ => ⟨x, (h x).2 hx, hq⟩⟩
theorem bitOf_pk {n : Nat} {S : Nat → Bool} {q : Nat} (hq : q < n) : bitOf (pk n S) q = S q := by
  have hl : q / 8 < (pk n S).length := by rw [pk_length]; omega
  have h := pk_bit hl (q % 8) (Nat.mod_lt _ (by omega))
  rw [show 8 * (q / 8) + q % 8 = q by omega] at h
  unfold bitOf
  rw [show (pk n S).getD (q / 8) 0 = (pk n S)[q / 8] by simp [List.getD, List.getElem?_eq_getElem hl], h]
  simp [hq]
theorem fil_or {n p : Nat} {L M X : List KeyT} (h : ∀ x, x ∈ X ↔ (x ∈ L ∨ x ∈ M)) : pk n (orS (fil n p L) (pk n (fil n p M))) = pk n (fil n p X) :=
  pk_congr fun q hq => by
    show (fil n p L q || bitOf (pk n (fil n p M)) q) = _
    rw [bitOf_pk hq, Bool.eq_iff_iff, Bool.or_eq_true]
    simp only [fil, List.any_eq_true]
    constructor
    · rintro (⟨x, hx, hq⟩ | ⟨x, hx, hq⟩)
      · exact ⟨x, (h x).2 (.inl hx), hq⟩
      · exact ⟨x, (h x).2 (.inr hx), hq⟩
    · rintro ⟨x, hx, hq⟩
      rcases (h x).1 hx with hx | hx
      · exact .inl ⟨x, hx, hq⟩
      · exact .inr ⟨x, hx, hq⟩
end Go.Proofs.Ytjahlachoabmkaa
