/- The reference's Put and Get of package vault's statements, any shelf. No statement of the seat is proved here. -/
import Derived.Test.YthbgcffnnholeaaVtRefC
namespace Go.Proofs.Ythbgcffnnholeaa
open Go.RowKit
set_option linter.unusedVariables false

section
variable {w0 w : World} {s : Addr} {N : Nat → Prop} {S : DS} {V : VS}
theorem rvput_any (h : Turned Rst w0 s N w S) (hk : S.Ok) (hV : V.Fits S.n) (at_ : Int) (b : List UInt8) (n : Nat) (hl : b.length = n) (hf : FewBy (nSec (n + 4)) S) :
    Calls Try.prog 17 #[rvv s V, .int .i64 at_, .string ⟨b.toArray⟩] w fun x w' => x = .returned (.int .i64 ((putV V S at_ b).2 : Nat)) ∧ Turned Rst w0 s N w' (putV V S at_ b).1 := by
  by_cases h1 : at_ < 0 ∨ (V.n : Int) ≤ at_
  · have e : putV V S at_ b = (S, 1) := by unfold putV; rw [if_pos h1]
    rw [e]
    exact (rvput_arg V at_ _ h1 w).mono fun x w' ⟨hx, hb⟩ => ⟨hx, rst_on h hb⟩
  · obtain ⟨t, rfl⟩ : ∃ t : Nat, at_ = t := ⟨at_.toNat, by omega⟩
    by_cases h2 : V.room < n
    · have e : putV V S t b = (S, 4) := by unfold putV; rw [if_neg h1, if_pos (by rw [hl]; exact h2)]
      rw [e]
      exact (rvput_long V hV.each t (by omega) ⟨b.toArray⟩ n hl h2 w).mono fun x w' ⟨hx, hb⟩ => ⟨hx, rst_on h hb⟩
    · have e : putV V S t b = putL (nSec (n + 4)) S (V.first t) (headB b) := by unfold putV; rw [if_neg h1, if_neg (by rw [hl]; exact h2), hl, Int.toNat_natCast]
      rw [e]
      exact rvput_go h V hV hk.le t (by omega) b n hl (by omega) hf
theorem rvget_any (h : Turned Rst w0 s N w S) (hk : S.Ok) (hV : V.Fits S.n) (hf : Few S) (at_ : Int) :
    Calls Try.prog 19 #[rvv s V, .int .i64 at_] w fun x w' => x = .returned (.tuple #[.string ⟨(vgetB V S at_).toArray⟩, .int .i64 (vgetE V S at_ : Nat)]) ∧ Turned Rst w0 s N w' S ∧ Below w.heap.size w w' := by
  by_cases h1 : at_ < 0 ∨ (V.n : Int) ≤ at_
  · have e1 : vgetE V S at_ = 1 := by unfold vgetE; rw [if_pos h1]
    have e2 : vgetB V S at_ = [] := by unfold vgetB; rw [if_neg (by rw [e1]; decide)]
    rw [e1, e2]
    exact (rvget_arg V at_ h1 w).mono fun x w' ⟨hx, hb⟩ => ⟨hx, rst_on h hb, hb⟩
  · obtain ⟨t, rfl⟩ : ∃ t : Nat, at_ = t := ⟨at_.toNat, by omega⟩
    cases ho : S.off with
    | true =>
      have e1 : vgetE V S t = 6 := by unfold vgetE; rw [if_neg h1, if_pos ho]
      have e2 : vgetB V S t = [] := by unfold vgetB; rw [if_neg (by rw [e1]; decide)]
      rw [e1, e2]
      exact (rvget_dead h hk.le hf ho V hV t (by omega)).mono fun x w' ⟨hx, hb⟩ => ⟨hx, rst_on h hb, hb⟩
    | false => exact (rvget_on h hk hf ho V hV t (by omega)).mono fun x w' ⟨hx, hb⟩ => ⟨hx, rst_on h hb, hb⟩
end
end Go.Proofs.Ythbgcffnnholeaa
