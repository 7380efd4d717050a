/- The document's reader (the reference): End, Text. No statement of the seat is proved here. -/
import Derived.Test.YtcjhcapbmdiloaaRefA
namespace Go.Proofs.Ytcjhcapbmdiloaa
open Go.RowKit

def REndPost (w : World) (l : List UInt8) (i : Nat) (f : Int) (e : Ending) (w' : World) : Prop := e = .returned (.int .i64 (endOf (l.drop i) f)) ∧ ∃ m, w' = w.drewN m
theorem endOf_drop (l : List UInt8) (i : Nat) (f : Int) : endOf (l.drop i) f = if f = 0 ∧ i < l.length then 11 else f := by
  unfold endOf
  rw [List.length_drop]
  by_cases h : f = 0 ∧ i < l.length
  · rw [if_pos h, if_pos ⟨h.1, by omega⟩]
  · rw [if_neg h, if_neg (by omega)]

set_option maxHeartbeats 1000000 in
theorem rend_any (g c i : Nat) (A : Option Addr) (l : List UInt8) (f : Int) (w : World) (h : Ref w g A c l i f) :
    Calls Try.prog 17 #[.pointer (some ⟨g, 0, none⟩)] w (REndPost w l i f) := by
  have hc0 := h.1.cell 0
  have hc1 := h.1.cell 1
  have hc2 := h.1.cell 2
  clear h
  by_cases hf : f = 0
  · subst hf
    by_cases hi : i < l.length
    · have FIN := fun q => Lib.hid (show REndPost w l i 0 (.returned (.int .i64 11)) (w.drewN q) from ⟨by rw [endOf_drop, if_pos ⟨rfl, hi⟩], q, rfl⟩)
      have hi' : (i : Int) < (l.length : Int) := by omega
      clear hi
      go_enter Try.func17, Try.ntmps17
      go_wp2_with fail
      go_quiet (fail)
      go_wp2_with fail
      go_ret
      exact (FIN _).out
    · have FIN := fun q => Lib.hid (show REndPost w l i 0 (.returned (.int .i64 0)) (w.drewN q) from ⟨by rw [endOf_drop, if_neg (by omega)], q, rfl⟩)
      have hi' : ¬ (i : Int) < (l.length : Int) := by omega
      clear hi
      go_enter Try.func17, Try.ntmps17
      go_wp2_with fail
      go_quiet (fail)
      go_wp2_with fail
      go_ret
      exact (FIN _).out
  · have FIN := fun q => Lib.hid (show REndPost w l i f (.returned (.int .i64 f)) (w.drewN q) from ⟨by rw [endOf_drop, if_neg (by omega)], q, rfl⟩)
    have hf' : (f == 0) = false := by simpa using hf
    clear hf
    go_enter Try.func17, Try.ntmps17
    go_wp2_with fail
    go_quiet (fail)
    go_wp2_with fail
    go_ret
    exact (FIN _).out

def RTextPost (w : World) (g c : Nat) (A : Option Addr) (l : List UInt8) (i : Nat) (f most : Int) (e : Ending) (w' : World) : Prop :=
  e = .returned (.string ⟨(textS (l.drop i) f most).toArray⟩) ∧ (∃ i', Ref w' g A c l i' (textF (l.drop i) f most) ∧ l.drop i' = textL (l.drop i) f most) ∧ w.grownBy w' (some g)

set_option maxHeartbeats 1000000 in
theorem rrtext_bad (g c i : Nat) (A : Option Addr) (l : List UInt8) (f most : Int) (w : World) (h : Ref w g A c l i f) (hf : ¬ f = 0) :
    Calls Try.prog 11 #[.pointer (some ⟨g, 0, none⟩), .int .i64 most] w (RTextPost w g c A l i f most) := by
  have fin : RTextPost w g c A l i f most (.returned (.string ⟨#[]⟩)) w :=
    ⟨by simp [textS, TextOk, hf], ⟨i, by simpa [textF, hf] using h, by simp [textL, TextOk, hf]⟩, World.grownBy.refl _ _⟩
  have FIN := Lib.hid fin
  have hc2 := h.1.cell 2
  have hf' : (f != 0) = true := by simpa using hf
  clear fin hf h
  go_enter Try.func11, Try.ntmps11
  go_wp2_with fail
  go_ret
  exact FIN.out

set_option maxHeartbeats 1000000 in
theorem rrtext_short (g c i : Nat) (A : Option Addr) (l : List UInt8) (most : Int) (w : World) (h : Ref w g A c l i 0) (hs : l.length - i < 4) :
    Calls Try.prog 11 #[.pointer (some ⟨g, 0, none⟩), .int .i64 most] w (RTextPost w g c A l i 0 most) := by
  have hi := h.2.1
  have hl := h.2.2.1
  have hdl : (l.drop i).length = l.length - i := List.length_drop
  have hno : ¬ TextOk (l.drop i) 0 most := by unfold TextOk; omega
  have FIN := fun q => Lib.hid (show RTextPost w g c A l i 0 most (.returned (.string ⟨#[]⟩)) ((w.drewN q).setCell ⟨g, 2, none⟩ (.int .i64 10)) from
    ⟨by rw [textS, if_neg hno], ⟨i, by rw [textF, if_pos rfl, if_pos (by omega)]; exact (ref_fault h q 10).1, by rw [textL, if_neg hno]⟩, (ref_fault h q 10).2⟩)
  have hc0 := h.1.cell 0
  have hc1 := h.1.cell 1
  have hc2 := h.1.cell 2
  have hz2 := h.1.frozen 2
  have hl' : (l.length : Int) ≤ 100000 := by omega
  have hi' : (i : Int) ≤ (l.length : Int) := by omega
  have hs' : (l.length : Int) - (i : Int) < 4 := by omega
  clear h hdl hno
  go_enter Try.func11, Try.ntmps11
  go_wp2_with fail
  go_quiet (fail)
  go_wp2_with fail
  go_ret
  exact (FIN _).out
end Go.Proofs.Ytcjhcapbmdiloaa
