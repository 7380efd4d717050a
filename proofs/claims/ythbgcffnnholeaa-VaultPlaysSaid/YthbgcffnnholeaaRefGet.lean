/- The document's reader (the reference), of any bytes that memory can hold, without package codec: number, Get. No statement of the seat is proved here. -/
import Derived.Test.YthbgcffnnholeaaMem
import Derived.Test.YthbgcffnnholeaaVMA
import Derived.Deep.QuietTactic
import Derived.BigQuiet
namespace Go.Proofs.Ythbgcffnnholeaa
open Go.RowKit
set_option linter.unusedVariables false

/-- The reference reader's block g: all its bytes l (at A), its place i, its fault f; its bytes lie in other blocks than g. -/
def Ref (w : World) (g : Nat) (A : Option Addr) (c : Nat) (l : List UInt8) (i : Nat) (f : Int) : Prop :=
  Blk w g 86 #[.slice A l.length c, .int .i64 i, .int .i64 f] ∧ i ≤ l.length ∧ l.length ≤ 140737488351232 ∧ l.length ≤ c ∧ Rd w g A l
section
variable {w w' : World} {g c i : Nat} {A : Option Addr} {l : List UInt8} {f : Int}
theorem Ref.below (h : Ref w g A c l i f) (hb : Below w.heap.size w w') : Ref w' g A c l i f :=
  ⟨h.1.below hb h.1.lt, h.2.1, h.2.2.1, h.2.2.2.1, h.2.2.2.2.below (hb.mono (Nat.le_of_lt h.1.lt))⟩
theorem Ref.other {g' : Nat} (h : Ref w g A c l i f) (hb : w.grownBy w' (some g')) (hlt : g < g') : Ref w' g A c l i f :=
  ⟨h.1.same (hb.block g h.1.lt (by simp; omega)), h.2.1, h.2.2.1, h.2.2.2.1, h.2.2.2.2.keep fun p hp => World.cell?_of_block (hb.block p.block (Nat.lt_trans hp h.1.lt) (by simp; omega))⟩
theorem Ref.set_ (h : Ref w g A c l i f) (i' : Nat) (f' : Int) (hi : i' ≤ l.length) (w1 : World) (hb : Blk w1 g 86 #[.slice A l.length c, .int .i64 i', .int .i64 f']) (hg : w.grownBy w1 (some g)) : Ref w1 g A c l i' f' :=
  ⟨hb, hi, h.2.2.1, h.2.2.2.1, h.2.2.2.2.keep fun p hp => World.cell?_of_block (hg.block p.block (Nat.lt_trans hp h.1.lt) (by simp; omega))⟩
end

/-- One byte more, in the walk's own spelling. -/
theorem add_step (t : List UInt8) (c : UInt8) (h : t.length ≤ 7) : val t * 256 + c.toNat < 18446744073709551616 ∧ val (t ++ [c]) = val t * 256 + c.toNat := by
  have h1 := val_lt t
  have h2 : 256 ^ t.length ≤ 256 ^ 7 := Nat.pow_le_pow_right (by omega) h
  have h3 := c.toNat_lt
  exact ⟨by omega, val_snoc _ _⟩

set_option maxHeartbeats 1407374883512320 in
theorem ref_number (g c i at_ many : Nat) (A : Option Addr) (l : List UInt8) (f : Int) (w : World) (h : Ref w g A c l i f) (h8 : many ≤ 8) (hat : at_ + many ≤ l.length) :
    Calls Try.prog 52 #[.pointer (some ⟨g, 0, none⟩), .int .i64 at_, .int .i64 many] w fun e w' => e = .returned (.int .u64 (val ((l.drop at_).take many))) ∧ w = w' := by
  obtain ⟨hb, hi, hl, hlc, hrd⟩ := h
  have hc0 := hb.cell 0
  clear hb
  go_enter Try.func52, Try.ntmps52
  go_wp2
  go_loop [7, 8] (fun n j => ∃ k : Nat, k ≤ many ∧ j = .int .i64 k ∧ n = .int .u64 (val ((l.drop at_).take k))) (fun _ j => many - (intOf j).toNat)
  case atStart => exact ⟨0, Nat.zero_le _, rfl, rfl⟩
  case round =>
    obtain ⟨k, hk, rfl, rfl⟩ := hrel
    by_cases hlt : k < many
    · obtain ⟨gb, off, rfl, hgb, hc⟩ := hrd (by omega)
      have hck := hc (at_ + k) (by omega)
      have hdl : (l.drop at_).length = l.length - at_ := List.length_drop
      have htake : (l.drop at_).take (k + 1) = (l.drop at_).take k ++ [l[at_ + k]'(by omega)] := by
        rw [List.take_succ_eq_append_getElem (by omega), List.getElem_drop]
      have hstep := add_step ((l.drop at_).take k) (l[at_ + k]'(by omega)) (by rw [List.length_take]; omega)
      rw [← htake] at hstep
      have hv := val_lt ((l.drop at_).take k)
      have HS := Lib.hid hstep
      have hstep1 := hstep.1
      clear hc hstep htake hdl hv
      generalize hy : (l[at_ + k]'(by omega)) = y at *
      clear hy
      go_wp2
      refine ⟨⟨k + 1, by omega, by go_num, ?_⟩, by simp [intOf]; omega⟩
      rw [HS.out.2]; simp
    · obtain rfl : k = many := by omega
      go_wp2
      go_ret
      exact ⟨rfl, rfl⟩

def RGetPost (w : World) (g c : Nat) (A : Option Addr) (l : List UInt8) (i : Nat) (f many : Int) (e : Ending) (w' : World) : Prop :=
  e = .returned (.int .u64 (getV (l.drop i) f many)) ∧ (∃ i', Ref w' g A c l i' (getF (l.drop i) f many) ∧ l.drop i' = getL (l.drop i) f many) ∧ w.grownBy w' (some g)

theorem ref_fault {w : World} {g c i : Nat} {A : Option Addr} {l : List UInt8} {f : Int} (h : Ref w g A c l i f) (q : Nat) (f' : Int) :
    Ref ((w.drewN q).setCell ⟨g, 2, none⟩ (.int .i64 f')) g A c l i f' ∧ w.grownBy ((w.drewN q).setCell ⟨g, 2, none⟩ (.int .i64 f')) (some g) := by
  have hg : w.grownBy ((w.drewN q).setCell ⟨g, 2, none⟩ (.int .i64 f')) (some g) := ⟨rfl, rfl, rfl, by simp [World.setCell], fun k _ hk => Below.heap_setCell (w.drewN q) _ _ _ (by rintro rfl; exact hk rfl)⟩
  have hb : Blk (w.drewN q) g 86 #[.slice A l.length c, .int .i64 i, .int .i64 f] := h.1
  exact ⟨h.set_ i f' h.2.1 _ (by simpa using hb.set_ 2 (.int .i64 f')) hg, hg⟩
theorem ref_place {w : World} {g c i : Nat} {A : Option Addr} {l : List UInt8} {f : Int} (h : Ref w g A c l i f) (q i' : Nat) (hi : i' ≤ l.length) (I : Int) (hI : I = (i' : Int)) :
    Ref ((w.drewN q).setCell ⟨g, 1, none⟩ (.int .i64 I)) g A c l i' f ∧ w.grownBy ((w.drewN q).setCell ⟨g, 1, none⟩ (.int .i64 I)) (some g) := by
  subst hI
  have hg : w.grownBy ((w.drewN q).setCell ⟨g, 1, none⟩ (.int .i64 i')) (some g) := ⟨rfl, rfl, rfl, by simp [World.setCell], fun k _ hk => Below.heap_setCell (w.drewN q) _ _ _ (by rintro rfl; exact hk rfl)⟩
  have hb : Blk (w.drewN q) g 86 #[.slice A l.length c, .int .i64 i, .int .i64 f] := h.1
  exact ⟨h.set_ i' f hi _ (by simpa using hb.set_ 1 (.int .i64 i')) hg, hg⟩

set_option maxHeartbeats 1407374883512320 in
theorem rget_bad (g c i : Nat) (A : Option Addr) (l : List UInt8) (f many : Int) (w : World) (h : Ref w g A c l i f) (hf : ¬ f = 0) :
    Calls Try.prog 42 #[.pointer (some ⟨g, 0, none⟩), .int .i64 many] w (RGetPost w g c A l i f many) := by
  have fin : RGetPost w g c A l i f many (.returned (.int .u64 0)) w :=
    ⟨by simp [getV, hf], ⟨i, by simpa [getF, hf] using h, by simp [getL, hf]⟩, World.grownBy.refl _ _⟩
  have FIN := Lib.hid fin
  have hc2 := h.1.cell 2
  have hf' : (f != 0) = true := by simpa using hf
  clear fin hf h
  go_enter Try.func42, Try.ntmps42
  go_wp2
  go_ret
  exact FIN.out

set_option maxHeartbeats 1407374883512320 in
theorem rget_arg (g c i : Nat) (A : Option Addr) (l : List UInt8) (many : Int) (w : World) (h : Ref w g A c l i 0) (hm : many < 0 ∨ 8 < many) :
    Calls Try.prog 42 #[.pointer (some ⟨g, 0, none⟩), .int .i64 many] w (RGetPost w g c A l i 0 many) := by
  have R := ref_fault h 0 1
  have fin : RGetPost w g c A l i 0 many (.returned (.int .u64 0)) (w.setCell ⟨g, 2, none⟩ (.int .i64 1)) := by
    refine ⟨by rw [getV, if_neg (by omega)]; rfl, ⟨i, ?_, by rw [getL, if_neg (by omega)]⟩, R.2⟩
    rw [getF, if_pos rfl, if_pos hm]; exact R.1
  have FIN := Lib.hid fin
  have hc2 := h.1.cell 2
  have hz2 := h.1.frozen 2
  clear fin h R
  rcases hm with hm | hm
  · go_enter Try.func42, Try.ntmps42
    go_wp2
    go_ret
    exact FIN.out
  · have hm0 : ¬ many < 0 := by omega
    go_enter Try.func42, Try.ntmps42
    go_wp2
    go_ret
    exact FIN.out

set_option maxHeartbeats 1407374883512320 in
theorem rget_short (g c i : Nat) (A : Option Addr) (l : List UInt8) (many : Int) (w : World) (h : Ref w g A c l i 0) (hm0 : ¬ many < 0) (hm8 : ¬ 8 < many) (hs : (l.length : Int) - (i : Int) < many) :
    Calls Try.prog 42 #[.pointer (some ⟨g, 0, none⟩), .int .i64 many] w (RGetPost w g c A l i 0 many) := by
  have hi := h.2.1
  have hl := h.2.2.1
  have hdl : (l.drop i).length = l.length - i := List.length_drop
  have fin : ∀ q, RGetPost w g c A l i 0 many (.returned (.int .u64 0)) ((w.drewN q).setCell ⟨g, 2, none⟩ (.int .i64 10)) := by
    intro q
    have R := ref_fault h q 10
    refine ⟨by rw [getV, if_neg (by omega)]; rfl, ⟨i, ?_, by rw [getL, if_neg (by omega)]⟩, R.2⟩
    rw [getF, if_pos rfl, if_neg (by omega), if_pos (by omega)]; exact R.1
  have FIN := fun q => Lib.hid (fin q)
  have hc0 := h.1.cell 0
  have hc1 := h.1.cell 1
  have hc2 := h.1.cell 2
  have hz2 := h.1.frozen 2
  have hl' : (l.length : Int) ≤ 140737488351232 := by omega
  have hi' : (i : Int) ≤ (l.length : Int) := by omega
  clear fin h hdl
  go_enter Try.func42, Try.ntmps42
  go_wp2_with fail
  go_quiet (fail)
  go_wp2_with fail
  go_ret
  exact (FIN _).out

set_option maxHeartbeats 1407374883512320 in
theorem rget_ok (g c i : Nat) (A : Option Addr) (l : List UInt8) (k : Nat) (w : World) (h : Ref w g A c l i 0) (hk8 : k ≤ 8) (hk : i + k ≤ l.length) :
    Calls Try.prog 42 #[.pointer (some ⟨g, 0, none⟩), .int .i64 k] w (RGetPost w g c A l i 0 k) := by
  have hi := h.2.1
  have hl := h.2.2.1
  have hdl : (l.drop i).length = l.length - i := List.length_drop
  have fin : ∀ q I, I = ((i + k : Nat) : Int) → RGetPost w g c A l i 0 k (.returned (.int .u64 (val ((l.drop i).take k)))) ((w.drewN q).setCell ⟨g, 1, none⟩ (.int .i64 I)) := by
    intro q I hI
    have R := ref_place h q (i + k) hk I hI
    refine ⟨by rw [getV, if_pos (by omega), Int.toNat_natCast], ⟨i + k, ?_, ?_⟩, R.2⟩
    · rw [getF, if_pos rfl, if_neg (by omega), if_neg (by omega)]; exact R.1
    · rw [getL, if_pos (by omega), Int.toNat_natCast, List.drop_drop]
  have FIN := fun q I hI => Lib.hid (fin q I hI)
  have hc0 := h.1.cell 0
  have hc1 := h.1.cell 1
  have hc2 := h.1.cell 2
  have hz1 := h.1.frozen 1
  have hl' : (l.length : Int) ≤ 140737488351232 := by omega
  have hi' : (i : Int) + (k : Int) ≤ (l.length : Int) := by omega
  have NUM := fun q => Lib.hid (ref_number g c i i k A l 0 (w.drewN q) (show Ref (w.drewN q) g A c l i 0 from h) hk8 hk)
  clear fin h hdl
  go_enter Try.func42, Try.ntmps42
  go_wp2_with fail
  go_quiet (fail)
  go_wp2_with (go_at_call 52; refine (NUM _).out.mono ?_; rintro e w' ⟨rfl, rfl⟩)
  go_ret
  exact (FIN _ _ (by omega)).out

theorem rget_any (g c i : Nat) (A : Option Addr) (l : List UInt8) (f many : Int) (w : World) (h : Ref w g A c l i f) :
    Calls Try.prog 42 #[.pointer (some ⟨g, 0, none⟩), .int .i64 many] w (RGetPost w g c A l i f many) := by
  by_cases hf : f = 0
  · subst hf
    by_cases hm : many < 0 ∨ 8 < many
    · exact rget_arg g c i A l many w h hm
    · by_cases hs : (l.length : Int) - (i : Int) < many
      · exact rget_short g c i A l many w h (by omega) (by omega) hs
      · obtain ⟨k, rfl⟩ := Int.eq_ofNat_of_zero_le (show 0 ≤ many by omega)
        exact rget_ok g c i A l k w h (by omega) (by have := h.2.1; omega)
  · exact rget_bad g c i A l f many w h hf
end Go.Proofs.Ythbgcffnnholeaa
