/- Slices of slices of bytes that came in. No statement of the seat is proved here. -/
import Derived.Test.YtmnbfmcgnddlaaaParts
import Derived.Test.YtmnbfmcgnddlaaaArgB
import Derived.Deep.Matrix
namespace Go.Proofs.Ytmnbfmcgnddlaaa
open Go.ChangeShapes Go.WideShapes Go.ChangeAt Go.RowKit

theorem bytesOf_take (z : List Int) (k : Nat) : bytesOf (z.take k) = (bytesOf z).take k := by simp [bytesOf]
theorem open_rows_arg {H : Type} {enc : TypeId × Value → H} {w : World} {base : Nat} {fuel : Nat} {a : Option Addr} {len cap : Nat} {x : DataW H × List MemPlace}
    (h : DataW.trod enc Try.prog w base (fun _ => true) true fuel 32 (Value.slice a len cap).cells.toList = some x) :
    ∃ ps : List Part, len = ps.length ∧ Parts w w.heap.size a ps ∧ ps.length ≤ cap ∧ cap ≤ maxLen ∧ True := by
  rcases Go.Deep.open_int_rows Try.underlying32 Try.underlying25 Try.underlying5 (by kernel_rfl) (by kernel_rfl) h with ⟨hcs, _⟩ | ⟨ad, l, c, A, L, Cp, Z, hcs, _, hl, hm, _, hr⟩
  · simp [Value.cells] at hcs
    obtain ⟨rfl, rfl, rfl⟩ := hcs
    exact ⟨[], rfl, Parts.nil _ _ _, by simp, by simp [maxLen], trivial⟩
  · simp [Value.cells] at hcs
    obtain ⟨rfl, rfl, rfl⟩ := hcs
    have hlen : ∀ r, r < cap → (bytesOf ((Z r).take (L r))).length = L r := fun r h => by
      obtain ⟨_, h1, _, h3, _⟩ := hr r h
      rw [bytesOf_length, List.length_take, h3]; omega
    refine ⟨(List.range len).map fun r => (A r, Cp r, bytesOf ((Z r).take (L r))), by simp, ⟨rdv_of _ fun i hi => ?_, fun p hp => ?_⟩, by simpa using hl, hm, trivial⟩
    · have hi' : i < len := by simpa [psv] using hi
      rw [(hr i (by omega)).1]
      simp only [psv, List.getElem_map, List.getElem_range, Part.val]
      rw [hlen i (by omega)]
    · obtain ⟨r, hrl, rfl⟩ := List.mem_map.1 hp
      have hrl := List.mem_range.1 hrl
      obtain ⟨_, h1, h2, h3, h4, _, h6⟩ := hr r (by omega)
      refine ⟨?_, by show (bytesOf ((Z r).take (L r))).length ≤ Cp r; rw [hlen r (by omega)]; exact h1, h2⟩
      show Rd w w.heap.size (A r) (bytesOf ((Z r).take (L r)))
      rcases hA : A r with _ | a'
      · intro h0
        have := (hr r (by omega)).2.2.2.2.2.1 hA
        rw [hlen r (by omega)] at h0
        omega
      · refine rd_of_rdv ?_
        rw [← bytesOf_bv _ (fun n hn => h4 n (List.mem_of_mem_take hn))]
        refine rdv_of _ fun i hi => ?_
        have hi' : i < L r := by simp at hi; omega
        rw [(h6 a' hA).2 i (by omega)]
        simp [List.getD, show i < (Z r).length by omega]
end Go.Proofs.Ytmnbfmcgnddlaaa
