/- Slices of integers that came in, with the bound on their size that the form itself says. No statement of the seat is proved here. -/
import Derived.Test.YtmfbidohmkoeeaaArgB
import Derived.SizedLaws
namespace Go.Proofs.Ytmfbidohmkoeeaa
open Go.ChangeShapes Go.WideShapes Go.ChangeAt Go.RowKit

section
variable {H : Type} {enc : TypeId × Value → H} {P : Program} {w : World} {base : Nat}
theorem open_ints_sized {t e : TypeId} {k : IntKind} {fuel : Nat} {a : Option Addr} {len cap : Nat} {x : DataW H × List MemPlace} (ht : P.underlying t = some (.slice e)) (he : P.underlying e = some (.int k)) (hc : P.cellsOf e = 1)
    (h : DataW.trod enc P w base (fun _ => true) true fuel t (Value.slice a len cap).cells.toList = some x)
    {ts : List TypeId} {ds : List (DataW H)} (hsz : (DataW.weightsEach P ts ds).all (· ≤ reachBytes) = true) {j : Nat} (hj : ts[j]? = some t) (hd : ds[j]? = some x.1) :
    ∃ zs : List Int, len = zs.length ∧ RdV w w.heap.size a (zs.map (Value.int k)) ∧ zs.length ≤ cap ∧ cap ≤ maxLen ∧ (∀ n ∈ zs, (Lit.int k n).wf = true) ∧ cap * P.bytesOf e ≤ reachBytes := by
  obtain ⟨zs, h1, h2, h3, h4, h5⟩ := open_ints_arg ht he hc h
  refine ⟨zs, h1, h2, h3, h4, h5, ?_⟩
  rcases open_ints ht he hc h with ⟨hcs, _⟩ | ⟨ad, l, c, ys, hcs, _, hl, hm, hz, hx, hcell, hwz⟩
  · simp [Value.cells] at hcs
    obtain ⟨_, _, rfl⟩ := hcs
    simp
  · simp [Value.cells] at hcs
    obtain ⟨_, _, rfl⟩ := hcs
    subst hx
    have := sized_slice hsz hj hd ht
    have hz' : ys.length = cap := by simpa using hz
    simp only [lits, List.length_map, List.length_take, List.length_drop] at this
    rw [show min l ys.length + (ys.length - l) = cap by omega] at this
    exact this
end
theorem u8_of {a : Int} (h : (Lit.int .u8 a).wf = true) : ∃ s : UInt8, a = ((s.toNat : Nat) : Int) := by
  have b := bounds_u8 h
  refine ⟨UInt8.ofNat a.toNat, ?_⟩
  rw [UInt8.toNat_ofNat']
  omega
end Go.Proofs.Ytmfbidohmkoeeaa
