/- Slices of bytes, and numbers, that came in. No statement of the seat is proved here. -/
import Derived.Test.YtiomfkhblmmdoaaOpen
namespace Go.Proofs.Ytiomfkhblmmdoaa
open Go.RowKit

theorem rd_of_rdv {w : World} {B : Nat} {A : Option Addr} {l : List UInt8} (h : RdV w B A (bv l)) : Rd w B A l := fun hn => by
  obtain ⟨g, off, e, hg, hc⟩ := h (by rw [bv_length]; exact hn)
  refine ⟨g, off, e, hg, fun j hj => ?_⟩
  rw [hc j (by rw [bv_length]; exact hj), ← bv_get hj, List.getElem?_eq_getElem]
/-- The bytes whose numbers those are. -/
def bytesOf (z : List Int) : List UInt8 := z.map fun n => UInt8.ofNat n.toNat
theorem bytesOf_length (z : List Int) : (bytesOf z).length = z.length := by simp [bytesOf]
theorem bytesOf_bv (z : List Int) (hw : ∀ n ∈ z, (Lit.int .u8 n).wf = true) : z.map (Value.int .u8) = bv (bytesOf z) := by
  unfold bv bytesOf
  rw [List.map_map]
  refine List.map_congr_left fun n hn => ?_
  have := bounds_u8 (hw n hn)
  simp only [Function.comp, UInt8.toNat_ofNat']
  congr 1
  omega
theorem rd_bytes {w : World} {B : Nat} {A : Option Addr} {z : List Int} (hr : RdV w B A (z.map (Value.int .u8))) (hw : ∀ n ∈ z, (Lit.int .u8 n).wf = true) : Rd w B A (bytesOf z) :=
  rd_of_rdv (by rw [← bytesOf_bv z hw]; exact hr)
theorem u32_of {a : Int} (h : (Lit.int .u32 a).wf = true) : ∃ s : BitVec 32, a = ((s.toNat : Nat) : Int) := by
  have b := bounds_u32 h
  refine ⟨BitVec.ofNat 32 a.toNat, ?_⟩
  rw [BitVec.toNat_ofNat]
  omega
end Go.Proofs.Ytiomfkhblmmdoaa
