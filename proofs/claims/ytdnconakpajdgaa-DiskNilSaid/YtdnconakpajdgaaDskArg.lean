/- An act by value that came in, with the bound on its bytes that the form itself says. No statement of the seat is proved here. -/
import Derived.Test.YtdnconakpajdgaaDskAct
import Derived.SizedLaws
import Derived.Lib.SmallJoins
namespace Go.Proofs.Ytdnconakpajdgaa
open Go.ChangeShapes Go.WideShapes Go.ChangeAt Go.RowKit Go.Deep Go.Joins

section
variable {H : Type} {enc : TypeId × Value → H} {w : World} {base : Nat}
theorem bytes_sized {n : Nat} {cs : List Value} {x : DataW H × List MemPlace} (h : DataW.trod enc Try.prog w base (fun _ => true) true n 32 cs = some x) (hw : ∀ k ∈ x.1.weights Try.prog 32, k ≤ reachBytes) {A : Option Addr} {l c : Nat} (hcs : cs = [.slice A l c]) : l ≤ 140737488355328 := by
  rcases open_slice Try.underlying32 h with ⟨hc2, _⟩ | ⟨ad, l', c', m, n', D, Pl, hc2, _, hle, _, hmm, hx, _⟩
  · rw [hcs] at hc2
    injection hc2 with e _
    injection e with _ e _
    omega
  · rw [hcs] at hc2
    injection hc2 with e _
    injection e with _ e _
    subst e
    have hb : Try.prog.bytesOf 5 = 1 := by kernel_rfl
    have h1 := hw ((((List.range l).map D).length + ((List.range (m - l)).map fun j => D (l + j)).length) * Try.prog.bytesOf 5) (by rw [hx]; simp [DataW.weights, Try.underlying32])
    rw [hb] at h1
    simp only [List.length_map, List.length_range] at h1
    have := reachBytes_lt
    omega
theorem open_act_sized {v : Value} {r : Reach} {b0 : Nat} {d : DataW H} {p : List MemPlace} (hv : Value.okWide Try.prog w r b0 35 v) (h : DataW.Trod enc Try.prog w base (fun _ => true) true 35 v d p)
    {ts : List TypeId} {ds : List (DataW H)} (hsz : (DataW.weightsEach Try.prog ts ds).all (· ≤ reachBytes) = true) {j : Nat} (hj : ts[j]? = some 35) (hd : ds[j]? = some d) :
    ∃ a : DActT, v = .agg (dcs a).toArray ∧ a.Ok w w.heap.size ∧ a.b.length ≤ 140737488355328 := by
  obtain ⟨f0, f1, f2, f3, f4, hs, e0, e1, e2, e3, e4, o0, o1, o2, o3, o4, hC, hI, hB, hF, h8⟩ := act_fields
  obtain ⟨cs, rfl, hsz2⟩ := okWide_struct hs hv
  obtain ⟨fuel, hf⟩ := h
  obtain ⟨a, hcs, hok⟩ := act_cells hf
  have hcs2 : cs.toList = dcs a := hcs
  refine ⟨a, ?_, hok, ?_⟩
  · rw [← hcs2, Array.toArray_toList]
  · obtain ⟨xs, n, _, hx, hl, hxl, hfs⟩ := DataW.trod_struct hs hf
    have h3 := hfs 3 f3 rfl
    rw [e3, o3, hB] at h3
    have hxl2 : xs.length = 5 := hxl
    rw [List.getElem?_eq_getElem (by omega)] at h3
    have hlist : ((Value.agg cs).cells.toList.drop 3).take 1 = [.slice a.adr a.b.length a.cap] := by
      show (cs.toList.drop 3).take 1 = _
      rw [hcs2]
      rfl
    refine bytes_sized h3 (fun k hk => ?_) hlist
    have hx1 : d = .agg (xs.map (·.1)) := congrArg Prod.fst hx
    have h1 := DataW.weights_mem_each (P := Try.prog) (ts := (#[f0, f1, f2, f3, f4] : Array Field).toList.map (·.type)) (ds := xs.map (·.1)) (j := 3) (t := 32) (by simp [e3]) (by rw [List.getElem?_map, List.getElem?_eq_getElem (by omega)]; rfl) k hk
    have h2 := List.all_eq_true.1 hsz k (DataW.weights_mem_each hj hd k (by rw [hx1]; simp only [DataW.weights, hs]; exact h1))
    simpa using h2
end
end Go.Proofs.Ytdnconakpajdgaa
