/- A slice of Takes that came in. No statement of the seat is proved here. -/
import Derived.Test.YtcjhcapbmdiloaaTakesA
import Derived.ChangeSame
namespace Go.Proofs.Ytcjhcapbmdiloaa
open Go.ChangeShapes Go.WideShapes Go.Deep Go.RowKit
section
variable {H : Type} {enc : TypeId × Value → H} {P : Program} {w : World} {base : Nat} {spare : Nat → Bool} {held : Bool}
theorem open_slice_fields {t e : TypeId} {fs : Array Field} {fuel : Nat} {cs : List Value} {x : DataW H × List MemPlace} (ht : P.underlying t = some (.slice e)) (he : P.underlying e = some (.struct fs))
    (hone : oneCellFields P fs = true) (hC : P.cellsOf e = fs.size) (h : DataW.trod enc P w base spare held fuel t cs = some x) :
    cs = [.slice none 0 0] ∨
    ∃ (a : Addr) (len cap m : Nat), cs = [.slice (some a) len cap] ∧ len ≤ cap ∧ cap ≤ maxLen ∧ m = (if spare a.block then cap else len) ∧
      ∀ i, i < m → ∃ n : Nat, ∀ (j : Nat) (f : Field), fs[j]? = some f → ∃ (v : Value) (y : DataW H × List MemPlace), w.cell? (a.add (i * fs.size + j)) = some v ∧ DataW.trod enc P w base spare held n f.type [v] = some y := by
  rcases open_slice ht h with h0 | ⟨a, len, cap, m, n, D, Pl, hcs, hb, hl, hm, hmm, hx, hi⟩
  · exact .inl h0.1
  · refine .inr ⟨a, len, cap, m, hcs, hl, hm, hmm, fun i him => ?_⟩
    obtain ⟨cs', hc, ht'⟩ := hi i him
    rw [hC] at hc
    obtain ⟨ys, n', hn', hy, hlen, hyl, hf⟩ := DataW.trod_struct he ht'
    obtain ⟨_, hcl, hat⟩ := World.cells?_some hc
    refine ⟨n', fun j f hj => ?_⟩
    obtain ⟨ho, hk⟩ := hone_of hone j f hj
    have hjl : j < fs.size := (Array.getElem?_eq_some_iff.1 hj).1
    have hcell := hat j hjl
    have hv : cs'[j]? = some (cs'[j]'(by omega)) := List.getElem?_eq_getElem (by omega)
    have h1 := hf j f hj
    rw [ho, hk] at h1
    have hone' : (cs'.drop j).take 1 = [cs'[j]'(by omega)] := by
      rw [List.drop_eq_getElem_cons (by omega)]
      rfl
    rw [hone'] at h1
    have hys : ys[j]? = some (ys[j]'(by omega)) := List.getElem?_eq_getElem (by omega)
    refine ⟨_, _, ?_, h1.trans hys⟩
    rw [← Go.Deep.add_add, hcell, hv]
end
theorem take_fields : ∃ f0 f1 : Field, Try.prog.underlying 31 = some (.struct #[f0, f1]) ∧ f0.type = 4 ∧ f1.type = 3 ∧ oneCellFields Try.prog #[f0, f1] = true ∧ Try.prog.cellsOf 31 = 2 := by
  refine ⟨_, _, Try.underlying31, ?_, ?_, ?_, ?_⟩ <;> kernel_rfl
section
variable {H : Type} {enc : TypeId × Value → H} {w : World} {base : Nat}
theorem open_takes_arg {fuel : Nat} {a : Option Addr} {len cap : Nat} {x : DataW H × List MemPlace}
    (h : DataW.trod enc Try.prog w base (fun _ => true) true fuel 23 (Value.slice a len cap).cells.toList = some x) :
    ∃ ts : List (Bool × Int), len = ts.length ∧ RdV w w.heap.size a (tv ts) ∧ ts.length ≤ cap ∧ cap ≤ maxLen ∧ ∀ t ∈ ts, (Lit.int .i64 t.2).wf = true := by
  obtain ⟨f0, f1, hst, hf0, hf1, hone, hC⟩ := take_fields
  rcases open_slice_fields Try.underlying23 hst hone hC h with hcs | ⟨ad, l, c, m, hcs, hl, hm, hmm, hi⟩
  · simp [Value.cells] at hcs
    obtain ⟨rfl, rfl, rfl⟩ := hcs
    exact ⟨[], rfl, fun h => absurd h (by simp [tv]), by simp, by simp [maxLen], by simp⟩
  · simp [Value.cells] at hcs
    obtain ⟨rfl, rfl, rfl⟩ := hcs
    have each : ∀ i, i < len → ∃ t : Bool × Int, w.cell? (ad.add (2 * i)) = some (.bool t.1) ∧ w.cell? (ad.add (2 * i + 1)) = some (.int .i64 t.2) ∧ (Lit.int .i64 t.2).wf = true := by
      intro i him
      obtain ⟨n, hf⟩ := hi i (by simp at hmm; omega)
      obtain ⟨v0, y0, c0, t0⟩ := hf 0 f0 rfl
      obtain ⟨v1, y1, c1, t1⟩ := hf 1 f1 rfl
      rw [hf0] at t0
      rw [hf1] at t1
      obtain ⟨b, e0, _⟩ := DataW.trod_bool Try.underlying4 t0
      obtain ⟨k, e1, _, hw⟩ := DataW.trod_int Try.underlying3 t1
      injection e0 with e0
      injection e1 with e1
      subst e0 e1
      have e2 : i * (#[f0, f1] : Array Field).size = 2 * i := by simp; omega
      rw [e2] at c0 c1
      exact ⟨(b, k), by simpa using c0, c1, hw⟩
    obtain ⟨F, hF⟩ := choose_lt each
    have hlen : ((List.range len).map F).length = len := by simp
    refine ⟨(List.range len).map F, hlen.symm, rdv_of _ fun i hi2 => ?_, by omega, hm, fun t ht => ?_⟩
    · rw [tv_length, hlen] at hi2
      rcases Nat.mod_two_eq_zero_or_one i with h0 | h0
      · obtain ⟨k, rfl⟩ : ∃ k, i = 2 * k := ⟨i / 2, by omega⟩
        have := tv_get0 ((List.range len).map F) k (by omega)
        rw [List.getElem?_eq_getElem (by rw [tv_length, hlen]; exact hi2)] at this
        rw [this, (hF k (by omega)).1]
        simp
      · obtain ⟨k, rfl⟩ : ∃ k, i = 2 * k + 1 := ⟨i / 2, by omega⟩
        have := tv_get1 ((List.range len).map F) k (by omega)
        rw [List.getElem?_eq_getElem (by rw [tv_length, hlen]; exact hi2)] at this
        rw [this, (hF k (by omega)).2.1]
        simp
    · obtain ⟨i, hi3, rfl⟩ := List.mem_map.1 ht
      exact (hF i (List.mem_range.1 hi3)).2.2
end
end Go.Proofs.Ytcjhcapbmdiloaa
