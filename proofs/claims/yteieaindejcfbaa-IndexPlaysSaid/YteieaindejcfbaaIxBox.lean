/- A box of the call's own stays while an index turns; what is put is there, what is taken out is not. No statement of the seat is proved here. -/
import Derived.Test.YteieaindejcfbaaIxKit
namespace Go.Proofs.Yteieaindejcfbaa
open Go.RowKit
set_option linter.unusedVariables false

section
variable {It : World → Addr → (Nat → Prop) → List RowT → Prop} {w0 w w5 : World} {s : Addr} {N : Nat → Prop} {L : List RowT} {pb : Nat} {ty : TypeId} {cs : Array Value}
theorem IndexesOk.putBox (K : IndexesOk It) (h : Turned It w0 s N w L) (hb : Below w.heap.size w w5) (hp : Blk w5 pb ty cs) (hpb : w.heap.size ≤ pb) (hl : L.length ≤ 10000) (k : KeyT) (hk : KeyT.Ok k) (p : Int × Int) (hpl : PlOk p) :
    Calls Try.prog 13 #[.pointer (some s), kv k, pv p] w5 fun e w' => e = .returned (.bool (hasX L k)) ∧ Turned It w0 s N w' (putX L k p) ∧ Blk w' pb ty cs := by
  obtain ⟨F, h1, h2, h3⟩ := h
  have hF := K.lt h1
  have h1' := K.keep h1 fun g hg => hb.block g (hF g hg)
  exact (K.put s F L k p w5 h1' hl hk hpl).mono fun e w' ⟨he, ht⟩ => ⟨he, Turned.step h2 (h3.trans (Only.of_below (F := F) hb) h2) ht, by
    obtain ⟨F', _, _, a3⟩ := ht
    exact hp.same (a3.block pb hp.lt fun hf => by have := hF pb hf; omega)⟩
theorem IndexesOk.dropBox (K : IndexesOk It) (h : Turned It w0 s N w L) (hb : Below w.heap.size w w5) (hp : Blk w5 pb ty cs) (hpb : w.heap.size ≤ pb) (hl : L.length ≤ 10000) (k : KeyT) (hk : KeyT.Ok k) :
    Calls Try.prog 11 #[.pointer (some s), kv k] w5 fun e w' => e = .returned (.bool (hasX L k)) ∧ Turned It w0 s N w' (dropX L k) ∧ Blk w' pb ty cs := by
  obtain ⟨F, h1, h2, h3⟩ := h
  have hF := K.lt h1
  have h1' := K.keep h1 fun g hg => hb.block g (hF g hg)
  exact (K.drop s F L k w5 h1' hl hk).mono fun e w' ⟨he, ht⟩ => ⟨he, Turned.step h2 (h3.trans (Only.of_below (F := F) hb) h2) ht, by
    obtain ⟨F', _, _, a3⟩ := ht
    exact hp.same (a3.block pb hp.lt fun hf => by have := hF pb hf; omega)⟩
end
theorem hasX_put (L : List RowT) (k : KeyT) (p : Int × Int) : hasX (putX L k p) k = true := hasX_iff.2 ⟨p, List.mem_append_right _ List.mem_cons_self⟩
theorem hasX_drop (L : List RowT) (k : KeyT) : hasX (dropX L k) k = false := by
  unfold hasX
  rw [List.any_eq_false]
  intro r hr
  simp only [decide_eq_true_eq]
  rintro rfl
  rcases List.mem_append.1 hr with hr | hr
  · have := (mem_under.1 hr).2; omega
  · have := (mem_over.1 hr).2; omega
theorem mem_putX {L : List RowT} {k : KeyT} {p : Int × Int} {r : RowT} (h : r ∈ putX L k p) : r ∈ L ∨ r = (k, p) := by
  rcases List.mem_append.1 h with h | h
  · exact .inl (mem_under.1 h).1
  · rcases List.mem_cons.1 h with h | h
    · exact .inr h
    · exact .inl (mem_over.1 h).1
theorem mem_dropX {L : List RowT} {k : KeyT} {r : RowT} (h : r ∈ dropX L k) : r ∈ L := by
  rcases List.mem_append.1 h with h | h
  · exact (mem_under.1 h).1
  · exact (mem_over.1 h).1
/-- All rows have the fingerprint: the twins are all of them. -/
theorem twins_all {L : List RowT} {d : List UInt8} (h : ∀ r ∈ L, r.1.1 = d) : twinsX L d = L.map (·.1) := by
  unfold twinsX
  rw [List.filter_eq_self.2 fun r hr => by simpa using h r hr]
/-- Their numbers rise. -/
theorem twins_rise {L : List RowT} {d : List UInt8} (h : ∀ r ∈ L, r.1.1 = d) (hr : Rise L) {i : Nat} (hi : i + 1 < L.length) : L[i].1.2 < L[i + 1].1.2 := by
  have h1 := List.pairwise_iff_getElem.1 hr i (i + 1) (by omega) hi (by omega)
  have e1 := h _ (List.getElem_mem (show i < L.length by omega))
  have e2 := h _ (List.getElem_mem hi)
  unfold ordK at h1
  rw [e1, e2] at h1
  omega
theorem hasX_map (L : List RowT) (k : KeyT) : hasX L k = (L.map (·.1)).any fun x => decide (x = k) := by
  unfold hasX
  rw [List.any_map]
  rfl
theorem any_step {α : Type} (f : α → Bool) (l : List α) {i : Nat} (hi : i < l.length) : (l.take (i + 1)).any f = ((l.take i).any f || f l[i]) := by
  rw [List.take_succ_eq_append_getElem hi, List.any_append]
  simp
end Go.Proofs.Yteieaindejcfbaa
