/- A map of the call's own from integers to slices (of rows): what it has at each key, as a function. No statement of the seat is proved here. -/
import Derived.Test.YtmnjaocdhelebaaXNA
import Derived.Test.YtmnjaocdhelebaaStKit
import Derived.Maps.OwnSet
import Derived.Maps.OwnOps
namespace Go.Proofs.Ytmnjaocdhelebaa
open Go.RowKit Go.Maps
set_option linter.unusedVariables false

def spotI : Option Nat → Int
  | none => -1
  | some k => k
theorem spotI_inj {a b : Option Nat} (h : spotI a = spotI b) : a = b := by
  rcases a with _ | a <;> rcases b with _ | b <;> simp only [spotI] at h
  · rfl
  · omega
  · omega
  · congr 1; omega
def slEl : Value → Option (DataW Unit × List MemPlace)
  | .slice none n c => some (.agg [.lit (.int .i64 (n : Int)), .lit (.int .i64 (c : Int))], [])
  | .slice (some ⟨g, o, sp⟩) n c => some (.agg [.lit (.int .i64 (g : Int)), .lit (.int .i64 (o : Int)), .lit (.int .i64 (spotI sp)), .lit (.int .i64 (n : Int)), .lit (.int .i64 (c : Int))], [])
  | _ => none
theorem slEl_inj {v v' : Value} {d : DataW Unit} {p p' : List MemPlace} (h : slEl v = some (d, p)) (h' : slEl v' = some (d, p')) : v = v' := by
  unfold slEl at h h'
  split at h <;> split at h' <;> simp at h h' <;> obtain ⟨h1, _⟩ := h <;> obtain ⟨h2, _⟩ := h' <;> rw [← h1] at h2 <;> simp at h2
  · simp only [Value.slice.injEq, true_and]
    omega
  · have hs := spotI_inj h2.2.2.1
    simp only [Value.slice.injEq, Option.some.injEq, Addr.mk.injEq, hs, and_true]
    omega
/-- A slice. -/
def Plain (v : Value) : Prop := ∃ d, slEl v = some (d, [])
theorem plain_any (A : Option Addr) (n c : Nat) : Plain (.slice A n c) := by
  rcases A with _ | ⟨g, o, sp⟩
  · exact ⟨_, rfl⟩
  · exact ⟨_, rfl⟩
def SlMap (w : World) (b n : Nat) (M : Int → Value) : Prop :=
  ∃ D, w.ownsMap Try.prog 3 slEl b n D ∧ ∀ x, In64 x → ∃ d, slEl (M x) = some (d, []) ∧ D.atKey (.int .i64 x) (.agg [.lit (.int .i64 0), .lit (.int .i64 0)]) = d
theorem intKeys : Keyed Try.prog 3 := int_keyed Try.underlying3
theorem SlMap.made (w : World) : SlMap (w.alloc (.map #[] 0)) w.heap.size 0 (fun _ => .slice none 0 0) :=
  ⟨_, World.ownsMap_made w _ _ _, fun x _ => ⟨_, rfl, rfl⟩⟩
section
variable {w w' : World} {b n : Nat} {M : Int → Value}
theorem SlMap.below (h : SlMap w b n M) (hb : Below w.heap.size w w') : SlMap w' b n M := by
  obtain ⟨D, h1, h2⟩ := h
  exact ⟨D, h1.kept (row := none) ⟨hb.os, hb.tape, hb.output, hb.size, fun k hk _ => hb.block k hk⟩ (by simp), h2⟩
theorem SlMap.blk (h : SlMap w b n M) (hb : w'.heap[b]? = w.heap[b]?) : SlMap w' b n M := by
  obtain ⟨D, ⟨es, clock, h3, h4⟩, h2⟩ := h
  exact ⟨D, ⟨es, clock, hb.trans h3, h4⟩, h2⟩
theorem SlMap.mono (h : SlMap w b n M) {n' : Nat} (hn : n ≤ n') : SlMap w b n' M := by
  obtain ⟨D, h1, h2⟩ := h
  exact ⟨D, h1.mono hn, h2⟩
theorem SlMap.lt (h : SlMap w b n M) : b < w.heap.size := by
  obtain ⟨D, h1, h2⟩ := h
  exact h1.lt
theorem SlMap.plain (h : SlMap w b n M) {x : Int} (hx : In64 x) : Plain (M x) := by
  obtain ⟨D, h1, h2⟩ := h
  obtain ⟨d, h3, _⟩ := h2 x hx
  exact ⟨d, h3⟩
/-- 'm[x]'. -/
theorem SlMap.look (h : SlMap w b n M) {x : Int} (hx : In64 x) : (Instr.lookup 55 (.map (some b)) (.int .i64 x) false).run Try.prog w = .ok (M x) w := by
  obtain ⟨D, h1, h2⟩ := h
  obtain ⟨d, h3, h4⟩ := h2 x hx
  obtain ⟨v, ps, hrun, hv⟩ := h1.lookup intKeys Try.underlying55 (z := .slice none 0 0) (by kernel_rfl) (zd := .agg [.lit (.int .i64 0), .lit (.int .i64 0)]) (zp := []) rfl (keyOf_int_mk Try.underlying3 (in64_wf hx))
  rw [h4] at hv
  rw [hrun, slEl_inj hv h3]
/-- 'm[x] = v'. -/
theorem SlMap.put (h : SlMap w b n M) {x : Int} (hx : In64 x) {v : Value} (hv : Plain v) (hn : n < maxLen) :
    ∃ w', (Instr.mapUpdate 55 (.map (some b)) (.int .i64 x) v).run Try.prog w = .ok () w' ∧ SlMap w' b (n + 1) (fun y => if y = x then v else M y) ∧ w.grownBy w' (some b) := by
  obtain ⟨D, h1, h2⟩ := h
  obtain ⟨d, hd⟩ := hv
  have hk := keyOf_int_mk (P := Try.prog) Try.underlying3 (in64_wf hx)
  obtain ⟨w', hrun, h3, h4⟩ := h1.update intKeys Try.underlying55 hn hk hd
  refine ⟨w', hrun, ⟨_, h3, fun y hy => ?_⟩, h4⟩
  by_cases e : y = x
  · subst e
    exact ⟨d, by simpa using hd, atKey_put_same h1.isMap (intKeys.key hk) _ _⟩
  · obtain ⟨d2, h5, h6⟩ := h2 y hy
    exact ⟨d2, by simpa [e] using h5, by rw [atKey_put_other (fun h' => e (by injection h'))]; exact h6⟩
end
end Go.Proofs.Ytmnjaocdhelebaa
