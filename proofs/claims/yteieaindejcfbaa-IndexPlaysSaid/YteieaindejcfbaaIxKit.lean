/- What the package's indexes do, as the statements' walks use it. No statement of the seat is proved here. -/
import Derived.Test.YteieaindejcfbaaIxRow
import Derived.Test.YteieaindejcfbaaStTwo
namespace Go.Proofs.Yteieaindejcfbaa
open Go.RowKit
set_option linter.unusedVariables false

/-- What the calls of the package do: It w s F L says that in w the index at s, in the blocks F, has the rows L. -/
structure IndexesOk (It : World → Addr → (Nat → Prop) → List RowT → Prop) : Prop where
  lt : ∀ {w s F L}, It w s F L → ∀ g, F g → g < w.heap.size
  keep : ∀ {w w' : World} {s F L}, It w s F L → (∀ g, F g → w'.heap[g]? = w.heap[g]?) → It w' s F L
  ok : ∀ {w s F L}, It w s F L → RowsOk L
  new : ∀ w, Calls Try.prog 9 #[] w fun e w' => ∃ s F, e = .returned (.pointer (some s)) ∧ It w' s F [] ∧ (∀ g, F g → w.heap.size ≤ g) ∧ Below w.heap.size w w'
  put : ∀ s F L k p w, It w s F L → L.length ≤ 10000 → KeyT.Ok k → PlOk p → Calls Try.prog 13 #[.pointer (some s), kv k, pv p] w fun e w' => e = .returned (.bool (hasX L k)) ∧ Turned It w s F w' (putX L k p)
  get : ∀ s F L k w, It w s F L → L.length ≤ 10000 → KeyT.Ok k → Calls Try.prog 15 #[.pointer (some s), kv k] w fun e w' => e = .returned (.tuple #[pv (getX L k), .bool (hasX L k)]) ∧ Below w.heap.size w w'
  drop : ∀ s F L k w, It w s F L → L.length ≤ 10000 → KeyT.Ok k → Calls Try.prog 11 #[.pointer (some s), kv k] w fun e w' => e = .returned (.bool (hasX L k)) ∧ Turned It w s F w' (dropX L k)
  twins : ∀ s F L (d : List UInt8) w, It w s F L → L.length ≤ 10000 → d.length = 32 → Calls Try.prog 18 #[.pointer (some s), .agg (bv d).toArray] w fun e w' => ∃ A c, e = .returned (.slice A (twinsX L d).length c) ∧ RdK w' w'.heap.size A (twinsX L d) ∧ (twinsX L d).length ≤ c ∧ c ≤ maxLen ∧ (∀ ad, A = some ad → w.heap.size ≤ ad.block) ∧ Below w.heap.size w w'
  shelf : ∀ s F L (at_ : Int) w, It w s F L → L.length ≤ 10000 → In64 at_ → Calls Try.prog 21 #[.pointer (some s), .int .i64 at_] w fun e w' => ∃ A c, e = .returned (.slice A (shelfX L at_).length c) ∧ RdRw w' w'.heap.size A (shelfX L at_) ∧ (shelfX L at_).length ≤ c ∧ c ≤ maxLen ∧ (∀ ad, A = some ad → w.heap.size ≤ ad.block) ∧ Below w.heap.size w w'
  len : ∀ s F L w, It w s F L → L.length ≤ 10000 → Calls Try.prog 24 #[.pointer (some s)] w fun e w' => e = .returned (.int .i64 (L.length : Nat)) ∧ Below w.heap.size w w'
  all : ∀ s F L w, It w s F L → L.length ≤ 10000 → Calls Try.prog 23 #[.pointer (some s)] w fun e w' => ∃ A c, e = .returned (.slice A L.length c) ∧ RdRw w' w'.heap.size A L ∧ L.length ≤ c ∧ c ≤ maxLen ∧ (∀ ad, A = some ad → w.heap.size ≤ ad.block) ∧ Below w.heap.size w w'
/-- What they do on nil. -/
structure IndexNilOk : Prop where
  put : ∀ k p w, KeyT.Ok k → PlOk p → Calls Try.prog 13 #[.pointer none, kv k, pv p] w fun e w' => e = .returned (.bool false) ∧ Below w.heap.size w w'
  get : ∀ k w, KeyT.Ok k → Calls Try.prog 15 #[.pointer none, kv k] w fun e w' => e = .returned (.tuple #[pv (0, 0), .bool false]) ∧ Below w.heap.size w w'
  drop : ∀ k w, KeyT.Ok k → Calls Try.prog 11 #[.pointer none, kv k] w fun e w' => e = .returned (.bool false) ∧ Below w.heap.size w w'
  twins : ∀ (d : List UInt8) w, d.length = 32 → Calls Try.prog 18 #[.pointer none, .agg (bv d).toArray] w fun e w' => (∃ A c, e = .returned (.slice A 0 c)) ∧ Below w.heap.size w w'
  shelf : ∀ (at_ : Int) w, In64 at_ → Calls Try.prog 21 #[.pointer none, .int .i64 at_] w fun e w' => (∃ A c, e = .returned (.slice A 0 c)) ∧ Below w.heap.size w w'
  len : ∀ w, Calls Try.prog 24 #[.pointer none] w fun e w' => e = .returned (.int .i64 0) ∧ Below w.heap.size w w'
  all : ∀ w, Calls Try.prog 23 #[.pointer none] w fun e w' => (∃ A c, e = .returned (.slice A 0 c)) ∧ Below w.heap.size w w'
section
variable {It : World → Addr → (Nat → Prop) → List RowT → Prop} {w0 w w' : World} {s : Addr} {F N : Nat → Prop} {L : List RowT}
theorem IndexesOk.firm (K : IndexesOk It) : Firm It := ⟨K.lt, K.keep⟩
theorem IndexesOk.on (K : IndexesOk It) (h : Turned It w0 s N w L) (hb : Below w.heap.size w w') : Turned It w0 s N w' L := K.firm.on h hb
theorem IndexesOk.rows (K : IndexesOk It) (h : Turned It w0 s N w L) : RowsOk L := by
  obtain ⟨F, h1, _⟩ := h
  exact K.ok h1
theorem IndexesOk.new' (K : IndexesOk It) (hb : Below w0.heap.size w0 w) : Calls Try.prog 9 #[] w fun e w' => ∃ s, e = .returned (.pointer (some s)) ∧ Turned It w0 s (fun _ => False) w' [] :=
  (K.new w).mono fun e w' ⟨s, F, h1, h2, h3, h4⟩ => ⟨s, h1, F, h2, fun g hg => .inr (Nat.le_trans hb.size (h3 g hg)), Only.of_below (hb.trans (h4.mono hb.size))⟩
theorem IndexesOk.put' (K : IndexesOk It) (h : Turned It w0 s N w L) (hl : L.length ≤ 10000) (k : KeyT) (hk : KeyT.Ok k) (p : Int × Int) (hp : PlOk p) :
    Calls Try.prog 13 #[.pointer (some s), kv k, pv p] w fun e w' => e = .returned (.bool (hasX L k)) ∧ Turned It w0 s N w' (putX L k p) := by
  obtain ⟨F, h1, h2, h3⟩ := h
  exact (K.put s F L k p w h1 hl hk hp).mono fun e w' ⟨he, ht⟩ => ⟨he, Turned.step h2 h3 ht⟩
theorem IndexesOk.drop' (K : IndexesOk It) (h : Turned It w0 s N w L) (hl : L.length ≤ 10000) (k : KeyT) (hk : KeyT.Ok k) :
    Calls Try.prog 11 #[.pointer (some s), kv k] w fun e w' => e = .returned (.bool (hasX L k)) ∧ Turned It w0 s N w' (dropX L k) := by
  obtain ⟨F, h1, h2, h3⟩ := h
  exact (K.drop s F L k w h1 hl hk).mono fun e w' ⟨he, ht⟩ => ⟨he, Turned.step h2 h3 ht⟩
theorem IndexesOk.get' (K : IndexesOk It) (h : Turned It w0 s N w L) (hl : L.length ≤ 10000) (k : KeyT) (hk : KeyT.Ok k) :
    Calls Try.prog 15 #[.pointer (some s), kv k] w fun e w' => e = .returned (.tuple #[pv (getX L k), .bool (hasX L k)]) ∧ Below w.heap.size w w' := by
  obtain ⟨F, h1, _⟩ := h
  exact K.get s F L k w h1 hl hk
theorem IndexesOk.twins' (K : IndexesOk It) (h : Turned It w0 s N w L) (hl : L.length ≤ 10000) (d : List UInt8) (hd : d.length = 32) :
    Calls Try.prog 18 #[.pointer (some s), .agg (bv d).toArray] w fun e w' => ∃ A c, e = .returned (.slice A (twinsX L d).length c) ∧ RdK w' w'.heap.size A (twinsX L d) ∧ (twinsX L d).length ≤ c ∧ c ≤ maxLen ∧ (∀ ad, A = some ad → w.heap.size ≤ ad.block) ∧ Below w.heap.size w w' := by
  obtain ⟨F, h1, _⟩ := h
  exact K.twins s F L d w h1 hl hd
theorem IndexesOk.shelf' (K : IndexesOk It) (h : Turned It w0 s N w L) (hl : L.length ≤ 10000) (at_ : Int) (ha : In64 at_) :
    Calls Try.prog 21 #[.pointer (some s), .int .i64 at_] w fun e w' => ∃ A c, e = .returned (.slice A (shelfX L at_).length c) ∧ RdRw w' w'.heap.size A (shelfX L at_) ∧ (shelfX L at_).length ≤ c ∧ c ≤ maxLen ∧ (∀ ad, A = some ad → w.heap.size ≤ ad.block) ∧ Below w.heap.size w w' := by
  obtain ⟨F, h1, _⟩ := h
  exact K.shelf s F L at_ w h1 hl ha
theorem IndexesOk.len' (K : IndexesOk It) (h : Turned It w0 s N w L) (hl : L.length ≤ 10000) : Calls Try.prog 24 #[.pointer (some s)] w fun e w' => e = .returned (.int .i64 (L.length : Nat)) ∧ Below w.heap.size w w' := by
  obtain ⟨F, h1, _⟩ := h
  exact K.len s F L w h1 hl
theorem IndexesOk.all' (K : IndexesOk It) (h : Turned It w0 s N w L) (hl : L.length ≤ 10000) :
    Calls Try.prog 23 #[.pointer (some s)] w fun e w' => ∃ A c, e = .returned (.slice A L.length c) ∧ RdRw w' w'.heap.size A L ∧ L.length ≤ c ∧ c ≤ maxLen ∧ (∀ ad, A = some ad → w.heap.size ≤ ad.block) ∧ Below w.heap.size w w' := by
  obtain ⟨F, h1, _⟩ := h
  exact K.all s F L w h1 hl
end
end Go.Proofs.Yteieaindejcfbaa
