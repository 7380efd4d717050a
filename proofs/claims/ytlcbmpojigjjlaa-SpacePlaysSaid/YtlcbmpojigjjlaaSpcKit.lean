/- What the package's spaces do, as the statements' walks use it. No statement of the seat is proved here. -/
import Derived.Test.YtlcbmpojigjjlaaStKit
import Derived.Test.YtlcbmpojigjjlaaSpcMath
namespace Go.Proofs.Ytlcbmpojigjjlaa
open Go.RowKit
set_option linter.unusedVariables false

def ints (l : List Nat) : List Int := l.map fun (k : Nat) => (k : Int)
theorem ints_length (l : List Nat) : (ints l).length = l.length := by simp [ints]
/-- What the calls of the package do: St w s F S says that in w the space at s, in the blocks F, is S. -/
structure SpacesOk (St : World → Addr → (Nat → Prop) → PS → Prop) : Prop where
  lt : ∀ {w s F S}, St w s F S → ∀ g, F g → g < w.heap.size
  keep : ∀ {w w' : World} {s F S}, St w s F S → (∀ g, F g → w'.heap[g]? = w.heap[g]?) → St w' s F S
  ok : ∀ {w s F S}, St w s F S → S.Ok
  new : ∀ (n : Nat) w, n ≤ 16384 → Calls Try.prog 10 #[.int .i64 n] w fun e w' => ∃ s F, e = .returned (.tuple #[.pointer (some s), .int .i64 0]) ∧ St w' s F (newP n) ∧ (∀ g, F g → w.heap.size ≤ g) ∧ Below w.heap.size w w'
  bad : ∀ (n : Int) w, (n < 0 ∨ 16384 < n) → Calls Try.prog 10 #[.int .i64 n] w fun e w' => e = .returned (.tuple #[.pointer none, .int .i64 1]) ∧ Below w.heap.size w w'
  take : ∀ s F S w, St w s F S → Calls Try.prog 25 #[.pointer (some s)] w fun e w' => e = .returned (.tuple #[.int .i64 (takeV S), .int .i64 (takeE S)]) ∧ Turned St w s F w' (takeP S)
  hold : ∀ s F S (at_ : Int) w, St w s F S → In64 at_ → Calls Try.prog 26 #[.pointer (some s), .int .i64 at_] w fun e w' => e = .returned (.int .i64 (holdE S at_)) ∧ Turned St w s F w' (holdP S at_)
  free : ∀ s F S (at_ : Int) w, St w s F S → In64 at_ → Calls Try.prog 27 #[.pointer (some s), .int .i64 at_] w fun e w' => e = .returned (.int .i64 (freeE S at_)) ∧ Turned St w s F w' (freeP S at_)
  has : ∀ s F S (at_ : Int) w, St w s F S → In64 at_ → Calls Try.prog 15 #[.pointer (some s), .int .i64 at_] w fun e w' => e = .returned (.bool (hasV S at_)) ∧ Below w.heap.size w w'
  len : ∀ s F S w, St w s F S → Calls Try.prog 17 #[.pointer (some s)] w fun e w' => e = .returned (.int .i64 S.n) ∧ Below w.heap.size w w'
  taken : ∀ s F S w, St w s F S → Calls Try.prog 18 #[.pointer (some s)] w fun e w' => e = .returned (.int .i64 ((allF S.S S.n).length : Nat)) ∧ Below w.heap.size w w'
  all : ∀ s F S w, St w s F S → Calls Try.prog 20 #[.pointer (some s)] w fun e w' => ∃ A c, e = .returned (.slice A (allF S.S S.n).length c) ∧ w'.ownsRow w.heap.size 3 1 (.slice A (allF S.S S.n).length c) (allF S.S S.n).length (iv (ints (allF S.S S.n))) ∧ Below w.heap.size w w'
  bytes : ∀ s F S w, St w s F S → Calls Try.prog 21 #[.pointer (some s)] w fun e w' => ∃ A c, e = .returned (.slice A ((S.n + 7) / 8) c) ∧ w'.ownsRow w.heap.size 5 1 (.slice A ((S.n + 7) / 8) c) ((S.n + 7) / 8) (bv (pk S.n S.S)) ∧ Below w.heap.size w w'
  load : ∀ (n : Nat) A k c b w, n ≤ 16384 → b.length = k → k ≤ c → c ≤ maxLen → Rd w w.heap.size A b → LoadOk n b → Calls Try.prog 23 #[.int .i64 n, .slice A k c] w fun e w' => ∃ s F, e = .returned (.tuple #[.pointer (some s), .int .i64 0]) ∧ St w' s F (loadP n b) ∧ (∀ g, F g → w.heap.size ≤ g) ∧ Below w.heap.size w w'
  noload : ∀ (n : Int) A k c b w, b.length = k → k ≤ c → c ≤ maxLen → Rd w w.heap.size A b → (n < 0 ∨ 16384 < n ∨ ¬ LoadOk n.toNat b) → Calls Try.prog 23 #[.int .i64 n, .slice A k c] w fun e w' => e = .returned (.tuple #[.pointer none, .int .i64 1]) ∧ Below w.heap.size w w'
/-- What they do on nil. -/
structure SpaceNilOk : Prop where
  take : ∀ w, Calls Try.prog 25 #[.pointer none] w fun e w' => e = .returned (.tuple #[.int .i64 0, .int .i64 2]) ∧ Below w.heap.size w w'
  hold : ∀ (at_ : Int) w, Calls Try.prog 26 #[.pointer none, .int .i64 at_] w fun e w' => e = .returned (.int .i64 2) ∧ Below w.heap.size w w'
  free : ∀ (at_ : Int) w, Calls Try.prog 27 #[.pointer none, .int .i64 at_] w fun e w' => e = .returned (.int .i64 2) ∧ Below w.heap.size w w'
  has : ∀ (at_ : Int) w, Calls Try.prog 15 #[.pointer none, .int .i64 at_] w fun e w' => e = .returned (.bool false) ∧ Below w.heap.size w w'
  len : ∀ w, Calls Try.prog 17 #[.pointer none] w fun e w' => e = .returned (.int .i64 0) ∧ Below w.heap.size w w'
  taken : ∀ w, Calls Try.prog 18 #[.pointer none] w fun e w' => e = .returned (.int .i64 0) ∧ Below w.heap.size w w'
  all : ∀ w, Calls Try.prog 20 #[.pointer none] w fun e w' => (∃ A c, e = .returned (.slice A 0 c)) ∧ Below w.heap.size w w'
  bytes : ∀ w, Calls Try.prog 21 #[.pointer none] w fun e w' => (∃ A c, e = .returned (.slice A 0 c)) ∧ Below w.heap.size w w'
section
variable {St : World → Addr → (Nat → Prop) → PS → Prop} {w0 w w' : World} {s : Addr} {F N : Nat → Prop} {S S' : PS}
theorem SpacesOk.below (K : SpacesOk St) (h : St w s F S) (hb : Below w.heap.size w w') : St w' s F S := K.keep h fun g hg => hb.block g (K.lt h g hg)
theorem SpacesOk.on (K : SpacesOk St) (h : Turned St w0 s N w S) (hb : Below w.heap.size w w') : Turned St w0 s N w' S := h.on' K.lt K.keep hb
theorem SpacesOk.turnedOk (K : SpacesOk St) (h : Turned St w0 s N w S) : S.Ok := by
  obtain ⟨F, h1, _⟩ := h
  exact K.ok h1
/-- A space that was made behind a base world. -/
abbrev Spc (St : World → Addr → (Nat → Prop) → PS → Prop) (w0 w : World) (s : Addr) (S : PS) : Prop := Turned St w0 s (fun _ => False) w S
theorem SpacesOk.new' (K : SpacesOk St) (n : Nat) (hn : n ≤ 16384) (hb : Below w0.heap.size w0 w) : Calls Try.prog 10 #[.int .i64 n] w fun e w' => ∃ s, e = .returned (.tuple #[.pointer (some s), .int .i64 0]) ∧ Spc St w0 w' s (newP n) :=
  (K.new n w hn).mono fun e w' ⟨s, F, h1, h2, h3, h4⟩ => ⟨s, h1, F, h2, fun g hg => .inr (Nat.le_trans hb.size (h3 g hg)), Only.of_below (hb.trans (h4.mono hb.size))⟩
theorem SpacesOk.take' (K : SpacesOk St) (h : Turned St w0 s N w S) : Calls Try.prog 25 #[.pointer (some s)] w fun e w' => e = .returned (.tuple #[.int .i64 (takeV S), .int .i64 (takeE S)]) ∧ Turned St w0 s N w' (takeP S) := by
  obtain ⟨F, h1, h2, h3⟩ := h
  exact (K.take s F S w h1).mono fun e w' ⟨he, ht⟩ => ⟨he, Turned.step h2 h3 ht⟩
theorem SpacesOk.hold' (K : SpacesOk St) (h : Turned St w0 s N w S) (at_ : Int) (ha : In64 at_) : Calls Try.prog 26 #[.pointer (some s), .int .i64 at_] w fun e w' => e = .returned (.int .i64 (holdE S at_)) ∧ Turned St w0 s N w' (holdP S at_) := by
  obtain ⟨F, h1, h2, h3⟩ := h
  exact (K.hold s F S at_ w h1 ha).mono fun e w' ⟨he, ht⟩ => ⟨he, Turned.step h2 h3 ht⟩
theorem SpacesOk.free' (K : SpacesOk St) (h : Turned St w0 s N w S) (at_ : Int) (ha : In64 at_) : Calls Try.prog 27 #[.pointer (some s), .int .i64 at_] w fun e w' => e = .returned (.int .i64 (freeE S at_)) ∧ Turned St w0 s N w' (freeP S at_) := by
  obtain ⟨F, h1, h2, h3⟩ := h
  exact (K.free s F S at_ w h1 ha).mono fun e w' ⟨he, ht⟩ => ⟨he, Turned.step h2 h3 ht⟩
theorem SpacesOk.has' (K : SpacesOk St) (h : Turned St w0 s N w S) (at_ : Int) (ha : In64 at_) : Calls Try.prog 15 #[.pointer (some s), .int .i64 at_] w fun e w' => e = .returned (.bool (hasV S at_)) ∧ Turned St w0 s N w' S ∧ Below w.heap.size w w' := by
  have h' := h
  obtain ⟨F, h1, h2, h3⟩ := h
  exact (K.has s F S at_ w h1 ha).mono fun e w' ⟨he, hb⟩ => ⟨he, K.on h' hb, hb⟩
theorem SpacesOk.len' (K : SpacesOk St) (h : Turned St w0 s N w S) : Calls Try.prog 17 #[.pointer (some s)] w fun e w' => e = .returned (.int .i64 S.n) ∧ Turned St w0 s N w' S ∧ Below w.heap.size w w' := by
  have h' := h
  obtain ⟨F, h1, h2, h3⟩ := h
  exact (K.len s F S w h1).mono fun e w' ⟨he, hb⟩ => ⟨he, K.on h' hb, hb⟩
theorem SpacesOk.taken' (K : SpacesOk St) (h : Turned St w0 s N w S) : Calls Try.prog 18 #[.pointer (some s)] w fun e w' => e = .returned (.int .i64 ((allF S.S S.n).length : Nat)) ∧ Turned St w0 s N w' S ∧ Below w.heap.size w w' := by
  have h' := h
  obtain ⟨F, h1, h2, h3⟩ := h
  exact (K.taken s F S w h1).mono fun e w' ⟨he, hb⟩ => ⟨he, K.on h' hb, hb⟩
theorem SpacesOk.all' (K : SpacesOk St) (h : Turned St w0 s N w S) : Calls Try.prog 20 #[.pointer (some s)] w fun e w' => ∃ A c, e = .returned (.slice A (allF S.S S.n).length c) ∧ w'.ownsRow w.heap.size 3 1 (.slice A (allF S.S S.n).length c) (allF S.S S.n).length (iv (ints (allF S.S S.n))) ∧ Turned St w0 s N w' S ∧ Below w.heap.size w w' := by
  have h' := h
  obtain ⟨F, h1, h2, h3⟩ := h
  exact (K.all s F S w h1).mono fun e w' ⟨A, c, he, ho, hb⟩ => ⟨A, c, he, ho, K.on h' hb, hb⟩
/-- The same, with the blocks of the space: they lie ahead of the row. -/
theorem SpacesOk.all2 (K : SpacesOk St) (h : Turned St w0 s N w S) : Calls Try.prog 20 #[.pointer (some s)] w fun e w' => ∃ A c, e = .returned (.slice A (allF S.S S.n).length c) ∧ w'.ownsRow w.heap.size 3 1 (.slice A (allF S.S S.n).length c) (allF S.S S.n).length (iv (ints (allF S.S S.n))) ∧ Below w.heap.size w w' ∧
    ∃ F, St w' s F S ∧ (∀ g, F g → g < w.heap.size) ∧ (∀ g, F g → N g ∨ w0.heap.size ≤ g) ∧ Only N w0 w' := by
  obtain ⟨F, h1, h2, h3⟩ := h
  exact (K.all s F S w h1).mono fun e w' ⟨A, c, he, ho, hb⟩ => ⟨A, c, he, ho, hb, F, K.below h1 hb, K.lt h1, h2, h3.trans (Only.of_below (F := F) hb) h2⟩
theorem SpacesOk.bytes2 (K : SpacesOk St) (h : Turned St w0 s N w S) : Calls Try.prog 21 #[.pointer (some s)] w fun e w' => ∃ A c, e = .returned (.slice A ((S.n + 7) / 8) c) ∧ w'.ownsRow w.heap.size 5 1 (.slice A ((S.n + 7) / 8) c) ((S.n + 7) / 8) (bv (pk S.n S.S)) ∧ Below w.heap.size w w' ∧
    ∃ F, St w' s F S ∧ (∀ g, F g → g < w.heap.size) ∧ (∀ g, F g → N g ∨ w0.heap.size ≤ g) ∧ Only N w0 w' := by
  obtain ⟨F, h1, h2, h3⟩ := h
  exact (K.bytes s F S w h1).mono fun e w' ⟨A, c, he, ho, hb⟩ => ⟨A, c, he, ho, hb, F, K.below h1 hb, K.lt h1, h2, h3.trans (Only.of_below (F := F) hb) h2⟩
theorem SpacesOk.bytes' (K : SpacesOk St) (h : Turned St w0 s N w S) : Calls Try.prog 21 #[.pointer (some s)] w fun e w' => ∃ A c, e = .returned (.slice A ((S.n + 7) / 8) c) ∧ w'.ownsRow w.heap.size 5 1 (.slice A ((S.n + 7) / 8) c) ((S.n + 7) / 8) (bv (pk S.n S.S)) ∧ Turned St w0 s N w' S ∧ Below w.heap.size w w' := by
  have h' := h
  obtain ⟨F, h1, h2, h3⟩ := h
  exact (K.bytes s F S w h1).mono fun e w' ⟨A, c, he, ho, hb⟩ => ⟨A, c, he, ho, K.on h' hb, hb⟩
theorem SpacesOk.load' (K : SpacesOk St) (n : Nat) (A : Option Addr) (k c : Nat) (b : List UInt8) (hn : n ≤ 16384) (hl : b.length = k) (hk : k ≤ c) (hm : c ≤ maxLen) (hr : Rd w w.heap.size A b) (ho : LoadOk n b) (hb : Below w0.heap.size w0 w) :
    Calls Try.prog 23 #[.int .i64 n, .slice A k c] w fun e w' => ∃ s, e = .returned (.tuple #[.pointer (some s), .int .i64 0]) ∧ Spc St w0 w' s (loadP n b) ∧ Below w.heap.size w w' :=
  (K.load n A k c b w hn hl hk hm hr ho).mono fun e w' ⟨s, F, h1, h2, h3, h4⟩ => ⟨s, h1, ⟨F, h2, fun g hg => .inr (Nat.le_trans hb.size (h3 g hg)), Only.of_below (hb.trans (h4.mono hb.size))⟩, h4⟩
end
end Go.Proofs.Ytlcbmpojigjjlaa
