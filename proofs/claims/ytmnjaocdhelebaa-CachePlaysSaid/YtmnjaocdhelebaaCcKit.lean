/- What the package's caches do, as the statements' walks use it. No statement of the seat is proved here. -/
import Derived.Test.YtmnjaocdhelebaaCcMath
import Derived.Test.YtmnjaocdhelebaaIxRow
import Derived.Test.YtmnjaocdhelebaaStTwo
import Derived.Test.YtmnjaocdhelebaaOwnI
namespace Go.Proofs.Ytmnjaocdhelebaa
open Go.RowKit
set_option linter.unusedVariables false

/-- What the calls of the package do: Ct w s F S says that in w the cache at s, in the blocks F, has room and tables S. -/
structure CachesOk (Ct : World → Addr → (Nat → Prop) → CS → Prop) : Prop where
  lt : ∀ {w s F S}, Ct w s F S → ∀ g, F g → g < w.heap.size
  keep : ∀ {w w' : World} {s F S}, Ct w s F S → (∀ g, F g → w'.heap[g]? = w.heap[g]?) → Ct w' s F S
  ok : ∀ {w s F S}, Ct w s F S → S.Ok
  new : ∀ (n : Nat) w, n ≤ 4096 → Calls Try.prog 9 #[.int .i64 n] w fun e w' => ∃ s F, e = .returned (.tuple #[.pointer (some s), .int .i64 0]) ∧ Ct w' s F ⟨n, []⟩ ∧ (∀ g, F g → w.heap.size ≤ g) ∧ Below w.heap.size w w'
  newNo : ∀ (room : Int) w, In64 room → ¬ (0 ≤ room ∧ room ≤ 4096) → Calls Try.prog 9 #[.int .i64 room] w fun e w' => e = .returned (.tuple #[.pointer none, .int .i64 1]) ∧ Below w.heap.size w w'
  load : ∀ s F S (sh : Int) A ls n c (draw : Nat) w, Ct w s F S → In64 sh → draw < 18446744073709551616 → ls.length = n → n ≤ c → c ≤ maxLen → n ≤ 1000 → RdRw w w.heap.size A ls → (∀ ad, A = some ad → 0 < n → ¬ F ad.block) →
    Calls Try.prog 13 #[.pointer (some s), .int .i64 sh, .slice A n c, .int .u64 draw] w fun e w' => e = .returned (.tuple #[]) ∧ Turned Ct w s F w' (loadC S sh ls draw)
  get : ∀ s F S k w, Ct w s F S → KeyT.Ok k → Calls Try.prog 15 #[.pointer (some s), kv k] w fun e w' => e = .returned (.tuple #[pv (getC S k), .bool (knowsC S k)]) ∧ Below w.heap.size w w'
  has : ∀ s F S (sh : Int) w, Ct w s F S → In64 sh → Calls Try.prog 20 #[.pointer (some s), .int .i64 sh] w fun e w' => e = .returned (.bool (hasC S sh)) ∧ Below w.heap.size w w'
  drop : ∀ s F S (sh : Int) w, Ct w s F S → In64 sh → Calls Try.prog 11 #[.pointer (some s), .int .i64 sh] w fun e w' => e = .returned (.bool (hasC S sh)) ∧ Turned Ct w s F w' (dropC S sh)
  shelves : ∀ s F S w, Ct w s F S → Calls Try.prog 18 #[.pointer (some s)] w fun e w' => ∃ A c, e = .returned (.slice A (shelvesC S).length c) ∧ OwnG 3 1 i1 w' w.heap.size A c (shelvesC S) ∧ Below w.heap.size w w'
/-- What they do on nil. -/
structure CacheNilOk : Prop where
  load : ∀ (sh : Int) A ls n c (draw : Nat) w, In64 sh → draw < 18446744073709551616 → ls.length = n → n ≤ c → c ≤ maxLen → n ≤ 1000 → RdRw w w.heap.size A ls → Calls Try.prog 13 #[.pointer none, .int .i64 sh, .slice A n c, .int .u64 draw] w fun e w' => e = .returned (.tuple #[]) ∧ Below w.heap.size w w'
  get : ∀ k w, KeyT.Ok k → Calls Try.prog 15 #[.pointer none, kv k] w fun e w' => e = .returned (.tuple #[pv (0, 0), .bool false]) ∧ Below w.heap.size w w'
  has : ∀ (sh : Int) w, In64 sh → Calls Try.prog 20 #[.pointer none, .int .i64 sh] w fun e w' => e = .returned (.bool false) ∧ Below w.heap.size w w'
  drop : ∀ (sh : Int) w, In64 sh → Calls Try.prog 11 #[.pointer none, .int .i64 sh] w fun e w' => e = .returned (.bool false) ∧ Below w.heap.size w w'
  shelves : ∀ w, Calls Try.prog 18 #[.pointer none] w fun e w' => (∃ A c, e = .returned (.slice A 0 c)) ∧ Below w.heap.size w w'
section
variable {Ct : World → Addr → (Nat → Prop) → CS → Prop} {w0 w w' : World} {s : Addr} {F N : Nat → Prop} {S : CS}
theorem CachesOk.firm (K : CachesOk Ct) : Firm Ct := ⟨K.lt, K.keep⟩
theorem CachesOk.on (K : CachesOk Ct) (h : Turned Ct w0 s N w S) (hb : Below w.heap.size w w') : Turned Ct w0 s N w' S := K.firm.on h hb
theorem CachesOk.good (K : CachesOk Ct) (h : Turned Ct w0 s N w S) : S.Ok := by
  obtain ⟨F, h1, _⟩ := h
  exact K.ok h1
theorem CachesOk.new' (K : CachesOk Ct) (hb : Below w0.heap.size w0 w) (n : Nat) (hn : n ≤ 4096) : Calls Try.prog 9 #[.int .i64 n] w fun e w' => ∃ s, e = .returned (.tuple #[.pointer (some s), .int .i64 0]) ∧ Turned Ct w0 s (fun _ => False) w' ⟨n, []⟩ :=
  (K.new n w hn).mono fun e w' ⟨s, F, h1, h2, h3, h4⟩ => ⟨s, h1, F, h2, fun g hg => .inr (Nat.le_trans hb.size (h3 g hg)), Only.of_below (hb.trans (h4.mono hb.size))⟩
/-- A list that lies outside: told of no blocks of the cache's that stood at the start. -/
theorem CachesOk.load' (K : CachesOk Ct) (h : Turned Ct w0 s N w S) (sh : Int) (hs : In64 sh) (A : Option Addr) (ls : List RowT) (n c draw : Nat) (hd : draw < 18446744073709551616) (hl : ls.length = n) (hc : n ≤ c) (hm : c ≤ maxLen) (hn : n ≤ 1000) (hr : RdRw w w.heap.size A ls)
    (ho : ∀ ad, A = some ad → 0 < n → ad.block < w0.heap.size ∧ ¬ N ad.block) :
    Calls Try.prog 13 #[.pointer (some s), .int .i64 sh, .slice A n c, .int .u64 draw] w fun e w' => e = .returned (.tuple #[]) ∧ Turned Ct w0 s N w' (loadC S sh ls draw) := by
  obtain ⟨F, h1, h2, h3⟩ := h
  refine (K.load s F S sh A ls n c draw w h1 hs hd hl hc hm hn hr fun ad e h0 hf => ?_).mono fun e w' ⟨he, ht⟩ => ⟨he, Turned.step h2 h3 ht⟩
  obtain ⟨a1, a2⟩ := ho ad e h0
  rcases h2 _ hf with h | h
  · exact a2 h
  · omega
theorem CachesOk.drop' (K : CachesOk Ct) (h : Turned Ct w0 s N w S) (sh : Int) (hs : In64 sh) :
    Calls Try.prog 11 #[.pointer (some s), .int .i64 sh] w fun e w' => e = .returned (.bool (hasC S sh)) ∧ Turned Ct w0 s N w' (dropC S sh) := by
  obtain ⟨F, h1, h2, h3⟩ := h
  exact (K.drop s F S sh w h1 hs).mono fun e w' ⟨he, ht⟩ => ⟨he, Turned.step h2 h3 ht⟩
theorem CachesOk.get' (K : CachesOk Ct) (h : Turned Ct w0 s N w S) (k : KeyT) (hk : KeyT.Ok k) : Calls Try.prog 15 #[.pointer (some s), kv k] w fun e w' => e = .returned (.tuple #[pv (getC S k), .bool (knowsC S k)]) ∧ Below w.heap.size w w' := by
  obtain ⟨F, h1, _⟩ := h
  exact K.get s F S k w h1 hk
theorem CachesOk.has' (K : CachesOk Ct) (h : Turned Ct w0 s N w S) (sh : Int) (hs : In64 sh) : Calls Try.prog 20 #[.pointer (some s), .int .i64 sh] w fun e w' => e = .returned (.bool (hasC S sh)) ∧ Below w.heap.size w w' := by
  obtain ⟨F, h1, _⟩ := h
  exact K.has s F S sh w h1 hs
theorem CachesOk.shelves' (K : CachesOk Ct) (h : Turned Ct w0 s N w S) : Calls Try.prog 18 #[.pointer (some s)] w fun e w' => ∃ A c, e = .returned (.slice A (shelvesC S).length c) ∧ OwnG 3 1 i1 w' w.heap.size A c (shelvesC S) ∧ Below w.heap.size w w' := by
  obtain ⟨F, h1, _⟩ := h
  exact K.shelves s F S w h1
end
end Go.Proofs.Ytmnjaocdhelebaa
