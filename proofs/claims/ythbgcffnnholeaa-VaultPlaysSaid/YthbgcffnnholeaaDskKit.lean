/- What the package's disks do, as the statements' walks use it. No statement of the seat is proved here. -/
import Derived.Test.YthbgcffnnholeaaStKit
import Derived.Test.YthbgcffnnholeaaVMA
namespace Go.Proofs.Ythbgcffnnholeaa
open Go.RowKit
set_option linter.unusedVariables false

def Few (S : DS) : Prop := S.put.length ≤ 100000 ∧ S.cnt ≤ 100000
/-- What the calls of the package do: St w s F S says that in w the disk at s, in the blocks F, is S. -/
structure DisksOk (St : World → Addr → (Nat → Prop) → DS → Prop) : Prop where
  lt : ∀ {w s F S}, St w s F S → ∀ g, F g → g < w.heap.size
  keep : ∀ {w w' : World} {s F S}, St w s F S → (∀ g, F g → w'.heap[g]? = w.heap[g]?) → St w' s F S
  ok : ∀ {w s F S}, St w s F S → S.Ok
  new : ∀ (n : Nat) w, n ≤ 16384 → Calls Try.prog 8 #[.int .i64 n] w fun e w' => ∃ s F, e = .returned (.tuple #[.pointer (some s), .int .i64 0]) ∧ St w' s F (newS n) ∧ (∀ g, F g → w.heap.size ≤ g) ∧ Below w.heap.size w w'
  bad : ∀ (n : Int) w, (n < 0 ∨ 16384 < n) → Calls Try.prog 8 #[.int .i64 n] w fun e w' => e = .returned (.tuple #[.pointer none, .int .i64 1]) ∧ Below w.heap.size w w'
  write : ∀ s F S (at_ : Int) A n c b w, St w s F S → Few S → In64 at_ → b.length = n → n ≤ c → c ≤ maxLen → Rd w w.heap.size A b → Out F A n →
    Calls Try.prog 20 #[.pointer (some s), .int .i64 at_, .slice A n c] w fun e w' => e = .returned (.int .i64 (writeE S at_ n)) ∧ Turned St w s F w' (writeS S at_ b)
  flush : ∀ s F S w, St w s F S → Few S → Calls Try.prog 22 #[.pointer (some s)] w fun e w' => e = .returned (.int .i64 (flushE S)) ∧ Turned St w s F w' (flushS S)
  read : ∀ s F S (at_ : Int) w, St w s F S → Few S → In64 at_ → Calls Try.prog 30 #[.pointer (some s), .int .i64 at_] w fun e w' => ∃ A c,
    e = .returned (.tuple #[.slice A (readS S at_).length c, .int .i64 (readE S at_)]) ∧ w'.ownsRow w.heap.size 89 1 (.slice A (readS S at_).length c) (readS S at_).length (bv (readS S at_)) ∧ Below w.heap.size w w'
  cut : ∀ s F S (n : Int) w, St w s F S → In64 n → Calls Try.prog 24 #[.pointer (some s), .int .i64 n] w fun e w' => e = .returned (.tuple #[]) ∧ Turned St w s F w' (cutS S n)
  crash : ∀ s F S A n c l w, St w s F S → Few S → l.length = n → n ≤ c → c ≤ maxLen → RdV w w.heap.size A (iv l) → (∀ x ∈ l, In64 x) → Out F A n →
    Calls Try.prog 26 #[.pointer (some s), .slice A n c] w fun e w' => e = .returned (.tuple #[]) ∧ Turned St w s F w' (crashS S l)
  size : ∀ s F S w, St w s F S → Calls Try.prog 32 #[.pointer (some s)] w fun e w' => e = .returned (.int .i64 S.n) ∧ Below w.heap.size w w'
  dead : ∀ s F S w, St w s F S → Calls Try.prog 29 #[.pointer (some s)] w fun e w' => e = .returned (.bool S.off) ∧ Below w.heap.size w w'
  count : ∀ s F S w, St w s F S → Calls Try.prog 28 #[.pointer (some s)] w fun e w' => e = .returned (.int .i64 (S.cnt : Nat)) ∧ Below w.heap.size w w'
/-- What they do on nil. -/
structure NilOk : Prop where
  write : ∀ (at_ : Int) A n c w, Calls Try.prog 20 #[.pointer none, .int .i64 at_, .slice A n c] w fun e w' => e = .returned (.int .i64 2) ∧ Below w.heap.size w w'
  flush : ∀ w, Calls Try.prog 22 #[.pointer none] w fun e w' => e = .returned (.int .i64 2) ∧ Below w.heap.size w w'
  read : ∀ (at_ : Int) w, Calls Try.prog 30 #[.pointer none, .int .i64 at_] w fun e w' => (∃ A c, e = .returned (.tuple #[.slice A 0 c, .int .i64 2])) ∧ Below w.heap.size w w'
  cut : ∀ (n : Int) w, Calls Try.prog 24 #[.pointer none, .int .i64 n] w fun e w' => e = .returned (.tuple #[]) ∧ Below w.heap.size w w'
  crash : ∀ A n c w, Calls Try.prog 26 #[.pointer none, .slice A n c] w fun e w' => e = .returned (.tuple #[]) ∧ Below w.heap.size w w'
  size : ∀ w, Calls Try.prog 32 #[.pointer none] w fun e w' => e = .returned (.int .i64 0) ∧ Below w.heap.size w w'
  dead : ∀ w, Calls Try.prog 29 #[.pointer none] w fun e w' => e = .returned (.bool false) ∧ Below w.heap.size w w'
  count : ∀ w, Calls Try.prog 28 #[.pointer none] w fun e w' => e = .returned (.int .i64 0) ∧ Below w.heap.size w w'
section
variable {St : World → Addr → (Nat → Prop) → DS → Prop} {w0 w w' : World} {s : Addr} {F N : Nat → Prop} {S S' : DS}
theorem DisksOk.below (K : DisksOk St) (h : St w s F S) (hb : Below w.heap.size w w') : St w' s F S := K.keep h fun g hg => hb.block g (K.lt h g hg)
theorem DisksOk.other (K : DisksOk St) {G : Nat → Prop} (h : St w s F S) (hb : Only G w w') (hd : ∀ g, F g → ¬ G g) : St w' s F S := K.keep h fun g hg => hb.block g (K.lt h g hg) (hd g hg)
theorem Turned.on (K : DisksOk St) (h : Turned St w0 s N w S) (hb : Below w.heap.size w w') : Turned St w0 s N w' S := by
  obtain ⟨F, h1, h2, h3⟩ := h
  exact ⟨F, K.below h1 hb, h2, h3.trans (Only.of_below (F := F) hb) h2⟩
theorem Turned.ok (K : DisksOk St) (h : Turned St w0 s N w S) : S.Ok := by
  obtain ⟨F, h1, _⟩ := h
  exact K.ok h1
/-- A disk that was made behind a base world. -/
abbrev Dsk (St : World → Addr → (Nat → Prop) → DS → Prop) (w0 w : World) (s : Addr) (S : DS) : Prop := Turned St w0 s (fun _ => False) w S
theorem Turned.new (K : DisksOk St) (n : Nat) (hn : n ≤ 16384) (hb : Below w0.heap.size w0 w) :
    Calls Try.prog 8 #[.int .i64 n] w fun e w' => ∃ s, e = .returned (.tuple #[.pointer (some s), .int .i64 0]) ∧ Dsk St w0 w' s (newS n) :=
  (K.new n w hn).mono fun e w' ⟨s, F, h1, h2, h3, h4⟩ => ⟨s, h1, F, h2, fun g hg => .inr (Nat.le_trans hb.size (h3 g hg)), Only.of_below (hb.trans (h4.mono hb.size))⟩
/-- A write of bytes that lie in the base world, in no block of N's. -/
theorem Turned.write (K : DisksOk St) (h : Turned St w0 s N w S) (hf : Few S) (at_ : Int) (ha : In64 at_) (A : Option Addr) (n c : Nat) (b : List UInt8) (hl : b.length = n) (hc : n ≤ c) (hm : c ≤ maxLen) (hr : Rd w0 w0.heap.size A b) (ho : Out N A n) :
    Calls Try.prog 20 #[.pointer (some s), .int .i64 at_, .slice A n c] w fun e w' => e = .returned (.int .i64 (writeE S at_ n)) ∧ Turned St w0 s N w' (writeS S at_ b) := by
  obtain ⟨F, h1, h2, h3⟩ := h
  exact (K.write s F S at_ A n c b w h1 hf ha hl hc hm ((rd_only h3 hr (by rw [hl]; exact ho)).more h3.size) (out_more hr hl ho h2)).mono fun e w' ⟨he, ht⟩ => ⟨he, Turned.step h2 h3 ht⟩
/-- A write of bytes that lie behind the disk's blocks. -/
theorem Turned.write2 (K : DisksOk St) (h : Turned St w0 s N w S) (hf : Few S) {W : World} (hb : Below w.heap.size w W) (at_ : Int) (ha : In64 at_) (A : Option Addr) (n c : Nat) (b : List UInt8) (hl : b.length = n) (hc : n ≤ c) (hm : c ≤ maxLen) (hr : Rd W W.heap.size A b) (hA : ∀ ad, A = some ad → w.heap.size ≤ ad.block) :
    Calls Try.prog 20 #[.pointer (some s), .int .i64 at_, .slice A n c] W fun e w' => e = .returned (.int .i64 (writeE S at_ n)) ∧ Turned St w0 s N w' (writeS S at_ b) := by
  obtain ⟨F, h1, h2, h3⟩ := h
  have hF := K.lt h1
  exact (K.write s F S at_ A n c b W (K.below h1 hb) hf ha hl hc hm hr (fun ad e _ hg => by have := hA ad e; have := hF _ hg; omega)).mono fun e w' ⟨he, ht⟩ => ⟨he, Turned.step h2 (h3.trans (Only.of_below (F := F) hb) h2) ht⟩
theorem Turned.flush (K : DisksOk St) (h : Turned St w0 s N w S) (hf : Few S) :
    Calls Try.prog 22 #[.pointer (some s)] w fun e w' => e = .returned (.int .i64 (flushE S)) ∧ Turned St w0 s N w' (flushS S) := by
  obtain ⟨F, h1, h2, h3⟩ := h
  exact (K.flush s F S w h1 hf).mono fun e w' ⟨he, ht⟩ => ⟨he, Turned.step h2 h3 ht⟩
theorem Turned.read (K : DisksOk St) (h : Turned St w0 s N w S) (hf : Few S) (at_ : Int) (ha : In64 at_) :
    Calls Try.prog 30 #[.pointer (some s), .int .i64 at_] w fun e w' => ∃ A c, e = .returned (.tuple #[.slice A (readS S at_).length c, .int .i64 (readE S at_)]) ∧
      w'.ownsRow w.heap.size 89 1 (.slice A (readS S at_).length c) (readS S at_).length (bv (readS S at_)) ∧ Below w.heap.size w w' ∧ Turned St w0 s N w' S ∧ ∃ F, St w' s F S ∧ (∀ g, F g → g < w.heap.size) ∧ (∀ g, F g → N g ∨ w0.heap.size ≤ g) := by
  obtain ⟨F, h1, h2, h3⟩ := h
  exact (K.read s F S at_ w h1 hf ha).mono fun e w' ⟨A, c, he, ho, hb⟩ => ⟨A, c, he, ho, hb, ⟨F, K.below h1 hb, h2, h3.trans (Only.of_below (F := F) hb) h2⟩, F, K.below h1 hb, K.lt h1, h2⟩
theorem Turned.cut (K : DisksOk St) (h : Turned St w0 s N w S) (n : Int) (hn : In64 n) :
    Calls Try.prog 24 #[.pointer (some s), .int .i64 n] w fun e w' => e = .returned (.tuple #[]) ∧ Turned St w0 s N w' (cutS S n) := by
  obtain ⟨F, h1, h2, h3⟩ := h
  exact (K.cut s F S n w h1 hn).mono fun e w' ⟨he, ht⟩ => ⟨he, Turned.step h2 h3 ht⟩
theorem Turned.crash (K : DisksOk St) (h : Turned St w0 s N w S) (hf : Few S) (A : Option Addr) (n c : Nat) (l : List Int) (hl : l.length = n) (hc : n ≤ c) (hm : c ≤ maxLen) (hr : RdV w0 w0.heap.size A (iv l)) (hi : ∀ x ∈ l, In64 x) (ho : Out N A n) :
    Calls Try.prog 26 #[.pointer (some s), .slice A n c] w fun e w' => e = .returned (.tuple #[]) ∧ Turned St w0 s N w' (crashS S l) := by
  obtain ⟨F, h1, h2, h3⟩ := h
  exact (K.crash s F S A n c l w h1 hf hl hc hm ((rdv_only h3 hr (by rw [iv_length, hl]; exact ho)).more h3.size) hi (out_morev hr (by rw [iv_length]; exact hl) ho h2)).mono fun e w' ⟨he, ht⟩ => ⟨he, Turned.step h2 h3 ht⟩
theorem Turned.crash2 (K : DisksOk St) (h : Turned St w0 s N w S) (hf : Few S) {W : World} (hb : Below w.heap.size w W) (A : Option Addr) (n c : Nat) (l : List Int) (hl : l.length = n) (hc : n ≤ c) (hm : c ≤ maxLen) (hr : RdV W W.heap.size A (iv l)) (hi : ∀ x ∈ l, In64 x) (hA : ∀ ad, A = some ad → w.heap.size ≤ ad.block) :
    Calls Try.prog 26 #[.pointer (some s), .slice A n c] W fun e w' => e = .returned (.tuple #[]) ∧ Turned St w0 s N w' (crashS S l) := by
  obtain ⟨F, h1, h2, h3⟩ := h
  have hF := K.lt h1
  exact (K.crash s F S A n c l W (K.below h1 hb) hf hl hc hm hr hi (fun ad e _ hg => by have := hA ad e; have := hF _ hg; omega)).mono fun e w' ⟨he, ht⟩ => ⟨he, Turned.step h2 (h3.trans (Only.of_below (F := F) hb) h2) ht⟩
theorem Turned.size (K : DisksOk St) (h : Turned St w0 s N w S) : Calls Try.prog 32 #[.pointer (some s)] w fun e w' => e = .returned (.int .i64 S.n) ∧ Below w.heap.size w w' := by
  obtain ⟨F, h1, _⟩ := h
  exact K.size s F S w h1
theorem Turned.dead (K : DisksOk St) (h : Turned St w0 s N w S) : Calls Try.prog 29 #[.pointer (some s)] w fun e w' => e = .returned (.bool S.off) ∧ Below w.heap.size w w' := by
  obtain ⟨F, h1, _⟩ := h
  exact K.dead s F S w h1
theorem Turned.count (K : DisksOk St) (h : Turned St w0 s N w S) : Calls Try.prog 28 #[.pointer (some s)] w fun e w' => e = .returned (.int .i64 (S.cnt : Nat)) ∧ Below w.heap.size w w' := by
  obtain ⟨F, h1, _⟩ := h
  exact K.count s F S w h1
end
end Go.Proofs.Ythbgcffnnholeaa
