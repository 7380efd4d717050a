/- What the package's vaults do, as the statements' walks use it: told over whatever the package's disks are. No statement of the seat is proved here. -/
import Derived.Test.YthbgcffnnholeaaDskKit
import Derived.Test.YthbgcffnnholeaaStTwo
import Derived.Test.YthbgcffnnholeaaVMA
namespace Go.Proofs.Ythbgcffnnholeaa
open Go.RowKit
set_option linter.unusedVariables false

/-- There is room for so many operations more. -/
def FewBy (k : Nat) (S : DS) : Prop := S.put.length + k ≤ 100000 ∧ S.cnt + k ≤ 100000
theorem FewBy.few {k : Nat} {S : DS} (h : FewBy k S) : Few S := ⟨by have := h.1; omega, by have := h.2; omega⟩
/-- What the calls of the package do: Vt w v G s V says that in w the vault at v, in the blocks G, lies as V on the disk at s. -/
structure VaultsOk (St : World → Addr → (Nat → Prop) → DS → Prop) (Vt : World → Addr → (Nat → Prop) → Addr → VS → Prop) : Prop where
  lt : ∀ {w v G s V}, Vt w v G s V → ∀ g, G g → g < w.heap.size
  keep : ∀ {w w' : World} {v G s V}, Vt w v G s V → (∀ g, G g → w'.heap[g]? = w.heap[g]?) → Vt w' v G s V
  new : ∀ s F S (f e n : Int) w, St w s F S → In64 f → In64 e → In64 n → FitV S.n f e n →
    Calls Try.prog 10 #[.pointer (some s), .int .i64 f, .int .i64 e, .int .i64 n] w fun x w' => ∃ v G, x = .returned (.tuple #[.pointer (some v), .int .i64 0]) ∧ Vt w' v G s ⟨f.toNat, e.toNat, n.toNat⟩ ∧ (∀ g, G g → w.heap.size ≤ g) ∧ Below w.heap.size w w'
  bad : ∀ s F S (f e n : Int) w, St w s F S → In64 f → In64 e → In64 n → ¬ FitV S.n f e n →
    Calls Try.prog 10 #[.pointer (some s), .int .i64 f, .int .i64 e, .int .i64 n] w fun x w' => x = .returned (.tuple #[.pointer none, .int .i64 1]) ∧ Below w.heap.size w w'
  room : ∀ v G s V w, Vt w v G s V → 1 ≤ V.each → V.each ≤ 16384 → Calls Try.prog 12 #[.pointer (some v)] w fun x w' => x = .returned (.int .i64 V.room) ∧ Below w.heap.size w w'
  len : ∀ v G s V w, Vt w v G s V → Calls Try.prog 14 #[.pointer (some v)] w fun x w' => x = .returned (.int .i64 V.n) ∧ Below w.heap.size w w'
  put : ∀ v G s V F S (at_ : Int) A n c b w, Vt w v G s V → St w s F S → (∀ g, F g → ¬ G g) → V.Fits S.n → FewBy (nSec (n + 4)) S → In64 at_ → b.length = n → n ≤ c → c ≤ maxLen → n ≤ 100000 → Rd w w.heap.size A b → Out F A n →
    Calls Try.prog 16 #[.pointer (some v), .int .i64 at_, .slice A n c] w fun x w' => x = .returned (.int .i64 ((putV V S at_ b).2 : Nat)) ∧ Turned St w s F w' (putV V S at_ b).1
  get : ∀ v G s V F S (at_ : Int) w, Vt w v G s V → St w s F S → (∀ g, F g → ¬ G g) → V.Fits S.n → Few S → In64 at_ →
    Calls Try.prog 18 #[.pointer (some v), .int .i64 at_] w fun x w' => ∃ A c, x = .returned (.tuple #[.slice A (vgetB V S at_).length c, .int .i64 (vgetE V S at_ : Nat)]) ∧
      (vgetB V S at_).length ≤ c ∧ c ≤ maxLen ∧ Rd w' w'.heap.size A (vgetB V S at_) ∧ Below w.heap.size w w'
/-- What they do on nil. -/
structure VaultNilOk : Prop where
  new : ∀ (f e n : Int) w, Calls Try.prog 10 #[.pointer none, .int .i64 f, .int .i64 e, .int .i64 n] w fun x w' => x = .returned (.tuple #[.pointer none, .int .i64 2]) ∧ Below w.heap.size w w'
  room : ∀ w, Calls Try.prog 12 #[.pointer none] w fun x w' => x = .returned (.int .i64 0) ∧ Below w.heap.size w w'
  len : ∀ w, Calls Try.prog 14 #[.pointer none] w fun x w' => x = .returned (.int .i64 0) ∧ Below w.heap.size w w'
  put : ∀ (at_ : Int) A n c w, Calls Try.prog 16 #[.pointer none, .int .i64 at_, .slice A n c] w fun x w' => x = .returned (.int .i64 2) ∧ Below w.heap.size w w'
  get : ∀ (at_ : Int) w, Calls Try.prog 18 #[.pointer none, .int .i64 at_] w fun x w' => (∃ A c, x = .returned (.tuple #[.slice A 0 c, .int .i64 2])) ∧ Below w.heap.size w w'
/-- A disk and its vault, as one state. -/
def SV (St : World → Addr → (Nat → Prop) → DS → Prop) (Vt : World → Addr → (Nat → Prop) → Addr → VS → Prop) (v : Addr) (V : VS) (w : World) (s : Addr) (F : Nat → Prop) (S : DS) : Prop :=
  ∃ F1 G1, St w s F1 S ∧ Vt w v G1 s V ∧ (∀ g, F1 g → ¬ G1 g) ∧ (∀ g, F g ↔ F1 g ∨ G1 g) ∧ V.Fits S.n
section
variable {St : World → Addr → (Nat → Prop) → DS → Prop} {Vt : World → Addr → (Nat → Prop) → Addr → VS → Prop} {w0 w w' : World} {s v : Addr} {F G N : Nat → Prop} {S S' : DS} {V : VS}
theorem DisksOk.firm (K : DisksOk St) : Firm St := ⟨K.lt, K.keep⟩
theorem sv_firm (K : DisksOk St) (L : VaultsOk St Vt) (v : Addr) (V : VS) : Firm (SV St Vt v V) := ⟨fun ⟨F1, G1, h1, h2, _, h4, _⟩ g hg => ((h4 g).1 hg).elim (K.lt h1 g) (L.lt h2 g),
  fun ⟨F1, G1, h1, h2, h3, h4, h5⟩ hk => ⟨F1, G1, K.keep h1 fun g hg => hk g ((h4 g).2 (.inl hg)), L.keep h2 fun g hg => hk g ((h4 g).2 (.inr hg)), h3, h4, h5⟩⟩
/-- What turns the disk turns both. -/
theorem sv_turn (K : DisksOk St) (L : VaultsOk St Vt) (h : SV St Vt v V w s F S) (hn : S'.n = S.n) : ∃ F1 G1, St w s F1 S ∧ Vt w v G1 s V ∧ (∀ g, F1 g → ¬ G1 g) ∧ (∀ g, F1 g → F g) ∧ V.Fits S.n ∧ ∀ {w'}, Turned St w s F1 w' S' → Turned (SV St Vt v V) w s F w' S' := by
  obtain ⟨F1, G1, h1, h2, h3, h4, h5⟩ := h
  refine ⟨F1, G1, h1, h2, h3, fun g hg => (h4 g).2 (.inl hg), h5, fun {w'} ⟨F', a1, a2, a3⟩ => ⟨fun g => F' g ∨ G1 g, ⟨F', G1, a1, ?_, ?_, fun _ => Iff.rfl, by rw [hn]; exact h5⟩, fun g hg => ?_, ⟨a3.os, a3.tape, a3.output, a3.size, fun g hg hf => a3.block g hg fun h => hf ((h4 g).2 (.inl h))⟩⟩⟩
  · exact L.keep h2 fun g hg => a3.block g (L.lt h2 g hg) fun hf => h3 g hf hg
  · intro g hf hg
    rcases a2 g hf with h | h
    · exact h3 g h hg
    · have := L.lt h2 g hg; omega
  · rcases hg with h | h
    · exact (a2 g h).imp (fun h => (h4 g).2 (.inl h)) id
    · exact .inl ((h4 g).2 (.inr h))
/-- The disk alone. -/
theorem sv_disk (h : SV St Vt v V w s F S) : ∃ F1, St w s F1 S ∧ ∀ g, F1 g → F g := by
  obtain ⟨F1, G1, h1, h2, h3, h4, h5⟩ := h
  exact ⟨F1, h1, fun g hg => (h4 g).2 (.inl hg)⟩
theorem Turned.fits (h : Turned (SV St Vt v V) w0 s N w S) : V.Fits S.n := by
  obtain ⟨F, ⟨_, _, _, _, _, _, h⟩, _⟩ := h
  exact h
theorem Turned.sok (K : DisksOk St) (h : Turned (SV St Vt v V) w0 s N w S) : S.Ok := by
  obtain ⟨F, ⟨_, _, h, _⟩, _⟩ := h
  exact K.ok h
/-- A vault is made on a disk that was made behind a base world. -/
theorem Turned.vault (K : DisksOk St) (L : VaultsOk St Vt) (h : Turned St w0 s (fun _ => False) w S) (f e n : Int) (hf : In64 f) (he : In64 e) (hn : In64 n) (hv : FitV S.n f e n) :
    Calls Try.prog 10 #[.pointer (some s), .int .i64 f, .int .i64 e, .int .i64 n] w fun x w' => ∃ v, x = .returned (.tuple #[.pointer (some v), .int .i64 0]) ∧ Turned (SV St Vt v ⟨f.toNat, e.toNat, n.toNat⟩) w0 s (fun _ => False) w' S ∧ Below w.heap.size w w' := by
  obtain ⟨F, h1, h2, h3⟩ := h
  refine (L.new s F S f e n w h1 hf he hn hv).mono fun x w' ⟨v, G, hx, hG, hg, hb⟩ => ⟨v, hx, ⟨fun g => F g ∨ G g, ⟨F, G, K.below h1 hb, hG, fun g hf hg' => by have := K.lt h1 g hf; have := hg g hg'; omega, fun _ => Iff.rfl, hv.fits⟩, fun g hg' => ?_, ?_⟩, hb⟩
  · rcases hg' with h | h
    · exact h2 g h
    · exact .inr (Nat.le_trans h3.size (hg g h))
  · exact h3.trans (Only.of_below (F := fun _ => False) hb) fun g h => h.elim
theorem Turned.vbad (K : DisksOk St) (L : VaultsOk St Vt) (h : Turned St w0 s N w S) (f e n : Int) (hf : In64 f) (he : In64 e) (hn : In64 n) (hv : ¬ FitV S.n f e n) :
    Calls Try.prog 10 #[.pointer (some s), .int .i64 f, .int .i64 e, .int .i64 n] w fun x w' => x = .returned (.tuple #[.pointer none, .int .i64 1]) ∧ Below w.heap.size w w' := by
  obtain ⟨F, h1, _⟩ := h
  exact L.bad s F S f e n w h1 hf he hn hv
theorem sv_on (K : DisksOk St) (L : VaultsOk St Vt) (h : Turned (SV St Vt v V) w0 s N w S) (hb : Below w.heap.size w w') : Turned (SV St Vt v V) w0 s N w' S := (sv_firm K L v V).on h hb
theorem Turned.vroom (L : VaultsOk St Vt) (h : Turned (SV St Vt v V) w0 s N w S) : Calls Try.prog 12 #[.pointer (some v)] w fun x w' => x = .returned (.int .i64 V.room) ∧ Below w.heap.size w w' := by
  obtain ⟨F, ⟨_, _, _, h, _, _, h2⟩, _⟩ := h
  exact L.room v _ s V w h h2.each.1 h2.each.2
theorem Turned.vlen (L : VaultsOk St Vt) (h : Turned (SV St Vt v V) w0 s N w S) : Calls Try.prog 14 #[.pointer (some v)] w fun x w' => x = .returned (.int .i64 V.n) ∧ Below w.heap.size w w' := by
  obtain ⟨F, ⟨_, _, _, h, _, _, h2⟩, _⟩ := h
  exact L.len v _ s V w h
/-- Bytes that lie in the base world are put. -/
theorem Turned.vput (K : DisksOk St) (L : VaultsOk St Vt) (h : Turned (SV St Vt v V) w0 s N w S) (at_ : Int) (ha : In64 at_) (A : Option Addr) (n c : Nat) (b : List UInt8) (hl : b.length = n) (hf : FewBy (nSec (n + 4)) S) (hc : n ≤ c) (hm : c ≤ maxLen) (hn : n ≤ 100000) (hr : Rd w0 w0.heap.size A b) (ho : Out N A n) :
    Calls Try.prog 16 #[.pointer (some v), .int .i64 at_, .slice A n c] w fun x w' => x = .returned (.int .i64 ((putV V S at_ b).2 : Nat)) ∧ Turned (SV St Vt v V) w0 s N w' (putV V S at_ b).1 := by
  obtain ⟨F, h1, h2, h3⟩ := h
  obtain ⟨F1, G1, a1, a2, a3, a4, a5, a6⟩ := sv_turn (S' := (putV V S at_ b).1) K L h1 (putV_grow V S at_ b).2.2
  refine (L.put v G1 s V F1 S at_ A n c b w a2 a1 a3 a5 hf ha hl hc hm hn ((rd_only h3 hr (by rw [hl]; exact ho)).more h3.size) (fun ad e h0 hf => out_more hr hl ho h2 ad e h0 (a4 _ hf))).mono fun x w' ⟨hx, ht⟩ => ⟨hx, Turned.step h2 h3 (a6 ht)⟩
/-- Bytes that lie behind the blocks of both. -/
theorem Turned.vput2 (K : DisksOk St) (L : VaultsOk St Vt) (h : Turned (SV St Vt v V) w0 s N w S) {W : World} (hb : Below w.heap.size w W) (at_ : Int) (ha : In64 at_) (A : Option Addr) (n c : Nat) (b : List UInt8) (hl : b.length = n) (hf : FewBy (nSec (n + 4)) S) (hc : n ≤ c) (hm : c ≤ maxLen) (hn : n ≤ 100000) (hr : Rd W W.heap.size A b) (hA : ∀ ad, A = some ad → w.heap.size ≤ ad.block) :
    Calls Try.prog 16 #[.pointer (some v), .int .i64 at_, .slice A n c] W fun x w' => x = .returned (.int .i64 ((putV V S at_ b).2 : Nat)) ∧ Turned (SV St Vt v V) w0 s N w' (putV V S at_ b).1 := by
  obtain ⟨F, h1, h2, h3⟩ := h
  have hF := (sv_firm K L v V).lt h1
  have h1' := (sv_firm K L v V).keep h1 fun g hg => hb.block g (hF g hg)
  obtain ⟨F1, G1, a1, a2, a3, a4, a5, a6⟩ := sv_turn (S' := (putV V S at_ b).1) K L h1' (putV_grow V S at_ b).2.2
  refine (L.put v G1 s V F1 S at_ A n c b W a2 a1 a3 a5 hf ha hl hc hm hn hr (fun ad e _ hf => by have := hA ad e; have := hF _ (a4 _ hf); omega)).mono fun x w' ⟨hx, ht⟩ => ⟨hx, Turned.step h2 (h3.trans (Only.of_below (F := F) hb) h2) (a6 ht)⟩
theorem Turned.vget (K : DisksOk St) (L : VaultsOk St Vt) (h : Turned (SV St Vt v V) w0 s N w S) (hf : Few S) (at_ : Int) (ha : In64 at_) :
    Calls Try.prog 18 #[.pointer (some v), .int .i64 at_] w fun x w' => ∃ A c, x = .returned (.tuple #[.slice A (vgetB V S at_).length c, .int .i64 (vgetE V S at_ : Nat)]) ∧
      (vgetB V S at_).length ≤ c ∧ c ≤ maxLen ∧ Rd w' w'.heap.size A (vgetB V S at_) ∧ Below w.heap.size w w' ∧ Turned (SV St Vt v V) w0 s N w' S := by
  obtain ⟨F, h1, h2, h3⟩ := h
  have h1' := h1
  obtain ⟨F1, G1, a1, a2, a3, a4, a5⟩ := h1
  refine (L.get v G1 s V F1 S at_ w a2 a1 a3 a5 hf ha).mono fun x w' ⟨A, c, hx, h4, h5, h6, h7⟩ => ⟨A, c, hx, h4, h5, h6, h7, F, (sv_firm K L v V).keep h1' fun g hg => h7.block g ((sv_firm K L v V).lt h1' g hg), h2, h3.trans (Only.of_below (F := F) h7) h2⟩
/-- The disk alone, as it turned from a world on. -/
theorem Turned.alone (h : Turned (SV St Vt v V) w0 s (fun _ => False) w S) : Turned St w0 s (fun _ => False) w S := by
  obtain ⟨F, h1, h2, h3⟩ := h
  obtain ⟨F1, a1, a2⟩ := sv_disk h1
  exact ⟨F1, a1, fun g hg => h2 g (a2 g hg), h3⟩
end
end Go.Proofs.Ythbgcffnnholeaa
