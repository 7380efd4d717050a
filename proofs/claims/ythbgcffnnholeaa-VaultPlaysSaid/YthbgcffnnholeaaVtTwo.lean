/- Both disks, the package's vault and blocks of the call's own in one world, apart: what VaultPlays holds from round to round. No statement of the seat is proved here. -/
import Derived.Test.YthbgcffnnholeaaVtRefD
import Derived.Test.YthbgcffnnholeaaDskActB
namespace Go.Proofs.Ythbgcffnnholeaa
open Go.RowKit
set_option linter.unusedVariables false

def P2 (St : World → Addr → (Nat → Prop) → DS → Prop) (Vt : World → Addr → (Nat → Prop) → Addr → VS → Prop) (v : Addr) (V : VS) (w0 w : World) (d r : Addr) (S T : DS) (E : List (Nat × Obj)) : Prop :=
  ∃ F G, SV St Vt v V w d F S ∧ Rst w r G T ∧ (∀ g, F g → ¬ G g) ∧ (∀ g, F g → w0.heap.size ≤ g) ∧ (∀ g, G g → w0.heap.size ≤ g) ∧ Below w0.heap.size w0 w ∧ ∀ p ∈ E, w.heap[p.1]? = some p.2 ∧ ¬ F p.1 ∧ ¬ G p.1
theorem heap_lt {w : World} {g : Nat} {o : Obj} (h : w.heap[g]? = some o) : g < w.heap.size := by
  rcases Nat.lt_or_ge g w.heap.size with hlt | hge
  · exact hlt
  · rw [Array.getElem?_eq_none hge] at h; cases h
section
variable {St : World → Addr → (Nat → Prop) → DS → Prop} {Vt : World → Addr → (Nat → Prop) → Addr → VS → Prop} {w0 w w' : World} {d r v : Addr} {V : VS} {S S' T T' : DS} {E : List (Nat × Obj)} {F N : Nat → Prop}
theorem P2.bel (h : P2 St Vt v V w0 w d r S T E) : Below w0.heap.size w0 w := by
  obtain ⟨F, G, h1, h2, h3, h4, h5, h6, h7⟩ := h
  exact h6
theorem P2.on (K : DisksOk St) (L : VaultsOk St Vt) (h : P2 St Vt v V w0 w d r S T E) (hb : Below w.heap.size w w') : P2 St Vt v V w0 w' d r S T E := by
  obtain ⟨F, G, h1, h2, h3, h4, h5, h6, h7⟩ := h
  exact ⟨F, G, (sv_firm K L v V).keep h1 fun g hg => hb.block g ((sv_firm K L v V).lt h1 g hg), rst_keep h2 fun g hg => hb.block g (rst_lt h2 g hg), h3, h4, h5, h6.trans (hb.mono h6.size), fun p hp => ⟨(hb.block p.1 (heap_lt (h7 p hp).1)).trans (h7 p hp).1, (h7 p hp).2⟩⟩
theorem P2.blk {g : Nat} {t : TypeId} {cs : Array Value} (h : P2 St Vt v V w0 w d r S T E) (hm : (g, Obj.cells cs t (0, 0)) ∈ E) : Blk w g t cs := by
  obtain ⟨F, G, h1, h2, h3, h4, h5, h6, h7⟩ := h
  exact (h7 _ hm).1
theorem P2.drop {e : Nat × Obj} (h : P2 St Vt v V w0 w d r S T (e :: E)) : P2 St Vt v V w0 w d r S T E := by
  obtain ⟨F, G, h1, h2, h3, h4, h5, h6, h7⟩ := h
  exact ⟨F, G, h1, h2, h3, h4, h5, h6, fun p hp => h7 p (List.mem_cons_of_mem _ hp)⟩
/-- A box is made. -/
theorem P2.box (K : DisksOk St) (L : VaultsOk St Vt) (h : P2 St Vt v V w0 w d r S T E) {g : Nat} {t : TypeId} {cs : Array Value} (hg : w.heap.size = g) (hw : w.alloc (.cells cs t) = w') : P2 St Vt v V w0 w' d r S T ((g, Obj.cells cs t (0, 0)) :: E) := by
  have hb : Below w.heap.size w w' := hw ▸ (Below.refl _ _).alloc (Nat.le_refl _) _
  obtain ⟨F, G, h1, h2, h3, h4, h5, h6, h7⟩ := h
  have hF := (sv_firm K L v V).lt h1
  have hG := rst_lt h2
  refine ⟨F, G, (sv_firm K L v V).keep h1 fun g hg => hb.block g (hF g hg), rst_keep h2 fun g hg => hb.block g (hG g hg), h3, h4, h5, h6.trans (hb.mono h6.size), fun p hp => ?_⟩
  rcases List.mem_cons.1 hp with rfl | hp
  · refine ⟨by rw [← hw, ← hg]; exact heap_alloc_new w _, fun hf => ?_, fun hf => ?_⟩
    · have := hF _ hf; omega
    · have := hG _ hf; omega
  · exact ⟨(hb.block p.1 (heap_lt (h7 p hp).1)).trans (h7 p hp).1, (h7 p hp).2⟩
/-- The package's disk turns; the world may have grown meanwhile. -/
theorem P2.left (K : DisksOk St) (L : VaultsOk St Vt) (h : P2 St Vt v V w0 w d r S T E) {W : World} (hb : Below w.heap.size w W) : ∃ F, (∀ g, F g → g < w.heap.size ∧ w0.heap.size ≤ g) ∧ Turned (SV St Vt v V) W d F W S ∧ ∀ {w' S'}, Turned (SV St Vt v V) W d F w' S' → P2 St Vt v V w0 w' d r S' T E := by
  have hE := P2.on K L h hb
  obtain ⟨F, G, h1, h2, h3, h4, h5, h6, h7⟩ := h
  have hF := (sv_firm K L v V).lt h1
  have h1' := (sv_firm K L v V).keep h1 fun g hg => hb.block g (hF g hg)
  have hG := rst_lt h2
  have h2' := rst_keep h2 fun g hg => hb.block g (hG g hg)
  have hG' := rst_lt h2'
  have h6' := h6.trans (hb.mono h6.size)
  refine ⟨F, fun g hg => ⟨hF g hg, h4 g hg⟩, Turned.refl h1', fun {w' S'} ⟨F', a1, a2, a3⟩ => ⟨F', G, a1, rst_keep h2' fun g hg => a3.block g (hG' g hg) fun hf => h3 g hf hg, fun g hf hg => ?_, fun g hf => ?_, h5, h6'.trans (Only.below a3 h4 h6'.size), fun p hp => ?_⟩⟩
  · rcases a2 g hf with h | h
    · exact h3 g h hg
    · have := hG' g hg; omega
  · rcases a2 g hf with h | h
    · exact h4 g h
    · exact Nat.le_trans h6'.size h
  · have hp1 := (hb.block p.1 (heap_lt (h7 p hp).1)).trans (h7 p hp).1
    refine ⟨(a3.block p.1 (heap_lt hp1) (h7 p hp).2.1).trans hp1, fun hf => ?_, (h7 p hp).2.2⟩
    rcases a2 _ hf with h | h
    · exact (h7 p hp).2.1 h
    · have := heap_lt hp1; omega
/-- The reference's disk turns. -/
theorem P2.right (K : DisksOk St) (L : VaultsOk St Vt) (h : P2 St Vt v V w0 w d r S T E) : ∃ G, (∀ g, G g → w0.heap.size ≤ g) ∧ Turned Rst w r G w T ∧ T.Ok ∧ ∀ {w' T'}, Turned Rst w r G w' T' → P2 St Vt v V w0 w' d r S T' E := by
  obtain ⟨F, G, h1, h2, h3, h4, h5, h6, h7⟩ := h
  have hF := (sv_firm K L v V).lt h1
  have hok : T.Ok := by
    obtain ⟨_, _, _, _, _, _, _, ho, _⟩ := h2
    exact ho
  refine ⟨G, h5, Turned.refl h2, hok, fun {w' T'} ⟨G', a1, a2, a3⟩ => ⟨F, G', (sv_firm K L v V).keep h1 fun g hg => a3.block g (hF g hg) fun hf => h3 g hg hf, a1, fun g hf hg => ?_, h4, fun g hf => ?_, h6.trans (Only.below a3 h5 h6.size), fun p hp => ?_⟩⟩
  · rcases a2 g hg with h | h
    · exact h3 g hf h
    · have := hF g hf; omega
  · rcases a2 g hf with h | h
    · exact h5 g h
    · exact Nat.le_trans h6.size h
  · refine ⟨(a3.block p.1 (heap_lt (h7 p hp).1) (h7 p hp).2.2).trans (h7 p hp).1, (h7 p hp).2.1, fun hf => ?_⟩
    rcases a2 _ hf with h | h
    · exact (h7 p hp).2.2 h
    · have := heap_lt (h7 p hp).1; omega
theorem P2.fits (h : P2 St Vt v V w0 w d r S T E) : V.Fits S.n := by
  obtain ⟨F, G, ⟨_, _, _, _, _, _, h1⟩, _⟩ := h
  exact h1
theorem P2.sok (K : DisksOk St) (h : P2 St Vt v V w0 w d r S T E) : S.Ok := by
  obtain ⟨F, G, ⟨_, _, h1, _⟩, _⟩ := h
  exact K.ok h1
/-- The reference's disk is as it was at its making. -/
theorem P2.ref (h : P2 St Vt v V w0 w d r S T E) : ∃ G, Rst w r G T := by
  obtain ⟨F, G, _, h2, _⟩ := h
  exact ⟨G, h2⟩
section
variable (K : DisksOk St) (L : VaultsOk St Vt)
include K L
/-- Bytes of the call's own are put. -/
theorem P2.vput (h : P2 St Vt v V w0 w d r S T E) {W : World} (hb : Below w.heap.size w W) (at_ : Int) (ha : In64 at_) (A : Option Addr) (n c : Nat) (b : List UInt8) (hl : b.length = n) (hf : FewBy (nSec (n + 4)) S) (hc : n ≤ c) (hm : c ≤ maxLen) (hn : n ≤ 100000) (hr : Rd W W.heap.size A b) (hA : ∀ ad, A = some ad → w.heap.size ≤ ad.block) :
    Calls Try.prog 16 #[.pointer (some v), .int .i64 at_, .slice A n c] W fun x w' => x = .returned (.int .i64 ((putV V S at_ b).2 : Nat)) ∧ P2 St Vt v V w0 w' d r (putV V S at_ b).1 T E := by
  obtain ⟨F, h1, h2, h3⟩ := h.left K L hb
  exact (Turned.vput K L h2 at_ ha A n c b hl hf hc hm hn hr (fun ad e _ hf => by have := hA ad e; have := h1 _ hf; omega)).mono fun x w' ⟨hx, ht⟩ => ⟨hx, h3 ht⟩
theorem P2.rvput (h : P2 St Vt v V w0 w d r S T E) (hV : V.Fits T.n) (at_ : Int) (b : List UInt8) (n : Nat) (hl : b.length = n) (hf : FewBy (nSec (n + 4)) T) :
    Calls Try.prog 17 #[rvv r V, .int .i64 at_, .string ⟨b.toArray⟩] w fun x w' => x = .returned (.int .i64 ((putV V T at_ b).2 : Nat)) ∧ P2 St Vt v V w0 w' d r S (putV V T at_ b).1 E := by
  obtain ⟨G, h1, h2, hk, h3⟩ := h.right K L
  exact (rvput_any h2 hk hV at_ b n hl hf).mono fun x w' ⟨hx, ht⟩ => ⟨hx, h3 ht⟩
theorem P2.vget (h : P2 St Vt v V w0 w d r S T E) (hf : Few S) (at_ : Int) (ha : In64 at_) :
    Calls Try.prog 18 #[.pointer (some v), .int .i64 at_] w fun x w' => ∃ A c, x = .returned (.tuple #[.slice A (vgetB V S at_).length c, .int .i64 (vgetE V S at_ : Nat)]) ∧
      (vgetB V S at_).length ≤ c ∧ c ≤ maxLen ∧ Rd w' w'.heap.size A (vgetB V S at_) ∧ Below w.heap.size w w' ∧ P2 St Vt v V w0 w' d r S T E := by
  obtain ⟨F, h1, h2, h3⟩ := h.left K L (Below.refl _ _)
  exact (Turned.vget K L h2 hf at_ ha).mono fun x w' ⟨A, c, hx, a1, a2, a3, a4, _⟩ => ⟨A, c, hx, a1, a2, a3, a4, h.on K L a4⟩
theorem P2.rvget (h : P2 St Vt v V w0 w d r S T E) (hV : V.Fits T.n) (hf : Few T) (at_ : Int) :
    Calls Try.prog 19 #[rvv r V, .int .i64 at_] w fun x w' => x = .returned (.tuple #[.string ⟨(vgetB V T at_).toArray⟩, .int .i64 (vgetE V T at_ : Nat)]) ∧ Below w.heap.size w w' ∧ P2 St Vt v V w0 w' d r S T E := by
  obtain ⟨G, h1, h2, hk, h3⟩ := h.right K L
  exact (rvget_any h2 hk hV hf at_).mono fun x w' ⟨hx, _, hb⟩ => ⟨hx, hb, h.on K L hb⟩
/-- Bytes that came in are written. -/
theorem P2.write (h : P2 St Vt v V w0 w d r S T E) (hf : Few S) (at_ : Int) (ha : In64 at_) (A : Option Addr) (n c : Nat) (b : List UInt8) (hl : b.length = n) (hc : n ≤ c) (hm : c ≤ maxLen) (hr : Rd w0 w0.heap.size A b) :
    Calls Try.prog 20 #[.pointer (some d), .int .i64 at_, .slice A n c] w fun x w' => x = .returned (.int .i64 (writeE S at_ n)) ∧ P2 St Vt v V w0 w' d r (writeS S at_ b) T E := by
  have hbel := h.bel
  obtain ⟨F, h1, h2, h3⟩ := h.left K L (Below.refl _ _)
  obtain ⟨F', b1, b2, b3⟩ := h2
  obtain ⟨F1, G1, a1, a2, a3, a4, a5, a6⟩ := sv_turn (S' := writeS S at_ b) K L b1 (writeS_n S at_ b)
  refine (K.write d F1 S at_ A n c b w a1 hf ha hl hc hm ((hr.below hbel).more hbel.size) fun ad e h0 hf => ?_).mono fun x w' ⟨hx, ht⟩ => ⟨hx, h3 (Turned.step b2 b3 (a6 ht))⟩
  have := out_low hr (F := F) (fun g hg => (h1 g hg).2) ad e (by omega)
  rcases b2 _ (a4 _ hf) with h | h
  · exact this h
  · obtain ⟨g, off, e2, hg, _⟩ := hr (by omega)
    rw [e] at e2; injection e2 with e2
    rw [e2] at h
    have : w.heap.size ≤ g := h
    have := hbel.size
    omega
theorem P2.rwrite (h : P2 St Vt v V w0 w d r S T E) (hf : Few T) (at_ : Int) (b : List UInt8) (m : Nat) (hm : b.length = m) :
    Calls Try.prog 21 #[.pointer (some r), .int .i64 at_, .string ⟨b.toArray⟩] w fun x w' => x = .returned (.int .i64 (writeE T at_ m : Nat)) ∧ P2 St Vt v V w0 w' d r S (writeS T at_ b) E := by
  obtain ⟨G, h1, h2, hk, h3⟩ := h.right K L
  exact (rst_write h2 hf at_ b m hm).mono fun x w' ⟨hx, ht⟩ => ⟨hx, h3 ht⟩
theorem P2.flush (h : P2 St Vt v V w0 w d r S T E) (hf : Few S) :
    Calls Try.prog 22 #[.pointer (some d)] w fun x w' => x = .returned (.int .i64 (flushE S)) ∧ P2 St Vt v V w0 w' d r (flushS S) T E := by
  obtain ⟨F, h1, h2, h3⟩ := h.left K L (Below.refl _ _)
  obtain ⟨F', b1, b2, b3⟩ := h2
  obtain ⟨F1, G1, a1, a2, a3, a4, a5, a6⟩ := sv_turn (S' := flushS S) K L b1 (flushS_n S)
  exact (K.flush d F1 S w a1 hf).mono fun x w' ⟨hx, ht⟩ => ⟨hx, h3 (Turned.step b2 b3 (a6 ht))⟩
theorem P2.rflush (h : P2 St Vt v V w0 w d r S T E) (hf : Few T) :
    Calls Try.prog 23 #[.pointer (some r)] w fun x w' => x = .returned (.int .i64 (flushE T : Nat)) ∧ P2 St Vt v V w0 w' d r S (flushS T) E := by
  obtain ⟨G, h1, h2, hk, h3⟩ := h.right K L
  exact (rst_flush h2 hf).mono fun x w' ⟨hx, ht⟩ => ⟨hx, h3 ht⟩
theorem P2.cut (h : P2 St Vt v V w0 w d r S T E) (n : Int) (hn : In64 n) :
    Calls Try.prog 24 #[.pointer (some d), .int .i64 n] w fun x w' => x = .returned (.tuple #[]) ∧ P2 St Vt v V w0 w' d r (cutS S n) T E := by
  obtain ⟨F, h1, h2, h3⟩ := h.left K L (Below.refl _ _)
  obtain ⟨F', b1, b2, b3⟩ := h2
  obtain ⟨F1, G1, a1, a2, a3, a4, a5, a6⟩ := sv_turn (S' := cutS S n) K L b1 (cutS_n S n)
  exact (K.cut d F1 S n w a1 hn).mono fun x w' ⟨hx, ht⟩ => ⟨hx, h3 (Turned.step b2 b3 (a6 ht))⟩
theorem P2.rcut (h : P2 St Vt v V w0 w d r S T E) (n : Int) (hn : In64 n) :
    Calls Try.prog 25 #[.pointer (some r), .int .i64 n] w fun x w' => x = .returned (.tuple #[]) ∧ P2 St Vt v V w0 w' d r S (cutS T n) E := by
  obtain ⟨G, h1, h2, hk, h3⟩ := h.right K L
  exact (rst_cut h2 n hn).mono fun x w' ⟨hx, ht⟩ => ⟨hx, h3 ht⟩
theorem P2.crash (h : P2 St Vt v V w0 w d r S T E) (hf : Few S) (A : Option Addr) (n c : Nat) (l : List Int) (hl : l.length = n) (hc : n ≤ c) (hm : c ≤ maxLen) (hr : RdV w0 w0.heap.size A (iv l)) (hi : ∀ x ∈ l, In64 x) :
    Calls Try.prog 26 #[.pointer (some d), .slice A n c] w fun x w' => x = .returned (.tuple #[]) ∧ P2 St Vt v V w0 w' d r (crashS S l) T E := by
  have hbel := h.bel
  obtain ⟨F, h1, h2, h3⟩ := h.left K L (Below.refl _ _)
  obtain ⟨F', b1, b2, b3⟩ := h2
  obtain ⟨F1, G1, a1, a2, a3, a4, a5, a6⟩ := sv_turn (S' := crashS S l) K L b1 rfl
  refine (K.crash d F1 S A n c l w a1 hf hl hc hm ((hr.below hbel).more hbel.size) hi fun ad e h0 hf => ?_).mono fun x w' ⟨hx, ht⟩ => ⟨hx, h3 (Turned.step b2 b3 (a6 ht))⟩
  have := outv_low hr (F := F) (fun g hg => (h1 g hg).2) ad e (by rw [iv_length]; omega)
  rcases b2 _ (a4 _ hf) with h | h
  · exact this h
  · obtain ⟨g, off, e2, hg, _⟩ := hr (by rw [iv_length]; omega)
    rw [e] at e2; injection e2 with e2
    rw [e2] at h
    have : w.heap.size ≤ g := h
    have := hbel.size
    omega
theorem P2.rcrash (h : P2 St Vt v V w0 w d r S T E) (hf : Few T) (A : Option Addr) (n c : Nat) (l : List Int) (hl : l.length = n) (hc : n ≤ c) (hm : c ≤ maxLen) (hr : RdV w0 w0.heap.size A (iv l)) (hi : ∀ x ∈ l, In64 x) :
    Calls Try.prog 27 #[.pointer (some r), .slice A n c] w fun x w' => x = .returned (.tuple #[]) ∧ P2 St Vt v V w0 w' d r S (crashS T l) E := by
  have hbel := h.bel
  obtain ⟨G, h1, h2, hk, h3⟩ := h.right K L
  refine (rst_crash h2 hf A n c l hl hc hm ((hr.below hbel).more hbel.size) hi fun ad e h0 hf => ?_).mono fun x w' ⟨hx, ht⟩ => ⟨hx, h3 ht⟩
  have := outv_low hr (F := G) h1 ad e (by rw [iv_length]; omega)
  exact this hf
theorem P2.read (h : P2 St Vt v V w0 w d r S T E) (hf : Few S) (at_ : Int) (ha : In64 at_) :
    Calls Try.prog 30 #[.pointer (some d), .int .i64 at_] w fun x w' => ∃ A c, x = .returned (.tuple #[.slice A (readS S at_).length c, .int .i64 (readE S at_)]) ∧ Rd w' w'.heap.size A (readS S at_) ∧ Below w.heap.size w w' ∧ P2 St Vt v V w0 w' d r S T E := by
  obtain ⟨F, h1, h2, h3⟩ := h.left K L (Below.refl _ _)
  obtain ⟨F', b1, b2, b3⟩ := h2
  obtain ⟨F1, a1, _⟩ := sv_disk b1
  exact (K.read d F1 S at_ w a1 hf ha).mono fun x w' ⟨A, c, hx, ho, hb⟩ => ⟨A, c, hx, Rd.of_own ho, hb, h.on K L hb⟩
theorem P2.rread (h : P2 St Vt v V w0 w d r S T E) (hf : Few T) (at_ : Int) :
    Calls Try.prog 31 #[.pointer (some r), .int .i64 at_] w fun x w' => x = .returned (.tuple #[.string ⟨(readS T at_).toArray⟩, .int .i64 (readE T at_ : Nat)]) ∧ w = w' := by
  obtain ⟨G, h1, h2, hk, h3⟩ := h.right K L
  exact rst_read h2 hf at_
theorem P2.done (h : P2 St Vt v V w0 w d r S T E) : Calls Try.prog 28 #[.pointer (some d)] w fun x w' => x = .returned (.int .i64 (S.cnt : Nat)) ∧ Below w.heap.size w w' := by
  obtain ⟨F, h1, ⟨F', b1, _⟩, h3⟩ := h.left K L (Below.refl _ _)
  obtain ⟨F1, a1, _⟩ := sv_disk b1
  exact K.count d F1 S w a1
theorem P2.dead (h : P2 St Vt v V w0 w d r S T E) : Calls Try.prog 29 #[.pointer (some d)] w fun x w' => x = .returned (.bool S.off) ∧ Below w.heap.size w w' := by
  obtain ⟨F, h1, ⟨F', b1, _⟩, h3⟩ := h.left K L (Below.refl _ _)
  obtain ⟨F1, a1, _⟩ := sv_disk b1
  exact K.dead d F1 S w a1
theorem P2.room (h : P2 St Vt v V w0 w d r S T E) : Calls Try.prog 12 #[.pointer (some v)] w fun x w' => x = .returned (.int .i64 V.room) ∧ Below w.heap.size w w' := by
  obtain ⟨F, h1, h2, h3⟩ := h.left K L (Below.refl _ _)
  exact Turned.vroom L h2
theorem P2.len (h : P2 St Vt v V w0 w d r S T E) : Calls Try.prog 14 #[.pointer (some v)] w fun x w' => x = .returned (.int .i64 V.n) ∧ Below w.heap.size w w' := by
  obtain ⟨F, h1, h2, h3⟩ := h.left K L (Below.refl _ _)
  exact Turned.vlen L h2
end
end
end Go.Proofs.Ythbgcffnnholeaa
