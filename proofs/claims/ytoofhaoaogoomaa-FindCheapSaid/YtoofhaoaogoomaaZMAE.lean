/- Rows (api.Row) and places (api.Place) in memory. No statement of the seat is proved here. -/
import Derived.Test.YtoofhaoaogoomaaZMAD
import Derived.Test.YtoofhaoaogoomaaZMAB
namespace Go.Proofs.Ytoofhaoaogoomaa
open Go.ChangeShapes Go.WideShapes Go.ChangeAt Go.RowKit Go.Deep Go.Joins
set_option linter.unusedVariables false

set_option maxRecDepth 100000 in
theorem row_fields : ∃ f0 f1 : Field, Try.prog.underlying 42 = some (.struct #[f0, f1]) ∧ f0.type = 38 ∧ f1.type = 40 ∧ f0.offset = 0 ∧ f1.offset = 33 ∧ Try.prog.cellsOf 42 = 35 ∧ Try.prog.cellsOf 38 = 33 ∧ Try.prog.cellsOf 40 = 2 := by
  refine ⟨_, _, Try.underlying42, ?_, ?_, ?_, ?_, ?_, ?_, ?_⟩ <;> kernel_rfl
theorem row_desc : ∃ fs, Try.prog.underlying 42 = some (.struct fs) := ⟨_, Try.underlying42⟩
theorem row_size : (Try.prog.info? 42).map (·.size) = some 35 := by kernel_rfl
set_option maxRecDepth 100000 in
theorem place_fields : ∃ f0 f1 : Field, Try.prog.underlying 40 = some (.struct #[f0, f1]) ∧ f0.type = 3 ∧ f1.type = 3 ∧ f0.offset = 0 ∧ f1.offset = 1 ∧ oneCellFields Try.prog #[f0, f1] = true ∧ Try.prog.cellsOf 40 = 2 ∧ Try.prog.cellsOf 3 = 1 := by
  refine ⟨_, _, Try.underlying40, ?_, ?_, ?_, ?_, ?_, ?_, ?_⟩ <;> kernel_rfl
theorem place_desc : ∃ fs, Try.prog.underlying 40 = some (.struct fs) := ⟨_, Try.underlying40⟩
theorem place_size : (Try.prog.info? 40).map (·.size) = some 2 := by kernel_rfl
section
variable {H : Type} {enc : TypeId × Value → H} {w : World} {base : Nat} {sp : Nat → Bool} {held : Bool}
set_option maxRecDepth 100000 in
theorem place_cells {fuel : Nat} {cs : List Value} {x : DataW H × List MemPlace} (h : DataW.trod enc Try.prog w base sp held fuel 40 cs = some x) : ∃ p : Int × Int, cs = pvs p ∧ In64 p.1 ∧ In64 p.2 := by
  obtain ⟨f0, f1, hs, e0, e1, o0, o1, _, hC, hI⟩ := place_fields
  obtain ⟨xs, n, _, _, hl, hxl, hf⟩ := DataW.trod_struct hs h
  have h0 := hf 0 f0 rfl
  have h1 := hf 1 f1 rfl
  rw [e0, o0, hI] at h0
  rw [e1, o1, hI] at h1
  have hxl2 : xs.length = 2 := hxl
  rw [List.getElem?_eq_getElem (by omega)] at h0 h1
  rw [hC] at hl
  obtain ⟨z0, c0, _, w0⟩ := DataW.trod_int Try.underlying3 h0
  obtain ⟨z1, c1, _, w1⟩ := DataW.trod_int Try.underlying3 h1
  match cs, hl with
  | [v0, v1], _ =>
    simp only [List.drop_zero, List.drop_succ_cons, List.take_succ_cons, List.take_zero, List.cons.injEq, and_true] at c0 c1
    exact ⟨(z0, z1), by rw [c0, c1], in64 w0, in64 w1⟩
set_option maxRecDepth 100000 in
theorem row_cells {fuel : Nat} {cs : List Value} {x : DataW H × List MemPlace} (h : DataW.trod enc Try.prog w base sp held fuel 42 cs = some x) : ∃ r : RowT, cs = rcs r ∧ r.Ok := by
  obtain ⟨f0, f1, hs, e0, e1, o0, o1, hC, hK, hP⟩ := row_fields
  obtain ⟨xs, n, _, _, hl, hxl, hf⟩ := DataW.trod_struct hs h
  have h0 := hf 0 f0 rfl
  have h1 := hf 1 f1 rfl
  rw [e0, o0, hK] at h0
  rw [e1, o1, hP] at h1
  have hxl2 : xs.length = 2 := hxl
  rw [List.getElem?_eq_getElem (by omega)] at h0 h1
  rw [hC] at hl
  obtain ⟨s, N, hk, hsl, hN⟩ := key_cells h0
  obtain ⟨p, hp, hp1, hp2⟩ := place_cells h1
  rw [List.drop_zero] at hk
  refine ⟨((s, N), p), ?_, ⟨⟨hsl, hN⟩, hp1, hp2⟩⟩
  have e : cs = cs.take 33 ++ (cs.drop 33).take 2 := by
    have : (cs.drop 33).take 2 = cs.drop 33 := List.take_of_length_le (by rw [List.length_drop]; omega)
    rw [this, List.take_append_drop]
  rw [e, hk, hp]
  rfl
end
set_option maxRecDepth 100000 in
theorem open_place {H : Type} {enc : TypeId × Value → H} {w : World} {base : Nat} {sp : Nat → Bool} {held : Bool} {v : Value} {r : Reach} {b0 : Nat} {d : DataW H} {p : List MemPlace}
    (hv : Value.okWide Try.prog w r b0 40 v) (h : DataW.Trod enc Try.prog w base sp held 40 v d p) : ∃ q : Int × Int, v = .agg (pvs q).toArray ∧ (In64 q.1 ∧ In64 q.2) := by
  obtain ⟨f0, f1, hs, _⟩ := place_fields
  obtain ⟨cs, rfl, hsz⟩ := okWide_struct hs hv
  obtain ⟨fuel, hf⟩ := h
  obtain ⟨q, hcs, h1, h2⟩ := place_cells hf
  refine ⟨q, ?_, h1, h2⟩
  have e : cs = (pvs q).toArray := by rw [← Array.toList_inj]; exact hcs
  rw [e]
end Go.Proofs.Ytoofhaoaogoomaa
/- Two states behind pointers in one world, apart. For every stage. No statement of the seat is proved here. -/
namespace Go.Proofs.Ytoofhaoaogoomaa
open Go.RowKit
set_option linter.unusedVariables false

/-- What every state is asked for: its blocks are there, and it stays while they stay. -/
structure Firm {σ : Type} (St : World → Addr → (Nat → Prop) → σ → Prop) : Prop where
  lt : ∀ {w s F S}, St w s F S → ∀ g, F g → g < w.heap.size
  keep : ∀ {w w' : World} {s F S}, St w s F S → (∀ g, F g → w'.heap[g]? = w.heap[g]?) → St w' s F S
/-- Both states in one world, in blocks apart that were made behind a base world. -/
def Two {σ τ : Type} (St : World → Addr → (Nat → Prop) → σ → Prop) (Tt : World → Addr → (Nat → Prop) → τ → Prop) (w0 w : World) (s t : Addr) (S : σ) (T : τ) : Prop :=
  ∃ F G, St w s F S ∧ Tt w t G T ∧ (∀ g, F g → ¬ G g) ∧ (∀ g, F g → w0.heap.size ≤ g) ∧ (∀ g, G g → w0.heap.size ≤ g) ∧ Below w0.heap.size w0 w
section
variable {σ τ : Type} {St : World → Addr → (Nat → Prop) → σ → Prop} {Tt : World → Addr → (Nat → Prop) → τ → Prop} {w0 w w' : World} {s t : Addr} {S S' : σ} {T : τ}
theorem Two.swap (h : Two St Tt w0 w s t S T) : Two Tt St w0 w t s T S := by
  obtain ⟨F, G, h1, h2, h3, h4, h5, h6⟩ := h
  exact ⟨G, F, h2, h1, fun g hg hf => h3 g hf hg, h5, h4, h6⟩
theorem Two.bel (h : Two St Tt w0 w s t S T) : Below w0.heap.size w0 w := by
  obtain ⟨F, G, h1, h2, h3, h4, h5, h6⟩ := h
  exact h6
theorem Two.on (hS : Firm St) (hT : Firm Tt) (h : Two St Tt w0 w s t S T) (hb : Below w.heap.size w w') : Two St Tt w0 w' s t S T := by
  obtain ⟨F, G, h1, h2, h3, h4, h5, h6⟩ := h
  exact ⟨F, G, hS.keep h1 fun g hg => hb.block g (hS.lt h1 g hg), hT.keep h2 fun g hg => hb.block g (hT.lt h2 g hg), h3, h4, h5, h6.trans (hb.mono h6.size)⟩
/-- The first one alone. -/
theorem Two.fst (h : Two St Tt w0 w s t S T) : Turned St w0 s (fun _ => False) w S := by
  obtain ⟨F, G, h1, h2, h3, h4, h5, h6⟩ := h
  exact ⟨F, h1, fun g hg => .inr (h4 g hg), ⟨h6.os, h6.tape, h6.output, h6.size, fun g hg _ => h6.block g hg⟩⟩
theorem Two.snd (h : Two St Tt w0 w s t S T) : Turned Tt w0 t (fun _ => False) w T := h.swap.fst
/-- The first one turns. -/
theorem Two.turn (hS : Firm St) (hT : Firm Tt) (h : Two St Tt w0 w s t S T) : ∃ F, Turned St w s F w S ∧ ∀ {w' S'}, Turned St w s F w' S' → Two St Tt w0 w' s t S' T := by
  obtain ⟨F, G, h1, h2, h3, h4, h5, h6⟩ := h
  refine ⟨F, Turned.refl h1, fun {w' S'} ht => ?_⟩
  obtain ⟨F', a1, a2, a3⟩ := ht
  have hG := hT.lt h2
  refine ⟨F', G, a1, hT.keep h2 fun g hg => a3.block g (hG g hg) fun hf => h3 g hf hg, fun g hf hg => ?_, fun g hf => ?_, h5, ?_⟩
  · rcases a2 g hf with h | h
    · exact h3 g h hg
    · have := hG g hg; omega
  · rcases a2 g hf with h | h
    · exact h4 g h
    · exact Nat.le_trans h6.size h
  · exact h6.trans (Only.below a3 h4 h6.size)
theorem Firm.on (hS : Firm St) {N : Nat → Prop} (h : Turned St w0 s N w S) (hb : Below w.heap.size w w') : Turned St w0 s N w' S := Turned.on' (fun h => hS.lt h) (fun h hk => hS.keep h hk) h hb
/-- The same further on; its blocks lie ahead of what was made meanwhile. -/
theorem Two.turn2 (hS : Firm St) (hT : Firm Tt) (h : Two St Tt w0 w s t S T) {w5 : World} (hb : Below w.heap.size w w5) : ∃ F, (∀ g, F g → g < w.heap.size) ∧ Turned St w5 s F w5 S ∧ ∀ {w' S'}, Turned St w5 s F w' S' → Two St Tt w0 w' s t S' T := by
  obtain ⟨F, G, h1, h2, h3, h4, h5, h6⟩ := h
  have hF := hS.lt h1
  have hG := hT.lt h2
  have h1' := hS.keep h1 fun g hg => hb.block g (hF g hg)
  have h2' := hT.keep h2 fun g hg => hb.block g (hG g hg)
  have h6' := h6.trans (hb.mono h6.size)
  have hG' := hT.lt h2'
  refine ⟨F, hF, Turned.refl h1', fun {w' S'} ht => ?_⟩
  obtain ⟨F', a1, a2, a3⟩ := ht
  refine ⟨F', G, a1, hT.keep h2' fun g hg => a3.block g (hG' g hg) fun hf => h3 g hf hg, fun g hf hg => ?_, fun g hf => ?_, h5, ?_⟩
  · rcases a2 g hf with h | h
    · exact h3 g h hg
    · have := hG' g hg; omega
  · rcases a2 g hf with h | h
    · exact h4 g h
    · exact Nat.le_trans h6'.size h
  · exact h6'.trans (Only.below a3 h4 h6'.size)
/-- A second one is made. -/
theorem Two.made (hS : Firm St) (h : Turned St w0 s (fun _ => False) w S) {G : Nat → Prop} (ht : Tt w' t G T) (hG : ∀ g, G g → w.heap.size ≤ g) (hb : Below w.heap.size w w') : Two St Tt w0 w' s t S T := by
  obtain ⟨F, h1, h2, h3⟩ := h
  have hF := hS.lt h1
  have hs := h3.size
  refine ⟨F, G, hS.keep h1 fun g hg => hb.block g (hF g hg), ht, fun g hf hg => by have := hF g hf; have := hG g hg; omega, fun g hf => (h2 g hf).elim (fun h => h.elim) id, fun g hg => Nat.le_trans hs (hG g hg), ?_⟩
  have h6 : Below w0.heap.size w0 w := h3.below (fun g hg => hg.elim) (Nat.le_refl _)
  exact h6.trans (hb.mono hs)
end
end Go.Proofs.Ytoofhaoaogoomaa
/- What the package's finders do, as the statements' walks use it. No statement of the seat is proved here. -/
namespace Go.Proofs.Ytoofhaoaogoomaa
open Go.RowKit
set_option linter.unusedVariables false

/-- What the calls of the package do: Ft w s F f says that in w the finder at s, in the blocks F, is f. -/
structure FindersOk (Ft : World → Addr → (Nat → Prop) → FS → Prop) : Prop where
  lt : ∀ {w s F f}, Ft w s F f → ∀ g, F g → g < w.heap.size
  keep : ∀ {w w' : World} {s F f}, Ft w s F f → (∀ g, F g → w'.heap[g]? = w.heap[g]?) → Ft w' s F f
  ok : ∀ {w s F f}, Ft w s F f → f.Ok
  new : ∀ (n p r : Nat) w, n ≤ 1048576 → p ≤ 30 → r ≤ 4096 → Calls Try.prog 9 #[.int .i64 n, .int .i64 p, .int .i64 r] w fun e w' => ∃ s F, e = .returned (.tuple #[.pointer (some s), .int .i64 0]) ∧ Ft w' s F (newF n p r) ∧ (∀ g, F g → w.heap.size ≤ g) ∧ Below w.heap.size w w'
  newNo : ∀ (n p r : Int) w, In64 n → In64 p → In64 r → ¬ ((0 ≤ n ∧ n ≤ 1048576) ∧ (0 ≤ p ∧ p ≤ 30) ∧ (0 ≤ r ∧ r ≤ 4096)) → Calls Try.prog 9 #[.int .i64 n, .int .i64 p, .int .i64 r] w fun e w' => e = .returned (.tuple #[.pointer none, .int .i64 1]) ∧ Below w.heap.size w w'
  put : ∀ s F f k q w, Ft w s F f → f.L.length ≤ 900 → KeyT.Ok k → PlOk q → Calls Try.prog 21 #[.pointer (some s), kv k, pv q] w fun e w' => e = .returned (.tuple #[]) ∧ Turned Ft w s F w' (putF f k q)
  drop : ∀ s F f k w, Ft w s F f → f.L.length ≤ 900 → KeyT.Ok k → Calls Try.prog 25 #[.pointer (some s), kv k] w fun e w' => e = .returned (.bool (hasX f.L k)) ∧ Turned Ft w s F w' (dropF f k)
  find : ∀ s F f k (d : Nat) w, Ft w s F f → f.L.length ≤ 900 → f.asked ≤ 100000 → f.loads ≤ 100000 → KeyT.Ok k → d < 18446744073709551616 → Calls Try.prog 15 #[.pointer (some s), kv k, .int .u64 d] w fun e w' => e = .returned (.tuple #[pv (answerF f k).1, .bool (answerF f k).2]) ∧ Turned Ft w s F w' (nextF f k d)
  anew : ∀ s F f w, Ft w s F f → f.L.length ≤ 900 → Calls Try.prog 23 #[.pointer (some s)] w fun e w' => e = .returned (.tuple #[]) ∧ Turned Ft w s F w' (anewF f)
  blur : ∀ s F f A b n c w, Ft w s F f → b.length = n → n ≤ c → c ≤ maxLen → Rd w w.heap.size A b → (∀ ad, A = some ad → 0 < n → ¬ F ad.block) → Calls Try.prog 24 #[.pointer (some s), .slice A n c] w fun e w' => e = .returned (.tuple #[]) ∧ Turned Ft w s F w' (blurF f b)
  cost : ∀ s F f w, Ft w s F f → Calls Try.prog 22 #[.pointer (some s)] w fun e w' => e = .returned (.tuple #[.int .i64 (f.asked : Nat), .int .i64 (f.loads : Nat)]) ∧ Below w.heap.size w w'
  twins : ∀ s F f (d : List UInt8) w, Ft w s F f → f.L.length ≤ 900 → d.length = 32 → Calls Try.prog 26 #[.pointer (some s), .agg (bv d).toArray] w fun e w' => ∃ A c, e = .returned (.slice A (twinsX f.L d).length c) ∧ RdK w' w'.heap.size A (twinsX f.L d) ∧ (twinsX f.L d).length ≤ c ∧ c ≤ maxLen ∧ (∀ ad, A = some ad → w.heap.size ≤ ad.block) ∧ Below w.heap.size w w'
  shelf : ∀ s F f (at_ : Int) w, Ft w s F f → f.L.length ≤ 900 → In64 at_ → Calls Try.prog 27 #[.pointer (some s), .int .i64 at_] w fun e w' => ∃ A c, e = .returned (.slice A (shelfX f.L at_).length c) ∧ RdRw w' w'.heap.size A (shelfX f.L at_) ∧ (shelfX f.L at_).length ≤ c ∧ c ≤ maxLen ∧ (∀ ad, A = some ad → w.heap.size ≤ ad.block) ∧ Below w.heap.size w w'
  all : ∀ s F f w, Ft w s F f → f.L.length ≤ 900 → Calls Try.prog 19 #[.pointer (some s)] w fun e w' => ∃ A c, e = .returned (.slice A f.L.length c) ∧ RdRw w' w'.heap.size A f.L ∧ f.L.length ≤ c ∧ c ≤ maxLen ∧ (∀ ad, A = some ad → w.heap.size ≤ ad.block) ∧ Below w.heap.size w w'
  len : ∀ s F f w, Ft w s F f → f.L.length ≤ 900 → Calls Try.prog 20 #[.pointer (some s)] w fun e w' => e = .returned (.int .i64 (f.L.length : Nat)) ∧ Below w.heap.size w w'
/-- What they do on nil. -/
structure FinderNilOk : Prop where
  put : ∀ k q w, KeyT.Ok k → PlOk q → Calls Try.prog 21 #[.pointer none, kv k, pv q] w fun e w' => e = .returned (.tuple #[]) ∧ Below w.heap.size w w'
  drop : ∀ k w, KeyT.Ok k → Calls Try.prog 25 #[.pointer none, kv k] w fun e w' => e = .returned (.bool false) ∧ Below w.heap.size w w'
  find : ∀ k (d : Nat) w, KeyT.Ok k → d < 18446744073709551616 → Calls Try.prog 15 #[.pointer none, kv k, .int .u64 d] w fun e w' => e = .returned (.tuple #[pv (0, 0), .bool false]) ∧ Below w.heap.size w w'
  anew : ∀ w, Calls Try.prog 23 #[.pointer none] w fun e w' => e = .returned (.tuple #[]) ∧ Below w.heap.size w w'
  blur : ∀ A (b : List UInt8) n c w, b.length = n → n ≤ c → c ≤ maxLen → Rd w w.heap.size A b → Calls Try.prog 24 #[.pointer none, .slice A n c] w fun e w' => e = .returned (.tuple #[]) ∧ Below w.heap.size w w'
  cost : ∀ w, Calls Try.prog 22 #[.pointer none] w fun e w' => e = .returned (.tuple #[.int .i64 0, .int .i64 0]) ∧ Below w.heap.size w w'
  twins : ∀ (d : List UInt8) w, d.length = 32 → Calls Try.prog 26 #[.pointer none, .agg (bv d).toArray] w fun e w' => (∃ A c, e = .returned (.slice A 0 c)) ∧ Below w.heap.size w w'
  shelf : ∀ (at_ : Int) w, In64 at_ → Calls Try.prog 27 #[.pointer none, .int .i64 at_] w fun e w' => (∃ A c, e = .returned (.slice A 0 c)) ∧ Below w.heap.size w w'
  all : ∀ w, Calls Try.prog 19 #[.pointer none] w fun e w' => (∃ A c, e = .returned (.slice A 0 c)) ∧ Below w.heap.size w w'
  len : ∀ w, Calls Try.prog 20 #[.pointer none] w fun e w' => e = .returned (.int .i64 0) ∧ Below w.heap.size w w'
section
variable {Ft : World → Addr → (Nat → Prop) → FS → Prop} {w0 w w' : World} {s : Addr} {F N : Nat → Prop} {f : FS}
theorem FindersOk.firm (K : FindersOk Ft) : Firm Ft := ⟨K.lt, K.keep⟩
theorem FindersOk.on (K : FindersOk Ft) (h : Turned Ft w0 s N w f) (hb : Below w.heap.size w w') : Turned Ft w0 s N w' f := K.firm.on h hb
theorem FindersOk.good (K : FindersOk Ft) (h : Turned Ft w0 s N w f) : f.Ok := by
  obtain ⟨F, h1, _⟩ := h
  exact K.ok h1
theorem FindersOk.new' (K : FindersOk Ft) (hb : Below w0.heap.size w0 w) (n p r : Nat) (hn : n ≤ 1048576) (hp : p ≤ 30) (hr : r ≤ 4096) : Calls Try.prog 9 #[.int .i64 n, .int .i64 p, .int .i64 r] w fun e w' => ∃ s, e = .returned (.tuple #[.pointer (some s), .int .i64 0]) ∧ Turned Ft w0 s (fun _ => False) w' (newF n p r) :=
  (K.new n p r w hn hp hr).mono fun e w' ⟨s, F, h1, h2, h3, h4⟩ => ⟨s, h1, F, h2, fun g hg => .inr (Nat.le_trans hb.size (h3 g hg)), Only.of_below (hb.trans (h4.mono hb.size))⟩
theorem FindersOk.put' (K : FindersOk Ft) (h : Turned Ft w0 s N w f) (hl : f.L.length ≤ 900) (k : KeyT) (hk : KeyT.Ok k) (q : Int × Int) (hq : PlOk q) :
    Calls Try.prog 21 #[.pointer (some s), kv k, pv q] w fun e w' => e = .returned (.tuple #[]) ∧ Turned Ft w0 s N w' (putF f k q) := by
  obtain ⟨F, h1, h2, h3⟩ := h
  exact (K.put s F f k q w h1 hl hk hq).mono fun e w' ⟨he, ht⟩ => ⟨he, Turned.step h2 h3 ht⟩
theorem FindersOk.drop' (K : FindersOk Ft) (h : Turned Ft w0 s N w f) (hl : f.L.length ≤ 900) (k : KeyT) (hk : KeyT.Ok k) :
    Calls Try.prog 25 #[.pointer (some s), kv k] w fun e w' => e = .returned (.bool (hasX f.L k)) ∧ Turned Ft w0 s N w' (dropF f k) := by
  obtain ⟨F, h1, h2, h3⟩ := h
  exact (K.drop s F f k w h1 hl hk).mono fun e w' ⟨he, ht⟩ => ⟨he, Turned.step h2 h3 ht⟩
/-- A search told by the index: what is found is what it has. -/
theorem FindersOk.find' (K : FindersOk Ft) (h : Turned Ft w0 s N w f) (hl : f.L.length ≤ 900) (ha : f.asked ≤ 100000) (hb : f.loads ≤ 100000) (k : KeyT) (hk : KeyT.Ok k) (d : Nat) (hd : d < 18446744073709551616) :
    Calls Try.prog 15 #[.pointer (some s), kv k, .int .u64 d] w fun e w' => e = .returned (.tuple #[pv (getX f.L k), .bool (hasX f.L k)]) ∧ Turned Ft w0 s N w' (nextF f k d) := by
  obtain ⟨F, h1, h2, h3⟩ := h
  refine (K.find s F f k d w h1 hl ha hb hk hd).mono fun e w' ⟨he, ht⟩ => ⟨?_, Turned.step h2 h3 ht⟩
  rw [answer_get (K.ok h1)] at he
  exact he
theorem FindersOk.anew' (K : FindersOk Ft) (h : Turned Ft w0 s N w f) (hl : f.L.length ≤ 900) : Calls Try.prog 23 #[.pointer (some s)] w fun e w' => e = .returned (.tuple #[]) ∧ Turned Ft w0 s N w' (anewF f) := by
  obtain ⟨F, h1, h2, h3⟩ := h
  exact (K.anew s F f w h1 hl).mono fun e w' ⟨he, ht⟩ => ⟨he, Turned.step h2 h3 ht⟩
theorem FindersOk.cost' (K : FindersOk Ft) (h : Turned Ft w0 s N w f) : Calls Try.prog 22 #[.pointer (some s)] w fun e w' => e = .returned (.tuple #[.int .i64 (f.asked : Nat), .int .i64 (f.loads : Nat)]) ∧ Below w.heap.size w w' := by
  obtain ⟨F, h1, _⟩ := h
  exact K.cost s F f w h1
theorem FindersOk.len' (K : FindersOk Ft) (h : Turned Ft w0 s N w f) (hl : f.L.length ≤ 900) : Calls Try.prog 20 #[.pointer (some s)] w fun e w' => e = .returned (.int .i64 (f.L.length : Nat)) ∧ Below w.heap.size w w' := by
  obtain ⟨F, h1, _⟩ := h
  exact K.len s F f w h1 hl
end
end Go.Proofs.Ytoofhaoaogoomaa
/- Two states and blocks of the call's own in one world, apart: for every law that plays a package against its reference. No statement of the seat is proved here; nothing of the program is named. -/
namespace Go.Proofs.Ytoofhaoaogoomaa
open Go.RowKit
set_option linter.unusedVariables false

def TwoB {σ τ : Type} (St : World → Addr → (Nat → Prop) → σ → Prop) (Tt : World → Addr → (Nat → Prop) → τ → Prop) (w0 w : World) (s t : Addr) (S : σ) (T : τ) (E : List (Nat × Obj)) : Prop :=
  ∃ F G, St w s F S ∧ Tt w t G T ∧ (∀ g, F g → ¬ G g) ∧ (∀ g, F g → w0.heap.size ≤ g) ∧ (∀ g, G g → w0.heap.size ≤ g) ∧ Below w0.heap.size w0 w ∧ ∀ p ∈ E, w.heap[p.1]? = some p.2 ∧ ¬ F p.1 ∧ ¬ G p.1
theorem blk_in {w : World} {g : Nat} {o : Obj} (h : w.heap[g]? = some o) : g < w.heap.size := by
  rcases Nat.lt_or_ge g w.heap.size with hlt | hge
  · exact hlt
  · rw [Array.getElem?_eq_none hge] at h; cases h
section
variable {σ τ : Type} {St : World → Addr → (Nat → Prop) → σ → Prop} {Tt : World → Addr → (Nat → Prop) → τ → Prop} {w0 w w' : World} {s t : Addr} {S S' : σ} {T T' : τ} {E : List (Nat × Obj)}
theorem TwoB.swap (h : TwoB St Tt w0 w s t S T E) : TwoB Tt St w0 w t s T S E := by
  obtain ⟨F, G, h1, h2, h3, h4, h5, h6, h7⟩ := h
  exact ⟨G, F, h2, h1, fun g hg hf => h3 g hf hg, h5, h4, h6, fun p hp => ⟨(h7 p hp).1, (h7 p hp).2.2, (h7 p hp).2.1⟩⟩
theorem TwoB.bel (h : TwoB St Tt w0 w s t S T E) : Below w0.heap.size w0 w := by
  obtain ⟨F, G, h1, h2, h3, h4, h5, h6, h7⟩ := h
  exact h6
theorem TwoB.on (hS : Firm St) (hT : Firm Tt) (h : TwoB St Tt w0 w s t S T E) (hb : Below w.heap.size w w') : TwoB St Tt w0 w' s t S T E := by
  obtain ⟨F, G, h1, h2, h3, h4, h5, h6, h7⟩ := h
  exact ⟨F, G, hS.keep h1 fun g hg => hb.block g (hS.lt h1 g hg), hT.keep h2 fun g hg => hb.block g (hT.lt h2 g hg), h3, h4, h5, h6.trans (hb.mono h6.size), fun p hp => ⟨(hb.block p.1 (blk_in (h7 p hp).1)).trans (h7 p hp).1, (h7 p hp).2⟩⟩
theorem TwoB.blk {g : Nat} {t' : TypeId} {cs : Array Value} (h : TwoB St Tt w0 w s t S T E) (hm : (g, Obj.cells cs t' (0, 0)) ∈ E) : Blk w g t' cs := by
  obtain ⟨F, G, h1, h2, h3, h4, h5, h6, h7⟩ := h
  exact (h7 _ hm).1
theorem TwoB.drop {e : Nat × Obj} (h : TwoB St Tt w0 w s t S T (e :: E)) : TwoB St Tt w0 w s t S T E := by
  obtain ⟨F, G, h1, h2, h3, h4, h5, h6, h7⟩ := h
  exact ⟨F, G, h1, h2, h3, h4, h5, h6, fun p hp => h7 p (List.mem_cons_of_mem _ hp)⟩
/-- Of both states there are no boxes yet. -/
theorem TwoB.of_two (h : Two St Tt w0 w s t S T) : TwoB St Tt w0 w s t S T [] := by
  obtain ⟨F, G, h1, h2, h3, h4, h5, h6⟩ := h
  exact ⟨F, G, h1, h2, h3, h4, h5, h6, fun p hp => by cases hp⟩
/-- A block that stood when the base world was is a box, too. -/
theorem TwoB.old {g : Nat} {o : Obj} (h : TwoB St Tt w0 w s t S T E) (hg : w0.heap[g]? = some o) : TwoB St Tt w0 w s t S T ((g, o) :: E) := by
  obtain ⟨F, G, h1, h2, h3, h4, h5, h6, h7⟩ := h
  have hlt := blk_in hg
  refine ⟨F, G, h1, h2, h3, h4, h5, h6, fun p hp => ?_⟩
  rcases List.mem_cons.1 hp with rfl | hp
  · exact ⟨(h6.block g hlt).trans hg, fun hf => by have := h4 _ hf; omega, fun hf => by have := h5 _ hf; omega⟩
  · exact h7 p hp
/-- A box is made. -/
theorem TwoB.box (hS : Firm St) (hT : Firm Tt) (h : TwoB St Tt w0 w s t S T E) {g : Nat} {t' : TypeId} {cs : Array Value} (hg : w.heap.size = g) (hw : w.alloc (.cells cs t') = w') : TwoB St Tt w0 w' s t S T ((g, Obj.cells cs t' (0, 0)) :: E) := by
  have hb : Below w.heap.size w w' := hw ▸ (Below.refl _ _).alloc (Nat.le_refl _) _
  obtain ⟨F, G, h1, h2, h3, h4, h5, h6, h7⟩ := h
  have hF := hS.lt h1
  have hG := hT.lt h2
  refine ⟨F, G, hS.keep h1 fun g hg => hb.block g (hF g hg), hT.keep h2 fun g hg => hb.block g (hG g hg), h3, h4, h5, h6.trans (hb.mono h6.size), fun p hp => ?_⟩
  rcases List.mem_cons.1 hp with rfl | hp
  · refine ⟨by rw [← hw, ← hg]; exact heap_alloc_new w _, fun hf => ?_, fun hf => ?_⟩
    · have := hF _ hf; omega
    · have := hG _ hf; omega
  · exact ⟨(hb.block p.1 (blk_in (h7 p hp).1)).trans (h7 p hp).1, (h7 p hp).2⟩
/-- The first state turns; the world may have grown meanwhile. -/
theorem TwoB.left (hS : Firm St) (hT : Firm Tt) (h : TwoB St Tt w0 w s t S T E) {W : World} (hb : Below w.heap.size w W) : ∃ F, (∀ g, F g → g < w.heap.size ∧ w0.heap.size ≤ g) ∧ St W s F S ∧ ∀ {w' S'}, Turned St W s F w' S' → TwoB St Tt w0 w' s t S' T E := by
  obtain ⟨F, G, h1, h2, h3, h4, h5, h6, h7⟩ := h
  have hF := hS.lt h1
  have h1' := hS.keep h1 fun g hg => hb.block g (hF g hg)
  have hG := hT.lt h2
  have h2' := hT.keep h2 fun g hg => hb.block g (hG g hg)
  have hG' := hT.lt h2'
  have h6' := h6.trans (hb.mono h6.size)
  refine ⟨F, fun g hg => ⟨hF g hg, h4 g hg⟩, h1', fun {w' S'} ⟨F', a1, a2, a3⟩ => ⟨F', G, a1, hT.keep h2' fun g hg => a3.block g (hG' g hg) fun hf => h3 g hf hg, fun g hf hg => ?_, fun g hf => ?_, h5, h6'.trans (Only.below a3 h4 h6'.size), fun p hp => ?_⟩⟩
  · rcases a2 g hf with h | h
    · exact h3 g h hg
    · have := hG' g hg; omega
  · rcases a2 g hf with h | h
    · exact h4 g h
    · exact Nat.le_trans h6'.size h
  · have hp1 := (hb.block p.1 (blk_in (h7 p hp).1)).trans (h7 p hp).1
    refine ⟨(a3.block p.1 (blk_in hp1) (h7 p hp).2.1).trans hp1, fun hf => ?_, (h7 p hp).2.2⟩
    rcases a2 _ hf with h | h
    · exact (h7 p hp).2.1 h
    · have := blk_in hp1; omega
theorem TwoB.right (hS : Firm St) (hT : Firm Tt) (h : TwoB St Tt w0 w s t S T E) {W : World} (hb : Below w.heap.size w W) : ∃ G, (∀ g, G g → g < w.heap.size ∧ w0.heap.size ≤ g) ∧ Tt W t G T ∧ ∀ {w' T'}, Turned Tt W t G w' T' → TwoB St Tt w0 w' s t S T' E := by
  obtain ⟨G, h1, h2, h3⟩ := h.swap.left hT hS hb
  exact ⟨G, h1, h2, fun ht => (h3 ht).swap⟩
end
end Go.Proofs.Ytoofhaoaogoomaa
