/- What the package's slots do, as the statements' walks use it; slots as values. No statement of the seat is proved here. -/
import Derived.Test.YtmfbidohmkoeeaaMem
import Derived.Test.YtmfbidohmkoeeaaSlMath
import Derived.Laws.StructEq
namespace Go.Proofs.Ytmfbidohmkoeeaa
open Go.RowKit
set_option linter.unusedVariables false

def slcs (s : SlT) : List Value := [.int .u64 s.g, .int .u8 s.a, .int .u32 s.z, .int .u32 s.u]
abbrev SlT.v (s : SlT) : Value := .agg (slcs s).toArray
/-- What the calls of the package do. -/
structure SlotsOk : Prop where
  lay : ∀ (s : SlT) w, s.Ok → Calls Try.prog 10 #[s.v] w fun e w' => ∃ A c, e = .returned (.slice A 128 c) ∧ (∃ t, w'.ownsRow w.heap.size t 1 (.slice A 128 c) 128 (bv (layS s))) ∧ Below w.heap.size w w'
  take : ∀ A k c (b : List UInt8) w, b.length = k → k ≤ c → c ≤ maxLen ∧ k ≤ 140737488351232 → Rd w w.heap.size A b → Calls Try.prog 12 #[.slice A k c] w fun e w' => e = .returned (.tuple #[(takeS b).1.v, .int .i64 (takeS b).2]) ∧ Below w.heap.size w w'
  newer : ∀ A k c (a : List UInt8) B l d (b : List UInt8) w, a.length = k → k ≤ c → c ≤ maxLen ∧ k ≤ 140737488351232 → Rd w w.heap.size A a → b.length = l → l ≤ d → d ≤ maxLen ∧ l ≤ 140737488351232 → Rd w w.heap.size B b →
    Calls Try.prog 14 #[.slice A k c, .slice B l d] w fun e w' => e = .returned (.tuple #[(newerS a b).1.v, .int .i64 (newerS a b).2.1, .int .i64 (newerS a b).2.2]) ∧ Below w.heap.size w w'
theorem sl_wf {s : SlT} (h : s.Ok) : (Lit.int .u64 s.g).wf = true ∧ (Lit.int .u8 s.a).wf = true ∧ (Lit.int .u32 s.z).wf = true ∧ (Lit.int .u32 s.u).wf = true := by
  obtain ⟨h1, h2, h3, h4⟩ := h
  exact ⟨WalkArith.wf_u64 (by omega), WalkArith.wf_u8 (by omega), WalkArith.wf_u32 (by omega), WalkArith.wf_u32 (by omega)⟩
theorem sl_eq_dec (s t : SlT) : decide (s = t) = ((((s.g : Int) == (t.g : Int)) && ((s.a : Int) == (t.a : Int))) && (((s.z : Int) == (t.z : Int)) && ((s.u : Int) == (t.u : Int)))) := by
  obtain ⟨g, a, z, u⟩ := s
  obtain ⟨g2, a2, z2, u2⟩ := t
  rw [Bool.eq_iff_iff]
  simp only [decide_eq_true_eq, SlT.mk.injEq, Bool.and_eq_true, beq_iff_eq]
  omega
theorem sl_eq_in (s t : SlT) (w : World) : (Op.equalIn 10000 25 s.v t.v).run Try.prog w = .ok (decide (s = t)) w := by
  have ht : Try.prog.underlying 25 = some (.struct (Try.prog.fieldsOf 25)) := by kernel_rfl
  have hp : Try.prog.stoodInHeld 25 = false := by kernel_rfl
  show (Op.equalIn (9999 + 1) 25 (.agg (slcs s).toArray) (.agg (slcs t).toArray)).run Try.prog w = _
  rw [run_equalIn_struct w 9999 25 _ _ ht hp]
  have hf : ∃ f0 f1 f2 f3 : Field, (Try.prog.fieldsOf 25).toList = [f0, f1, f2, f3] ∧ (f0.type = 22 ∧ f1.type = 5 ∧ f2.type = 23 ∧ f3.type = 23) ∧ (f0.offset = 0 ∧ f1.offset = 1 ∧ f2.offset = 2 ∧ f3.offset = 3) ∧ f0.name ≠ "_" ∧ f1.name ≠ "_" ∧ f2.name ≠ "_" ∧ f3.name ≠ "_" := ⟨_, _, _, _, rfl, ⟨rfl, rfl, rfl, rfl⟩, ⟨rfl, rfl, rfl, rfl⟩, by decide, by decide, by decide, by decide⟩
  obtain ⟨f0, f1, f2, f3, hl, ⟨t0, t1, t2, t3⟩, ⟨o0, o1, o2, o3⟩, n0, n1, n2, n3⟩ := hf
  rw [hl]
  simp only [Op.eqFields, n0, n1, n2, n3, t0, t1, t2, t3, o0, o1, o2, o3, slcs, ne_eq, not_false_eq_true, if_true]
  go_simp
  clear hl t0 t1 t2 t3 o0 o1 o2 o3 n0 n1 n2 n3 ht hp
  obtain ⟨g, a, z, u⟩ := s
  obtain ⟨g2, a2, z2, u2⟩ := t
  simp only [SlT.mk.injEq]
  repeat' split
  all_goals (congr 1; first | (symm; rw [decide_eq_true_iff]; omega) | (symm; rw [decide_eq_false_iff_not]; omega))
theorem sl_guard : Try.prog.eqGuardType Try.prog.depth 25 = false := by kernel_rfl
section
variable {w0 : World}
/-- The same, told from a base world, the slots written out. -/
theorem SlotsOk.lay' (K : SlotsOk) (g a z u : Nat) (h : (⟨g, a, z, u⟩ : SlT).Ok) : ∀ W, Below w0.heap.size w0 W → Calls Try.prog 10 #[.agg #[.int .u64 g, .int .u8 a, .int .u32 z, .int .u32 u]] W fun e w' => ∃ A c, e = .returned (.slice A 128 c) ∧ (∃ t, w'.ownsRow W.heap.size t 1 (.slice A 128 c) 128 (bv (layS ⟨g, a, z, u⟩))) ∧ Below w0.heap.size w0 w' ∧ Below W.heap.size W w' := fun W hb =>
  (K.lay ⟨g, a, z, u⟩ W h).mono fun e w' ⟨A, c, h1, h2, h3⟩ => ⟨A, c, h1, h2, hb.trans (h3.mono hb.size), h3⟩
theorem SlotsOk.take' (K : SlotsOk) (A : Option Addr) (k c : Nat) (b : List UInt8) (hl : b.length = k) (hk : k ≤ c) (hc : c ≤ maxLen ∧ k ≤ 140737488351232) (hr : Rd w0 w0.heap.size A b) (g a z u e : Nat) (h : takeS b = (⟨g, a, z, u⟩, e)) : ∀ W, Below w0.heap.size w0 W → Calls Try.prog 12 #[.slice A k c] W fun x w' => x = .returned (.tuple #[.agg #[.int .u64 g, .int .u8 a, .int .u32 z, .int .u32 u], .int .i64 e]) ∧ Below w0.heap.size w0 w' ∧ Below W.heap.size W w' := fun W hb =>
  (K.take A k c b W hl hk hc ((hr.below hb).more hb.size)).mono fun x w' ⟨h1, h2⟩ => ⟨by rw [h1, h]; rfl, hb.trans (h2.mono hb.size), h2⟩
theorem SlotsOk.newer' (K : SlotsOk) (A : Option Addr) (k c : Nat) (a : List UInt8) (B : Option Addr) (l d : Nat) (b : List UInt8) (hl : a.length = k) (hk : k ≤ c) (hc : c ≤ maxLen ∧ k ≤ 140737488351232) (hr : Rd w0 w0.heap.size A a) (hl2 : b.length = l) (hk2 : l ≤ d) (hc2 : d ≤ maxLen ∧ l ≤ 140737488351232) (hr2 : Rd w0 w0.heap.size B b)
    (g x z u m e : Nat) (h : newerS a b = (⟨g, x, z, u⟩, m, e)) : ∀ W, Below w0.heap.size w0 W → Calls Try.prog 14 #[.slice A k c, .slice B l d] W fun r w' => r = .returned (.tuple #[.agg #[.int .u64 g, .int .u8 x, .int .u32 z, .int .u32 u], .int .i64 m, .int .i64 e]) ∧ Below w0.heap.size w0 w' ∧ Below W.heap.size W w' := fun W hb =>
  (K.newer A k c a B l d b W hl hk hc ((hr.below hb).more hb.size) hl2 hk2 hc2 ((hr2.below hb).more hb.size)).mono fun r w' ⟨h1, h2⟩ => ⟨by rw [h1, h]; rfl, hb.trans (h2.mono hb.size), h2⟩
end
theorem rd_of_row {w : World} {B n c : Nat} {A : Option Addr} {l : List UInt8} {t : TypeId} (h : w.ownsRow B t 1 (.slice A n c) n (bv l)) : Rd w w.heap.size A l := Rd.of_own h
theorem cap_of_row {w : World} {B n c : Nat} {A : Option Addr} {l : List UInt8} {t : TypeId} (h : w.ownsRow B t 1 (.slice A n c) n (bv l)) : n ≤ c ∧ c ≤ maxLen := by
  obtain ⟨A', c', e, h1, h2⟩ := ownsRow_form h
  injection e with _ _ e
  subst e
  exact ⟨h1, h2⟩
end Go.Proofs.Ytmfbidohmkoeeaa
