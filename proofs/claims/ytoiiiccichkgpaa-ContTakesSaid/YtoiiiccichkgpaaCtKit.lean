/- What the package's containers do, as the statements' walks use it. No statement of the seat is proved here. -/
import Derived.Test.YtoiiiccichkgpaaCtRow
import Derived.Test.YtoiiiccichkgpaaCtMF
import Derived.Test.YtoiiiccichkgpaaCtMA
import Derived.Test.YtoiiiccichkgpaaOwnKey
import Derived.Test.YtoiiiccichkgpaaStKit
namespace Go.Proofs.Ytoiiiccichkgpaa
open Go.RowKit
set_option linter.unusedVariables false
set_option linter.unusedSimpArgs false

def zeroC : PcD := ⟨List.replicate 32 0, 0, []⟩
theorem zeroC_ok : zeroC.Ok := ⟨by simp [zeroC], by decide⟩
/-- The pieces' bytes: each in cells of its own (its capacity's, too), in blocks from B on. -/
structure Apart (w : World) (B : Nat) (ls : List PieceT) : Prop where
  each : ∀ x ∈ ls, ∃ g o cur t, x.adr = some ⟨g, o, none⟩ ∧ B ≤ g ∧ Blk w g t cur ∧ t ≠ 42 ∧ o + x.cap ≤ cur.size ∧ x.p.data.length ≤ x.cap ∧ x.cap ≤ maxLen ∧ ∀ j (h : j < x.p.data.length), cur[o + j]? = some (.int .u8 x.p.data[j].toNat)
  two : ∀ i j (hi : i < ls.length) (hj : j < ls.length), i < j → ∀ g o g' o', ls[i].adr = some ⟨g, o, none⟩ → ls[j].adr = some ⟨g', o', none⟩ → g ≠ g' ∨ o + ls[i].cap ≤ o' ∨ o' + ls[j].cap ≤ o
theorem Apart.nil (w : World) (B : Nat) : Apart w B [] := ⟨fun x hx => (by cases hx), fun i j hi => (by cases hi)⟩
theorem Apart.below {w w' : World} {B : Nat} {ls : List PieceT} (h : Apart w B ls) (hb : Below w.heap.size w w') : Apart w' B ls :=
  ⟨fun x hx => by
    obtain ⟨g, o, cur, t, h1, h2, h3, h4⟩ := h.each x hx
    exact ⟨g, o, cur, t, h1, h2, h3.below hb h3.lt, h4⟩, h.two⟩
theorem Apart.ok {w : World} {B : Nat} {ls : List PieceT} (h : Apart w B ls) (hp : ∀ x ∈ ls, x.p.Ok) : ∀ x ∈ ls, x.Ok w w.heap.size := fun x hx => by
  obtain ⟨g, o, cur, t, h1, h2, h3, h4, h5, h6, h7, h8⟩ := h.each x hx
  refine ⟨hp x hx, fun hn => ⟨g, o, h1, h3.lt, fun j hj => ?_⟩, h6, h7⟩
  rw [h3.cell]
  exact h8 j hj
/-- What Take gives. -/
def CTook (w : World) (b : List UInt8) (e : Ending) (w' : World) : Prop :=
  (takeC b = (0, [], 110) → ∃ A' c', e = .returned (.tuple #[.int .u32 0, .slice A' 0 c', .int .i64 110])) ∧
  (∀ id l, takeC b = (id, l, 0) → ∃ A' c' ls, pds ls = l ∧ e = .returned (.tuple #[.int .u32 id, .slice A' l.length c', .int .i64 0]) ∧ OwnP w' w.heap.size A' c' l.length ls ∧ l.length ≤ c' ∧ c' ≤ maxLen ∧ Apart w' w.heap.size ls) ∧ Below w.heap.size w w'
/-- What Lay gives: a row whose block's type is left open. -/
def CLaid (w : World) (id : Nat) (l : List PcD) (e : Ending) (w' : World) : Prop :=
  (refC l = 0 → ∃ A' c' t, e = .returned (.tuple #[.slice A' (sizeC l) c', .int .i64 0]) ∧ w'.ownsRow w.heap.size t 1 (.slice A' (sizeC l) c') (sizeC l) (bv (layC id l)) ∧ t ≠ 42) ∧
  (∀ R, refC l = R → R ≠ 0 → ∃ A' c', e = .returned (.tuple #[.slice A' 0 c', .int .i64 R])) ∧ Below w.heap.size w w'
structure ContsOk : Prop where
  size : ∀ A ls k c w, ls.length = k → SmallC ls → RdPc w w.heap.size A ls → Calls Try.prog 13 #[.slice A k c] w fun e w' => e = .returned (.int .i64 (sizeC (pds ls) : Nat)) ∧ Below w.heap.size w w'
  lay : ∀ A ls k c (id : Nat) w, id < 4294967296 → ls.length = k → k ≤ c → c ≤ maxLen → SmallC ls → RdPc w w.heap.size A ls → Calls Try.prog 11 #[.int .u32 id, .slice A k c] w (CLaid w id (pds ls))
  take : ∀ A k c b w, b.length = k → k ≤ c → c ≤ maxLen → k ≤ 100000 → Rd w w.heap.size A b → Calls Try.prog 15 #[.slice A k c] w (CTook w b)
  keys : ∀ A k c b w, b.length = k → k ≤ c → c ≤ maxLen → k ≤ 100000 → Rd w w.heap.size A b → Calls Try.prog 17 #[.slice A k c] w fun e w' =>
    (takeC b = (0, [], 110) → ∃ A' c', e = .returned (.tuple #[.int .u32 0, .slice A' 0 c', .int .i64 110])) ∧
    (∀ id l, takeC b = (id, l, 0) → ∃ A' c', e = .returned (.tuple #[.int .u32 id, .slice A' l.length c', .int .i64 0]) ∧ RdK w' w'.heap.size A' (l.map PcD.key)) ∧ Below w.heap.size w w'
  one : ∀ A k c b at_ w, b.length = k → k ≤ c → c ≤ maxLen → k ≤ 100000 → In64 at_ → Rd w w.heap.size A b → Calls Try.prog 18 #[.slice A k c, .int .i64 at_] w fun e w' => ∃ (x : PieceT) (E : Nat),
    e = .returned (.tuple #[.agg (pcs x).toArray, .int .i64 E]) ∧ x.Ok w' w'.heap.size ∧ (takeC b = (0, [], 110) → x.p = zeroC ∧ E = 110) ∧
    (∀ id l, takeC b = (id, l, 0) → ((at_ < 0 ∨ (l.length : Int) ≤ at_) → x.p = zeroC ∧ E = 2) ∧ ∀ (j : Nat) (h : j < l.length), at_ = j → x.p = l[j] ∧ E = 0) ∧ Below w.heap.size w w'
theorem takeC_one (b : List UInt8) (h : ¬ ∃ id l, takeC b = (id, l, 0)) : takeC b = (0, [], 110) := by
  rcases takeC_cases b with ⟨id, l, h1, _⟩ | h1
  · exact absurd ⟨id, l, h1⟩ h
  · exact h1
/-- 'string(b)' of a row of the call's own, whatever its block's type, in every world behind. -/
theorem str_row {w : World} {B c n : Nat} {A : Option Addr} {l : List UInt8} {t : TypeId} (hl : l.length = n) (h : w.ownsRow B t 1 (.slice A n c) n (bv l)) : ∀ W, Below w.heap.size w W → (convert 26 9 (.slice A n c)).run Try.prog W = .ok (.string ⟨l.toArray⟩) W := fun W hb => by
  subst hl
  exact run_str _ _ _ Try.underlying26 Try.underlying5 Try.underlying9 ((Rd.of_own h).below hb) c
theorem str_nil (A : Option Addr) (c : Nat) (W : World) : (convert 26 9 (.slice A 0 c)).run Try.prog W = .ok (.string ⟨#[]⟩) W := by
  have := run_str (P := Try.prog) (w := W) 26 9 5 Try.underlying26 Try.underlying5 Try.underlying9 (Rd.nil W 0 A) c
  simpa using this
end Go.Proofs.Ytoiiiccichkgpaa
