/- Plain mathematics for package codec: lists of bytes, big-endian numbers, their value and their order. No statement of the seat is proved here; nothing of the program is imported. -/
import Derived.WalkKit
import Derived.Lib.AppendStr
import Derived.Test.YtgemjipbifgbgaaProg
import Derived.Lib.Hide
import Derived.Laws.CopyOwn
import Derived.Laws.BytesArg
import Derived.Laws.IdiomStrings
import Derived.Deep.Draws
import Derived.ProofKit
import Derived.OpenShut
import Derived.SliceStrings
import Derived.Deep.MidRow
import Derived.Deep.Slices
import Derived.Deep.QuietTactic
import Derived.BigQuiet
import Derived.Lib.QuietBelow
import Derived.Lib.SmallJoins
import Derived.BigFrame
import Derived.Laws.BitsAllLaws
namespace Go.Proofs.Ytgemjipbifgbgaa
open Go.RowKit

/-- A list of bytes as cells. -/
def bv (l : List UInt8) : List Value := l.map fun b => Value.int .u8 b.toNat
theorem bv_length (l : List UInt8) : (bv l).length = l.length := by simp [bv]
theorem bv_append (l m : List UInt8) : bv (l ++ m) = bv l ++ bv m := by simp [bv]
theorem bv_oneCell (l : List UInt8) : ∀ u ∈ bv l, u.oneCell' = true := by
  intro u hu
  simp only [bv, List.mem_map] at hu
  obtain ⟨b, _, rfl⟩ := hu
  rfl
theorem bv_get {l : List UInt8} {j : Nat} (h : j < l.length) : (bv l)[j]? = some (.int .u8 l[j].toNat) := by simp [bv, h]
theorem bv_strCells (s : ByteArray) : Lib.strCells s = bv s.data.toList := rfl
theorem bv_take (l : List UInt8) (k : Nat) : bv (l.take k) = (bv l).take k := by simp [bv]
theorem bv_drop (l : List UInt8) (k : Nat) : bv (l.drop k) = (bv l).drop k := by simp [bv]

/-- The k lowest bytes of n, the most significant one first. -/
def be : Nat → Nat → List UInt8
  | 0, _ => []
  | k + 1, n => UInt8.ofNat (n / 256 ^ k) :: be k n
theorem be_length (k n : Nat) : (be k n).length = k := by
  induction k with
  | zero => rfl
  | succ k ih => simp [be, ih]

/-- The number whose bytes those are, the most significant one first. -/
def val (l : List UInt8) : Nat := l.foldl (fun a c => a * 256 + c.toNat) 0
theorem val_nil : val [] = 0 := rfl
theorem val_snoc (l : List UInt8) (c : UInt8) : val (l ++ [c]) = val l * 256 + c.toNat := by simp [val, List.foldl_append]
theorem foldl_val (l : List UInt8) (a : Nat) : l.foldl (fun a c => a * 256 + c.toNat) a = a * 256 ^ l.length + val l := by
  induction l generalizing a with
  | nil => simp [val]
  | cons c l ih =>
    simp only [List.foldl_cons, val, List.length_cons, Nat.zero_mul, Nat.zero_add]
    rw [ih, ih c.toNat, Nat.pow_succ, Nat.add_mul, Nat.mul_assoc, Nat.mul_comm (256 ^ l.length) 256]
    simp only [val, Nat.add_assoc]
theorem val_cons (c : UInt8) (l : List UInt8) : val (c :: l) = c.toNat * 256 ^ l.length + val l := by
  have := foldl_val l c.toNat
  simpa [val] using this
theorem val_lt (l : List UInt8) : val l < 256 ^ l.length := by
  induction l with
  | nil => simp [val]
  | cons c l ih =>
    rw [val_cons, List.length_cons, Nat.pow_succ]
    have := c.toNat_lt
    have h2 : c.toNat * 256 ^ l.length ≤ 255 * 256 ^ l.length := Nat.mul_le_mul_right _ (by omega)
    omega
theorem val_append (l m : List UInt8) : val (l ++ m) = val l * 256 ^ m.length + val m := by
  unfold val
  rw [List.foldl_append]
  exact foldl_val m _
theorem val_be (k n : Nat) : val (be k n) = n % 256 ^ k := by
  induction k with
  | zero => simp [be, val, Nat.mod_one]
  | succ k ih =>
    rw [be, val_cons, be_length, ih, Nat.pow_succ, Nat.mod_mul]
    simp [UInt8.toNat_ofNat']
    rw [Nat.mul_comm]
    omega
theorem val_be_of_lt {k n : Nat} (h : n < 256 ^ k) : val (be k n) = n := by rw [val_be, Nat.mod_eq_of_lt h]
theorem be_val (l : List UInt8) : be l.length (val l) = l := by
  induction l with
  | nil => rfl
  | cons c l ih =>
    rw [List.length_cons, be, val_cons]
    have hl := val_lt l
    have hp : 0 < 256 ^ l.length := Nat.pow_pos (by omega)
    congr 1
    · rw [Nat.add_comm, Nat.mul_comm, Nat.add_mul_div_left _ _ hp, Nat.div_eq_of_lt hl]; simp
    · have key : ∀ (k a b : Nat), be k (a * 256 ^ k + b) = be k b := by
        intro k
        induction k with
        | zero => intros; rfl
        | succ k ihk =>
          intro a b
          have hpk : 0 < 256 ^ k := Nat.pow_pos (by omega)
          simp only [be]
          have e : a * 256 ^ (k + 1) = (a * 256) * 256 ^ k := by rw [Nat.pow_succ]; rw [Nat.mul_assoc, Nat.mul_comm 256]
          rw [e, ihk]
          congr 1
          rw [Nat.add_comm, Nat.mul_comm (a * 256), Nat.add_mul_div_left _ _ hpk]
          apply UInt8.toNat_inj.1
          simp [UInt8.toNat_ofNat']
      rw [key]; exact ih

/-- The Go text's step: the shifted number, joined with a byte. -/
theorem shl_or (a c : Nat) (hc : c < 256) : (a <<< 8) ||| c = a * 256 + c := by
  rw [← Nat.shiftLeft_add_eq_or_of_lt (by simpa using hc) a, Nat.shiftLeft_eq]
end Go.Proofs.Ytgemjipbifgbgaa
/- Words for memory: a slice of bytes that reads as a list, a block that is known whole. No statement of the seat is proved here. -/
namespace Go.Proofs.Ytgemjipbifgbgaa
open Go.RowKit

/-- The slice value '.slice A l.length c' reads as the bytes l, in blocks below B. -/
def Rd (w : World) (B : Nat) (A : Option Addr) (l : List UInt8) : Prop :=
  0 < l.length → ∃ g off, A = some ⟨g, off, none⟩ ∧ g < B ∧ ∀ j (_ : j < l.length), w.cell? ⟨g, off + j, none⟩ = some (.int .u8 l[j].toNat)

section
variable {w w' : World} {B B' : Nat} {A : Option Addr} {l : List UInt8}
theorem Rd.nil (w : World) (B : Nat) (A : Option Addr) : Rd w B A [] := fun h => absurd h (by simp)
theorem Rd.keep (h : Rd w B A l) (hk : ∀ p : Addr, p.block < B → w'.cell? p = w.cell? p) : Rd w' B A l := fun hn => by
  obtain ⟨g, off, e, hb, hc⟩ := h hn
  exact ⟨g, off, e, hb, fun j hj => (hk _ hb).trans (hc j hj)⟩
theorem Rd.more (h : Rd w B A l) (hB : B ≤ B') : Rd w B' A l := fun hn => by
  obtain ⟨g, off, e, hb, hc⟩ := h hn
  exact ⟨g, off, e, by omega, hc⟩
theorem Rd.below (h : Rd w B A l) (hb : Below B w w') : Rd w' B A l := h.keep fun _ hp => hb.cell hp
theorem Rd.of_own {base n : Nat} {c : Nat} {e : TypeId} (h : w.ownsRow base e 1 (.slice A n c) n (bv l)) : Rd w w.heap.size A l := fun hn => by
  rcases h.2 with ⟨_, h0⟩ | ⟨g, cap, cur, hv, _, hh, hnc, _, hcs, ht⟩
  · have := h.1; rw [bv_length] at this; omega
  · injection hv with hA _ _
    refine ⟨g, 0, hA, ?_, fun j hj => ?_⟩
    · rcases Nat.lt_or_ge g w.heap.size with hlt | hge
      · exact hlt
      · rw [Array.getElem?_eq_none hge] at hh; cases hh
    · have hl : (bv l)[j]? = some (.int .u8 l[j].toNat) := bv_get hj
      rw [cell_of_row w g (0 + j) cur _ (0, 0) hh, Nat.zero_add]
      rw [← ht, List.getElem?_take] at hl
      split at hl
      · simpa using hl
      · cases hl
theorem Rd.take (h : Rd w B A l) (k : Nat) : Rd w B A (l.take k) := fun hn => by
  rw [List.length_take] at hn
  obtain ⟨g, off, e, hb, hc⟩ := h (by omega)
  refine ⟨g, off, e, hb, fun j hj => ?_⟩
  rw [List.length_take] at hj
  rw [hc j (by omega), List.getElem_take]
theorem Rd.drop (h : Rd w B A l) {k c : Nat} (hc : l.length ≤ c) : Rd w B (if c = k then A else A.map (·.add k)) (l.drop k) := fun hn => by
  rw [List.length_drop] at hn
  obtain ⟨g, off, rfl, hb, hcell⟩ := h (by omega)
  rw [if_neg (by omega)]
  refine ⟨g, off + k, by simp [Addr.add_lit], hb, fun j hj => ?_⟩
  rw [List.length_drop] at hj
  rw [Nat.add_assoc, hcell (k + j) (by omega), List.getElem_drop]
theorem Rd.cells (h : Rd w B A l) (h0 : 0 < l.length) : ∃ ad, A = some ad ∧ ∀ j u, (bv l)[j]? = some u → w.cell? (ad.add j) = some u := by
  obtain ⟨g, off, e, _, hc⟩ := h h0
  refine ⟨_, e, fun j u hu => ?_⟩
  have hj : j < l.length := by have := (List.getElem?_eq_some_iff.1 hu).1; rwa [bv_length] at this
  rw [Addr.add_lit, hc j hj, ← bv_get hj, hu]
end

/-- 'string(b)'. -/
theorem run_str {P : Program} {w : World} {B : Nat} {A : Option Addr} {l : List UInt8} (s t e : TypeId) (hs : P.underlying s = some (.slice e)) (he : P.underlying e = some (.int .u8)) (ht : P.underlying t = some .string)
    (h : Rd w B A l) (c : Nat) : (convert s t (.slice A l.length c)).run P w = .ok (.string ⟨l.toArray⟩) w := by
  rcases A with _ | ad
  · have hl : l = [] := by
      rcases Nat.eq_zero_or_pos l.length with h0 | h0
      · exact List.eq_nil_of_length_eq_zero h0
      · obtain ⟨_, _, e, _⟩ := h h0; cases e
    subst hl
    exact run_convert_bytes_nil w s e hs he _ _ t ht
  · refine run_convert_bytes_back w s t e ad c l hs he ht fun j hj => ?_
    obtain ⟨g, off, e, _, hc⟩ := h (by omega)
    injection e with e; subst e
    rw [Addr.add_lit]; exact hc j hj

/-- Block g is just the cells cs of type t, none frozen. -/
def Blk (w : World) (g : Nat) (t : TypeId) (cs : Array Value) : Prop := w.heap[g]? = some (.cells cs t (0, 0))
section
variable {w w' : World} {g : Nat} {t : TypeId} {cs : Array Value}
theorem Blk.lt (h : Blk w g t cs) : g < w.heap.size := by
  rcases Nat.lt_or_ge g w.heap.size with hlt | hge
  · exact hlt
  · unfold Blk at h; rw [Array.getElem?_eq_none hge] at h; cases h
theorem Blk.cell (h : Blk w g t cs) (i : Nat) : w.cell? ⟨g, i, none⟩ = cs[i]? := cell_of_row w g i cs t (0, 0) h
theorem Blk.frozen (h : Blk w g t cs) (i : Nat) : w.frozen? ⟨g, i, none⟩ = false := frozen_of_row w g i cs t h
theorem Blk.new (w : World) (t : TypeId) (cs : Array Value) : Blk (w.alloc (.cells cs t)) w.heap.size t cs := heap_alloc_new w _
theorem Blk.same (h : Blk w g t cs) (hb : w'.heap[g]? = w.heap[g]?) : Blk w' g t cs := hb.trans h
theorem Blk.below {B : Nat} (h : Blk w g t cs) (hb : Below B w w') (hg : g < B) : Blk w' g t cs := (hb.block g hg).trans h
theorem Blk.set_ (h : Blk w g t cs) (i : Nat) (u : Value) : Blk (w.setCell ⟨g, i, none⟩ u) g t (cs.setIfInBounds i u) := by
  unfold Blk at h ⊢
  simp [World.setCell, Array.getElem?_modify, h]
end

theorem ownsRow_below {w w' : World} {base : Nat} {e : TypeId} {size n : Nat} {v : Value} {xs : List Value} (h : w.ownsRow base e size v n xs) (hb : Below w.heap.size w w') : w'.ownsRow base e size v n xs := by
  refine ⟨h.1, ?_⟩
  rcases h.2 with hn | ⟨g, cap, cur, rfl, hbg, hgg, rest⟩
  · exact .inl hn
  · exact .inr ⟨g, cap, cur, rfl, hbg, (hb.block g (Array.getElem?_eq_some_iff.1 hgg).1).trans hgg, rest⟩
theorem ownsRow_base {w : World} {base base' : Nat} {e : TypeId} {size n : Nat} {v : Value} {xs : List Value} (h : w.ownsRow base e size v n xs) (hb : base' ≤ base) : w.ownsRow base' e size v n xs := by
  refine ⟨h.1, ?_⟩
  rcases h.2 with hn | ⟨g, cap, cur, rfl, hbg, rest⟩
  · exact .inl hn
  · exact .inr ⟨g, cap, cur, rfl, by omega, rest⟩
theorem ownsRow_form {w : World} {base : Nat} {e : TypeId} {n : Nat} {v : Value} {xs : List Value} (h : w.ownsRow base e 1 v n xs) : ∃ A c, v = .slice A n c ∧ n ≤ c ∧ c ≤ maxLen := by
  rcases h.2 with ⟨rfl, rfl⟩ | ⟨g, cap, cur, rfl, _, _, h1, h2, _⟩
  · exact ⟨_, _, rfl, Nat.le_refl _, by simp [maxLen]⟩
  · exact ⟨_, _, rfl, h1, h2⟩
theorem Below.ofGrown {w w' : World} {g B : Nat} (h : w.grownBy w' (some g)) (hB : B ≤ g) (hs : B ≤ w.heap.size) : Below B w w' :=
  (Below.refl _ _).grown h hs (fun k hk => by injection hk with hk; omega)
end Go.Proofs.Ytgemjipbifgbgaa
/- Slices that came in, read as lists of cells. No statement of the seat is proved here. -/
namespace Go.Proofs.Ytgemjipbifgbgaa
open Go.RowKit

/-- The slice value '.slice A vs.length c' reads as the cells vs (one cell an element), in blocks below B. -/
def RdV (w : World) (B : Nat) (A : Option Addr) (vs : List Value) : Prop :=
  0 < vs.length → ∃ g off, A = some ⟨g, off, none⟩ ∧ g < B ∧ ∀ j (_ : j < vs.length), w.cell? ⟨g, off + j, none⟩ = some vs[j]
theorem RdV.at_ {w w' : World} {B : Nat} {A : Option Addr} {vs : List Value} (h : RdV w B A vs) (hb : Below B w w') {k : Nat} (hk : k < vs.length) :
    ∃ g off, A = some ⟨g, off, none⟩ ∧ g < B ∧ w'.cell? ⟨g, off + k, none⟩ = some vs[k] := by
  obtain ⟨g, off, e, hg, hc⟩ := h (by omega)
  exact ⟨g, off, e, hg, (hb.cell (p := ⟨g, off + k, none⟩) hg).trans (hc k hk)⟩
theorem RdV.take {w : World} {B : Nat} {A : Option Addr} {vs : List Value} (h : RdV w B A vs) (k : Nat) : RdV w B A (vs.take k) := fun hn => by
  rw [List.length_take] at hn
  obtain ⟨g, off, e, hb, hc⟩ := h (by omega)
  refine ⟨g, off, e, hb, fun j hj => ?_⟩
  rw [List.length_take] at hj
  rw [hc j (by omega), List.getElem_take]
end Go.Proofs.Ytgemjipbifgbgaa
/- Arguments that are slices, opened as lists of cells. No statement of the seat is proved here. -/
namespace Go.Proofs.Ytgemjipbifgbgaa
open Go.ChangeShapes Go.WideShapes Go.ChangeAt Go.RowKit

/-- A whole row of cells that the reader met, from an address on. -/
theorem rdv_of {w : World} {a : Addr} (vs : List Value) (h : ∀ i (_ : i < vs.length), w.cell? (a.add i) = some vs[i]) : RdV w w.heap.size (some a) vs := fun hn => by
  have h0 := h 0 hn
  obtain ⟨b, off, spot⟩ := a
  have hz : (⟨b, off, spot⟩ : Addr).add 0 = ⟨b, off, spot⟩ := by simp [Addr.add]
  rw [hz] at h0
  have hs : spot = none := World.cell?_spot h0
  subst hs
  refine ⟨b, off, rfl, World.block_lt_of_cell? w _ h0, fun j hj => ?_⟩
  rw [← Addr.add_lit]; exact h j hj

section
variable {H : Type} {enc : TypeId × Value → H} {P : Program} {w : World} {base : Nat}
theorem open_ints_arg {t e : TypeId} {k : IntKind} {fuel : Nat} {a : Option Addr} {len cap : Nat} {x : DataW H × List MemPlace} (ht : P.underlying t = some (.slice e)) (he : P.underlying e = some (.int k)) (hc : P.cellsOf e = 1)
    (h : DataW.trod enc P w base (fun _ => true) true fuel t (Value.slice a len cap).cells.toList = some x) :
    ∃ zs : List Int, len = zs.length ∧ RdV w w.heap.size a (zs.map (Value.int k)) ∧ zs.length ≤ cap ∧ cap ≤ maxLen ∧ ∀ n ∈ zs, (Lit.int k n).wf = true := by
  rcases open_ints ht he hc h with ⟨hcs, _⟩ | ⟨ad, l, c, zs, hcs, _, hl, hm, hz, _, hcell, hwz⟩
  · simp [Value.cells] at hcs
    obtain ⟨rfl, rfl, rfl⟩ := hcs
    exact ⟨[], rfl, fun h => absurd h (by simp), by simp, by simp [maxLen], by simp⟩
  · simp [Value.cells] at hcs
    obtain ⟨rfl, rfl, rfl⟩ := hcs
    have hz' : zs.length = cap := by simpa using hz
    refine ⟨zs.take len, by rw [List.length_take]; omega, ?_, by rw [List.length_take]; omega, hm, fun n hn => hwz n (List.mem_of_mem_take hn)⟩
    refine rdv_of _ fun i hi => ?_
    rw [List.length_map, List.length_take] at hi
    rw [hcell i (by omega)]
    simp [List.getD, show i < zs.length by omega]
theorem open_strings_arg {t e : TypeId} {fuel : Nat} {a : Option Addr} {len cap : Nat} {x : DataW H × List MemPlace} (ht : P.underlying t = some (.slice e)) (he : P.underlying e = some .string) (hc : P.cellsOf e = 1)
    (h : DataW.trod enc P w base (fun _ => true) true fuel t (Value.slice a len cap).cells.toList = some x) :
    ∃ zs : List ByteArray, len = zs.length ∧ RdV w w.heap.size a (zs.map Value.string) ∧ zs.length ≤ cap ∧ cap ≤ maxLen ∧ ∀ s ∈ zs, s.size ≤ maxLen := by
  rcases open_strings ht he hc h with ⟨hcs, _⟩ | ⟨ad, l, c, zs, hcs, _, hl, hm, hz, _, hcell, hwz⟩
  · simp [Value.cells] at hcs
    obtain ⟨rfl, rfl, rfl⟩ := hcs
    exact ⟨[], rfl, fun h => absurd h (by simp), by simp, by simp [maxLen], by simp⟩
  · simp [Value.cells] at hcs
    obtain ⟨rfl, rfl, rfl⟩ := hcs
    have hz' : zs.length = cap := by simpa using hz
    refine ⟨zs.take len, by rw [List.length_take]; omega, ?_, by rw [List.length_take]; omega, hm, fun n hn => hwz n (List.mem_of_mem_take hn)⟩
    refine rdv_of _ fun i hi => ?_
    rw [List.length_map, List.length_take] at hi
    rw [hcell i (by omega)]
    simp [List.getD, show i < zs.length by omega]
end
end Go.Proofs.Ytgemjipbifgbgaa
/- Slices of bytes, and numbers, that came in. No statement of the seat is proved here. -/
namespace Go.Proofs.Ytgemjipbifgbgaa
open Go.RowKit

theorem rd_of_rdv {w : World} {B : Nat} {A : Option Addr} {l : List UInt8} (h : RdV w B A (bv l)) : Rd w B A l := fun hn => by
  obtain ⟨g, off, e, hg, hc⟩ := h (by rw [bv_length]; exact hn)
  refine ⟨g, off, e, hg, fun j hj => ?_⟩
  rw [hc j (by rw [bv_length]; exact hj), ← bv_get hj, List.getElem?_eq_getElem]
/-- The bytes whose numbers those are. -/
def bytesOf (z : List Int) : List UInt8 := z.map fun n => UInt8.ofNat n.toNat
theorem bytesOf_length (z : List Int) : (bytesOf z).length = z.length := by simp [bytesOf]
theorem bytesOf_bv (z : List Int) (hw : ∀ n ∈ z, (Lit.int .u8 n).wf = true) : z.map (Value.int .u8) = bv (bytesOf z) := by
  unfold bv bytesOf
  rw [List.map_map]
  refine List.map_congr_left fun n hn => ?_
  have := bounds_u8 (hw n hn)
  simp only [Function.comp, UInt8.toNat_ofNat']
  congr 1
  omega
theorem rd_bytes {w : World} {B : Nat} {A : Option Addr} {z : List Int} (hr : RdV w B A (z.map (Value.int .u8))) (hw : ∀ n ∈ z, (Lit.int .u8 n).wf = true) : Rd w B A (bytesOf z) :=
  rd_of_rdv (by rw [← bytesOf_bv z hw]; exact hr)
theorem u32_of {a : Int} (h : (Lit.int .u32 a).wf = true) : ∃ s : BitVec 32, a = ((s.toNat : Nat) : Int) := by
  have b := bounds_u32 h
  refine ⟨BitVec.ofNat 32 a.toNat, ?_⟩
  rw [BitVec.toNat_ofNat]
  omega
end Go.Proofs.Ytgemjipbifgbgaa
/- A box that is made and filled. No statement of the seat is proved here. -/
namespace Go.Proofs.Ytgemjipbifgbgaa
open Go.RowKit
set_option linter.unusedVariables false

/-- A box that is made and filled. -/
theorem setRow_alloc (w : World) (t : TypeId) (cs ds : Array Value) : (w.alloc (.cells cs t)).setRow w.heap.size ds = w.alloc (.cells ds t) := by
  have e : ∀ f : Obj → Obj, f (.cells cs t) = .cells ds t → (w.heap.push (.cells cs t)).modify w.heap.size f = w.heap.push (.cells ds t) := fun f hf => by
    apply Array.ext
    · simp
    · intro i h1 h2
      rw [Array.getElem_modify]
      by_cases e : w.heap.size = i
      · subst e
        simp [hf]
      · have hi : i < w.heap.size := by simp at h2; omega
        rw [if_neg e, Array.getElem_push_lt hi, Array.getElem_push_lt hi]
  unfold World.setRow
  show ({ (w.alloc (.cells cs t)) with heap := (w.heap.push (.cells cs t)).modify w.heap.size _ } : World) = _
  rw [e _ rfl]
  rfl
end Go.Proofs.Ytgemjipbifgbgaa
/- Slices of structs that came in, row by row. No statement of the seat is proved here. -/
namespace Go.Proofs.Ytgemjipbifgbgaa
open Go.ChangeShapes Go.WideShapes Go.ChangeAt Go.RowKit Go.Deep

/-- The slice value '.slice A rows.length c' reads as those rows, each of sz cells, in blocks below B. -/
def RdS (w : World) (B sz : Nat) (A : Option Addr) (rows : List (List Value)) : Prop :=
  0 < rows.length → ∃ g off, A = some ⟨g, off, none⟩ ∧ g < B ∧ ∀ j (_ : j < rows.length), w.rangeAt g (off + j * sz) rows[j]
theorem RdS.below {w w' : World} {B sz : Nat} {A : Option Addr} {rows : List (List Value)} (h : RdS w B sz A rows) (hb : Below B w w') : RdS w' B sz A rows := fun hn => by
  obtain ⟨g, off, e, hg, hc⟩ := h hn
  exact ⟨g, off, e, hg, fun j hj i v hv => (hb.cell (p := ⟨g, off + j * sz + i, none⟩) hg).trans (hc j hj i v hv)⟩
theorem RdS.more {w : World} {B B' sz : Nat} {A : Option Addr} {rows : List (List Value)} (h : RdS w B sz A rows) (hB : B ≤ B') : RdS w B' sz A rows := fun hn => by
  obtain ⟨g, off, e, hg, hc⟩ := h hn
  exact ⟨g, off, e, by omega, hc⟩
theorem RdS.take {w : World} {B sz : Nat} {A : Option Addr} {rows : List (List Value)} (h : RdS w B sz A rows) (k : Nat) : RdS w B sz A (rows.take k) := fun hn => by
  rw [List.length_take] at hn
  obtain ⟨g, off, e, hg, hc⟩ := h (by omega)
  refine ⟨g, off, e, hg, fun j hj => ?_⟩
  rw [List.length_take] at hj
  rw [List.getElem_take]
  exact hc j (by omega)
section
variable {H : Type} {enc : TypeId × Value → H} {P : Program} {w : World} {base : Nat}
theorem open_rows {α : Type} [Inhabited α] (f : α → List Value) (Q : α → Prop) {t e : TypeId} {sz fuel : Nat} {a : Option Addr} {len cap : Nat} {x : DataW H × List MemPlace}
    (ht : P.underlying t = some (.slice e)) (hC : P.cellsOf e = sz) (hs : 0 < sz)
    (each : ∀ n cs y, DataW.trod enc P w base (fun _ => true) true n e cs = some y → ∃ z : α, cs = f z ∧ Q z)
    (h : DataW.trod enc P w base (fun _ => true) true fuel t (Value.slice a len cap).cells.toList = some x) :
    ∃ zs : List α, len = zs.length ∧ RdS w w.heap.size sz a (zs.map f) ∧ zs.length ≤ cap ∧ cap ≤ maxLen ∧ ∀ z ∈ zs, Q z := by
  rcases open_slice ht h with ⟨hcs, _⟩ | ⟨ad, l, c, m, n, D, Pl, hcs, hb, hl, hm, hmm, hx, hi⟩
  · simp [Value.cells] at hcs
    obtain ⟨rfl, rfl, rfl⟩ := hcs
    exact ⟨[], rfl, fun h => absurd h (by simp), by simp, by simp [maxLen], by simp⟩
  · simp [Value.cells] at hcs
    obtain ⟨rfl, rfl, rfl⟩ := hcs
    have key : ∀ i, i < len → ∃ z : α, (∀ j, j < sz → w.cell? ((ad.add (i * sz)).add j) = (f z)[j]?) ∧ (f z).length = sz ∧ Q z := fun i hil => by
      obtain ⟨cs', h1, h2⟩ := hi i (by simp at hmm; omega)
      rw [hC] at h1
      obtain ⟨_, h3, h4⟩ := World.cells?_some h1
      obtain ⟨z, rfl, hq⟩ := each _ _ _ h2
      exact ⟨z, h4, h3, hq⟩
    obtain ⟨F, hF⟩ := choose_lt key
    refine ⟨(List.range len).map F, by simp, fun hn => ?_, by simpa using hl, hm, fun z hz => ?_⟩
    · have hn' : 0 < len := by simpa using hn
      obtain ⟨c0, l0, _⟩ := hF 0 hn'
      have h0 := c0 0 hs
      rw [List.getElem?_eq_getElem (by omega)] at h0
      obtain ⟨b, off, spot⟩ := ad
      have hz : ((⟨b, off, spot⟩ : Addr).add (0 * sz)).add 0 = ⟨b, off, spot⟩ := by simp [Addr.add]
      rw [hz] at h0
      have hsp : spot = none := World.cell?_spot h0
      subst hsp
      refine ⟨b, off, rfl, World.block_lt_of_cell? w _ h0, fun j hj i v hv => ?_⟩
      have hj' : j < len := by simpa using hj
      simp only [List.map_map, List.getElem_map, List.getElem_range, Function.comp] at hv
      obtain ⟨c1, l1, _⟩ := hF j hj'
      have hi' : i < sz := by have := (List.getElem?_eq_some_iff.1 hv).1; omega
      have := c1 i hi'
      rw [Addr.add_mid, Addr.add_mid, hv] at this
      exact this
    · obtain ⟨i, hi2, rfl⟩ := List.mem_map.1 hz
      exact (hF i (List.mem_range.1 hi2)).2.2
end
end Go.Proofs.Ytgemjipbifgbgaa
/- What the walks of a region that draws lean on. No statement of the seat is proved here. -/
namespace Go.Proofs.Ytgemjipbifgbgaa
open Go.RowKit
theorem below_drewN {B : Nat} {a w : World} (h : Below B a w) (q : Nat) : Below B a (w.drewN q) := ⟨h.os, h.tape, h.output, h.size, h.block⟩
theorem quiet_left {P : Program} {f : FuncId} {args : Array Value} {w : World} {n : Nat} {v : Value}
    (h : Calls P f args (w.drewN n) fun e w' => e = .returned v ∧ w.drewN n = w') : Calls P f args (w.drewN n) fun e w'' => e = .returned v ∧ ∃ m, w'' = w.drewN m :=
  h.mono fun _ _ ⟨he, hm⟩ => ⟨he, n, hm.symm⟩
/-- The same behind draws. -/
theorem quiet_left2 {P : Program} {f : FuncId} {args : Array Value} {w : World} {q n : Nat} {v : Value}
    (h : Calls P f args (w.drewN (q + n)) fun e w' => e = .returned v ∧ w.drewN (q + n) = w') : Calls P f args (w.drewN (q + n)) fun e w'' => e = .returned v ∧ ∃ m, w'' = w.drewN (q + m) :=
  h.mono fun _ _ ⟨he, hm⟩ => ⟨he, n, hm.symm⟩
theorem Rd.drewN {w : World} {B : Nat} {A : Option Addr} {l : List UInt8} (h : Rd w B A l) (n : Nat) : Rd (w.drewN n) B A l := h
theorem blk_at (w : World) (t : TypeId) (cs : Array Value) {g : Nat} (hg : g = w.heap.size) : Blk (w.alloc (.cells cs t)) g t cs := by subst hg; exact Blk.new w t cs
end Go.Proofs.Ytgemjipbifgbgaa
/- Keys (api.Key): their cells, slices of them that came in, what a map reads them as. For every stage that has keys. No statement of the seat is proved here. -/
namespace Go.Proofs.Ytgemjipbifgbgaa
open Go.ChangeShapes Go.WideShapes Go.ChangeAt Go.RowKit Go.Deep Go.Joins

/-- A load of a whole row, at an operation whose guard says yes. -/
theorem wpList_load_want {P : Program} {ops : Array Oper} {rest : List Oper} {o : Oper} {a : Act} {w : World} {Q : Exit → Act → World → Prop} (hgd : Region.wanted o (yielded ops a.tmps) = true) (ty : TypeId) (x : Operand) (ho : o.op = .load ty x)
    (g : Nat) (hx : a.eval x = .pointer (some ⟨g, 0, none⟩)) (t : TypeId) (cs : Array Value) (fr : Nat × Nat) (d : TypeDesc) (hg : w.heap[g]? = some (.cells cs t fr))
    (hu : P.underlying ty = some d) (hd : (match d with | .struct _ | .array _ _ => true | _ => false) = true) (hi : (P.info? ty).map (·.size) = some cs.size)
    (h : wpList P ops Q rest (a.put o.dst (.agg cs)) w) : wpList P ops Q (o :: rest) a w :=
  BigFrame.wpList_want hgd fun _ hK => wp_load_row ty x ho g hx t cs fr d hg hu hd hi (hK _ _ h)
theorem key_fields : ∃ f0 f1 : Field, Try.prog.underlying 49 = some (.struct #[f0, f1]) ∧ f0.type = 46 ∧ f1.type = 47 ∧ f0.offset = 0 ∧ f1.offset = 32 ∧ Try.prog.cellsOf 49 = 33 ∧ Try.prog.cellsOf 46 = 32 ∧ Try.prog.cellsOf 47 = 1 ∧ Try.prog.cellsOf 5 = 1 := by
  refine ⟨_, _, Try.underlying49, ?_, ?_, ?_, ?_, ?_, ?_, ?_, ?_⟩ <;> kernel_rfl
theorem key_desc : ∃ fs, Try.prog.underlying 49 = some (.struct fs) := ⟨_, Try.underlying49⟩
theorem key_size : (Try.prog.info? 49).map (·.size) = some 33 := by kernel_rfl
section
variable {H : Type} {enc : TypeId × Value → H} {w : World} {base : Nat} {sp : Nat → Bool} {held : Bool}
set_option maxRecDepth 100000 in
theorem key_cells {fuel : Nat} {cs : List Value} {x : DataW H × List MemPlace} (h : DataW.trod enc Try.prog w base sp held fuel 49 cs = some x) :
    ∃ (s : List UInt8) (N : Nat), cs = bv s ++ [.int .u32 N] ∧ s.length = 32 ∧ N < 4294967296 := by
  obtain ⟨f0, f1, hs, e0, e1, o0, o1, hC, hS, h4, h8⟩ := key_fields
  obtain ⟨xs, n, _, _, hl, hxl, hf⟩ := DataW.trod_struct hs h
  have h0 := hf 0 f0 rfl
  have h1 := hf 1 f1 rfl
  rw [e0, o0, hS] at h0
  rw [e1, o1, h4] at h1
  have hxl2 : xs.length = 2 := hxl
  rw [List.getElem?_eq_getElem (by omega)] at h0 h1
  obtain ⟨ys, m, _, _, hyl, hyn, hy⟩ := DataW.trod_array Try.underlying46 h0
  rw [hC] at hl
  obtain ⟨z, ez, _, hz⟩ := DataW.trod_int Try.underlying47 h1
  have bz := bounds_u32 hz
  have key : ∀ i (_ : i < 32), ∃ b : UInt8, cs[i]'(by omega) = .int .u8 b.toNat := fun i hi => by
    have h2 := hy i hi
    rw [h8, List.getElem?_eq_getElem (by omega), Nat.mul_one] at h2
    have h3 : ((((cs.drop 0).take 32).drop i).take 1) = [cs[i]'(by omega)] := by
      rw [List.drop_zero, List.drop_eq_getElem_cons (by rw [List.length_take]; omega)]
      simp
    rw [h3] at h2
    obtain ⟨y, ey, _, hw⟩ := DataW.trod_int Try.underlying5 h2
    have by8 := bounds_u8 hw
    refine ⟨UInt8.ofNat y.toNat, ?_⟩
    have : cs[i]'(by omega) = .int .u8 y := by simpa using ey
    rw [this, UInt8.toNat_ofNat']
    congr 1
    omega
  have h5 : ((cs.drop 32).take 1) = [cs[32]'(by omega)] := by
    rw [List.drop_eq_getElem_cons (by omega)]
    rfl
  rw [h5] at ez
  have ez : cs[32]'(by omega) = .int .u32 z := by simpa using ez
  have key2 : ∀ i, i < 32 → ∃ b : UInt8, cs[i]? = some (.int .u8 b.toNat) := fun i hi => by
    obtain ⟨b, hb⟩ := key i hi
    exact ⟨b, by rw [List.getElem?_eq_getElem (by omega), hb]⟩
  obtain ⟨F, hF⟩ := choose_lt key2
  refine ⟨(List.range 32).map F, z.toNat, ?_, by simp, by omega⟩
  apply List.ext_getElem (by simp [bv_length, hl])
  intro j j1 j2
  by_cases hj : j < 32
  · rw [List.getElem_append_left (by simpa [bv_length] using hj)]
    have h6 := hF j hj
    rw [List.getElem?_eq_getElem j1] at h6
    injection h6 with h6
    rw [h6]
    simp [bv]
  · have hj2 : j = 32 := by omega
    subst hj2
    rw [ez, List.getElem_append_right (by simp [bv_length])]
    simp [bv_length]
    omega
end
/-- A key: its Sum and its N. -/
abbrev KeyT := List UInt8 × Nat
def KeyT.Ok (k : KeyT) : Prop := k.1.length = 32 ∧ k.2 < 4294967296
def kcs (k : KeyT) : List Value := bv k.1 ++ [.int .u32 k.2]
theorem kcs_length {k : KeyT} (h : k.Ok) : (kcs k).length = 33 := by simp [kcs, bv_length, h.1]
theorem kcs_one {k : KeyT} : (kcs k).toArray.all (·.oneCell') = true := by
  refine all_oneCell_toArray fun v hv => ?_
  rcases List.mem_append.1 hv with h | h
  · exact bv_oneCell _ v h
  · rw [List.mem_singleton.1 h]; rfl
theorem kcs_byte {k : KeyT} {j : Nat} (hj : j < k.1.length) : (kcs k)[j]? = some (.int .u8 k.1[j].toNat) := by
  rw [kcs, List.getElem?_append_left (by rw [bv_length]; exact hj), bv_get hj]
theorem kcs_num {k : KeyT} (h : k.Ok) : (kcs k)[32]? = some (.int .u32 k.2) := by
  rw [kcs, List.getElem?_append_right (by rw [bv_length, h.1]; omega), bv_length, h.1]; rfl
theorem kcs_inj {a b : KeyT} (ha : a.Ok) (hb : b.Ok) (h : kcs a = kcs b) : a = b := by
  unfold kcs at h
  obtain ⟨h1, h2⟩ := List.append_inj h (by rw [bv_length, bv_length, ha.1, hb.1])
  have e1 : a.1 = b.1 := by
    apply List.ext_getElem (by rw [ha.1, hb.1])
    intro j j1 j2
    have h3 : (bv a.1)[j]? = (bv b.1)[j]? := by rw [h1]
    rw [bv_get j1, bv_get j2] at h3
    injection h3 with h3
    injection h3 with _ h3
    exact UInt8.toNat_inj.1 (by omega)
  have e2 : a.2 = b.2 := by
    have h3 := (List.cons.inj h2).1
    injection h3 with _ h3
    omega
  exact Prod.ext e1 e2
/-- A slice of keys that reads. -/
structure RdK (w : World) (B : Nat) (A : Option Addr) (ks : List KeyT) : Prop where
  rows : RdS w B 33 A (ks.map kcs)
  each : ∀ k ∈ ks, k.Ok
section
variable {w w' : World} {B B' : Nat} {A : Option Addr} {ks : List KeyT}
theorem RdK.below (h : RdK w B A ks) (hb : Below B w w') : RdK w' B A ks := ⟨h.rows.below hb, h.each⟩
theorem RdK.more (h : RdK w B A ks) (hB : B ≤ B') : RdK w B' A ks := ⟨h.rows.more hB, h.each⟩
theorem RdK.take (h : RdK w B A ks) (k : Nat) : RdK w B A (ks.take k) := ⟨by rw [List.map_take]; exact h.rows.take k, fun x hx => h.each x (List.mem_of_mem_take hx)⟩
theorem RdK.nil (w : World) (B : Nat) (A : Option Addr) : RdK w B A [] := ⟨fun h => absurd h (by simp), by simp⟩
theorem RdK.at_ (h : RdK w B A ks) {j : Nat} (hj : j < ks.length) : ∃ g off, A = some ⟨g, off, none⟩ ∧ g < B ∧ w.rangeAt g (off + j * 33) (kcs ks[j]) ∧ (ks[j]).Ok := by
  obtain ⟨g, off, e, hg, hc⟩ := h.rows (by simp; omega)
  refine ⟨g, off, e, hg, ?_, h.each _ (List.getElem_mem hj)⟩
  have := hc j (by simpa using hj)
  simpa using this
end
theorem open_keys_arg {H : Type} {enc : TypeId × Value → H} {w : World} {base fuel : Nat} {a : Option Addr} {len cap : Nat} {x : DataW H × List MemPlace}
    (h : DataW.trod enc Try.prog w base (fun _ => true) true fuel 28 (Value.slice a len cap).cells.toList = some x) :
    ∃ ks : List KeyT, len = ks.length ∧ RdK w w.heap.size a ks ∧ ks.length ≤ cap ∧ cap ≤ maxLen ∧ True := by
  obtain ⟨f0, f1, hs, e0, e1, o0, o1, hC, _⟩ := key_fields
  obtain ⟨zs, h1, h2, h3, h4, h5⟩ := open_rows kcs KeyT.Ok Try.underlying28 hC (by omega) (fun n cs y hy => by
    obtain ⟨s, N, hcs, hl, hN⟩ := key_cells hy
    exact ⟨(s, N), hcs, hl, hN⟩) h
  exact ⟨zs, h1, ⟨h2, h5⟩, h3, h4, trivial⟩
set_option maxRecDepth 100000 in
theorem open_key2 {H : Type} {enc : TypeId × Value → H} {w : World} {base : Nat} {sp : Nat → Bool} {held : Bool} {v : Value} {r : Reach} {b0 : Nat} {d : DataW H} {p : List MemPlace}
    (hv : Value.okWide Try.prog w r b0 49 v) (h : DataW.Trod enc Try.prog w base sp held 49 v d p) : ∃ k : KeyT, v = .agg (kcs k).toArray ∧ k.Ok := by
  obtain ⟨f0, f1, hs, _⟩ := key_fields
  obtain ⟨cs, rfl, hsz⟩ := okWide_struct hs hv
  obtain ⟨fuel, hf⟩ := h
  obtain ⟨s, N, hcs, hl, hN⟩ := key_cells hf
  refine ⟨(s, N), ?_, hl, hN⟩
  have e : cs = (bv s ++ [Value.int .u32 N]).toArray := by
    rw [← Array.toList_inj]; exact hcs
  rw [e]; rfl
/-- A load of many cells in a quiet region. -/
theorem quiet_load_mid {P : Program} {C : World → Prop} {next : Act → Prop} {o : Oper} {a a' : Act} (ty : TypeId) (x : Operand) (ho : o.op = .load ty x)
    (b off : Nat) (hx : a.eval x = .pointer (some ⟨b, off, none⟩)) (cs : List Value) (d : TypeDesc) (hC : ∀ w, C w → w.rangeAt b off cs)
    (hu : P.underlying ty = some d) (hd : d.isRow = true) (hi : (P.info? ty).map (·.size) = some cs.length)
    (ha : a.put o.dst (.agg cs.toArray) = a') (hn : next a') : o.quiet P a C next := by
  subst ha
  refine ⟨.agg cs.toArray, fun w hw => ?_, hn⟩
  unfold Oper.quietAt execOp
  simp only [ho, hx, Instr.loadAt, Instr.sureAddr, Sem.run_bind, Sem.run_pure, Result.andThen_ok, run_loadVar_mid w b off ty cs d (hC w hw) hu hd hi]
  exact ⟨rfl, rfl⟩
/-- A key of zeros. -/
abbrev kz (N : Int) : Array Value := #[.int .u8 0, .int .u8 0, .int .u8 0, .int .u8 0, .int .u8 0, .int .u8 0, .int .u8 0, .int .u8 0, .int .u8 0, .int .u8 0, .int .u8 0, .int .u8 0, .int .u8 0, .int .u8 0, .int .u8 0, .int .u8 0, .int .u8 0, .int .u8 0, .int .u8 0, .int .u8 0, .int .u8 0, .int .u8 0, .int .u8 0, .int .u8 0, .int .u8 0, .int .u8 0, .int .u8 0, .int .u8 0, .int .u8 0, .int .u8 0, .int .u8 0, .int .u8 0, .int .u32 N]
/-- A key's block. -/
theorem range_of_blk {w : World} {g : Nat} {t : TypeId} {cs : List Value} (h : Blk w g t cs.toArray) : w.rangeAt g 0 cs := fun j u hu => by
  rw [h.cell, List.getElem?_toArray, Nat.zero_add]; exact hu
end Go.Proofs.Ytgemjipbifgbgaa
/- Plain mathematics for package index: rows in the order of their keys, what is put and taken out. No statement of the seat is proved here; nothing of the program is imported. -/
namespace Go.Proofs.Ytgemjipbifgbgaa
set_option linter.unusedVariables false

/-- A row: its key (fingerprint, number), its shelf, its slot. -/
abbrev RowT := (List UInt8 × Nat) × (Int × Int)
def KeyOk (k : List UInt8 × Nat) : Prop := k.1.length = 32 ∧ k.2 < 4294967296
/-- Where a key stands. -/
def ordK (k : List UInt8 × Nat) : Nat := val k.1 * 4294967296 + k.2
theorem ordK_inj {a b : List UInt8 × Nat} (ha : KeyOk a) (hb : KeyOk b) (h : ordK a = ordK b) : a = b := by
  obtain ⟨x, m⟩ := a
  obtain ⟨y, n⟩ := b
  have h1 : m < 4294967296 := ha.2
  have h2 : n < 4294967296 := hb.2
  have hx : x.length = 32 := ha.1
  have hy : y.length = 32 := hb.1
  unfold ordK at h
  simp only at h
  have h3 : val x = val y := by omega
  have h4 : m = n := by omega
  rw [← be_val x, ← be_val y, hx, hy, h3, h4]
def Rise (L : List RowT) : Prop := L.Pairwise fun a b => ordK a.1 < ordK b.1
def under (L : List RowT) (k : List UInt8 × Nat) : List RowT := L.filter fun r => decide (ordK r.1 < ordK k)
def over (L : List RowT) (k : List UInt8 × Nat) : List RowT := L.filter fun r => decide (ordK k < ordK r.1)
def putX (L : List RowT) (k : List UInt8 × Nat) (p : Int × Int) : List RowT := under L k ++ (k, p) :: over L k
def dropX (L : List RowT) (k : List UInt8 × Nat) : List RowT := under L k ++ over L k
def hasX (L : List RowT) (k : List UInt8 × Nat) : Bool := L.any fun r => decide (r.1 = k)
def getX (L : List RowT) (k : List UInt8 × Nat) : Int × Int := match L.find? fun r => decide (r.1 = k) with
  | some r => r.2
  | none => (0, 0)
def twinsX (L : List RowT) (d : List UInt8) : List (List UInt8 × Nat) := (L.filter fun r => decide (r.1.1 = d)).map (·.1)
/-- A row set in by its slot, behind all of the same. -/
def insS (l : List RowT) (r : RowT) : List RowT := l.takeWhile (fun x => decide (x.2.2 ≤ r.2.2)) ++ r :: l.dropWhile (fun x => decide (x.2.2 ≤ r.2.2))
def shelfX (L : List RowT) (at_ : Int) : List RowT := (L.filter fun r => decide (r.2.1 = at_)).foldl insS []
structure RowsOk (L : List RowT) : Prop where
  rise : Rise L
  key : ∀ r ∈ L, KeyOk r.1
  place : ∀ r ∈ L, (-9223372036854775808 ≤ r.2.1 ∧ r.2.1 ≤ 9223372036854775807) ∧ (-9223372036854775808 ≤ r.2.2 ∧ r.2.2 ≤ 9223372036854775807)
theorem rise_split {L : List RowT} (h : Rise L) {k : List UInt8 × Nat} (hk : KeyOk k) (hL : ∀ r ∈ L, KeyOk r.1) : (hasX L k = false ∧ L = under L k ++ over L k) ∨ ∃ p, hasX L k = true ∧ getX L k = p ∧ L = under L k ++ (k, p) :: over L k := by
  induction L with
  | nil => exact .inl ⟨rfl, rfl⟩
  | cons r L ih =>
    have hr := List.pairwise_cons.1 h
    have ihh := ih hr.2 fun x hx => hL x (by simp [hx])
    have hrk := hL r (by simp)
    rcases Nat.lt_trichotomy (ordK r.1) (ordK k) with h1 | h1 | h1
    · have hne : r.1 ≠ k := fun e => by rw [e] at h1; omega
      have e1 : under (r :: L) k = r :: under L k := by unfold under; rw [List.filter_cons, if_pos (by simpa using h1)]
      have e2 : over (r :: L) k = over L k := by unfold over; rw [List.filter_cons, if_neg (by simp; omega)]
      have e3 : hasX (r :: L) k = hasX L k := by unfold hasX; rw [List.any_cons, decide_eq_false hne, Bool.false_or]
      have e4 : getX (r :: L) k = getX L k := by unfold getX; rw [List.find?_cons, decide_eq_false hne]
      rcases ihh with ⟨i1, i2⟩ | ⟨p, i1, i2, i3⟩
      · exact .inl ⟨e3.trans i1, by rw [e1, e2, List.cons_append, ← i2]⟩
      · exact .inr ⟨p, e3.trans i1, e4.trans i2, by rw [e1, e2, List.cons_append, ← i3]⟩
    · have e0 : r.1 = k := ordK_inj hrk hk h1
      have e1 : under (r :: L) k = [] := by
        unfold under
        rw [List.filter_eq_nil_iff]
        intro x hx
        rcases List.mem_cons.1 hx with rfl | hx
        · simp; omega
        · have := hr.1 x hx; simp; omega
      have e2 : over (r :: L) k = L := by
        unfold over
        rw [List.filter_cons, if_neg (by simp; omega), List.filter_eq_self]
        intro x hx
        have := hr.1 x hx; simp; omega
      refine .inr ⟨r.2, ?_, ?_, ?_⟩
      · unfold hasX; rw [List.any_cons, decide_eq_true e0, Bool.true_or]
      · unfold getX; rw [List.find?_cons, decide_eq_true e0]
      · rw [e1, e2, ← e0]; rfl
    · have hne : r.1 ≠ k := fun e => by rw [e] at h1; omega
      have e1 : under (r :: L) k = [] := by
        unfold under
        rw [List.filter_eq_nil_iff]
        intro x hx
        rcases List.mem_cons.1 hx with rfl | hx
        · simp; omega
        · have := hr.1 x hx; simp; omega
      have e2 : over (r :: L) k = r :: L := by
        unfold over
        rw [List.filter_eq_self]
        intro x hx
        rcases List.mem_cons.1 hx with rfl | hx
        · simpa using h1
        · have := hr.1 x hx; simp; omega
      have e3 : hasX (r :: L) k = false := by
        unfold hasX
        rw [List.any_eq_false]
        intro x hx
        simp only [decide_eq_true_eq]
        rintro rfl
        rcases List.mem_cons.1 hx with rfl | hx
        · omega
        · have := hr.1 x hx; omega
      exact .inl ⟨e3, by rw [e1, e2, List.nil_append]⟩
theorem mem_under {L : List RowT} {k : List UInt8 × Nat} {r : RowT} : r ∈ under L k ↔ r ∈ L ∧ ordK r.1 < ordK k := by unfold under; rw [List.mem_filter]; simp
theorem mem_over {L : List RowT} {k : List UInt8 × Nat} {r : RowT} : r ∈ over L k ↔ r ∈ L ∧ ordK k < ordK r.1 := by unfold over; rw [List.mem_filter]; simp
theorem rise_under {L : List RowT} (h : Rise L) (k : List UInt8 × Nat) : Rise (under L k) := List.Pairwise.filter _ h
theorem rise_over {L : List RowT} (h : Rise L) (k : List UInt8 × Nat) : Rise (over L k) := List.Pairwise.filter _ h
theorem RowsOk.put {L : List RowT} (h : RowsOk L) {k : List UInt8 × Nat} (hk : KeyOk k) {p : Int × Int} (hp : (-9223372036854775808 ≤ p.1 ∧ p.1 ≤ 9223372036854775807) ∧ (-9223372036854775808 ≤ p.2 ∧ p.2 ≤ 9223372036854775807)) : RowsOk (putX L k p) := by
  have hm : ∀ r ∈ putX L k p, r ∈ L ∨ r = (k, p) := fun r hr => by
    rcases List.mem_append.1 hr with hr | hr
    · exact .inl (mem_under.1 hr).1
    · rcases List.mem_cons.1 hr with hr | hr
      · exact .inr hr
      · exact .inl (mem_over.1 hr).1
  refine ⟨?_, fun r hr => ?_, fun r hr => ?_⟩
  · refine List.pairwise_append.2 ⟨rise_under h.rise k, List.pairwise_cons.2 ⟨fun r hr => (mem_over.1 hr).2, rise_over h.rise k⟩, fun a ha b hb => ?_⟩
    have h1 := (mem_under.1 ha).2
    rcases List.mem_cons.1 hb with rfl | hb
    · exact h1
    · have := (mem_over.1 hb).2; omega
  · rcases hm r hr with h1 | rfl
    · exact h.key r h1
    · exact hk
  · rcases hm r hr with h1 | rfl
    · exact h.place r h1
    · exact hp
theorem RowsOk.drop {L : List RowT} (h : RowsOk L) (k : List UInt8 × Nat) : RowsOk (dropX L k) := by
  have hm : ∀ r ∈ dropX L k, r ∈ L := fun r hr => by
    rcases List.mem_append.1 hr with hr | hr
    · exact (mem_under.1 hr).1
    · exact (mem_over.1 hr).1
  refine ⟨List.pairwise_append.2 ⟨rise_under h.rise k, rise_over h.rise k, fun a ha b hb => ?_⟩, fun r hr => h.key r (hm r hr), fun r hr => h.place r (hm r hr)⟩
  have h1 := (mem_under.1 ha).2
  have := (mem_over.1 hb).2
  omega
theorem RowsOk.nil : RowsOk [] := ⟨List.Pairwise.nil, by simp, by simp⟩
theorem putX_length (L : List RowT) (h : Rise L) {k : List UInt8 × Nat} (hk : KeyOk k) (hL : ∀ r ∈ L, KeyOk r.1) (p : Int × Int) : (putX L k p).length ≤ L.length + 1 := by
  rcases rise_split h hk hL with ⟨_, e⟩ | ⟨q, _, _, e⟩
  · have := congrArg List.length e
    simp [putX] at this ⊢
    omega
  · have := congrArg List.length e
    simp [putX] at this ⊢
    omega
theorem dropX_length (L : List RowT) (h : Rise L) {k : List UInt8 × Nat} (hk : KeyOk k) (hL : ∀ r ∈ L, KeyOk r.1) : (dropX L k).length ≤ L.length := by
  rcases rise_split h hk hL with ⟨_, e⟩ | ⟨q, _, _, e⟩
  · have := congrArg List.length e
    simp [dropX] at this ⊢
    omega
  · have := congrArg List.length e
    simp [dropX] at this ⊢
    omega
theorem insS_length (l : List RowT) (r : RowT) : (insS l r).length = l.length + 1 := by
  have h := congrArg List.length (List.takeWhile_append_dropWhile (p := fun x : RowT => decide (x.2.2 ≤ r.2.2)) (l := l))
  simp only [List.length_append] at h
  simp only [insS, List.length_append, List.length_cons]
  omega
theorem foldl_insS_length : ∀ (M l : List RowT), (M.foldl insS l).length = l.length + M.length
  | [], l => rfl
  | r :: M, l => by rw [List.foldl_cons, foldl_insS_length M, insS_length, List.length_cons]; omega
theorem shelfX_length (L : List RowT) (at_ : Int) : (shelfX L at_).length ≤ L.length := by
  unfold shelfX
  rw [foldl_insS_length]
  have := List.length_filter_le (fun r : RowT => decide (r.2.1 = at_)) L
  simp only [List.length_nil, Nat.zero_add]
  exact this
theorem twinsX_length (L : List RowT) (d : List UInt8) : (twinsX L d).length ≤ L.length := by
  unfold twinsX
  rw [List.length_map]
  exact List.length_filter_le _ _
theorem mem_insS {l : List RowT} {r x : RowT} : x ∈ insS l r ↔ x = r ∨ x ∈ l := by
  have h : ∀ x, x ∈ l ↔ x ∈ l.takeWhile (fun x => decide (x.2.2 ≤ r.2.2)) ∨ x ∈ l.dropWhile (fun x => decide (x.2.2 ≤ r.2.2)) := fun x => by
    conv => lhs; rw [← List.takeWhile_append_dropWhile (p := fun x : RowT => decide (x.2.2 ≤ r.2.2)) (l := l), List.mem_append]
  rw [h x]
  unfold insS
  rw [List.mem_append, List.mem_cons]
  constructor
  · rintro (h | h | h)
    · exact .inr (.inl h)
    · exact .inl h
    · exact .inr (.inr h)
  · rintro (h | h | h)
    · exact .inr (.inl h)
    · exact .inl h
    · exact .inr (.inr h)
theorem mem_foldl_insS : ∀ (M l : List RowT) (x : RowT), x ∈ M.foldl insS l ↔ x ∈ M ∨ x ∈ l
  | [], l, x => by simp
  | r :: M, l, x => by
    rw [List.foldl_cons, mem_foldl_insS M, mem_insS, List.mem_cons]
    constructor
    · rintro (h | h | h)
      · exact .inl (.inr h)
      · exact .inl (.inl h)
      · exact .inr h
    · rintro ((h | h) | h)
      · exact .inr (.inl h)
      · exact .inl h
      · exact .inr (.inr h)
theorem mem_shelfX {L : List RowT} {at_ : Int} {x : RowT} : x ∈ shelfX L at_ ↔ x ∈ L ∧ x.2.1 = at_ := by
  unfold shelfX
  rw [mem_foldl_insS, List.mem_filter]
  simp
theorem mem_twinsX {L : List RowT} {d : List UInt8} {k : List UInt8 × Nat} : k ∈ twinsX L d ↔ k.1 = d ∧ ∃ p, (k, p) ∈ L := by
  unfold twinsX
  rw [List.mem_map]
  constructor
  · rintro ⟨r, hr, rfl⟩
    rw [List.mem_filter] at hr
    exact ⟨by simpa using hr.2, r.2, hr.1⟩
  · rintro ⟨h, p, hp⟩
    exact ⟨(k, p), List.mem_filter.2 ⟨hp, by simpa using h⟩, rfl⟩
theorem hasX_iff {L : List RowT} {k : List UInt8 × Nat} : hasX L k = true ↔ ∃ p, (k, p) ∈ L := by
  unfold hasX
  rw [List.any_eq_true]
  constructor
  · rintro ⟨r, hr, h⟩
    have h : r.1 = k := by simpa using h
    exact ⟨r.2, by rw [← h]; exact hr⟩
  · rintro ⟨p, hp⟩
    exact ⟨(k, p), hp, by simp⟩
end Go.Proofs.Ytgemjipbifgbgaa
