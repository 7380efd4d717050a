/- Plain mathematics for package codec: lists of bytes, big-endian numbers, their value and their order. No statement of the seat is proved here; nothing of the program is imported. -/
import Derived.WalkKit
import Derived.Lib.AppendStr
import Derived.Test.YtoofhaoaogoomaaGreatProg
import Derived.Lib.Hide
import Derived.Laws.CopyOwn
import Derived.Laws.BytesArg
import Derived.Laws.IdiomStrings
import Derived.Deep.Draws
import Derived.ProofKit
import Derived.OpenShut
import Derived.SliceStrings
namespace Go.Proofs.YtoofhaoaogoomaaGreat
open Go.RowKit

/-- A list of bytes as cells. -/
def bv (l : List UInt8) : List Value := l.map fun b => Value.int .u8 b.toNat
theorem bv_length (l : List UInt8) : (bv l).length = l.length := by simp [bv]
theorem bv_append (l m : List UInt8) : bv (l ++ m) = bv l ++ bv m := by simp [bv]
theorem bv_oneCell (l : List UInt8) : ∀ u ∈ bv l, u.oneCell' = true := by
  intro u hu
  simp only [bv, List.mem_map] at hu
  obtain ⟨b, _, rfl⟩ := hu
  rfl
theorem bv_get {l : List UInt8} {j : Nat} (h : j < l.length) : (bv l)[j]? = some (.int .u8 l[j].toNat) := by simp [bv, h]
theorem bv_strCells (s : ByteArray) : Lib.strCells s = bv s.data.toList := rfl
theorem bv_take (l : List UInt8) (k : Nat) : bv (l.take k) = (bv l).take k := by simp [bv]
theorem bv_drop (l : List UInt8) (k : Nat) : bv (l.drop k) = (bv l).drop k := by simp [bv]

/-- The k lowest bytes of n, the most significant one first. -/
def be : Nat → Nat → List UInt8
  | 0, _ => []
  | k + 1, n => UInt8.ofNat (n / 256 ^ k) :: be k n
theorem be_length (k n : Nat) : (be k n).length = k := by
  induction k with
  | zero => rfl
  | succ k ih => simp [be, ih]

/-- The number whose bytes those are, the most significant one first. -/
def val (l : List UInt8) : Nat := l.foldl (fun a c => a * 256 + c.toNat) 0
theorem val_nil : val [] = 0 := rfl
theorem val_snoc (l : List UInt8) (c : UInt8) : val (l ++ [c]) = val l * 256 + c.toNat := by simp [val, List.foldl_append]
theorem foldl_val (l : List UInt8) (a : Nat) : l.foldl (fun a c => a * 256 + c.toNat) a = a * 256 ^ l.length + val l := by
  induction l generalizing a with
  | nil => simp [val]
  | cons c l ih =>
    simp only [List.foldl_cons, val, List.length_cons, Nat.zero_mul, Nat.zero_add]
    rw [ih, ih c.toNat, Nat.pow_succ, Nat.add_mul, Nat.mul_assoc, Nat.mul_comm (256 ^ l.length) 256]
    simp only [val, Nat.add_assoc]
theorem val_cons (c : UInt8) (l : List UInt8) : val (c :: l) = c.toNat * 256 ^ l.length + val l := by
  have := foldl_val l c.toNat
  simpa [val] using this
theorem val_lt (l : List UInt8) : val l < 256 ^ l.length := by
  induction l with
  | nil => simp [val]
  | cons c l ih =>
    rw [val_cons, List.length_cons, Nat.pow_succ]
    have := c.toNat_lt
    have h2 : c.toNat * 256 ^ l.length ≤ 255 * 256 ^ l.length := Nat.mul_le_mul_right _ (by omega)
    omega
theorem val_append (l m : List UInt8) : val (l ++ m) = val l * 256 ^ m.length + val m := by
  unfold val
  rw [List.foldl_append]
  exact foldl_val m _
theorem val_be (k n : Nat) : val (be k n) = n % 256 ^ k := by
  induction k with
  | zero => simp [be, val, Nat.mod_one]
  | succ k ih =>
    rw [be, val_cons, be_length, ih, Nat.pow_succ, Nat.mod_mul]
    simp [UInt8.toNat_ofNat']
    rw [Nat.mul_comm]
    omega
theorem val_be_of_lt {k n : Nat} (h : n < 256 ^ k) : val (be k n) = n := by rw [val_be, Nat.mod_eq_of_lt h]
theorem be_val (l : List UInt8) : be l.length (val l) = l := by
  induction l with
  | nil => rfl
  | cons c l ih =>
    rw [List.length_cons, be, val_cons]
    have hl := val_lt l
    have hp : 0 < 256 ^ l.length := Nat.pow_pos (by omega)
    congr 1
    · rw [Nat.add_comm, Nat.mul_comm, Nat.add_mul_div_left _ _ hp, Nat.div_eq_of_lt hl]; simp
    · have key : ∀ (k a b : Nat), be k (a * 256 ^ k + b) = be k b := by
        intro k
        induction k with
        | zero => intros; rfl
        | succ k ihk =>
          intro a b
          have hpk : 0 < 256 ^ k := Nat.pow_pos (by omega)
          simp only [be]
          have e : a * 256 ^ (k + 1) = (a * 256) * 256 ^ k := by rw [Nat.pow_succ]; rw [Nat.mul_assoc, Nat.mul_comm 256]
          rw [e, ihk]
          congr 1
          rw [Nat.add_comm, Nat.mul_comm (a * 256), Nat.add_mul_div_left _ _ hpk]
          apply UInt8.toNat_inj.1
          simp [UInt8.toNat_ofNat']
      rw [key]; exact ih

/-- The Go text's step: the shifted number, joined with a byte. -/
theorem shl_or (a c : Nat) (hc : c < 256) : (a <<< 8) ||| c = a * 256 + c := by
  rw [← Nat.shiftLeft_add_eq_or_of_lt (by simpa using hc) a, Nat.shiftLeft_eq]
end Go.Proofs.YtoofhaoaogoomaaGreat
/- Words for memory: a slice of bytes that reads as a list, a block that is known whole. No statement of the seat is proved here. -/
namespace Go.Proofs.YtoofhaoaogoomaaGreat
open Go.RowKit

/-- The slice value '.slice A l.length c' reads as the bytes l, in blocks below B. -/
def Rd (w : World) (B : Nat) (A : Option Addr) (l : List UInt8) : Prop :=
  0 < l.length → ∃ g off, A = some ⟨g, off, none⟩ ∧ g < B ∧ ∀ j (_ : j < l.length), w.cell? ⟨g, off + j, none⟩ = some (.int .u8 l[j].toNat)

section
variable {w w' : World} {B B' : Nat} {A : Option Addr} {l : List UInt8}
theorem Rd.nil (w : World) (B : Nat) (A : Option Addr) : Rd w B A [] := fun h => absurd h (by simp)
theorem Rd.keep (h : Rd w B A l) (hk : ∀ p : Addr, p.block < B → w'.cell? p = w.cell? p) : Rd w' B A l := fun hn => by
  obtain ⟨g, off, e, hb, hc⟩ := h hn
  exact ⟨g, off, e, hb, fun j hj => (hk _ hb).trans (hc j hj)⟩
theorem Rd.more (h : Rd w B A l) (hB : B ≤ B') : Rd w B' A l := fun hn => by
  obtain ⟨g, off, e, hb, hc⟩ := h hn
  exact ⟨g, off, e, by omega, hc⟩
theorem Rd.below (h : Rd w B A l) (hb : Below B w w') : Rd w' B A l := h.keep fun _ hp => hb.cell hp
theorem Rd.of_own {base n : Nat} {c : Nat} {e : TypeId} (h : w.ownsRow base e 1 (.slice A n c) n (bv l)) : Rd w w.heap.size A l := fun hn => by
  rcases h.2 with ⟨_, h0⟩ | ⟨g, cap, cur, hv, _, hh, hnc, _, hcs, ht⟩
  · have := h.1; rw [bv_length] at this; omega
  · injection hv with hA _ _
    refine ⟨g, 0, hA, ?_, fun j hj => ?_⟩
    · rcases Nat.lt_or_ge g w.heap.size with hlt | hge
      · exact hlt
      · rw [Array.getElem?_eq_none hge] at hh; cases hh
    · have hl : (bv l)[j]? = some (.int .u8 l[j].toNat) := bv_get hj
      rw [cell_of_row w g (0 + j) cur _ (0, 0) hh, Nat.zero_add]
      rw [← ht, List.getElem?_take] at hl
      split at hl
      · simpa using hl
      · cases hl
theorem Rd.take (h : Rd w B A l) (k : Nat) : Rd w B A (l.take k) := fun hn => by
  rw [List.length_take] at hn
  obtain ⟨g, off, e, hb, hc⟩ := h (by omega)
  refine ⟨g, off, e, hb, fun j hj => ?_⟩
  rw [List.length_take] at hj
  rw [hc j (by omega), List.getElem_take]
theorem Rd.drop (h : Rd w B A l) {k c : Nat} (hc : l.length ≤ c) : Rd w B (if c = k then A else A.map (·.add k)) (l.drop k) := fun hn => by
  rw [List.length_drop] at hn
  obtain ⟨g, off, rfl, hb, hcell⟩ := h (by omega)
  rw [if_neg (by omega)]
  refine ⟨g, off + k, by simp [Addr.add_lit], hb, fun j hj => ?_⟩
  rw [List.length_drop] at hj
  rw [Nat.add_assoc, hcell (k + j) (by omega), List.getElem_drop]
theorem Rd.cells (h : Rd w B A l) (h0 : 0 < l.length) : ∃ ad, A = some ad ∧ ∀ j u, (bv l)[j]? = some u → w.cell? (ad.add j) = some u := by
  obtain ⟨g, off, e, _, hc⟩ := h h0
  refine ⟨_, e, fun j u hu => ?_⟩
  have hj : j < l.length := by have := (List.getElem?_eq_some_iff.1 hu).1; rwa [bv_length] at this
  rw [Addr.add_lit, hc j hj, ← bv_get hj, hu]
end

/-- 'string(b)'. -/
theorem run_str {P : Program} {w : World} {B : Nat} {A : Option Addr} {l : List UInt8} (s t e : TypeId) (hs : P.underlying s = some (.slice e)) (he : P.underlying e = some (.int .u8)) (ht : P.underlying t = some .string)
    (h : Rd w B A l) (c : Nat) : (convert s t (.slice A l.length c)).run P w = .ok (.string ⟨l.toArray⟩) w := by
  rcases A with _ | ad
  · have hl : l = [] := by
      rcases Nat.eq_zero_or_pos l.length with h0 | h0
      · exact List.eq_nil_of_length_eq_zero h0
      · obtain ⟨_, _, e, _⟩ := h h0; cases e
    subst hl
    exact run_convert_bytes_nil w s e hs he _ _ t ht
  · refine run_convert_bytes_back w s t e ad c l hs he ht fun j hj => ?_
    obtain ⟨g, off, e, _, hc⟩ := h (by omega)
    injection e with e; subst e
    rw [Addr.add_lit]; exact hc j hj

/-- Block g is just the cells cs of type t, none frozen. -/
def Blk (w : World) (g : Nat) (t : TypeId) (cs : Array Value) : Prop := w.heap[g]? = some (.cells cs t (0, 0))
section
variable {w w' : World} {g : Nat} {t : TypeId} {cs : Array Value}
theorem Blk.lt (h : Blk w g t cs) : g < w.heap.size := by
  rcases Nat.lt_or_ge g w.heap.size with hlt | hge
  · exact hlt
  · unfold Blk at h; rw [Array.getElem?_eq_none hge] at h; cases h
theorem Blk.cell (h : Blk w g t cs) (i : Nat) : w.cell? ⟨g, i, none⟩ = cs[i]? := cell_of_row w g i cs t (0, 0) h
theorem Blk.frozen (h : Blk w g t cs) (i : Nat) : w.frozen? ⟨g, i, none⟩ = false := frozen_of_row w g i cs t h
theorem Blk.new (w : World) (t : TypeId) (cs : Array Value) : Blk (w.alloc (.cells cs t)) w.heap.size t cs := heap_alloc_new w _
theorem Blk.same (h : Blk w g t cs) (hb : w'.heap[g]? = w.heap[g]?) : Blk w' g t cs := hb.trans h
theorem Blk.below {B : Nat} (h : Blk w g t cs) (hb : Below B w w') (hg : g < B) : Blk w' g t cs := (hb.block g hg).trans h
theorem Blk.set_ (h : Blk w g t cs) (i : Nat) (u : Value) : Blk (w.setCell ⟨g, i, none⟩ u) g t (cs.setIfInBounds i u) := by
  unfold Blk at h ⊢
  simp [World.setCell, Array.getElem?_modify, h]
end

theorem ownsRow_below {w w' : World} {base : Nat} {e : TypeId} {size n : Nat} {v : Value} {xs : List Value} (h : w.ownsRow base e size v n xs) (hb : Below w.heap.size w w') : w'.ownsRow base e size v n xs := by
  refine ⟨h.1, ?_⟩
  rcases h.2 with hn | ⟨g, cap, cur, rfl, hbg, hgg, rest⟩
  · exact .inl hn
  · exact .inr ⟨g, cap, cur, rfl, hbg, (hb.block g (Array.getElem?_eq_some_iff.1 hgg).1).trans hgg, rest⟩
theorem ownsRow_base {w : World} {base base' : Nat} {e : TypeId} {size n : Nat} {v : Value} {xs : List Value} (h : w.ownsRow base e size v n xs) (hb : base' ≤ base) : w.ownsRow base' e size v n xs := by
  refine ⟨h.1, ?_⟩
  rcases h.2 with hn | ⟨g, cap, cur, rfl, hbg, rest⟩
  · exact .inl hn
  · exact .inr ⟨g, cap, cur, rfl, by omega, rest⟩
theorem ownsRow_form {w : World} {base : Nat} {e : TypeId} {n : Nat} {v : Value} {xs : List Value} (h : w.ownsRow base e 1 v n xs) : ∃ A c, v = .slice A n c ∧ n ≤ c ∧ c ≤ maxLen := by
  rcases h.2 with ⟨rfl, rfl⟩ | ⟨g, cap, cur, rfl, _, _, h1, h2, _⟩
  · exact ⟨_, _, rfl, Nat.le_refl _, by simp [maxLen]⟩
  · exact ⟨_, _, rfl, h1, h2⟩
theorem Below.ofGrown {w w' : World} {g B : Nat} (h : w.grownBy w' (some g)) (hB : B ≤ g) (hs : B ≤ w.heap.size) : Below B w w' :=
  (Below.refl _ _).grown h hs (fun k hk => by injection hk with hk; omega)
end Go.Proofs.YtoofhaoaogoomaaGreat
/- Slices that came in, read as lists of cells. No statement of the seat is proved here. -/
namespace Go.Proofs.YtoofhaoaogoomaaGreat
open Go.RowKit

/-- The slice value '.slice A vs.length c' reads as the cells vs (one cell an element), in blocks below B. -/
def RdV (w : World) (B : Nat) (A : Option Addr) (vs : List Value) : Prop :=
  0 < vs.length → ∃ g off, A = some ⟨g, off, none⟩ ∧ g < B ∧ ∀ j (_ : j < vs.length), w.cell? ⟨g, off + j, none⟩ = some vs[j]
theorem RdV.at_ {w w' : World} {B : Nat} {A : Option Addr} {vs : List Value} (h : RdV w B A vs) (hb : Below B w w') {k : Nat} (hk : k < vs.length) :
    ∃ g off, A = some ⟨g, off, none⟩ ∧ g < B ∧ w'.cell? ⟨g, off + k, none⟩ = some vs[k] := by
  obtain ⟨g, off, e, hg, hc⟩ := h (by omega)
  exact ⟨g, off, e, hg, (hb.cell (p := ⟨g, off + k, none⟩) hg).trans (hc k hk)⟩
theorem RdV.take {w : World} {B : Nat} {A : Option Addr} {vs : List Value} (h : RdV w B A vs) (k : Nat) : RdV w B A (vs.take k) := fun hn => by
  rw [List.length_take] at hn
  obtain ⟨g, off, e, hb, hc⟩ := h (by omega)
  refine ⟨g, off, e, hb, fun j hj => ?_⟩
  rw [List.length_take] at hj
  rw [hc j (by omega), List.getElem_take]
end Go.Proofs.YtoofhaoaogoomaaGreat
/- Arguments that are slices, opened as lists of cells. No statement of the seat is proved here. -/
namespace Go.Proofs.YtoofhaoaogoomaaGreat
open Go.ChangeShapes Go.WideShapes Go.ChangeAt Go.RowKit

/-- A whole row of cells that the reader met, from an address on. -/
theorem rdv_of {w : World} {a : Addr} (vs : List Value) (h : ∀ i (_ : i < vs.length), w.cell? (a.add i) = some vs[i]) : RdV w w.heap.size (some a) vs := fun hn => by
  have h0 := h 0 hn
  obtain ⟨b, off, spot⟩ := a
  have hz : (⟨b, off, spot⟩ : Addr).add 0 = ⟨b, off, spot⟩ := by simp [Addr.add]
  rw [hz] at h0
  have hs : spot = none := World.cell?_spot h0
  subst hs
  refine ⟨b, off, rfl, World.block_lt_of_cell? w _ h0, fun j hj => ?_⟩
  rw [← Addr.add_lit]; exact h j hj

section
variable {H : Type} {enc : TypeId × Value → H} {P : Program} {w : World} {base : Nat}
theorem open_ints_arg {t e : TypeId} {k : IntKind} {fuel : Nat} {a : Option Addr} {len cap : Nat} {x : DataW H × List MemPlace} (ht : P.underlying t = some (.slice e)) (he : P.underlying e = some (.int k)) (hc : P.cellsOf e = 1)
    (h : DataW.trod enc P w base (fun _ => true) true fuel t (Value.slice a len cap).cells.toList = some x) :
    ∃ zs : List Int, len = zs.length ∧ RdV w w.heap.size a (zs.map (Value.int k)) ∧ zs.length ≤ cap ∧ cap ≤ maxLen ∧ ∀ n ∈ zs, (Lit.int k n).wf = true := by
  rcases open_ints ht he hc h with ⟨hcs, _⟩ | ⟨ad, l, c, zs, hcs, _, hl, hm, hz, _, hcell, hwz⟩
  · simp [Value.cells] at hcs
    obtain ⟨rfl, rfl, rfl⟩ := hcs
    exact ⟨[], rfl, fun h => absurd h (by simp), by simp, by simp [maxLen], by simp⟩
  · simp [Value.cells] at hcs
    obtain ⟨rfl, rfl, rfl⟩ := hcs
    have hz' : zs.length = cap := by simpa using hz
    refine ⟨zs.take len, by rw [List.length_take]; omega, ?_, by rw [List.length_take]; omega, hm, fun n hn => hwz n (List.mem_of_mem_take hn)⟩
    refine rdv_of _ fun i hi => ?_
    rw [List.length_map, List.length_take] at hi
    rw [hcell i (by omega)]
    simp [List.getD, show i < zs.length by omega]
theorem open_strings_arg {t e : TypeId} {fuel : Nat} {a : Option Addr} {len cap : Nat} {x : DataW H × List MemPlace} (ht : P.underlying t = some (.slice e)) (he : P.underlying e = some .string) (hc : P.cellsOf e = 1)
    (h : DataW.trod enc P w base (fun _ => true) true fuel t (Value.slice a len cap).cells.toList = some x) :
    ∃ zs : List ByteArray, len = zs.length ∧ RdV w w.heap.size a (zs.map Value.string) ∧ zs.length ≤ cap ∧ cap ≤ maxLen ∧ ∀ s ∈ zs, s.size ≤ maxLen := by
  rcases open_strings ht he hc h with ⟨hcs, _⟩ | ⟨ad, l, c, zs, hcs, _, hl, hm, hz, _, hcell, hwz⟩
  · simp [Value.cells] at hcs
    obtain ⟨rfl, rfl, rfl⟩ := hcs
    exact ⟨[], rfl, fun h => absurd h (by simp), by simp, by simp [maxLen], by simp⟩
  · simp [Value.cells] at hcs
    obtain ⟨rfl, rfl, rfl⟩ := hcs
    have hz' : zs.length = cap := by simpa using hz
    refine ⟨zs.take len, by rw [List.length_take]; omega, ?_, by rw [List.length_take]; omega, hm, fun n hn => hwz n (List.mem_of_mem_take hn)⟩
    refine rdv_of _ fun i hi => ?_
    rw [List.length_map, List.length_take] at hi
    rw [hcell i (by omega)]
    simp [List.getD, show i < zs.length by omega]
end
end Go.Proofs.YtoofhaoaogoomaaGreat
/- Slices of bytes, and numbers, that came in. No statement of the seat is proved here. -/
namespace Go.Proofs.YtoofhaoaogoomaaGreat
open Go.RowKit

theorem rd_of_rdv {w : World} {B : Nat} {A : Option Addr} {l : List UInt8} (h : RdV w B A (bv l)) : Rd w B A l := fun hn => by
  obtain ⟨g, off, e, hg, hc⟩ := h (by rw [bv_length]; exact hn)
  refine ⟨g, off, e, hg, fun j hj => ?_⟩
  rw [hc j (by rw [bv_length]; exact hj), ← bv_get hj, List.getElem?_eq_getElem]
/-- The bytes whose numbers those are. -/
def bytesOf (z : List Int) : List UInt8 := z.map fun n => UInt8.ofNat n.toNat
theorem bytesOf_length (z : List Int) : (bytesOf z).length = z.length := by simp [bytesOf]
theorem bytesOf_bv (z : List Int) (hw : ∀ n ∈ z, (Lit.int .u8 n).wf = true) : z.map (Value.int .u8) = bv (bytesOf z) := by
  unfold bv bytesOf
  rw [List.map_map]
  refine List.map_congr_left fun n hn => ?_
  have := bounds_u8 (hw n hn)
  simp only [Function.comp, UInt8.toNat_ofNat']
  congr 1
  omega
theorem rd_bytes {w : World} {B : Nat} {A : Option Addr} {z : List Int} (hr : RdV w B A (z.map (Value.int .u8))) (hw : ∀ n ∈ z, (Lit.int .u8 n).wf = true) : Rd w B A (bytesOf z) :=
  rd_of_rdv (by rw [← bytesOf_bv z hw]; exact hr)
theorem u32_of {a : Int} (h : (Lit.int .u32 a).wf = true) : ∃ s : BitVec 32, a = ((s.toNat : Nat) : Int) := by
  have b := bounds_u32 h
  refine ⟨BitVec.ofNat 32 a.toNat, ?_⟩
  rw [BitVec.toNat_ofNat]
  omega
end Go.Proofs.YtoofhaoaogoomaaGreat
/- Rows of bytes of the call's own: what stays, what is written over. No statement of the seat is proved here. -/
namespace Go.Proofs.YtoofhaoaogoomaaGreat
open Go.RowKit

theorem ownsRow_same {w w' : World} {b : Nat} {e : TypeId} {s n : Nat} {v : Value} {xs : List Value} (h : w.ownsRow b e s v n xs) (hk : ∀ g, v.ownBlock = some g → g < w.heap.size → w'.heap[g]? = w.heap[g]?) : w'.ownsRow b e s v n xs := by
  refine ⟨h.1, ?_⟩
  rcases h.2 with hn | ⟨g, cap, cur, rfl, hbg, hgg, rest⟩
  · exact .inl hn
  · exact .inr ⟨g, cap, cur, rfl, hbg, (hk g rfl (Array.getElem?_eq_some_iff.1 hgg).1).trans hgg, rest⟩
theorem ownsRow_grown {w w' : World} {b : Nat} {e : TypeId} {s n : Nat} {v : Value} {xs : List Value} {r : Option Nat} (h : w.ownsRow b e s v n xs) (hg : w.grownBy w' r) (hr : ∀ g, r = some g → v.ownBlock ≠ some g) : w'.ownsRow b e s v n xs :=
  ownsRow_same h fun g hv hl => hg.block g hl fun e => hr g e.symm hv
theorem setCell_block {w : World} {g g' i : Nat} {v : Value} (h : g' ≠ g) : (w.setCell ⟨g, i, none⟩ v).heap[g']? = w.heap[g']? := by
  simp [World.setCell, Array.getElem?_modify]
  intro e; exact absurd e.symm h
theorem setCell_size {w : World} {g i : Nat} {v : Value} : (w.setCell ⟨g, i, none⟩ v).heap.size = w.heap.size := by simp [World.setCell]
theorem setCell_grown {w0 w : World} {g i : Nat} {v : Value} (h : w0.grownBy w (some g)) : w0.grownBy (w.setCell ⟨g, i, none⟩ v) (some g) :=
  ⟨h.os, h.tape, h.output, by rw [setCell_size]; exact h.size, fun k hk hn => (setCell_block (fun e => hn (by rw [e]))).trans (h.block k hk hn)⟩
/-- A byte of a row of the call's own. -/
theorem own_at {w : World} {b n c : Nat} {e : TypeId} {A : Option Addr} {l : List UInt8} (h : w.ownsRow b e 1 (.slice A n c) n (bv l)) {k : Nat} (hk : k < n) :
    ∃ g x, A = some ⟨g, 0, none⟩ ∧ (Value.slice A n c).ownBlock = some g ∧ w.cell? ⟨g, k, none⟩ = some (.int .u8 ((x : UInt8).toNat : Nat)) ∧ w.frozen? ⟨g, k, none⟩ = false := by
  have hl : l.length = n := by have := h.1; rw [bv_length] at this; omega
  rcases h.2 with ⟨_, h0⟩ | ⟨g, cap, cur, hv, _, hh, hnc, _, hcs, ht⟩
  · omega
  · injection hv with hA _ _
    refine ⟨g, l[k], hA, by rw [hA]; rfl, ?_, frozen_of_row w g k cur _ hh⟩
    rw [cell_of_row w g k cur _ (0, 0) hh]
    have hu : (bv l)[k]? = some (.int .u8 (l[k]).toNat) := bv_get (by omega)
    rw [← ht, List.getElem?_take] at hu
    split at hu
    · simpa using hu
    · cases hu
/-- The row stays one when a byte is written into its block, or into another one. -/
theorem own_set {w : World} {b n g j : Nat} {ty : TypeId} {v : Value} {l : List UInt8} (h : w.ownsRow b ty 1 v n (bv l)) (x : UInt8) : ∃ l', (w.setCell ⟨g, j, none⟩ (.int .u8 x.toNat)).ownsRow b ty 1 v n (bv l') := by
  by_cases hg : v.ownBlock = some g
  · rcases h.2 with ⟨rfl, _⟩ | ⟨g1, cap, cur, rfl, hb, hh, hnc, hm, hcs, ht⟩
    · simp [Value.ownBlock] at hg
    · simp [Value.ownBlock] at hg
      subst hg
      have hB : Blk w g1 ty cur := hh
      refine ⟨l.set j x, ⟨by rw [bv_length, List.length_set, ← bv_length]; exact h.1, .inr ⟨g1, cap, cur.setIfInBounds j (.int .u8 x.toNat), rfl, hb, hB.set_ j _, hnc, hm, by simpa using hcs, ?_⟩⟩⟩
      have e : bv (l.set j x) = (bv l).set j (.int .u8 x.toNat) := by simp [bv, List.map_set]
      rw [e, ← ht]
      simp [List.take_set]
  · exact ⟨l, ownsRow_same h fun g' hv _ => setCell_block fun e => hg (by rw [hv, e])⟩
/-- What a row of the call's own is written over: all stays but its own block. -/
theorem own_xor {w : World} {b n c k : Nat} {e : TypeId} {A : Option Addr} {l : List UInt8} (h : w.ownsRow b e 1 (.slice A n c) n (bv l)) (hk : k < n) :
    ∃ g x, A = some ⟨g, 0, none⟩ ∧ (Value.slice A n c).ownBlock = some g ∧ w.cell? ⟨g, k, none⟩ = some (.int .u8 ((x : UInt8).toNat : Nat)) ∧ w.frozen? ⟨g, k, none⟩ = false ∧ g < w.heap.size ∧ b ≤ g := by
  obtain ⟨g, x, h1, h2, h3, h4⟩ := own_at h hk
  exact ⟨g, x, h1, h2, h3, h4, World.block_lt_of_cell? w _ h3, (h.lt g h2).1⟩
end Go.Proofs.YtoofhaoaogoomaaGreat
