/- Rows of 35 cells: a key, two numbers (api.Row, api.Extent); no type of the program. No statement of the seat is proved here. -/
import Derived.Test.YtoofhaoaogoomaaGreatZLAC
import Derived.Test.YtoofhaoaogoomaaGreatZLAB
import Derived.Test.YtoofhaoaogoomaaGreatZLAA
import Derived.Lib.Hide
import Derived.Laws.BitsAllLaws
import Derived.Laws.MakeOwn
namespace Go.Proofs.YtoofhaoaogoomaaGreat
open Go.ChangeShapes Go.WideShapes Go.ChangeAt Go.RowKit Go.Deep Go.Joins
set_option linter.unusedVariables false

abbrev pvs (p : Int × Int) : List Value := [.int .i64 p.1, .int .i64 p.2]
def rcs (r : RowT) : List Value := kcs r.1 ++ pvs r.2
structure RowT.Ok (r : RowT) : Prop where
  key : KeyT.Ok r.1
  shelf : In64 r.2.1
  slot : In64 r.2.2
theorem rcs_length {r : RowT} (h : r.Ok) : (rcs r).length = 35 := by simp [rcs, kcs_length h.key]
theorem rcs_one {r : RowT} : (rcs r).toArray.all (·.oneCell') = true := by
  refine all_oneCell_toArray fun v hv => ?_
  rcases List.mem_append.1 hv with h | h
  · have := kcs_one (k := r.1)
    rw [Array.all_eq_true_iff_forall_mem] at this
    exact this v (by simpa using h)
  · simp [pvs] at h
    rcases h with rfl | rfl <;> rfl
theorem rcs_key {r : RowT} {j : Nat} {u : Value} (h : (kcs r.1)[j]? = some u) : (rcs r)[j]? = some u := by
  have hj := (List.getElem?_eq_some_iff.1 h).1
  unfold rcs
  rw [List.getElem?_append_left hj]
  exact h
theorem rcs_place {r : RowT} (h : r.Ok) {j : Nat} {u : Value} (hu : (pvs r.2)[j]? = some u) : (rcs r)[33 + j]? = some u := by
  unfold rcs
  rw [List.getElem?_append_right (by rw [kcs_length h.key]; omega), kcs_length h.key, Nat.add_sub_cancel_left]
  exact hu
theorem rcs_33 {r : RowT} (h : r.Ok) : (rcs r)[33]? = some (.int .i64 r.2.1) := rcs_place h (j := 0) rfl
theorem rcs_34 {r : RowT} (h : r.Ok) : (rcs r)[34]? = some (.int .i64 r.2.2) := rcs_place h (j := 1) rfl
theorem rcs_inj {a b : RowT} (ha : a.Ok) (hb : b.Ok) (h : rcs a = rcs b) : a = b := by
  unfold rcs at h
  obtain ⟨h1, h2⟩ := List.append_inj h (by rw [kcs_length ha.key, kcs_length hb.key])
  have e1 := kcs_inj ha.key hb.key h1
  simp only [pvs, List.cons.injEq, and_true] at h2
  obtain ⟨e2, e3⟩ := h2
  injection e2 with _ e2
  injection e3 with _ e3
  exact Prod.ext e1 (Prod.ext e2 e3)
/-- A row of zeros. -/
abbrev rz : Array Value := #[.int .u8 0, .int .u8 0, .int .u8 0, .int .u8 0, .int .u8 0, .int .u8 0, .int .u8 0, .int .u8 0, .int .u8 0, .int .u8 0, .int .u8 0, .int .u8 0, .int .u8 0, .int .u8 0, .int .u8 0, .int .u8 0, .int .u8 0, .int .u8 0, .int .u8 0, .int .u8 0, .int .u8 0, .int .u8 0, .int .u8 0, .int .u8 0, .int .u8 0, .int .u8 0, .int .u8 0, .int .u8 0, .int .u8 0, .int .u8 0, .int .u8 0, .int .u8 0, .int .u32 0, .int .i64 0, .int .i64 0]
theorem rz_size : rz.size = 35 := rfl
theorem kz_size : (kz 0).size = 33 := rfl
/-- A slice of rows that reads. -/
structure RdRw (w : World) (B : Nat) (A : Option Addr) (ls : List RowT) : Prop where
  rows : RdS w B 35 A (ls.map rcs)
  each : ∀ r ∈ ls, r.Ok
section
variable {w w' : World} {B B' : Nat} {A : Option Addr} {ls : List RowT}
theorem RdRw.below (h : RdRw w B A ls) (hb : Below B w w') : RdRw w' B A ls := ⟨h.rows.below hb, h.each⟩
theorem RdRw.more (h : RdRw w B A ls) (hB : B ≤ B') : RdRw w B' A ls := ⟨h.rows.more hB, h.each⟩
theorem RdRw.on (h : RdRw w w.heap.size A ls) (hb : Below w.heap.size w w') : RdRw w' w'.heap.size A ls := (h.below hb).more hb.size
theorem RdRw.nil (w : World) (B : Nat) (A : Option Addr) : RdRw w B A [] := ⟨fun h => absurd h (by simp), by simp⟩
theorem RdRw.at_ (h : RdRw w B A ls) {j : Nat} (hj : j < ls.length) : ∃ g off, A = some ⟨g, off, none⟩ ∧ g < B ∧ w.rangeAt g (off + j * 35) (rcs ls[j]) ∧ (ls[j]).Ok := by
  obtain ⟨g, off, e, hg, hc⟩ := h.rows (by simp; omega)
  refine ⟨g, off, e, hg, ?_, h.each _ (List.getElem_mem hj)⟩
  have := hc j (by simpa using hj)
  simpa using this
theorem RdK.on {ks : List KeyT} (h : RdK w w.heap.size A ks) (hb : Below w.heap.size w w') : RdK w' w'.heap.size A ks := (h.below hb).more hb.size
end
/-- The key's cells of a row's, the place's. -/
theorem range_key {w : World} {g o : Nat} {r : RowT} (h : w.rangeAt g o (rcs r)) : w.rangeAt g o (kcs r.1) := fun j u hu => h j u (rcs_key hu)
theorem range_place {w : World} {g o : Nat} {r : RowT} (hr : r.Ok) (h : w.rangeAt g o (rcs r)) : w.rangeAt g (o + 33) (pvs r.2) := fun j u hu => by
  have := h (33 + j) u (rcs_place hr hu)
  rwa [← Nat.add_assoc] at this
/-- A key, a place, as values. -/
abbrev kv (k : KeyT) : Value := .agg (kcs k).toArray
abbrev pv (p : Int × Int) : Value := .agg (pvs p).toArray
abbrev PlOk (p : Int × Int) : Prop := In64 p.1 ∧ In64 p.2
theorem RdS.drop {w : World} {B sz : Nat} {A : Option Addr} {rows : List (List Value)} (h : RdS w B sz A rows) {k c : Nat} (hc : rows.length ≤ c) : RdS w B sz (if c = k then A else A.map (·.add (k * sz))) (rows.drop k) := fun hn => by
  rw [List.length_drop] at hn
  obtain ⟨g, off, e, hg, hr⟩ := h (by omega)
  refine ⟨g, off + k * sz, by rw [if_neg (by omega), e]; simp [Addr.add_lit], hg, fun j hj => ?_⟩
  rw [List.length_drop] at hj
  rw [List.getElem_drop]
  have := hr (k + j) (by omega)
  rwa [show off + (k + j) * sz = off + k * sz + j * sz by rw [Nat.add_mul]; omega] at this
theorem RdRw.take {w : World} {B : Nat} {A : Option Addr} {ls : List RowT} (h : RdRw w B A ls) (k : Nat) : RdRw w B A (ls.take k) := ⟨by rw [List.map_take]; exact h.rows.take k, fun x hx => h.each x (List.mem_of_mem_take hx)⟩
theorem RdRw.drop {w : World} {B : Nat} {A : Option Addr} {ls : List RowT} (h : RdRw w B A ls) {k c : Nat} (hc : ls.length ≤ c) : RdRw w B (if c = k then A else A.map (·.add (k * 35))) (ls.drop k) := ⟨by rw [List.map_drop]; exact h.rows.drop (by simpa using hc), fun x hx => h.each x (List.mem_of_mem_drop hx)⟩
end Go.Proofs.YtoofhaoaogoomaaGreat
/- Rows (api.Row) and places (api.Place) in memory. No statement of the seat is proved here. -/
namespace Go.Proofs.YtoofhaoaogoomaaGreat
open Go.ChangeShapes Go.WideShapes Go.ChangeAt Go.RowKit Go.Deep Go.Joins
set_option linter.unusedVariables false

set_option maxRecDepth 100000 in
theorem row_fields : ∃ f0 f1 : Field, Tryz.prog.underlying 42 = some (.struct #[f0, f1]) ∧ f0.type = 29 ∧ f1.type = 40 ∧ f0.offset = 0 ∧ f1.offset = 33 ∧ Tryz.prog.cellsOf 42 = 35 ∧ Tryz.prog.cellsOf 29 = 33 ∧ Tryz.prog.cellsOf 40 = 2 := by
  refine ⟨_, _, Tryz.underlying42, ?_, ?_, ?_, ?_, ?_, ?_, ?_⟩ <;> kernel_rfl
theorem row_desc : ∃ fs, Tryz.prog.underlying 42 = some (.struct fs) := ⟨_, Tryz.underlying42⟩
theorem row_size : (Tryz.prog.info? 42).map (·.size) = some 35 := by kernel_rfl
set_option maxRecDepth 100000 in
theorem place_fields : ∃ f0 f1 : Field, Tryz.prog.underlying 40 = some (.struct #[f0, f1]) ∧ f0.type = 3 ∧ f1.type = 3 ∧ f0.offset = 0 ∧ f1.offset = 1 ∧ oneCellFields Tryz.prog #[f0, f1] = true ∧ Tryz.prog.cellsOf 40 = 2 ∧ Tryz.prog.cellsOf 3 = 1 := by
  refine ⟨_, _, Tryz.underlying40, ?_, ?_, ?_, ?_, ?_, ?_, ?_⟩ <;> kernel_rfl
theorem place_desc : ∃ fs, Tryz.prog.underlying 40 = some (.struct fs) := ⟨_, Tryz.underlying40⟩
theorem place_size : (Tryz.prog.info? 40).map (·.size) = some 2 := by kernel_rfl
section
variable {H : Type} {enc : TypeId × Value → H} {w : World} {base : Nat} {sp : Nat → Bool} {held : Bool}
set_option maxRecDepth 100000 in
theorem place_cells {fuel : Nat} {cs : List Value} {x : DataW H × List MemPlace} (h : DataW.trod enc Tryz.prog w base sp held fuel 40 cs = some x) : ∃ p : Int × Int, cs = pvs p ∧ In64 p.1 ∧ In64 p.2 := by
  obtain ⟨f0, f1, hs, e0, e1, o0, o1, _, hC, hI⟩ := place_fields
  obtain ⟨xs, n, _, _, hl, hxl, hf⟩ := DataW.trod_struct hs h
  have h0 := hf 0 f0 rfl
  have h1 := hf 1 f1 rfl
  rw [e0, o0, hI] at h0
  rw [e1, o1, hI] at h1
  have hxl2 : xs.length = 2 := hxl
  rw [List.getElem?_eq_getElem (by omega)] at h0 h1
  rw [hC] at hl
  obtain ⟨z0, c0, _, w0⟩ := DataW.trod_int Tryz.underlying3 h0
  obtain ⟨z1, c1, _, w1⟩ := DataW.trod_int Tryz.underlying3 h1
  match cs, hl with
  | [v0, v1], _ =>
    simp only [List.drop_zero, List.drop_succ_cons, List.take_succ_cons, List.take_zero, List.cons.injEq, and_true] at c0 c1
    exact ⟨(z0, z1), by rw [c0, c1], in64 w0, in64 w1⟩
set_option maxRecDepth 100000 in
theorem row_cells {fuel : Nat} {cs : List Value} {x : DataW H × List MemPlace} (h : DataW.trod enc Tryz.prog w base sp held fuel 42 cs = some x) : ∃ r : RowT, cs = rcs r ∧ r.Ok := by
  obtain ⟨f0, f1, hs, e0, e1, o0, o1, hC, hK, hP⟩ := row_fields
  obtain ⟨xs, n, _, _, hl, hxl, hf⟩ := DataW.trod_struct hs h
  have h0 := hf 0 f0 rfl
  have h1 := hf 1 f1 rfl
  rw [e0, o0, hK] at h0
  rw [e1, o1, hP] at h1
  have hxl2 : xs.length = 2 := hxl
  rw [List.getElem?_eq_getElem (by omega)] at h0 h1
  rw [hC] at hl
  obtain ⟨s, N, hk, hsl, hN⟩ := key_cells h0
  obtain ⟨p, hp, hp1, hp2⟩ := place_cells h1
  rw [List.drop_zero] at hk
  refine ⟨((s, N), p), ?_, ⟨⟨hsl, hN⟩, hp1, hp2⟩⟩
  have e : cs = cs.take 33 ++ (cs.drop 33).take 2 := by
    have : (cs.drop 33).take 2 = cs.drop 33 := List.take_of_length_le (by rw [List.length_drop]; omega)
    rw [this, List.take_append_drop]
  rw [e, hk, hp]
  rfl
end
set_option maxRecDepth 100000 in
theorem open_place {H : Type} {enc : TypeId × Value → H} {w : World} {base : Nat} {sp : Nat → Bool} {held : Bool} {v : Value} {r : Reach} {b0 : Nat} {d : DataW H} {p : List MemPlace}
    (hv : Value.okWide Tryz.prog w r b0 40 v) (h : DataW.Trod enc Tryz.prog w base sp held 40 v d p) : ∃ q : Int × Int, v = .agg (pvs q).toArray ∧ (In64 q.1 ∧ In64 q.2) := by
  obtain ⟨f0, f1, hs, _⟩ := place_fields
  obtain ⟨cs, rfl, hsz⟩ := okWide_struct hs hv
  obtain ⟨fuel, hf⟩ := h
  obtain ⟨q, hcs, h1, h2⟩ := place_cells hf
  refine ⟨q, ?_, h1, h2⟩
  have e : cs = (pvs q).toArray := by rw [← Array.toList_inj]; exact hcs
  rw [e]
end Go.Proofs.YtoofhaoaogoomaaGreat
/- Plain mathematics for package bloom: bits packed into bytes, the bits of a key. No statement of the seat is proved here; nothing of the program is imported. -/
namespace Go.Proofs.YtoofhaoaogoomaaGreat
open Go.RowKit

/-- The number whose k lowest bits those are. -/
def ofBits (f : Nat → Bool) : Nat → Nat
  | 0 => 0
  | k + 1 => 2 ^ k * (f k).toNat + ofBits f k
theorem ofBits_lt (f : Nat → Bool) (k : Nat) : ofBits f k < 2 ^ k := by
  induction k with
  | zero => simp [ofBits]
  | succ k ih =>
    have h1 : 2 ^ k * (f k).toNat ≤ 2 ^ k * 1 := Nat.mul_le_mul_left _ (Bool.toNat_le _)
    rw [ofBits, Nat.pow_succ]; omega
theorem ofBits_testBit (f : Nat → Bool) (k i : Nat) : (ofBits f k).testBit i = (decide (i < k) && f i) := by
  induction k with
  | zero => simp [ofBits]
  | succ k ih =>
    rw [ofBits, Nat.testBit_two_pow_mul_add _ (ofBits_lt f k)]
    by_cases h : i < k
    · rw [if_pos h, ih]; simp [h, Nat.lt_succ_of_lt h]
    · rw [if_neg h]
      by_cases e : i = k
      · subst e; cases f i <;> simp
      · have h2 : ¬ i < k + 1 := by omega
        have h3 : i - k ≠ 0 := by omega
        simp only [h2, decide_false, Bool.false_and]
        cases f k
        · simp
        · obtain ⟨j, hj⟩ : ∃ j, i - k = j + 1 := ⟨i - k - 1, by omega⟩
          rw [hj]; simp [Nat.testBit_succ]
/-- The byte whose bits those are. -/
def byteOf (f : Nat → Bool) : UInt8 := UInt8.ofNat (ofBits f 8)
theorem byteOf_toNat (f : Nat → Bool) : (byteOf f).toNat = ofBits f 8 := by
  have := ofBits_lt f 8
  simp only [byteOf, UInt8.toNat_ofNat']
  omega
theorem byteOf_testBit (f : Nat → Bool) (i : Nat) : (byteOf f).toNat.testBit i = (decide (i < 8) && f i) := by rw [byteOf_toNat, ofBits_testBit]
theorem u8_ext {a b : UInt8} (h : ∀ i, i < 8 → a.toNat.testBit i = b.toNat.testBit i) : a = b := by
  apply UInt8.toNat_inj.1
  apply Nat.eq_of_testBit_eq
  intro i
  by_cases hi : i < 8
  · exact h i hi
  · have h1 : a.toNat < 2 ^ i := Nat.lt_of_lt_of_le a.toNat_lt (Nat.pow_le_pow_right (by omega) (by omega))
    have h2 : b.toNat < 2 ^ i := Nat.lt_of_lt_of_le b.toNat_lt (Nat.pow_le_pow_right (by omega) (by omega))
    rw [Nat.testBit_lt_two_pow h1, Nat.testBit_lt_two_pow h2]

/-- The bits below n, as bytes. -/
def pk (n : Nat) (S : Nat → Bool) : List UInt8 := (List.range ((n + 7) / 8)).map fun j => byteOf fun i => decide (8 * j + i < n) && S (8 * j + i)
theorem pk_length (n : Nat) (S : Nat → Bool) : (pk n S).length = (n + 7) / 8 := by simp [pk]
theorem pk_get {n : Nat} {S : Nat → Bool} {j : Nat} (h : j < (pk n S).length) : (pk n S)[j] = byteOf fun i => decide (8 * j + i < n) && S (8 * j + i) := by simp [pk]
theorem pk_bit {n : Nat} {S : Nat → Bool} {j : Nat} (h : j < (pk n S).length) (i : Nat) (hi : i < 8) : (pk n S)[j].toNat.testBit i = (decide (8 * j + i < n) && S (8 * j + i)) := by
  rw [pk_get h, byteOf_testBit]; simp [hi]
theorem pk_ext {n : Nat} {S : Nat → Bool} {l : List UInt8} (hl : l.length = (n + 7) / 8) (h : ∀ j (hj : j < l.length) i, i < 8 → l[j].toNat.testBit i = (decide (8 * j + i < n) && S (8 * j + i))) : l = pk n S := by
  apply List.ext_getElem (by rw [hl, pk_length])
  intro j h1 h2
  exact u8_ext fun i hi => by rw [h j h1 i hi, pk_bit h2 i hi]
theorem pk_congr {n : Nat} {S T : Nat → Bool} (h : ∀ q, q < n → S q = T q) : pk n S = pk n T :=
  pk_ext (pk_length n S) fun j hj i hi => by
    rw [pk_bit hj i hi]
    by_cases hq : 8 * j + i < n
    · simp [hq, h _ hq]
    · simp [hq]
/-- One bit more. -/
def put1 (S : Nat → Bool) (q : Nat) : Nat → Bool := fun x => x == q || S x
def putL (S : Nat → Bool) (l : List Nat) : Nat → Bool := l.foldl put1 S
theorem putL_snoc (S : Nat → Bool) (l : List Nat) (q : Nat) : putL S (l ++ [q]) = put1 (putL S l) q := by simp [putL, List.foldl_append]
theorem putL_at (S : Nat → Bool) (l : List Nat) (x : Nat) : putL S l x = (l.contains x || S x) := by
  induction l generalizing S with
  | nil => simp [putL]
  | cons q l ih =>
    show putL (put1 S q) l x = _
    rw [ih, List.contains_cons]
    simp only [put1]
    cases (x == q) <;> cases l.contains x <;> simp
theorem or_pow_bit (a k i : Nat) : (a ||| 2 ^ k).testBit i = (a.testBit i || decide (k = i)) := by
  rw [Nat.testBit_or, Nat.testBit_two_pow]
theorem pk_put {n q : Nat} (S : Nat → Bool) (hq : q < n) (h : q / 8 < (pk n S).length) (b : UInt8) (hb : b.toNat = (pk n S)[q / 8].toNat ||| 2 ^ (q % 8)) : (pk n S).set (q / 8) b = pk n (put1 S q) :=
  pk_ext (by rw [List.length_set, pk_length]) fun j hj i hi => by
    rw [List.length_set] at hj
    rw [List.getElem_set]
    by_cases e : q / 8 = j
    · subst e
      rw [if_pos rfl, hb, or_pow_bit, pk_bit h i hi]
      by_cases e2 : q % 8 = i
      · have e3 : 8 * (q / 8) + i = q := by omega
        rw [e3, e2]
        simp [put1, hq]
      · have e3 : ¬ 8 * (q / 8) + i = q := by omega
        have e4 : (8 * (q / 8) + i == q) = false := by simpa using e3
        simp [put1, e2, e4]
    · rw [if_neg e, pk_bit hj i hi]
      have e3 : ¬ 8 * j + i = q := by omega
      have e4 : (8 * j + i == q) = false := by simpa using e3
      simp [put1, e4]
theorem pk_has {n q : Nat} (S : Nat → Bool) (hq : q < n) (h : q / 8 < (pk n S).length) : ((pk n S)[q / 8].toNat &&& 2 ^ (q % 8)) = if S q then 2 ^ (q % 8) else 0 := by
  have hb := pk_bit h (q % 8) (Nat.mod_lt _ (by omega))
  rw [show 8 * (q / 8) + q % 8 = q by omega] at hb
  simp [hq] at hb
  apply Nat.eq_of_testBit_eq
  intro i
  rw [Nat.testBit_and, Nat.testBit_two_pow]
  by_cases e : q % 8 = i
  · subst e
    rw [hb]
    cases S q <;> simp
  · cases S q <;> simp [e]
theorem pk_none (n : Nat) : pk n (fun _ => false) = List.replicate ((n + 7) / 8) 0 :=
  (pk_ext (by simp) fun j hj i hi => by simp).symm
/-- The bits of bytes. -/
def bitOf (b : List UInt8) (q : Nat) : Bool := (b.getD (q / 8) 0).toNat.testBit (q % 8)
def orS (S : Nat → Bool) (b : List UInt8) : Nat → Bool := fun q => S q || bitOf b q
/-- The first k bytes joined with those of b. -/
def orTo (l b : List UInt8) (k : Nat) : List UInt8 := (List.range l.length).map fun j => if j < k then l.getD j 0 ||| b.getD j 0 else l.getD j 0
theorem orTo_length (l b : List UInt8) (k : Nat) : (orTo l b k).length = l.length := by simp [orTo]
theorem orTo_get {l b : List UInt8} {k j : Nat} (h : j < (orTo l b k).length) : (orTo l b k)[j] = if j < k then l.getD j 0 ||| b.getD j 0 else l.getD j 0 := by simp [orTo]
theorem orTo_zero (l b : List UInt8) : orTo l b 0 = l := by
  apply List.ext_getElem (orTo_length _ _ _)
  intro j h1 h2
  rw [orTo_get h1]; simp [List.getD, List.getElem?_eq_getElem h2]
theorem orTo_next {l b : List UInt8} {k : Nat} (hk : k < (orTo l b k).length) (x : UInt8) (hx : x.toNat = (orTo l b k)[k].toNat ||| (b.getD k 0).toNat) : (orTo l b k).set k x = orTo l b (k + 1) := by
  apply List.ext_getElem (by simp [orTo_length])
  intro j h1 h2
  rw [List.getElem_set, orTo_get h2]
  by_cases e : k = j
  · subst e
    rw [if_pos rfl, if_pos (Nat.lt_succ_self k)]
    apply UInt8.toNat_inj.1
    rw [hx, orTo_get hk, if_neg (Nat.lt_irrefl k), UInt8.toNat_or]
  · rw [if_neg e, orTo_get]
    by_cases h : j < k
    · rw [if_pos h, if_pos (by omega)]
    · rw [if_neg h, if_neg (by omega)]
theorem orTo_bit {n : Nat} {S : Nat → Bool} {b : List UInt8} {k j : Nat} (hk : k = min b.length ((n + 7) / 8)) (h : j < (orTo (pk n S) b k).length) (i : Nat) (hi : i < 8) : (orTo (pk n S) b k)[j].toNat.testBit i = ((decide (8 * j + i < n) && S (8 * j + i)) || bitOf b (8 * j + i)) := by
  have hl : j < (pk n S).length := by rw [orTo_length] at h; exact h
  have e1 : (8 * j + i) / 8 = j := by omega
  have e2 : (8 * j + i) % 8 = i := by omega
  rw [orTo_get h, bitOf, e1, e2, ← pk_bit hl i hi]
  have e3 : (pk n S).getD j 0 = (pk n S)[j] := by simp [List.getD, List.getElem?_eq_getElem hl]
  rw [e3]
  split
  · rw [UInt8.toNat_or, Nat.testBit_or]
  · have : b.length ≤ j := by rw [pk_length] at hl; omega
    simp [List.getD, List.getElem?_eq_none this]
theorem pk_or0 {n : Nat} {S : Nat → Bool} {b : List UInt8} {k : Nat} (hk : k = min b.length ((n + 7) / 8)) (h0 : n % 8 = 0) : orTo (pk n S) b k = pk n (orS S b) :=
  pk_ext (by rw [orTo_length, pk_length]) fun j hj i hi => by
    have hj2 := hj
    rw [orTo_length, pk_length] at hj2
    have hlt : 8 * j + i < n := by omega
    rw [orTo_bit hk hj i hi]
    simp [hlt, orS]
theorem pk_or1 {n : Nat} {S : Nat → Bool} {b : List UInt8} {k m : Nat} (hk : k = min b.length ((n + 7) / 8)) (h0 : 0 < n % 8) (hm : m + 1 = (n + 7) / 8) (h : m < (orTo (pk n S) b k).length) (x : UInt8) (hx : x.toNat = (orTo (pk n S) b k)[m].toNat &&& (2 ^ (n % 8) - 1)) :
    (orTo (pk n S) b k).set m x = pk n (orS S b) :=
  pk_ext (by rw [List.length_set, orTo_length, pk_length]) fun j hj i hi => by
    have hj1 : j < (orTo (pk n S) b k).length := by simpa using hj
    have hj2 := hj1
    rw [orTo_length, pk_length] at hj2
    rw [List.getElem_set]
    split
    · rename_i e
      subst e
      rw [hx, Nat.testBit_and, Nat.testBit_two_pow_sub_one, orTo_bit hk h i hi]
      by_cases h3 : i < n % 8
      · have : 8 * m + i < n := by omega
        simp [h3, this, orS]
      · have : ¬ 8 * m + i < n := by omega
        simp [h3, this]
    · have hlt : 8 * j + i < n := by omega
      rw [orTo_bit hk hj1 i hi]
      simp [hlt, orS]
/-- Of a key: its bytes, and its number. -/
def keyA (s : List UInt8) (N : Nat) : Nat := (val (s.take 4) + N) % 4294967296
def keyB (s : List UInt8) : Nat := val ((s.drop 4).take 4) ||| 1
def sumAt (a b i : Nat) : Nat := (a + i * b) % 4294967296
/-- The bits of a key. -/
def spots (n p a b : Nat) : List (Fin n) := if h : 0 < n then (List.range p).map fun i => ⟨sumAt a b i % n, Nat.mod_lt _ h⟩ else []
def spotsN (n p a b : Nat) : List Nat := (spots n p a b).map (·.val)
theorem spots_nil {p a b : Nat} : spots 0 p a b = [] := rfl
theorem spots_length {n : Nat} (h : 0 < n) (p a b : Nat) : (spots n p a b).length = p := by simp [spots, h]
theorem sumAt_succ (a b i : Nat) : (sumAt a b i + b) % 4294967296 = sumAt a b (i + 1) := by
  simp only [sumAt, Nat.mod_add_mod, Nat.add_mul, Nat.one_mul]
  rw [Nat.add_assoc]
theorem sumAt_lt (a b i : Nat) : sumAt a b i < 4294967296 := Nat.mod_lt _ (by omega)
theorem sumAt_zero {a : Nat} (b : Nat) (h : a < 4294967296) : sumAt a b 0 = a := by simp [sumAt, Nat.mod_eq_of_lt h]
theorem spots_take {n : Nat} (h : 0 < n) (p a b k : Nat) (hk : k ≤ p) : (spots n p a b).take k = spots n k a b := by
  simp only [spots, h, dif_pos, ← List.map_take, List.take_range, Nat.min_eq_left hk]
theorem spots_snoc {n : Nat} (h : 0 < n) (k a b : Nat) : spots n (k + 1) a b = spots n k a b ++ [⟨sumAt a b k % n, Nat.mod_lt _ h⟩] := by
  simp [spots, h, List.range_succ]
theorem spots_pre {n : Nat} (h : 0 < n) (p a b k : Nat) (hk : k ≤ p) : spots n k a b <+: spots n p a b := by
  rw [← spots_take h p a b k hk]; exact List.take_prefix _ _
end Go.Proofs.YtoofhaoaogoomaaGreat
/- The contracts of number, cell, New, bits of package bloom. No statement of the seat is proved here. -/
namespace Go.Proofs.YtoofhaoaogoomaaGreat
set_option maxRecDepth 100000
open Go.RowKit

theorem bl_ret {k : IntKind} {a b : Int} (h : a = b) : Ending.returned (.int k a) = .returned (.int k b) := by rw [h]
theorem bl_byte : (Tryz.prog.info? 5).map (fun i => (i.zero, i.size, i.bytes)) = some (some (.int .u8 0), 1, 1) := by kernel_rfl

theorem val_take_snoc (l : List UInt8) (k : Nat) (h : k < l.length) : val (l.take (k + 1)) = val (l.take k) * 256 + l[k].toNat := by
  rw [List.take_succ_eq_append_getElem h, val_snoc]
theorem val_take_lt (l : List UInt8) (k : Nat) (h : k ≤ 3) : val (l.take k) < 16777216 := by
  refine Nat.lt_of_lt_of_le (val_lt _) ?_
  refine Nat.le_trans (Nat.pow_le_pow_right (by omega) (show (l.take k).length ≤ 3 by rw [List.length_take]; omega)) (by decide)
set_option maxHeartbeats 1000000 in
theorem number_ok (A : Option Addr) (l : List UInt8) (n c : Nat) (hl : l.length = n) (hn : n ≤ 4) (w : World) (hr : Rd w w.heap.size A l) :
    Calls Tryz.prog 78 #[.slice A n c] w fun e w' => e = .returned (.int .u32 (val l)) ∧ w = w' := by
  have HL := Lib.hid hl
  have HR := Lib.hid hr
  clear hl hr
  go_enter Tryz.func78, Tryz.ntmps78
  go_wp2
  go_loop [3, 8] (fun v i => ∃ k : Nat, k ≤ n ∧ i = .int .i64 k ∧ v = .int .u32 (val (l.take k))) (fun _ i => n - (intOf i).toNat)
  case atStart => exact ⟨0, Nat.zero_le _, rfl, rfl⟩
  case round =>
    obtain ⟨k, hk, rfl, rfl⟩ := hrel
    by_cases hlt : k < n
    · obtain ⟨g, off, hA, hg, hc⟩ := HR.out (by rw [HL.out]; omega)
      have hck := hc k (by rw [HL.out]; exact hlt)
      have hs := Lib.hid (val_take_snoc l k (by rw [HL.out]; exact hlt))
      have hb := val_take_lt l k (by omega)
      have hkl : k < l.length := by rw [HL.out]; exact hlt
      have ht := (l[k]'hkl).toNat_lt
      have hV : ∃ V, V = val (l.take k) := ⟨_, rfl⟩
      obtain ⟨V, hV⟩ := hV
      rw [← hV] at hb hs ⊢
      subst hA
      generalize hx : l[k]'hkl = x at *
      clear hc hV hx
      go_wp2
      go_round
      case rel => exact ⟨k + 1, by omega, by go_num, by
          rw [hs.out, ← shl_or V _ ht, Nat.shiftLeft_eq]
          have := u32_or_nat (V * 2 ^ 8) x.toNat (by omega) (by omega)
          rw [← this]; rfl⟩
      case measure => simp [intOf]; omega
    · obtain rfl : k = n := by omega
      go_wp2
      go_ret
      exact ⟨bl_ret (by rw [List.take_of_length_le (by rw [HL.out]; exact Nat.le_refl _)]), rfl⟩

theorem pow8_lt (q : Nat) : 2 ^ (q % 8) < 256 := Nat.pow_lt_pow_right (show 1 < 2 by omega) (show q % 8 < 8 by omega)
theorem cell_ok (g m q : Nat) (hq : q / 8 < m) (hm : m ≤ 131072) (w : World) :
    Calls Tryz.prog 56 #[.slice (some ⟨g, 0, none⟩) m m, .int .u32 q] w fun e w' => e = .returned (.tuple #[.pointer (some ⟨g, q / 8, none⟩), .int .u8 ((2 ^ (q % 8) : Nat))]) ∧ w = w' := by
  have hp2 : ((2 ^ (q % 8) : Nat) : Int) = 2 ^ (q % 8) % 256 := by
    have h := pow8_lt q
    rw [show (2 : Int) ^ (q % 8) = ((2 ^ (q % 8) : Nat) : Int) by simp]
    generalize 2 ^ (q % 8) = x at h ⊢
    omega
  go_enter Tryz.func56, Tryz.ntmps56
  go_wp2
  go_ret2
  exact ⟨by rw [hp2]; rfl, rfl⟩
theorem bits_ok (kc : Array Value) (v : Option Addr) (w : World) :
    Calls Tryz.prog 59 #[.pointer v, .agg kc] w fun e w' => e = .returned (.func (.func 77) #[] #[.pointer (some ⟨w.heap.size, 0, none⟩), .pointer (some ⟨w.heap.size + 1, 0, none⟩)]) ∧ w' = (w.alloc (.cells #[.pointer v] 70)).alloc (.cells kc 29) := by
  go_enter Tryz.func59, Tryz.ntmps59
  go_wp2
  go_ret
  exact ⟨rfl, rfl⟩
theorem new_bad (bits probes : Int) (h : bits < 0 ∨ 1048576 < bits ∨ probes < 0 ∨ 30 < probes) (w : World) :
    Calls Tryz.prog 27 #[.int .i64 bits, .int .i64 probes] w fun e w' => e = .returned (.tuple #[.pointer none, .int .i64 1]) ∧ w = w' := by
  by_cases h1 : bits < 0
  · go_enter Tryz.func27, Tryz.ntmps27
    go_wp2
    go_ret2
    exact ⟨rfl, rfl⟩
  by_cases h2 : 1048576 < bits
  · go_enter Tryz.func27, Tryz.ntmps27
    go_wp2
    go_ret2
    exact ⟨rfl, rfl⟩
  by_cases h3 : probes < 0
  · go_enter Tryz.func27, Tryz.ntmps27
    go_wp2
    go_ret2
    exact ⟨rfl, rfl⟩
  have h4 : 30 < probes := by omega
  go_enter Tryz.func27, Tryz.ntmps27
  go_wp2
  go_ret2
  exact ⟨rfl, rfl⟩
/-- In w the block v is a filter with n bits, of which those of S are 1, and p probes; its bytes lie in block g. -/
structure Vec (w : World) (v g n p : Nat) (S : Nat → Bool) : Prop where
  vb : Blk w v 96 #[.int .u32 n, .int .i64 p, .slice (some ⟨g, 0, none⟩) ((n + 7) / 8) ((n + 7) / 8), .func (.func 56) #[.slice (some ⟨g, 0, none⟩) ((n + 7) / 8) ((n + 7) / 8)] #[]]
  gb : Blk w g 5 (bv (pk n S)).toArray
  hn : n ≤ 1048576
  hp : p ≤ 30
theorem made_zero (m : Nat) : madeCells #[Value.int .u8 0] m = (bv (List.replicate m 0)).toArray := by
  rw [← Array.toList_inj, toList_madeCells_one]
  simp [bv]
section
variable {w w' : World} {v g n p : Nat} {S T : Nat → Bool}
theorem Blk.other {a b : Nat} {s t : TypeId} {cs ds : Array Value} (h : Blk w a s cs) (k : Blk w b t ds) (hne : s ≠ t) : a ≠ b := by
  rintro rfl
  unfold Blk at h k
  rw [h] at k
  injection k with k
  injection k with _ k _
  exact hne k
theorem Vec.ne (h : Vec w v g n p S) : v ≠ g := h.vb.other h.gb (by decide)
theorem Vec.congr (h : Vec w v g n p S) (he : ∀ q, q < n → S q = T q) : Vec w v g n p T := ⟨h.vb, pk_congr he ▸ h.gb, h.hn, h.hp⟩
theorem Vec.same (h : Vec w v g n p S) (h1 : w'.heap[v]? = w.heap[v]?) (h2 : w'.heap[g]? = w.heap[g]?) : Vec w' v g n p S := ⟨h.vb.same h1, h.gb.same h2, h.hn, h.hp⟩
theorem Vec.below {B : Nat} (h : Vec w v g n p S) (hb : Below B w w') (hv : v < B) (hg : g < B) : Vec w' v g n p S := h.same (hb.block v hv) (hb.block g hg)
theorem Vec.on (h : Vec w v g n p S) (hb : Below w.heap.size w w') : Vec w' v g n p S := h.below hb h.vb.lt h.gb.lt
theorem Vec.cells (h : Vec w v g n p S) : w.cell? ⟨v, 0, none⟩ = some (.int .u32 n) ∧ w.cell? ⟨v, 1, none⟩ = some (.int .i64 p) ∧ w.cell? ⟨v, 2, none⟩ = some (.slice (some ⟨g, 0, none⟩) ((n + 7) / 8) ((n + 7) / 8)) ∧
    w.cell? ⟨v, 3, none⟩ = some (.func (.func 56) #[.slice (some ⟨g, 0, none⟩) ((n + 7) / 8) ((n + 7) / 8)] #[]) := ⟨h.vb.cell 0, h.vb.cell 1, h.vb.cell 2, h.vb.cell 3⟩
theorem Vec.byte (h : Vec w v g n p S) {j : Nat} (hj : j < (pk n S).length) : w.cell? ⟨g, j, none⟩ = some (.int .u8 (pk n S)[j].toNat) := by
  rw [h.gb.cell, List.getElem?_toArray, bv_get hj]
end
theorem new_ok (n p : Nat) (hn : n ≤ 1048576) (hp : p ≤ 30) (w : World) :
    Calls Tryz.prog 27 #[.int .i64 n, .int .i64 p] w fun e w' => ∃ v g, e = .returned (.tuple #[.pointer (some ⟨v, 0, none⟩), .int .i64 0]) ∧ w.heap.size ≤ v ∧ w.heap.size ≤ g ∧ Vec w' v g n p (fun _ => false) ∧ Below w.heap.size w w' := by
  obtain ⟨i0, hi, hz0, hz1, hz2⟩ := info_parts bl_byte
  obtain ⟨m, hm⟩ : ∃ m, (n + 7) / 8 = m := ⟨_, rfl⟩
  have hmi : ((n : Int) + 7) / 8 = (m : Int) := by omega
  have hmk := run_make (P := Tryz.prog) w 93 5 i0 (.int .u8 0) Tryz.underlying93 hi hz0 .i64 .i64 (m : Int) (m : Int) (by omega) (by omega) (by rw [hz2]; omega) (by omega)
  have HM := Lib.hid hm
  clear hm
  go_enter Tryz.func27, Tryz.ntmps27
  go_wp2
  go_ret2
  have hb1 := (Below.refl w.heap.size w).alloc (Nat.le_refl _) (.cells (madeCells #[Value.int .u8 0] m) 5)
  have hgb := Blk.new w 5 (madeCells #[Value.int .u8 0] m)
  rw [made_zero] at hb1 hgb ⊢
  refine ⟨w.heap.size + 1, w.heap.size, rfl, by omega, Nat.le_refl _, ⟨?_, ?_, hn, hp⟩, ?_⟩
  · rw [HM.out]
    exact blk_at _ _ _ (by simp)
  · rw [pk_none, HM.out]
    exact hgb.below (B := w.heap.size + 1) ((Below.refl _ _).alloc (by rw [World.size_alloc]; exact Nat.le_refl _) _) (by omega)
  · exact hb1.alloc hb1.size _
end Go.Proofs.YtoofhaoaogoomaaGreat
