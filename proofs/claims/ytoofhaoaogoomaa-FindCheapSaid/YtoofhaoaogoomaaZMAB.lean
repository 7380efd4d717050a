/- Plain mathematics for package find: a cache that holds what the index has on its shelves. No statement of the seat is proved here; nothing of the program is imported. -/
import Derived.Test.YtoofhaoaogoomaaZMAA
namespace Go.Proofs.Ytoofhaoaogoomaa
set_option linter.unusedVariables false

theorem hasX_row {L : List RowT} {k : List UInt8 × Nat} : hasX L k = true ↔ ∃ r ∈ L, r.1 = k := by
  unfold hasX
  rw [List.any_eq_true]
  simp
/-- What lies in the cache is what the index has on that shelf. -/
def Coh (L : List RowT) (C : CS) : Prop := ∀ x ∈ C.t, x.2 = shelfX L x.1
theorem Coh.new (L : List RowT) (n : Nat) : Coh L ⟨n, []⟩ := fun x hx => by cases hx
theorem Coh.load {L : List RowT} {C : CS} (h : Coh L C) (s : Int) (d : Nat) : Coh L (loadC C s (shelfX L s) d) := by
  unfold loadC
  split
  · exact h
  · intro x hx
    rcases List.mem_append.1 hx with hx | hx
    · refine h x ?_
      split at hx
      · exact (List.eraseIdx_sublist _ _).subset hx
      · exact hx
    · rw [List.mem_singleton.1 hx]
theorem Coh.off {L L' : List RowT} {C : CS} (h : Coh L C) {s : Int} (hs : ∀ t, t ≠ s → shelfX L' t = shelfX L t) : Coh L' (dropC C s) := fun x hx => by
  obtain ⟨h1, h2⟩ := List.mem_filter.1 hx
  rw [h x h1, hs x.1 (by simpa using h2)]
theorem Coh.sub {L : List RowT} {C : CS} (h : Coh L C) (s : Int) : Coh L (dropC C s) := h.off fun _ _ => rfl
theorem Coh.get {L : List RowT} {C : CS} (h : Coh L C) (hr : Rise L) {k : List UInt8 × Nat} (hk : knowsC C k = true) : hasX L k = true ∧ getC C k = getX L k := by
  unfold knowsC at hk
  obtain ⟨r, hf⟩ := Option.isSome_iff_exists.1 hk
  have hg : getC C k = r.2 := by unfold getC; rw [hf]
  unfold findC at hf
  obtain ⟨x, hx, h2⟩ := List.exists_of_findSome?_eq_some hf
  have h3 := List.mem_of_find?_eq_some h2
  have h4 : r.1 = k := by simpa using List.find?_some h2
  rw [h x hx] at h3
  have h5 := (mem_shelfX.1 h3).1
  refine ⟨hasX_row.2 ⟨r, h5, h4⟩, ?_⟩
  rw [hg, ← h4, get_mem hr h5]
theorem filter_put {L : List RowT} (h : RowsOk L) {k : List UInt8 × Nat} (hk : KeyOk k) (p : Int × Int) {s : Int} (h1 : s ≠ p.1) (h2 : hasX L k = true → s ≠ (getX L k).1) :
    (putX L k p).filter (fun r => decide (r.2.1 = s)) = L.filter fun r => decide (r.2.1 = s) := by
  have e0 : ¬ decide (p.1 = s) = true := by simp; exact fun e => h1 e.symm
  rcases rise_split h.rise hk h.key with ⟨_, e⟩ | ⟨q, a, b, e⟩
  · conv => rhs; rw [e]
    unfold putX
    rw [List.filter_append, List.filter_append, List.filter_cons, if_neg e0]
  · have e1 : ¬ decide (q.1 = s) = true := by have := h2 a; rw [b] at this; simp; exact fun e => this e.symm
    conv => rhs; rw [e]
    unfold putX
    rw [List.filter_append, List.filter_append, List.filter_cons, List.filter_cons, if_neg e0, if_neg e1]
theorem filter_drop {L : List RowT} (h : RowsOk L) {k : List UInt8 × Nat} (hk : KeyOk k) {s : Int} (h2 : hasX L k = true → s ≠ (getX L k).1) :
    (dropX L k).filter (fun r => decide (r.2.1 = s)) = L.filter fun r => decide (r.2.1 = s) := by
  rcases rise_split h.rise hk h.key with ⟨_, e⟩ | ⟨q, a, b, e⟩
  · unfold dropX
    rw [← e]
  · have e1 : ¬ decide (q.1 = s) = true := by have := h2 a; rw [b] at this; simp; exact fun e => this e.symm
    conv => rhs; rw [e]
    unfold dropX
    rw [List.filter_append, List.filter_append, List.filter_cons, if_neg e1]
/-- The shelf on which a key lies goes out of the cache. -/
def forgetF (L : List RowT) (C : CS) (k : List UInt8 × Nat) : CS := if hasX L k = true then dropC C (getX L k).1 else C
theorem forget_t {L : List RowT} {C : CS} {k : List UInt8 × Nat} {x : Int × List RowT} (hx : x ∈ (forgetF L C k).t) : x ∈ C.t ∧ (hasX L k = true → x.1 ≠ (getX L k).1) := by
  unfold forgetF at hx
  split at hx
  · obtain ⟨h1, h2⟩ := List.mem_filter.1 hx
    exact ⟨h1, fun _ => by simpa using h2⟩
  · rename_i hn
    exact ⟨hx, fun h => absurd h hn⟩
theorem Coh.put {L : List RowT} {C : CS} (h : Coh L C) (hL : RowsOk L) {k : List UInt8 × Nat} (hk : KeyOk k) (p : Int × Int) : Coh (putX L k p) (dropC (forgetF L C k) p.1) := fun x hx => by
  obtain ⟨h1, h2⟩ := List.mem_filter.1 hx
  obtain ⟨h3, h4⟩ := forget_t h1
  rw [h x h3]
  unfold shelfX
  rw [filter_put hL hk p (by simpa using h2) h4]
theorem Coh.drop {L : List RowT} {C : CS} (h : Coh L C) (hL : RowsOk L) {k : List UInt8 × Nat} (hk : KeyOk k) : Coh (dropX L k) (forgetF L C k) := fun x hx => by
  obtain ⟨h3, h4⟩ := forget_t hx
  rw [h x h3]
  unfold shelfX
  rw [filter_drop hL hk h4]
theorem forget_room (L : List RowT) (C : CS) (k : List UInt8 × Nat) : (forgetF L C k).room = C.room := by
  unfold forgetF
  split <;> rfl
/-- What a search answers: the cache's answer, the index's, or none. -/
def foundF (may : Bool) (C : CS) (L : List RowT) (k : List UInt8 × Nat) : (Int × Int) × Bool :=
  if may = false then ((0, 0), false) else if knowsC C k = true then (getC C k, true) else (getX L k, hasX L k)
theorem getX_no {L : List RowT} {k : List UInt8 × Nat} (h : hasX L k = false) : getX L k = (0, 0) := by
  unfold getX
  rw [List.find?_eq_none.2 fun r hr => by
    intro e
    rw [Bool.eq_false_iff] at h
    exact h (hasX_row.2 ⟨r, hr, by simpa using e⟩)]
/-- A search answers what the index has, where the summary has its keys and the cache is right. -/
theorem found_get {may : Bool} {C : CS} {L : List RowT} {k : List UInt8 × Nat} (hm : hasX L k = true → may = true) (h : Coh L C) (hr : Rise L) : foundF may C L k = (getX L k, hasX L k) := by
  unfold foundF
  split
  · rename_i hf
    have hn : hasX L k = false := by
      rw [Bool.eq_false_iff]
      intro e
      rw [hm e] at hf
      cases hf
    rw [getX_no hn, hn]
  · split
    · rename_i hk
      obtain ⟨h1, h2⟩ := h.get hr hk
      rw [h1, h2]
    · rfl
/-- Of a shelf that was just loaded into an empty cache all is known. -/
theorem load_knows {L : List RowT} {n d : Nat} (hn : n ≠ 0) {r : RowT} (hr : r ∈ L) : knowsC (loadC ⟨n, []⟩ r.2.1 (shelfX L r.2.1) d) r.1 = true := by
  rw [loadC_new (S := ⟨n, []⟩) hn rfl, if_neg (by simpa using Ne.symm hn)]
  unfold knowsC findC
  rw [List.nil_append, List.findSome?_cons]
  have : ((shelfX L r.2.1).find? fun x => decide (x.1 = r.1)).isSome = true := by
    rw [List.find?_isSome]
    exact ⟨r, mem_shelfX.2 ⟨hr, rfl⟩, by simp⟩
  obtain ⟨y, hy⟩ := Option.isSome_iff_exists.1 this
  simp only [hy]
  rfl
end Go.Proofs.Ytoofhaoaogoomaa
/- Plain mathematics for package bloom: bits packed into bytes, the bits of a key. No statement of the seat is proved here; nothing of the program is imported. -/
namespace Go.Proofs.Ytoofhaoaogoomaa
open Go.RowKit

/-- The number whose k lowest bits those are. -/
def ofBits (f : Nat → Bool) : Nat → Nat
  | 0 => 0
  | k + 1 => 2 ^ k * (f k).toNat + ofBits f k
theorem ofBits_lt (f : Nat → Bool) (k : Nat) : ofBits f k < 2 ^ k := by
  induction k with
  | zero => simp [ofBits]
  | succ k ih =>
    have h1 : 2 ^ k * (f k).toNat ≤ 2 ^ k * 1 := Nat.mul_le_mul_left _ (Bool.toNat_le _)
    rw [ofBits, Nat.pow_succ]; omega
theorem ofBits_testBit (f : Nat → Bool) (k i : Nat) : (ofBits f k).testBit i = (decide (i < k) && f i) := by
  induction k with
  | zero => simp [ofBits]
  | succ k ih =>
    rw [ofBits, Nat.testBit_two_pow_mul_add _ (ofBits_lt f k)]
    by_cases h : i < k
    · rw [if_pos h, ih]; simp [h, Nat.lt_succ_of_lt h]
    · rw [if_neg h]
      by_cases e : i = k
      · subst e; cases f i <;> simp
      · have h2 : ¬ i < k + 1 := by omega
        have h3 : i - k ≠ 0 := by omega
        simp only [h2, decide_false, Bool.false_and]
        cases f k
        · simp
        · obtain ⟨j, hj⟩ : ∃ j, i - k = j + 1 := ⟨i - k - 1, by omega⟩
          rw [hj]; simp [Nat.testBit_succ]
/-- The byte whose bits those are. -/
def byteOf (f : Nat → Bool) : UInt8 := UInt8.ofNat (ofBits f 8)
theorem byteOf_toNat (f : Nat → Bool) : (byteOf f).toNat = ofBits f 8 := by
  have := ofBits_lt f 8
  simp only [byteOf, UInt8.toNat_ofNat']
  omega
theorem byteOf_testBit (f : Nat → Bool) (i : Nat) : (byteOf f).toNat.testBit i = (decide (i < 8) && f i) := by rw [byteOf_toNat, ofBits_testBit]
theorem u8_ext {a b : UInt8} (h : ∀ i, i < 8 → a.toNat.testBit i = b.toNat.testBit i) : a = b := by
  apply UInt8.toNat_inj.1
  apply Nat.eq_of_testBit_eq
  intro i
  by_cases hi : i < 8
  · exact h i hi
  · have h1 : a.toNat < 2 ^ i := Nat.lt_of_lt_of_le a.toNat_lt (Nat.pow_le_pow_right (by omega) (by omega))
    have h2 : b.toNat < 2 ^ i := Nat.lt_of_lt_of_le b.toNat_lt (Nat.pow_le_pow_right (by omega) (by omega))
    rw [Nat.testBit_lt_two_pow h1, Nat.testBit_lt_two_pow h2]

/-- The bits below n, as bytes. -/
def pk (n : Nat) (S : Nat → Bool) : List UInt8 := (List.range ((n + 7) / 8)).map fun j => byteOf fun i => decide (8 * j + i < n) && S (8 * j + i)
theorem pk_length (n : Nat) (S : Nat → Bool) : (pk n S).length = (n + 7) / 8 := by simp [pk]
theorem pk_get {n : Nat} {S : Nat → Bool} {j : Nat} (h : j < (pk n S).length) : (pk n S)[j] = byteOf fun i => decide (8 * j + i < n) && S (8 * j + i) := by simp [pk]
theorem pk_bit {n : Nat} {S : Nat → Bool} {j : Nat} (h : j < (pk n S).length) (i : Nat) (hi : i < 8) : (pk n S)[j].toNat.testBit i = (decide (8 * j + i < n) && S (8 * j + i)) := by
  rw [pk_get h, byteOf_testBit]; simp [hi]
theorem pk_ext {n : Nat} {S : Nat → Bool} {l : List UInt8} (hl : l.length = (n + 7) / 8) (h : ∀ j (hj : j < l.length) i, i < 8 → l[j].toNat.testBit i = (decide (8 * j + i < n) && S (8 * j + i))) : l = pk n S := by
  apply List.ext_getElem (by rw [hl, pk_length])
  intro j h1 h2
  exact u8_ext fun i hi => by rw [h j h1 i hi, pk_bit h2 i hi]
theorem pk_congr {n : Nat} {S T : Nat → Bool} (h : ∀ q, q < n → S q = T q) : pk n S = pk n T :=
  pk_ext (pk_length n S) fun j hj i hi => by
    rw [pk_bit hj i hi]
    by_cases hq : 8 * j + i < n
    · simp [hq, h _ hq]
    · simp [hq]
/-- One bit more. -/
def put1 (S : Nat → Bool) (q : Nat) : Nat → Bool := fun x => x == q || S x
def putL (S : Nat → Bool) (l : List Nat) : Nat → Bool := l.foldl put1 S
theorem putL_snoc (S : Nat → Bool) (l : List Nat) (q : Nat) : putL S (l ++ [q]) = put1 (putL S l) q := by simp [putL, List.foldl_append]
theorem putL_at (S : Nat → Bool) (l : List Nat) (x : Nat) : putL S l x = (l.contains x || S x) := by
  induction l generalizing S with
  | nil => simp [putL]
  | cons q l ih =>
    show putL (put1 S q) l x = _
    rw [ih, List.contains_cons]
    simp only [put1]
    cases (x == q) <;> cases l.contains x <;> simp
theorem or_pow_bit (a k i : Nat) : (a ||| 2 ^ k).testBit i = (a.testBit i || decide (k = i)) := by
  rw [Nat.testBit_or, Nat.testBit_two_pow]
theorem pk_put {n q : Nat} (S : Nat → Bool) (hq : q < n) (h : q / 8 < (pk n S).length) (b : UInt8) (hb : b.toNat = (pk n S)[q / 8].toNat ||| 2 ^ (q % 8)) : (pk n S).set (q / 8) b = pk n (put1 S q) :=
  pk_ext (by rw [List.length_set, pk_length]) fun j hj i hi => by
    rw [List.length_set] at hj
    rw [List.getElem_set]
    by_cases e : q / 8 = j
    · subst e
      rw [if_pos rfl, hb, or_pow_bit, pk_bit h i hi]
      by_cases e2 : q % 8 = i
      · have e3 : 8 * (q / 8) + i = q := by omega
        rw [e3, e2]
        simp [put1, hq]
      · have e3 : ¬ 8 * (q / 8) + i = q := by omega
        have e4 : (8 * (q / 8) + i == q) = false := by simpa using e3
        simp [put1, e2, e4]
    · rw [if_neg e, pk_bit hj i hi]
      have e3 : ¬ 8 * j + i = q := by omega
      have e4 : (8 * j + i == q) = false := by simpa using e3
      simp [put1, e4]
theorem pk_has {n q : Nat} (S : Nat → Bool) (hq : q < n) (h : q / 8 < (pk n S).length) : ((pk n S)[q / 8].toNat &&& 2 ^ (q % 8)) = if S q then 2 ^ (q % 8) else 0 := by
  have hb := pk_bit h (q % 8) (Nat.mod_lt _ (by omega))
  rw [show 8 * (q / 8) + q % 8 = q by omega] at hb
  simp [hq] at hb
  apply Nat.eq_of_testBit_eq
  intro i
  rw [Nat.testBit_and, Nat.testBit_two_pow]
  by_cases e : q % 8 = i
  · subst e
    rw [hb]
    cases S q <;> simp
  · cases S q <;> simp [e]
theorem pk_none (n : Nat) : pk n (fun _ => false) = List.replicate ((n + 7) / 8) 0 :=
  (pk_ext (by simp) fun j hj i hi => by simp).symm
/-- The bits of bytes. -/
def bitOf (b : List UInt8) (q : Nat) : Bool := (b.getD (q / 8) 0).toNat.testBit (q % 8)
def orS (S : Nat → Bool) (b : List UInt8) : Nat → Bool := fun q => S q || bitOf b q
/-- The first k bytes joined with those of b. -/
def orTo (l b : List UInt8) (k : Nat) : List UInt8 := (List.range l.length).map fun j => if j < k then l.getD j 0 ||| b.getD j 0 else l.getD j 0
theorem orTo_length (l b : List UInt8) (k : Nat) : (orTo l b k).length = l.length := by simp [orTo]
theorem orTo_get {l b : List UInt8} {k j : Nat} (h : j < (orTo l b k).length) : (orTo l b k)[j] = if j < k then l.getD j 0 ||| b.getD j 0 else l.getD j 0 := by simp [orTo]
theorem orTo_zero (l b : List UInt8) : orTo l b 0 = l := by
  apply List.ext_getElem (orTo_length _ _ _)
  intro j h1 h2
  rw [orTo_get h1]; simp [List.getD, List.getElem?_eq_getElem h2]
theorem orTo_next {l b : List UInt8} {k : Nat} (hk : k < (orTo l b k).length) (x : UInt8) (hx : x.toNat = (orTo l b k)[k].toNat ||| (b.getD k 0).toNat) : (orTo l b k).set k x = orTo l b (k + 1) := by
  apply List.ext_getElem (by simp [orTo_length])
  intro j h1 h2
  rw [List.getElem_set, orTo_get h2]
  by_cases e : k = j
  · subst e
    rw [if_pos rfl, if_pos (Nat.lt_succ_self k)]
    apply UInt8.toNat_inj.1
    rw [hx, orTo_get hk, if_neg (Nat.lt_irrefl k), UInt8.toNat_or]
  · rw [if_neg e, orTo_get]
    by_cases h : j < k
    · rw [if_pos h, if_pos (by omega)]
    · rw [if_neg h, if_neg (by omega)]
theorem orTo_bit {n : Nat} {S : Nat → Bool} {b : List UInt8} {k j : Nat} (hk : k = min b.length ((n + 7) / 8)) (h : j < (orTo (pk n S) b k).length) (i : Nat) (hi : i < 8) : (orTo (pk n S) b k)[j].toNat.testBit i = ((decide (8 * j + i < n) && S (8 * j + i)) || bitOf b (8 * j + i)) := by
  have hl : j < (pk n S).length := by rw [orTo_length] at h; exact h
  have e1 : (8 * j + i) / 8 = j := by omega
  have e2 : (8 * j + i) % 8 = i := by omega
  rw [orTo_get h, bitOf, e1, e2, ← pk_bit hl i hi]
  have e3 : (pk n S).getD j 0 = (pk n S)[j] := by simp [List.getD, List.getElem?_eq_getElem hl]
  rw [e3]
  split
  · rw [UInt8.toNat_or, Nat.testBit_or]
  · have : b.length ≤ j := by rw [pk_length] at hl; omega
    simp [List.getD, List.getElem?_eq_none this]
theorem pk_or0 {n : Nat} {S : Nat → Bool} {b : List UInt8} {k : Nat} (hk : k = min b.length ((n + 7) / 8)) (h0 : n % 8 = 0) : orTo (pk n S) b k = pk n (orS S b) :=
  pk_ext (by rw [orTo_length, pk_length]) fun j hj i hi => by
    have hj2 := hj
    rw [orTo_length, pk_length] at hj2
    have hlt : 8 * j + i < n := by omega
    rw [orTo_bit hk hj i hi]
    simp [hlt, orS]
theorem pk_or1 {n : Nat} {S : Nat → Bool} {b : List UInt8} {k m : Nat} (hk : k = min b.length ((n + 7) / 8)) (h0 : 0 < n % 8) (hm : m + 1 = (n + 7) / 8) (h : m < (orTo (pk n S) b k).length) (x : UInt8) (hx : x.toNat = (orTo (pk n S) b k)[m].toNat &&& (2 ^ (n % 8) - 1)) :
    (orTo (pk n S) b k).set m x = pk n (orS S b) :=
  pk_ext (by rw [List.length_set, orTo_length, pk_length]) fun j hj i hi => by
    have hj1 : j < (orTo (pk n S) b k).length := by simpa using hj
    have hj2 := hj1
    rw [orTo_length, pk_length] at hj2
    rw [List.getElem_set]
    split
    · rename_i e
      subst e
      rw [hx, Nat.testBit_and, Nat.testBit_two_pow_sub_one, orTo_bit hk h i hi]
      by_cases h3 : i < n % 8
      · have : 8 * m + i < n := by omega
        simp [h3, this, orS]
      · have : ¬ 8 * m + i < n := by omega
        simp [h3, this]
    · have hlt : 8 * j + i < n := by omega
      rw [orTo_bit hk hj1 i hi]
      simp [hlt, orS]
/-- Of a key: its bytes, and its number. -/
def keyA (s : List UInt8) (N : Nat) : Nat := (val (s.take 4) + N) % 4294967296
def keyB (s : List UInt8) : Nat := val ((s.drop 4).take 4) ||| 1
def sumAt (a b i : Nat) : Nat := (a + i * b) % 4294967296
/-- The bits of a key. -/
def spots (n p a b : Nat) : List (Fin n) := if h : 0 < n then (List.range p).map fun i => ⟨sumAt a b i % n, Nat.mod_lt _ h⟩ else []
def spotsN (n p a b : Nat) : List Nat := (spots n p a b).map (·.val)
theorem spots_nil {p a b : Nat} : spots 0 p a b = [] := rfl
theorem spots_length {n : Nat} (h : 0 < n) (p a b : Nat) : (spots n p a b).length = p := by simp [spots, h]
theorem sumAt_succ (a b i : Nat) : (sumAt a b i + b) % 4294967296 = sumAt a b (i + 1) := by
  simp only [sumAt, Nat.mod_add_mod, Nat.add_mul, Nat.one_mul]
  rw [Nat.add_assoc]
theorem sumAt_lt (a b i : Nat) : sumAt a b i < 4294967296 := Nat.mod_lt _ (by omega)
theorem sumAt_zero {a : Nat} (b : Nat) (h : a < 4294967296) : sumAt a b 0 = a := by simp [sumAt, Nat.mod_eq_of_lt h]
theorem spots_take {n : Nat} (h : 0 < n) (p a b k : Nat) (hk : k ≤ p) : (spots n p a b).take k = spots n k a b := by
  simp only [spots, h, dif_pos, ← List.map_take, List.take_range, Nat.min_eq_left hk]
theorem spots_snoc {n : Nat} (h : 0 < n) (k a b : Nat) : spots n (k + 1) a b = spots n k a b ++ [⟨sumAt a b k % n, Nat.mod_lt _ h⟩] := by
  simp [spots, h, List.range_succ]
theorem spots_pre {n : Nat} (h : 0 < n) (p a b k : Nat) (hk : k ≤ p) : spots n k a b <+: spots n p a b := by
  rw [← spots_take h p a b k hk]; exact List.take_prefix _ _
end Go.Proofs.Ytoofhaoaogoomaa
/- Plain mathematics for package find: a finder as numbers, a summary, a cache and rows. No statement of the seat is proved here; nothing of the program is imported. -/
namespace Go.Proofs.Ytoofhaoaogoomaa
set_option linter.unusedVariables false

/-- A filter as numbers and bits. -/
structure BS where
  n : Nat
  p : Nat
  S : Nat → Bool
structure FS where
  n : Nat
  p : Nat
  S : Nat → Bool
  C : CS
  L : List RowT
  asked : Nat
  loads : Nat
def newF (n p room : Nat) : FS := ⟨n, p, fun _ => false, ⟨room, []⟩, [], 0, 0⟩
def spotsK (n p : Nat) (k : List UInt8 × Nat) : List Nat := spotsN n p (keyA k.1 k.2) (keyB k.1)
def mayF (f : FS) (k : List UInt8 × Nat) : Bool := (spotsK f.n f.p k).all f.S
def putF (f : FS) (k : List UInt8 × Nat) (q : Int × Int) : FS := ⟨f.n, f.p, putL f.S (spotsK f.n f.p k), dropC (forgetF f.L f.C k) q.1, putX f.L k q, f.asked, f.loads⟩
def dropF (f : FS) (k : List UInt8 × Nat) : FS := ⟨f.n, f.p, f.S, forgetF f.L f.C k, dropX f.L k, f.asked, f.loads⟩
/-- Behind a search. -/
def nextF (f : FS) (k : List UInt8 × Nat) (d : Nat) : FS :=
  if mayF f k = false then f else if knowsC f.C k = true then f
  else if hasX f.L k = true then ⟨f.n, f.p, f.S, loadC f.C (getX f.L k).1 (shelfX f.L (getX f.L k).1) d, f.L, f.asked + 1, f.loads + 1⟩
  else ⟨f.n, f.p, f.S, f.C, f.L, f.asked + 1, f.loads⟩
def answerF (f : FS) (k : List UInt8 × Nat) : (Int × Int) × Bool := foundF (mayF f k) f.C f.L k
def allS (n p : Nat) (L : List RowT) (S : Nat → Bool) : Nat → Bool := L.foldl (fun S r => putL S (spotsK n p r.1)) S
def anewF (f : FS) : FS := ⟨f.n, f.p, allS f.n f.p f.L fun _ => false, f.C, f.L, f.asked, f.loads⟩
def blurF (f : FS) (b : List UInt8) : FS := ⟨f.n, f.p, orS f.S b, f.C, f.L, f.asked, f.loads⟩
structure FS.Ok (f : FS) : Prop where
  may : ∀ r ∈ f.L, mayF f r.1 = true
  coh : Coh f.L f.C
  rows : RowsOk f.L
  cache : f.C.Ok
theorem may_iff {f : FS} {k : List UInt8 × Nat} : mayF f k = true ↔ ∀ x ∈ spotsK f.n f.p k, f.S x = true := by
  unfold mayF
  rw [List.all_eq_true]
theorem putL_keep {S : Nat → Bool} {l : List Nat} {x : Nat} (h : S x = true) : putL S l x = true := by rw [putL_at, h, Bool.or_true]
theorem putL_in {S : Nat → Bool} {l : List Nat} {x : Nat} (h : x ∈ l) : putL S l x = true := by rw [putL_at, List.contains_iff_mem.2 h, Bool.true_or]
theorem allS_keep {n p : Nat} : ∀ (L : List RowT) {S : Nat → Bool} {x : Nat}, S x = true → allS n p L S x = true
  | [], S, x, h => h
  | r :: L, S, x, h => allS_keep L (S := putL S (spotsK n p r.1)) (putL_keep h)
theorem allS_in {n p : Nat} : ∀ (L : List RowT) {S : Nat → Bool} {x : Nat} {r : RowT}, r ∈ L → x ∈ spotsK n p r.1 → allS n p L S x = true
  | r' :: L, S, x, r, h, hx => by
    rcases List.mem_cons.1 h with rfl | h
    · exact allS_keep L (S := putL S (spotsK n p r.1)) (putL_in hx)
    · exact allS_in L (S := putL S (spotsK n p r'.1)) h hx
theorem mem_putX' {L : List RowT} {k : List UInt8 × Nat} {q : Int × Int} {r : RowT} (h : r ∈ putX L k q) : r ∈ L ∨ r = (k, q) := by
  rcases List.mem_append.1 h with h | h
  · exact .inl (mem_under.1 h).1
  · rcases List.mem_cons.1 h with h | h
    · exact .inr h
    · exact .inl (mem_over.1 h).1
theorem mem_dropX' {L : List RowT} {k : List UInt8 × Nat} {r : RowT} (h : r ∈ dropX L k) : r ∈ L := by
  rcases List.mem_append.1 h with h | h
  · exact (mem_under.1 h).1
  · exact (mem_over.1 h).1
theorem length_dropX' (L : List RowT) (k : List UInt8 × Nat) : (dropX L k).length ≤ L.length := by
  have h : ∀ M : List RowT, (under M k).length + (over M k).length ≤ M.length := fun M => by
    induction M with
    | nil => exact Nat.le_refl _
    | cons r M ih =>
      unfold under over at ih ⊢
      rw [List.filter_cons, List.filter_cons]
      split <;> split <;> simp_all <;> omega
  unfold dropX
  rw [List.length_append]
  exact h L
theorem length_putX' (L : List RowT) (k : List UInt8 × Nat) (q : Int × Int) : (putX L k q).length ≤ L.length + 1 := by
  have h := length_dropX' L k
  unfold putX
  unfold dropX at h
  rw [List.length_append] at h ⊢
  simp only [List.length_cons]
  omega
theorem FS.Ok.new {n p room : Nat} (h : room ≤ 4096) : (newF n p room).Ok := ⟨fun r hr => (by cases hr), Coh.new _ _, ⟨List.Pairwise.nil, fun r hr => (by cases hr), fun r hr => (by cases hr)⟩, CS.Ok.new h⟩
theorem forget_ok {L : List RowT} {C : CS} (h : C.Ok) (k : List UInt8 × Nat) : (forgetF L C k).Ok := by
  unfold forgetF
  split
  · exact h.drop _
  · exact h
theorem FS.Ok.put {f : FS} (h : f.Ok) {k : List UInt8 × Nat} (hk : KeyOk k) {q : Int × Int} (hq : (-9223372036854775808 ≤ q.1 ∧ q.1 ≤ 9223372036854775807) ∧ (-9223372036854775808 ≤ q.2 ∧ q.2 ≤ 9223372036854775807)) : (putF f k q).Ok := by
  refine ⟨fun r hr => ?_, h.coh.put h.rows hk q, h.rows.put hk hq, (forget_ok h.cache k).drop _⟩
  rw [may_iff]
  intro x hx
  rcases mem_putX' hr with hr | rfl
  · exact putL_keep (may_iff.1 (h.may r hr) x hx)
  · exact putL_in hx
theorem FS.Ok.drop {f : FS} (h : f.Ok) {k : List UInt8 × Nat} (hk : KeyOk k) : (dropF f k).Ok :=
  ⟨fun r hr => may_iff.2 (may_iff.1 (h.may r (mem_dropX' hr))), h.coh.drop h.rows hk, h.rows.drop k, forget_ok h.cache k⟩
theorem FS.Ok.anew {f : FS} (h : f.Ok) : (anewF f).Ok := ⟨fun r hr => may_iff.2 fun x hx => allS_in f.L hr hx, h.coh, h.rows, h.cache⟩
theorem FS.Ok.blur {f : FS} (h : f.Ok) (b : List UInt8) : (blurF f b).Ok := ⟨fun r hr => may_iff.2 fun x hx => by
  have := may_iff.1 (h.may r hr) x hx
  show orS f.S b x = true
  unfold orS
  rw [this, Bool.true_or], h.coh, h.rows, h.cache⟩
theorem answer_get {f : FS} (h : f.Ok) (k : List UInt8 × Nat) : answerF f k = (getX f.L k, hasX f.L k) := by
  refine found_get (fun hx => ?_) h.coh h.rows.rise
  obtain ⟨r, hr, rfl⟩ := hasX_row.1 hx
  exact h.may r hr
theorem next_L (f : FS) (k : List UInt8 × Nat) (d : Nat) : (nextF f k d).L = f.L := by
  unfold nextF
  split
  · rfl
  · split
    · rfl
    · split <;> rfl
theorem get_in {L : List RowT} {k : List UInt8 × Nat} (hr : Rise L) (h : hasX L k = true) : (k, getX L k) ∈ L := by
  obtain ⟨r, hm, rfl⟩ := hasX_row.1 h
  rw [get_mem hr hm]
  exact hm
theorem rowok_of {L : List RowT} (h : RowsOk L) {r : RowT} (hr : r ∈ L) : RowOkC r := ⟨h.key r hr, (h.place r hr).1, (h.place r hr).2⟩
theorem FS.Ok.next {f : FS} (h : f.Ok) (hl : f.L.length ≤ 1000) (k : List UInt8 × Nat) (d : Nat) : (nextF f k d).Ok := by
  unfold nextF
  split
  · exact h
  · split
    · exact h
    · split
      · rename_i hx
        have hm := get_in h.rows.rise hx
        refine ⟨fun r hr => may_iff.2 (may_iff.1 (h.may r hr)), h.coh.load _ d, h.rows, h.cache.load (h.rows.place _ hm).1 ⟨Nat.le_trans (shelfX_length _ _) hl, fun r hr => rowok_of h.rows (mem_shelfX.1 hr).1⟩ d⟩
      · exact ⟨fun r hr => may_iff.2 (may_iff.1 (h.may r hr)), h.coh, h.rows, h.cache⟩
theorem next_np (f : FS) (k : List UInt8 × Nat) (d : Nat) : (nextF f k d).n = f.n ∧ (nextF f k d).p = f.p ∧ (nextF f k d).S = f.S := by
  unfold nextF
  split
  · exact ⟨rfl, rfl, rfl⟩
  · split
    · exact ⟨rfl, rfl, rfl⟩
    · split <;> exact ⟨rfl, rfl, rfl⟩
end Go.Proofs.Ytoofhaoaogoomaa
