/- Plain mathematics for package codec: lists of bytes, big-endian numbers, their value and their order. No statement of the seat is proved here; nothing of the program is imported. -/
import Derived.WalkKit
import Derived.Lib.AppendStr
namespace Go.Proofs.Ytoofhaoaogoomaa
open Go.RowKit

/-- A list of bytes as cells. -/
def bv (l : List UInt8) : List Value := l.map fun b => Value.int .u8 b.toNat
theorem bv_length (l : List UInt8) : (bv l).length = l.length := by simp [bv]
theorem bv_append (l m : List UInt8) : bv (l ++ m) = bv l ++ bv m := by simp [bv]
theorem bv_oneCell (l : List UInt8) : ∀ u ∈ bv l, u.oneCell' = true := by
  intro u hu
  simp only [bv, List.mem_map] at hu
  obtain ⟨b, _, rfl⟩ := hu
  rfl
theorem bv_get {l : List UInt8} {j : Nat} (h : j < l.length) : (bv l)[j]? = some (.int .u8 l[j].toNat) := by simp [bv, h]
theorem bv_strCells (s : ByteArray) : Lib.strCells s = bv s.data.toList := rfl
theorem bv_take (l : List UInt8) (k : Nat) : bv (l.take k) = (bv l).take k := by simp [bv]
theorem bv_drop (l : List UInt8) (k : Nat) : bv (l.drop k) = (bv l).drop k := by simp [bv]

/-- The k lowest bytes of n, the most significant one first. -/
def be : Nat → Nat → List UInt8
  | 0, _ => []
  | k + 1, n => UInt8.ofNat (n / 256 ^ k) :: be k n
theorem be_length (k n : Nat) : (be k n).length = k := by
  induction k with
  | zero => rfl
  | succ k ih => simp [be, ih]

/-- The number whose bytes those are, the most significant one first. -/
def val (l : List UInt8) : Nat := l.foldl (fun a c => a * 256 + c.toNat) 0
theorem val_nil : val [] = 0 := rfl
theorem val_snoc (l : List UInt8) (c : UInt8) : val (l ++ [c]) = val l * 256 + c.toNat := by simp [val, List.foldl_append]
theorem foldl_val (l : List UInt8) (a : Nat) : l.foldl (fun a c => a * 256 + c.toNat) a = a * 256 ^ l.length + val l := by
  induction l generalizing a with
  | nil => simp [val]
  | cons c l ih =>
    simp only [List.foldl_cons, val, List.length_cons, Nat.zero_mul, Nat.zero_add]
    rw [ih, ih c.toNat, Nat.pow_succ, Nat.add_mul, Nat.mul_assoc, Nat.mul_comm (256 ^ l.length) 256]
    simp only [val, Nat.add_assoc]
theorem val_cons (c : UInt8) (l : List UInt8) : val (c :: l) = c.toNat * 256 ^ l.length + val l := by
  have := foldl_val l c.toNat
  simpa [val] using this
theorem val_lt (l : List UInt8) : val l < 256 ^ l.length := by
  induction l with
  | nil => simp [val]
  | cons c l ih =>
    rw [val_cons, List.length_cons, Nat.pow_succ]
    have := c.toNat_lt
    have h2 : c.toNat * 256 ^ l.length ≤ 255 * 256 ^ l.length := Nat.mul_le_mul_right _ (by omega)
    omega
theorem val_append (l m : List UInt8) : val (l ++ m) = val l * 256 ^ m.length + val m := by
  unfold val
  rw [List.foldl_append]
  exact foldl_val m _
theorem val_be (k n : Nat) : val (be k n) = n % 256 ^ k := by
  induction k with
  | zero => simp [be, val, Nat.mod_one]
  | succ k ih =>
    rw [be, val_cons, be_length, ih, Nat.pow_succ, Nat.mod_mul]
    simp [UInt8.toNat_ofNat']
    rw [Nat.mul_comm]
    omega
theorem val_be_of_lt {k n : Nat} (h : n < 256 ^ k) : val (be k n) = n := by rw [val_be, Nat.mod_eq_of_lt h]
theorem be_val (l : List UInt8) : be l.length (val l) = l := by
  induction l with
  | nil => rfl
  | cons c l ih =>
    rw [List.length_cons, be, val_cons]
    have hl := val_lt l
    have hp : 0 < 256 ^ l.length := Nat.pow_pos (by omega)
    congr 1
    · rw [Nat.add_comm, Nat.mul_comm, Nat.add_mul_div_left _ _ hp, Nat.div_eq_of_lt hl]; simp
    · have key : ∀ (k a b : Nat), be k (a * 256 ^ k + b) = be k b := by
        intro k
        induction k with
        | zero => intros; rfl
        | succ k ihk =>
          intro a b
          have hpk : 0 < 256 ^ k := Nat.pow_pos (by omega)
          simp only [be]
          have e : a * 256 ^ (k + 1) = (a * 256) * 256 ^ k := by rw [Nat.pow_succ]; rw [Nat.mul_assoc, Nat.mul_comm 256]
          rw [e, ihk]
          congr 1
          rw [Nat.add_comm, Nat.mul_comm (a * 256), Nat.add_mul_div_left _ _ hpk]
          apply UInt8.toNat_inj.1
          simp [UInt8.toNat_ofNat']
      rw [key]; exact ih

/-- The Go text's step: the shifted number, joined with a byte. -/
theorem shl_or (a c : Nat) (hc : c < 256) : (a <<< 8) ||| c = a * 256 + c := by
  rw [← Nat.shiftLeft_add_eq_or_of_lt (by simpa using hc) a, Nat.shiftLeft_eq]
end Go.Proofs.Ytoofhaoaogoomaa
/- Plain mathematics for package index: rows in the order of their keys, what is put and taken out. No statement of the seat is proved here; nothing of the program is imported. -/
namespace Go.Proofs.Ytoofhaoaogoomaa
set_option linter.unusedVariables false

/-- A row: its key (fingerprint, number), its shelf, its slot. -/
abbrev RowT := (List UInt8 × Nat) × (Int × Int)
def KeyOk (k : List UInt8 × Nat) : Prop := k.1.length = 32 ∧ k.2 < 4294967296
/-- Where a key stands. -/
def ordK (k : List UInt8 × Nat) : Nat := val k.1 * 4294967296 + k.2
theorem ordK_inj {a b : List UInt8 × Nat} (ha : KeyOk a) (hb : KeyOk b) (h : ordK a = ordK b) : a = b := by
  obtain ⟨x, m⟩ := a
  obtain ⟨y, n⟩ := b
  have h1 : m < 4294967296 := ha.2
  have h2 : n < 4294967296 := hb.2
  have hx : x.length = 32 := ha.1
  have hy : y.length = 32 := hb.1
  unfold ordK at h
  simp only at h
  have h3 : val x = val y := by omega
  have h4 : m = n := by omega
  rw [← be_val x, ← be_val y, hx, hy, h3, h4]
def Rise (L : List RowT) : Prop := L.Pairwise fun a b => ordK a.1 < ordK b.1
def under (L : List RowT) (k : List UInt8 × Nat) : List RowT := L.filter fun r => decide (ordK r.1 < ordK k)
def over (L : List RowT) (k : List UInt8 × Nat) : List RowT := L.filter fun r => decide (ordK k < ordK r.1)
def putX (L : List RowT) (k : List UInt8 × Nat) (p : Int × Int) : List RowT := under L k ++ (k, p) :: over L k
def dropX (L : List RowT) (k : List UInt8 × Nat) : List RowT := under L k ++ over L k
def hasX (L : List RowT) (k : List UInt8 × Nat) : Bool := L.any fun r => decide (r.1 = k)
def getX (L : List RowT) (k : List UInt8 × Nat) : Int × Int := match L.find? fun r => decide (r.1 = k) with
  | some r => r.2
  | none => (0, 0)
def twinsX (L : List RowT) (d : List UInt8) : List (List UInt8 × Nat) := (L.filter fun r => decide (r.1.1 = d)).map (·.1)
/-- A row set in by its slot, behind all of the same. -/
def insS (l : List RowT) (r : RowT) : List RowT := l.takeWhile (fun x => decide (x.2.2 ≤ r.2.2)) ++ r :: l.dropWhile (fun x => decide (x.2.2 ≤ r.2.2))
def shelfX (L : List RowT) (at_ : Int) : List RowT := (L.filter fun r => decide (r.2.1 = at_)).foldl insS []
structure RowsOk (L : List RowT) : Prop where
  rise : Rise L
  key : ∀ r ∈ L, KeyOk r.1
  place : ∀ r ∈ L, (-9223372036854775808 ≤ r.2.1 ∧ r.2.1 ≤ 9223372036854775807) ∧ (-9223372036854775808 ≤ r.2.2 ∧ r.2.2 ≤ 9223372036854775807)
theorem rise_split {L : List RowT} (h : Rise L) {k : List UInt8 × Nat} (hk : KeyOk k) (hL : ∀ r ∈ L, KeyOk r.1) : (hasX L k = false ∧ L = under L k ++ over L k) ∨ ∃ p, hasX L k = true ∧ getX L k = p ∧ L = under L k ++ (k, p) :: over L k := by
  induction L with
  | nil => exact .inl ⟨rfl, rfl⟩
  | cons r L ih =>
    have hr := List.pairwise_cons.1 h
    have ihh := ih hr.2 fun x hx => hL x (by simp [hx])
    have hrk := hL r (by simp)
    rcases Nat.lt_trichotomy (ordK r.1) (ordK k) with h1 | h1 | h1
    · have hne : r.1 ≠ k := fun e => by rw [e] at h1; omega
      have e1 : under (r :: L) k = r :: under L k := by unfold under; rw [List.filter_cons, if_pos (by simpa using h1)]
      have e2 : over (r :: L) k = over L k := by unfold over; rw [List.filter_cons, if_neg (by simp; omega)]
      have e3 : hasX (r :: L) k = hasX L k := by unfold hasX; rw [List.any_cons, decide_eq_false hne, Bool.false_or]
      have e4 : getX (r :: L) k = getX L k := by unfold getX; rw [List.find?_cons, decide_eq_false hne]
      rcases ihh with ⟨i1, i2⟩ | ⟨p, i1, i2, i3⟩
      · exact .inl ⟨e3.trans i1, by rw [e1, e2, List.cons_append, ← i2]⟩
      · exact .inr ⟨p, e3.trans i1, e4.trans i2, by rw [e1, e2, List.cons_append, ← i3]⟩
    · have e0 : r.1 = k := ordK_inj hrk hk h1
      have e1 : under (r :: L) k = [] := by
        unfold under
        rw [List.filter_eq_nil_iff]
        intro x hx
        rcases List.mem_cons.1 hx with rfl | hx
        · simp; omega
        · have := hr.1 x hx; simp; omega
      have e2 : over (r :: L) k = L := by
        unfold over
        rw [List.filter_cons, if_neg (by simp; omega), List.filter_eq_self]
        intro x hx
        have := hr.1 x hx; simp; omega
      refine .inr ⟨r.2, ?_, ?_, ?_⟩
      · unfold hasX; rw [List.any_cons, decide_eq_true e0, Bool.true_or]
      · unfold getX; rw [List.find?_cons, decide_eq_true e0]
      · rw [e1, e2, ← e0]; rfl
    · have hne : r.1 ≠ k := fun e => by rw [e] at h1; omega
      have e1 : under (r :: L) k = [] := by
        unfold under
        rw [List.filter_eq_nil_iff]
        intro x hx
        rcases List.mem_cons.1 hx with rfl | hx
        · simp; omega
        · have := hr.1 x hx; simp; omega
      have e2 : over (r :: L) k = r :: L := by
        unfold over
        rw [List.filter_eq_self]
        intro x hx
        rcases List.mem_cons.1 hx with rfl | hx
        · simpa using h1
        · have := hr.1 x hx; simp; omega
      have e3 : hasX (r :: L) k = false := by
        unfold hasX
        rw [List.any_eq_false]
        intro x hx
        simp only [decide_eq_true_eq]
        rintro rfl
        rcases List.mem_cons.1 hx with rfl | hx
        · omega
        · have := hr.1 x hx; omega
      exact .inl ⟨e3, by rw [e1, e2, List.nil_append]⟩
theorem mem_under {L : List RowT} {k : List UInt8 × Nat} {r : RowT} : r ∈ under L k ↔ r ∈ L ∧ ordK r.1 < ordK k := by unfold under; rw [List.mem_filter]; simp
theorem mem_over {L : List RowT} {k : List UInt8 × Nat} {r : RowT} : r ∈ over L k ↔ r ∈ L ∧ ordK k < ordK r.1 := by unfold over; rw [List.mem_filter]; simp
theorem rise_under {L : List RowT} (h : Rise L) (k : List UInt8 × Nat) : Rise (under L k) := List.Pairwise.filter _ h
theorem rise_over {L : List RowT} (h : Rise L) (k : List UInt8 × Nat) : Rise (over L k) := List.Pairwise.filter _ h
theorem RowsOk.put {L : List RowT} (h : RowsOk L) {k : List UInt8 × Nat} (hk : KeyOk k) {p : Int × Int} (hp : (-9223372036854775808 ≤ p.1 ∧ p.1 ≤ 9223372036854775807) ∧ (-9223372036854775808 ≤ p.2 ∧ p.2 ≤ 9223372036854775807)) : RowsOk (putX L k p) := by
  have hm : ∀ r ∈ putX L k p, r ∈ L ∨ r = (k, p) := fun r hr => by
    rcases List.mem_append.1 hr with hr | hr
    · exact .inl (mem_under.1 hr).1
    · rcases List.mem_cons.1 hr with hr | hr
      · exact .inr hr
      · exact .inl (mem_over.1 hr).1
  refine ⟨?_, fun r hr => ?_, fun r hr => ?_⟩
  · refine List.pairwise_append.2 ⟨rise_under h.rise k, List.pairwise_cons.2 ⟨fun r hr => (mem_over.1 hr).2, rise_over h.rise k⟩, fun a ha b hb => ?_⟩
    have h1 := (mem_under.1 ha).2
    rcases List.mem_cons.1 hb with rfl | hb
    · exact h1
    · have := (mem_over.1 hb).2; omega
  · rcases hm r hr with h1 | rfl
    · exact h.key r h1
    · exact hk
  · rcases hm r hr with h1 | rfl
    · exact h.place r h1
    · exact hp
theorem RowsOk.drop {L : List RowT} (h : RowsOk L) (k : List UInt8 × Nat) : RowsOk (dropX L k) := by
  have hm : ∀ r ∈ dropX L k, r ∈ L := fun r hr => by
    rcases List.mem_append.1 hr with hr | hr
    · exact (mem_under.1 hr).1
    · exact (mem_over.1 hr).1
  refine ⟨List.pairwise_append.2 ⟨rise_under h.rise k, rise_over h.rise k, fun a ha b hb => ?_⟩, fun r hr => h.key r (hm r hr), fun r hr => h.place r (hm r hr)⟩
  have h1 := (mem_under.1 ha).2
  have := (mem_over.1 hb).2
  omega
theorem RowsOk.nil : RowsOk [] := ⟨List.Pairwise.nil, by simp, by simp⟩
theorem putX_length (L : List RowT) (h : Rise L) {k : List UInt8 × Nat} (hk : KeyOk k) (hL : ∀ r ∈ L, KeyOk r.1) (p : Int × Int) : (putX L k p).length ≤ L.length + 1 := by
  rcases rise_split h hk hL with ⟨_, e⟩ | ⟨q, _, _, e⟩
  · have := congrArg List.length e
    simp [putX] at this ⊢
    omega
  · have := congrArg List.length e
    simp [putX] at this ⊢
    omega
theorem dropX_length (L : List RowT) (h : Rise L) {k : List UInt8 × Nat} (hk : KeyOk k) (hL : ∀ r ∈ L, KeyOk r.1) : (dropX L k).length ≤ L.length := by
  rcases rise_split h hk hL with ⟨_, e⟩ | ⟨q, _, _, e⟩
  · have := congrArg List.length e
    simp [dropX] at this ⊢
    omega
  · have := congrArg List.length e
    simp [dropX] at this ⊢
    omega
theorem insS_length (l : List RowT) (r : RowT) : (insS l r).length = l.length + 1 := by
  have h := congrArg List.length (List.takeWhile_append_dropWhile (p := fun x : RowT => decide (x.2.2 ≤ r.2.2)) (l := l))
  simp only [List.length_append] at h
  simp only [insS, List.length_append, List.length_cons]
  omega
theorem foldl_insS_length : ∀ (M l : List RowT), (M.foldl insS l).length = l.length + M.length
  | [], l => rfl
  | r :: M, l => by rw [List.foldl_cons, foldl_insS_length M, insS_length, List.length_cons]; omega
theorem shelfX_length (L : List RowT) (at_ : Int) : (shelfX L at_).length ≤ L.length := by
  unfold shelfX
  rw [foldl_insS_length]
  have := List.length_filter_le (fun r : RowT => decide (r.2.1 = at_)) L
  simp only [List.length_nil, Nat.zero_add]
  exact this
theorem twinsX_length (L : List RowT) (d : List UInt8) : (twinsX L d).length ≤ L.length := by
  unfold twinsX
  rw [List.length_map]
  exact List.length_filter_le _ _
theorem mem_insS {l : List RowT} {r x : RowT} : x ∈ insS l r ↔ x = r ∨ x ∈ l := by
  have h : ∀ x, x ∈ l ↔ x ∈ l.takeWhile (fun x => decide (x.2.2 ≤ r.2.2)) ∨ x ∈ l.dropWhile (fun x => decide (x.2.2 ≤ r.2.2)) := fun x => by
    conv => lhs; rw [← List.takeWhile_append_dropWhile (p := fun x : RowT => decide (x.2.2 ≤ r.2.2)) (l := l), List.mem_append]
  rw [h x]
  unfold insS
  rw [List.mem_append, List.mem_cons]
  constructor
  · rintro (h | h | h)
    · exact .inr (.inl h)
    · exact .inl h
    · exact .inr (.inr h)
  · rintro (h | h | h)
    · exact .inr (.inl h)
    · exact .inl h
    · exact .inr (.inr h)
theorem mem_foldl_insS : ∀ (M l : List RowT) (x : RowT), x ∈ M.foldl insS l ↔ x ∈ M ∨ x ∈ l
  | [], l, x => by simp
  | r :: M, l, x => by
    rw [List.foldl_cons, mem_foldl_insS M, mem_insS, List.mem_cons]
    constructor
    · rintro (h | h | h)
      · exact .inl (.inr h)
      · exact .inl (.inl h)
      · exact .inr h
    · rintro ((h | h) | h)
      · exact .inr (.inl h)
      · exact .inl h
      · exact .inr (.inr h)
theorem mem_shelfX {L : List RowT} {at_ : Int} {x : RowT} : x ∈ shelfX L at_ ↔ x ∈ L ∧ x.2.1 = at_ := by
  unfold shelfX
  rw [mem_foldl_insS, List.mem_filter]
  simp
theorem mem_twinsX {L : List RowT} {d : List UInt8} {k : List UInt8 × Nat} : k ∈ twinsX L d ↔ k.1 = d ∧ ∃ p, (k, p) ∈ L := by
  unfold twinsX
  rw [List.mem_map]
  constructor
  · rintro ⟨r, hr, rfl⟩
    rw [List.mem_filter] at hr
    exact ⟨by simpa using hr.2, r.2, hr.1⟩
  · rintro ⟨h, p, hp⟩
    exact ⟨(k, p), List.mem_filter.2 ⟨hp, by simpa using h⟩, rfl⟩
theorem hasX_iff {L : List RowT} {k : List UInt8 × Nat} : hasX L k = true ↔ ∃ p, (k, p) ∈ L := by
  unfold hasX
  rw [List.any_eq_true]
  constructor
  · rintro ⟨r, hr, h⟩
    have h : r.1 = k := by simpa using h
    exact ⟨r.2, by rw [← h]; exact hr⟩
  · rintro ⟨p, hp⟩
    exact ⟨(k, p), hp, by simp⟩
end Go.Proofs.Ytoofhaoaogoomaa
/- Plain mathematics for package index: each row stands once in all, on its shelf and among its twins. No statement of the seat is proved here; nothing of the program is imported. -/
namespace Go.Proofs.Ytoofhaoaogoomaa
set_option linter.unusedVariables false

theorem rise_nodup {L : List RowT} (h : Rise L) : L.Nodup := List.Pairwise.imp (fun {a b} hab e => by rw [e] at hab; exact absurd hab (Nat.lt_irrefl _)) h
theorem rise_keys {L : List RowT} (h : Rise L) : (L.map (·.1)).Nodup := by
  unfold List.Nodup
  rw [List.pairwise_map]
  exact List.Pairwise.imp (fun {a b} hab e => by rw [e] at hab; exact absurd hab (Nat.lt_irrefl _)) h
theorem count_insS (l : List RowT) (r x : RowT) : (insS l r).count x = l.count x + if r = x then 1 else 0 := by
  unfold insS
  have h : l.count x = (l.takeWhile (fun y => decide (y.2.2 ≤ r.2.2))).count x + (l.dropWhile (fun y => decide (y.2.2 ≤ r.2.2))).count x := by
    rw [← List.count_append, List.takeWhile_append_dropWhile]
  rw [List.count_append, List.count_cons, h]
  simp only [beq_iff_eq]
  omega
theorem count_foldl_insS (x : RowT) : ∀ (M l : List RowT), (M.foldl insS l).count x = l.count x + M.count x
  | [], l => rfl
  | r :: M, l => by
    rw [List.foldl_cons, count_foldl_insS x M, count_insS, List.count_cons]
    simp only [beq_iff_eq]
    omega
theorem count_one {α : Type} [BEq α] [LawfulBEq α] {l : List α} (h : l.Nodup) {x : α} (hx : x ∈ l) : l.count x = 1 := by
  have h1 := List.nodup_iff_count.1 h x
  have h2 := List.count_pos_iff.2 hx
  omega
theorem count_shelf {L : List RowT} (h : Rise L) {r : RowT} (hr : r ∈ L) : (shelfX L r.2.1).count r = 1 := by
  unfold shelfX
  rw [count_foldl_insS, List.count_nil, Nat.zero_add]
  exact count_one (List.Pairwise.filter _ (rise_nodup h)) (List.mem_filter.2 ⟨hr, by simp⟩)
theorem count_twins {L : List RowT} (h : Rise L) {r : RowT} (hr : r ∈ L) : (twinsX L r.1.1).count r.1 = 1 := by
  unfold twinsX
  refine count_one ?_ (List.mem_map.2 ⟨r, List.mem_filter.2 ⟨hr, by simp⟩, rfl⟩)
  exact rise_keys (List.Pairwise.filter _ h)
theorem get_mem {L : List RowT} (h : Rise L) {r : RowT} (hr : r ∈ L) : getX L r.1 = r.2 := by
  unfold getX
  cases hf : L.find? (fun x => decide (x.1 = r.1)) with
  | none =>
    have := List.find?_eq_none.1 hf r hr
    simp at this
  | some y =>
    have h1 := List.find?_some hf
    have h1 : y.1 = r.1 := by simpa using h1
    have h2 := List.mem_of_find?_eq_some hf
    have h3 : y = r := by
      rcases List.mem_iff_getElem.1 h2 with ⟨i, hi, rfl⟩
      rcases List.mem_iff_getElem.1 hr with ⟨j, hj, rfl⟩
      have hp := List.pairwise_iff_getElem.1 h
      rcases Nat.lt_trichotomy i j with hij | hij | hij
      · have := hp i j hi hj hij; rw [h1] at this; omega
      · subst hij; rfl
      · have := hp j i hj hi hij; rw [h1] at this; omega
    show y.2 = r.2
    rw [h3]
theorem count_step {α : Type} [BEq α] [LawfulBEq α] [DecidableEq α] (l : List α) (x : α) {i : Nat} (hi : i < l.length) : (l.take (i + 1)).count x = (l.take i).count x + if l[i] = x then 1 else 0 := by
  rw [List.take_succ_eq_append_getElem hi, List.count_append, List.count_singleton]
  simp only [beq_iff_eq]
end Go.Proofs.Ytoofhaoaogoomaa
/- Plain mathematics for package cache: tables in the order in which they were loaded. No statement of the seat is proved here; nothing of the program is imported. -/
namespace Go.Proofs.Ytoofhaoaogoomaa
set_option linter.unusedVariables false

/-- Room, and the tables: a shelf and its rows. -/
structure CS where
  room : Nat
  t : List (Int × List RowT)
def hasC (S : CS) (sh : Int) : Bool := S.t.any fun x => decide (x.1 = sh)
def shelvesC (S : CS) : List Int := S.t.map (·.1)
def dropC (S : CS) (sh : Int) : CS := ⟨S.room, S.t.filter fun x => !decide (x.1 = sh)⟩
def loadC (S : CS) (sh : Int) (ls : List RowT) (draw : Nat) : CS :=
  if S.room = 0 ∨ hasC S sh = true then S else ⟨S.room, (if S.t.length = S.room then S.t.eraseIdx (draw % S.t.length) else S.t) ++ [(sh, ls)]⟩
/-- The first row with that key. -/
def findC (S : CS) (k : List UInt8 × Nat) : Option RowT := S.t.findSome? fun x => x.2.find? fun r => decide (r.1 = k)
def knowsC (S : CS) (k : List UInt8 × Nat) : Bool := (findC S k).isSome
def getC (S : CS) (k : List UInt8 × Nat) : Int × Int := match findC S k with
  | some r => r.2
  | none => (0, 0)
def In64C (x : Int) : Prop := -9223372036854775808 ≤ x ∧ x ≤ 9223372036854775807
structure RowOkC (r : RowT) : Prop where
  key : KeyOk r.1
  shelf : In64C r.2.1
  slot : In64C r.2.2
structure CS.Ok (S : CS) : Prop where
  room : S.room ≤ 4096
  len : S.t.length ≤ S.room
  once : (shelvesC S).Nodup
  shelf : ∀ x ∈ S.t, In64C x.1
  rows : ∀ x ∈ S.t, x.2.length ≤ 1000 ∧ ∀ r ∈ x.2, RowOkC r
theorem hasC_iff {S : CS} {sh : Int} : hasC S sh = true ↔ sh ∈ shelvesC S := by
  unfold hasC shelvesC
  rw [List.any_eq_true, List.mem_map]
  constructor
  · rintro ⟨x, hx, h⟩
    exact ⟨x, hx, by simpa using h⟩
  · rintro ⟨x, hx, h⟩
    exact ⟨x, hx, by simpa using h⟩
theorem CS.Ok.new {n : Nat} (h : n ≤ 4096) : CS.Ok ⟨n, []⟩ := ⟨h, Nat.zero_le _, List.nodup_nil, by simp, by simp⟩
theorem CS.Ok.drop {S : CS} (h : S.Ok) (sh : Int) : (dropC S sh).Ok :=
  ⟨h.room, Nat.le_trans (List.length_filter_le _ _) h.len, by
    unfold shelvesC dropC
    exact List.Nodup.sublist (List.Sublist.map _ List.filter_sublist) h.once, fun x hx => h.shelf x ((List.mem_filter.1 hx).1), fun x hx => h.rows x ((List.mem_filter.1 hx).1)⟩
theorem CS.Ok.load {S : CS} (h : S.Ok) {sh : Int} (hs : In64C sh) {ls : List RowT} (hl : ls.length ≤ 1000 ∧ ∀ r ∈ ls, RowOkC r) (draw : Nat) : (loadC S sh ls draw).Ok := by
  unfold loadC
  split
  · exact h
  · rename_i hc
    rw [not_or] at hc
    obtain ⟨h0, hn⟩ := hc
    have hn' : sh ∉ shelvesC S := fun hm => hn (hasC_iff.2 hm)
    have key : ∀ M : List (Int × List RowT), M.Sublist S.t → M.length < S.room → CS.Ok ⟨S.room, M ++ [(sh, ls)]⟩ := fun M hM hlt => by
      refine ⟨h.room, by simp; omega, ?_, fun x hx => ?_, fun x hx => ?_⟩
      · unfold shelvesC
        rw [List.map_append, List.nodup_append]
        refine ⟨List.Nodup.sublist (hM.map _) h.once, by simp, fun a ha b hb e => ?_⟩
        have : b = sh := by simpa using hb
        subst this
        exact hn' (e ▸ (hM.map Prod.fst).subset ha)
      · rcases List.mem_append.1 hx with hx | hx
        · exact h.shelf x (hM.subset hx)
        · rw [List.mem_singleton.1 hx]; exact hs
      · rcases List.mem_append.1 hx with hx | hx
        · exact h.rows x (hM.subset hx)
        · rw [List.mem_singleton.1 hx]; exact hl
    have hlen := h.len
    split
    · rename_i he
      refine key _ (List.eraseIdx_sublist _ _) ?_
      rw [List.length_eraseIdx]
      split
      · omega
      · rename_i hx
        exact absurd (Nat.mod_lt _ (by omega)) hx
    · exact key _ (List.Sublist.refl _) (by omega)
theorem loadC_had {S : CS} {sh : Int} (h : hasC S sh = true) (ls : List RowT) (draw : Nat) : loadC S sh ls draw = S := by
  unfold loadC
  rw [if_pos (.inr h)]
theorem loadC_new {S : CS} {sh : Int} (h0 : S.room ≠ 0) (h : hasC S sh = false) (ls : List RowT) (draw : Nat) : loadC S sh ls draw = ⟨S.room, (if S.t.length = S.room then S.t.eraseIdx (draw % S.t.length) else S.t) ++ [(sh, ls)]⟩ := by
  unfold loadC
  rw [if_neg (by rw [h]; simp [h0])]
theorem loadC_room (S : CS) (sh : Int) (ls : List RowT) (draw : Nat) : (loadC S sh ls draw).room = S.room := by
  unfold loadC
  split <;> rfl
theorem loadC_has {S : CS} {sh : Int} (h0 : S.room ≠ 0) (ls : List RowT) (draw : Nat) : hasC (loadC S sh ls draw) sh = true := by
  by_cases h : hasC S sh = true
  · rw [loadC_had h]; exact h
  · rw [loadC_new h0 (by simpa using h), hasC_iff]
    unfold shelvesC
    simp
theorem shelves_len (S : CS) : (shelvesC S).length = S.t.length := by simp [shelvesC]
theorem drop_has (S : CS) (sh : Int) : hasC (dropC S sh) sh = false := by
  rw [Bool.eq_false_iff]
  intro h
  rw [hasC_iff] at h
  unfold shelvesC dropC at h
  rw [List.mem_map] at h
  obtain ⟨x, hx, e⟩ := h
  rw [List.mem_filter] at hx
  simp [e] at hx
end Go.Proofs.Ytoofhaoaogoomaa
