/- Plain mathematics for package index: rows in the order of their keys, what is put and taken out. No statement of the seat is proved here; nothing of the program is imported. -/
import Derived.Test.YtmnjaocdhelebaaMath
namespace Go.Proofs.Ytmnjaocdhelebaa
set_option linter.unusedVariables false

/-- A row: its key (fingerprint, number), its shelf, its slot. -/
abbrev RowT := (List UInt8 × Nat) × (Int × Int)
def KeyOk (k : List UInt8 × Nat) : Prop := k.1.length = 32 ∧ k.2 < 4294967296
/-- Where a key stands. -/
def ordK (k : List UInt8 × Nat) : Nat := val k.1 * 4294967296 + k.2
theorem ordK_inj {a b : List UInt8 × Nat} (ha : KeyOk a) (hb : KeyOk b) (h : ordK a = ordK b) : a = b := by
  obtain ⟨x, m⟩ := a
  obtain ⟨y, n⟩ := b
  have h1 : m < 4294967296 := ha.2
  have h2 : n < 4294967296 := hb.2
  have hx : x.length = 32 := ha.1
  have hy : y.length = 32 := hb.1
  unfold ordK at h
  simp only at h
  have h3 : val x = val y := by omega
  have h4 : m = n := by omega
  rw [← be_val x, ← be_val y, hx, hy, h3, h4]
def Rise (L : List RowT) : Prop := L.Pairwise fun a b => ordK a.1 < ordK b.1
def under (L : List RowT) (k : List UInt8 × Nat) : List RowT := L.filter fun r => decide (ordK r.1 < ordK k)
def over (L : List RowT) (k : List UInt8 × Nat) : List RowT := L.filter fun r => decide (ordK k < ordK r.1)
def putX (L : List RowT) (k : List UInt8 × Nat) (p : Int × Int) : List RowT := under L k ++ (k, p) :: over L k
def dropX (L : List RowT) (k : List UInt8 × Nat) : List RowT := under L k ++ over L k
def hasX (L : List RowT) (k : List UInt8 × Nat) : Bool := L.any fun r => decide (r.1 = k)
def getX (L : List RowT) (k : List UInt8 × Nat) : Int × Int := match L.find? fun r => decide (r.1 = k) with
  | some r => r.2
  | none => (0, 0)
def twinsX (L : List RowT) (d : List UInt8) : List (List UInt8 × Nat) := (L.filter fun r => decide (r.1.1 = d)).map (·.1)
/-- A row set in by its slot, behind all of the same. -/
def insS (l : List RowT) (r : RowT) : List RowT := l.takeWhile (fun x => decide (x.2.2 ≤ r.2.2)) ++ r :: l.dropWhile (fun x => decide (x.2.2 ≤ r.2.2))
def shelfX (L : List RowT) (at_ : Int) : List RowT := (L.filter fun r => decide (r.2.1 = at_)).foldl insS []
structure RowsOk (L : List RowT) : Prop where
  rise : Rise L
  key : ∀ r ∈ L, KeyOk r.1
  place : ∀ r ∈ L, (-9223372036854775808 ≤ r.2.1 ∧ r.2.1 ≤ 9223372036854775807) ∧ (-9223372036854775808 ≤ r.2.2 ∧ r.2.2 ≤ 9223372036854775807)
theorem rise_split {L : List RowT} (h : Rise L) {k : List UInt8 × Nat} (hk : KeyOk k) (hL : ∀ r ∈ L, KeyOk r.1) : (hasX L k = false ∧ L = under L k ++ over L k) ∨ ∃ p, hasX L k = true ∧ getX L k = p ∧ L = under L k ++ (k, p) :: over L k := by
  induction L with
  | nil => exact .inl ⟨rfl, rfl⟩
  | cons r L ih =>
    have hr := List.pairwise_cons.1 h
    have ihh := ih hr.2 fun x hx => hL x (by simp [hx])
    have hrk := hL r (by simp)
    rcases Nat.lt_trichotomy (ordK r.1) (ordK k) with h1 | h1 | h1
    · have hne : r.1 ≠ k := fun e => by rw [e] at h1; omega
      have e1 : under (r :: L) k = r :: under L k := by unfold under; rw [List.filter_cons, if_pos (by simpa using h1)]
      have e2 : over (r :: L) k = over L k := by unfold over; rw [List.filter_cons, if_neg (by simp; omega)]
      have e3 : hasX (r :: L) k = hasX L k := by unfold hasX; rw [List.any_cons, decide_eq_false hne, Bool.false_or]
      have e4 : getX (r :: L) k = getX L k := by unfold getX; rw [List.find?_cons, decide_eq_false hne]
      rcases ihh with ⟨i1, i2⟩ | ⟨p, i1, i2, i3⟩
      · exact .inl ⟨e3.trans i1, by rw [e1, e2, List.cons_append, ← i2]⟩
      · exact .inr ⟨p, e3.trans i1, e4.trans i2, by rw [e1, e2, List.cons_append, ← i3]⟩
    · have e0 : r.1 = k := ordK_inj hrk hk h1
      have e1 : under (r :: L) k = [] := by
        unfold under
        rw [List.filter_eq_nil_iff]
        intro x hx
        rcases List.mem_cons.1 hx with rfl | hx
        · simp; omega
        · have := hr.1 x hx; simp; omega
      have e2 : over (r :: L) k = L := by
        unfold over
        rw [List.filter_cons, if_neg (by simp; omega), List.filter_eq_self]
        intro x hx
        have := hr.1 x hx; simp; omega
      refine .inr ⟨r.2, ?_, ?_, ?_⟩
      · unfold hasX; rw [List.any_cons, decide_eq_true e0, Bool.true_or]
      · unfold getX; rw [List.find?_cons, decide_eq_true e0]
      · rw [e1, e2, ← e0]; rfl
    · have hne : r.1 ≠ k := fun e => by rw [e] at h1; omega
      have e1 : under (r :: L) k = [] := by
        unfold under
        rw [List.filter_eq_nil_iff]
        intro x hx
        rcases List.mem_cons.1 hx with rfl | hx
        · simp; omega
        · have := hr.1 x hx; simp; omega
      have e2 : over (r :: L) k = r :: L := by
        unfold over
        rw [List.filter_eq_self]
        intro x hx
        rcases List.mem_cons.1 hx with rfl | hx
        · simpa using h1
        · have := hr.1 x hx; simp; omega
      have e3 : hasX (r :: L) k = false := by
        unfold hasX
        rw [List.any_eq_false]
        intro x hx
        simp only [decide_eq_true_eq]
        rintro rfl
        rcases List.mem_cons.1 hx with rfl | hx
        · omega
        · have := hr.1 x hx; omega
      exact .inl ⟨e3, by rw [e1, e2, List.nil_append]⟩
theorem mem_under {L : List RowT} {k : List UInt8 × Nat} {r : RowT} : r ∈ under L k ↔ r ∈ L ∧ ordK r.1 < ordK k := by unfold under; rw [List.mem_filter]; simp
theorem mem_over {L : List RowT} {k : List UInt8 × Nat} {r : RowT} : r ∈ over L k ↔ r ∈ L ∧ ordK k < ordK r.1 := by unfold over; rw [List.mem_filter]; simp
theorem rise_under {L : List RowT} (h : Rise L) (k : List UInt8 × Nat) : Rise (under L k) := List.Pairwise.filter _ h
theorem rise_over {L : List RowT} (h : Rise L) (k : List UInt8 × Nat) : Rise (over L k) := List.Pairwise.filter _ h
theorem RowsOk.put {L : List RowT} (h : RowsOk L) {k : List UInt8 × Nat} (hk : KeyOk k) {p : Int × Int} (hp : (-9223372036854775808 ≤ p.1 ∧ p.1 ≤ 9223372036854775807) ∧ (-9223372036854775808 ≤ p.2 ∧ p.2 ≤ 9223372036854775807)) : RowsOk (putX L k p) := by
  have hm : ∀ r ∈ putX L k p, r ∈ L ∨ r = (k, p) := fun r hr => by
    rcases List.mem_append.1 hr with hr | hr
    · exact .inl (mem_under.1 hr).1
    · rcases List.mem_cons.1 hr with hr | hr
      · exact .inr hr
      · exact .inl (mem_over.1 hr).1
  refine ⟨?_, fun r hr => ?_, fun r hr => ?_⟩
  · refine List.pairwise_append.2 ⟨rise_under h.rise k, List.pairwise_cons.2 ⟨fun r hr => (mem_over.1 hr).2, rise_over h.rise k⟩, fun a ha b hb => ?_⟩
    have h1 := (mem_under.1 ha).2
    rcases List.mem_cons.1 hb with rfl | hb
    · exact h1
    · have := (mem_over.1 hb).2; omega
  · rcases hm r hr with h1 | rfl
    · exact h.key r h1
    · exact hk
  · rcases hm r hr with h1 | rfl
    · exact h.place r h1
    · exact hp
theorem RowsOk.drop {L : List RowT} (h : RowsOk L) (k : List UInt8 × Nat) : RowsOk (dropX L k) := by
  have hm : ∀ r ∈ dropX L k, r ∈ L := fun r hr => by
    rcases List.mem_append.1 hr with hr | hr
    · exact (mem_under.1 hr).1
    · exact (mem_over.1 hr).1
  refine ⟨List.pairwise_append.2 ⟨rise_under h.rise k, rise_over h.rise k, fun a ha b hb => ?_⟩, fun r hr => h.key r (hm r hr), fun r hr => h.place r (hm r hr)⟩
  have h1 := (mem_under.1 ha).2
  have := (mem_over.1 hb).2
  omega
theorem RowsOk.nil : RowsOk [] := ⟨List.Pairwise.nil, by simp, by simp⟩
theorem putX_length (L : List RowT) (h : Rise L) {k : List UInt8 × Nat} (hk : KeyOk k) (hL : ∀ r ∈ L, KeyOk r.1) (p : Int × Int) : (putX L k p).length ≤ L.length + 1 := by
  rcases rise_split h hk hL with ⟨_, e⟩ | ⟨q, _, _, e⟩
  · have := congrArg List.length e
    simp [putX] at this ⊢
    omega
  · have := congrArg List.length e
    simp [putX] at this ⊢
    omega
theorem dropX_length (L : List RowT) (h : Rise L) {k : List UInt8 × Nat} (hk : KeyOk k) (hL : ∀ r ∈ L, KeyOk r.1) : (dropX L k).length ≤ L.length := by
  rcases rise_split h hk hL with ⟨_, e⟩ | ⟨q, _, _, e⟩
  · have := congrArg List.length e
    simp [dropX] at this ⊢
    omega
  · have := congrArg List.length e
    simp [dropX] at this ⊢
    omega
theorem insS_length (l : List RowT) (r : RowT) : (insS l r).length = l.length + 1 := by
  have h := congrArg List.length (List.takeWhile_append_dropWhile (p := fun x : RowT => decide (x.2.2 ≤ r.2.2)) (l := l))
  simp only [List.length_append] at h
  simp only [insS, List.length_append, List.length_cons]
  omega
theorem foldl_insS_length : ∀ (M l : List RowT), (M.foldl insS l).length = l.length + M.length
  | [], l => rfl
  | r :: M, l => by rw [List.foldl_cons, foldl_insS_length M, insS_length, List.length_cons]; omega
theorem shelfX_length (L : List RowT) (at_ : Int) : (shelfX L at_).length ≤ L.length := by
  unfold shelfX
  rw [foldl_insS_length]
  have := List.length_filter_le (fun r : RowT => decide (r.2.1 = at_)) L
  simp only [List.length_nil, Nat.zero_add]
  exact this
theorem twinsX_length (L : List RowT) (d : List UInt8) : (twinsX L d).length ≤ L.length := by
  unfold twinsX
  rw [List.length_map]
  exact List.length_filter_le _ _
theorem mem_insS {l : List RowT} {r x : RowT} : x ∈ insS l r ↔ x = r ∨ x ∈ l := by
  have h : ∀ x, x ∈ l ↔ x ∈ l.takeWhile (fun x => decide (x.2.2 ≤ r.2.2)) ∨ x ∈ l.dropWhile (fun x => decide (x.2.2 ≤ r.2.2)) := fun x => by
    conv => lhs; rw [← List.takeWhile_append_dropWhile (p := fun x : RowT => decide (x.2.2 ≤ r.2.2)) (l := l), List.mem_append]
  rw [h x]
  unfold insS
  rw [List.mem_append, List.mem_cons]
  constructor
  · rintro (h | h | h)
    · exact .inr (.inl h)
    · exact .inl h
    · exact .inr (.inr h)
  · rintro (h | h | h)
    · exact .inr (.inl h)
    · exact .inl h
    · exact .inr (.inr h)
theorem mem_foldl_insS : ∀ (M l : List RowT) (x : RowT), x ∈ M.foldl insS l ↔ x ∈ M ∨ x ∈ l
  | [], l, x => by simp
  | r :: M, l, x => by
    rw [List.foldl_cons, mem_foldl_insS M, mem_insS, List.mem_cons]
    constructor
    · rintro (h | h | h)
      · exact .inl (.inr h)
      · exact .inl (.inl h)
      · exact .inr h
    · rintro ((h | h) | h)
      · exact .inr (.inl h)
      · exact .inl h
      · exact .inr (.inr h)
theorem mem_shelfX {L : List RowT} {at_ : Int} {x : RowT} : x ∈ shelfX L at_ ↔ x ∈ L ∧ x.2.1 = at_ := by
  unfold shelfX
  rw [mem_foldl_insS, List.mem_filter]
  simp
theorem mem_twinsX {L : List RowT} {d : List UInt8} {k : List UInt8 × Nat} : k ∈ twinsX L d ↔ k.1 = d ∧ ∃ p, (k, p) ∈ L := by
  unfold twinsX
  rw [List.mem_map]
  constructor
  · rintro ⟨r, hr, rfl⟩
    rw [List.mem_filter] at hr
    exact ⟨by simpa using hr.2, r.2, hr.1⟩
  · rintro ⟨h, p, hp⟩
    exact ⟨(k, p), List.mem_filter.2 ⟨hp, by simpa using h⟩, rfl⟩
theorem hasX_iff {L : List RowT} {k : List UInt8 × Nat} : hasX L k = true ↔ ∃ p, (k, p) ∈ L := by
  unfold hasX
  rw [List.any_eq_true]
  constructor
  · rintro ⟨r, hr, h⟩
    have h : r.1 = k := by simpa using h
    exact ⟨r.2, by rw [← h]; exact hr⟩
  · rintro ⟨p, hp⟩
    exact ⟨(k, p), hp, by simp⟩
end Go.Proofs.Ytmnjaocdhelebaa
