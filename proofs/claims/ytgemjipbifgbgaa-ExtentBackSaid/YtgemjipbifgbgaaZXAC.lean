/- Plain mathematics for package extent: lists of parts, their slices, their joins. No statement of the seat is proved here; nothing of the program is imported. -/
import Derived.Test.YtgemjipbifgbgaaZXAA
import Derived.Test.YtgemjipbifgbgaaZXAB
import Derived.ChangeKeysEq
import Derived.Laws.StructEq
import Derived.Lib.QuietBelow
import Derived.BigQuiet
import Derived.Deep.MidRow
namespace Go.Proofs.Ytgemjipbifgbgaa
set_option linter.unusedVariables false

/-- An extent is told as a key, an offset, a length (the cells of a row). -/
def okE (r : RowT) : Bool := decide (0 ≤ r.2.1 ∧ 1 ≤ r.2.2 ∧ r.2.1 + r.2.2 ≤ 4096)
def rightE (l : List RowT) : Bool := decide (l.length ≤ 16384) && l.all okE
def sumE (l : List RowT) : Int := (l.map fun r => r.2.2).sum
def totalE (l : List RowT) : Int := if rightE l = true then sumE l else 0
/-- The part of an extent that begins at 'at' within the bytes from lo on, up to hi. -/
def partE (lo hi at_ : Int) (r : RowT) : List RowT := if max lo at_ < min hi (at_ + r.2.2) then [(r.1, (r.2.1 + (max lo at_ - at_), min hi (at_ + r.2.2) - max lo at_))] else []
def cutE (lo hi : Int) : Int → List RowT → List RowT
  | _, [] => []
  | at_, r :: l => partE lo hi at_ r ++ cutE lo hi (at_ + r.2.2) l
def sliceE (l : List RowT) (off n : Int) : List RowT := if rightE l = true then cutE off (off + n) 0 l else []
def goesOn (x y : RowT) : Bool := decide (x.1 = y.1 ∧ x.2.1 + x.2.2 = y.2.1)
def glue (out : List RowT) (x : RowT) : List RowT := match out.getLast? with
  | some y => if goesOn y x = true then out.dropLast ++ [(x.1, (y.2.1, y.2.2 + x.2.2))] else out ++ [x]
  | none => out ++ [x]
def joinE (ls : List (List RowT)) : List RowT := if ls.all rightE = true ∧ rightE (ls.flatten.foldl glue []) = true then ls.flatten.foldl glue [] else []

theorem okE_iff {r : RowT} : okE r = true ↔ 0 ≤ r.2.1 ∧ 1 ≤ r.2.2 ∧ r.2.1 + r.2.2 ≤ 4096 := by unfold okE; simp
theorem rightE_iff {l : List RowT} : rightE l = true ↔ l.length ≤ 16384 ∧ ∀ r ∈ l, okE r = true := by unfold rightE; simp
theorem sumE_cons (r : RowT) (l : List RowT) : sumE (r :: l) = r.2.2 + sumE l := by simp [sumE]
theorem sumE_append (a b : List RowT) : sumE (a ++ b) = sumE a + sumE b := by simp [sumE]
theorem sumE_nonneg {l : List RowT} (h : ∀ r ∈ l, okE r = true) : 0 ≤ sumE l := by
  induction l with
  | nil => simp [sumE]
  | cons r l ih =>
    rw [sumE_cons]
    have h1 := okE_iff.1 (h r (by simp))
    have := ih fun x hx => h x (by simp [hx])
    omega
theorem sumE_le {l : List RowT} (h : ∀ r ∈ l, okE r = true) : sumE l ≤ 4096 * l.length := by
  induction l with
  | nil => simp [sumE]
  | cons r l ih =>
    rw [sumE_cons, List.length_cons]
    have h1 := okE_iff.1 (h r (by simp))
    have := ih fun x hx => h x (by simp [hx])
    omega
theorem cutE_append (lo hi at_ : Int) : ∀ a b : List RowT, cutE lo hi at_ (a ++ b) = cutE lo hi at_ a ++ cutE lo hi (at_ + sumE a) b
  | [], b => by simp [cutE, sumE]
  | r :: a, b => by
    rw [List.cons_append, cutE, cutE, cutE_append lo hi (at_ + r.2.2) a b, sumE_cons, List.append_assoc, Int.add_assoc]
theorem partE_all {lo hi at_ : Int} {r : RowT} (h : okE r = true) (h1 : lo ≤ at_) (h2 : at_ + r.2.2 ≤ hi) : partE lo hi at_ r = [r] := by
  have h0 := okE_iff.1 h
  unfold partE
  rw [show max lo at_ = at_ by omega, show min hi (at_ + r.2.2) = at_ + r.2.2 by omega, if_pos (by omega)]
  simp only [List.cons.injEq, and_true]
  refine Prod.ext rfl (Prod.ext ?_ ?_)
  · show r.2.1 + (at_ - at_) = r.2.1; omega
  · show at_ + r.2.2 - at_ = r.2.2; omega
theorem partE_low {lo hi at_ : Int} {r : RowT} (h2 : at_ + r.2.2 ≤ lo) : partE lo hi at_ r = [] := by
  unfold partE
  rw [if_neg (by omega)]
theorem partE_high {lo hi at_ : Int} {r : RowT} (h2 : hi ≤ at_) : partE lo hi at_ r = [] := by
  unfold partE
  rw [if_neg (by omega)]
theorem cutE_all {lo hi : Int} : ∀ {l : List RowT} {at_ : Int}, (∀ r ∈ l, okE r = true) → lo ≤ at_ → at_ + sumE l ≤ hi → cutE lo hi at_ l = l
  | [], _, _, _, _ => rfl
  | r :: l, at_, h, h1, h2 => by
    have h0 := okE_iff.1 (h r (by simp))
    have hn := sumE_nonneg (l := l) fun x hx => h x (by simp [hx])
    rw [sumE_cons] at h2
    rw [cutE, partE_all (h r (by simp)) h1 (by omega), cutE_all (fun x hx => h x (by simp [hx])) (by omega) (by omega)]
    rfl
theorem cutE_low {lo hi : Int} : ∀ {l : List RowT} {at_ : Int}, (∀ r ∈ l, okE r = true) → at_ + sumE l ≤ lo → cutE lo hi at_ l = []
  | [], _, _, _ => rfl
  | r :: l, at_, h, h2 => by
    have h0 := okE_iff.1 (h r (by simp))
    have hn := sumE_nonneg (l := l) fun x hx => h x (by simp [hx])
    rw [sumE_cons] at h2
    rw [cutE, partE_low (by omega), cutE_low (fun x hx => h x (by simp [hx])) (by omega)]
    rfl
theorem cutE_high {lo hi : Int} : ∀ {l : List RowT} {at_ : Int}, (∀ r ∈ l, okE r = true) → hi ≤ at_ → cutE lo hi at_ l = []
  | [], _, _, _ => rfl
  | r :: l, at_, h, h2 => by
    have h0 := okE_iff.1 (h r (by simp))
    rw [cutE, partE_high h2, cutE_high (fun x hx => h x (by simp [hx])) (by omega)]
    rfl
/-- A slice has as many bytes as there are in its range. -/
theorem cutE_sum {lo hi : Int} : ∀ {l : List RowT} {at_ : Int}, (∀ r ∈ l, okE r = true) → sumE (cutE lo hi at_ l) = max 0 (min hi (at_ + sumE l) - max lo at_)
  | [], at_, _ => by simp [cutE, sumE]; omega
  | r :: l, at_, h => by
    have h0 := okE_iff.1 (h r (by simp))
    have hn := sumE_nonneg (l := l) fun x hx => h x (by simp [hx])
    rw [cutE, sumE_append, cutE_sum (fun x hx => h x (by simp [hx])), sumE_cons]
    unfold partE
    split
    · simp only [sumE, List.map_cons, List.map_nil, List.sum_cons, List.sum_nil]
      simp only [sumE] at hn
      omega
    · simp only [sumE, List.map_nil, List.sum_nil]
      simp only [sumE] at hn
      omega
theorem partE_ok {lo hi at_ : Int} {r x : RowT} (h : okE r = true) (hx : x ∈ partE lo hi at_ r) : okE x = true ∧ x.1 = r.1 := by
  have h0 := okE_iff.1 h
  unfold partE at hx
  split at hx
  · rw [List.mem_singleton.1 hx]
    refine ⟨okE_iff.2 ?_, rfl⟩
    simp only
    omega
  · cases hx
theorem partE_length (lo hi at_ : Int) (r : RowT) : (partE lo hi at_ r).length ≤ 1 := by
  unfold partE
  split <;> simp
theorem cutE_ok {lo hi : Int} : ∀ {l : List RowT} {at_ : Int} {x : RowT}, (∀ r ∈ l, okE r = true) → x ∈ cutE lo hi at_ l → okE x = true ∧ ∃ r ∈ l, x.1 = r.1
  | [], _, _, _, hx => by cases hx
  | r :: l, at_, x, h, hx => by
    rw [cutE] at hx
    rcases List.mem_append.1 hx with hx | hx
    · obtain ⟨h1, h2⟩ := partE_ok (h r (by simp)) hx
      exact ⟨h1, r, by simp, h2⟩
    · obtain ⟨h1, y, hy, h2⟩ := cutE_ok (fun x hx => h x (by simp [hx])) hx
      exact ⟨h1, y, by simp [hy], h2⟩
theorem cutE_length (lo hi : Int) : ∀ (l : List RowT) (at_ : Int), (cutE lo hi at_ l).length ≤ l.length
  | [], _ => by simp [cutE]
  | r :: l, at_ => by
    rw [cutE, List.length_append, List.length_cons]
    have := partE_length lo hi at_ r
    have := cutE_length lo hi l (at_ + r.2.2)
    omega
theorem cutE_right {lo hi at_ : Int} {l : List RowT} (h : rightE l = true) : rightE (cutE lo hi at_ l) = true := by
  obtain ⟨h1, h2⟩ := rightE_iff.1 h
  exact rightE_iff.2 ⟨Nat.le_trans (cutE_length _ _ _ _) h1, fun x hx => (cutE_ok h2 hx).1⟩
theorem rightE_nil : rightE [] = true := by decide
theorem slice_right (l : List RowT) (off n : Int) : rightE (sliceE l off n) = true := by
  unfold sliceE
  split
  · rename_i h
    exact cutE_right h
  · exact rightE_nil
/-- A slice's total. -/
theorem slice_total (l : List RowT) {off n : Int} (h0 : 0 ≤ off) (hn : 0 ≤ n) : totalE (sliceE l off n) = max 0 (min n (totalE l - off)) := by
  unfold totalE
  rw [if_pos (slice_right l off n)]
  unfold sliceE
  split
  · rename_i h
    rw [cutE_sum (rightE_iff.1 h).2]
    omega
  · simp [sumE]
    omega
/-- A slice of a slice: told where the slice's bytes begin. -/
theorem cut_cut {lo hi a b : Int} (ha : 0 ≤ a) : ∀ {l : List RowT} {at_ bt : Int}, (∀ r ∈ l, okE r = true) → bt = max 0 (min hi at_ - lo) → lo ≤ hi →
    cutE a b bt (cutE lo hi at_ l) = cutE (lo + a) (min hi (lo + b)) at_ l
  | [], _, _, _, _, _ => rfl
  | r :: l, at_, bt, h, hb, hle => by
    have h0 := okE_iff.1 (h r (by simp))
    have hr : ∀ x ∈ l, okE x = true := fun x hx => h x (by simp [hx])
    rw [cutE, cutE, cutE_append]
    by_cases hc : max lo at_ < min hi (at_ + r.2.2)
    · have e1 : partE lo hi at_ r = [(r.1, (r.2.1 + (max lo at_ - at_), min hi (at_ + r.2.2) - max lo at_))] := by unfold partE; rw [if_pos hc]
      have e2 : sumE (partE lo hi at_ r) = min hi (at_ + r.2.2) - max lo at_ := by rw [e1]; simp [sumE]
      have hb2 : bt = max lo at_ - lo := by omega
      rw [cut_cut ha hr (at_ := at_ + r.2.2) (bt := bt + sumE (partE lo hi at_ r)) (by rw [e2]; omega) hle]
      congr 1
      rw [e1, cutE, cutE, List.append_nil]
      unfold partE
      simp only
      by_cases hd : max a bt < min b (bt + (min hi (at_ + r.2.2) - max lo at_))
      · rw [if_pos hd, if_pos (by omega)]
        simp only [List.cons.injEq, and_true]
        refine Prod.ext rfl (Prod.ext ?_ ?_)
        · show r.2.1 + (max lo at_ - at_) + (max a bt - bt) = r.2.1 + (max (lo + a) at_ - at_); omega
        · show min b (bt + (min hi (at_ + r.2.2) - max lo at_)) - max a bt = min (min hi (lo + b)) (at_ + r.2.2) - max (lo + a) at_; omega
      · rw [if_neg hd, if_neg (by omega)]
    · have e1 : partE lo hi at_ r = [] := by unfold partE; rw [if_neg hc]
      have e2 : partE (lo + a) (min hi (lo + b)) at_ r = [] := by unfold partE; rw [if_neg (by omega)]
      rw [e1, e2]
      simp only [cutE, List.nil_append, sumE, List.map_nil, List.sum_nil, Int.add_zero]
      exact cut_cut ha hr (by omega) hle
theorem slice_slice (l : List RowT) {off n from_ m : Int} (h0 : 0 ≤ off) (hn : 0 ≤ n) (hf : 0 ≤ from_) (hm : 0 ≤ m) : sliceE (sliceE l off n) from_ m = sliceE l (off + from_) (min m (n - from_)) := by
  have hr := slice_right l off n
  unfold sliceE at hr ⊢
  rw [if_pos hr]
  split
  · rename_i h
    rw [cut_cut hf (rightE_iff.1 h).2 (at_ := 0) (bt := 0) (by omega) (by omega)]
    congr 1
    omega
  · rfl
/-- None goes on where the one ahead of it ends. -/
def Apart (l : List RowT) : Prop := ∀ i (h : i + 1 < l.length), goesOn l[i] l[i + 1] = false
theorem glue_snoc {out : List RowT} {x : RowT} (h : ∀ y, out.getLast? = some y → goesOn y x = false) : glue out x = out ++ [x] := by
  unfold glue
  cases hl : out.getLast? with
  | none => rfl
  | some y => simp only [h y hl]; rfl
theorem glue_apart : ∀ {l out : List RowT}, Apart (out ++ l) → l.foldl glue out = out ++ l
  | [], out, _ => by simp
  | x :: l, out, h => by
    have h1 : glue out x = out ++ [x] := glue_snoc fun y hy => by
      rw [List.getLast?_eq_getElem?] at hy
      have hlen : 0 < out.length := by
        rcases Nat.eq_zero_or_pos out.length with h0 | h0
        · rw [List.eq_nil_of_length_eq_zero h0] at hy; cases hy
        · exact h0
      have hy2 : out[out.length - 1]'(by omega) = y := by
        rw [List.getElem?_eq_getElem (by omega)] at hy
        injection hy
      have := h (out.length - 1) (by simp; omega)
      rw [List.getElem_append_left (by omega), hy2] at this
      rw [List.getElem_append_right (by omega)] at this
      simpa [show out.length - 1 + 1 - out.length = 0 by omega] using this
    rw [List.foldl_cons, h1, glue_apart (by rw [List.append_assoc]; exact h), List.append_assoc]
    rfl
theorem glue_nil {l : List RowT} (h : Apart l) : l.foldl glue [] = l := glue_apart (out := []) h
/-- An extent that was cut in two is one again. -/
theorem glue_two {A B : List RowT} {k : List UInt8 × Nat} {o x y : Int} (h : Apart (A ++ (k, (o, x + y)) :: B)) : (A ++ [(k, (o, x))] ++ ((k, (o + x, y)) :: B)).foldl glue [] = A ++ (k, (o, x + y)) :: B := by
  have hA : Apart (A ++ [(k, (o, x))]) := fun i hi => by
    rw [List.length_append, List.length_singleton] at hi
    have := h i (by simp; omega)
    rw [List.getElem_append_left (by omega)] at this ⊢
    rcases Nat.lt_or_ge (i + 1) A.length with h2 | h2
    · rw [List.getElem_append_left h2] at this ⊢
      exact this
    · rw [List.getElem_append_right h2] at this ⊢
      simp only [show i + 1 - A.length = 0 by omega, List.getElem_cons_zero] at this ⊢
      unfold goesOn at this ⊢
      exact this
  rw [List.foldl_append, glue_nil hA, List.foldl_cons]
  have e : glue (A ++ [(k, (o, x))]) (k, (o + x, y)) = A ++ [(k, (o, x + y))] := by
    unfold glue
    rw [List.getLast?_append]
    simp [goesOn]
  rw [e, glue_apart (by rw [List.append_assoc]; exact h), List.append_assoc]
  rfl
/-- Where k lies among the bytes. -/
theorem split_at : ∀ {l : List RowT} {k : Int}, (∀ r ∈ l, okE r = true) → 0 ≤ k → k ≤ sumE l → (∃ A B, l = A ++ B ∧ sumE A = k) ∨ ∃ A r B, l = A ++ r :: B ∧ sumE A < k ∧ k < sumE A + r.2.2
  | [], k, _, h0, hk => .inl ⟨[], [], rfl, by simp [sumE] at hk ⊢; omega⟩
  | r :: l, k, h, h0, hk => by
    have hr := okE_iff.1 (h r (by simp))
    rw [sumE_cons] at hk
    rcases Int.lt_or_le k r.2.2 with h1 | h1
    · rcases Int.lt_or_le 0 k with h2 | h2
      · exact .inr ⟨[], r, l, rfl, by simp [sumE]; omega, by simp [sumE]; omega⟩
      · exact .inl ⟨[], r :: l, rfl, by simp [sumE]; omega⟩
    · rcases split_at (l := l) (k := k - r.2.2) (fun x hx => h x (by simp [hx])) (by omega) (by omega) with ⟨A, B, e, hs⟩ | ⟨A, x, B, e, hs1, hs2⟩
      · exact .inl ⟨r :: A, B, by rw [e]; rfl, by rw [sumE_cons]; omega⟩
      · exact .inr ⟨r :: A, x, B, by rw [e]; rfl, by rw [sumE_cons]; omega, by rw [sumE_cons]; omega⟩
/-- What is ahead of k, and what is from k on: cut out where k is an edge. -/
theorem cut_edge {A B : List RowT} (h : ∀ r ∈ A ++ B, okE r = true) : cutE 0 (sumE A) 0 (A ++ B) = A ∧ cutE (sumE A) (sumE (A ++ B)) 0 (A ++ B) = B := by
  have hA : ∀ r ∈ A, okE r = true := fun r hr => h r (by simp [hr])
  have hB : ∀ r ∈ B, okE r = true := fun r hr => h r (by simp [hr])
  have n1 := sumE_nonneg hA
  have n2 := sumE_nonneg hB
  rw [cutE_append, cutE_append, sumE_append]
  constructor
  · rw [cutE_all hA (by omega) (by omega), cutE_high hB (by omega), List.append_nil]
  · rw [cutE_low hA (by omega), cutE_all hB (by omega) (by omega), List.nil_append]
/-- And where k is within r. -/
theorem cut_mid {A B : List RowT} {r : RowT} {k : Int} (h : ∀ x ∈ A ++ r :: B, okE x = true) (h1 : sumE A < k) (h2 : k < sumE A + r.2.2) :
    cutE 0 k 0 (A ++ r :: B) = A ++ [(r.1, (r.2.1, k - sumE A))] ∧ cutE k (sumE (A ++ r :: B)) 0 (A ++ r :: B) = (r.1, (r.2.1 + (k - sumE A), r.2.2 - (k - sumE A))) :: B := by
  have hA : ∀ r ∈ A, okE r = true := fun r hr => h r (by simp [hr])
  have hB : ∀ r ∈ B, okE r = true := fun x hx => h x (by simp [hx])
  have hr := okE_iff.1 (h r (by simp))
  have n1 := sumE_nonneg hA
  have n2 := sumE_nonneg hB
  rw [cutE_append, cutE_append, sumE_append, sumE_cons, cutE, cutE]
  constructor
  · rw [cutE_all hA (by omega) (by omega), cutE_high hB (by omega), List.append_nil]
    congr 1
    unfold partE
    rw [if_pos (by omega)]
    simp only [List.cons.injEq, and_true]
    refine Prod.ext rfl (Prod.ext ?_ ?_) <;> simp only <;> omega
  · rw [cutE_low hA (by omega), cutE_all hB (by omega) (by omega), List.nil_append]
    rw [← List.singleton_append (l := B)]
    congr 1
    unfold partE
    rw [if_pos (by omega)]
    simp only [List.cons.injEq, and_true]
    refine Prod.ext rfl (Prod.ext ?_ ?_) <;> simp only <;> omega
/-- An extent list cut in two at k and joined is what it was. -/
theorem glue_cut {l : List RowT} {k : Int} (h : ∀ r ∈ l, okE r = true) (ha : Apart l) (h0 : 0 ≤ k) (hk : k ≤ sumE l) : (cutE 0 k 0 l ++ cutE k (sumE l) 0 l).foldl glue [] = l := by
  rcases split_at h h0 hk with ⟨A, B, rfl, rfl⟩ | ⟨A, r, B, rfl, h1, h2⟩
  · rw [(cut_edge h).1, (cut_edge h).2, glue_nil ha]
  · rw [(cut_mid h h1 h2).1, (cut_mid h h1 h2).2]
    have e : (r.1, (r.2.1, (k - sumE A) + (r.2.2 - (k - sumE A)))) = r := Prod.ext rfl (Prod.ext rfl (by simp only; omega))
    have := glue_two (A := A) (B := B) (k := r.1) (o := r.2.1) (x := k - sumE A) (y := r.2.2 - (k - sumE A)) (by rw [e]; exact ha)
    rw [e] at this
    exact this
/-- An empty range; a range's ends where nothing lies behind them. -/
theorem cutE_none {lo hi : Int} (h : hi ≤ lo) : ∀ (l : List RowT) (at_ : Int), cutE lo hi at_ l = []
  | [], _ => rfl
  | r :: l, at_ => by
    rw [cutE, cutE_none h l, List.append_nil]
    unfold partE
    rw [if_neg (by omega)]
theorem cutE_lo {lo lo' hi : Int} : ∀ {l : List RowT} {at_ : Int}, (∀ r ∈ l, okE r = true) → lo ≤ at_ → lo' ≤ at_ → cutE lo hi at_ l = cutE lo' hi at_ l
  | [], _, _, _, _ => rfl
  | r :: l, at_, h, h1, h2 => by
    have hr := okE_iff.1 (h r (by simp))
    rw [cutE, cutE, cutE_lo (lo := lo) (lo' := lo') (fun x hx => h x (by simp [hx])) (by omega) (by omega)]
    congr 1
    unfold partE
    rw [show max lo at_ = at_ by omega, show max lo' at_ = at_ by omega]
theorem cutE_hi {lo hi hi' : Int} : ∀ {l : List RowT} {at_ : Int}, (∀ r ∈ l, okE r = true) → at_ + sumE l ≤ hi → at_ + sumE l ≤ hi' → cutE lo hi at_ l = cutE lo hi' at_ l
  | [], _, _, _, _ => rfl
  | r :: l, at_, h, h1, h2 => by
    have hr := okE_iff.1 (h r (by simp))
    have hn := sumE_nonneg (l := l) fun x hx => h x (by simp [hx])
    rw [sumE_cons] at h1 h2
    rw [cutE, cutE, cutE_hi (hi := hi) (hi' := hi') (fun x hx => h x (by simp [hx])) (by omega) (by omega)]
    congr 1
    unfold partE
    rw [show min hi (at_ + r.2.2) = at_ + r.2.2 by omega, show min hi' (at_ + r.2.2) = at_ + r.2.2 by omega]
theorem cut_snoc {lo hi : Int} {l : List RowT} {j : Nat} (hj : j < l.length) : cutE lo hi 0 (l.take (j + 1)) = cutE lo hi 0 (l.take j) ++ partE lo hi (sumE (l.take j)) l[j] := by
  rw [List.take_succ_eq_append_getElem hj, cutE_append, Int.zero_add, cutE, cutE, List.append_nil]
/-- The ranges that a search for a list's bytes comes to. -/
theorem slice_none {l : List RowT} {off n : Int} (h : n ≤ 0 ∨ rightE l = false ∨ off + n ≤ 0 ∨ totalE l ≤ max 0 off) : sliceE l off n = [] := by
  unfold sliceE
  split
  · rename_i hr
    have ho := (rightE_iff.1 hr).2
    rcases h with h | h | h | h
    · exact cutE_none (by omega) _ _
    · rw [h] at hr; cases hr
    · exact cutE_high ho (by omega)
    · unfold totalE at h
      rw [if_pos hr] at h
      rcases Int.le_total off 0 with h0 | h0
      · rw [cutE_lo (lo' := 0) ho (by omega) (by omega)]
        exact cutE_low ho (by omega)
      · exact cutE_low ho (by omega)
  · rfl
theorem slice_from {l : List RowT} (hr : rightE l = true) {off n lo hi : Int} (hlo : lo = max 0 off) (hhi : hi = min (totalE l) (off + n)) : sliceE l off n = cutE lo hi 0 l := by
  have ho := (rightE_iff.1 hr).2
  unfold totalE at hhi
  rw [if_pos hr] at hhi
  unfold sliceE
  rw [if_pos hr]
  have e1 : cutE off (off + n) 0 l = cutE lo (off + n) 0 l := by
    rcases Int.le_total off 0 with h | h
    · exact cutE_lo ho (by omega) (by omega)
    · rw [show lo = off by omega]
  rw [e1]
  rcases Int.le_total (off + n) (sumE l) with h | h
  · rw [show hi = off + n by omega]
  · exact cutE_hi ho (by omega) (by omega)

/-- An extent's bytes; a list's. -/
def rowB (r : RowT) : List UInt8 := r.1.1 ++ be 4 r.1.2 ++ be 2 r.2.1.toNat ++ be 2 r.2.2.toNat
def layE (l : List RowT) : List UInt8 := be 4 l.length ++ l.flatMap rowB
theorem rowB_length {r : RowT} (h : r.1.1.length = 32) : (rowB r).length = 40 := by simp [rowB, be_length, h]
theorem layE_length {l : List RowT} (h : ∀ r ∈ l, r.1.1.length = 32) : (layE l).length = 4 + 40 * l.length := by
  unfold layE
  rw [List.length_append, be_length]
  congr 1
  induction l with
  | nil => rfl
  | cons r l ih =>
    rw [List.flatMap_cons, List.length_append, rowB_length (h r (by simp)), ih fun x hx => h x (by simp [hx]), List.length_cons]
    omega
/-- What is laid when j extents are. -/
def layJ (l : List RowT) (j : Nat) : List UInt8 := be 4 l.length ++ (l.take j).flatMap rowB
theorem layJ_zero (l : List RowT) : layJ l 0 = be 4 l.length := by simp [layJ]
theorem layJ_step {l : List RowT} {j : Nat} (hj : j < l.length) : layJ l (j + 1) = layJ l j ++ l[j].1.1 ++ be 4 l[j].1.2 ++ be 2 l[j].2.1.toNat ++ be 2 l[j].2.2.toNat := by
  unfold layJ
  rw [List.take_succ_eq_append_getElem hj, List.flatMap_append, List.flatMap_singleton]
  simp [rowB]
theorem layJ_end (l : List RowT) : layJ l l.length = layE l := by
  unfold layJ layE
  rw [List.take_of_length_le (Nat.le_refl _)]
end Go.Proofs.Ytgemjipbifgbgaa
/- Extents (api.Extent) in memory, two of them compared. No statement of the seat is proved here. -/
namespace Go.Proofs.Ytgemjipbifgbgaa
open Go.ChangeShapes Go.WideShapes Go.ChangeAt Go.RowKit Go.Deep Go.Joins Go.Maps
set_option linter.unusedVariables false

set_option maxRecDepth 100000 in
theorem ext_fields : ∃ f0 f1 f2 : Field, Try.prog.underlying 51 = some (.struct #[f0, f1, f2]) ∧ f0.type = 49 ∧ f1.type = 3 ∧ f2.type = 3 ∧ f0.offset = 0 ∧ f1.offset = 33 ∧ f2.offset = 34 ∧ Try.prog.cellsOf 51 = 35 ∧ Try.prog.cellsOf 49 = 33 ∧ Try.prog.cellsOf 3 = 1 := by
  refine ⟨_, _, _, Try.underlying51, ?_, ?_, ?_, ?_, ?_, ?_, ?_, ?_, ?_⟩ <;> kernel_rfl
theorem ext_desc : ∃ fs, Try.prog.underlying 51 = some (.struct fs) := ⟨_, Try.underlying51⟩
theorem ext_size : (Try.prog.info? 51).map (·.size) = some 35 := by kernel_rfl
section
variable {H : Type} {enc : TypeId × Value → H} {w : World} {base : Nat} {sp : Nat → Bool} {held : Bool}
set_option maxRecDepth 100000 in
theorem ext_cells {fuel : Nat} {cs : List Value} {x : DataW H × List MemPlace} (h : DataW.trod enc Try.prog w base sp held fuel 51 cs = some x) : ∃ r : RowT, cs = rcs r ∧ r.Ok := by
  obtain ⟨f0, f1, f2, hs, e0, e1, e2, o0, o1, o2, hC, hK, hI⟩ := ext_fields
  obtain ⟨xs, n, _, _, hl, hxl, hf⟩ := DataW.trod_struct hs h
  have h0 := hf 0 f0 rfl
  have h1 := hf 1 f1 rfl
  have h2 := hf 2 f2 rfl
  rw [e0, o0, hK] at h0
  rw [e1, o1, hI] at h1
  rw [e2, o2, hI] at h2
  have hxl2 : xs.length = 3 := hxl
  rw [List.getElem?_eq_getElem (by omega)] at h0 h1 h2
  rw [hC] at hl
  obtain ⟨s, N, hk, hsl, hN⟩ := key_cells h0
  obtain ⟨z1, c1, _, w1⟩ := DataW.trod_int Try.underlying3 h1
  obtain ⟨z2, c2, _, w2⟩ := DataW.trod_int Try.underlying3 h2
  rw [List.drop_zero] at hk
  refine ⟨((s, N), (z1, z2)), ?_, ⟨⟨hsl, hN⟩, in64 w1, in64 w2⟩⟩
  have e : cs = cs.take 33 ++ ((cs.drop 33).take 1 ++ (cs.drop 34).take 1) := by
    have a1 : (cs.drop 34).take 1 = cs.drop 34 := List.take_of_length_le (by rw [List.length_drop]; omega)
    have a2 : (cs.drop 33).take 1 ++ cs.drop 34 = cs.drop 33 := by
      have := List.take_append_drop 1 (cs.drop 33)
      rwa [List.drop_drop] at this
    rw [a1, a2, List.take_append_drop]
  rw [e, hk, c1, c2]
  rfl
theorem open_exts_arg {fuel : Nat} {a : Option Addr} {len cap : Nat} {x : DataW H × List MemPlace}
    (h : DataW.trod enc Try.prog w base (fun _ => true) true fuel 22 (Value.slice a len cap).cells.toList = some x) :
    ∃ ls : List RowT, len = ls.length ∧ RdRw w w.heap.size a ls ∧ ls.length ≤ cap ∧ cap ≤ maxLen ∧ True := by
  obtain ⟨f0, f1, f2, hs, e0, e1, e2, o0, o1, o2, hC, _⟩ := ext_fields
  obtain ⟨zs, h1, h2, h3, h4, h5⟩ := open_rows rcs RowT.Ok Try.underlying22 hC (by omega) (fun n cs y hy => ext_cells hy) h
  exact ⟨zs, h1, ⟨h2, h5⟩, h3, h4, trivial⟩
end
theorem lits_eint (D : Nat) (x : Int) (h : In64 x) : Try.prog.keyLits (D + 1) 3 [.int .i64 x] = some [.int .i64 x] := by
  unfold Program.keyLits
  have hw : (Lit.int .i64 x).wf = true := by simp [Lit.wf, IntKind.min, IntKind.max, IntKind.signed, IntKind.bits]; have := h.1; have := h.2; omega
  simp [Try.underlying3, hw]
theorem lits_ext (D : Nat) {r : RowT} (h : r.Ok) : Try.prog.keyLits (D + 4) 51 (rcs r) = some (((r.1.1.map fun b => .int .u8 b.toNat) ++ [.int .u32 r.1.2]) ++ [.int .i64 r.2.1, .int .i64 r.2.2]) := by
  have hL := lits_key D h.key
  generalize ((r.1.1.map fun b => Lit.int .u8 b.toNat) ++ [Lit.int .u32 r.1.2]) = L at *
  obtain ⟨f0, f1, f2, hs, e0, e1, e2, o0, o1, o2, hC, hK, hI⟩ := ext_fields
  have hnm : (match Try.prog.underlying 51 with | some (.struct fs) => fs.all (·.name != "_") | _ => false) = true := by kernel_rfl
  rw [hs] at hnm
  unfold Program.keyLits
  simp only [hs]
  rw [if_pos ⟨by rw [hC, rcs_length h], hnm⟩]
  have t0 : ((rcs r).drop 0).take 33 = kcs r.1 := by
    rw [List.drop_zero, rcs]; exact List.take_left' (kcs_length h.key)
  have t1 : ((rcs r).drop 33).take 1 = [.int .i64 r.2.1] := by
    rw [rcs, List.drop_left' (kcs_length h.key)]; rfl
  have t2 : ((rcs r).drop 34).take 1 = [.int .i64 r.2.2] := by
    rw [show (34 : Nat) = 33 + 1 from rfl, ← List.drop_drop, rcs, List.drop_left' (kcs_length h.key)]; rfl
  rw [mapM_all (g := fun f => if f.offset = 0 then L else if f.offset = 33 then [.int .i64 r.2.1] else [.int .i64 r.2.2]) fun f hf => ?_]
  · simp [o0, o1, o2]
  · have hf2 : f = f0 ∨ f = f1 ∨ f = f2 := by simpa using hf
    rcases hf2 with rfl | rfl | rfl
    · rw [e0, o0, hK, t0, hL]; rfl
    · rw [e1, o1, hI, t1, lits_eint (D + 2) r.2.1 h.shelf]; rfl
    · rw [e2, o2, hI, t2, lits_eint (D + 2) r.2.2 h.slot]; rfl
def xl (r : RowT) : Lit := .string (keyBytes (((r.1.1.map fun b => .int .u8 b.toNat) ++ [.int .u32 r.1.2]) ++ [.int .i64 r.2.1, .int .i64 r.2.2]))
theorem xl_is {r : RowT} (h : r.Ok) : keyOf Try.prog 51 (.agg (rcs r).toArray) = some (xl r) := by
  obtain ⟨D, hD⟩ : ∃ D, Try.prog.types.size + 1 = D + 4 := ⟨Try.prog.types.size - 3, by have : 3 ≤ Try.prog.types.size := of_decide_eq_true (by kernel_rfl); omega⟩
  have hL := lits_ext D h
  obtain ⟨f0, f1, f2, hs, e0, e1, e2, o0, o1, o2, hC, _⟩ := ext_fields
  have hk : Try.prog.keyType 51 = true := by kernel_rfl
  have hf : (Value.agg (rcs r).toArray).formed Try.prog 51 = true := by
    simp only [Value.formed, hs, hC, List.size_toArray, rcs_length h]; rfl
  unfold keyOf xl
  simp only [hs, hk, hf, Bool.and_self, if_true, hD]
  show Option.map _ (Try.prog.keyLits (D + 4) 51 (rcs r)) = _
  rw [hL]; rfl
theorem extLaw : Keyed Try.prog 51 := Keyed.of_law (deep_law_laid laidKeys (m := 6) (by decide) (of_decide_eq_true (by kernel_rfl)) (by kernel_rfl) (by kernel_rfl))
theorem xl_inj {a b : RowT} (ha : a.Ok) (hb : b.Ok) (h : xl a = xl b) : a = b := by
  have := extLaw.inj (xl_is ha) (h ▸ xl_is hb)
  injection this with this
  have h2 : (rcs a).toArray.toList = (rcs b).toArray.toList := by rw [this]
  exact rcs_inj ha hb h2
set_option maxRecDepth 100000 in
theorem ext_eq {a b : RowT} (ha : a.Ok) (hb : b.Ok) (w : World) : (Op.equal 51 (.agg (rcs a).toArray) (.agg (rcs b).toArray)).run Try.prog w = .ok (decide (a = b)) w := by
  obtain ⟨r, hr, hi⟩ := run_equal_deep (P := Try.prog) w (m := 6) (by decide) (k := 51) (by kernel_rfl) (by kernel_rfl) (xl_is ha) (xl_is hb)
  rw [hr]
  congr 1
  cases r
  · symm; rw [decide_eq_false_iff_not]; intro h; subst h; exact absurd (hi.2 rfl) (by simp)
  · symm; rw [decide_eq_true_iff]; exact xl_inj ha hb (hi.1 rfl)
theorem ext_guard : Try.prog.eqGuardType Try.prog.depth 51 = false := by kernel_rfl
end Go.Proofs.Ytgemjipbifgbgaa
/- Whole rows: an array of bytes loaded in a region that draws, two arrays of bytes compared. No statement of the seat is proved here. -/
namespace Go.Proofs.Ytgemjipbifgbgaa
open Go.RowKit

section
variable {P : Program}
theorem run_equal_bytes {t e : TypeId} {n : Nat} {i : TypeInfo} (hu : P.underlying t = some (.array n e)) (he : P.underlying e = some (.int .u8)) (hi : P.info? e = some i) (hc : P.cellsOf e = 1)
    (a b : List UInt8) (ha : a.length = n) (hb : b.length = n) (w : World) : (Op.equal t (.agg (bv a).toArray) (.agg (bv b).toArray)).run P w = .ok (decide (a = b)) w := by
  have hp : P.plainKey e = true := by unfold Program.plainKey; rw [he]
  have lits : ∀ l : List UInt8, l.length = n → (List.range n).mapM (fun i => P.keyLits 1 e (((bv l).toArray.toList.drop (i * P.cellsOf e)).take (P.cellsOf e))) = some (l.map fun x => [Lit.int .u8 x.toNat]) := fun l hl => by
    rw [hc]
    have h1 : ∀ i, i < n → P.keyLits 1 e (((bv l).toArray.toList.drop (i * 1)).take 1) = some [Lit.int .u8 ((l.getD i 0).toNat : Nat)] := fun i hin => by
      have hd : ((bv l).drop (i * 1)).take 1 = [.int .u8 (((l.getD i 0).toNat : Nat) : Int)] := by
        rw [Nat.mul_one, List.drop_eq_getElem_cons (by rw [bv_length]; omega)]
        simp [bv, List.getD, show i < l.length by omega]
      have hx : (l.getD i 0).toNat < 256 := (l.getD i 0).toNat_lt
      generalize (l.getD i 0).toNat = y at *
      show P.keyLits 1 e (((bv l).drop (i * 1)).take 1) = _
      rw [hd]
      unfold Program.keyLits
      rw [he]
      simp only [true_and]
      rw [if_pos (by simp [Lit.wf, IntKind.min, IntKind.max, IntKind.signed, IntKind.bits]; omega)]
    have h2 : ∀ L : List Nat, (∀ i ∈ L, i < n) → L.mapM (fun i => P.keyLits 1 e (((bv l).toArray.toList.drop (i * 1)).take 1)) = some (L.map fun i => [Lit.int .u8 ((l.getD i 0).toNat : Nat)]) := fun L => by
      induction L with
      | nil => intro _; rfl
      | cons x L ih =>
        intro h
        rw [List.mapM_cons, h1 x (h x (by simp)), ih fun i hi => h i (by simp [hi])]
        rfl
    rw [h2 _ fun i hi => by simpa using hi]
    congr 1
    apply List.ext_getElem
    · simp [hl]
    · intro i h3 h4
      simp at h3 h4
      simp [List.getD, show i < l.length by omega]
  obtain ⟨r, hr, hiff⟩ := run_eqItems_plain (P := P) w 9998 hp (bv a).toArray (bv b).toArray (D := 1) (D' := 1) (List.range n) _ _ (lits a ha) (lits b hb)
  show (Op.equalIn (9999 + 1) t (.agg (bv a).toArray) (.agg (bv b).toArray)).run P w = _
  rw [run_equalIn_array w 9999 _ _ hu hi]
  rw [show (9999 : Nat) = 9998 + 1 from rfl, hr]
  congr 1
  have hf : ∀ l : List UInt8, (l.map fun x => [Lit.int .u8 (x.toNat : Nat)]).flatten = l.map fun x => Lit.int .u8 (x.toNat : Nat) := fun l => by
    induction l with
    | nil => rfl
    | cons x l ih => simp [ih]
  rw [hf, hf] at hiff
  have hinj : (a.map fun x => Lit.int .u8 (x.toNat : Nat)) = (b.map fun x => Lit.int .u8 (x.toNat : Nat)) ↔ a = b := by
    constructor
    · intro h
      refine List.map_inj_right (f := fun x : UInt8 => Lit.int .u8 (x.toNat : Nat)) (fun x y hxy => ?_) |>.1 h
      injection hxy with _ h2
      exact UInt8.toNat_inj.1 (by omega)
    · intro h; rw [h]
  rw [hinj] at hiff
  cases r
  · symm; rw [decide_eq_false_iff_not]; intro h; exact absurd (hiff.2 h) (by simp)
  · symm; rw [decide_eq_true_iff]; exact hiff.1 rfl

/-- A whole row, loaded in a region that draws its order. -/
theorem quiet_load_row {C : World → Prop} {next : Act → Prop} {o : Oper} {a a' : Act} (ty : TypeId) (x : Operand) (ho : o.op = .load ty x) (ad : Addr) (hx : a.eval x = .pointer (some ad)) (cs : Array Value)
    (h : ∀ w, C w → (loadVar ty ad).run P w = .ok (.agg cs) w) (ha : a.put o.dst (.agg cs) = a') (hn : next a') : o.quiet P a C next := by
  subst ha
  refine ⟨.agg cs, fun w hw => ?_, hn⟩
  unfold Oper.quietAt execOp
  simp only [ho, hx, Instr.loadAt, Instr.sureAddr, Sem.run_bind, Sem.run_pure, Result.andThen_ok, h w hw]
  exact ⟨rfl, rfl⟩
/-- Two rows told apart, in a region that draws its order. -/
theorem quiet_neq_row {P : Program} {C : World → Prop} {next : Act → Prop} {o : Oper} {a a' : Act} (ty u : TypeId) (x y : Operand) (ho : o.op = .binOp .neq ty x y u) (xs ys : Array Value) (hx : a.eval x = .agg xs) (hy : a.eval y = .agg ys)
    (hg : P.eqGuardType P.depth ty = false) (r : Bool) (h : ∀ w, (Op.equal ty (.agg xs) (.agg ys)).run P w = .ok r w) (ha : a.put o.dst (.bool !r) = a') (hn : next a') : o.quiet P a C next := by
  subst ha
  refine ⟨.bool !r, fun w hw => ?_, hn⟩
  unfold Oper.quietAt execOp
  simp only [ho, Sem.run_bind, hx, hy, run_eqGuard_agg w .neq ty x y xs ys hg, Result.andThen_ok, binOp, h w, Sem.run_pure]
  exact ⟨rfl, rfl⟩
theorem quiet_neq_lit {P : Program} {C : World → Prop} {next : Act → Prop} {o : Oper} {a a' : Act} (ty u : TypeId) (x y : Operand) (ho : o.op = .binOp .neq ty x y u) (xs ys : Array Value) (hx : a.eval x = .agg xs) (hy : a.eval y = .agg ys)
    (hg : P.eqGuardType P.depth ty = false) (r b : Bool) (hb : (!r) = b) (h : ∀ w, (Op.equal ty (.agg xs) (.agg ys)).run P w = .ok r w) (ha : a.put o.dst (.bool b) = a') (hn : next a') : o.quiet P a C next := by
  subst hb
  exact quiet_neq_row ty u x y ho xs ys hx hy hg r h ha hn
/-- One cell loaded, in a region that draws its order. -/
theorem quiet_load_any {P : Program} {C : World → Prop} {next : Act → Prop} {o : Oper} {a a' : Act} (ty : TypeId) (x : Operand) (ho : o.op = .load ty x) (ad : Addr) (hx : a.eval x = .pointer (some ad)) (v : Value)
    (h : ∀ w, C w → (loadVar ty ad).run P w = .ok v w) (ha : a.put o.dst v = a') (hn : next a') : o.quiet P a C next := by
  subst ha
  refine ⟨v, fun w hw => ?_, hn⟩
  unfold Oper.quietAt execOp
  simp only [ho, hx, Instr.loadAt, Instr.sureAddr, Sem.run_bind, Sem.run_pure, Result.andThen_ok, h w hw]
  exact ⟨rfl, rfl⟩
/-- A conversion that leaves the world, in a region that draws its order. -/
theorem quiet_convert {P : Program} {C : World → Prop} {next : Act → Prop} {o : Oper} {a a' : Act} (s t : TypeId) (x : Operand) (ho : o.op = .convert s t x) (v r : Value) (hx : a.eval x = v)
    (h : ∀ w, C w → (convert s t v).run P w = .ok r w) (ha : a.put o.dst r = a') (hn : next a') : o.quiet P a C next := by
  subst ha
  refine ⟨r, fun w hw => ?_, hn⟩
  unfold Oper.quietAt execOp
  simp only [ho, hx, Sem.run_bind, Sem.run_pure, h w hw, Result.andThen_ok]
  exact ⟨rfl, rfl⟩
/-- Two rows compared, in a region that draws its order. -/
theorem quiet_eql_row {C : World → Prop} {next : Act → Prop} {o : Oper} {a a' : Act} (ty u : TypeId) (x y : Operand) (ho : o.op = .binOp .eql ty x y u) (xs ys : Array Value) (hx : a.eval x = .agg xs) (hy : a.eval y = .agg ys)
    (hg : P.eqGuardType P.depth ty = false) (r : Bool) (h : ∀ w, (Op.equal ty (.agg xs) (.agg ys)).run P w = .ok r w) (ha : a.put o.dst (.bool r) = a') (hn : next a') : o.quiet P a C next := by
  subst ha
  refine ⟨.bool r, fun w hw => ?_, hn⟩
  unfold Oper.quietAt execOp
  simp only [ho, Sem.run_bind, hx, hy, run_eqGuard_agg w .eql ty x y xs ys hg, Result.andThen_ok, binOp, h w, Sem.run_pure]
  exact ⟨rfl, rfl⟩
/-- Two rows compared, one way. -/
theorem wpList_eql_row {ops : Array Oper} {rest : List Oper} {o : Oper} {a : Act} {w : World} {Q : Exit → Act → World → Prop} (hgd : o.guard = none) (ty u : TypeId) (x y : Operand) (ho : o.op = .binOp .eql ty x y u)
    (xs ys : Array Value) (hx : a.eval x = .agg xs) (hy : a.eval y = .agg ys) (hg : P.eqGuardType P.depth ty = false) (r : Bool) (h : (Op.equal ty (.agg xs) (.agg ys)).run P w = .ok r w)
    (hn : wpList P ops Q rest (a.put o.dst (.bool r)) w) : wpList P ops Q (o :: rest) a w :=
  wpList_plain hgd fun K hK => by
    unfold Oper.wp execOp
    simp only [ho, Sem.run_bind, hx, hy, run_eqGuard_agg w .eql ty x y xs ys hg, Result.andThen_ok, binOp, h, Sem.run_pure]
    exact hK _ _ hn
end
end Go.Proofs.Ytgemjipbifgbgaa
/- Calls and cells told from a base world, for regions whose calls return plain values. No statement of the seat is proved here. -/
namespace Go.Proofs.Ytgemjipbifgbgaa
open Go.RowKit Go.Sort

theorem from_base {P : Program} {f : FuncId} {args : Array Value} {w : World} {v : Value} (h : ∀ W, Below w.heap.size w W → Calls P f args W fun e w' => e = .returned v ∧ Below W.heap.size W w') (d : Nat) (os : Array Obj) :
    Calls P f args (grow (redrawn w d) os) fun e w'' => e = .returned v ∧ ∃ p : Regrown, w'' = grow (redrawn w p.d) p.os :=
  (h _ (below_regrown w d os)).mono fun _ _ ⟨he, hb⟩ => ⟨he, regrown_of_below ((below_regrown w d os).trans (hb.mono (below_regrown w d os).size))⟩
theorem cell_base {w : World} {g i : Nat} {v : Value} (h : w.cell? ⟨g, i, none⟩ = some v) (d : Nat) (os : Array Obj) : (grow (redrawn w d) os).cell? ⟨g, i, none⟩ = some v :=
  ((below_regrown w d os).cell (p := ⟨g, i, none⟩) (World.block_lt_of_cell? w _ h)).trans h
/-- The world behind such a region, by name. -/
theorem regrown_some (w : World) (p : Regrown) : ∃ w', grow (redrawn w p.d) p.os = w' ∧ Below w.heap.size w w' := ⟨_, rfl, below_regrown w p.d p.os⟩
/-- A range of cells in every world behind, as a quiet region asks for it. -/
theorem rng_base {w : World} {b off : Nat} {cs : List Value} (h : ∀ W, Below w.heap.size w W → W.rangeAt b off cs) (W : World) (hW : ∃ p : Regrown, W = grow (redrawn w p.d) p.os) : W.rangeAt b off cs := by
  obtain ⟨p, rfl⟩ := hW
  exact h _ (below_regrown w p.d p.os)
end Go.Proofs.Ytgemjipbifgbgaa
/- append of a slice whose bytes can be read, onto a slice of the call's own. No statement of the seat is proved here. -/
namespace Go.Proofs.Ytgemjipbifgbgaa
open Go.RowKit

section
variable {P : Program} (w : World)
theorem run_append_of_nil (base : Nat) (t ty e : TypeId) (i : TypeInfo) (size : Nat) (ht : P.underlying t = some (.slice e)) (hi : P.info? e = some i)
    (v : Value) (n : Nat) (xs : List Value) (hown : w.ownsRow base e size v n xs) (c : Nat) : (Builtin.append_ #[t, t] ty #[v, .slice none 0 c]).run P w = .ok v w := by
  rcases hown.2 with ⟨rfl, rfl⟩ | ⟨g, cap, cur, rfl, _, _, hnc, _⟩
  · simp [Builtin.append_, run_underlying ht, sizeOf, typeInfo, hi, Builtin.lenOf, Builtin.firstCells]
  · simp [Builtin.append_, run_underlying ht, sizeOf, typeInfo, hi, Builtin.lenOf, Builtin.firstCells, hnc, storeCells]

theorem run_append_more (t ty : TypeId) (base : Nat) (e : TypeId) (i : TypeInfo) (ht : P.underlying t = some (.slice e)) (hi : P.info? e = some i) (hz : i.zero = some (.int .u8 0)) (hsize : i.size = 1) (hby : i.bytes = 1)
    (v : Value) (n : Nat) (xs : List Value) (hown : w.ownsRow base e 1 v n xs)
    (B : Nat) (A : Option Addr) (c k : Nat) (l : List UInt8) (hk : l.length = k) (hr : Rd w B A l) (hl : n + l.length ≤ 140737488355328) (hbase : base ≤ w.heap.size) :
    ∃ A' c' w', (Builtin.append_ #[t, t] ty #[v, .slice A k c]).run P w = .ok (.slice A' (n + k) c') w' ∧ w'.ownsRow base e 1 (.slice A' (n + k) c') (n + k) (xs ++ bv l) ∧ w.grownBy w' v.ownBlock := by
  subst hk
  have hrun : ∃ v' w', (Builtin.append_ #[t, t] ty #[v, .slice A l.length c]).run P w = .ok v' w' ∧ w'.ownsRow base e 1 v' (n + l.length) (xs ++ bv l) ∧ w.grownBy w' v.ownBlock := by
    rcases A with _ | ad
    · have hl0 : l = [] := by
        rcases Nat.eq_zero_or_pos l.length with h0 | h0
        · exact List.eq_nil_of_length_eq_zero h0
        · obtain ⟨_, _, e, _⟩ := hr h0; cases e
      subst hl0
      exact ⟨v, w, run_append_of_nil w base t ty e i 1 ht hi v n xs hown c, by simpa [bv] using hown, World.grownBy.refl w _⟩
    · have hcells : ∀ j u, (bv l)[j]? = some u → w.cell? (ad.add j) = some u := by
        intro j u hu
        have hj : j < l.length := by have := (List.getElem?_eq_some_iff.1 hu).1; rwa [bv_length] at this
        obtain ⟨ad', e, hc⟩ := hr.cells (by omega)
        injection e with e; subst e
        exact hc j u hu
      obtain ⟨v', w', h1, h2, h3, _⟩ := run_append_own (P := P) w base t ty e i (.int .u8 0) 1 1 ht hi hz hsize hby rfl (by decide) v n xs hown ad l.length c (bv l) (by rw [bv_length, Nat.mul_one]) hcells (bv_oneCell l) (by simp [maxLen]; omega) (by omega) hbase
      exact ⟨v', w', h1, h2, h3⟩
  obtain ⟨v', w', h1, h2, h3⟩ := hrun
  obtain ⟨A', c', rfl, _, _⟩ := ownsRow_form h2
  exact ⟨A', c', w', h1, h2, h3⟩

/-- 'append(v, b...)', v the call's own, b whatever slice whose bytes can be read: a row of the call's own that reads as v did, and b behind it. -/
theorem wpList_append_more {ops : Array Oper} {rest : List Oper} {o : Oper} {a : Act} {Q : Exit → Act → World → Prop} (hgd : o.guard = none) (s x : Operand) (t : TypeId)
    (ho : o.op = .call { callee := .builtin .append, args := #[s, x], argTypes := #[t, t] })
    (base : Nat) (e : TypeId) (i : TypeInfo) (ht : P.underlying t = some (.slice e)) (hi : P.info? e = some i) (hz : i.zero = some (.int .u8 0)) (hsize : i.size = 1) (hby : i.bytes = 1)
    (v : Value) (n : Nat) (xs : List Value) (hs : a.eval s = v) (hown : w.ownsRow base e 1 v n xs)
    (B : Nat) (A : Option Addr) (c k : Nat) (l : List UInt8) (hx : a.eval x = .slice A k c) (hk : l.length = k) (hr : Rd w B A l) (hl : n + l.length ≤ 140737488355328) (hbase : base ≤ w.heap.size)
    (h : ∀ A' c' w', w'.ownsRow base e 1 (.slice A' (n + k) c') (n + k) (xs ++ bv l) → w.grownBy w' v.ownBlock → wpList P ops Q rest (a.put o.dst (.slice A' (n + k) c')) w') : wpList P ops Q (o :: rest) a w := by
  obtain ⟨A', c', w', h1, h2, h3⟩ := run_append_more (P := P) w t o.type base e i ht hi hz hsize hby v n xs hown B A c k l hk hr hl hbase
  refine wpList_plain hgd fun K hK => ?_
  unfold Oper.wp execOp
  simp only [ho, resolve, invoke, builtin, Sem.run_bind, Sem.run_pure, Result.andThen_ok, List.map_toArray, List.map_cons, List.map_nil, hs, hx, h1]
  exact hK _ _ (h A' c' w' h2 h3)

/-- 'append([]byte{}, b...)', b whatever slice came in: a row of the call's own that reads as b did. -/
theorem wpList_append_rd {ops : Array Oper} {rest : List Oper} {o : Oper} {a : Act} {Q : Exit → Act → World → Prop} (hgd : o.guard = none) (s x : Operand) (t : TypeId)
    (ho : o.op = .call { callee := .builtin .append, args := #[s, x], argTypes := #[t, t] })
    (base : Nat) (e : TypeId) (i : TypeInfo) (ht : P.underlying t = some (.slice e)) (hi : P.info? e = some i) (hz : i.zero = some (.int .u8 0)) (hsize : i.size = 1) (hby : i.bytes = 1)
    (v : Value) (hs : a.eval s = v) (hown : w.ownsRow base e 1 v 0 [])
    (B : Nat) (A : Option Addr) (c : Nat) (l : List UInt8) (hx : a.eval x = .slice A l.length c) (hr : Rd w B A l) (hl : l.length ≤ 100000) (hbase : base ≤ w.heap.size)
    (h : ∀ A' c' w', w'.ownsRow base e 1 (.slice A' l.length c') l.length (bv l) → w.grownBy w' v.ownBlock → wpList P ops Q rest (a.put o.dst (.slice A' l.length c')) w') : wpList P ops Q (o :: rest) a w := by
  refine wpList_append_more w hgd s x t ho base e i ht hi hz hsize hby v 0 [] hs hown B A c l.length l hx rfl hr (by omega) hbase fun A' c' w' h2 h3 => ?_
  rw [Nat.zero_add] at h2 ⊢
  exact h A' c' w' h2 h3
end
end Go.Proofs.Ytgemjipbifgbgaa
