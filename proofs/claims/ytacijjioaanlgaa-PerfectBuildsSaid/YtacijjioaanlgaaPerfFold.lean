/- The groups gone through, one by one (package perfect). No statement of the seat is proved here. -/
import Derived.Test.YtacijjioaanlgaaPerfTake
import Derived.Test.YtacijjioaanlgaaPerfOrd
namespace Go.Proofs.Ytacijjioaanlgaa
open Go.RowKit
set_option linter.unusedVariables false

/-- The keys of a group, in their order. -/
def grpK (gf : KeyT → Nat) (ks : List KeyT) (i : Nat) : List KeyT := ks.filter fun k => decide (gf k = i)
/-- How many keys a group has. -/
def cntK (gf : KeyT → Nat) (ks : List KeyT) (i : Nat) : Nat := (grpK gf ks i).length
/-- What is used, each group's try, the spilled keys. -/
structure BS where
  U : Nat → Bool
  sd : Nat → Nat
  left : List KeyT
def startB : BS := ⟨fun _ => false, fun _ => 0, []⟩
def stepB (n : Nat) (gf : KeyT → Nat) (ks : List KeyT) (s : BS) (i : Nat) : BS :=
  ⟨chU n s.U (grpK gf ks i), fun j => if j = i then chD n s.U (grpK gf ks i) else s.sd j, if chD n s.U (grpK gf ks i) = 0 then s.left ++ grpK gf ks i else s.left⟩
def finB (n : Nat) (gf : KeyT → Nat) (ks : List KeyT) (O : List Nat) : BS := O.foldl (stepB n gf ks) startB
theorem finB_snoc (n : Nat) (gf : KeyT → Nat) (ks : List KeyT) (O : List Nat) (i : Nat) : finB n gf ks (O ++ [i]) = stepB n gf ks (finB n gf ks O) i := by simp [finB, List.foldl_append]
/-- The tries, as a list. -/
def sdL (G : Nat) (s : BS) : List Nat := (List.range G).map s.sd
theorem sdL_length (G : Nat) (s : BS) : (sdL G s).length = G := by simp [sdL]
theorem sdL_get {G i : Nat} (s : BS) (h : i < G) : (sdL G s)[i]? = some (s.sd i) := by simp [sdL, h]
/-- The places of the spilled keys. -/
def alB (n : Nat) (s : BS) : List (KeyT × Nat) := s.left.zip (freeL n s.U)
theorem chD_le (n : Nat) (U : Nat → Bool) (ks : List KeyT) : chD n U ks ≤ 256 := by
  unfold chD
  by_cases h : firstD (fun d => decide (Fits U (posL n d ks))) 256 = 0
  · omega
  · exact (firstD_yes h).2.2
theorem chD_fits {n : Nat} {U : Nat → Bool} {ks : List KeyT} (h : chD n U ks ≠ 0) : Fits U (posL n (chD n U ks) ks) := by
  have := (firstD_yes (q := fun d => decide (Fits U (posL n d ks))) (n := 256) h).1
  exact of_decide_eq_true this
theorem sum_groups {gf : KeyT → Nat} {O : List Nat} (hn : O.Nodup) : ∀ {l : List KeyT}, (∀ k ∈ l, gf k ∈ O) → (O.map (cntK gf l)).sum = l.length
  | [], _ => by
    have : O.map (cntK gf []) = O.map (fun _ => 0) := List.map_congr_left fun i _ => by simp [cntK, grpK]
    rw [this]
    have hz : ∀ P : List Nat, (P.map fun _ => 0).sum = 0 := fun P => by
      induction P with
      | nil => rfl
      | cons p P ih => rw [List.map_cons, List.sum_cons, ih]
    rw [hz]; rfl
  | k :: l, h => by
    have ih := sum_groups hn (l := l) fun x hx => h x (by simp [hx])
    have hk := h k (by simp)
    have e : ∀ i, cntK gf (k :: l) i = cntK gf l i + if gf k = i then 1 else 0 := fun i => by
      unfold cntK grpK
      rw [List.filter_cons]
      by_cases hi : gf k = i
      · simp [hi]
      · simp [hi]
    have hone : ∀ {P : List Nat}, P.Nodup → (P.map (cntK gf (k :: l))).sum = (P.map (cntK gf l)).sum + if gf k ∈ P then 1 else 0 := fun {P} => by
      induction P with
      | nil => intro _; simp
      | cons p P ihP =>
        intro hP
        obtain ⟨h1, h2⟩ := List.nodup_cons.1 hP
        rw [List.map_cons, List.sum_cons, ihP h2, e p, List.map_cons, List.sum_cons]
        by_cases h3 : gf k = p
        · subst h3
          simp [h1]; omega
        · simp [h3]; omega
    rw [hone hn, ih, if_pos hk, List.length_cons]
theorem freeL_mark {n : Nat} {U : Nat → Bool} {l : List Nat} (hf : Fits U l) (hl : ∀ p ∈ l, p < n) : (freeL n (markL U l)).length + l.length = (freeL n U).length := by
  have hp : (freeL n U).Perm (freeL n (markL U l) ++ l) := by
    rw [List.perm_ext_iff_of_nodup (freeL_nodup n U) ?_]
    · intro p
      rw [List.mem_append, freeL_mem, freeL_mem]
      constructor
      · rintro ⟨h1, h2⟩
        by_cases h3 : p ∈ l
        · exact .inr h3
        · exact .inl ⟨h1, by simp [markL, h2, h3]⟩
      · rintro (⟨h1, h2⟩ | h3)
        · refine ⟨h1, ?_⟩
          simp only [markL, Bool.or_eq_false_iff] at h2
          exact h2.1
        · exact ⟨hl p h3, hf.2 p h3⟩
    · refine List.nodup_append.2 ⟨freeL_nodup _ _, hf.1, fun a ha b hb e => ?_⟩
      subst e
      have := (freeL_mem.1 ha).2
      simp [markL, hb] at this
  rw [hp.length_eq, List.length_append]
/-- As many places are free as keys are left, or to come. -/
theorem fin_count (n : Nat) (hn : 0 < n) (gf : KeyT → Nat) (ks : List KeyT) (O : List Nat) : (freeL n (finB n gf ks O).U).length + (O.map (cntK gf ks)).sum = n + (finB n gf ks O).left.length := by
  have key : ∀ (P : List Nat) (s : BS), (freeL n (P.foldl (stepB n gf ks) s).U).length + (P.map (cntK gf ks)).sum + s.left.length = (freeL n s.U).length + (P.foldl (stepB n gf ks) s).left.length := fun P => by
    induction P with
    | nil => intro s; simp
    | cons i P ih =>
      intro s
      have := ih (stepB n gf ks s i)
      rw [List.foldl_cons, List.map_cons, List.sum_cons]
      by_cases h : chD n s.U (grpK gf ks i) = 0
      · have h1 : (stepB n gf ks s i).left.length = s.left.length + cntK gf ks i := by simp [stepB, h, cntK]
        have h2 : (stepB n gf ks s i).U = s.U := by simp [stepB, chU, h]
        rw [h1, h2] at this
        omega
      · have h1 : (stepB n gf ks s i).left = s.left := by simp [stepB, h]
        have h2 : (stepB n gf ks s i).U = markL s.U (posL n (chD n s.U (grpK gf ks i)) (grpK gf ks i)) := by simp [stepB, chU, h]
        have h3 := freeL_mark (chD_fits h) fun p hp => posL_lt hn hp
        rw [h1, h2] at this
        have h4 : (posL n (chD n s.U (grpK gf ks i)) (grpK gf ks i)).length = cntK gf ks i := by simp [posL, cntK]
        omega
  have := key O startB
  have h0 : (freeL n startB.U).length = n := by
    rw [freeL, List.filter_eq_self.2 (by intro a _; rfl), List.length_range]
  rw [h0] at this
  simp only [startB, List.length_nil, Nat.add_zero] at this
  exact this
theorem sum_take_le (l : List Nat) (j : Nat) : (l.take j).sum ≤ l.sum := by
  have h : (l.take j ++ l.drop j).sum = l.sum := by rw [List.take_append_drop]
  rw [List.sum_append] at h
  omega
theorem ord_nil {gf : KeyT → Nat} {G : Nat} {O : List Nat} (h : Ord (cntK gf []) G O) : O = [] :=
  List.eq_nil_iff_forall_not_mem.2 fun i hi => by
    have := ((h.mem i).1 hi).2
    simp [cntK, grpK] at this
theorem left_le1 {n G : Nat} (hn : 0 < n) {gf : KeyT → Nat} {ks : List KeyT} {O : List Nat} (ho : Ord (cntK gf ks) G O) (hg : ∀ k ∈ ks, gf k < G) (hl : ks.length = n) (j : Nat) : (finB n gf ks (O.take j)).left.length ≤ n := by
  have h1 := fin_count n hn gf ks (O.take j)
  have h2 : (O.map (cntK gf ks)).sum = n := by
    rw [sum_groups ho.nodup (l := ks) fun k hk => ?_, hl]
    rw [ho.mem]
    refine ⟨hg k hk, ?_⟩
    unfold cntK grpK
    exact List.length_pos_of_mem (List.mem_filter.2 ⟨hk, by simp⟩)
  have h3 := sum_take_le (O.map (cntK gf ks)) j
  rw [← List.map_take] at h3
  have h4 : (freeL n (finB n gf ks (O.take j)).U).length ≤ n := by
    have := List.length_filter_le (fun p => !(finB n gf ks (O.take j)).U p) (List.range n)
    rw [List.length_range] at this
    exact this
  omega
theorem left_le {n G : Nat} {gf : KeyT → Nat} {ks : List KeyT} {O : List Nat} (ho : Ord (cntK gf ks) G O) (hg : ∀ k ∈ ks, gf k < G) (hl : ks.length = n) (j : Nat) : (finB n gf ks (O.take j)).left.length ≤ n := by
  rcases Nat.eq_zero_or_pos n with h0 | h0
  · obtain rfl : ks = [] := List.eq_nil_of_length_eq_zero (by omega)
    rw [ord_nil ho, List.take_nil]
    exact Nat.zero_le _
  · exact left_le1 h0 ho hg hl j
theorem fin_free1 {n G : Nat} (hn : 0 < n) {gf : KeyT → Nat} {ks : List KeyT} {O : List Nat} (ho : Ord (cntK gf ks) G O) (hg : ∀ k ∈ ks, gf k < G) (hl : ks.length = n) : (freeL n (finB n gf ks O).U).length = (finB n gf ks O).left.length := by
  have h1 := fin_count n hn gf ks O
  rw [sum_groups ho.nodup (l := ks) fun k hk => ?_] at h1
  · omega
  · rw [ho.mem]
    refine ⟨hg k hk, ?_⟩
    unfold cntK grpK
    exact List.length_pos_of_mem (List.mem_filter.2 ⟨hk, by simp⟩)
theorem fin_free {n G : Nat} {gf : KeyT → Nat} {ks : List KeyT} {O : List Nat} (ho : Ord (cntK gf ks) G O) (hg : ∀ k ∈ ks, gf k < G) (hl : ks.length = n) : (freeL n (finB n gf ks O).U).length = (finB n gf ks O).left.length := by
  rcases Nat.eq_zero_or_pos n with h0 | h0
  · obtain rfl : ks = [] := List.eq_nil_of_length_eq_zero (by omega)
    rw [ord_nil ho, h0]
    rfl
  · exact fin_free1 h0 ho hg hl
end Go.Proofs.Ytacijjioaanlgaa
