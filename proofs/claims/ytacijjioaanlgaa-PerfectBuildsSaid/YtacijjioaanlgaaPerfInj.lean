/- The places of the keys of a Map that was built: each in its range, all different. No statement of the seat is proved here. -/
import Derived.Test.YtacijjioaanlgaaPerfPl
namespace Go.Proofs.Ytacijjioaanlgaa
open Go.RowKit Go.Maps
set_option linter.unusedVariables false

/-- What holds after the groups of P. -/
structure InvB (n : Nat) (gf : KeyT → Nat) (ks : List KeyT) (P : List Nat) (s : BS) : Prop where
  used : ∀ k ∈ ks, gf k ∈ P → s.sd (gf k) ≠ 0 → s.U (HH (s.sd (gf k)) k % n) = true
  back : ∀ q, s.U q = true → ∃ k ∈ ks, gf k ∈ P ∧ s.sd (gf k) ≠ 0 ∧ HH (s.sd (gf k)) k % n = q
  inj : ∀ a ∈ ks, ∀ b ∈ ks, gf a ∈ P → gf b ∈ P → s.sd (gf a) ≠ 0 → s.sd (gf b) ≠ 0 → HH (s.sd (gf a)) a % n = HH (s.sd (gf b)) b % n → a = b
  left : ∀ k ∈ ks, gf k ∈ P → s.sd (gf k) = 0 → k ∈ s.left
theorem inj_map {α β : Type} {f : α → β} : ∀ {l : List α}, (l.map f).Nodup → ∀ a ∈ l, ∀ b ∈ l, f a = f b → a = b
  | [], _, a, ha, _, _, _ => by simp at ha
  | x :: l, h, a, ha, b, hb, e => by
    rw [List.map_cons, List.nodup_cons] at h
    rcases List.mem_cons.1 ha with ea | ha'
    · rcases List.mem_cons.1 hb with eb | hb'
      · rw [ea, eb]
      · exact absurd (List.mem_map.2 ⟨b, hb', by rw [← ea, e]⟩) h.1
    · rcases List.mem_cons.1 hb with eb | hb'
      · exact absurd (List.mem_map.2 ⟨a, ha', by rw [← eb, e]⟩) h.1
      · exact inj_map h.2 a ha' b hb' e
theorem inv_step {n : Nat} {gf : KeyT → Nat} {ks : List KeyT} {P : List Nat} {s : BS} (h : InvB n gf ks P s) {p : Nat} (hp : p ∉ P) : InvB n gf ks (P ++ [p]) (stepB n gf ks s p) := by
  have hgrp : ∀ k ∈ ks, gf k = p → k ∈ grpK gf ks p := fun k hk e => List.mem_filter.2 ⟨hk, by simpa using e⟩
  have hsd : ∀ i, i ≠ p → (stepB n gf ks s p).sd i = s.sd i := fun i hi => by simp [stepB, hi]
  have hsp : (stepB n gf ks s p).sd p = chD n s.U (grpK gf ks p) := by simp [stepB]
  have hin : ∀ k, gf k ∈ P ++ [p] → gf k ∈ P ∨ gf k = p := fun k hk => by simpa using hk
  have hnp : ∀ k, gf k ∈ P → gf k ≠ p := fun k hk e => hp (e ▸ hk)
  by_cases h0 : chD n s.U (grpK gf ks p) = 0
  · have hU : (stepB n gf ks s p).U = s.U := by simp [stepB, chU, h0]
    have hL : (stepB n gf ks s p).left = s.left ++ grpK gf ks p := by simp [stepB, h0]
    have hne : ∀ k, gf k ∈ P ++ [p] → (stepB n gf ks s p).sd (gf k) ≠ 0 → gf k ∈ P := fun k hk hd => by
      rcases hin k hk with hk | hk
      · exact hk
      · rw [hk, hsp] at hd; exact absurd h0 hd
    refine ⟨fun k hk hi hd => ?_, fun q hq => ?_, fun a ha b hb ia ib da db e => ?_, fun k hk hi hd => ?_⟩
    · have hi := hne k hi hd
      rw [hsd _ (hnp k hi)] at hd ⊢
      rw [hU]; exact h.used k hk hi hd
    · rw [hU] at hq
      obtain ⟨k, hk, hi, hd, e⟩ := h.back q hq
      refine ⟨k, hk, by simp [hi], ?_⟩
      rw [hsd _ (hnp k hi)]
      exact ⟨hd, e⟩
    · have ia := hne a ia da
      have ib := hne b ib db
      rw [hsd _ (hnp a ia)] at da e
      rw [hsd _ (hnp b ib)] at db e
      exact h.inj a ha b hb ia ib da db e
    · rw [hL]
      rcases hin k hi with hi | hi
      · rw [hsd _ (hnp k hi)] at hd
        exact List.mem_append.2 (.inl (h.left k hk hi hd))
      · exact List.mem_append.2 (.inr (hgrp k hk hi))
  · have hU : (stepB n gf ks s p).U = markL s.U (posL n (chD n s.U (grpK gf ks p)) (grpK gf ks p)) := by simp [stepB, chU, h0]
    have hL : (stepB n gf ks s p).left = s.left := by simp [stepB, h0]
    obtain ⟨hnd, hfr⟩ := chD_fits h0
    have hpos : ∀ k ∈ ks, gf k = p → HH (chD n s.U (grpK gf ks p)) k % n ∈ posL n (chD n s.U (grpK gf ks p)) (grpK gf ks p) := fun k hk e => List.mem_map.2 ⟨k, hgrp k hk e, rfl⟩
    have hcr : ∀ a ∈ ks, ∀ b ∈ ks, gf a ∈ P → gf b = p → s.sd (gf a) ≠ 0 → HH (s.sd (gf a)) a % n ≠ HH (chD n s.U (grpK gf ks p)) b % n := fun a ha b hb ia eb da e => by
      have h1 := h.used a ha ia da
      rw [e, hfr _ (hpos b hb eb)] at h1
      cases h1
    refine ⟨fun k hk hi hd => ?_, fun q hq => ?_, fun a ha b hb ia ib da db e => ?_, fun k hk hi hd => ?_⟩
    · rw [hU]
      rcases hin k hi with hi | hi
      · rw [hsd _ (hnp k hi)] at hd ⊢
        simp [markL, h.used k hk hi hd]
      · rw [hi, hsp]
        simp [markL, hpos k hk hi]
    · rw [hU] at hq
      simp only [markL, Bool.or_eq_true, decide_eq_true_eq] at hq
      rcases hq with hq | hq
      · obtain ⟨k, hk, hi, hd, e⟩ := h.back q hq
        refine ⟨k, hk, by simp [hi], ?_⟩
        rw [hsd _ (hnp k hi)]
        exact ⟨hd, e⟩
      · obtain ⟨k, hk, e⟩ := List.mem_map.1 hq
        obtain ⟨hk1, hk2⟩ := List.mem_filter.1 hk
        have hk2 : gf k = p := by simpa using hk2
        refine ⟨k, hk1, by simp [hk2], ?_⟩
        rw [hk2, hsp]
        exact ⟨h0, e⟩
    · rcases hin a ia with ia | ia
      · rw [hsd _ (hnp a ia)] at da e
        rcases hin b ib with ib | ib
        · rw [hsd _ (hnp b ib)] at db e
          exact h.inj a ha b hb ia ib da db e
        · rw [ib, hsp] at e
          exact absurd e (hcr a ha b hb ia ib da)
      · rw [ia, hsp] at e
        rcases hin b ib with ib | ib
        · rw [hsd _ (hnp b ib)] at db e
          exact absurd e.symm (hcr b hb a ha ib ia db)
        · rw [ib, hsp] at e
          exact inj_map hnd a (hgrp a ha ia) b (hgrp b hb ib) e
    · rw [hL]
      rcases hin k hi with hi | hi
      · rw [hsd _ (hnp k hi)] at hd
        exact h.left k hk hi hd
      · rw [hi, hsp] at hd
        exact absurd hd h0
theorem inv_any (n : Nat) (gf : KeyT → Nat) (ks : List KeyT) {P : List Nat} (hP : P.Nodup) : InvB n gf ks P (finB n gf ks P) := by
  have key : ∀ (R Q : List Nat) (s : BS), (Q ++ R).Nodup → InvB n gf ks Q s → InvB n gf ks (Q ++ R) (R.foldl (stepB n gf ks) s) := fun R => by
    induction R with
    | nil => intro Q s _ h; simpa using h
    | cons p R ih =>
      intro Q s hn h
      rw [List.foldl_cons, show Q ++ p :: R = (Q ++ [p]) ++ R by simp]
      rw [show Q ++ p :: R = (Q ++ [p]) ++ R by simp] at hn
      refine ih _ _ hn (inv_step h ?_)
      have := (List.nodup_append.1 (List.nodup_append.1 hn).1).2.2
      exact fun hq => this p hq p (by simp) rfl
  have := key P [] startB (by simpa using hP) ⟨fun k _ h => by simp at h, fun q h => by simp [startB] at h, fun a _ b _ h => by simp at h, fun k _ h => by simp at h⟩
  simpa [finB] using this
section
variable {n G : Nat} {ks : List KeyT} {O : List Nat}
theorem KeysOk.mem (h : KeysOk n G ks O) {k : KeyT} (hk : k ∈ ks) : HH 0 k % G ∈ O := by
  refine (h.ord.2 _).2 ⟨Nat.mod_lt _ (by have := h.grp; omega), ?_⟩
  exact List.length_pos_of_mem (List.mem_filter.2 ⟨hk, by simp⟩)
theorem KeysOk.pos (h : KeysOk n G ks O) {k : KeyT} (hk : k ∈ ks) : 0 < n := by
  rw [← h.len]; exact List.length_pos_of_mem hk
theorem zip_mem {α β : Type} {l : List α} {m : List β} {x : α × β} (h : x ∈ l.zip m) : ∃ i : Nat, l[i]? = some x.1 ∧ m[i]? = some x.2 := by
  obtain ⟨i, hi⟩ := List.mem_iff_getElem?.1 h
  rw [List.getElem?_zip_eq_some] at hi
  exact ⟨i, hi⟩
/-- Where a key lies: at a used place, or at a free one. -/
theorem place_split (h : KeysOk n G ks O) {k : KeyT} (hk : k ∈ ks) : ∃ p : Nat, placeB n G (fB n G ks O) k = p ∧ p < n ∧
    (((fB n G ks O).sd (HH 0 k % G) ≠ 0 ∧ p = HH ((fB n G ks O).sd (HH 0 k % G)) k % n) ∨ ((fB n G ks O).sd (HH 0 k % G) = 0 ∧ (k, p) ∈ alB n (fB n G ks O))) := by
  have hn := h.pos hk
  have hinv : InvB n (fun k => HH 0 k % G) ks O (fB n G ks O) := inv_any n _ ks h.ord.nodup
  rw [placeB, if_neg (by omega)]
  by_cases h0 : (fB n G ks O).sd (HH 0 k % G) = 0
  · rw [if_neg (by omega)]
    have hl := hinv.left k hk (h.mem hk) h0
    rw [← h.fst] at hl
    obtain ⟨x, hx, hxk⟩ := List.mem_map.1 hl
    cases hf : (alB n (fB n G ks O)).find? (fun x => decide (x.1 = k)) with
    | none => exact absurd hxk (by simpa using List.find?_eq_none.1 hf x hx)
    | some y =>
      have hy := List.mem_of_find?_eq_some hf
      have hyk : y.1 = k := by simpa using List.find?_some hf
      have hy2 : (k, y.2) ∈ alB n (fB n G ks O) := by rw [← hyk]; exact hy
      obtain ⟨i, _, hi⟩ := zip_mem hy
      exact ⟨y.2, rfl, (freeL_mem.1 (List.mem_of_getElem? hi)).1, .inr ⟨h0, hy2⟩⟩
  · rw [if_pos (by omega)]
    exact ⟨_, rfl, Nat.mod_lt _ hn, .inl ⟨h0, rfl⟩⟩
/-- Two keys lie at two places. -/
theorem place_inj (h : KeysOk n G ks O) {a b : KeyT} (ha : a ∈ ks) (hb : b ∈ ks) (e : placeB n G (fB n G ks O) a = placeB n G (fB n G ks O) b) : a = b := by
  have hinv : InvB n (fun k => HH 0 k % G) ks O (fB n G ks O) := inv_any n _ ks h.ord.nodup
  obtain ⟨p, ep, hp, hpa⟩ := place_split h ha
  obtain ⟨q, eq, hq, hqb⟩ := place_split h hb
  obtain rfl : p = q := by rw [ep, eq] at e; omega
  rcases hpa with ⟨da, ea⟩ | ⟨da, ea⟩
  · rcases hqb with ⟨db, eb⟩ | ⟨db, eb⟩
    · exact hinv.inj a ha b hb (h.mem ha) (h.mem hb) da db (by rw [← eb]; exact ea.symm)
    · obtain ⟨i, _, hi⟩ := zip_mem eb
      have h1 := (freeL_mem.1 (List.mem_of_getElem? hi)).2
      have h2 := hinv.used a ha (h.mem ha) da
      have h1 : (fB n G ks O).U p = false := h1
      rw [ea] at h1
      exact absurd (h2.symm.trans h1) (by simp)
  · rcases hqb with ⟨db, eb⟩ | ⟨db, eb⟩
    · obtain ⟨i, _, hi⟩ := zip_mem ea
      have h1 := (freeL_mem.1 (List.mem_of_getElem? hi)).2
      have h2 := hinv.used b hb (h.mem hb) db
      have h1 : (fB n G ks O).U p = false := h1
      rw [eb] at h1
      exact absurd (h2.symm.trans h1) (by simp)
    · obtain ⟨i, hi1, hi2⟩ := zip_mem ea
      obtain ⟨j, hj1, hj2⟩ := zip_mem eb
      have hij : i = j := by
        obtain ⟨hi3, hi4⟩ := List.getElem?_eq_some_iff.1 hi2
        obtain ⟨hj3, hj4⟩ := List.getElem?_eq_some_iff.1 hj2
        exact (List.getElem_inj (freeL_nodup n (fB n G ks O).U)).1 (hi4.trans hj4.symm)
      subst hij
      exact Option.some.inj (hi1.symm.trans hj1)
/-- Any key's place is one of them, or none. -/
theorem place_range (h : KeysOk n G ks O) (k : KeyT) : -1 ≤ placeB n G (fB n G ks O) k ∧ (placeB n G (fB n G ks O) k < n ∨ placeB n G (fB n G ks O) k = -1) := by
  rw [placeB]
  split
  · omega
  · rename_i hn
    split
    · have : HH ((fB n G ks O).sd (HH 0 k % G)) k % n < n := Nat.mod_lt _ (by omega)
      omega
    · split
      · rename_i y hf
        obtain ⟨i, _, hi⟩ := zip_mem (List.mem_of_find?_eq_some hf)
        have := (freeL_mem.1 (List.mem_of_getElem? hi)).1
        omega
      · omega
end
end Go.Proofs.Ytacijjioaanlgaa
