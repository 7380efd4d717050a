/- A Map that was built: the place of any key. No statement of the seat is proved here. -/
import Derived.Test.YtacijjioaanlgaaPerfBuild
namespace Go.Proofs.Ytacijjioaanlgaa
open Go.RowKit Go.Maps
set_option linter.unusedVariables false

theorem sd_le (n : Nat) (gf : KeyT → Nat) (ks : List KeyT) (P : List Nat) (i : Nat) : (finB n gf ks P).sd i ≤ 256 := by
  have key : ∀ (P : List Nat) (s : BS), s.sd i ≤ 256 → (P.foldl (stepB n gf ks) s).sd i ≤ 256 := fun P => by
    induction P with
    | nil => intro s h; exact h
    | cons p P ih =>
      intro s h
      rw [List.foldl_cons]
      refine ih _ ?_
      simp only [stepB]
      split
      · exact chD_le _ _ _
      · exact h
  exact key P startB (by simp [startB])
theorem left_nodup {n : Nat} {gf : KeyT → Nat} {ks : List KeyT} (hk : ks.Nodup) {P : List Nat} (hP : P.Nodup) : (finB n gf ks P).left.Nodup := by
  have key : ∀ (P : List Nat) (s : BS), P.Nodup → s.left.Nodup → (∀ x ∈ s.left, gf x ∉ P) → (P.foldl (stepB n gf ks) s).left.Nodup := fun P => by
    induction P with
    | nil => intro s _ h _; exact h
    | cons p P ih =>
      intro s hP h1 h2
      obtain ⟨h3, h4⟩ := List.nodup_cons.1 hP
      rw [List.foldl_cons]
      have hgf : ∀ y ∈ grpK gf ks p, gf y = p := fun y hy => by simpa using (List.mem_filter.1 hy).2
      refine ih _ h4 ?_ ?_
      · simp only [stepB]
        split
        · refine List.nodup_append.2 ⟨h1, hk.filter _, fun a ha b hb e => ?_⟩
          subst e
          exact h2 a ha (by rw [hgf a hb]; simp)
        · exact h1
      · intro x hx
        simp only [stepB] at hx
        split at hx
        · rcases List.mem_append.1 hx with hx | hx
          · exact fun h => h2 x hx (by simp [h])
          · rw [hgf x hx]; exact h3
        · exact fun h => h2 x hx (by simp [h])
  exact key P startB hP (by simp [startB]) (by simp [startB])
/-- What the keys of a Map must be. -/
structure KeysOk (n G : Nat) (ks : List KeyT) (O : List Nat) : Prop where
  ord : Ord (cntK (fun k => HH 0 k % G) ks) G O
  nodup : ks.Nodup
  ok : ∀ k ∈ ks, k.Ok
  len : ks.length = n
  le : n ≤ 16384
  grp : n / 4 + 1 = G
/-- All of the groups. -/
def fB (n G : Nat) (ks : List KeyT) (O : List Nat) : BS := finB n (fun k => HH 0 k % G) ks O
section
variable {n G : Nat} {ks : List KeyT} {O : List Nat}
theorem KeysOk.free (h : KeysOk n G ks O) : (freeL n (fB n G ks O).U).length = (fB n G ks O).left.length :=
  fin_free h.ord (fun k _ => Nat.mod_lt _ (by have := h.grp; omega)) h.len
theorem KeysOk.fst (h : KeysOk n G ks O) : (alB n (fB n G ks O)).map (·.1) = (fB n G ks O).left := by
  unfold alB
  rw [List.map_fst_zip (by rw [h.free]; exact Nat.le_refl _)]
theorem KeysOk.left (h : KeysOk n G ks O) : (fB n G ks O).left.Nodup := left_nodup h.nodup h.ord.nodup
theorem KeysOk.alok (h : KeysOk n G ks O) : ∀ x ∈ alB n (fB n G ks O), x.1.Ok := fun x hx => by
  have h1 : x.1 ∈ (fB n G ks O).left := by rw [← h.fst]; exact List.mem_map.2 ⟨x, hx, rfl⟩
  exact h.ok _ (left_sub n _ ks O _ h1)
end
/-- The place of a key. -/
def placeB (n G : Nat) (s : BS) (k : KeyT) : Int :=
  if n = 0 then -1 else if 0 < s.sd (HH 0 k % G) then ((HH (s.sd (HH 0 k % G)) k % n : Nat) : Int) else match (alB n s).find? (fun x => decide (x.1 = k)) with
    | some x => (x.2 : Int)
    | none => -1
/-- In w the block mb is the Map of those keys. -/
def Built (w : World) (mb n G : Nat) (ks : List KeyT) (O : List Nat) : Prop := ∃ sb pm, PM w mb sb pm n (sdL G (fB n G ks O)) (alB n (fB n G ks O))
section
variable {w w' : World} {mb n G : Nat} {ks : List KeyT} {O : List Nat}
theorem Built.on (h : Built w mb n G ks O) (hb : Below w.heap.size w w') : Built w' mb n G ks O := by
  obtain ⟨sb, pm, h⟩ := h
  exact ⟨sb, pm, h.on hb⟩
theorem Built.lt (h : Built w mb n G ks O) : mb < w.heap.size := by
  obtain ⟨sb, pm, h⟩ := h
  exact h.mb.lt
theorem place_any (hk : KeysOk n G ks O) (k : KeyT) (hko : k.Ok) (h : Built w mb n G ks O) :
    Calls Try.prog 14 #[.pointer (some ⟨mb, 0, none⟩), .agg (kcs k).toArray] w fun e w' => e = .returned (.int .i64 (placeB n G (fB n G ks O) k)) ∧ Below w.heap.size w w' := by
  obtain ⟨sb, pm, h⟩ := h
  have hG0 : 0 < G := by have := hk.grp; omega
  have hG1 : G ≤ 16384 := by have := hk.grp; have := hk.le; omega
  by_cases hn : n = 0
  · rw [placeB, if_pos hn]
    refine place_zero mb k w ?_
    rw [h.mb.cell 0, hn]; rfl
  · rw [placeB, if_neg hn]
    have hd : (sdL G (fB n G ks O))[HH 0 k % G]? = some ((fB n G ks O).sd (HH 0 k % G)) := sdL_get _ (Nat.mod_lt _ hG0)
    have hsd : ∀ d ∈ sdL G (fB n G ks O), d < 65536 := fun d hd => by
      obtain ⟨i, _, rfl⟩ := List.mem_map.1 hd
      have : (fB n G ks O).sd i ≤ 256 := sd_le n _ ks O i
      omega
    refine place_some mb sb pm n G _ _ (sdL_length _ _) (by omega) hk.le hG0 hG1 hsd k hko _ hd w h _ ?_
    by_cases h0 : 0 < (fB n G ks O).sd (HH 0 k % G)
    · exact .inl ⟨h0, by rw [if_pos h0]⟩
    · refine .inr ⟨by omega, ?_⟩
      rw [if_neg h0]
      cases hf : (alB n (fB n G ks O)).find? (fun x => decide (x.1 = k)) with
      | some x =>
        have hx := List.mem_of_find?_eq_some hf
        have hxk : x.1 = k := by simpa using List.find?_some hf
        refine ⟨x.2, true, fun W hW => ?_, by simp⟩
        refine look_found hW hk.alok (by rw [hk.fst]; exact hk.left) ?_
        rw [← hxk]; exact hx
      | none =>
        refine ⟨0, false, fun W hW => ?_, by simp⟩
        refine look_none hW hk.alok ?_ hko
        intro hm
        obtain ⟨x, hx, hxk⟩ := List.mem_map.1 hm
        have := List.find?_eq_none.1 hf x hx
        simp [hxk] at this
theorem built_len (h : Built w mb n G ks O) : Calls Try.prog 16 #[.pointer (some ⟨mb, 0, none⟩)] w fun e w' => e = .returned (.int .i64 n) ∧ w = w' := by
  obtain ⟨sb, pm, h⟩ := h
  exact len_any mb n #[] w (h.mb.cell 0)
theorem built_spilled (hk : KeysOk n G ks O) (h : Built w mb n G ks O) : Calls Try.prog 17 #[.pointer (some ⟨mb, 0, none⟩)] w fun e w' => e = .returned (.int .i64 (fB n G ks O).left.length) ∧ w = w' := by
  obtain ⟨sb, pm, h⟩ := h
  have := spilled_any mb sb pm n _ _ hk.alok (by rw [hk.fst]; exact hk.left) w h
  rw [show (alB n (fB n G ks O)).length = (fB n G ks O).left.length by rw [← hk.fst, List.length_map]] at this
  exact this
end
theorem build_any (A : Option Addr) (ks : List KeyT) (n c G : Nat) (hl : ks.length = n) (hc : n ≤ c) (hm : c ≤ maxLen) (hn : n ≤ 16384) (hG : n / 4 + 1 = G) (hd : ks.Nodup) (w : World) (hr : RdK w w.heap.size A ks) :
    Calls Try.prog 11 #[.slice A n c] w fun e w' => ∃ (mb : Nat) (O : List Nat), e = .returned (.tuple #[.pointer (some ⟨mb, 0, none⟩), .int .i64 0]) ∧ KeysOk n G ks O ∧ Built w' mb n G ks O ∧ Below w.heap.size w w' :=
  (build_ok A ks n c G hl hc hm hn hG hd w hr).mono fun e w' ⟨mb, sb, pm, O, he, ho, hp, hb⟩ => ⟨mb, O, he, ⟨ho, hd, hr.each, hl, hn, hG⟩, ⟨sb, pm, hp⟩, hb⟩
end Go.Proofs.Ytacijjioaanlgaa
