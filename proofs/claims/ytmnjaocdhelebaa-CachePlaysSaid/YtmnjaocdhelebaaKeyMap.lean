/- What a map reads a key as. No statement of the seat is proved here. -/
import Derived.Test.YtmnjaocdhelebaaKeys
import Derived.Maps.OwnSet
import Derived.Maps.OwnOps
import Derived.DeepKeys4
namespace Go.Proofs.Ytmnjaocdhelebaa
open Go.ChangeShapes Go.WideShapes Go.ChangeAt Go.RowKit Go.Deep Go.Joins Go.Maps

theorem laidKeys : laidOutB Try.prog = true := by kernel_rfl
theorem keyLaw : Keyed Try.prog 27 := Keyed.of_law (deep_law_laid laidKeys (m := 5) (by decide) (of_decide_eq_true (by kernel_rfl)) (by kernel_rfl) (by kernel_rfl))
theorem mapM_all {α β : Type} {f : α → Option β} {g : α → β} : ∀ {l : List α}, (∀ x ∈ l, f x = some (g x)) → l.mapM f = some (l.map g)
  | [], _ => rfl
  | x :: l, h => by
    rw [List.mapM_cons, h x (by simp), mapM_all (l := l) fun y hy => h y (by simp [hy])]
    rfl
theorem lits_byte (D : Nat) (b : UInt8) : Try.prog.keyLits (D + 1) 5 [.int .u8 b.toNat] = some [.int .u8 b.toNat] := by
  unfold Program.keyLits
  have := b.toNat_lt
  have hw : (Lit.int .u8 (b.toNat : Nat)).wf = true := WalkArith.wf_u8 (by omega)
  simp [Try.underlying5, hw]
theorem lits_num (D : Nat) (N : Nat) (h : N < 4294967296) : Try.prog.keyLits (D + 1) 25 [.int .u32 N] = some [.int .u32 N] := by
  unfold Program.keyLits
  have hw : (Lit.int .u32 (N : Nat)).wf = true := WalkArith.wf_u32 (by omega)
  simp [Try.underlying25, hw]
theorem flat_one {α β : Type} (f : α → β) : ∀ l : List α, (l.map fun x => [f x]).flatten = l.map f
  | [] => rfl
  | x :: l => by rw [List.map_cons, List.flatten_cons, flat_one f l]; rfl
theorem range_get (s : List UInt8) (f : UInt8 → Lit) {n : Nat} (h : s.length = n) : (List.range n).map (fun i => f (s.getD i 0)) = s.map f := by
  apply List.ext_getElem (by simp [h])
  intro j j1 j2
  simp only [List.length_map] at j2
  simp [List.getD, j2]
theorem lits_sum (D : Nat) (s : List UInt8) (h : s.length = 32) : Try.prog.keyLits (D + 2) 24 (bv s) = some (s.map fun b => .int .u8 b.toNat) := by
  obtain ⟨_, _, _, _, _, _, _, _, hS, _, h8⟩ := key_fields
  unfold Program.keyLits
  simp only [Try.underlying24]
  rw [if_pos (by rw [bv_length, h, hS]), h8]
  rw [mapM_all (g := fun i => [.int .u8 (s.getD i 0).toNat]) fun i hi => ?_]
  · rw [Option.map_some, flat_one (fun i => Lit.int .u8 (s.getD i 0).toNat), range_get s (fun b => Lit.int .u8 b.toNat) h]
  · have hi : i < 32 := List.mem_range.1 hi
    have e : ((bv s).drop (i * 1)).take 1 = [.int .u8 (s.getD i 0).toNat] := by
      rw [Nat.mul_one, List.drop_eq_getElem_cons (by rw [bv_length]; omega)]
      simp [bv, List.getD, show i < s.length by omega]
    rw [e]
    exact lits_byte D _
theorem lits_key (D : Nat) {k : KeyT} (h : k.Ok) : Try.prog.keyLits (D + 3) 27 (kcs k) = some ((k.1.map fun b => .int .u8 b.toNat) ++ [.int .u32 k.2]) := by
  have hL := lits_sum D k.1 h.1
  generalize (k.1.map fun b => Lit.int .u8 b.toNat) = L at *
  obtain ⟨f0, f1, hs, e0, e1, o0, o1, hC, hS, h4, _⟩ := key_fields
  have hnm : (match Try.prog.underlying 27 with | some (.struct fs) => fs.all (·.name != "_") | _ => false) = true := by kernel_rfl
  rw [hs] at hnm
  · unfold Program.keyLits
    simp only [hs]
    rw [if_pos ⟨by rw [hC, kcs_length h], hnm⟩]
    have t0 : ((kcs k).drop 0).take 32 = bv k.1 := by
      rw [List.drop_zero, kcs, List.take_append_of_le_length (by rw [bv_length, h.1]; exact Nat.le_refl _), List.take_of_length_le (by rw [bv_length, h.1]; exact Nat.le_refl _)]
    have t1 : ((kcs k).drop 32).take 1 = [.int .u32 k.2] := by
      rw [kcs, List.drop_append_of_le_length (by rw [bv_length, h.1]; exact Nat.le_refl _), List.drop_of_length_le (by rw [bv_length, h.1]; exact Nat.le_refl _)]
      rfl
    rw [mapM_all (g := fun f => if f.offset = 0 then L else [.int .u32 k.2]) fun f hf => ?_]
    · simp [o0, o1]
    · have hf2 : f = f0 ∨ f = f1 := by simpa using hf
      rcases hf2 with rfl | rfl
      · rw [e0, o0, hS, t0, hL]; rfl
      · rw [e1, o1, h4, t1, lits_num (D + 1) k.2 h.2]; rfl
/-- What a map reads a key as. -/
def kl (k : KeyT) : Lit := .string (keyBytes ((k.1.map fun b => .int .u8 b.toNat) ++ [.int .u32 k.2]))
theorem kl_is {k : KeyT} (h : k.Ok) : keyOf Try.prog 27 (.agg (kcs k).toArray) = some (kl k) := by
  obtain ⟨D, hD⟩ : ∃ D, Try.prog.types.size + 1 = D + 3 := ⟨Try.prog.types.size - 2, by have : 2 ≤ Try.prog.types.size := of_decide_eq_true (by kernel_rfl); omega⟩
  have hL := lits_key D h
  obtain ⟨f0, f1, hs, e0, e1, o0, o1, hC, _⟩ := key_fields
  have hk : Try.prog.keyType 27 = true := by kernel_rfl
  have hf : (Value.agg (kcs k).toArray).formed Try.prog 27 = true := by
    simp only [Value.formed, hs, hC, List.size_toArray, kcs_length h]; rfl
  unfold keyOf kl
  simp only [hs, hk, hf, Bool.and_self, if_true, hD]
  show Option.map _ (Try.prog.keyLits (D + 3) 27 (kcs k)) = _
  rw [hL]; rfl
theorem kl_key {k : KeyT} (h : k.Ok) : WideAt.IsKeyLit (kl k) := keyLaw.key (kl_is h)
theorem kl_inj {a b : KeyT} (ha : a.Ok) (hb : b.Ok) (h : kl a = kl b) : a = b := by
  have := keyLaw.inj (kl_is ha) (h ▸ kl_is hb)
  injection this with this
  have h2 : (kcs a).toArray.toList = (kcs b).toArray.toList := by rw [this]
  exact kcs_inj ha hb h2
theorem kl_same {a b : KeyT} (ha : a.Ok) (hb : b.Ok) : (kl a).sameKey (kl b) = decide (a = b) := by
  by_cases h : a = b
  · subst h; simp [WideAt.sameKey_self (kl_key ha)]
  · rw [sameKey_ne (fun e => h (kl_inj ha hb e))]; simp [h]
/-- The datum of a set of keys. -/
def kset (xs : List KeyT) : DataW Unit := setOf (.agg []) (xs.map kl)
theorem kset_snoc (xs : List KeyT) (k : KeyT) : kset (xs ++ [k]) = (kset xs).put (kl k) (.agg []) := by simp [kset, setOf_snoc]
theorem addKey_fold {xs : List KeyT} : ∀ (acc : List KeyT), (∀ x ∈ acc, x.Ok) → (∀ x ∈ xs, x.Ok) → ∃ r : List KeyT, (xs.map kl).foldl addKey (acc.map kl) = (acc ++ r).map kl ∧ r.length ≤ xs.length ∧ (∀ x ∈ r, x ∈ xs) ∧
    ((acc ++ xs).Nodup → r = xs) ∧ (acc.Nodup → r.length = xs.length → (acc ++ xs).Nodup) := by
  induction xs with
  | nil => intro acc _ _; exact ⟨[], by simp, by simp, by simp, fun _ => rfl, fun h _ => by simpa using h⟩
  | cons x xs ih =>
    intro acc ha hx
    have hxo : x.Ok := hx x (by simp)
    have hany : (acc.map kl).any (fun y => y.sameKey (kl x)) = decide (x ∈ acc) := by
      rw [List.any_map, Bool.eq_iff_iff, List.any_eq_true, decide_eq_true_eq]
      constructor
      · rintro ⟨y, hy, h⟩
        simp only [Function.comp, kl_same (ha y hy) hxo, decide_eq_true_eq] at h
        exact h ▸ hy
      · intro h
        exact ⟨x, h, by simp [kl_same hxo hxo]⟩
    rw [List.map_cons, List.foldl_cons, addKey, hany]
    by_cases h : x ∈ acc
    · simp only [h, decide_true, if_true]
      obtain ⟨r, h1, h2, h3, h4, h5⟩ := ih acc ha (fun y hy => hx y (by simp [hy]))
      refine ⟨r, h1, by simp; omega, fun y hy => by simp [h3 y hy], fun hn => ?_, fun _ hl => by simp at hl; omega⟩
      exact absurd rfl ((List.nodup_append.1 hn).2.2 x h x (by simp))
    · simp only [h, decide_false, Bool.false_eq_true, if_false]
      obtain ⟨r, h1, h2, h3, h4, h5⟩ := ih (acc ++ [x]) (fun y hy => by rcases List.mem_append.1 hy with hy | hy; exact ha y hy; rw [List.mem_singleton.1 hy]; exact hxo) (fun y hy => hx y (by simp [hy]))
      refine ⟨x :: r, by simpa using h1, by simp; omega, fun y hy => by rcases List.mem_cons.1 hy with rfl | hy; simp; simp [h3 y hy], fun hn => ?_, fun hn hl => ?_⟩
      · rw [h4 (by simpa using hn)]
      · have := h5 (by rw [List.nodup_append]; exact ⟨hn, by simp, fun a ha' b hb => by rw [List.mem_singleton.1 hb]; rintro rfl; exact h ha'⟩) (by simpa using hl)
        simpa using this
theorem size_kset (xs : List KeyT) (h : ∀ x ∈ xs, x.Ok) : (Maps.size (kset xs) < xs.length ↔ ¬ xs.Nodup) ∧ Maps.size (kset xs) ≤ xs.length := by
  obtain ⟨r, h1, h2, h3, h4, h5⟩ := addKey_fold (xs := xs) [] (by simp) h
  have e : Maps.size (kset xs) = r.length := by
    rw [kset, size_setOf _ _ fun l hl => by obtain ⟨x, hx, rfl⟩ := List.mem_map.1 hl; exact kl_key (h x hx)]
    have := congrArg List.length h1
    simpa using this
  rw [e]
  refine ⟨⟨fun hl hn => ?_, fun hn => ?_⟩, h2⟩
  · rw [h4 (by simpa using hn)] at hl; omega
  · rcases Nat.lt_or_ge r.length xs.length with hl | hl
    · exact hl
    · exact absurd (by simpa using h5 (by simp) (by omega)) hn
/-- The datum of a map from keys to numbers, filled one by one. -/
def kmap (al : List (KeyT × Nat)) : DataW Unit := al.foldl (fun m x => m.put (kl x.1) (.lit (.int .i64 (x.2 : Nat)))) (.map [])
theorem kmap_snoc (al : List (KeyT × Nat)) (k : KeyT) (n : Nat) : kmap (al ++ [(k, n)]) = (kmap al).put (kl k) (.lit (.int .i64 (n : Nat))) := by simp [kmap, List.foldl_append]
theorem rev_rec {α : Type} {P : List α → Prop} (h0 : P []) (hs : ∀ l x, P l → P (l ++ [x])) : ∀ l, P l := fun l => by
  have key : ∀ n (l : List α), l.length = n → P l := fun n => by
    induction n with
    | zero => intro l hl; rw [List.eq_nil_of_length_eq_zero hl]; exact h0
    | succ n ih =>
      intro l hl
      have hne : l ≠ [] := fun e => by rw [e] at hl; simp at hl
      rw [← List.dropLast_concat_getLast hne]
      exact hs _ _ (ih _ (by rw [List.length_dropLast]; omega))
  exact key _ l rfl
theorem kmap_tidy (al : List (KeyT × Nat)) (h : ∀ x ∈ al, x.1.Ok) : Tidy (kmap al) := by
  induction al using rev_rec with
  | h0 => exact tidy_empty
  | hs al x ih =>
    obtain ⟨k, n⟩ := x
    rw [kmap_snoc]
    exact (ih fun y hy => h y (by simp [hy])).put (kl_key (h (k, n) (by simp))) _
/-- What it has, where no key stands twice. -/
theorem kmap_has (al : List (KeyT × Nat)) (h : ∀ x ∈ al, x.1.Ok) {k : KeyT} (hk : k.Ok) : Maps.has (kmap al) (kl k) = decide (k ∈ al.map (·.1)) := by
  induction al using rev_rec with
  | h0 => simp [kmap, Maps.has]
  | hs al x ih =>
    obtain ⟨k', n⟩ := x
    have hk' : k'.Ok := h (k', n) (by simp)
    rw [kmap_snoc]
    by_cases e : k = k'
    · subst e
      rw [has_put_same (kmap_tidy al fun y hy => h y (by simp [hy])).isMap (kl_key hk)]
      simp
    · rw [has_put_other (fun h' => e (kl_inj hk hk' h')), ih fun y hy => h y (by simp [hy])]
      simp [e]
theorem kmap_at (al : List (KeyT × Nat)) (h : ∀ x ∈ al, x.1.Ok) (hn : (al.map (·.1)).Nodup) {k : KeyT} {n : Nat} (hk : (k, n) ∈ al) (z : DataW Unit) : (kmap al).atKey (kl k) z = .lit (.int .i64 (n : Nat)) := by
  induction al using rev_rec with
  | h0 => simp at hk
  | hs al x ih =>
    obtain ⟨k', n'⟩ := x
    have hk' : k'.Ok := h (k', n') (by simp)
    have hko : k.Ok := h (k, n) hk
    rw [List.map_append, List.nodup_append] at hn
    rw [kmap_snoc]
    rcases List.mem_append.1 hk with hk | hk
    · have hne : k ≠ k' := hn.2.2 k (List.mem_map.2 ⟨_, hk, rfl⟩) k' (by simp)
      rw [atKey_put_other (fun h' => hne (kl_inj hko hk' h'))]
      exact ih (fun y hy => h y (by simp [hy])) hn.1 hk
    · have := List.mem_singleton.1 hk
      injection this with e1 e2
      subst e1 e2
      exact atKey_put_same (kmap_tidy al fun y hy => h y (by simp [hy])).isMap (kl_key hko) _ _
theorem kmap_size (al : List (KeyT × Nat)) (h : ∀ x ∈ al, x.1.Ok) (hn : (al.map (·.1)).Nodup) : Maps.size (kmap al) = al.length := by
  induction al using rev_rec with
  | h0 => rfl
  | hs al x ih =>
    obtain ⟨k, n⟩ := x
    have h' : ∀ y ∈ al, y.1.Ok := fun y hy => h y (by simp [hy])
    rw [List.map_append, List.nodup_append] at hn
    rw [kmap_snoc, size_put (kmap_tidy al h'), kmap_has al h' (h (k, n) (by simp)), ih h' hn.1]
    have : ¬ k ∈ al.map (·.1) := fun hm => hn.2.2 k hm k (by simp) rfl
    simp [this]
end Go.Proofs.Ytmnjaocdhelebaa
