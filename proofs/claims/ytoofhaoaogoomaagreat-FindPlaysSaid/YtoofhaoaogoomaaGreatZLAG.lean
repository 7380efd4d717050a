/- The reference's Less (cellarageref13). No statement of the seat is proved here. -/
import Derived.Test.YtoofhaoaogoomaaGreatZLAF
import Derived.Test.YtoofhaoaogoomaaGreatZLAC
import Derived.Test.YtoofhaoaogoomaaGreatZLAD
import Derived.Deep.Cut
import Derived.Maps.OwnSet
import Derived.Maps.OwnOps
import Derived.DeepKeys4
import Derived.Laws.StructEq
namespace Go.Proofs.YtoofhaoaogoomaaGreat
open Go.RowKit
set_option linter.unusedVariables false
set_option linter.unusedSimpArgs false

theorem ordK_lt {a b : List UInt8 × Nat} (ha : KeyOk a) (hb : KeyOk b) : decide (ordK a < ordK b) = (decide (val a.1 < val b.1) || (decide (a.1 = b.1) && decide (a.2 < b.2))) := by
  obtain ⟨x, m⟩ := a
  obtain ⟨y, n⟩ := b
  have h1 : m < 4294967296 := ha.2
  have h2 : n < 4294967296 := hb.2
  have hx : x.length = 32 := ha.1
  have hy : y.length = 32 := hb.1
  unfold ordK
  simp only
  by_cases e : x = y
  · subst e
    rw [decide_eq_true rfl, Bool.true_and, decide_eq_false (Nat.lt_irrefl _), Bool.false_or]
    exact decide_eq_decide.2 (by omega)
  · have h3 : val x ≠ val y := fun h => e (by rw [← be_val x, ← be_val y, hx, hy, h])
    rw [decide_eq_false e, Bool.false_and, Bool.or_false]
    exact decide_eq_decide.2 (by omega)
theorem rd_range {w : World} {b B : Nat} {l : List UInt8} (h : w.rangeAt b 0 (bv l)) (hb : b < B) : Rd w B (some ⟨b, 0, none⟩) l := fun _ => by
  refine ⟨b, 0, rfl, hb, ?_⟩
  intro j hj
  exact h j _ (by rw [bv, List.getElem?_map, List.getElem?_eq_getElem hj]; rfl)
theorem str_rg {w : World} {b : Nat} {l : List UInt8} (h : w.rangeAt b 0 (bv l)) (hb : b < w.heap.size) (hl : l.length = 32) : (convert 44 9 (.slice (some ⟨b, 0, none⟩) 32 32)).run Tryz.prog w = .ok (.string ⟨l.toArray⟩) w := by
  have := run_str (P := Tryz.prog) 44 9 5 Tryz.underlying44 Tryz.underlying5 Tryz.underlying9 (rd_range h hb) 32
  rwa [hl] at this
set_option maxRecDepth 100000 in
set_option maxHeartbeats 4000000 in
theorem rless_any (a b : KeyT) (ha : KeyT.Ok a) (hb : KeyT.Ok b) (w : World) :
    Calls Tryz.prog 80 #[kv a, kv b] w fun e w' => e = .returned (.bool (decide (ordK a < ordK b))) ∧ Below w.heap.size w w' := by
  obtain ⟨R, hR⟩ : ∃ R, decide (ordK a < ordK b) = R := ⟨_, rfl⟩
  obtain ⟨X, hX⟩ : ∃ X, kcs a = X := ⟨_, rfl⟩
  obtain ⟨Y, hY⟩ : ∃ Y, kcs b = Y := ⟨_, rfl⟩
  obtain ⟨A, hA⟩ : ∃ A, a.1 = A := ⟨_, rfl⟩
  obtain ⟨B, hB⟩ : ∃ B, b.1 = B := ⟨_, rfl⟩
  obtain ⟨m, hm⟩ : ∃ m, a.2 = m := ⟨_, rfl⟩
  obtain ⟨n, hn⟩ : ∃ n, b.2 = n := ⟨_, rfl⟩
  have hAl : A.length = 32 := by rw [← hA]; exact ha.1
  have hBl : B.length = 32 := by rw [← hB]; exact hb.1
  unfold kv
  rw [hX, hY, hR]
  obtain ⟨w1, hw1⟩ : ∃ w1, w.alloc (.cells X.toArray 29) = w1 := ⟨_, rfl⟩
  obtain ⟨kb, hkb⟩ : ∃ kb, w.heap.size = kb := ⟨_, rfl⟩
  have hb1 : Below w.heap.size w w1 := hw1 ▸ (Below.refl _ _).alloc (Nat.le_refl _) _
  have hk1 : Blk w1 kb 29 X.toArray := by rw [← hw1, ← hkb]; exact Blk.new w _ _
  obtain ⟨w2, hw2⟩ : ∃ w2, w1.alloc (.cells Y.toArray 29) = w2 := ⟨_, rfl⟩
  obtain ⟨pb, hpb⟩ : ∃ pb, w1.heap.size = pb := ⟨_, rfl⟩
  have hb2 : Below w1.heap.size w1 w2 := hw2 ▸ (Below.refl _ _).alloc (Nat.le_refl _) _
  have hk2 : Blk w2 pb 29 Y.toArray := by rw [← hw2, ← hpb]; exact Blk.new w1 _ _
  have hk3 := hk1.below hb2 hk1.lt
  have ra := range_of_blk hk3
  have rb := range_of_blk hk2
  have ca := ra 32 _ (by rw [← hX]; exact kcs_num ha)
  have cb := rb 32 _ (by rw [← hY]; exact kcs_num hb)
  rw [hm] at ca
  rw [hn] at cb
  rw [← hX] at ra
  rw [← hY] at rb
  have sa := range_sum ra
  have sb := range_sum rb
  rw [hA] at sa
  rw [hB] at sb
  have ta := str_rg sa hk3.lt hAl
  have tb := str_rg sb hk2.lt hBl
  have HBW := Lib.hid (hb1.trans (hb2.mono hb1.size))
  have HW := Lib.hid (And.intro (And.intro hw1 hkb) (And.intro hw2 (show kb + 1 = pb by rw [← hkb, ← hpb, ← hw1]; simp)))
  have HX := Lib.hid (And.intro hX hY)
  rw [Nat.zero_add] at ca cb
  have hls := less_val A B (by rw [hAl, hBl])
  have HR := Lib.hid (show R = (decide (val A < val B) || (decide (A = B) && decide (m < n))) from by
    rw [← hR, ← hA, ← hB, ← hm, ← hn]
    exact ordK_lt ha hb)
  clear hR hX hY hA hB hm hn hw1 hkb hb1 hk1 hw2 hpb hb2 hk2 hk3 ra rb sa sb
  go_enter Tryz.func80, Tryz.ntmps80
  go_upto_region 1 with fail
  rw [HW.out.1.1, HW.out.1.2, HW.out.2.1, HW.out.2.2]
  go_wp2_with fail
  all_goals go_ret
  all_goals refine ⟨?_, HBW.out⟩
  all_goals rw [HR.out]
  all_goals clear HR ta tb
  · show Ending.returned (Value.bool (decide (m < n))) = _
    rename_i h1 h2
    subst h2
    simp
  · show Ending.returned (Value.bool (decide (val A < val B))) = _
    simp_all
  · show Ending.returned (Value.bool true) = _
    simp_all
end Go.Proofs.YtoofhaoaogoomaaGreat
/- What a map reads a key as. No statement of the seat is proved here. -/
namespace Go.Proofs.YtoofhaoaogoomaaGreat
open Go.ChangeShapes Go.WideShapes Go.ChangeAt Go.RowKit Go.Deep Go.Joins Go.Maps

theorem laidKeys : laidOutB Tryz.prog = true := by kernel_rfl
theorem keyLaw : Keyed Tryz.prog 29 := Keyed.of_law (deep_law_laid laidKeys (m := 5) (by decide) (of_decide_eq_true (by kernel_rfl)) (by kernel_rfl) (by kernel_rfl))
theorem mapM_all {α β : Type} {f : α → Option β} {g : α → β} : ∀ {l : List α}, (∀ x ∈ l, f x = some (g x)) → l.mapM f = some (l.map g)
  | [], _ => rfl
  | x :: l, h => by
    rw [List.mapM_cons, h x (by simp), mapM_all (l := l) fun y hy => h y (by simp [hy])]
    rfl
theorem lits_byte (D : Nat) (b : UInt8) : Tryz.prog.keyLits (D + 1) 5 [.int .u8 b.toNat] = some [.int .u8 b.toNat] := by
  unfold Program.keyLits
  have := b.toNat_lt
  have hw : (Lit.int .u8 (b.toNat : Nat)).wf = true := WalkArith.wf_u8 (by omega)
  simp [Tryz.underlying5, hw]
theorem lits_num (D : Nat) (N : Nat) (h : N < 4294967296) : Tryz.prog.keyLits (D + 1) 27 [.int .u32 N] = some [.int .u32 N] := by
  unfold Program.keyLits
  have hw : (Lit.int .u32 (N : Nat)).wf = true := WalkArith.wf_u32 (by omega)
  simp [Tryz.underlying27, hw]
theorem flat_one {α β : Type} (f : α → β) : ∀ l : List α, (l.map fun x => [f x]).flatten = l.map f
  | [] => rfl
  | x :: l => by rw [List.map_cons, List.flatten_cons, flat_one f l]; rfl
theorem range_get (s : List UInt8) (f : UInt8 → Lit) {n : Nat} (h : s.length = n) : (List.range n).map (fun i => f (s.getD i 0)) = s.map f := by
  apply List.ext_getElem (by simp [h])
  intro j j1 j2
  simp only [List.length_map] at j2
  simp [List.getD, j2]
theorem lits_sum (D : Nat) (s : List UInt8) (h : s.length = 32) : Tryz.prog.keyLits (D + 2) 26 (bv s) = some (s.map fun b => .int .u8 b.toNat) := by
  obtain ⟨_, _, _, _, _, _, _, _, hS, _, h8⟩ := key_fields
  unfold Program.keyLits
  simp only [Tryz.underlying26]
  rw [if_pos (by rw [bv_length, h, hS]), h8]
  rw [mapM_all (g := fun i => [.int .u8 (s.getD i 0).toNat]) fun i hi => ?_]
  · rw [Option.map_some, flat_one (fun i => Lit.int .u8 (s.getD i 0).toNat), range_get s (fun b => Lit.int .u8 b.toNat) h]
  · have hi : i < 32 := List.mem_range.1 hi
    have e : ((bv s).drop (i * 1)).take 1 = [.int .u8 (s.getD i 0).toNat] := by
      rw [Nat.mul_one, List.drop_eq_getElem_cons (by rw [bv_length]; omega)]
      simp [bv, List.getD, show i < s.length by omega]
    rw [e]
    exact lits_byte D _
theorem lits_key (D : Nat) {k : KeyT} (h : k.Ok) : Tryz.prog.keyLits (D + 3) 29 (kcs k) = some ((k.1.map fun b => .int .u8 b.toNat) ++ [.int .u32 k.2]) := by
  have hL := lits_sum D k.1 h.1
  generalize (k.1.map fun b => Lit.int .u8 b.toNat) = L at *
  obtain ⟨f0, f1, hs, e0, e1, o0, o1, hC, hS, h4, _⟩ := key_fields
  have hnm : (match Tryz.prog.underlying 29 with | some (.struct fs) => fs.all (·.name != "_") | _ => false) = true := by kernel_rfl
  rw [hs] at hnm
  · unfold Program.keyLits
    simp only [hs]
    rw [if_pos ⟨by rw [hC, kcs_length h], hnm⟩]
    have t0 : ((kcs k).drop 0).take 32 = bv k.1 := by
      rw [List.drop_zero, kcs, List.take_append_of_le_length (by rw [bv_length, h.1]; exact Nat.le_refl _), List.take_of_length_le (by rw [bv_length, h.1]; exact Nat.le_refl _)]
    have t1 : ((kcs k).drop 32).take 1 = [.int .u32 k.2] := by
      rw [kcs, List.drop_append_of_le_length (by rw [bv_length, h.1]; exact Nat.le_refl _), List.drop_of_length_le (by rw [bv_length, h.1]; exact Nat.le_refl _)]
      rfl
    rw [mapM_all (g := fun f => if f.offset = 0 then L else [.int .u32 k.2]) fun f hf => ?_]
    · simp [o0, o1]
    · have hf2 : f = f0 ∨ f = f1 := by simpa using hf
      rcases hf2 with rfl | rfl
      · rw [e0, o0, hS, t0, hL]; rfl
      · rw [e1, o1, h4, t1, lits_num (D + 1) k.2 h.2]; rfl
/-- What a map reads a key as. -/
def kl (k : KeyT) : Lit := .string (keyBytes ((k.1.map fun b => .int .u8 b.toNat) ++ [.int .u32 k.2]))
theorem kl_is {k : KeyT} (h : k.Ok) : keyOf Tryz.prog 29 (.agg (kcs k).toArray) = some (kl k) := by
  obtain ⟨D, hD⟩ : ∃ D, Tryz.prog.types.size + 1 = D + 3 := ⟨Tryz.prog.types.size - 2, by have : 2 ≤ Tryz.prog.types.size := of_decide_eq_true (by kernel_rfl); omega⟩
  have hL := lits_key D h
  obtain ⟨f0, f1, hs, e0, e1, o0, o1, hC, _⟩ := key_fields
  have hk : Tryz.prog.keyType 29 = true := by kernel_rfl
  have hf : (Value.agg (kcs k).toArray).formed Tryz.prog 29 = true := by
    simp only [Value.formed, hs, hC, List.size_toArray, kcs_length h]; rfl
  unfold keyOf kl
  simp only [hs, hk, hf, Bool.and_self, if_true, hD]
  show Option.map _ (Tryz.prog.keyLits (D + 3) 29 (kcs k)) = _
  rw [hL]; rfl
theorem kl_key {k : KeyT} (h : k.Ok) : WideAt.IsKeyLit (kl k) := keyLaw.key (kl_is h)
theorem kl_inj {a b : KeyT} (ha : a.Ok) (hb : b.Ok) (h : kl a = kl b) : a = b := by
  have := keyLaw.inj (kl_is ha) (h ▸ kl_is hb)
  injection this with this
  have h2 : (kcs a).toArray.toList = (kcs b).toArray.toList := by rw [this]
  exact kcs_inj ha hb h2
theorem kl_same {a b : KeyT} (ha : a.Ok) (hb : b.Ok) : (kl a).sameKey (kl b) = decide (a = b) := by
  by_cases h : a = b
  · subst h; simp [WideAt.sameKey_self (kl_key ha)]
  · rw [sameKey_ne (fun e => h (kl_inj ha hb e))]; simp [h]
/-- The datum of a set of keys. -/
def kset (xs : List KeyT) : DataW Unit := setOf (.agg []) (xs.map kl)
theorem kset_snoc (xs : List KeyT) (k : KeyT) : kset (xs ++ [k]) = (kset xs).put (kl k) (.agg []) := by simp [kset, setOf_snoc]
theorem addKey_fold {xs : List KeyT} : ∀ (acc : List KeyT), (∀ x ∈ acc, x.Ok) → (∀ x ∈ xs, x.Ok) → ∃ r : List KeyT, (xs.map kl).foldl addKey (acc.map kl) = (acc ++ r).map kl ∧ r.length ≤ xs.length ∧ (∀ x ∈ r, x ∈ xs) ∧
    ((acc ++ xs).Nodup → r = xs) ∧ (acc.Nodup → r.length = xs.length → (acc ++ xs).Nodup) := by
  induction xs with
  | nil => intro acc _ _; exact ⟨[], by simp, by simp, by simp, fun _ => rfl, fun h _ => by simpa using h⟩
  | cons x xs ih =>
    intro acc ha hx
    have hxo : x.Ok := hx x (by simp)
    have hany : (acc.map kl).any (fun y => y.sameKey (kl x)) = decide (x ∈ acc) := by
      rw [List.any_map, Bool.eq_iff_iff, List.any_eq_true, decide_eq_true_eq]
      constructor
      · rintro ⟨y, hy, h⟩
        simp only [Function.comp, kl_same (ha y hy) hxo, decide_eq_true_eq] at h
        exact h ▸ hy
      · intro h
        exact ⟨x, h, by simp [kl_same hxo hxo]⟩
    rw [List.map_cons, List.foldl_cons, addKey, hany]
    by_cases h : x ∈ acc
    · simp only [h, decide_true, if_true]
      obtain ⟨r, h1, h2, h3, h4, h5⟩ := ih acc ha (fun y hy => hx y (by simp [hy]))
      refine ⟨r, h1, by simp; omega, fun y hy => by simp [h3 y hy], fun hn => ?_, fun _ hl => by simp at hl; omega⟩
      exact absurd rfl ((List.nodup_append.1 hn).2.2 x h x (by simp))
    · simp only [h, decide_false, Bool.false_eq_true, if_false]
      obtain ⟨r, h1, h2, h3, h4, h5⟩ := ih (acc ++ [x]) (fun y hy => by rcases List.mem_append.1 hy with hy | hy; exact ha y hy; rw [List.mem_singleton.1 hy]; exact hxo) (fun y hy => hx y (by simp [hy]))
      refine ⟨x :: r, by simpa using h1, by simp; omega, fun y hy => by rcases List.mem_cons.1 hy with rfl | hy; simp; simp [h3 y hy], fun hn => ?_, fun hn hl => ?_⟩
      · rw [h4 (by simpa using hn)]
      · have := h5 (by rw [List.nodup_append]; exact ⟨hn, by simp, fun a ha' b hb => by rw [List.mem_singleton.1 hb]; rintro rfl; exact h ha'⟩) (by simpa using hl)
        simpa using this
theorem size_kset (xs : List KeyT) (h : ∀ x ∈ xs, x.Ok) : (Maps.size (kset xs) < xs.length ↔ ¬ xs.Nodup) ∧ Maps.size (kset xs) ≤ xs.length := by
  obtain ⟨r, h1, h2, h3, h4, h5⟩ := addKey_fold (xs := xs) [] (by simp) h
  have e : Maps.size (kset xs) = r.length := by
    rw [kset, size_setOf _ _ fun l hl => by obtain ⟨x, hx, rfl⟩ := List.mem_map.1 hl; exact kl_key (h x hx)]
    have := congrArg List.length h1
    simpa using this
  rw [e]
  refine ⟨⟨fun hl hn => ?_, fun hn => ?_⟩, h2⟩
  · rw [h4 (by simpa using hn)] at hl; omega
  · rcases Nat.lt_or_ge r.length xs.length with hl | hl
    · exact hl
    · exact absurd (by simpa using h5 (by simp) (by omega)) hn
/-- The datum of a map from keys to numbers, filled one by one. -/
def kmap (al : List (KeyT × Nat)) : DataW Unit := al.foldl (fun m x => m.put (kl x.1) (.lit (.int .i64 (x.2 : Nat)))) (.map [])
theorem kmap_snoc (al : List (KeyT × Nat)) (k : KeyT) (n : Nat) : kmap (al ++ [(k, n)]) = (kmap al).put (kl k) (.lit (.int .i64 (n : Nat))) := by simp [kmap, List.foldl_append]
theorem rev_rec {α : Type} {P : List α → Prop} (h0 : P []) (hs : ∀ l x, P l → P (l ++ [x])) : ∀ l, P l := fun l => by
  have key : ∀ n (l : List α), l.length = n → P l := fun n => by
    induction n with
    | zero => intro l hl; rw [List.eq_nil_of_length_eq_zero hl]; exact h0
    | succ n ih =>
      intro l hl
      have hne : l ≠ [] := fun e => by rw [e] at hl; simp at hl
      rw [← List.dropLast_concat_getLast hne]
      exact hs _ _ (ih _ (by rw [List.length_dropLast]; omega))
  exact key _ l rfl
theorem kmap_tidy (al : List (KeyT × Nat)) (h : ∀ x ∈ al, x.1.Ok) : Tidy (kmap al) := by
  induction al using rev_rec with
  | h0 => exact tidy_empty
  | hs al x ih =>
    obtain ⟨k, n⟩ := x
    rw [kmap_snoc]
    exact (ih fun y hy => h y (by simp [hy])).put (kl_key (h (k, n) (by simp))) _
/-- What it has, where no key stands twice. -/
theorem kmap_has (al : List (KeyT × Nat)) (h : ∀ x ∈ al, x.1.Ok) {k : KeyT} (hk : k.Ok) : Maps.has (kmap al) (kl k) = decide (k ∈ al.map (·.1)) := by
  induction al using rev_rec with
  | h0 => simp [kmap, Maps.has]
  | hs al x ih =>
    obtain ⟨k', n⟩ := x
    have hk' : k'.Ok := h (k', n) (by simp)
    rw [kmap_snoc]
    by_cases e : k = k'
    · subst e
      rw [has_put_same (kmap_tidy al fun y hy => h y (by simp [hy])).isMap (kl_key hk)]
      simp
    · rw [has_put_other (fun h' => e (kl_inj hk hk' h')), ih fun y hy => h y (by simp [hy])]
      simp [e]
theorem kmap_at (al : List (KeyT × Nat)) (h : ∀ x ∈ al, x.1.Ok) (hn : (al.map (·.1)).Nodup) {k : KeyT} {n : Nat} (hk : (k, n) ∈ al) (z : DataW Unit) : (kmap al).atKey (kl k) z = .lit (.int .i64 (n : Nat)) := by
  induction al using rev_rec with
  | h0 => simp at hk
  | hs al x ih =>
    obtain ⟨k', n'⟩ := x
    have hk' : k'.Ok := h (k', n') (by simp)
    have hko : k.Ok := h (k, n) hk
    rw [List.map_append, List.nodup_append] at hn
    rw [kmap_snoc]
    rcases List.mem_append.1 hk with hk | hk
    · have hne : k ≠ k' := hn.2.2 k (List.mem_map.2 ⟨_, hk, rfl⟩) k' (by simp)
      rw [atKey_put_other (fun h' => hne (kl_inj hko hk' h'))]
      exact ih (fun y hy => h y (by simp [hy])) hn.1 hk
    · have := List.mem_singleton.1 hk
      injection this with e1 e2
      subst e1 e2
      exact atKey_put_same (kmap_tidy al fun y hy => h y (by simp [hy])).isMap (kl_key hko) _ _
theorem kmap_size (al : List (KeyT × Nat)) (h : ∀ x ∈ al, x.1.Ok) (hn : (al.map (·.1)).Nodup) : Maps.size (kmap al) = al.length := by
  induction al using rev_rec with
  | h0 => rfl
  | hs al x ih =>
    obtain ⟨k, n⟩ := x
    have h' : ∀ y ∈ al, y.1.Ok := fun y hy => h y (by simp [hy])
    rw [List.map_append, List.nodup_append] at hn
    rw [kmap_snoc, size_put (kmap_tidy al h'), kmap_has al h' (h (k, n) (by simp)), ih h' hn.1]
    have : ¬ k ∈ al.map (·.1) := fun hm => hn.2.2 k hm k (by simp) rfl
    simp [this]
end Go.Proofs.YtoofhaoaogoomaaGreat
/- Two keys compared. No statement of the seat is proved here. -/
namespace Go.Proofs.YtoofhaoaogoomaaGreat
open Go.ChangeShapes Go.WideShapes Go.ChangeAt Go.RowKit Go.Deep Go.Joins Go.Maps
set_option linter.unusedVariables false

set_option maxRecDepth 100000 in
theorem key_eq {a b : KeyT} (ha : a.Ok) (hb : b.Ok) (w : World) : (Op.equal 29 (.agg (kcs a).toArray) (.agg (kcs b).toArray)).run Tryz.prog w = .ok (decide (a = b)) w := by
  obtain ⟨r, hr, hi⟩ := run_equal_deep (P := Tryz.prog) w (m := 5) (by decide) (k := 29) (by kernel_rfl) (by kernel_rfl) (kl_is ha) (kl_is hb)
  rw [hr]
  congr 1
  cases r
  · symm; rw [decide_eq_false_iff_not]; intro h; subst h; exact absurd (hi.2 rfl) (by simp)
  · symm; rw [decide_eq_true_iff]; exact kl_inj ha hb (hi.1 rfl)
theorem key_eq_in {a b : KeyT} (ha : a.Ok) (hb : b.Ok) (w : World) : (Op.equalIn 10000 29 (.agg (kcs a).toArray) (.agg (kcs b).toArray)).run Tryz.prog w = .ok (decide (a = b)) w := key_eq ha hb w
theorem key_guard : Tryz.prog.eqGuardType Tryz.prog.depth 29 = false := by kernel_rfl
/-- Each key once. -/
def uq (l : List KeyT) : List KeyT := l.foldl (fun out k => if k ∈ out then out else out ++ [k]) []
theorem uq_snoc (l : List KeyT) (k : KeyT) : uq (l ++ [k]) = if k ∈ uq l then uq l else uq l ++ [k] := by unfold uq; rw [List.foldl_append]; rfl
theorem uq_nodup (l : List KeyT) : (uq l).Nodup := by
  refine rev_rec (P := fun l => (uq l).Nodup) (by simp [uq]) (fun l x ih => ?_) l
  rw [uq_snoc]
  split
  · exact ih
  · rename_i h
    exact List.nodup_append.2 ⟨ih, by simp, fun a ha b hb e => h (by rw [List.mem_singleton.1 hb] at e; rw [← e]; exact ha)⟩
theorem uq_mem (l : List KeyT) (x : KeyT) : x ∈ uq l ↔ x ∈ l := by
  refine rev_rec (P := fun l => x ∈ uq l ↔ x ∈ l) (by simp [uq]) (fun l y ih => ?_) l
  rw [uq_snoc]
  split
  · rename_i h
    simp only [List.mem_append, List.mem_singleton, ih]
    constructor
    · exact .inl
    · rintro (h1 | rfl)
      · exact h1
      · exact ih.1 h
  · simp only [List.mem_append, List.mem_singleton, ih]
theorem uq_length (l : List KeyT) : (uq l).length ≤ l.length := by
  refine rev_rec (P := fun l => (uq l).length ≤ l.length) (by simp [uq]) (fun l y ih => ?_) l
  rw [uq_snoc]
  split <;> simp <;> omega
end Go.Proofs.YtoofhaoaogoomaaGreat
/- Two rows, two places compared. No statement of the seat is proved here. -/
namespace Go.Proofs.YtoofhaoaogoomaaGreat
open Go.ChangeShapes Go.WideShapes Go.ChangeAt Go.RowKit Go.Deep Go.Joins Go.Maps
set_option linter.unusedVariables false

theorem lits_int (D : Nat) (x : Int) (h : In64 x) : Tryz.prog.keyLits (D + 1) 3 [.int .i64 x] = some [.int .i64 x] := by
  unfold Program.keyLits
  have hw : (Lit.int .i64 x).wf = true := by simp [Lit.wf, IntKind.min, IntKind.max, IntKind.signed, IntKind.bits]; have := h.1; have := h.2; omega
  simp [Tryz.underlying3, hw]
theorem lits_place (D : Nat) {p : Int × Int} (h1 : In64 p.1) (h2 : In64 p.2) : Tryz.prog.keyLits (D + 2) 40 (pvs p) = some [.int .i64 p.1, .int .i64 p.2] := by
  obtain ⟨f0, f1, hs, e0, e1, o0, o1, _, hC, hI⟩ := place_fields
  have hnm : (match Tryz.prog.underlying 40 with | some (.struct fs) => fs.all (·.name != "_") | _ => false) = true := by kernel_rfl
  rw [hs] at hnm
  unfold Program.keyLits
  simp only [hs]
  rw [if_pos ⟨by rw [hC]; rfl, hnm⟩]
  rw [mapM_all (g := fun f => if f.offset = 0 then [Lit.int .i64 p.1] else [Lit.int .i64 p.2]) fun f hf => ?_]
  · simp [o0, o1]
  · have hf2 : f = f0 ∨ f = f1 := by simpa using hf
    rcases hf2 with rfl | rfl
    · rw [e0, o0, hI]; exact lits_int D p.1 h1
    · rw [e1, o1, hI]; exact lits_int D p.2 h2
theorem lits_row (D : Nat) {r : RowT} (h : r.Ok) : Tryz.prog.keyLits (D + 4) 42 (rcs r) = some (((r.1.1.map fun b => .int .u8 b.toNat) ++ [.int .u32 r.1.2]) ++ [.int .i64 r.2.1, .int .i64 r.2.2]) := by
  have hL := lits_key D h.key
  generalize ((r.1.1.map fun b => Lit.int .u8 b.toNat) ++ [Lit.int .u32 r.1.2]) = L at *
  obtain ⟨f0, f1, hs, e0, e1, o0, o1, hC, hK, hP⟩ := row_fields
  have hnm : (match Tryz.prog.underlying 42 with | some (.struct fs) => fs.all (·.name != "_") | _ => false) = true := by kernel_rfl
  rw [hs] at hnm
  unfold Program.keyLits
  simp only [hs]
  rw [if_pos ⟨by rw [hC, rcs_length h], hnm⟩]
  have t0 : ((rcs r).drop 0).take 33 = kcs r.1 := by
    rw [List.drop_zero, rcs]; exact List.take_left' (kcs_length h.key)
  have t1 : ((rcs r).drop 33).take 2 = pvs r.2 := by
    rw [rcs, List.drop_left' (kcs_length h.key)]; rfl
  rw [mapM_all (g := fun f => if f.offset = 0 then L else [.int .i64 r.2.1, .int .i64 r.2.2]) fun f hf => ?_]
  · simp [o0, o1]
  · have hf2 : f = f0 ∨ f = f1 := by simpa using hf
    rcases hf2 with rfl | rfl
    · rw [e0, o0, hK, t0, hL]; rfl
    · rw [e1, o1, hP, t1, lits_place (D + 1) h.shelf h.slot]; rfl
def rl (r : RowT) : Lit := .string (keyBytes (((r.1.1.map fun b => .int .u8 b.toNat) ++ [.int .u32 r.1.2]) ++ [.int .i64 r.2.1, .int .i64 r.2.2]))
def pl (p : Int × Int) : Lit := .string (keyBytes [.int .i64 p.1, .int .i64 p.2])
theorem rl_is {r : RowT} (h : r.Ok) : keyOf Tryz.prog 42 (.agg (rcs r).toArray) = some (rl r) := by
  obtain ⟨D, hD⟩ : ∃ D, Tryz.prog.types.size + 1 = D + 4 := ⟨Tryz.prog.types.size - 3, by have : 3 ≤ Tryz.prog.types.size := of_decide_eq_true (by kernel_rfl); omega⟩
  have hL := lits_row D h
  obtain ⟨f0, f1, hs, e0, e1, o0, o1, hC, _⟩ := row_fields
  have hk : Tryz.prog.keyType 42 = true := by kernel_rfl
  have hf : (Value.agg (rcs r).toArray).formed Tryz.prog 42 = true := by
    simp only [Value.formed, hs, hC, List.size_toArray, rcs_length h]; rfl
  unfold keyOf rl
  simp only [hs, hk, hf, Bool.and_self, if_true, hD]
  show Option.map _ (Tryz.prog.keyLits (D + 4) 42 (rcs r)) = _
  rw [hL]; rfl
theorem pl_is {p : Int × Int} (h1 : In64 p.1) (h2 : In64 p.2) : keyOf Tryz.prog 40 (.agg (pvs p).toArray) = some (pl p) := by
  obtain ⟨D, hD⟩ : ∃ D, Tryz.prog.types.size + 1 = D + 2 := ⟨Tryz.prog.types.size - 1, by have : 1 ≤ Tryz.prog.types.size := of_decide_eq_true (by kernel_rfl); omega⟩
  have hL := lits_place D h1 h2
  obtain ⟨f0, f1, hs, e0, e1, o0, o1, _, hC, _⟩ := place_fields
  have hk : Tryz.prog.keyType 40 = true := by kernel_rfl
  have hf : (Value.agg (pvs p).toArray).formed Tryz.prog 40 = true := by
    simp only [Value.formed, hs, hC]; rfl
  unfold keyOf pl
  simp only [hs, hk, hf, Bool.and_self, if_true, hD]
  show Option.map _ (Tryz.prog.keyLits (D + 2) 40 (pvs p)) = _
  rw [hL]; rfl
theorem rowLaw : Keyed Tryz.prog 42 := Keyed.of_law (deep_law_laid laidKeys (m := 6) (by decide) (of_decide_eq_true (by kernel_rfl)) (by kernel_rfl) (by kernel_rfl))
theorem placeLaw : Keyed Tryz.prog 40 := Keyed.of_law (deep_law_laid laidKeys (m := 5) (by decide) (of_decide_eq_true (by kernel_rfl)) (by kernel_rfl) (by kernel_rfl))
theorem rl_inj {a b : RowT} (ha : a.Ok) (hb : b.Ok) (h : rl a = rl b) : a = b := by
  have := rowLaw.inj (rl_is ha) (h ▸ rl_is hb)
  injection this with this
  have h2 : (rcs a).toArray.toList = (rcs b).toArray.toList := by rw [this]
  exact rcs_inj ha hb h2
theorem pl_inj {a b : Int × Int} (ha : In64 a.1 ∧ In64 a.2) (hb : In64 b.1 ∧ In64 b.2) (h : pl a = pl b) : a = b := by
  have := placeLaw.inj (pl_is ha.1 ha.2) (h ▸ pl_is hb.1 hb.2)
  injection this with this
  have h2 : (pvs a).toArray.toList = (pvs b).toArray.toList := by rw [this]
  simp only [pvs, List.cons.injEq, and_true] at h2
  obtain ⟨e2, e3⟩ := h2
  injection e2 with _ e2
  injection e3 with _ e3
  exact Prod.ext e2 e3
set_option maxRecDepth 100000 in
theorem row_eq {a b : RowT} (ha : a.Ok) (hb : b.Ok) (w : World) : (Op.equal 42 (.agg (rcs a).toArray) (.agg (rcs b).toArray)).run Tryz.prog w = .ok (decide (a = b)) w := by
  obtain ⟨r, hr, hi⟩ := run_equal_deep (P := Tryz.prog) w (m := 6) (by decide) (k := 42) (by kernel_rfl) (by kernel_rfl) (rl_is ha) (rl_is hb)
  rw [hr]
  congr 1
  cases r
  · symm; rw [decide_eq_false_iff_not]; intro h; subst h; exact absurd (hi.2 rfl) (by simp)
  · symm; rw [decide_eq_true_iff]; exact rl_inj ha hb (hi.1 rfl)
set_option maxRecDepth 100000 in
theorem place_eq {a b : Int × Int} (ha : In64 a.1 ∧ In64 a.2) (hb : In64 b.1 ∧ In64 b.2) (w : World) : (Op.equal 40 (.agg (pvs a).toArray) (.agg (pvs b).toArray)).run Tryz.prog w = .ok (decide (a = b)) w := by
  obtain ⟨r, hr, hi⟩ := run_equal_deep (P := Tryz.prog) w (m := 5) (by decide) (k := 40) (by kernel_rfl) (by kernel_rfl) (pl_is ha.1 ha.2) (pl_is hb.1 hb.2)
  rw [hr]
  congr 1
  cases r
  · symm; rw [decide_eq_false_iff_not]; intro h; subst h; exact absurd (hi.2 rfl) (by simp)
  · symm; rw [decide_eq_true_iff]; exact pl_inj ha hb (hi.1 rfl)
theorem row_guard : Tryz.prog.eqGuardType Tryz.prog.depth 42 = false := by kernel_rfl
theorem place_guard : Tryz.prog.eqGuardType Tryz.prog.depth 40 = false := by kernel_rfl
end Go.Proofs.YtoofhaoaogoomaaGreat
