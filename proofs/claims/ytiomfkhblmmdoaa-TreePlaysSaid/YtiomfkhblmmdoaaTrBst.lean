/- Search trees over pairs in order: the mathematics of package tree where the pairs lie in a tree. No statement of the seat is proved here; nothing of the program is named. -/
import Derived.Test.YtiomfkhblmmdoaaTrMath
set_option linter.unusedVariables false
namespace Go.Proofs.Ytiomfkhblmmdoaa
open Go.Proofs

/-! ### a pair among those before it and those behind it -/
theorem OrdL.parts {a b : List PT} {p : PT} (h : OrdL (a ++ p :: b)) : OrdL a ∧ OrdL b ∧ (∀ x ∈ a, x.1 < p.1) ∧ (∀ x ∈ b, p.1 < x.1) := by
  obtain ⟨h1, h2, h3⟩ := List.pairwise_append.1 h
  obtain ⟨h4, h5⟩ := List.pairwise_cons.1 h2
  exact ⟨h1, h5, fun x hx => h3 x hx p (by simp), h4⟩
theorem OrdL.join {a b : List PT} {p : PT} (ha : OrdL a) (hb : OrdL b) (h1 : ∀ x ∈ a, x.1 < p.1) (h2 : ∀ x ∈ b, p.1 < x.1) : OrdL (a ++ p :: b) := by
  refine List.pairwise_append.2 ⟨ha, List.pairwise_cons.2 ⟨h2, hb⟩, fun x hx y hy => ?_⟩
  rcases List.mem_cons.1 hy with rfl | hy
  · exact h1 x hx
  · exact tx_trans (h1 x hx) (h2 y hy)
/-- All of a is less than k: the search goes on behind it. -/
theorem pos_app {a : List PT} {k : List UInt8} (h : ∀ x ∈ a, x.1 < k) (b : List PT) : posL (a ++ b) k = a.length + posL b k := by
  induction a with
  | nil => simp
  | cons x a ih =>
    rw [List.cons_append, posL, if_pos (h x (by simp)), ih fun y hy => h y (by simp [hy]), List.length_cons]
    omega
theorem get_app {a : List PT} {k : List UInt8} (h : ∀ x ∈ a, x.1 < k) (b : List PT) : getL (a ++ b) k = getL b k := by
  induction a with
  | nil => rfl
  | cons x a ih => rw [List.cons_append, getL, if_pos (h x (by simp)), ih fun y hy => h y (by simp [hy])]
theorem put_app {a : List PT} {k v : List UInt8} (h : ∀ x ∈ a, x.1 < k) (b : List PT) : putL (a ++ b) k v = a ++ putL b k v := by
  induction a with
  | nil => rfl
  | cons x a ih => rw [List.cons_append, putL, if_pos (h x (by simp)), ih fun y hy => h y (by simp [hy])]; rfl
theorem drop_app {a : List PT} {k : List UInt8} (h : ∀ x ∈ a, x.1 < k) (b : List PT) : dropL (a ++ b) k = a ++ dropL b k := by
  induction a with
  | nil => rfl
  | cons x a ih => rw [List.cons_append, dropL, if_pos (h x (by simp)), ih fun y hy => h y (by simp [hy])]; rfl
/-- k is less than p: the search ends ahead of it. -/
theorem pos_front {p : PT} {k : List UInt8} (h : k < p.1) : ∀ (a b : List PT), posL (a ++ p :: b) k = posL a k
  | [], b => by simp only [List.nil_append, posL, if_neg (tx_asymm h)]
  | x :: a, b => by
    rw [List.cons_append, posL, posL, pos_front h a b]
theorem get_front {p : PT} {k : List UInt8} (h : k < p.1) : ∀ (a b : List PT), getL (a ++ p :: b) k = getL a k
  | [], b => by simp only [List.nil_append, getL, if_neg (tx_asymm h), if_neg (Ne.symm (tx_ne h))]
  | x :: a, b => by
    rw [List.cons_append, getL, getL, get_front h a b]
theorem put_front {p : PT} {k v : List UInt8} (h : k < p.1) : ∀ (a b : List PT), putL (a ++ p :: b) k v = putL a k v ++ p :: b
  | [], b => by simp only [List.nil_append, List.cons_append, putL, if_neg (tx_asymm h), if_neg (Ne.symm (tx_ne h))]
  | x :: a, b => by
    rw [List.cons_append, putL, putL, put_front h a b]
    split
    · rfl
    · split <;> rfl
theorem drop_front {p : PT} {k : List UInt8} (h : k < p.1) : ∀ (a b : List PT), dropL (a ++ p :: b) k = dropL a k ++ p :: b
  | [], b => by simp only [List.nil_append, dropL, if_neg (tx_asymm h), if_neg (Ne.symm (tx_ne h))]
  | x :: a, b => by
    rw [List.cons_append, dropL, dropL, drop_front h a b]
    split
    · rfl
    · split <;> rfl
section
variable {a b : List PT} {p : PT}
theorem put_here (h : OrdL (a ++ p :: b)) (v : List UInt8) : putL (a ++ p :: b) p.1 v = a ++ (p.1, v) :: b := by
  rw [put_app h.parts.2.2.1, putL, if_neg (tx_irrefl _), if_pos rfl]
theorem drop_here (h : OrdL (a ++ p :: b)) : dropL (a ++ p :: b) p.1 = a ++ b := by
  rw [drop_app h.parts.2.2.1, dropL, if_neg (tx_irrefl _), if_pos rfl]
theorem get_here (h : OrdL (a ++ p :: b)) : getL (a ++ p :: b) p.1 = some p.2 := by
  rw [get_app h.parts.2.2.1, getL, if_neg (tx_irrefl _), if_pos rfl]
theorem pos_here (h : OrdL (a ++ p :: b)) : posL (a ++ p :: b) p.1 = a.length := by
  rw [pos_app h.parts.2.2.1, posL, if_neg (tx_irrefl _), Nat.add_zero]
theorem all_less (h : OrdL (a ++ p :: b)) {k : List UInt8} (hk : p.1 < k) : ∀ x ∈ a ++ [p], x.1 < k := fun x hx => by
  rcases List.mem_append.1 hx with hx | hx
  · exact tx_trans (h.parts.2.2.1 x hx) hk
  · rw [List.mem_singleton.1 hx]; exact hk
theorem put_back (h : OrdL (a ++ p :: b)) {k : List UInt8} (hk : p.1 < k) (v : List UInt8) : putL (a ++ p :: b) k v = a ++ p :: putL b k v := by
  have := put_app (v := v) (all_less h hk) b
  simpa using this
theorem drop_back (h : OrdL (a ++ p :: b)) {k : List UInt8} (hk : p.1 < k) : dropL (a ++ p :: b) k = a ++ p :: dropL b k := by
  have := drop_app (all_less h hk) b
  simpa using this
theorem get_back (h : OrdL (a ++ p :: b)) {k : List UInt8} (hk : p.1 < k) : getL (a ++ p :: b) k = getL b k := by
  have := get_app (all_less h hk) b
  simpa using this
theorem pos_back (h : OrdL (a ++ p :: b)) {k : List UInt8} (hk : p.1 < k) : posL (a ++ p :: b) k = a.length + 1 + posL b k := by
  have := pos_app (all_less h hk) b
  simpa using this
end

/-! ### trees; each node has an address -/
inductive T18 where
  | nil : T18
  | node : Nat → T18 → PT → T18 → T18
def T18.flat : T18 → List PT
  | .nil => []
  | .node _ l p r => l.flat ++ p :: r.flat
def T18.ht : T18 → Nat
  | .nil => 0
  | .node _ l _ r => max l.ht r.ht + 1
/-- How many nodes there are from an address on. -/
def T18.new (B : Nat) : T18 → Nat
  | .nil => 0
  | .node a l _ r => (if B ≤ a then 1 else 0) + l.new B + r.new B
/-- All nodes lie below B. -/
def T18.under (B : Nat) : T18 → Prop
  | .nil => True
  | .node a l _ r => a < B ∧ l.under B ∧ r.under B
theorem T18.new_under {B : Nat} : ∀ {t : T18}, t.under B → t.new B = 0
  | .nil, _ => rfl
  | .node a l p r, h => by
    obtain ⟨h1, h2, h3⟩ := h
    rw [T18.new, T18.new_under h2, T18.new_under h3, if_neg (by omega)]
theorem T18.under_more {B C : Nat} (hBC : B ≤ C) : ∀ {t : T18}, t.under B → t.under C
  | .nil, _ => trivial
  | .node a l p r, h => ⟨Nat.lt_of_lt_of_le h.1 hBC, T18.under_more hBC h.2.1, T18.under_more hBC h.2.2⟩
/-- The addresses of a tree's nodes. -/
def T18.has : T18 → Nat → Prop
  | .nil, _ => False
  | .node a l _ r, x => x = a ∨ l.has x ∨ r.has x
open Classical in
noncomputable def out18 (S : Nat → Prop) (a : Nat) : Nat := if S a then 0 else 1
theorem out_in18 {S : Nat → Prop} {a : Nat} (h : S a) : out18 S a = 0 := by unfold out18; exact if_pos h
theorem out_le18 (S : Nat → Prop) (a : Nat) : out18 S a ≤ 1 := by unfold out18; split <;> omega
theorem out_more18 {S S' : Nat → Prop} (hS : ∀ x, S x → S' x) (a : Nat) : out18 S' a ≤ out18 S a := by
  rcases Classical.em (S a) with h | h
  · rw [out_in18 (hS a h)]; exact Nat.zero_le _
  · have e : out18 S a = 1 := by unfold out18; exact if_neg h
    rw [e]; exact out_le18 S' a
/-- How many nodes are none of S: the document's Fresh. -/
noncomputable def T18.fr (S : Nat → Prop) : T18 → Nat
  | .nil => 0
  | .node a l _ r => out18 S a + l.fr S + r.fr S
theorem T18.fr_all {S : Nat → Prop} : ∀ {t : T18}, (∀ x, t.has x → S x) → t.fr S = 0
  | .nil, _ => rfl
  | .node a l p r, h => by
    rw [T18.fr, out_in18 (h a (.inl rfl)), T18.fr_all fun x hx => h x (.inr (.inl hx)), T18.fr_all fun x hx => h x (.inr (.inr hx))]
theorem T18.fr_more {S S' : Nat → Prop} (hS : ∀ x, S x → S' x) : ∀ {t : T18}, t.fr S' ≤ t.fr S
  | .nil => Nat.le_refl _
  | .node a l p r => by
    have h1 := T18.fr_more hS (t := l)
    have h2 := T18.fr_more hS (t := r)
    have h3 := out_more18 hS a
    rw [T18.fr, T18.fr]
    omega
theorem T18.fr_size {S : Nat → Prop} : ∀ {t : T18}, t.fr S ≤ t.flat.length
  | .nil => Nat.le_refl _
  | .node a l p r => by
    have h1 := T18.fr_size (S := S) (t := l)
    have h2 := T18.fr_size (S := S) (t := r)
    have h3 := out_le18 S a
    rw [T18.fr, T18.flat, List.length_append, List.length_cons]
    omega
theorem T18.ht_zero : ∀ {t : T18}, t.ht = 0 → t = .nil
  | .nil, _ => rfl
  | .node a l p r, h => by simp [T18.ht] at h
theorem T18.flat_zero {t : T18} : 0 < t.flat.length ↔ 0 < t.ht := by
  cases t with
  | nil => simp [T18.flat, T18.ht]
  | node a l p r =>
    simp only [T18.flat, T18.ht, List.length_append, List.length_cons]
    omega

/-! ### balance by heights -/
def T18.Bal : T18 → Prop
  | .nil => True
  | .node _ l _ r => l.Bal ∧ r.Bal ∧ l.ht ≤ r.ht + 1 ∧ r.ht ≤ l.ht + 1
/-- A tree of height h holds enough: 2^h ≤ (n + 1)², each side's own. -/
theorem T18.low : ∀ {t : T18}, t.Bal → 2 ^ t.ht ≤ (t.flat.length + 1) * (t.flat.length + 1)
  | .nil, _ => by simp [T18.ht, T18.flat]
  | .node a l p r, h => by
    obtain ⟨h1, h2, h3, h4⟩ := h
    have i1 := T18.low h1
    have i2 := T18.low h2
    have hlen : (T18.node a l p r).flat.length + 1 = (l.flat.length + 1) + (r.flat.length + 1) := by
      simp only [T18.flat, List.length_append, List.length_cons]
      omega
    rw [hlen]
    obtain ⟨x, hx⟩ : ∃ x, l.flat.length + 1 = x := ⟨_, rfl⟩
    obtain ⟨y, hy⟩ : ∃ y, r.flat.length + 1 = y := ⟨_, rfl⟩
    rw [hx] at i1 ⊢
    rw [hy] at i2 ⊢
    have key : ∀ (g e : Nat) (u v : Nat), g ≤ e + 1 → 2 ^ g ≤ u * u → 2 ^ e ≤ v * v → e ≤ g → 2 ^ (g + 1) ≤ (u + v) * (u + v) := by
      intro g e u v hge hu hv heg
      have hq : 2 ^ g ≤ 2 * 2 ^ e := by
        have := Nat.pow_le_pow_right (n := 2) (by decide) hge
        rw [Nat.pow_succ] at this
        omega
      have h2uv : 2 ^ g ≤ 2 * (u * v) := by
        -- (2^g)² ≤ 2^g · 2 · 2^e ≤ 2 (uv)²
        rcases Nat.lt_or_ge (2 * (u * v)) (2 ^ g) with hlt | hge2
        · exfalso
          have a1 : 2 ^ g * 2 ^ g ≤ (u * u) * (2 * (v * v)) := Nat.mul_le_mul hu (Nat.le_trans hq (by omega))
          have a2 : (u * u) * (2 * (v * v)) = 2 * ((u * v) * (u * v)) := by
            rw [Nat.mul_left_comm, Nat.mul_mul_mul_comm]
          rw [a2] at a1
          have a3 : (2 * (u * v) + 1) * (2 * (u * v) + 1) ≤ 2 ^ g * 2 ^ g := Nat.mul_le_mul hlt hlt
          generalize u * v = z at *
          have a4 : (2 * z + 1) * (2 * z + 1) = 4 * (z * z) + 4 * z + 1 := by
            rw [Nat.add_mul, Nat.mul_add, Nat.mul_one, Nat.one_mul, Nat.mul_mul_mul_comm]
            omega
          omega
        · exact hge2
      have hsq : (u + v) * (u + v) = u * u + 2 * (u * v) + v * v := by
        rw [Nat.add_mul, Nat.mul_add, Nat.mul_add, Nat.mul_comm v u]
        omega
      rw [Nat.pow_succ, hsq]
      omega
    rw [T18.ht]
    rcases Nat.le_total l.ht r.ht with hm | hm
    · rw [Nat.max_eq_right hm, Nat.add_comm x y]
      exact key _ _ y x h4 i2 i1 hm
    · rw [Nat.max_eq_left hm]
      exact key _ _ x y h3 i1 i2 hm
/-- t is what comes of l, p, r, whose heights part by two at most, when it is made even: the nodes that are made may lie anywhere. -/
def Even18 (l : T18) (p : PT) (r t : T18) : Prop :=
  (l.ht ≤ r.ht + 1 ∧ r.ht ≤ l.ht + 1 ∧ ∃ a, t = .node a l p r) ∨
  (∃ x ll lp lr a b, l = .node x ll lp lr ∧ l.ht = r.ht + 2 ∧ lr.ht ≤ ll.ht ∧ t = .node a ll lp (.node b lr p r)) ∨
  (∃ x ll lp y m1 mp m2 a b c, l = .node x ll lp (.node y m1 mp m2) ∧ l.ht = r.ht + 2 ∧ ll.ht < max m1.ht m2.ht + 1 ∧ t = .node a (.node b ll lp m1) mp (.node c m2 p r)) ∨
  (∃ x rl rp rr a b, r = .node x rl rp rr ∧ r.ht = l.ht + 2 ∧ rl.ht ≤ rr.ht ∧ t = .node a (.node b l p rl) rp rr) ∨
  (∃ x rp rr y m1 mp m2 a b c, r = .node x (.node y m1 mp m2) rp rr ∧ r.ht = l.ht + 2 ∧ rr.ht < max m1.ht m2.ht + 1 ∧ t = .node a (.node b l p m1) mp (.node c m2 rp rr))
theorem Even18.flat {l r t : T18} {p : PT} (h : Even18 l p r t) : t.flat = l.flat ++ p :: r.flat := by
  rcases h with ⟨_, _, a, rfl⟩ | ⟨x, ll, lp, lr, a, b, rfl, _, _, rfl⟩ | ⟨x, ll, lp, y, m1, mp, m2, a, b, c, rfl, _, _, rfl⟩ | ⟨x, rl, rp, rr, a, b, rfl, _, _, rfl⟩ | ⟨x, rp, rr, y, m1, mp, m2, a, b, c, rfl, _, _, rfl⟩ <;> simp [T18.flat]
theorem Even18.bal {l r t : T18} {p : PT} (h : Even18 l p r t) (hl : l.Bal) (hr : r.Bal) : t.Bal ∧ max l.ht r.ht ≤ t.ht ∧ t.ht ≤ max l.ht r.ht + 1 := by
  rcases h with ⟨h1, h2, a, rfl⟩ | ⟨x, ll, lp, lr, a, b, rfl, h1, h2, rfl⟩ | ⟨x, ll, lp, y, m1, mp, m2, a, b, c, rfl, h1, h2, rfl⟩ | ⟨x, rl, rp, rr, a, b, rfl, h1, h2, rfl⟩ | ⟨x, rp, rr, y, m1, mp, m2, a, b, c, rfl, h1, h2, rfl⟩
  · exact ⟨⟨hl, hr, h1, h2⟩, by simp only [T18.ht]; omega, by simp only [T18.ht]; omega⟩
  · obtain ⟨b1, b2, b3, b4⟩ := hl
    simp only [T18.ht] at h1 h2 ⊢
    refine ⟨⟨b1, ⟨b2, hr, ?_, ?_⟩, ?_, ?_⟩, ?_, ?_⟩ <;> first | omega | (simp only [T18.ht]; omega)
  · obtain ⟨b1, ⟨b5, b6, b7, b8⟩, b3, b4⟩ := hl
    simp only [T18.ht] at h1 h2 b3 b4 ⊢
    refine ⟨⟨⟨b1, b5, ?_, ?_⟩, ⟨b6, hr, ?_, ?_⟩, ?_, ?_⟩, ?_, ?_⟩ <;> first | omega | (simp only [T18.ht]; omega)
  · obtain ⟨b1, b2, b3, b4⟩ := hr
    simp only [T18.ht] at h1 h2 ⊢
    refine ⟨⟨⟨hl, b1, ?_, ?_⟩, b2, ?_, ?_⟩, ?_, ?_⟩ <;> first | omega | (simp only [T18.ht]; omega)
  · obtain ⟨⟨b5, b6, b7, b8⟩, b2, b3, b4⟩ := hr
    simp only [T18.ht] at h1 h2 b3 b4 ⊢
    refine ⟨⟨⟨hl, b5, ?_, ?_⟩, ⟨b6, b2, ?_, ?_⟩, ?_, ?_⟩, ?_, ?_⟩ <;> first | omega | (simp only [T18.ht]; omega)
/-- Without a turn: one more than the higher side. -/
theorem Even18.same {l r t : T18} {p : PT} (h : Even18 l p r t) (h1 : l.ht ≤ r.ht + 1) (h2 : r.ht ≤ l.ht + 1) : t.ht = max l.ht r.ht + 1 := by
  rcases h with ⟨_, _, a, rfl⟩ | ⟨x, ll, lp, lr, a, b, _, h3, _⟩ | ⟨x, ll, lp, y, m1, mp, m2, a, b, c, _, h3, _⟩ | ⟨x, rl, rp, rr, a, b, _, h3, _⟩ | ⟨x, rp, rr, y, m1, mp, m2, a, b, c, _, h3, _⟩
  · rfl
  · omega
  · omega
  · omega
  · omega
theorem ite_one (c : Prop) [Decidable c] : (if c then 1 else 0) ≤ (1 : Nat) := by split <;> omega
theorem Even18.new {l r t : T18} {p : PT} {B : Nat} (h : Even18 l p r t) : t.new B ≤ l.new B + r.new B + 3 := by
  rcases h with ⟨h1, h2, a, rfl⟩ | ⟨x, ll, lp, lr, a, b, rfl, h1, h2, rfl⟩ | ⟨x, ll, lp, y, m1, mp, m2, a, b, c, rfl, h1, h2, rfl⟩ | ⟨x, rl, rp, rr, a, b, rfl, h1, h2, rfl⟩ | ⟨x, rp, rr, y, m1, mp, m2, a, b, c, rfl, h1, h2, rfl⟩
  · simp only [T18.new]
    have := ite_one (B ≤ a)
    omega
  · simp only [T18.new]
    have := ite_one (B ≤ a)
    have := ite_one (B ≤ b)
    omega
  · simp only [T18.new]
    have := ite_one (B ≤ a)
    have := ite_one (B ≤ b)
    have := ite_one (B ≤ c)
    omega
  · simp only [T18.new]
    have := ite_one (B ≤ a)
    have := ite_one (B ≤ b)
    omega
  · simp only [T18.new]
    have := ite_one (B ≤ a)
    have := ite_one (B ≤ b)
    have := ite_one (B ≤ c)
    omega
theorem Even18.fr {l r t : T18} {p : PT} {S : Nat → Prop} (h : Even18 l p r t) : t.fr S ≤ l.fr S + r.fr S + 3 := by
  have one := out_le18 S
  rcases h with ⟨h1, h2, a, rfl⟩ | ⟨x, ll, lp, lr, a, b, rfl, h1, h2, rfl⟩ | ⟨x, ll, lp, y, m1, mp, m2, a, b, c, rfl, h1, h2, rfl⟩ | ⟨x, rl, rp, rr, a, b, rfl, h1, h2, rfl⟩ | ⟨x, rp, rr, y, m1, mp, m2, a, b, c, rfl, h1, h2, rfl⟩
  · simp only [T18.fr]
    have := one a
    omega
  · simp only [T18.fr]
    have := one a
    have := one b
    omega
  · simp only [T18.fr]
    have := one a
    have := one b
    have := one c
    omega
  · simp only [T18.fr]
    have := one a
    have := one b
    omega
  · simp only [T18.fr]
    have := one a
    have := one b
    have := one c
    omega

/-! ### what Put and Drop do of a tree: its pairs, its balance, its height, how much of it is fresh -/
/-- t' came of t by putting a pair. -/
def PutTo (k x : List UInt8) (t t' : T18) : Prop := t'.flat = putL t.flat k x ∧ t'.Bal ∧ t.ht ≤ t'.ht ∧ t'.ht ≤ t.ht + 1 ∧ t'.fr t.has ≤ 3 * t.ht + 1
theorem PutTo.first (a : Nat) (k x : List UInt8) : PutTo k x .nil (.node a .nil (k, x) .nil) := by
  have h := out_le18 (T18.nil).has a
  refine ⟨rfl, ⟨trivial, trivial, by simp [T18.ht], by simp [T18.ht]⟩, by simp [T18.ht], by simp [T18.ht], ?_⟩
  simp only [T18.fr, T18.ht]
  omega
section
variable {k x : List UInt8} {a b : Nat} {l r l' r' t' : T18} {p m : PT}
theorem PutTo.here (ho : OrdL (T18.node a l p r).flat) (hb : (T18.node a l p r).Bal) : PutTo p.1 x (.node a l p r) (.node b l (p.1, x) r) := by
  have r5 : r.fr (T18.node a l p r).has = 0 := T18.fr_all fun x hx => .inr (.inr hx)
  have r6 : l.fr (T18.node a l p r).has = 0 := T18.fr_all fun x hx => .inr (.inl hx)
  have r7 := out_le18 (T18.node a l p r).has b
  refine ⟨(put_here ho x).symm, hb, Nat.le_refl _, Nat.le_succ _, ?_⟩
  simp only [T18.fr, r5, r6]
  omega
theorem PutTo.left (ho : OrdL (T18.node a l p r).flat) (hb : (T18.node a l p r).Bal) (hk : k < p.1) (h : PutTo k x l l') (he : Even18 l' p r t') : PutTo k x (.node a l p r) t' := by
  obtain ⟨n2, n3, n4, n5⟩ := hb
  obtain ⟨u1, u2, u3, u4, u5⟩ := h
  obtain ⟨r1, r2, r3⟩ := he.bal u2 n3
  have r4 := he.fr (S := (T18.node a l p r).has)
  have r5 : r.fr (T18.node a l p r).has = 0 := T18.fr_all fun x hx => .inr (.inr hx)
  have r6 : l'.fr (T18.node a l p r).has ≤ l'.fr l.has := T18.fr_more fun x hx => .inr (.inl hx)
  refine ⟨by rw [he.flat, u1]; exact (put_front hk _ _).symm, r1, ?_, ?_, ?_⟩
  · simp only [T18.ht]
    by_cases hz : l'.ht ≤ r.ht + 1
    · have := he.same hz (by omega)
      omega
    · omega
  · simp only [T18.ht]; omega
  · simp only [T18.ht]; omega
theorem PutTo.right (ho : OrdL (T18.node a l p r).flat) (hb : (T18.node a l p r).Bal) (hk : p.1 < k) (h : PutTo k x r r') (he : Even18 l p r' t') : PutTo k x (.node a l p r) t' := by
  obtain ⟨n2, n3, n4, n5⟩ := hb
  obtain ⟨u1, u2, u3, u4, u5⟩ := h
  obtain ⟨r1, r2, r3⟩ := he.bal n2 u2
  have r4 := he.fr (S := (T18.node a l p r).has)
  have r5 : l.fr (T18.node a l p r).has = 0 := T18.fr_all fun x hx => .inr (.inl hx)
  have r6 : r'.fr (T18.node a l p r).has ≤ r'.fr r.has := T18.fr_more fun x hx => .inr (.inr hx)
  refine ⟨by rw [he.flat, u1]; exact (put_back ho hk _).symm, r1, ?_, ?_, ?_⟩
  · simp only [T18.ht]
    by_cases hz : r'.ht ≤ l.ht + 1
    · have := he.same (by omega) hz
      omega
    · omega
  · simp only [T18.ht]; omega
  · simp only [T18.ht]; omega
/-- t' came of t by taking a pair out: its pairs are L. -/
def DropTo (L : List PT) (t t' : T18) : Prop := t'.flat = L ∧ t'.Bal ∧ t'.ht ≤ t.ht ∧ t.ht ≤ t'.ht + 1 ∧ t'.fr t.has ≤ 3 * t.ht
theorem DropTo.left {L : List PT} (hb : (T18.node a l p r).Bal) (h : DropTo L l l') (he : Even18 l' p r t') : DropTo (L ++ p :: r.flat) (.node a l p r) t' := by
  obtain ⟨n2, n3, n4, n5⟩ := hb
  obtain ⟨u1, u2, u3, u4, u5⟩ := h
  obtain ⟨r1, r2, r3⟩ := he.bal u2 n3
  have r4 := he.fr (S := (T18.node a l p r).has)
  have r5 : r.fr (T18.node a l p r).has = 0 := T18.fr_all fun x hx => .inr (.inr hx)
  have r6 : l'.fr (T18.node a l p r).has ≤ l'.fr l.has := T18.fr_more fun x hx => .inr (.inl hx)
  refine ⟨by rw [he.flat, u1], r1, ?_, ?_, ?_⟩
  · simp only [T18.ht]; omega
  · simp only [T18.ht]
    by_cases hz : r.ht ≤ l'.ht + 1
    · have := he.same (by omega) hz
      omega
    · omega
  · simp only [T18.ht]; omega
theorem DropTo.right {L : List PT} (hb : (T18.node a l p r).Bal) (h : DropTo L r r') (he : Even18 l p r' t') : DropTo (l.flat ++ p :: L) (.node a l p r) t' := by
  obtain ⟨n2, n3, n4, n5⟩ := hb
  obtain ⟨u1, u2, u3, u4, u5⟩ := h
  obtain ⟨r1, r2, r3⟩ := he.bal n2 u2
  have r4 := he.fr (S := (T18.node a l p r).has)
  have r5 : l.fr (T18.node a l p r).has = 0 := T18.fr_all fun x hx => .inr (.inl hx)
  have r6 : r'.fr (T18.node a l p r).has ≤ r'.fr r.has := T18.fr_more fun x hx => .inr (.inr hx)
  refine ⟨by rw [he.flat, u1], r1, ?_, ?_, ?_⟩
  · simp only [T18.ht]; omega
  · simp only [T18.ht]
    by_cases hz : l.ht ≤ r'.ht + 1
    · have := he.same hz (by omega)
      omega
    · omega
  · simp only [T18.ht]; omega
/-- The node itself goes; the least of its right side, m, comes in its place. -/
theorem DropTo.least {L : List PT} (hb : (T18.node a l p r).Bal) (hm : r.flat = m :: L) (h : DropTo L r r') (he : Even18 l m r' t') : DropTo (l.flat ++ r.flat) (.node a l p r) t' := by
  have h2 := DropTo.right (p := m) (a := a) hb h he
  obtain ⟨u1, u2, u3, u4, u5⟩ := h2
  have e : (T18.node a l m r).has = (T18.node a l p r).has := rfl
  rw [e] at u5
  exact ⟨by rw [u1, hm], u2, u3, u4, u5⟩
/-- .. or the greatest of its left side. -/
theorem DropTo.greatest {L : List PT} (hb : (T18.node a l p r).Bal) (hm : l.flat = L ++ [m]) (h : DropTo L l l') (he : Even18 l' m r t') : DropTo (l.flat ++ r.flat) (.node a l p r) t' := by
  have h2 := DropTo.left (p := m) (a := a) hb h he
  obtain ⟨u1, u2, u3, u4, u5⟩ := h2
  have e : (T18.node a l m r).has = (T18.node a l p r).has := rfl
  rw [e] at u5
  exact ⟨by rw [u1, hm]; simp, u2, u3, u4, u5⟩
theorem DropTo.noLeft (hb : (T18.node a .nil p r).Bal) : DropTo r.flat (.node a .nil p r) r := by
  obtain ⟨_, n3, n4, n5⟩ := hb
  have r5 : r.fr (T18.node a .nil p r).has = 0 := T18.fr_all fun x hx => .inr (.inr hx)
  refine ⟨rfl, n3, ?_, ?_, by rw [r5]; exact Nat.zero_le _⟩ <;> simp only [T18.ht] <;> omega
theorem DropTo.noRight (hb : (T18.node a l p .nil).Bal) : DropTo l.flat (.node a l p .nil) l := by
  obtain ⟨n2, _, n4, n5⟩ := hb
  have r5 : l.fr (T18.node a l p .nil).has = 0 := T18.fr_all fun x hx => .inr (.inl hx)
  refine ⟨rfl, n2, ?_, ?_, by rw [r5]; exact Nat.zero_le _⟩ <;> simp only [T18.ht] <;> omega
end
end Go.Proofs.Ytiomfkhblmmdoaa
