/- Maps of the call's own, whatever their keys and elements, as lists of pairs: made, looked up, written, ranged over. No statement of the seat is proved here; nothing of the program is imported. -/
import Derived.Test.YteieaindejcfbaaIxKit
import Derived.Test.YteieaindejcfbaaKeyMap
import Derived.Test.YteieaindejcfbaaStillMid
import Derived.Maps.RangeWalk
import Derived.Maps.OwnSet
import Derived.Maps.OwnOps
import Derived.Laws.IdiomRangeMap
import Derived.Deep.Cut
namespace Go.Proofs.Yteieaindejcfbaa
open Go Go.Maps Go.RowKit Go.ChangeMaps Go.MapKept
open Go.WideElems (Fit rd rg pl rd_val rd_key)
set_option linter.unusedVariables false

/-- What the keys and the elements of a map's type are. -/
structure MK (P : Program) (t k e : TypeId) (α β : Type) where
  encK : α → Value
  okK : α → Prop
  lit : α → Lit
  R : Value → Option (DataW Unit × List MemPlace)
  encV : β → Value
  dat : β → DataW Unit
  zero : β
structure MK.Ok {P : Program} {t k e : TypeId} {α β : Type} (M : MK P t k e α β) : Prop where
  keyed : Keyed P k
  und : P.underlying t = some (.map k e)
  key : ∀ {a}, M.okK a → keyOf P k (M.encK a) = some (M.lit a)
  inj : ∀ {a b}, M.okK a → M.okK b → M.encK a = M.encK b → a = b
  val : ∀ c, M.R (M.encV c) = some (M.dat c, [])
  valInj : ∀ {v c ps}, M.R v = some (M.dat c, ps) → v = M.encV c
  datInj : ∀ {c d}, M.dat c = M.dat d → c = d
  zeroV : ∀ w, (zeroValue e).run P w = .ok (M.encV M.zero) w
section
variable {P : Program} {t k e : TypeId} {α β : Type} {M : MK P t k e α β} {w w' : World} {b : Nat} {L L' : List (α × β)}
theorem MK.Ok.litInj (O : M.Ok) {a b : α} (ha : M.okK a) (hb : M.okK b) (h : M.lit a = M.lit b) : a = b :=
  O.inj ha hb (O.keyed.inj (O.key ha) (h ▸ O.key hb))
theorem MK.Ok.litKey (O : M.Ok) {a : α} (ha : M.okK a) : WideAt.IsKeyLit (M.lit a) := O.keyed.key (O.key ha)
/-- What a datum says of pairs. -/
structure MapIs (M : MK P t k e α β) (D : DataW Unit) (L : List (α × β)) : Prop where
  once : (L.map (·.1)).Nodup
  key : ∀ x ∈ L, M.okK x.1
  has : ∀ x ∈ L, Maps.has D (M.lit x.1) = true
  only : ∀ kl, Maps.has D kl = true → ∃ x ∈ L, kl = M.lit x.1
  at_ : ∀ x ∈ L, ∀ zd, D.atKey (M.lit x.1) zd = M.dat x.2
/-- Block b is a map that has just these pairs. -/
def MapL (M : MK P t k e α β) (w : World) (b : Nat) (L : List (α × β)) : Prop := ∃ D, w.ownsMap P k M.R b L.length D ∧ MapIs M D L
theorem once_eq {L : List (α × β)} (h : (L.map (·.1)).Nodup) {a : α} {c d : β} (hc : (a, c) ∈ L) (hd : (a, d) ∈ L) : c = d := by
  induction L with
  | nil => simp at hc
  | cons x L ih =>
    rw [List.map_cons, List.nodup_cons] at h
    rcases List.mem_cons.1 hc with e1 | h1 <;> rcases List.mem_cons.1 hd with e2 | h2
    · rw [← e1] at e2; exact (Prod.mk.inj e2).2.symm
    · exact absurd (List.mem_map.2 ⟨_, h2, by rw [← e1]⟩) h.1
    · exact absurd (List.mem_map.2 ⟨_, h1, by rw [← e2]⟩) h.1
    · exact ih h.2 h1 h2
theorem perm_of_once {L L' : List (α × β)} (h : (L.map (·.1)).Nodup) (h' : (L'.map (·.1)).Nodup) (hm : ∀ x, x ∈ L ↔ x ∈ L') : L.Perm L' := by
  have n1 : ∀ {L : List (α × β)}, (L.map (·.1)).Nodup → L.Nodup := fun {L} hL => by
    refine List.Pairwise.imp ?_ (List.pairwise_map.1 hL)
    intro a b hab e
    exact hab (by rw [e])
  rw [List.perm_ext_iff_of_nodup (n1 h) (n1 h')]
  exact hm
/-- Another list of the same pairs. -/
theorem MapIs.perm {D : DataW Unit} {L L' : List (α × β)} (h : MapIs M D L) (hp : L.Perm L') : MapIs M D L' :=
  ⟨(hp.map _).nodup_iff.1 h.once, fun x hx => h.key x (hp.mem_iff.2 hx), fun x hx => h.has x (hp.mem_iff.2 hx), fun kl hk => by
    obtain ⟨x, hx, e⟩ := h.only kl hk
    exact ⟨x, hp.mem_iff.1 hx, e⟩, fun x hx => h.at_ x (hp.mem_iff.2 hx)⟩
theorem MapIs.nil : MapIs M (.map []) [] := ⟨List.nodup_nil, by simp, by simp, fun kl h => by simp [Maps.has] at h, by simp⟩
theorem MapIs.lits (O : M.Ok) {D : DataW Unit} {L : List (α × β)} (h : MapIs M D L) : (L.map fun x => M.lit x.1).Nodup := by
  have := h.once
  have hk := h.key
  clear h
  induction L with
  | nil => simp
  | cons x L ih =>
    rw [List.map_cons, List.nodup_cons] at this ⊢
    refine ⟨fun hm => this.1 ?_, ih this.2 fun y hy => hk y (by simp [hy])⟩
    obtain ⟨y, hy, e⟩ := List.mem_map.1 hm
    exact List.mem_map.2 ⟨y, hy, O.litInj (hk y (by simp [hy])) (hk x (by simp)) e⟩
theorem MapIs.size (O : M.Ok) {D : DataW Unit} {L : List (α × β)} (h : MapIs M D L) (hD : ∃ es, D = .map es ∧ es.Pairwise (fun p q => p.1 ≠ q.1) ∧ ∀ p ∈ es, WideAt.IsKeyLit p.1) : Maps.size D = L.length := by
  obtain ⟨es, rfl, hp, hk⟩ := hD
  have hn : (es.map (·.1)).Nodup := List.pairwise_map.2 hp
  have : (es.map (·.1)).Perm (L.map fun x => M.lit x.1) := by
    rw [List.perm_ext_iff_of_nodup hn (h.lits O)]
    intro kl
    constructor
    · intro hm
      obtain ⟨p, hp, rfl⟩ := List.mem_map.1 hm
      obtain ⟨x, hx, e⟩ := h.only p.1 (List.any_eq_true.2 ⟨p, hp, WideAt.sameKey_self (hk p hp)⟩)
      exact List.mem_map.2 ⟨x, hx, e.symm⟩
    · intro hm
      obtain ⟨x, hx, rfl⟩ := List.mem_map.1 hm
      obtain ⟨p, hp, hs⟩ := List.any_eq_true.1 (h.has x hx)
      exact List.mem_map.2 ⟨p, hp, WideAt.sameKey_eq hs⟩
  have := this.length_eq
  simpa [Maps.size] using this
theorem tight {R : Value → Option (DataW Unit × List MemPlace)} {n : Nat} {D : DataW Unit} (h : w.ownsMap P k R b n D) : w.ownsMap P k R b (Maps.size D) D := by
  obtain ⟨es, clock, hb, F, hs, rfl⟩ := h
  refine ⟨es, clock, hb, F, ?_, rfl⟩
  simp [Maps.size, length_sorted]
theorem MapL.mk' (O : M.Ok) {n : Nat} {D : DataW Unit} (h : w.ownsMap P k M.R b n D) (hi : MapIs M D L) : MapL M w b L := by
  have := tight h
  rw [hi.size O (h.entries O.keyed)] at this
  exact ⟨D, this, hi⟩
theorem MapL.perm (h : MapL M w b L) (hp : L.Perm L') : MapL M w b L' := by
  obtain ⟨D, h1, h2⟩ := h
  exact ⟨D, hp.length_eq ▸ h1, h2.perm hp⟩
theorem MapL.once (h : MapL M w b L) : (L.map (·.1)).Nodup := by obtain ⟨D, _, h2⟩ := h; exact h2.once
theorem MapL.key (h : MapL M w b L) : ∀ x ∈ L, M.okK x.1 := by obtain ⟨D, _, h2⟩ := h; exact h2.key
theorem MapL.lt (h : MapL M w b L) : b < w.heap.size := by obtain ⟨D, h1, _⟩ := h; exact h1.lt
theorem MapL.blk (h : MapL M w b L) (hb : w'.heap[b]? = w.heap[b]?) : MapL M w' b L := by
  obtain ⟨D, ⟨es, clock, h3, h4⟩, h2⟩ := h
  exact ⟨D, ⟨es, clock, hb.trans h3, h4⟩, h2⟩
theorem MapL.made (M : MK P t k e α β) (w : World) : MapL M (w.alloc (.map #[] 0)) w.heap.size [] := ⟨_, World.ownsMap_made w _ _ _, MapIs.nil⟩
theorem MapL.size (O : M.Ok) {D : DataW Unit} {n : Nat} (h : w.ownsMap P k M.R b n D) (hi : MapIs M D L) : Maps.size D = L.length := hi.size O (h.entries O.keyed)
/-- A map that may be nil. -/
def MapO (M : MK P t k e α β) (w : World) (b : Option Nat) (L : List (α × β)) : Prop := match b with
  | none => L = []
  | some b => MapL M w b L
/-- A loop over a map (or over nil) under way: block r is its iterator, rest is what is still to come. -/
def MapR (M : MK P t k e α β) (w : World) (b : Option Nat) (r : Nat) (L rest : List (α × β)) : Prop := match b with
  | none => w.heap[r]? = some (.mapIter none 0 #[] 0) ∧ L = [] ∧ rest = []
  | some b => ∃ D left cnt, w.ranges P k M.R b r L.length D left cnt ∧ MapIs M D L ∧ (∀ x ∈ rest, x ∈ L) ∧ (rest.map (·.1)).Nodup ∧ (∀ x ∈ rest, left (M.lit x.1) = true) ∧ ∀ kl, left kl = true → ∃ x ∈ rest, kl = M.lit x.1
def leftO (w : World) (b : Option Nat) (r : Nat) : Nat := match b with
  | none => 0
  | some b => w.rangeLeft b r
theorem MapR.sub {b : Option Nat} {r : Nat} {l : List (α × β)} (h : MapR M w b r L l) : ∀ x ∈ l, x ∈ L := by
  cases b with
  | none => obtain ⟨_, _, rfl⟩ := h; simp
  | some b => obtain ⟨_, _, _, _, _, h, _⟩ := h; exact h
theorem MapR.lt {b : Option Nat} {r : Nat} {l : List (α × β)} (h : MapR M w b r L l) : r < w.heap.size := by
  cases b with
  | none => exact (Array.getElem?_eq_some_iff.1 h.1).1
  | some b => obtain ⟨_, _, _, h, _⟩ := h; exact h.lt
/-- It stays while other blocks are written and made. -/
theorem MapR.kept {w' : World} {b : Option Nat} {r : Nat} {l : List (α × β)} (h : MapR M w b r L l) (hb : ∀ c, b = some c → w'.heap[c]? = w.heap[c]?) (hr : w'.heap[r]? = w.heap[r]?) : MapR M w' b r L l := by
  cases b with
  | none => exact ⟨hr.trans h.1, h.2⟩
  | some b =>
    obtain ⟨D, left, cnt, ⟨es, clock, since, seen, c0, h1, F, hs, hD, h2, h3⟩, h4⟩ := h
    exact ⟨D, left, cnt, ⟨es, clock, since, seen, c0, (hb b rfl).trans h1, F, hs, hD, hr.trans h2, h3⟩, h4⟩
theorem leftO_kept {w' : World} {b : Option Nat} {r : Nat} (hb : ∀ c, b = some c → w'.heap[c]? = w.heap[c]?) (hr : w'.heap[r]? = w.heap[r]?) : leftO w' b r = leftO w b r := by
  cases b with
  | none => rfl
  | some b =>
    show w'.rangeLeft b r = w.rangeLeft b r
    unfold World.rangeLeft
    rw [hb b rfl, hr]
end
/-! ### at the operation -/
section
variable {P : Program} {t k e : TypeId} {α β : Type} {M : MK P t k e α β} (w : World) {ops : Array Oper} {rest : List Oper} {o : Oper} {a : Act} {Q : Exit → Act → World → Prop} {b : Nat} {L : List (α × β)}
/-- 'len(m)'. -/
theorem wpList_len_g (hg : o.guard = none) (m : Operand) (hop : o.op = Op.call { callee := Callee.builtin Builtin.len, args := #[m], argTypes := #[t] }) (O : M.Ok) (hm : a.eval m = .map (some b)) (h : MapL M w b L)
    (hK : wpList P ops Q rest (a.put o.dst (.int .i64 (L.length : Nat))) w) : wpList P ops Q (o :: rest) a w := by
  refine wpList_plain hg fun K' hK' => ?_
  obtain ⟨D, h1, h2⟩ := h
  unfold Oper.wp
  simp [execOp, hop, resolve, invoke, builtin, hm, h1.len O.und o.type, Result.andThen]
  exact hK' _ _ (by rw [MapL.size O h1 h2]; exact hK)
/-- 'range m'. -/
theorem wpList_range_g (hg : o.guard = none) (m : Operand) (hop : o.op = Op.range t m) (O : M.Ok) (b : Option Nat) (hm : a.eval m = .map b) (h : MapO M w b L)
    (hK : ∀ w', MapR M w' b w.heap.size L L → w.grownBy w' none → w'.heap.size = w.heap.size + 1 → wpList P ops Q rest (a.put o.dst (.pointer (some ⟨w.heap.size, 0, none⟩))) w') : wpList P ops Q (o :: rest) a w := by
  refine wpList_plain hg fun K' hK' => ?_
  unfold Oper.wp
  cases b with
  | none =>
    obtain rfl : L = [] := h
    simp [execOp, hop, hm, run_range_nilMap w t k e O.und, Result.andThen]
    exact hK' _ _ (hK _ ⟨(MapKept.heap_alloc w _).1, rfl, rfl⟩ (World.grownBy_alloc w _ none) (by simp))
  | some b =>
    obtain ⟨D, h1, h2⟩ := h
    obtain ⟨w', hrun, r1, r2, r3⟩ := h1.range O.keyed O.und
    simp [execOp, hop, hm, hrun, Result.andThen]
    exact hK' _ _ (hK w' ⟨D, _, _, r1, h2, fun _ hx => hx, h2.once, h2.has, h2.only⟩ r2 r3)
end
section
variable {P : Program} {t k e : TypeId} {α β : Type} [DecidableEq α] {M : MK P t k e α β} {w w' : World} {b : Nat} {L L' : List (α × β)}
theorem MK.Ok.same (O : M.Ok) {a b : α} (ha : M.okK a) (hb : M.okK b) : (M.lit a).sameKey (M.lit b) = decide (a = b) := by
  by_cases h : a = b
  · subst h; simp [WideAt.sameKey_self (O.litKey ha)]
  · rw [Maps.sameKey_ne fun e => h (O.litInj ha hb e)]; simp [h]
/-- What stands at a key. -/
def getM (M : MK P t k e α β) (L : List (α × β)) (a : α) : β := match L.find? fun x => decide (x.1 = a) with
  | some x => x.2
  | none => M.zero
def hasM (L : List (α × β)) (a : α) : Bool := L.any fun x => decide (x.1 = a)
def delM (L : List (α × β)) (a : α) : List (α × β) := L.filter fun x => decide (x.1 ≠ a)
def putM (L : List (α × β)) (a : α) (c : β) : List (α × β) := (a, c) :: delM L a
theorem hasM_iff {L : List (α × β)} {a : α} : hasM L a = true ↔ ∃ c, (a, c) ∈ L := by
  unfold hasM
  rw [List.any_eq_true]
  constructor
  · rintro ⟨x, hx, h⟩
    obtain rfl : x.1 = a := by simpa using h
    exact ⟨x.2, hx⟩
  · rintro ⟨c, hc⟩
    exact ⟨_, hc, by simp⟩
theorem hasM_false {L : List (α × β)} {a : α} : hasM L a = false ↔ ∀ c, (a, c) ∉ L := by
  rw [← Bool.not_eq_true, hasM_iff]
  simp
theorem getM_of {L : List (α × β)} (h : (L.map (·.1)).Nodup) {a : α} {c : β} (hc : (a, c) ∈ L) : getM M L a = c := by
  unfold getM
  cases hf : L.find? fun x => decide (x.1 = a) with
  | none =>
    rw [List.find?_eq_none] at hf
    exact absurd rfl (by simpa using hf (a, c) hc : ¬ a = a)
  | some x =>
    have h1 := List.mem_of_find?_eq_some hf
    have h2 : x.1 = a := by simpa using List.find?_some hf
    exact once_eq h (a := a) (c := x.2) (d := c) (by rw [← h2]; exact h1) hc
theorem getM_no {L : List (α × β)} {a : α} (h : hasM L a = false) : getM M L a = M.zero := by
  unfold getM
  cases hf : L.find? fun x => decide (x.1 = a) with
  | none => rfl
  | some x =>
    have h1 := List.mem_of_find?_eq_some hf
    have h2 : x.1 = a := by simpa using List.find?_some hf
    exact absurd (h2 ▸ h1) (hasM_false.1 h x.2)
theorem mem_delM {L : List (α × β)} {a : α} {x : α × β} : x ∈ delM L a ↔ x ∈ L ∧ x.1 ≠ a := by
  unfold delM; rw [List.mem_filter]; simp
theorem mem_putM {L : List (α × β)} {a : α} {c : β} {x : α × β} : x ∈ putM L a c ↔ x = (a, c) ∨ (x ∈ L ∧ x.1 ≠ a) := by
  unfold putM; rw [List.mem_cons, mem_delM]
theorem once_del {L : List (α × β)} (h : (L.map (·.1)).Nodup) (a : α) : ((delM L a).map (·.1)).Nodup := h.sublist (List.Sublist.map _ List.filter_sublist)
theorem once_put {L : List (α × β)} (h : (L.map (·.1)).Nodup) (a : α) (c : β) : ((putM L a c).map (·.1)).Nodup := by
  unfold putM
  rw [List.map_cons, List.nodup_cons]
  refine ⟨fun hm => ?_, once_del h a⟩
  obtain ⟨x, hx, e⟩ := List.mem_map.1 hm
  exact (mem_delM.1 hx).2 e
theorem MapIs.del (O : M.Ok) {D : DataW Unit} {L : List (α × β)} (h : MapIs M D L) {a : α} (ha : M.okK a) : MapIs M (D.del (M.lit a)) (delM L a) where
  once := once_del h.once a
  key x hx := h.key x (mem_delM.1 hx).1
  has x hx := by
    obtain ⟨h1, h2⟩ := mem_delM.1 hx
    rw [has_del_other fun e => h2 (O.litInj (h.key x h1) ha e)]
    exact h.has x h1
  only kl hkl := by
    by_cases e : kl = M.lit a
    · rw [e, has_del_same] at hkl; cases hkl
    · rw [has_del_other e] at hkl
      obtain ⟨x, hx, rfl⟩ := h.only kl hkl
      exact ⟨x, mem_delM.2 ⟨hx, fun e1 => e (by rw [e1])⟩, rfl⟩
  at_ x hx zd := by
    obtain ⟨h1, h2⟩ := mem_delM.1 hx
    rw [atKey_del_other fun e => h2 (O.litInj (h.key x h1) ha e)]
    exact h.at_ x h1 zd
theorem MapIs.put (O : M.Ok) {D : DataW Unit} {L : List (α × β)} (h : MapIs M D L) (hD : IsMap D) {a : α} (ha : M.okK a) (c : β) : MapIs M (D.put (M.lit a) (M.dat c)) (putM L a c) where
  once := once_put h.once a c
  key x hx := by
    rcases mem_putM.1 hx with rfl | ⟨h1, _⟩
    · exact ha
    · exact h.key x h1
  has x hx := by
    rcases mem_putM.1 hx with rfl | ⟨h1, h2⟩
    · exact has_put_same hD (O.litKey ha) _
    · rw [has_put_other fun e => h2 (O.litInj (h.key x h1) ha e)]
      exact h.has x h1
  only kl hkl := by
    by_cases e : kl = M.lit a
    · exact ⟨(a, c), mem_putM.2 (.inl rfl), e⟩
    · rw [has_put_other e] at hkl
      obtain ⟨x, hx, rfl⟩ := h.only kl hkl
      exact ⟨x, mem_putM.2 (.inr ⟨hx, fun e1 => e (by rw [e1])⟩), rfl⟩
  at_ x hx zd := by
    rcases mem_putM.1 hx with rfl | ⟨h1, h2⟩
    · exact atKey_put_same hD (O.litKey ha) _ _
    · rw [atKey_put_other fun e => h2 (O.litInj (h.key x h1) ha e)]
      exact h.at_ x h1 zd
/-- What 'm[a]' reads as. -/
theorem MapIs.look (O : M.Ok) {D : DataW Unit} (h : MapIs M D L) {a : α} (ha : M.okK a) : Maps.has D (M.lit a) = hasM L a ∧ D.atKey (M.lit a) (M.dat M.zero) = M.dat (getM M L a) := by
  cases hh : hasM L a with
  | true =>
    obtain ⟨c, hc⟩ := hasM_iff.1 hh
    exact ⟨h.has _ hc, by rw [h.at_ _ hc, getM_of h.once hc]⟩
  | false =>
    have hn : Maps.has D (M.lit a) = false := by
      cases hx : Maps.has D (M.lit a) with
      | false => rfl
      | true =>
        obtain ⟨x, hx, e⟩ := h.only _ hx
        have := O.litInj ha (h.key x hx) e
        exact absurd (this ▸ hx) (hasM_false.1 hh x.2)
    exact ⟨hn, by rw [atKey_of_not_has hn, getM_no hh]⟩
end
section
variable {P : Program} {t k e : TypeId} {α β : Type} [DecidableEq α] {M : MK P t k e α β} (w : World) {ops : Array Oper} {rest : List Oper} {o : Oper} {a : Act} {Q : Exit → Act → World → Prop} {b : Nat} {L : List (α × β)}
/-- 'm[q]'. -/
theorem wpList_look_g (hg : o.guard = none) (m x : Operand) (hop : o.op = Op.lookup t m x false) (O : M.Ok) (hm : a.eval m = .map (some b)) (h : MapL M w b L) (q : α) (hq : M.okK q) (hx : a.eval x = M.encK q)
    (v : Value) (hv : M.encV (getM M L q) = v) (hK : wpList P ops Q rest (a.put o.dst v) w) : wpList P ops Q (o :: rest) a w := by
  refine wpList_plain hg fun K' hK' => ?_
  obtain ⟨D, h1, h2⟩ := h
  obtain ⟨v', ps, hrun, hv'⟩ := h1.lookup O.keyed O.und (O.zeroV w) (O.val M.zero) (O.key hq)
  rw [(h2.look O hq).2] at hv'
  have := O.valInj hv'
  subst this
  unfold Oper.wp
  simp [execOp, hop, hm, hx, hrun, Result.andThen]
  exact hK' _ _ (hv ▸ hK)
/-- 'v, ok := m[q]'. -/
theorem wpList_look_ok_g (hg : o.guard = none) (m x : Operand) (hop : o.op = Op.lookup t m x true) (O : M.Ok) (hm : a.eval m = .map (some b)) (h : MapL M w b L) (q : α) (hq : M.okK q) (hx : a.eval x = M.encK q)
    (v : Value) (hv : M.encV (getM M L q) = v) (c : Bool) (hc : hasM L q = c) (hK : wpList P ops Q rest (a.put o.dst (.tuple #[v, .bool c])) w) : wpList P ops Q (o :: rest) a w := by
  refine wpList_plain hg fun K' hK' => ?_
  obtain ⟨D, h1, h2⟩ := h
  obtain ⟨v', ps, hrun, hv'⟩ := h1.look_ok O.keyed O.und (O.zeroV w) (O.val M.zero) (O.key hq)
  rw [(h2.look O hq).2] at hv'
  rw [(h2.look O hq).1] at hrun
  have := O.valInj hv'
  subst this
  unfold Oper.wp
  simp [execOp, hop, hm, hx, hrun, Result.andThen]
  exact hK' _ _ (hv ▸ hc ▸ hK)
/-- 'm[q] = c'. -/
theorem wpList_put_g (hg : o.guard = none) (m x v : Operand) (hop : o.op = Op.mapUpdate t m x v) (O : M.Ok) (hm : a.eval m = .map (some b)) (h : MapL M w b L) (hl : L.length < maxLen) (q : α) (hq : M.okK q) (hx : a.eval x = M.encK q)
    (c : β) (hv : a.eval v = M.encV c) (hK : ∀ w', MapL M w' b (putM L q c) → w.grownBy w' (some b) → w'.heap.size = w.heap.size → wpList P ops Q rest (a.put o.dst undef) w') : wpList P ops Q (o :: rest) a w := by
  refine wpList_plain hg fun K' hK' => ?_
  obtain ⟨D, h1, h2⟩ := h
  obtain ⟨w', hrun, r1, r2⟩ := h1.store O.keyed O.und hl (O.key hq) (O.val c)
  unfold Oper.wp
  simp [execOp, hop, hm, hx, hv, hrun, Result.andThen]
  refine hK' _ _ (hK w' (MapL.mk' O r1 (h2.put O h1.isMap hq c)) r2.grown ?_)
  obtain ⟨_, _, _, _, _, rfl⟩ := r2
  simp [setBlock]
/-- 'delete(m, q)'. -/
theorem wpList_del_g (hg : o.guard = none) (m x : Operand) (hop : o.op = Op.call { callee := Callee.builtin Builtin.delete, args := #[m, x], argTypes := #[t, k] }) (O : M.Ok) (hm : a.eval m = .map (some b)) (h : MapL M w b L) (q : α) (hq : M.okK q) (hx : a.eval x = M.encK q)
    (hK : ∀ w', MapL M w' b (delM L q) → w.grownBy w' (some b) → w'.heap.size = w.heap.size → wpList P ops Q rest (a.put o.dst (.tuple #[])) w') : wpList P ops Q (o :: rest) a w := by
  refine wpList_plain hg fun K' hK' => ?_
  obtain ⟨D, h1, h2⟩ := h
  obtain ⟨w', hrun, r1, r2⟩ := h1.drop O.keyed O.und (O.key hq) o.type
  unfold Oper.wp
  simp [execOp, hop, resolve, invoke, builtin, hm, hx, hrun, Result.andThen]
  refine hK' _ _ (hK w' (MapL.mk' O r1 (h2.del O hq)) r2.grown ?_)
  obtain ⟨_, _, _, _, _, rfl⟩ := r2
  simp [setBlock]
/-- The step. -/
theorem wpList_next_g (hg : o.guard = none) (it : Operand) (hop : o.op = Op.next it false) (O : M.Ok) (b : Option Nat) (r : Nat) (l : List (α × β)) (hit : a.eval it = .pointer (some ⟨r, 0, none⟩)) (h : MapR M w b r L l)
    (hDone : l = [] → wpList P ops Q rest (a.put o.dst (.tuple #[.bool false])) w)
    (hMore : ∀ (x : α) (c : β) (l' : List (α × β)) (w' : World), M.okK x → l.Perm ((x, c) :: l') → MapR M w' b r L l' → leftO w' b r < leftO w b r → w.grownBy w' (some r) → w'.heap.size = w.heap.size →
      (Instr.entry (.pointer (some ⟨r, 0, none⟩))).run P w' = .ok (.tuple #[M.encK x, M.encV c]) w' → wpList P ops Q rest (a.put o.dst (.tuple #[.bool true, M.encK x, M.encV c])) w') :
    wpList P ops Q (o :: rest) a w := by
  refine wpList_plain hg fun K' hK' => ?_
  unfold Oper.wp
  cases b with
  | none =>
    obtain ⟨h1, rfl, rfl⟩ := h
    have hrun : (Instr.next (.pointer (some ⟨r, 0, none⟩)) false o.type).run P w = .ok (.tuple #[.bool false]) w := by
      simp only [Instr.next, getObj, Sem.run_bind, Sem.run, h1, Result.andThen]
      rfl
    simp [execOp, hop, hit, hrun, Result.andThen]
    exact hK' _ _ (hDone rfl)
  | some b =>
    obtain ⟨D, left, cnt, h1, h2, h3, h4, h5, h6⟩ := h
    rcases h1.next O.keyed o.type with ⟨h0, hl, hrun⟩ | ⟨key, v, kl, y, w', cnt', hkey, hlk, hv, hat, hrun, hrg, hlt, hgr, hsz, hen⟩
    · simp [execOp, hop, hit, hrun, Result.andThen]
      refine hK' _ _ (hDone ?_)
      cases l with
      | nil => rfl
      | cons x l =>
        have := h5 x (by simp)
        rw [hl] at this
        cases this
    · obtain ⟨x, hx, rfl⟩ := h6 kl hlk
      obtain ⟨x, c⟩ := x
      have hok := h2.key _ (h3 _ hx)
      obtain rfl : key = M.encK x := O.keyed.inj hkey (O.key hok)
      have hd := hat (M.dat M.zero)
      rw [h2.at_ _ (h3 _ hx)] at hd
      obtain rfl : v = M.encV c := by
        obtain ⟨y1, y2⟩ := y
        simp only at hd
        subst hd
        exact O.valInj hv
      simp [execOp, hop, hit, hrun, Result.andThen]
      refine hK' _ _ (hMore x c (delM l x) w' hok ?_ ⟨D, _, cnt', hrg, h2, fun y hy => h3 y (mem_delM.1 hy).1, once_del h4 x, fun y hy => ?_, fun kl hkl => ?_⟩ ?_ hgr hsz hen)
      · refine perm_of_once h4 ?_ ?_
        · exact once_put h4 x c
        · intro y
          rw [show (x, c) :: delM l x = putM l x c from rfl, mem_putM]
          constructor
          · intro hy
            by_cases e1 : y.1 = x
            · left
              obtain ⟨y1, y2⟩ := y
              simp only at e1
              subst e1
              rw [once_eq h4 hy hx]
            · exact .inr ⟨hy, e1⟩
          · rintro (rfl | ⟨hy, _⟩)
            · exact hx
            · exact hy
      · obtain ⟨m1, m2⟩ := mem_delM.1 hy
        show (left (M.lit y.1) && !(M.lit y.1).sameKey (M.lit x)) = true
        rw [h5 y m1, O.same (h2.key _ (h3 _ m1)) hok]
        simp [m2]
      · have hkl2 : left kl = true ∧ kl.sameKey (M.lit x) = false := by simpa using hkl
        obtain ⟨y, hy, rfl⟩ := h6 kl hkl2.1
        refine ⟨y, mem_delM.2 ⟨hy, fun e1 => ?_⟩, rfl⟩
        have := hkl2.2
        rw [O.same (h2.key _ (h3 _ hy)) hok] at this
        simp [e1] at this
      · show w'.rangeLeft b r < w.rangeLeft b r
        rw [hrg.left_eq, h1.left_eq]
        exact hlt
end
/-! ### elements that are maps -/
def mapEl : Value → Option (DataW Unit × List MemPlace)
  | .map none => some (.agg [], [])
  | .map (some b) => some (.agg [.lit (.int .i64 (b : Int))], [])
  | _ => none
def mapDat : Option Nat → DataW Unit
  | none => .agg []
  | some b => .agg [.lit (.int .i64 (b : Int))]
theorem mapEl_val (b : Option Nat) : mapEl (.map b) = some (mapDat b, []) := by cases b <;> rfl
theorem mapDat_inj {b c : Option Nat} (h : mapDat b = mapDat c) : b = c := by
  cases b <;> cases c <;> simp [mapDat] at h ⊢
  omega
theorem mapEl_inj {v : Value} {b : Option Nat} {ps : List MemPlace} (h : mapEl v = some (mapDat b, ps)) : v = .map b := by
  unfold mapEl at h
  split at h
  · simp only [Option.some.injEq, Prod.mk.injEq] at h
    rw [mapDat_inj (b := none) (c := b) h.1]
  · rename_i b'
    simp only [Option.some.injEq, Prod.mk.injEq] at h
    rw [mapDat_inj (b := some b') (c := b) h.1]
  · cases h
end Go.Proofs.Yteieaindejcfbaa
/- The maps of package index: places by keys, sets of keys, groups by fingerprints and by shelves. No statement of the seat is proved here. -/
namespace Go.Proofs.Yteieaindejcfbaa
open Go Go.Maps Go.RowKit Go.ChangeShapes Go.WideShapes Go.ChangeAt Go.Deep Go.Joins
set_option linter.unusedVariables false

theorem sumLaw : Keyed Try.prog 24 := Keyed.of_law (deep_law_laid laidKeys (m := 5) (by decide) (of_decide_eq_true (by kernel_rfl)) (by kernel_rfl) (by kernel_rfl))
def klS (d : List UInt8) : Lit := .string (keyBytes (d.map fun b => .int .u8 b.toNat))
theorem klS_is {d : List UInt8} (h : d.length = 32) : keyOf Try.prog 24 (.agg (bv d).toArray) = some (klS d) := by
  obtain ⟨D, hD⟩ : ∃ D, Try.prog.types.size + 1 = D + 2 := ⟨Try.prog.types.size - 1, by have : 1 ≤ Try.prog.types.size := of_decide_eq_true (by kernel_rfl); omega⟩
  have hL := lits_sum D d h
  obtain ⟨_, _, _, _, _, _, _, _, hS, _, h8⟩ := key_fields
  have hk : Try.prog.keyType 24 = true := by kernel_rfl
  have hf : (Value.agg (bv d).toArray).formed Try.prog 24 = true := by
    simp only [Value.formed, Try.underlying24, hS, List.size_toArray, bv_length, h]; rfl
  unfold keyOf klS
  simp only [Try.underlying24, hk, hf, Bool.and_self, if_true, hD]
  show Option.map _ (Try.prog.keyLits (D + 2) 24 (bv d)) = _
  rw [hL]; rfl
theorem in64_wf {x : Int} (h : In64 x) : (Lit.int .i64 x).wf = true := by
  obtain ⟨h1, h2⟩ := h
  have e1 : IntKind.i64.min = -9223372036854775808 := rfl
  have e2 : IntKind.i64.max = 9223372036854775807 := rfl
  simp [Lit.wf]
  omega
def placeEl : Value → Option (DataW Unit × List MemPlace)
  | .agg ⟨[.int .i64 x, .int .i64 y]⟩ => some (.agg [.lit (.int .i64 x), .lit (.int .i64 y)], [])
  | _ => none
theorem placeEl_inj {v : Value} {p : Int × Int} {ps : List MemPlace} (h : placeEl v = some (.agg [.lit (.int .i64 p.1), .lit (.int .i64 p.2)], ps)) : v = .agg #[.int .i64 p.1, .int .i64 p.2] := by
  unfold placeEl at h
  split at h
  · simp only [Option.some.injEq, Prod.mk.injEq, DataW.agg.injEq, List.cons.injEq, DataW.lit.injEq, Lit.int.injEq, true_and, and_true] at h
    rw [h.1.1, h.1.2]
  · cases h
/-- Places by keys. -/
def mkP : MK Try.prog 57 27 37 KeyT (Int × Int) where
  encK k := .agg (kcs k).toArray
  okK := KeyT.Ok
  lit := kl
  R := placeEl
  encV p := .agg #[.int .i64 p.1, .int .i64 p.2]
  dat p := .agg [.lit (.int .i64 p.1), .lit (.int .i64 p.2)]
  zero := (0, 0)
theorem agg_kcs {a b : KeyT} (ha : a.Ok) (hb : b.Ok) (h : Value.agg (kcs a).toArray = .agg (kcs b).toArray) : a = b := by
  injection h with h
  have h2 : (kcs a).toArray.toList = (kcs b).toArray.toList := by rw [h]
  exact kcs_inj ha hb h2
theorem agg_bv {a b : List UInt8} (h : Value.agg (bv a).toArray = .agg (bv b).toArray) : a = b := by
  injection h with h
  have h2 : (bv a).toArray.toList = (bv b).toArray.toList := by rw [h]
  have h3 : bv a = bv b := h2
  clear h h2
  induction a generalizing b with
  | nil => cases b with
    | nil => rfl
    | cons y b => cases h3
  | cons x a ih => cases b with
    | nil => cases h3
    | cons y b =>
      simp only [bv, List.map_cons, List.cons.injEq, Value.int.injEq, true_and] at h3
      rw [ih h3.2]
      congr 1
      exact UInt8.toNat_inj.1 (by omega)
theorem okP : mkP.Ok where
  keyed := keyLaw
  und := Try.underlying57
  key := kl_is
  inj := agg_kcs
  val _ := rfl
  valInj := placeEl_inj
  datInj h := by
    simp only [mkP, DataW.agg.injEq, List.cons.injEq, DataW.lit.injEq, Lit.int.injEq, true_and, and_true] at h
    exact Prod.ext h.1 h.2
  zeroV _ := by kernel_rfl
/-- A set of keys. -/
def mkS : MK Try.prog 68 27 76 KeyT Unit where
  encK k := .agg (kcs k).toArray
  okK := KeyT.Ok
  lit := kl
  R := unitElem
  encV _ := .agg #[]
  dat _ := .agg []
  zero := ()
theorem okS : mkS.Ok where
  keyed := keyLaw
  und := Try.underlying68
  key := kl_is
  inj := agg_kcs
  val _ := unitElem_mk
  valInj h := (unitElem_inv h).1
  datInj _ := rfl
  zeroV _ := by kernel_rfl
/-- Sets by fingerprints. -/
def mkT : MK Try.prog 59 24 68 (List UInt8) (Option Nat) where
  encK d := .agg (bv d).toArray
  okK d := d.length = 32
  lit := klS
  R := mapEl
  encV b := .map b
  dat := mapDat
  zero := none
theorem okT : mkT.Ok where
  keyed := sumLaw
  und := Try.underlying59
  key := klS_is
  inj _ _ h := agg_bv h
  val := mapEl_val
  valInj := mapEl_inj
  datInj := mapDat_inj
  zeroV _ := by kernel_rfl
/-- Sets by shelves. -/
def mkH : MK Try.prog 61 3 68 Int (Option Nat) where
  encK x := .int .i64 x
  okK := In64
  lit x := .int .i64 x
  R := mapEl
  encV b := .map b
  dat := mapDat
  zero := none
theorem okH : mkH.Ok where
  keyed := int_keyed Try.underlying3
  und := Try.underlying61
  key h := keyOf_int_mk Try.underlying3 (in64_wf h)
  inj _ _ h := by injection h
  val := mapEl_val
  valInj := mapEl_inj
  datInj := mapDat_inj
  zeroV _ := by kernel_rfl
end Go.Proofs.Yteieaindejcfbaa
/- Groups of keys: a map of sets. No statement of the seat is proved here; what stands here calls nothing. -/
namespace Go.Proofs.Yteieaindejcfbaa
open Go Go.Maps Go.RowKit
set_option linter.unusedVariables false

theorem nodup_len {α : Type} [DecidableEq α] : ∀ {A B : List α}, A.Nodup → (∀ x ∈ A, x ∈ B) → A.length ≤ B.length
  | [], _, _, _ => Nat.zero_le _
  | a :: A, B, h, hs => by
    rw [List.nodup_cons] at h
    have ha := hs a (by simp)
    have := nodup_len (B := B.erase a) h.2 fun x hx => (List.mem_erase_of_ne (fun e => h.1 (by rw [← e]; exact hx))).2 (hs x (by simp [hx]))
    rw [List.length_erase_of_mem ha] at this
    have h0 := List.length_pos_of_mem ha
    rw [List.length_cons]
    omega
def us (K : List KeyT) : List (KeyT × Unit) := K.map fun k => (k, ())
def tm {G : Type} (T : List (G × Nat)) : List (G × Option Nat) := T.map fun x => (x.1, some x.2)
theorem mem_us {K : List KeyT} {x : KeyT × Unit} : x ∈ us K ↔ x.1 ∈ K := by
  unfold us
  rw [List.mem_map]
  constructor
  · rintro ⟨k, hk, rfl⟩; exact hk
  · intro h; exact ⟨x.1, h, rfl⟩
theorem us_fst (K : List KeyT) : (us K).map (·.1) = K := by
  unfold us; rw [List.map_map]; exact List.map_id' K
theorem us_length (K : List KeyT) : (us K).length = K.length := by simp [us]
theorem us_back (L : List (KeyT × Unit)) : us (L.map (·.1)) = L := by
  unfold us; rw [List.map_map]; exact List.map_id' L
theorem tm_length {G : Type} (T : List (G × Nat)) : (tm T).length = T.length := by simp [tm]
theorem tm_fst {G : Type} (T : List (G × Nat)) : (tm T).map (·.1) = T.map (·.1) := by
  unfold tm; rw [List.map_map]; rfl
theorem mem_tm {G : Type} {T : List (G × Nat)} {d : G} {o : Option Nat} : (d, o) ∈ tm T ↔ ∃ x, o = some x ∧ (d, x) ∈ T := by
  unfold tm
  rw [List.mem_map]
  constructor
  · rintro ⟨x, hx, e⟩
    have e1 := (Prod.mk.inj e).1
    have e2 := (Prod.mk.inj e).2
    exact ⟨x.2, e2.symm, by rw [← e1]; exact hx⟩
  · rintro ⟨x, rfl, hx⟩
    exact ⟨(d, x), hx, rfl⟩
theorem tm_del {G : Type} [DecidableEq G] (T : List (G × Nat)) (d : G) : delM (tm T) d = tm (T.filter fun x => decide (x.1 ≠ d)) := by
  unfold delM tm
  rw [List.filter_map]
  rfl
/-- Block b is a map of groups: R says which keys lie in which; its blocks are F. -/
structure GrpT {G : Type} {t k : TypeId} (M : MK Try.prog t k 68 G (Option Nat)) (w : World) (b : Nat) (F : Nat → Prop) (R : G → KeyT → Prop) (T : List (G × Nat)) : Prop where
  map : MapL M w b (tm T)
  apart : (T.map (·.2)).Nodup
  far : b ∉ T.map (·.2)
  each : ∀ x ∈ T, ∃ K, MapL mkS w x.2 (us K) ∧ K ≠ [] ∧ ∀ k, k ∈ K ↔ R x.1 k
  all : ∀ d k, R d k → ∃ x, (d, x) ∈ T
  foot : ∀ g, F g ↔ g = b ∨ g ∈ T.map (·.2)
def Grp {G : Type} {t k : TypeId} (M : MK Try.prog t k 68 G (Option Nat)) (w : World) (b : Nat) (F : Nat → Prop) (R : G → KeyT → Prop) : Prop := ∃ T, GrpT M w b F R T
/-- There is room for one more. -/
def Room {G : Type} (R : G → KeyT → Prop) : Prop := ∃ B : List (G × KeyT), B.length ≤ 10000 ∧ ∀ d k, R d k → (d, k) ∈ B
section
variable {G : Type} {t k0 : TypeId} {M : MK Try.prog t k0 68 G (Option Nat)} {w w' : World} {b x : Nat} {F : Nat → Prop} {R : G → KeyT → Prop} {T : List (G × Nat)} {d : G} {k : KeyT} {K : List KeyT}
theorem GrpT.once (h : GrpT M w b F R T) : (T.map (·.1)).Nodup := by
  have := h.map.once
  rwa [tm_fst] at this
theorem roomK (hR : Room R) (hn : K.Nodup) (hK : ∀ k, k ∈ K ↔ R d k) : K.length ≤ 10000 := by
  obtain ⟨B, h1, h2⟩ := hR
  have := nodup_len (B := B.map (·.2)) hn fun y hy => List.mem_map.2 ⟨(d, y), h2 _ _ ((hK y).1 hy), rfl⟩
  rw [List.length_map] at this
  omega
theorem us_once (h : MapL mkS w x (us K)) : K.Nodup := by
  have := h.once
  rwa [us_fst] at this
theorem GrpT.lt (h : GrpT M w b F R T) : ∀ g, F g → g < w.heap.size := fun g hg => by
  rcases (h.foot g).1 hg with rfl | hg
  · exact h.map.lt
  · obtain ⟨x, hx, rfl⟩ := List.mem_map.1 hg
    obtain ⟨K, k1, _⟩ := h.each x hx
    exact k1.lt
theorem GrpT.keep (h : GrpT M w b F R T) (hk : ∀ g, F g → w'.heap[g]? = w.heap[g]?) : GrpT M w' b F R T :=
  ⟨h.map.blk (hk b ((h.foot b).2 (.inl rfl))), h.apart, h.far, fun x hx => by
    obtain ⟨K, k1, k2⟩ := h.each x hx
    exact ⟨K, k1.blk (hk x.2 ((h.foot _).2 (.inr (List.mem_map.2 ⟨x, hx, rfl⟩)))), k2⟩, h.all, h.foot⟩
theorem GrpT.blocks (h : GrpT M w b F R T) (hx : (d, x) ∈ T) : x ≠ b ∧ x < w.heap.size ∧ F x ∧ ∀ y ∈ T, y ≠ (d, x) → y.2 ≠ x := by
  have hm : x ∈ T.map (·.2) := List.mem_map.2 ⟨_, hx, rfl⟩
  have hF := (h.foot x).2 (.inr hm)
  refine ⟨fun e => h.far (e ▸ hm), h.lt x hF, hF, fun y hy hne e => hne ?_⟩
  have hp := h.apart
  clear h hm hF
  induction T with
  | nil => cases hx
  | cons z T ih =>
    rw [List.map_cons, List.nodup_cons] at hp
    rcases List.mem_cons.1 hx with e1 | h1 <;> rcases List.mem_cons.1 hy with e2 | h2
    · rw [e1, e2]
    · exact absurd (List.mem_map.2 ⟨y, h2, by rw [e, ← e1]⟩) hp.1
    · exact absurd (List.mem_map.2 ⟨_, h1, by rw [← e2, e]⟩) hp.1
    · exact ih h1 h2 hp.2
/-- A key is put into a group that there is. -/
theorem GrpT.add_in (h : GrpT M w b F R T) (hx : (d, x) ∈ T) (hK : ∀ k, k ∈ K ↔ R d k) (hk : ∀ g, g < w.heap.size → g ≠ x → w'.heap[g]? = w.heap[g]?) (hp : MapL mkS w' x (putM (us K) k ())) : GrpT M w' b F (fun d' k' => R d' k' ∨ (d' = d ∧ k' = k)) T := by
  obtain ⟨b1, b2, b3, b4⟩ := h.blocks hx
  refine ⟨h.map.blk (hk b h.map.lt fun e => b1 e.symm), h.apart, h.far, fun y hy => ?_, ?_, h.foot⟩
  · by_cases e : y = (d, x)
    · subst e
      refine ⟨(putM (us K) k ()).map (·.1), by rw [us_back]; exact hp, by simp [putM], fun q => ?_⟩
      rw [List.mem_map]
      constructor
      · rintro ⟨z, hz, rfl⟩
        rcases mem_putM.1 hz with rfl | ⟨hz, _⟩
        · exact .inr ⟨rfl, rfl⟩
        · exact .inl ((hK _).1 (mem_us.1 hz))
      · rintro (hq | ⟨_, rfl⟩)
        · by_cases e : q = k
          · exact ⟨(k, ()), mem_putM.2 (.inl rfl), e.symm⟩
          · exact ⟨(q, ()), mem_putM.2 (.inr ⟨mem_us.2 ((hK q).2 hq), e⟩), rfl⟩
        · exact ⟨(q, ()), mem_putM.2 (.inl rfl), rfl⟩
    · obtain ⟨K', k1, k2, k3⟩ := h.each y hy
      refine ⟨K', k1.blk (hk y.2 k1.lt (b4 y hy e)), k2, fun q => ?_⟩
      rw [k3 q]
      constructor
      · exact .inl
      · rintro (hq | ⟨e1, _⟩)
        · exact hq
        · refine absurd ?_ e
          have := once_eq h.once (a := d) (c := y.2) (d := x) (by rw [← e1]; exact hy) hx
          rw [← e1, ← this]
  · rintro d' k' (hq | ⟨rfl, _⟩)
    · exact h.all _ _ hq
    · exact ⟨x, hx⟩
/-- A key is taken out, others stay. -/
theorem GrpT.drop_in (h : GrpT M w b F R T) (hx : (d, x) ∈ T) (hK : ∀ k, k ∈ K ↔ R d k) (hk : ∀ g, g < w.heap.size → g ≠ x → w'.heap[g]? = w.heap[g]?) (hp : MapL mkS w' x (delM (us K) k)) (h0 : (delM (us K) k).length ≠ 0) : GrpT M w' b F (fun d' k' => R d' k' ∧ (d' = d → ¬ k' = k)) T := by
  obtain ⟨b1, b2, b3, b4⟩ := h.blocks hx
  refine ⟨h.map.blk (hk b h.map.lt fun e => b1 e.symm), h.apart, h.far, fun y hy => ?_, fun d' k' hq => h.all _ _ hq.1, h.foot⟩
  by_cases e : y = (d, x)
  · subst e
    refine ⟨(delM (us K) k).map (·.1), by rw [us_back]; exact hp, fun e => h0 (by rw [← List.length_map (·.1), e]; rfl), fun q => ?_⟩
    rw [List.mem_map]
    constructor
    · rintro ⟨z, hz, rfl⟩
      obtain ⟨z1, z2⟩ := mem_delM.1 hz
      exact ⟨(hK _).1 (mem_us.1 z1), fun _ e => z2 e⟩
    · rintro ⟨hq, hne⟩
      exact ⟨(q, ()), mem_delM.2 ⟨mem_us.2 ((hK q).2 hq), fun e => hne rfl e⟩, rfl⟩
  · obtain ⟨K', k1, k2, k3⟩ := h.each y hy
    refine ⟨K', k1.blk (hk y.2 k1.lt (b4 y hy e)), k2, fun q => ?_⟩
    rw [k3 q]
    constructor
    · refine fun hq => ⟨hq, fun e1 _ => absurd ?_ e⟩
      have := once_eq h.once (a := d) (c := y.2) (d := x) (by rw [← e1]; exact hy) hx
      rw [← e1, ← this]
    · exact fun hq => hq.1
end
section
variable {G : Type} [DecidableEq G] {t k0 : TypeId} {M : MK Try.prog t k0 68 G (Option Nat)} {w w' : World} {b x : Nat} {F : Nat → Prop} {R : G → KeyT → Prop} {T : List (G × Nat)} {d : G} {k : KeyT} {K : List KeyT}
theorem GrpT.roomT (h : GrpT M w b F R T) (hR : Room R) : T.length ≤ 10000 := by
  obtain ⟨B, h1, h2⟩ := hR
  have := nodup_len (B := B.map (·.1)) h.once fun g hg => by
    obtain ⟨x, hx, rfl⟩ := List.mem_map.1 hg
    obtain ⟨K, _, k2, k3⟩ := h.each x hx
    obtain ⟨y, hy⟩ := List.exists_mem_of_ne_nil K k2
    exact List.mem_map.2 ⟨(x.1, y), h2 _ _ ((k3 y).1 hy), rfl⟩
  rw [List.length_map, List.length_map] at this
  omega
theorem GrpT.get (h : GrpT M w b F R T) (hx : (d, x) ∈ T) : getM M (tm T) d = some x := getM_of h.map.once (mem_tm.2 ⟨x, rfl, hx⟩)
theorem GrpT.none_ (h : GrpT M w b F R T) (hO : M.zero = none) (hn : ∀ x, (d, x) ∉ T) : getM M (tm T) d = none := by
  rw [getM_no, hO]
  rw [hasM_false]
  intro c hc
  obtain ⟨x, _, hx⟩ := mem_tm.1 hc
  exact hn x hx
/-- .. into a new one. -/
theorem GrpT.add_new (h : GrpT M w b F R T) (hn : ∀ x, (d, x) ∉ T) (hx : w.heap.size ≤ x) (hk : ∀ g, g < w.heap.size → g ≠ b → w'.heap[g]? = w.heap[g]?) (hm : MapL M w' b (putM (tm T) d (some x))) (hp : MapL mkS w' x (putM (us []) k ())) :
    GrpT M w' b (fun g => F g ∨ g = x) (fun d' k' => R d' k' ∨ (d' = d ∧ k' = k)) ((d, x) :: T) := by
  have hbx : ∀ y ∈ T, y.2 < w.heap.size := fun y hy => h.lt _ ((h.foot _).2 (.inr (List.mem_map.2 ⟨y, hy, rfl⟩)))
  have hbl := h.map.lt
  have e : putM (tm T) d (some x) = tm ((d, x) :: T) := by
    have : delM (tm T) d = tm T := by
      unfold delM
      rw [List.filter_eq_self]
      intro y hy
      simp only [ne_eq, decide_eq_true_eq]
      rintro rfl
      obtain ⟨z, _, hz⟩ := mem_tm.1 (show (y.1, y.2) ∈ tm T from hy)
      exact hn z hz
    unfold putM
    rw [this]
    rfl
  rw [e] at hm
  refine ⟨hm, ?_, ?_, fun y hy => ?_, ?_, fun g => ?_⟩
  · rw [List.map_cons, List.nodup_cons]
    refine ⟨fun hm => ?_, h.apart⟩
    obtain ⟨y, hy, e⟩ := List.mem_map.1 hm
    have := hbx y hy
    omega
  · rw [List.map_cons, List.mem_cons, not_or]
    exact ⟨fun e => by omega, h.far⟩
  · rcases List.mem_cons.1 hy with rfl | hy
    · refine ⟨[k], hp, by simp, fun q => ?_⟩
      rw [List.mem_singleton]
      constructor
      · rintro rfl; exact .inr ⟨rfl, rfl⟩
      · rintro (hq | ⟨_, rfl⟩)
        · obtain ⟨y, hy⟩ := h.all _ _ hq
          exact absurd hy (hn y)
        · rfl
    · obtain ⟨K', k1, k2, k3⟩ := h.each y hy
      refine ⟨K', k1.blk (hk y.2 k1.lt fun e => h.far (e ▸ List.mem_map.2 ⟨y, hy, rfl⟩)), k2, fun q => ?_⟩
      rw [k3 q]
      constructor
      · exact .inl
      · rintro (hq | ⟨e1, _⟩)
        · exact hq
        · exact absurd (show (d, y.2) ∈ T by rw [← e1]; exact hy) (hn y.2)
  · rintro d' k' (hq | ⟨rfl, _⟩)
    · obtain ⟨y, hy⟩ := h.all _ _ hq
      exact ⟨y, List.mem_cons_of_mem _ hy⟩
    · exact ⟨x, List.mem_cons_self⟩
  · rw [h.foot g, List.map_cons, List.mem_cons]
    constructor
    · rintro ((h | h) | h)
      · exact .inl h
      · exact .inr (.inr h)
      · exact .inr (.inl h)
    · rintro (h | h | h)
      · exact .inl (.inl h)
      · exact .inr h
      · exact .inl (.inr h)
/-- .. the last of its group. -/
theorem GrpT.drop_last (h : GrpT M w b F R T) (hx : (d, x) ∈ T) (hK : ∀ k, k ∈ K ↔ R d k) (hk : ∀ g, g < w.heap.size → g ≠ x → g ≠ b → w'.heap[g]? = w.heap[g]?) (hm : MapL M w' b (delM (tm T) d)) (h0 : (delM (us K) k).length = 0) :
    GrpT M w' b (fun g => F g ∧ g ≠ x) (fun d' k' => R d' k' ∧ (d' = d → ¬ k' = k)) (T.filter fun x => decide (x.1 ≠ d)) := by
  obtain ⟨b1, b2, b3, b4⟩ := h.blocks hx
  rw [tm_del] at hm
  have hmem : ∀ y, y ∈ (T.filter fun x => decide (x.1 ≠ d)) ↔ y ∈ T ∧ y.1 ≠ d := fun y => by rw [List.mem_filter]; simp
  have honly : ∀ q, R d q → q = k := fun q hq => by
    by_cases e : q = k
    · exact e
    · have hd0 := List.eq_nil_of_length_eq_zero h0
      have : (q, ()) ∈ delM (us K) k := mem_delM.2 ⟨mem_us.2 ((hK q).2 hq), e⟩
      rw [hd0] at this
      cases this
  refine ⟨hm, h.apart.sublist (List.Sublist.map _ List.filter_sublist), fun hf => ?_, fun y hy => ?_, fun d' k' hq => ?_, fun g => ?_⟩
  · obtain ⟨y, hy, e⟩ := List.mem_map.1 hf
    exact h.far (e ▸ List.mem_map.2 ⟨y, ((hmem y).1 hy).1, rfl⟩)
  · obtain ⟨y1, y2⟩ := (hmem y).1 hy
    obtain ⟨K', k1, k2, k3⟩ := h.each y y1
    refine ⟨K', k1.blk (hk y.2 k1.lt (b4 y y1 fun e => y2 (by rw [e])) fun e => h.far (e ▸ List.mem_map.2 ⟨y, y1, rfl⟩)), k2, fun q => ?_⟩
    rw [k3 q]
    exact ⟨fun hq => ⟨hq, fun e1 _ => y2 e1⟩, fun hq => hq.1⟩
  · obtain ⟨y, hy⟩ := h.all _ _ hq.1
    refine ⟨y, (hmem _).2 ⟨hy, fun e => hq.2 e ?_⟩⟩
    have e2 : d' = d := e
    rw [e2] at hq
    exact honly _ hq.1
  · rw [h.foot g]
    constructor
    · rintro ⟨h1 | h1, h2⟩
      · exact .inl h1
      · obtain ⟨y, hy, rfl⟩ := List.mem_map.1 h1
        refine .inr (List.mem_map.2 ⟨y, (hmem y).2 ⟨hy, fun e => h2 ?_⟩, rfl⟩)
        exact once_eq h.once (a := d) (c := y.2) (d := x) (by rw [← e]; exact hy) hx
    · rintro (rfl | h1)
      · exact ⟨.inl rfl, fun e => b1 e.symm⟩
      · obtain ⟨y, hy, rfl⟩ := List.mem_map.1 h1
        obtain ⟨y1, y2⟩ := (hmem y).1 hy
        exact ⟨.inr (List.mem_map.2 ⟨y, y1, rfl⟩), b4 y y1 fun e => y2 (by rw [e])⟩
end
/-- A look-up ahead of the last write of a region that draws. -/
theorem wpStill_look {P : Program} {ops : Array Oper} {w : World} {Q : Act → Prop} {a : Act} {o : Oper} {rest : List Oper} (hgd : o.guard = none) (t : TypeId) (m x : Operand) (c : Bool) (ho : o.op = .lookup t m x c)
    (mv xv v : Value) (hm : a.eval m = mv) (hx : a.eval x = xv) (hr : (Instr.lookup t mv xv c).run P w = .ok v w) (h : wpStill P ops w Q rest (a.put o.dst v)) : wpStill P ops w Q (o :: rest) a := by
  have hw : Region.wanted o (yielded ops a.tmps) = true := by simp [Region.wanted, hgd]
  refine wpStill_step fun K hK => ?_
  rw [if_pos hw]
  unfold Oper.still execOp
  simp only [ho, hm, hx, Sem.run_bind, hr, Result.andThen_ok]
  exact ⟨rfl, hK _ h⟩
section
variable {P : Program} {t k e : TypeId} {α β : Type} [DecidableEq α] {M : MK P t k e α β} {w : World} {b : Nat} {L : List (α × β)}
theorem MapL.look (h : MapL M w b L) (O : M.Ok) {q : α} (hq : M.okK q) : (Instr.lookup t (.map (some b)) (M.encK q) false).run P w = .ok (M.encV (getM M L q)) w := by
  obtain ⟨D, h1, h2⟩ := h
  obtain ⟨v', ps, hrun, hv'⟩ := h1.lookup O.keyed O.und (O.zeroV w) (O.val M.zero) (O.key hq)
  rw [(h2.look O hq).2] at hv'
  rw [hrun, O.valInj hv']
theorem MapL.look_ok (h : MapL M w b L) (O : M.Ok) {q : α} (hq : M.okK q) : (Instr.lookup t (.map (some b)) (M.encK q) true).run P w = .ok (.tuple #[M.encV (getM M L q), .bool (hasM L q)]) w := by
  obtain ⟨D, h1, h2⟩ := h
  obtain ⟨v', ps, hrun, hv'⟩ := h1.look_ok O.keyed O.und (O.zeroV w) (O.val M.zero) (O.key hq)
  rw [(h2.look O hq).2] at hv'
  rw [hrun, O.valInj hv', (h2.look O hq).1]
end
end Go.Proofs.Yteieaindejcfbaa
/- A key is put into the group of a fingerprint. No statement of the seat is proved here. -/
namespace Go.Proofs.Yteieaindejcfbaa
open Go Go.Maps Go.RowKit
set_option linter.unusedVariables false

theorem sum_desc' : ∃ n e, Try.prog.underlying 24 = some (.array n e) := ⟨_, _, Try.underlying24⟩
theorem sum_size' : (Try.prog.info? 24).map (·.size) = some 32 := by kernel_rfl
theorem key_desc' : ∃ fs, Try.prog.underlying 27 = some (.struct fs) := ⟨_, Try.underlying27⟩
theorem grown_undrew {w w' : World} {r : Option Nat} (h : w.drew.grownBy w' r) : w.grownBy w' r := ⟨h.os, h.tape, h.output, h.size, h.block⟩
theorem set_some (x : Nat) (W : World) : (binOp .eql 68 (.map (some x)) (.map none)).run Try.prog W = .ok (.bool false) W := by kernel_rfl
theorem set_none (W : World) : (binOp .eql 68 (.map none) (.map none)).run Try.prog W = .ok (.bool true) W := by kernel_rfl
set_option maxRecDepth 100000 in
set_option maxHeartbeats 4000000 in
theorem addS_any (w : World) (b : Nat) (F : Nat → Prop) (R : List UInt8 → KeyT → Prop) (d : List UInt8) (hd : d.length = 32) (k : KeyT) (hk : k.Ok) (h : Grp mkT w b F R) (hR : Room R) :
    Calls Try.prog 29 #[.map (some b), .agg (bv d).toArray, kv k] w fun e w' => e = .returned (.tuple #[]) ∧ ∃ F', Grp mkT w' b F' (fun d' k' => R d' k' ∨ (d' = d ∧ k' = k)) ∧ (∀ g, F' g → F g ∨ w.heap.size ≤ g) ∧ Only F w w' := by
  obtain ⟨T, hT⟩ := h
  obtain ⟨S, hS⟩ : ∃ S, bv d = S := ⟨_, rfl⟩
  obtain ⟨X, hX⟩ : ∃ X, kcs k = X := ⟨_, rfl⟩
  have hSl : S.length = 32 := by rw [← hS, bv_length]; exact hd
  have hXl : X.length = 33 := by rw [← hX]; exact kcs_length hk
  obtain ⟨w1, hw1⟩ : ∃ w1, w.alloc (.cells S.toArray 24) = w1 := ⟨_, rfl⟩
  obtain ⟨w2, hw2⟩ : ∃ w2, w1.alloc (.cells X.toArray 27) = w2 := ⟨_, rfl⟩
  obtain ⟨sb, hsb⟩ : ∃ sb, w.heap.size = sb := ⟨_, rfl⟩
  have hs1 : w1.heap.size = sb + 1 := by rw [← hw1, ← hsb]; simp
  have hb1 : Below w.heap.size w w1 := hw1 ▸ (Below.refl _ _).alloc (Nat.le_refl _) _
  have hb2 : Below w1.heap.size w1 w2 := hw2 ▸ (Below.refl _ _).alloc (Nat.le_refl _) _
  have hk1 : Blk w2 sb 24 S.toArray := by rw [← hsb]; exact (hw1 ▸ Blk.new w _ _ : Blk w1 w.heap.size _ _).below hb2 (by rw [hs1, hsb]; omega)
  have hk2 : Blk w2 (sb + 1) 27 X.toArray := by rw [← hs1, ← hw2]; exact Blk.new w1 _ _
  have hbw : Below w.heap.size w w2 := hb1.trans (hb2.mono hb1.size)
  have hT2 := hT.keep fun g hg => hbw.block g (hT.lt g hg)
  have hl1 := hT.roomT hR
  have hs2 : w2.heap.size = sb + 2 := by rw [← hw2]; simp [hs1]
  have HSS := Lib.hid (show (Try.prog.info? 24).map (·.size) = some S.length from by rw [hSl]; exact sum_size')
  have HXS := Lib.hid (show (Try.prog.info? 27).map (·.size) = some X.length from by rw [hXl]; exact key_size)
  obtain ⟨ns, es, hfs⟩ := sum_desc'
  obtain ⟨fk, hfk⟩ := key_desc'
  have HF := Lib.hid (And.intro hfs hfk)
  have HW := Lib.hid (And.intro hw1 (And.intro hw2 (And.intro hsb hs1)))
  have HB := Lib.hid hbw
  have HK1 := Lib.hid hk1
  have HK2 := Lib.hid hk2
  have HR := Lib.hid hR
  have HL := Lib.hid hl1
  have HSX := Lib.hid (And.intro hS hX)
  have HZ := Lib.hid hs2
  unfold kv
  rw [hS, hX]
  by_cases hin : ∃ x, (d, x) ∈ T
  · obtain ⟨x, hx⟩ := hin
    obtain ⟨K, q1, q2, q3⟩ := hT2.each _ hx
    have HT := Lib.hid hT2
    have HM := Lib.hid hT2.map
    have HG := Lib.hid (show mkT.encV (getM mkT (tm T) d) = .map (some x) by rw [hT.get hx]; rfl)
    have HQ := Lib.hid (And.intro q1 (And.intro q2 q3))
    have HX := Lib.hid hx
    have HLK := Lib.hid (show (Instr.lookup 59 (.map (some b)) (.agg S.toArray) false).run Try.prog w2.drew = .ok (.map (some x)) w2.drew from by
      have := (show MapL mkT w2.drew b (tm T) from hT2.map.blk rfl).look okT (q := d) hd
      rw [hT.get hx] at this
      rw [← hS]; exact this)
    have hcmp := set_some x
    have HSQ := Lib.hid (show S = bv d from hS.symm)
    have HXQ := Lib.hid (show X = kcs k from hX.symm)
    clear hT hT2 hS hX hSl hXl hw1 hw2 hsb hs1 hb1 hb2 hk1 hk2 hbw hl1 hR q1 q2 q3 hx hfs hfk hs2
    go_enter Try.func29, Try.ntmps29
    go_upto_region 1 with fail
    rw [HW.out.1, HW.out.2.1, HW.out.2.2.1]
    go_wp2_with (first
      | (refine wpList_load_mid rfl 24 (.tmp 4) rfl sb 0 rfl S (.array ns es) (range_of_blk HK1.out) HF.out.1 rfl HSS.out ?_)
      | (refine wpList_look_g _ rfl (.tmp 6) (.tmp 7) rfl okT rfl HM.out d hd (show _ = Value.agg (bv d).toArray by rw [← HSQ.out]; rfl) (.map (some x)) HG.out ?_))
    refine wp_region_still_tail 5 (by kernel_rfl) (by kernel_rfl) ?_
    simp only [List.take_succ_cons, List.take_zero, List.drop_succ_cons, List.drop_zero]
    still_step
    refine wpStill_load_mid rfl 24 (.tmp 4) rfl sb 0 rfl S (.array ns es) (range_of_blk (show Blk w2.drew sb 24 S.toArray from HK1.out)) HF.out.1 rfl HSS.out ?_
    refine wpStill_look rfl 59 (.tmp 13) (.tmp 14) false rfl _ _ _ rfl rfl HLK.out ?_
    refine wpStill_load_mid rfl 27 (.tmp 5) rfl (sb + 1) 0 rfl X (.struct fk) (range_of_blk (show Blk w2.drew (sb + 1) 27 X.toArray from HK2.out)) HF.out.2 rfl HXS.out ?_
    still_step
    refine wpStill_nil ?_
    change wpList _ _ _ _ _ w2.drew
    obtain ⟨q1, q2, q3⟩ := HQ.out
    have HLK2 := Lib.hid (roomK HR.out (us_once q1) q3)
    refine wpList_put_g w2.drew rfl (.tmp 15) (.tmp 16) (.tmp 17) rfl okS rfl (show MapL mkS w2.drew x (us K) from q1.blk rfl) (by have := HLK2.out; rw [us_length]; unfold maxLen; omega) k hk (show _ = Value.agg (kcs k).toArray by rw [← HXQ.out]; rfl) () rfl ?_
    intro w3 m1 m2 m3
    have HM1 := Lib.hid m1
    have HM2 := Lib.hid m2
    clear m1 m2 m3 q1 q2 q3
    go_wp2_with fail
    (try simp only [Exit.inBlock, Exit.then])
    refine bodyPost_end (results_none rfl _ _ _) rfl ?_
    obtain ⟨b1, b2, b3, b4⟩ := HT.out.blocks HX.out
    have hk3 : ∀ g, g < w2.heap.size → g ≠ x → w3.heap[g]? = w2.heap[g]? := fun g hg hne => HM2.out.block g hg fun e => hne (by injection e)
    have hg := HT.out.add_in HX.out HQ.out.2.2 hk3 HM1.out
    exact ⟨rfl, F, ⟨T, hg⟩, fun g hg => .inl hg, (Only.of_below (F := F) HB.out).trans (only_grown (F := F) (grown_undrew HM2.out) b3) fun g hg => .inl hg⟩
  · have hno : ∀ x, (d, x) ∉ T := fun x hx => hin ⟨x, hx⟩
    have HNO := Lib.hid hno
    have HT := Lib.hid hT2
    have HM := Lib.hid hT2.map
    have HG := Lib.hid (show mkT.encV (getM mkT (tm T) d) = .map none by rw [hT.none_ rfl hno]; rfl)
    have hcmp := set_none
    have hmm := @run_makeMap Try.prog
    have HM3 := Lib.hid (show MapL mkT (w2.alloc (.map #[] 0)) b (tm T) from hT2.map.blk ((World.grownBy_alloc w2 (.map #[] 0) none).block b hT2.map.lt (by simp)))
    have hs3 : (w2.alloc (.map #[] 0)).heap.size = sb + 3 := by simp [hs2]
    have HBL := Lib.hid (show b < sb by rw [← hsb]; exact hT.map.lt)
    have HSQ := Lib.hid (show S = bv d from hS.symm)
    have HXQ := Lib.hid (show X = kcs k from hX.symm)
    clear hT hT2 hS hX hSl hXl hw1 hw2 hsb hs1 hb1 hb2 hk1 hk2 hbw hl1 hR hfs hfk hs2 hin hno
    go_enter Try.func29, Try.ntmps29
    go_upto_region 1 with fail
    rw [HW.out.1, HW.out.2.1, HW.out.2.2.1]
    go_wp2_with (first
      | (refine wpList_load_mid rfl 24 (.tmp 4) rfl sb 0 rfl S (.array ns es) (range_of_blk HK1.out) HF.out.1 rfl HSS.out ?_)
      | (refine wpList_look_g _ rfl (.tmp 6) (.tmp 7) rfl okT rfl HM.out d hd (show _ = Value.agg (bv d).toArray by rw [← HSQ.out]; rfl) (.map none) HG.out ?_)
      | (refine wpList_put_g (M := mkT) _ rfl (.tmp 10) (.tmp 11) (.tmp 12) rfl okT rfl (HM3.out) (by have := HL.out; rw [tm_length]; unfold maxLen; omega) d hd (show _ = Value.agg (bv d).toArray by rw [← HSQ.out]; rfl) (some w2.heap.size) rfl ?_; intro w3 m1 m2 m3))
    have hp3 : ∀ g, g < sb + 2 → g ≠ b → w3.heap[g]? = w2.heap[g]? := fun g hg hne => (m2.block g (by rw [hs3]; omega) fun e => hne (by injection e)).trans ((World.grownBy_alloc w2 (.map #[] 0) none).block g (by rw [HZ.out]; exact hg) (by simp))
    have hbl : b < sb := by
      have := (HT.out.map).lt
      exact HBL.out
    have hk3 := HK1.out.same (hp3 sb (by omega) (by omega))
    have hk4 := HK2.out.same (hp3 (sb + 1) (by omega) (by omega))
    have hnew : MapL mkS w3 (sb + 2) (us []) := by
      have h1 := MapL.made mkS w2
      rw [HZ.out] at h1
      exact h1.blk (m2.block (sb + 2) (by rw [hs3]; omega) fun e => by injection e with e; omega)
    rw [HZ.out] at m1 ⊢
    have HM1 := Lib.hid m1
    have HM2 := Lib.hid m2
    have HK3 := Lib.hid hk3
    have HK4 := Lib.hid hk4
    have HNEW := Lib.hid hnew
    have HP3 := Lib.hid hp3
    have HLK := Lib.hid (show (Instr.lookup 59 (.map (some b)) (.agg S.toArray) false).run Try.prog w3.drew = .ok (.map (some (sb + 2))) w3.drew from by
      have := (show MapL mkT w3.drew b (putM (tm T) d (some (sb + 2))) from m1.blk rfl).look okT (q := d) hd
      rw [getM_of m1.once (mem_putM.2 (.inl rfl))] at this
      rw [HSQ.out]; exact this)
    clear m1 m2 m3 hk3 hk4 hnew hp3
    refine wp_region_still_tail 5 (by kernel_rfl) (by kernel_rfl) ?_
    simp only [List.take_succ_cons, List.take_zero, List.drop_succ_cons, List.drop_zero]
    still_step
    refine wpStill_load_mid rfl 24 (.tmp 4) rfl sb 0 rfl S (.array ns es) (range_of_blk (show Blk w3.drew sb 24 S.toArray from HK3.out)) HF.out.1 rfl HSS.out ?_
    refine wpStill_look rfl 59 (.tmp 13) (.tmp 14) false rfl _ _ _ rfl rfl HLK.out ?_
    refine wpStill_load_mid rfl 27 (.tmp 5) rfl (sb + 1) 0 rfl X (.struct fk) (range_of_blk (show Blk w3.drew (sb + 1) 27 X.toArray from HK4.out)) HF.out.2 rfl HXS.out ?_
    still_step
    refine wpStill_nil ?_
    change wpList _ _ _ _ _ w3.drew
    refine wpList_put_g w3.drew rfl (.tmp 15) (.tmp 16) (.tmp 17) rfl okS rfl (show MapL mkS w3.drew (sb + 2) (us []) from HNEW.out.blk rfl) (by rw [us_length]; unfold maxLen; decide) k hk (show _ = Value.agg (kcs k).toArray by rw [← HXQ.out]; rfl) () rfl ?_
    intro w4 m1 m2 m3
    have HM4 := Lib.hid m1
    have HM5 := Lib.hid m2
    clear m1 m2 m3
    go_wp2_with fail
    (try simp only [Exit.inBlock, Exit.then])
    refine bodyPost_end (results_none rfl _ _ _) rfl ?_
    have hb4 : ∀ g, g < w3.heap.size → g ≠ sb + 2 → w4.heap[g]? = w3.heap[g]? := fun g hg hne => HM5.out.block g hg fun e => hne (by injection e)
    have hz3 : sb + 3 ≤ w3.heap.size := by
      have := HM2.out.size
      rw [hs3] at this
      exact this
    have hg := HT.out.add_new HNO.out (x := sb + 2) (k := k) (by rw [HZ.out]; exact Nat.le_refl _)
      (fun g hg hne => (hb4 g (by rw [HZ.out] at hg; omega) (by rw [HZ.out] at hg; omega)).trans (HP3.out g (by rw [HZ.out] at hg; exact hg) hne)) (HM1.out.blk (hb4 b (by omega) (by omega))) HM4.out
    refine ⟨rfl, _, ⟨_, hg⟩, fun g hg => ?_, ?_⟩
    · rcases hg with h1 | rfl
      · exact .inl h1
      · rw [HW.out.2.2.1]; exact .inr (by omega)
    · have hFb : F b := (HT.out.foot b).2 (.inl rfl)
      have o1 : Only F w w2 := Only.of_below HB.out
      have o2 : Only F w2 (w2.alloc (.map #[] 0)) := Only.of_below ((Below.refl _ _).alloc (Nat.le_refl _) _)
      have o3 : Only F (w2.alloc (.map #[] 0)) w3 := only_grown HM2.out hFb
      have o4 : Only (fun g => g = sb + 2) w3 w4 := only_grown (grown_undrew HM5.out) rfl
      refine ((o1.trans o2 fun g hg => .inl hg).trans o3 fun g hg => .inl hg).trans o4 ?_
      rintro g rfl
      rw [HW.out.2.2.1]; exact .inr (by omega)
end Go.Proofs.Yteieaindejcfbaa
/- A key is put into the group of a shelf. No statement of the seat is proved here. -/
namespace Go.Proofs.Yteieaindejcfbaa
open Go Go.Maps Go.RowKit
set_option linter.unusedVariables false

set_option maxRecDepth 100000 in
set_option maxHeartbeats 4000000 in
theorem addH_any (w : World) (b : Nat) (F : Nat → Prop) (R : Int → KeyT → Prop) (d : Int) (hd : In64 d) (k : KeyT) (hk : k.Ok) (h : Grp mkH w b F R) (hR : Room R) :
    Calls Try.prog 30 #[.map (some b), .int .i64 d, kv k] w fun e w' => e = .returned (.tuple #[]) ∧ ∃ F', Grp mkH w' b F' (fun d' k' => R d' k' ∨ (d' = d ∧ k' = k)) ∧ (∀ g, F' g → F g ∨ w.heap.size ≤ g) ∧ Only F w w' := by
  obtain ⟨T, hT⟩ := h
  obtain ⟨X, hX⟩ : ∃ X, kcs k = X := ⟨_, rfl⟩
  have hXl : X.length = 33 := by rw [← hX]; exact kcs_length hk
  obtain ⟨w2, hw2⟩ : ∃ w2, w.alloc (.cells X.toArray 27) = w2 := ⟨_, rfl⟩
  obtain ⟨sb, hsb⟩ : ∃ sb, w.heap.size = sb := ⟨_, rfl⟩
  have hbw : Below w.heap.size w w2 := hw2 ▸ (Below.refl _ _).alloc (Nat.le_refl _) _
  have hk2 : Blk w2 sb 27 X.toArray := by rw [← hsb, ← hw2]; exact Blk.new w _ _
  have hT2 := hT.keep fun g hg => hbw.block g (hT.lt g hg)
  have hl1 := hT.roomT hR
  have hs2 : w2.heap.size = sb + 1 := by rw [← hw2]; simp [hsb]
  have HXS := Lib.hid (show (Try.prog.info? 27).map (·.size) = some X.length from by rw [hXl]; exact key_size)
  obtain ⟨fk, hfk⟩ := key_desc'
  have HF := Lib.hid hfk
  have HW := Lib.hid (And.intro hw2 hsb)
  have HB := Lib.hid hbw
  have HK2 := Lib.hid hk2
  have HR := Lib.hid hR
  have HL := Lib.hid hl1
  have HZ := Lib.hid hs2
  unfold kv
  rw [hX]
  by_cases hin : ∃ x, (d, x) ∈ T
  · obtain ⟨x, hx⟩ := hin
    obtain ⟨K, q1, q2, q3⟩ := hT2.each _ hx
    have HT := Lib.hid hT2
    have HM := Lib.hid hT2.map
    have HG := Lib.hid (show mkH.encV (getM mkH (tm T) d) = .map (some x) by rw [hT.get hx]; rfl)
    have HQ := Lib.hid (And.intro q1 (And.intro q2 q3))
    have HX := Lib.hid hx
    have hcmp := set_some x
    have HXQ := Lib.hid (show X = kcs k from hX.symm)
    have HLK2 := Lib.hid (roomK hR (us_once q1) q3)
    clear hT hT2 hX hXl hw2 hsb hk2 hbw hl1 hR q1 q2 q3 hx hfk hs2
    go_enter Try.func30, Try.ntmps30
    go_upto_region 1 with fail
    rw [HW.out.1, HW.out.2]
    go_wp2_with (first
      | (refine wpList_load_mid rfl 27 (.tmp 5) rfl sb 0 rfl X (.struct fk) (range_of_blk HK2.out) HF.out rfl HXS.out ?_)
      | (refine wpList_look_g _ rfl (.tmp 6) (.tmp 7) rfl okH rfl HM.out d hd rfl (.map (some x)) HG.out ?_)
      | (refine wpList_look_g _ rfl (.tmp 13) (.tmp 14) rfl okH rfl HM.out d hd rfl (.map (some x)) HG.out ?_)
      | (refine wpList_put_g w2 rfl (.tmp 15) (.tmp 16) (.tmp 17) rfl okS rfl HQ.out.1 (by have := HLK2.out; rw [us_length]; unfold maxLen; omega) k hk (show _ = Value.agg (kcs k).toArray by rw [← HXQ.out]; rfl) () rfl ?_; intro w3 m1 m2 m3; have HM1 := Lib.hid m1; have HM2 := Lib.hid m2; clear m1 m2 m3))
    (try simp only [Exit.inBlock, Exit.then])
    refine bodyPost_end (results_none rfl _ _ _) rfl ?_
    obtain ⟨b1, b2, b3, b4⟩ := HT.out.blocks HX.out
    have hk3 : ∀ g, g < w2.heap.size → g ≠ x → w3.heap[g]? = w2.heap[g]? := fun g hg hne => HM2.out.block g hg fun e => hne (by injection e)
    have hg := HT.out.add_in HX.out HQ.out.2.2 hk3 HM1.out
    exact ⟨rfl, F, ⟨T, hg⟩, fun g hg => .inl hg, (Only.of_below (F := F) HB.out).trans (only_grown (F := F) HM2.out b3) fun g hg => .inl hg⟩
  · have hno : ∀ x, (d, x) ∉ T := fun x hx => hin ⟨x, hx⟩
    have HNO := Lib.hid hno
    have HT := Lib.hid hT2
    have HM := Lib.hid hT2.map
    have HG := Lib.hid (show mkH.encV (getM mkH (tm T) d) = .map none by rw [hT.none_ rfl hno]; rfl)
    have HM3 := Lib.hid (show MapL mkH (w2.alloc (.map #[] 0)) b (tm T) from hT2.map.blk ((World.grownBy_alloc w2 (.map #[] 0) none).block b hT2.map.lt (by simp)))
    have HS3 := Lib.hid (show (w2.alloc (.map #[] 0)).heap.size = sb + 2 by simp [hs2])
    have HBL := Lib.hid (show b < sb by rw [← hsb]; exact hT.map.lt)
    have hcmp := set_none
    have hmm := @run_makeMap Try.prog
    have HXQ := Lib.hid (show X = kcs k from hX.symm)
    clear hT hT2 hX hXl hw2 hsb hk2 hbw hl1 hR hfk hs2 hin hno
    go_enter Try.func30, Try.ntmps30
    go_upto_region 1 with fail
    rw [HW.out.1, HW.out.2]
    go_upto_region 3 with (first
      | (refine wpList_look_g _ rfl (.tmp 6) (.tmp 7) rfl okH rfl HM.out d hd rfl (.map none) HG.out ?_)
      | (refine wpList_put_g (M := mkH) _ rfl (.tmp 10) (.tmp 11) (.tmp 12) rfl okH rfl (HM3.out) (by have := HL.out; rw [tm_length]; unfold maxLen; omega) d hd rfl (some w2.heap.size) rfl ?_; intro w3 m1 m2 m3))
    have hs3 := HS3.out
    have hp3 : ∀ g, g < sb + 1 → g ≠ b → w3.heap[g]? = w2.heap[g]? := fun g hg hne => (m2.block g (by rw [hs3]; omega) fun e => hne (by injection e)).trans ((World.grownBy_alloc w2 (.map #[] 0) none).block g (by rw [HZ.out]; exact hg) (by simp))
    have hbl : b < sb := HBL.out
    have hk4 := HK2.out.same (hp3 sb (by omega) (by omega))
    have hnew : MapL mkS w3 (sb + 1) (us []) := by
      have h1 := MapL.made mkS w2
      rw [HZ.out] at h1
      exact h1.blk (m2.block (sb + 1) (by rw [hs3]; omega) fun e => by injection e with e; omega)
    rw [HZ.out] at m1 ⊢
    have HM1 := Lib.hid m1
    have HM2 := Lib.hid m2
    have HK4 := Lib.hid hk4
    have HNEW := Lib.hid hnew
    have HP3 := Lib.hid hp3
    have HBL2 := Lib.hid hbl
    have HG3 := Lib.hid (show mkH.encV (getM mkH (putM (tm T) d (some (sb + 1))) d) = .map (some (sb + 1)) by rw [getM_of m1.once (mem_putM.2 (.inl rfl))]; rfl)
    clear m1 m2 m3 hk4 hnew hp3 hs3 hbl
    go_wp2_with (first
      | (refine wpList_load_mid rfl 27 (.tmp 5) rfl sb 0 rfl X (.struct fk) (range_of_blk HK4.out) HF.out rfl HXS.out ?_)
      | (refine wpList_look_g _ rfl (.tmp 13) (.tmp 14) rfl okH rfl HM1.out d hd rfl (.map (some (sb + 1))) HG3.out ?_)
      | (refine wpList_put_g w3 rfl (.tmp 15) (.tmp 16) (.tmp 17) rfl okS rfl HNEW.out (by rw [us_length]; unfold maxLen; decide) k hk (show _ = Value.agg (kcs k).toArray by rw [← HXQ.out]; rfl) () rfl ?_; intro w4 m1 m2 m3; have HM4 := Lib.hid m1; have HM5 := Lib.hid m2; clear m1 m2 m3))
    (try simp only [Exit.inBlock, Exit.then])
    refine bodyPost_end (results_none rfl _ _ _) rfl ?_
    have hbl : b < sb := HBL2.out
    have hb4 : ∀ g, g < w3.heap.size → g ≠ sb + 1 → w4.heap[g]? = w3.heap[g]? := fun g hg hne => HM5.out.block g hg fun e => hne (by injection e)
    have hz3 : sb + 2 ≤ w3.heap.size := by
      have := HM2.out.size
      rw [HS3.out] at this
      exact this
    have hg := HT.out.add_new HNO.out (x := sb + 1) (k := k) (by rw [HZ.out]; exact Nat.le_refl _)
      (fun g hg hne => (hb4 g (by rw [HZ.out] at hg; omega) (by rw [HZ.out] at hg; omega)).trans (HP3.out g (by rw [HZ.out] at hg; exact hg) hne)) (HM1.out.blk (hb4 b (by omega) (by omega))) HM4.out
    refine ⟨rfl, _, ⟨_, hg⟩, fun g hg => ?_, ?_⟩
    · rcases hg with h1 | rfl
      · exact .inl h1
      · rw [HW.out.2]; exact .inr (by omega)
    · have hFb : F b := (HT.out.foot b).2 (.inl rfl)
      have o1 : Only F w w2 := Only.of_below HB.out
      have o2 : Only F w2 (w2.alloc (.map #[] 0)) := Only.of_below ((Below.refl _ _).alloc (Nat.le_refl _) _)
      have o3 : Only F (w2.alloc (.map #[] 0)) w3 := only_grown HM2.out hFb
      have o4 : Only (fun g => g = sb + 1) w3 w4 := only_grown HM5.out rfl
      refine ((o1.trans o2 fun g hg => .inl hg).trans o3 fun g hg => .inl hg).trans o4 ?_
      rintro g rfl
      rw [HW.out.2]; exact .inr (by omega)
end Go.Proofs.Yteieaindejcfbaa
/- A key is taken out of the group of a fingerprint. No statement of the seat is proved here. -/
namespace Go.Proofs.Yteieaindejcfbaa
open Go Go.Maps Go.RowKit
set_option linter.unusedVariables false

set_option maxRecDepth 100000 in
set_option maxHeartbeats 4000000 in
theorem dropS_any (w : World) (b : Nat) (F : Nat → Prop) (R : List UInt8 → KeyT → Prop) (d : List UInt8) (hd : d.length = 32) (k : KeyT) (hk : k.Ok) (h : Grp mkT w b F R) (hin : R d k) :
    Calls Try.prog 26 #[.map (some b), .agg (bv d).toArray, kv k] w fun e w' => e = .returned (.tuple #[]) ∧ ∃ F', Grp mkT w' b F' (fun d' k' => R d' k' ∧ (d' = d → ¬ k' = k)) ∧ (∀ g, F' g → F g) ∧ Only F w w' := by
  obtain ⟨T, hT⟩ := h
  obtain ⟨S, hS⟩ : ∃ S, bv d = S := ⟨_, rfl⟩
  obtain ⟨X, hX⟩ : ∃ X, kcs k = X := ⟨_, rfl⟩
  have hSl : S.length = 32 := by rw [← hS, bv_length]; exact hd
  have hXl : X.length = 33 := by rw [← hX]; exact kcs_length hk
  obtain ⟨w1, hw1⟩ : ∃ w1, w.alloc (.cells S.toArray 24) = w1 := ⟨_, rfl⟩
  obtain ⟨w2, hw2⟩ : ∃ w2, w1.alloc (.cells X.toArray 27) = w2 := ⟨_, rfl⟩
  obtain ⟨sb, hsb⟩ : ∃ sb, w.heap.size = sb := ⟨_, rfl⟩
  have hs1 : w1.heap.size = sb + 1 := by rw [← hw1, ← hsb]; simp
  have hb1 : Below w.heap.size w w1 := hw1 ▸ (Below.refl _ _).alloc (Nat.le_refl _) _
  have hb2 : Below w1.heap.size w1 w2 := hw2 ▸ (Below.refl _ _).alloc (Nat.le_refl _) _
  have hk1 : Blk w2 sb 24 S.toArray := by rw [← hsb]; exact (hw1 ▸ Blk.new w _ _ : Blk w1 w.heap.size _ _).below hb2 (by rw [hs1, hsb]; omega)
  have hk2 : Blk w2 (sb + 1) 27 X.toArray := by rw [← hs1, ← hw2]; exact Blk.new w1 _ _
  have hbw : Below w.heap.size w w2 := hb1.trans (hb2.mono hb1.size)
  have hT2 := hT.keep fun g hg => hbw.block g (hT.lt g hg)
  have hs2 : w2.heap.size = sb + 2 := by rw [← hw2]; simp [hs1]
  have HSS := Lib.hid (show (Try.prog.info? 24).map (·.size) = some S.length from by rw [hSl]; exact sum_size')
  have HXS := Lib.hid (show (Try.prog.info? 27).map (·.size) = some X.length from by rw [hXl]; exact key_size)
  obtain ⟨ns, es, hfs⟩ := sum_desc'
  obtain ⟨fk, hfk⟩ := key_desc'
  have HF := Lib.hid (And.intro hfs hfk)
  have HW := Lib.hid (And.intro hw1 (And.intro hw2 (And.intro hsb hs1)))
  have HB := Lib.hid hbw
  have HK1 := Lib.hid hk1
  have HK2 := Lib.hid hk2
  have HZ := Lib.hid hs2
  unfold kv
  rw [hS, hX]
  obtain ⟨x, hx⟩ := hT2.all _ _ hin
  obtain ⟨K, q1, q2, q3⟩ := hT2.each _ hx
  obtain ⟨n, hn⟩ : ∃ n, (delM (us K) k).length = n := ⟨_, rfl⟩
  obtain ⟨b1, b2, b3, b4⟩ := hT2.blocks hx
  have HT := Lib.hid hT2
  have HM := Lib.hid hT2.map
  have HG := Lib.hid (show mkT.encV (getM mkT (tm T) d) = .map (some x) by rw [hT.get hx]; rfl)
  have HQ := Lib.hid (And.intro q1 (And.intro q2 q3))
  have HX := Lib.hid hx
  have HN := Lib.hid hn
  have HBX := Lib.hid (And.intro b1 (And.intro b2 (And.intro b3 (show x < sb from by
    rw [← hsb]; exact hT.lt x b3))))
  have HBB := Lib.hid (show b < sb by rw [← hsb]; exact hT.map.lt)
  have HLK := Lib.hid (show (Instr.lookup 59 (.map (some b)) (.agg S.toArray) false).run Try.prog w2.drew = .ok (.map (some x)) w2.drew from by
    have := (show MapL mkT w2.drew b (tm T) from hT2.map.blk rfl).look okT (q := d) hd
    rw [hT.get hx] at this
    rw [← hS]; exact this)
  have HSQ := Lib.hid (show S = bv d from hS.symm)
  have HXQ := Lib.hid (show X = kcs k from hX.symm)
  clear hT hT2 hS hX hSl hXl hw1 hw2 hsb hs1 hb1 hb2 hk1 hk2 hbw q1 q2 q3 hx hfs hfk hs2 hin hn b1 b2 b3 b4
  go_enter Try.func26, Try.ntmps26
  go_upto_region 1 with fail
  rw [HW.out.1, HW.out.2.1, HW.out.2.2.1]
  refine wp_region_still_tail 4 (by kernel_rfl) (by kernel_rfl) ?_
  simp only [List.take_succ_cons, List.take_zero, List.drop_succ_cons, List.drop_zero]
  still_step
  refine wpStill_load_mid rfl 24 (.tmp 4) rfl sb 0 rfl S (.array ns es) (range_of_blk (show Blk w2.drew sb 24 S.toArray from HK1.out)) HF.out.1 rfl HSS.out ?_
  refine wpStill_look rfl 59 (.tmp 6) (.tmp 7) false rfl _ _ _ rfl rfl HLK.out ?_
  refine wpStill_load_mid rfl 27 (.tmp 5) rfl (sb + 1) 0 rfl X (.struct fk) (range_of_blk (show Blk w2.drew (sb + 1) 27 X.toArray from HK2.out)) HF.out.2 rfl HXS.out ?_
  refine wpStill_nil ?_
  change wpList _ _ _ _ _ w2.drew
  refine wpList_del_g w2.drew rfl (.tmp 8) (.tmp 9) rfl okS rfl (show MapL mkS w2.drew x (us K) from HQ.out.1.blk rfl) k hk (show _ = Value.agg (kcs k).toArray by rw [← HXQ.out]; rfl) ?_
  intro w3 m1 m2 m3
  have HM1 := Lib.hid m1
  have HM2 := Lib.hid (grown_undrew m2)
  have hk3 : ∀ g, g < w2.heap.size → g ≠ x → w3.heap[g]? = w2.heap[g]? := fun g hg hne => HM2.out.block g hg fun e => hne (by injection e)
  have HK3 := Lib.hid hk3
  have HR1 := Lib.hid (HK1.out.same (hk3 sb (by rw [HZ.out]; omega) (by have := HBX.out.2.2.2; omega)))
  have HMB := Lib.hid (show MapL mkT w3 b (tm T) from HM.out.blk (hk3 b (by have := HBB.out; rw [HZ.out]; omega) (fun e => HBX.out.1 e.symm)))
  clear m1 m2 m3 hk3
  by_cases hn0 : n = 0
  · subst hn0
    go_wp2_with (first
      | (refine wpList_load_mid rfl 24 (.tmp 4) rfl sb 0 rfl S (.array ns es) (range_of_blk HR1.out) HF.out.1 rfl HSS.out ?_)
      | (refine wpList_look_g _ rfl (.tmp 10) (.tmp 11) rfl okT rfl HMB.out d hd (show _ = Value.agg (bv d).toArray by rw [← HSQ.out]; rfl) (.map (some x)) HG.out ?_)
      | (refine wpList_len_g _ rfl (.tmp 12) rfl okS rfl HM1.out ?_; rw [HN.out])
      | (refine wpList_del_g (M := mkT) w3 rfl (.tmp 15) (.tmp 16) rfl okT rfl HMB.out d hd (show _ = Value.agg (bv d).toArray by rw [← HSQ.out]; rfl) ?_; intro w4 m1 m2 m3; have HM3 := Lib.hid m1; have HM4 := Lib.hid m2; clear m1 m2 m3))
    (try simp only [Exit.inBlock, Exit.then])
    refine bodyPost_end (results_none rfl _ _ _) rfl ?_
    have hFb : F b := (HT.out.foot b).2 (.inl rfl)
    have hg := HT.out.drop_last (w' := w4) (k := k) HX.out HQ.out.2.2 (fun g hg h1 h2 => (HM4.out.block g (Nat.lt_of_lt_of_le hg HM2.out.size) fun e => h2 (by injection e)).trans (HK3.out g hg h1)) HM3.out HN.out
    exact ⟨rfl, _, ⟨_, hg⟩, fun g hg => hg.1, ((Only.of_below (F := F) HB.out).trans (only_grown (F := F) HM2.out HBX.out.2.2.1) fun g hg => .inl hg).trans (only_grown (F := F) HM4.out hFb) fun g hg => .inl hg⟩
  · go_wp2_with (first
      | (refine wpList_load_mid rfl 24 (.tmp 4) rfl sb 0 rfl S (.array ns es) (range_of_blk HR1.out) HF.out.1 rfl HSS.out ?_)
      | (refine wpList_look_g _ rfl (.tmp 10) (.tmp 11) rfl okT rfl HMB.out d hd (show _ = Value.agg (bv d).toArray by rw [← HSQ.out]; rfl) (.map (some x)) HG.out ?_)
      | (refine wpList_len_g _ rfl (.tmp 12) rfl okS rfl HM1.out ?_; rw [HN.out]))
    (try simp only [Exit.inBlock, Exit.then])
    refine bodyPost_end (results_none rfl _ _ _) rfl ?_
    have hg := HT.out.drop_in HX.out HQ.out.2.2 HK3.out HM1.out (by rw [HN.out]; exact hn0)
    exact ⟨rfl, F, ⟨T, hg⟩, fun g hg => hg, (Only.of_below (F := F) HB.out).trans (only_grown (F := F) HM2.out HBX.out.2.2.1) fun g hg => .inl hg⟩
end Go.Proofs.Yteieaindejcfbaa
/- A key is taken out of the group of a shelf. No statement of the seat is proved here. -/
namespace Go.Proofs.Yteieaindejcfbaa
open Go Go.Maps Go.RowKit
set_option linter.unusedVariables false

set_option maxRecDepth 100000 in
set_option maxHeartbeats 4000000 in
theorem dropH_any (w : World) (b : Nat) (F : Nat → Prop) (R : Int → KeyT → Prop) (d : Int) (hd : In64 d) (k : KeyT) (hk : k.Ok) (h : Grp mkH w b F R) (hin : R d k) :
    Calls Try.prog 27 #[.map (some b), .int .i64 d, kv k] w fun e w' => e = .returned (.tuple #[]) ∧ ∃ F', Grp mkH w' b F' (fun d' k' => R d' k' ∧ (d' = d → ¬ k' = k)) ∧ (∀ g, F' g → F g) ∧ Only F w w' := by
  obtain ⟨T, hT⟩ := h
  obtain ⟨X, hX⟩ : ∃ X, kcs k = X := ⟨_, rfl⟩
  have hXl : X.length = 33 := by rw [← hX]; exact kcs_length hk
  obtain ⟨w2, hw2⟩ : ∃ w2, w.alloc (.cells X.toArray 27) = w2 := ⟨_, rfl⟩
  obtain ⟨sb, hsb⟩ : ∃ sb, w.heap.size = sb := ⟨_, rfl⟩
  have hbw : Below w.heap.size w w2 := hw2 ▸ (Below.refl _ _).alloc (Nat.le_refl _) _
  have hk2 : Blk w2 sb 27 X.toArray := by rw [← hsb, ← hw2]; exact Blk.new w _ _
  have hT2 := hT.keep fun g hg => hbw.block g (hT.lt g hg)
  have hs2 : w2.heap.size = sb + 1 := by rw [← hw2]; simp [hsb]
  have HXS := Lib.hid (show (Try.prog.info? 27).map (·.size) = some X.length from by rw [hXl]; exact key_size)
  obtain ⟨fk, hfk⟩ := key_desc'
  have HF := Lib.hid hfk
  have HW := Lib.hid (And.intro hw2 hsb)
  have HB := Lib.hid hbw
  have HK2 := Lib.hid hk2
  have HZ := Lib.hid hs2
  unfold kv
  rw [hX]
  obtain ⟨x, hx⟩ := hT2.all _ _ hin
  obtain ⟨K, q1, q2, q3⟩ := hT2.each _ hx
  obtain ⟨n, hn⟩ : ∃ n, (delM (us K) k).length = n := ⟨_, rfl⟩
  obtain ⟨b1, b2, b3, b4⟩ := hT2.blocks hx
  have HT := Lib.hid hT2
  have HM := Lib.hid hT2.map
  have HG := Lib.hid (show mkH.encV (getM mkH (tm T) d) = .map (some x) by rw [hT.get hx]; rfl)
  have HQ := Lib.hid (And.intro q1 (And.intro q2 q3))
  have HX := Lib.hid hx
  have HN := Lib.hid hn
  have HBX := Lib.hid (And.intro b1 (And.intro b2 (And.intro b3 (show x < sb from by
    rw [← hsb]; exact hT.lt x b3))))
  have HBB := Lib.hid (show b < sb by rw [← hsb]; exact hT.map.lt)
  have HXQ := Lib.hid (show X = kcs k from hX.symm)
  clear hT hT2 hX hXl hw2 hsb hk2 hbw q1 q2 q3 hx hfk hs2 hin hn b1 b2 b3 b4
  go_enter Try.func27, Try.ntmps27
  go_upto_region 1 with fail
  rw [HW.out.1, HW.out.2]
  go_upto_region 2 with (first
    | (refine wpList_load_mid rfl 27 (.tmp 5) rfl sb 0 rfl X (.struct fk) (range_of_blk HK2.out) HF.out rfl HXS.out ?_)
    | (refine wpList_look_g _ rfl (.tmp 6) (.tmp 7) rfl okH rfl HM.out d hd rfl (.map (some x)) HG.out ?_)
    | (refine wpList_del_g w2 rfl (.tmp 8) (.tmp 9) rfl okS rfl HQ.out.1 k hk (show _ = Value.agg (kcs k).toArray by rw [← HXQ.out]; rfl) ?_; intro w3 m1 m2 m3))
  have HM1 := Lib.hid m1
  have HM2 := Lib.hid m2
  have hk3 : ∀ g, g < w2.heap.size → g ≠ x → w3.heap[g]? = w2.heap[g]? := fun g hg hne => HM2.out.block g hg fun e => hne (by injection e)
  have HK3 := Lib.hid hk3
  have HMB := Lib.hid (show MapL mkH w3 b (tm T) from HM.out.blk (hk3 b (by have := HBB.out; rw [HZ.out]; omega) (fun e => HBX.out.1 e.symm)))
  clear m1 m2 m3 hk3
  by_cases hn0 : n = 0
  · subst hn0
    go_wp2_with (first
      | (refine wpList_look_g _ rfl (.tmp 10) (.tmp 11) rfl okH rfl HMB.out d hd rfl (.map (some x)) HG.out ?_)
      | (refine wpList_len_g _ rfl (.tmp 12) rfl okS rfl HM1.out ?_; rw [HN.out])
      | (refine wpList_del_g (M := mkH) w3 rfl (.tmp 15) (.tmp 16) rfl okH rfl HMB.out d hd rfl ?_; intro w4 m1 m2 m3; have HM3 := Lib.hid m1; have HM4 := Lib.hid m2; clear m1 m2 m3))
    (try simp only [Exit.inBlock, Exit.then])
    refine bodyPost_end (results_none rfl _ _ _) rfl ?_
    have hFb : F b := (HT.out.foot b).2 (.inl rfl)
    have hg := HT.out.drop_last (w' := w4) (k := k) HX.out HQ.out.2.2 (fun g hg h1 h2 => (HM4.out.block g (Nat.lt_of_lt_of_le hg HM2.out.size) fun e => h2 (by injection e)).trans (HK3.out g hg h1)) HM3.out HN.out
    exact ⟨rfl, _, ⟨_, hg⟩, fun g hg => hg.1, ((Only.of_below (F := F) HB.out).trans (only_grown (F := F) HM2.out HBX.out.2.2.1) fun g hg => .inl hg).trans (only_grown (F := F) HM4.out hFb) fun g hg => .inl hg⟩
  · go_wp2_with (first
      | (refine wpList_look_g _ rfl (.tmp 10) (.tmp 11) rfl okH rfl HMB.out d hd rfl (.map (some x)) HG.out ?_)
      | (refine wpList_len_g _ rfl (.tmp 12) rfl okS rfl HM1.out ?_; rw [HN.out]))
    (try simp only [Exit.inBlock, Exit.then])
    refine bodyPost_end (results_none rfl _ _ _) rfl ?_
    have hg := HT.out.drop_in HX.out HQ.out.2.2 HK3.out HM1.out (by rw [HN.out]; exact hn0)
    exact ⟨rfl, F, ⟨T, hg⟩, fun g hg => hg, (Only.of_below (F := F) HB.out).trans (only_grown (F := F) HM2.out HBX.out.2.2.1) fun g hg => .inl hg⟩
end Go.Proofs.Yteieaindejcfbaa
