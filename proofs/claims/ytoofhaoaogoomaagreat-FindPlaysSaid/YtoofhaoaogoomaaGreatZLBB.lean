/- Maps of the call's own, whatever their keys and elements, as lists of pairs: made, looked up, written, ranged over. No statement of the seat is proved here; nothing of the program is imported. -/
import Derived.Test.YtoofhaoaogoomaaGreatZLAG
import Derived.Test.YtoofhaoaogoomaaGreatZLAB
import Derived.Test.YtoofhaoaogoomaaGreatZLAH
import Derived.Maps.RangeWalk
import Derived.Maps.OwnSet
import Derived.Maps.OwnOps
import Derived.Laws.IdiomRangeMap
namespace Go.Proofs.YtoofhaoaogoomaaGreat
open Go Go.Maps Go.RowKit Go.ChangeMaps Go.MapKept
open Go.WideElems (Fit rd rg pl rd_val rd_key)
set_option linter.unusedVariables false

/-- What the keys and the elements of a map's type are. -/
structure MK (P : Program) (t k e : TypeId) (α β : Type) where
  encK : α → Value
  okK : α → Prop
  lit : α → Lit
  R : Value → Option (DataW Unit × List MemPlace)
  encV : β → Value
  dat : β → DataW Unit
  zero : β
structure MK.Ok {P : Program} {t k e : TypeId} {α β : Type} (M : MK P t k e α β) : Prop where
  keyed : Keyed P k
  und : P.underlying t = some (.map k e)
  key : ∀ {a}, M.okK a → keyOf P k (M.encK a) = some (M.lit a)
  inj : ∀ {a b}, M.okK a → M.okK b → M.encK a = M.encK b → a = b
  val : ∀ c, M.R (M.encV c) = some (M.dat c, [])
  valInj : ∀ {v c ps}, M.R v = some (M.dat c, ps) → v = M.encV c
  datInj : ∀ {c d}, M.dat c = M.dat d → c = d
  zeroV : ∀ w, (zeroValue e).run P w = .ok (M.encV M.zero) w
section
variable {P : Program} {t k e : TypeId} {α β : Type} {M : MK P t k e α β} {w w' : World} {b : Nat} {L L' : List (α × β)}
theorem MK.Ok.litInj (O : M.Ok) {a b : α} (ha : M.okK a) (hb : M.okK b) (h : M.lit a = M.lit b) : a = b :=
  O.inj ha hb (O.keyed.inj (O.key ha) (h ▸ O.key hb))
theorem MK.Ok.litKey (O : M.Ok) {a : α} (ha : M.okK a) : WideAt.IsKeyLit (M.lit a) := O.keyed.key (O.key ha)
/-- What a datum says of pairs. -/
structure MapIs (M : MK P t k e α β) (D : DataW Unit) (L : List (α × β)) : Prop where
  once : (L.map (·.1)).Nodup
  key : ∀ x ∈ L, M.okK x.1
  has : ∀ x ∈ L, Maps.has D (M.lit x.1) = true
  only : ∀ kl, Maps.has D kl = true → ∃ x ∈ L, kl = M.lit x.1
  at_ : ∀ x ∈ L, ∀ zd, D.atKey (M.lit x.1) zd = M.dat x.2
/-- Block b is a map that has just these pairs. -/
def MapL (M : MK P t k e α β) (w : World) (b : Nat) (L : List (α × β)) : Prop := ∃ D, w.ownsMap P k M.R b L.length D ∧ MapIs M D L
theorem once_eq {L : List (α × β)} (h : (L.map (·.1)).Nodup) {a : α} {c d : β} (hc : (a, c) ∈ L) (hd : (a, d) ∈ L) : c = d := by
  induction L with
  | nil => simp at hc
  | cons x L ih =>
    rw [List.map_cons, List.nodup_cons] at h
    rcases List.mem_cons.1 hc with e1 | h1 <;> rcases List.mem_cons.1 hd with e2 | h2
    · rw [← e1] at e2; exact (Prod.mk.inj e2).2.symm
    · exact absurd (List.mem_map.2 ⟨_, h2, by rw [← e1]⟩) h.1
    · exact absurd (List.mem_map.2 ⟨_, h1, by rw [← e2]⟩) h.1
    · exact ih h.2 h1 h2
theorem perm_of_once {L L' : List (α × β)} (h : (L.map (·.1)).Nodup) (h' : (L'.map (·.1)).Nodup) (hm : ∀ x, x ∈ L ↔ x ∈ L') : L.Perm L' := by
  have n1 : ∀ {L : List (α × β)}, (L.map (·.1)).Nodup → L.Nodup := fun {L} hL => by
    refine List.Pairwise.imp ?_ (List.pairwise_map.1 hL)
    intro a b hab e
    exact hab (by rw [e])
  rw [List.perm_ext_iff_of_nodup (n1 h) (n1 h')]
  exact hm
/-- Another list of the same pairs. -/
theorem MapIs.perm {D : DataW Unit} {L L' : List (α × β)} (h : MapIs M D L) (hp : L.Perm L') : MapIs M D L' :=
  ⟨(hp.map _).nodup_iff.1 h.once, fun x hx => h.key x (hp.mem_iff.2 hx), fun x hx => h.has x (hp.mem_iff.2 hx), fun kl hk => by
    obtain ⟨x, hx, e⟩ := h.only kl hk
    exact ⟨x, hp.mem_iff.1 hx, e⟩, fun x hx => h.at_ x (hp.mem_iff.2 hx)⟩
theorem MapIs.nil : MapIs M (.map []) [] := ⟨List.nodup_nil, by simp, by simp, fun kl h => by simp [Maps.has] at h, by simp⟩
theorem MapIs.lits (O : M.Ok) {D : DataW Unit} {L : List (α × β)} (h : MapIs M D L) : (L.map fun x => M.lit x.1).Nodup := by
  have := h.once
  have hk := h.key
  clear h
  induction L with
  | nil => simp
  | cons x L ih =>
    rw [List.map_cons, List.nodup_cons] at this ⊢
    refine ⟨fun hm => this.1 ?_, ih this.2 fun y hy => hk y (by simp [hy])⟩
    obtain ⟨y, hy, e⟩ := List.mem_map.1 hm
    exact List.mem_map.2 ⟨y, hy, O.litInj (hk y (by simp [hy])) (hk x (by simp)) e⟩
theorem MapIs.size (O : M.Ok) {D : DataW Unit} {L : List (α × β)} (h : MapIs M D L) (hD : ∃ es, D = .map es ∧ es.Pairwise (fun p q => p.1 ≠ q.1) ∧ ∀ p ∈ es, WideAt.IsKeyLit p.1) : Maps.size D = L.length := by
  obtain ⟨es, rfl, hp, hk⟩ := hD
  have hn : (es.map (·.1)).Nodup := List.pairwise_map.2 hp
  have : (es.map (·.1)).Perm (L.map fun x => M.lit x.1) := by
    rw [List.perm_ext_iff_of_nodup hn (h.lits O)]
    intro kl
    constructor
    · intro hm
      obtain ⟨p, hp, rfl⟩ := List.mem_map.1 hm
      obtain ⟨x, hx, e⟩ := h.only p.1 (List.any_eq_true.2 ⟨p, hp, WideAt.sameKey_self (hk p hp)⟩)
      exact List.mem_map.2 ⟨x, hx, e.symm⟩
    · intro hm
      obtain ⟨x, hx, rfl⟩ := List.mem_map.1 hm
      obtain ⟨p, hp, hs⟩ := List.any_eq_true.1 (h.has x hx)
      exact List.mem_map.2 ⟨p, hp, WideAt.sameKey_eq hs⟩
  have := this.length_eq
  simpa [Maps.size] using this
theorem tight {R : Value → Option (DataW Unit × List MemPlace)} {n : Nat} {D : DataW Unit} (h : w.ownsMap P k R b n D) : w.ownsMap P k R b (Maps.size D) D := by
  obtain ⟨es, clock, hb, F, hs, rfl⟩ := h
  refine ⟨es, clock, hb, F, ?_, rfl⟩
  simp [Maps.size, length_sorted]
theorem MapL.mk' (O : M.Ok) {n : Nat} {D : DataW Unit} (h : w.ownsMap P k M.R b n D) (hi : MapIs M D L) : MapL M w b L := by
  have := tight h
  rw [hi.size O (h.entries O.keyed)] at this
  exact ⟨D, this, hi⟩
theorem MapL.perm (h : MapL M w b L) (hp : L.Perm L') : MapL M w b L' := by
  obtain ⟨D, h1, h2⟩ := h
  exact ⟨D, hp.length_eq ▸ h1, h2.perm hp⟩
theorem MapL.once (h : MapL M w b L) : (L.map (·.1)).Nodup := by obtain ⟨D, _, h2⟩ := h; exact h2.once
theorem MapL.key (h : MapL M w b L) : ∀ x ∈ L, M.okK x.1 := by obtain ⟨D, _, h2⟩ := h; exact h2.key
theorem MapL.lt (h : MapL M w b L) : b < w.heap.size := by obtain ⟨D, h1, _⟩ := h; exact h1.lt
theorem MapL.blk (h : MapL M w b L) (hb : w'.heap[b]? = w.heap[b]?) : MapL M w' b L := by
  obtain ⟨D, ⟨es, clock, h3, h4⟩, h2⟩ := h
  exact ⟨D, ⟨es, clock, hb.trans h3, h4⟩, h2⟩
theorem MapL.made (M : MK P t k e α β) (w : World) : MapL M (w.alloc (.map #[] 0)) w.heap.size [] := ⟨_, World.ownsMap_made w _ _ _, MapIs.nil⟩
theorem MapL.size (O : M.Ok) {D : DataW Unit} {n : Nat} (h : w.ownsMap P k M.R b n D) (hi : MapIs M D L) : Maps.size D = L.length := hi.size O (h.entries O.keyed)
/-- A map that may be nil. -/
def MapO (M : MK P t k e α β) (w : World) (b : Option Nat) (L : List (α × β)) : Prop := match b with
  | none => L = []
  | some b => MapL M w b L
/-- A loop over a map (or over nil) under way: block r is its iterator, rest is what is still to come. -/
def MapR (M : MK P t k e α β) (w : World) (b : Option Nat) (r : Nat) (L rest : List (α × β)) : Prop := match b with
  | none => w.heap[r]? = some (.mapIter none 0 #[] 0) ∧ L = [] ∧ rest = []
  | some b => ∃ D left cnt, w.ranges P k M.R b r L.length D left cnt ∧ MapIs M D L ∧ (∀ x ∈ rest, x ∈ L) ∧ (rest.map (·.1)).Nodup ∧ (∀ x ∈ rest, left (M.lit x.1) = true) ∧ ∀ kl, left kl = true → ∃ x ∈ rest, kl = M.lit x.1
def leftO (w : World) (b : Option Nat) (r : Nat) : Nat := match b with
  | none => 0
  | some b => w.rangeLeft b r
theorem MapR.sub {b : Option Nat} {r : Nat} {l : List (α × β)} (h : MapR M w b r L l) : ∀ x ∈ l, x ∈ L := by
  cases b with
  | none => obtain ⟨_, _, rfl⟩ := h; simp
  | some b => obtain ⟨_, _, _, _, _, h, _⟩ := h; exact h
theorem MapR.lt {b : Option Nat} {r : Nat} {l : List (α × β)} (h : MapR M w b r L l) : r < w.heap.size := by
  cases b with
  | none => exact (Array.getElem?_eq_some_iff.1 h.1).1
  | some b => obtain ⟨_, _, _, h, _⟩ := h; exact h.lt
/-- It stays while other blocks are written and made. -/
theorem MapR.kept {w' : World} {b : Option Nat} {r : Nat} {l : List (α × β)} (h : MapR M w b r L l) (hb : ∀ c, b = some c → w'.heap[c]? = w.heap[c]?) (hr : w'.heap[r]? = w.heap[r]?) : MapR M w' b r L l := by
  cases b with
  | none => exact ⟨hr.trans h.1, h.2⟩
  | some b =>
    obtain ⟨D, left, cnt, ⟨es, clock, since, seen, c0, h1, F, hs, hD, h2, h3⟩, h4⟩ := h
    exact ⟨D, left, cnt, ⟨es, clock, since, seen, c0, (hb b rfl).trans h1, F, hs, hD, hr.trans h2, h3⟩, h4⟩
theorem leftO_kept {w' : World} {b : Option Nat} {r : Nat} (hb : ∀ c, b = some c → w'.heap[c]? = w.heap[c]?) (hr : w'.heap[r]? = w.heap[r]?) : leftO w' b r = leftO w b r := by
  cases b with
  | none => rfl
  | some b =>
    show w'.rangeLeft b r = w.rangeLeft b r
    unfold World.rangeLeft
    rw [hb b rfl, hr]
end
/-! ### at the operation -/
section
variable {P : Program} {t k e : TypeId} {α β : Type} {M : MK P t k e α β} (w : World) {ops : Array Oper} {rest : List Oper} {o : Oper} {a : Act} {Q : Exit → Act → World → Prop} {b : Nat} {L : List (α × β)}
/-- 'len(m)'. -/
theorem wpList_len_g (hg : o.guard = none) (m : Operand) (hop : o.op = Op.call { callee := Callee.builtin Builtin.len, args := #[m], argTypes := #[t] }) (O : M.Ok) (hm : a.eval m = .map (some b)) (h : MapL M w b L)
    (hK : wpList P ops Q rest (a.put o.dst (.int .i64 (L.length : Nat))) w) : wpList P ops Q (o :: rest) a w := by
  refine wpList_plain hg fun K' hK' => ?_
  obtain ⟨D, h1, h2⟩ := h
  unfold Oper.wp
  simp [execOp, hop, resolve, invoke, builtin, hm, h1.len O.und o.type, Result.andThen]
  exact hK' _ _ (by rw [MapL.size O h1 h2]; exact hK)
/-- 'range m'. -/
theorem wpList_range_g (hg : o.guard = none) (m : Operand) (hop : o.op = Op.range t m) (O : M.Ok) (b : Option Nat) (hm : a.eval m = .map b) (h : MapO M w b L)
    (hK : ∀ w', MapR M w' b w.heap.size L L → w.grownBy w' none → w'.heap.size = w.heap.size + 1 → wpList P ops Q rest (a.put o.dst (.pointer (some ⟨w.heap.size, 0, none⟩))) w') : wpList P ops Q (o :: rest) a w := by
  refine wpList_plain hg fun K' hK' => ?_
  unfold Oper.wp
  cases b with
  | none =>
    obtain rfl : L = [] := h
    simp [execOp, hop, hm, run_range_nilMap w t k e O.und, Result.andThen]
    exact hK' _ _ (hK _ ⟨(MapKept.heap_alloc w _).1, rfl, rfl⟩ (World.grownBy_alloc w _ none) (by simp))
  | some b =>
    obtain ⟨D, h1, h2⟩ := h
    obtain ⟨w', hrun, r1, r2, r3⟩ := h1.range O.keyed O.und
    simp [execOp, hop, hm, hrun, Result.andThen]
    exact hK' _ _ (hK w' ⟨D, _, _, r1, h2, fun _ hx => hx, h2.once, h2.has, h2.only⟩ r2 r3)
end
section
variable {P : Program} {t k e : TypeId} {α β : Type} [DecidableEq α] {M : MK P t k e α β} {w w' : World} {b : Nat} {L L' : List (α × β)}
theorem MK.Ok.same (O : M.Ok) {a b : α} (ha : M.okK a) (hb : M.okK b) : (M.lit a).sameKey (M.lit b) = decide (a = b) := by
  by_cases h : a = b
  · subst h; simp [WideAt.sameKey_self (O.litKey ha)]
  · rw [Maps.sameKey_ne fun e => h (O.litInj ha hb e)]; simp [h]
/-- What stands at a key. -/
def getM (M : MK P t k e α β) (L : List (α × β)) (a : α) : β := match L.find? fun x => decide (x.1 = a) with
  | some x => x.2
  | none => M.zero
def hasM (L : List (α × β)) (a : α) : Bool := L.any fun x => decide (x.1 = a)
def delM (L : List (α × β)) (a : α) : List (α × β) := L.filter fun x => decide (x.1 ≠ a)
def putM (L : List (α × β)) (a : α) (c : β) : List (α × β) := (a, c) :: delM L a
theorem hasM_iff {L : List (α × β)} {a : α} : hasM L a = true ↔ ∃ c, (a, c) ∈ L := by
  unfold hasM
  rw [List.any_eq_true]
  constructor
  · rintro ⟨x, hx, h⟩
    obtain rfl : x.1 = a := by simpa using h
    exact ⟨x.2, hx⟩
  · rintro ⟨c, hc⟩
    exact ⟨_, hc, by simp⟩
theorem hasM_false {L : List (α × β)} {a : α} : hasM L a = false ↔ ∀ c, (a, c) ∉ L := by
  rw [← Bool.not_eq_true, hasM_iff]
  simp
theorem getM_of {L : List (α × β)} (h : (L.map (·.1)).Nodup) {a : α} {c : β} (hc : (a, c) ∈ L) : getM M L a = c := by
  unfold getM
  cases hf : L.find? fun x => decide (x.1 = a) with
  | none =>
    rw [List.find?_eq_none] at hf
    exact absurd rfl (by simpa using hf (a, c) hc : ¬ a = a)
  | some x =>
    have h1 := List.mem_of_find?_eq_some hf
    have h2 : x.1 = a := by simpa using List.find?_some hf
    exact once_eq h (a := a) (c := x.2) (d := c) (by rw [← h2]; exact h1) hc
theorem getM_no {L : List (α × β)} {a : α} (h : hasM L a = false) : getM M L a = M.zero := by
  unfold getM
  cases hf : L.find? fun x => decide (x.1 = a) with
  | none => rfl
  | some x =>
    have h1 := List.mem_of_find?_eq_some hf
    have h2 : x.1 = a := by simpa using List.find?_some hf
    exact absurd (h2 ▸ h1) (hasM_false.1 h x.2)
theorem mem_delM {L : List (α × β)} {a : α} {x : α × β} : x ∈ delM L a ↔ x ∈ L ∧ x.1 ≠ a := by
  unfold delM; rw [List.mem_filter]; simp
theorem mem_putM {L : List (α × β)} {a : α} {c : β} {x : α × β} : x ∈ putM L a c ↔ x = (a, c) ∨ (x ∈ L ∧ x.1 ≠ a) := by
  unfold putM; rw [List.mem_cons, mem_delM]
theorem once_del {L : List (α × β)} (h : (L.map (·.1)).Nodup) (a : α) : ((delM L a).map (·.1)).Nodup := h.sublist (List.Sublist.map _ List.filter_sublist)
theorem once_put {L : List (α × β)} (h : (L.map (·.1)).Nodup) (a : α) (c : β) : ((putM L a c).map (·.1)).Nodup := by
  unfold putM
  rw [List.map_cons, List.nodup_cons]
  refine ⟨fun hm => ?_, once_del h a⟩
  obtain ⟨x, hx, e⟩ := List.mem_map.1 hm
  exact (mem_delM.1 hx).2 e
theorem MapIs.del (O : M.Ok) {D : DataW Unit} {L : List (α × β)} (h : MapIs M D L) {a : α} (ha : M.okK a) : MapIs M (D.del (M.lit a)) (delM L a) where
  once := once_del h.once a
  key x hx := h.key x (mem_delM.1 hx).1
  has x hx := by
    obtain ⟨h1, h2⟩ := mem_delM.1 hx
    rw [has_del_other fun e => h2 (O.litInj (h.key x h1) ha e)]
    exact h.has x h1
  only kl hkl := by
    by_cases e : kl = M.lit a
    · rw [e, has_del_same] at hkl; cases hkl
    · rw [has_del_other e] at hkl
      obtain ⟨x, hx, rfl⟩ := h.only kl hkl
      exact ⟨x, mem_delM.2 ⟨hx, fun e1 => e (by rw [e1])⟩, rfl⟩
  at_ x hx zd := by
    obtain ⟨h1, h2⟩ := mem_delM.1 hx
    rw [atKey_del_other fun e => h2 (O.litInj (h.key x h1) ha e)]
    exact h.at_ x h1 zd
theorem MapIs.put (O : M.Ok) {D : DataW Unit} {L : List (α × β)} (h : MapIs M D L) (hD : IsMap D) {a : α} (ha : M.okK a) (c : β) : MapIs M (D.put (M.lit a) (M.dat c)) (putM L a c) where
  once := once_put h.once a c
  key x hx := by
    rcases mem_putM.1 hx with rfl | ⟨h1, _⟩
    · exact ha
    · exact h.key x h1
  has x hx := by
    rcases mem_putM.1 hx with rfl | ⟨h1, h2⟩
    · exact has_put_same hD (O.litKey ha) _
    · rw [has_put_other fun e => h2 (O.litInj (h.key x h1) ha e)]
      exact h.has x h1
  only kl hkl := by
    by_cases e : kl = M.lit a
    · exact ⟨(a, c), mem_putM.2 (.inl rfl), e⟩
    · rw [has_put_other e] at hkl
      obtain ⟨x, hx, rfl⟩ := h.only kl hkl
      exact ⟨x, mem_putM.2 (.inr ⟨hx, fun e1 => e (by rw [e1])⟩), rfl⟩
  at_ x hx zd := by
    rcases mem_putM.1 hx with rfl | ⟨h1, h2⟩
    · exact atKey_put_same hD (O.litKey ha) _ _
    · rw [atKey_put_other fun e => h2 (O.litInj (h.key x h1) ha e)]
      exact h.at_ x h1 zd
/-- What 'm[a]' reads as. -/
theorem MapIs.look (O : M.Ok) {D : DataW Unit} (h : MapIs M D L) {a : α} (ha : M.okK a) : Maps.has D (M.lit a) = hasM L a ∧ D.atKey (M.lit a) (M.dat M.zero) = M.dat (getM M L a) := by
  cases hh : hasM L a with
  | true =>
    obtain ⟨c, hc⟩ := hasM_iff.1 hh
    exact ⟨h.has _ hc, by rw [h.at_ _ hc, getM_of h.once hc]⟩
  | false =>
    have hn : Maps.has D (M.lit a) = false := by
      cases hx : Maps.has D (M.lit a) with
      | false => rfl
      | true =>
        obtain ⟨x, hx, e⟩ := h.only _ hx
        have := O.litInj ha (h.key x hx) e
        exact absurd (this ▸ hx) (hasM_false.1 hh x.2)
    exact ⟨hn, by rw [atKey_of_not_has hn, getM_no hh]⟩
end
section
variable {P : Program} {t k e : TypeId} {α β : Type} [DecidableEq α] {M : MK P t k e α β} (w : World) {ops : Array Oper} {rest : List Oper} {o : Oper} {a : Act} {Q : Exit → Act → World → Prop} {b : Nat} {L : List (α × β)}
/-- 'm[q]'. -/
theorem wpList_look_g (hg : o.guard = none) (m x : Operand) (hop : o.op = Op.lookup t m x false) (O : M.Ok) (hm : a.eval m = .map (some b)) (h : MapL M w b L) (q : α) (hq : M.okK q) (hx : a.eval x = M.encK q)
    (v : Value) (hv : M.encV (getM M L q) = v) (hK : wpList P ops Q rest (a.put o.dst v) w) : wpList P ops Q (o :: rest) a w := by
  refine wpList_plain hg fun K' hK' => ?_
  obtain ⟨D, h1, h2⟩ := h
  obtain ⟨v', ps, hrun, hv'⟩ := h1.lookup O.keyed O.und (O.zeroV w) (O.val M.zero) (O.key hq)
  rw [(h2.look O hq).2] at hv'
  have := O.valInj hv'
  subst this
  unfold Oper.wp
  simp [execOp, hop, hm, hx, hrun, Result.andThen]
  exact hK' _ _ (hv ▸ hK)
/-- 'v, ok := m[q]'. -/
theorem wpList_look_ok_g (hg : o.guard = none) (m x : Operand) (hop : o.op = Op.lookup t m x true) (O : M.Ok) (hm : a.eval m = .map (some b)) (h : MapL M w b L) (q : α) (hq : M.okK q) (hx : a.eval x = M.encK q)
    (v : Value) (hv : M.encV (getM M L q) = v) (c : Bool) (hc : hasM L q = c) (hK : wpList P ops Q rest (a.put o.dst (.tuple #[v, .bool c])) w) : wpList P ops Q (o :: rest) a w := by
  refine wpList_plain hg fun K' hK' => ?_
  obtain ⟨D, h1, h2⟩ := h
  obtain ⟨v', ps, hrun, hv'⟩ := h1.look_ok O.keyed O.und (O.zeroV w) (O.val M.zero) (O.key hq)
  rw [(h2.look O hq).2] at hv'
  rw [(h2.look O hq).1] at hrun
  have := O.valInj hv'
  subst this
  unfold Oper.wp
  simp [execOp, hop, hm, hx, hrun, Result.andThen]
  exact hK' _ _ (hv ▸ hc ▸ hK)
/-- 'm[q] = c'. -/
theorem wpList_put_g (hg : o.guard = none) (m x v : Operand) (hop : o.op = Op.mapUpdate t m x v) (O : M.Ok) (hm : a.eval m = .map (some b)) (h : MapL M w b L) (hl : L.length < maxLen) (q : α) (hq : M.okK q) (hx : a.eval x = M.encK q)
    (c : β) (hv : a.eval v = M.encV c) (hK : ∀ w', MapL M w' b (putM L q c) → w.grownBy w' (some b) → w'.heap.size = w.heap.size → wpList P ops Q rest (a.put o.dst undef) w') : wpList P ops Q (o :: rest) a w := by
  refine wpList_plain hg fun K' hK' => ?_
  obtain ⟨D, h1, h2⟩ := h
  obtain ⟨w', hrun, r1, r2⟩ := h1.store O.keyed O.und hl (O.key hq) (O.val c)
  unfold Oper.wp
  simp [execOp, hop, hm, hx, hv, hrun, Result.andThen]
  refine hK' _ _ (hK w' (MapL.mk' O r1 (h2.put O h1.isMap hq c)) r2.grown ?_)
  obtain ⟨_, _, _, _, _, rfl⟩ := r2
  simp [setBlock]
/-- 'delete(m, q)'. -/
theorem wpList_del_g (hg : o.guard = none) (m x : Operand) (hop : o.op = Op.call { callee := Callee.builtin Builtin.delete, args := #[m, x], argTypes := #[t, k] }) (O : M.Ok) (hm : a.eval m = .map (some b)) (h : MapL M w b L) (q : α) (hq : M.okK q) (hx : a.eval x = M.encK q)
    (hK : ∀ w', MapL M w' b (delM L q) → w.grownBy w' (some b) → w'.heap.size = w.heap.size → wpList P ops Q rest (a.put o.dst (.tuple #[])) w') : wpList P ops Q (o :: rest) a w := by
  refine wpList_plain hg fun K' hK' => ?_
  obtain ⟨D, h1, h2⟩ := h
  obtain ⟨w', hrun, r1, r2⟩ := h1.drop O.keyed O.und (O.key hq) o.type
  unfold Oper.wp
  simp [execOp, hop, resolve, invoke, builtin, hm, hx, hrun, Result.andThen]
  refine hK' _ _ (hK w' (MapL.mk' O r1 (h2.del O hq)) r2.grown ?_)
  obtain ⟨_, _, _, _, _, rfl⟩ := r2
  simp [setBlock]
/-- The step. -/
theorem wpList_next_g (hg : o.guard = none) (it : Operand) (hop : o.op = Op.next it false) (O : M.Ok) (b : Option Nat) (r : Nat) (l : List (α × β)) (hit : a.eval it = .pointer (some ⟨r, 0, none⟩)) (h : MapR M w b r L l)
    (hDone : l = [] → wpList P ops Q rest (a.put o.dst (.tuple #[.bool false])) w)
    (hMore : ∀ (x : α) (c : β) (l' : List (α × β)) (w' : World), M.okK x → l.Perm ((x, c) :: l') → MapR M w' b r L l' → leftO w' b r < leftO w b r → w.grownBy w' (some r) → w'.heap.size = w.heap.size →
      (Instr.entry (.pointer (some ⟨r, 0, none⟩))).run P w' = .ok (.tuple #[M.encK x, M.encV c]) w' → wpList P ops Q rest (a.put o.dst (.tuple #[.bool true, M.encK x, M.encV c])) w') :
    wpList P ops Q (o :: rest) a w := by
  refine wpList_plain hg fun K' hK' => ?_
  unfold Oper.wp
  cases b with
  | none =>
    obtain ⟨h1, rfl, rfl⟩ := h
    have hrun : (Instr.next (.pointer (some ⟨r, 0, none⟩)) false o.type).run P w = .ok (.tuple #[.bool false]) w := by
      simp only [Instr.next, getObj, Sem.run_bind, Sem.run, h1, Result.andThen]
      rfl
    simp [execOp, hop, hit, hrun, Result.andThen]
    exact hK' _ _ (hDone rfl)
  | some b =>
    obtain ⟨D, left, cnt, h1, h2, h3, h4, h5, h6⟩ := h
    rcases h1.next O.keyed o.type with ⟨h0, hl, hrun⟩ | ⟨key, v, kl, y, w', cnt', hkey, hlk, hv, hat, hrun, hrg, hlt, hgr, hsz, hen⟩
    · simp [execOp, hop, hit, hrun, Result.andThen]
      refine hK' _ _ (hDone ?_)
      cases l with
      | nil => rfl
      | cons x l =>
        have := h5 x (by simp)
        rw [hl] at this
        cases this
    · obtain ⟨x, hx, rfl⟩ := h6 kl hlk
      obtain ⟨x, c⟩ := x
      have hok := h2.key _ (h3 _ hx)
      obtain rfl : key = M.encK x := O.keyed.inj hkey (O.key hok)
      have hd := hat (M.dat M.zero)
      rw [h2.at_ _ (h3 _ hx)] at hd
      obtain rfl : v = M.encV c := by
        obtain ⟨y1, y2⟩ := y
        simp only at hd
        subst hd
        exact O.valInj hv
      simp [execOp, hop, hit, hrun, Result.andThen]
      refine hK' _ _ (hMore x c (delM l x) w' hok ?_ ⟨D, _, cnt', hrg, h2, fun y hy => h3 y (mem_delM.1 hy).1, once_del h4 x, fun y hy => ?_, fun kl hkl => ?_⟩ ?_ hgr hsz hen)
      · refine perm_of_once h4 ?_ ?_
        · exact once_put h4 x c
        · intro y
          rw [show (x, c) :: delM l x = putM l x c from rfl, mem_putM]
          constructor
          · intro hy
            by_cases e1 : y.1 = x
            · left
              obtain ⟨y1, y2⟩ := y
              simp only at e1
              subst e1
              rw [once_eq h4 hy hx]
            · exact .inr ⟨hy, e1⟩
          · rintro (rfl | ⟨hy, _⟩)
            · exact hx
            · exact hy
      · obtain ⟨m1, m2⟩ := mem_delM.1 hy
        show (left (M.lit y.1) && !(M.lit y.1).sameKey (M.lit x)) = true
        rw [h5 y m1, O.same (h2.key _ (h3 _ m1)) hok]
        simp [m2]
      · have hkl2 : left kl = true ∧ kl.sameKey (M.lit x) = false := by simpa using hkl
        obtain ⟨y, hy, rfl⟩ := h6 kl hkl2.1
        refine ⟨y, mem_delM.2 ⟨hy, fun e1 => ?_⟩, rfl⟩
        have := hkl2.2
        rw [O.same (h2.key _ (h3 _ hy)) hok] at this
        simp [e1] at this
      · show w'.rangeLeft b r < w.rangeLeft b r
        rw [hrg.left_eq, h1.left_eq]
        exact hlt
end
/-! ### elements that are maps -/
def mapEl : Value → Option (DataW Unit × List MemPlace)
  | .map none => some (.agg [], [])
  | .map (some b) => some (.agg [.lit (.int .i64 (b : Int))], [])
  | _ => none
def mapDat : Option Nat → DataW Unit
  | none => .agg []
  | some b => .agg [.lit (.int .i64 (b : Int))]
theorem mapEl_val (b : Option Nat) : mapEl (.map b) = some (mapDat b, []) := by cases b <;> rfl
theorem mapDat_inj {b c : Option Nat} (h : mapDat b = mapDat c) : b = c := by
  cases b <;> cases c <;> simp [mapDat] at h ⊢
  omega
theorem mapEl_inj {v : Value} {b : Option Nat} {ps : List MemPlace} (h : mapEl v = some (mapDat b, ps)) : v = .map b := by
  unfold mapEl at h
  split at h
  · simp only [Option.some.injEq, Prod.mk.injEq] at h
    rw [mapDat_inj (b := none) (c := b) h.1]
  · rename_i b'
    simp only [Option.some.injEq, Prod.mk.injEq] at h
    rw [mapDat_inj (b := some b') (c := b) h.1]
  · cases h
end Go.Proofs.YtoofhaoaogoomaaGreat
/- Keys and elements of maps: places, keys' and fingerprints' values told apart. No statement of the seat is proved here. -/
namespace Go.Proofs.YtoofhaoaogoomaaGreat
open Go Go.Maps Go.RowKit
set_option linter.unusedVariables false

theorem in64_wf {x : Int} (h : In64 x) : (Lit.int .i64 x).wf = true := by
  obtain ⟨h1, h2⟩ := h
  have e1 : IntKind.i64.min = -9223372036854775808 := rfl
  have e2 : IntKind.i64.max = 9223372036854775807 := rfl
  simp [Lit.wf]
  omega
def placeEl : Value → Option (DataW Unit × List MemPlace)
  | .agg ⟨[.int .i64 x, .int .i64 y]⟩ => some (.agg [.lit (.int .i64 x), .lit (.int .i64 y)], [])
  | _ => none
theorem placeEl_inj {v : Value} {p : Int × Int} {ps : List MemPlace} (h : placeEl v = some (.agg [.lit (.int .i64 p.1), .lit (.int .i64 p.2)], ps)) : v = .agg #[.int .i64 p.1, .int .i64 p.2] := by
  unfold placeEl at h
  split at h
  · simp only [Option.some.injEq, Prod.mk.injEq, DataW.agg.injEq, List.cons.injEq, DataW.lit.injEq, Lit.int.injEq, true_and, and_true] at h
    rw [h.1.1, h.1.2]
  · cases h
theorem agg_kcs {a b : KeyT} (ha : a.Ok) (hb : b.Ok) (h : Value.agg (kcs a).toArray = .agg (kcs b).toArray) : a = b := by
  injection h with h
  have h2 : (kcs a).toArray.toList = (kcs b).toArray.toList := by rw [h]
  exact kcs_inj ha hb h2
theorem agg_bv {a b : List UInt8} (h : Value.agg (bv a).toArray = .agg (bv b).toArray) : a = b := by
  injection h with h
  have h2 : (bv a).toArray.toList = (bv b).toArray.toList := by rw [h]
  have h3 : bv a = bv b := h2
  clear h h2
  induction a generalizing b with
  | nil => cases b with
    | nil => rfl
    | cons y b => cases h3
  | cons x a ih => cases b with
    | nil => cases h3
    | cons y b =>
      simp only [bv, List.map_cons, List.cons.injEq, Value.int.injEq, true_and] at h3
      rw [ih h3.2]
      congr 1
      exact UInt8.toNat_inj.1 (by omega)
end Go.Proofs.YtoofhaoaogoomaaGreat
/- The maps of package index: places by keys, sets of keys, groups by fingerprints and by shelves. No statement of the seat is proved here. -/
namespace Go.Proofs.YtoofhaoaogoomaaGreat
open Go Go.Maps Go.RowKit Go.ChangeShapes Go.WideShapes Go.ChangeAt Go.Deep Go.Joins
set_option linter.unusedVariables false

theorem sumLaw : Keyed Tryz.prog 26 := Keyed.of_law (deep_law_laid laidKeys (m := 5) (by decide) (of_decide_eq_true (by kernel_rfl)) (by kernel_rfl) (by kernel_rfl))
def klS (d : List UInt8) : Lit := .string (keyBytes (d.map fun b => .int .u8 b.toNat))
theorem klS_is {d : List UInt8} (h : d.length = 32) : keyOf Tryz.prog 26 (.agg (bv d).toArray) = some (klS d) := by
  obtain ⟨D, hD⟩ : ∃ D, Tryz.prog.types.size + 1 = D + 2 := ⟨Tryz.prog.types.size - 1, by have : 1 ≤ Tryz.prog.types.size := of_decide_eq_true (by kernel_rfl); omega⟩
  have hL := lits_sum D d h
  obtain ⟨_, _, _, _, _, _, _, _, hS, _, h8⟩ := key_fields
  have hk : Tryz.prog.keyType 26 = true := by kernel_rfl
  have hf : (Value.agg (bv d).toArray).formed Tryz.prog 26 = true := by
    simp only [Value.formed, Tryz.underlying26, hS, List.size_toArray, bv_length, h]; rfl
  unfold keyOf klS
  simp only [Tryz.underlying26, hk, hf, Bool.and_self, if_true, hD]
  show Option.map _ (Tryz.prog.keyLits (D + 2) 26 (bv d)) = _
  rw [hL]; rfl
/-- Places by keys. -/
def mkP : MK Tryz.prog 101 29 40 KeyT (Int × Int) where
  encK k := .agg (kcs k).toArray
  okK := KeyT.Ok
  lit := kl
  R := placeEl
  encV p := .agg #[.int .i64 p.1, .int .i64 p.2]
  dat p := .agg [.lit (.int .i64 p.1), .lit (.int .i64 p.2)]
  zero := (0, 0)
theorem okP : mkP.Ok where
  keyed := keyLaw
  und := Tryz.underlying101
  key := kl_is
  inj := agg_kcs
  val _ := rfl
  valInj := placeEl_inj
  datInj h := by
    simp only [mkP, DataW.agg.injEq, List.cons.injEq, DataW.lit.injEq, Lit.int.injEq, true_and, and_true] at h
    exact Prod.ext h.1 h.2
  zeroV _ := by kernel_rfl
/-- A set of keys. -/
def mkS : MK Tryz.prog 128 29 132 KeyT Unit where
  encK k := .agg (kcs k).toArray
  okK := KeyT.Ok
  lit := kl
  R := unitElem
  encV _ := .agg #[]
  dat _ := .agg []
  zero := ()
theorem okS : mkS.Ok where
  keyed := keyLaw
  und := Tryz.underlying128
  key := kl_is
  inj := agg_kcs
  val _ := unitElem_mk
  valInj h := (unitElem_inv h).1
  datInj _ := rfl
  zeroV _ := by kernel_rfl
/-- Sets by fingerprints. -/
def mkT : MK Tryz.prog 103 26 128 (List UInt8) (Option Nat) where
  encK d := .agg (bv d).toArray
  okK d := d.length = 32
  lit := klS
  R := mapEl
  encV b := .map b
  dat := mapDat
  zero := none
theorem okT : mkT.Ok where
  keyed := sumLaw
  und := Tryz.underlying103
  key := klS_is
  inj _ _ h := agg_bv h
  val := mapEl_val
  valInj := mapEl_inj
  datInj := mapDat_inj
  zeroV _ := by kernel_rfl
/-- Sets by shelves. -/
def mkH : MK Tryz.prog 105 3 128 Int (Option Nat) where
  encK x := .int .i64 x
  okK := In64
  lit x := .int .i64 x
  R := mapEl
  encV b := .map b
  dat := mapDat
  zero := none
theorem okH : mkH.Ok where
  keyed := int_keyed Tryz.underlying3
  und := Tryz.underlying105
  key h := keyOf_int_mk Tryz.underlying3 (in64_wf h)
  inj _ _ h := by injection h
  val := mapEl_val
  valInj := mapEl_inj
  datInj := mapDat_inj
  zeroV _ := by kernel_rfl
end Go.Proofs.YtoofhaoaogoomaaGreat
