/- Maps of the call's own, whatever their keys and elements, as lists of pairs: made, looked up, written, ranged over. No statement of the seat is proved here; nothing of the program is imported. -/
import Derived.Test.YtgemjipbifgbgaaZXAB
import Derived.Test.YtgemjipbifgbgaaZXAJ
import Derived.Test.YtgemjipbifgbgaaZXAF
import Derived.Test.YtgemjipbifgbgaaZXAA
import Derived.Maps.RangeWalk
import Derived.Maps.OwnSet
import Derived.Maps.OwnOps
import Derived.Laws.IdiomRangeMap
import Derived.Handy
import Derived.WalkSpells
import Derived.WalkLawsBesides
namespace Go.Proofs.Ytgemjipbifgbgaa
open Go Go.Maps Go.RowKit Go.ChangeMaps Go.MapKept
open Go.WideElems (Fit rd rg pl rd_val rd_key)
set_option linter.unusedVariables false

/-- What the keys and the elements of a map's type are. -/
structure MK (P : Program) (t k e : TypeId) (α β : Type) where
  encK : α → Value
  okK : α → Prop
  lit : α → Lit
  R : Value → Option (DataW Unit × List MemPlace)
  encV : β → Value
  dat : β → DataW Unit
  zero : β
structure MK.Ok {P : Program} {t k e : TypeId} {α β : Type} (M : MK P t k e α β) : Prop where
  keyed : Keyed P k
  und : P.underlying t = some (.map k e)
  key : ∀ {a}, M.okK a → keyOf P k (M.encK a) = some (M.lit a)
  inj : ∀ {a b}, M.okK a → M.okK b → M.encK a = M.encK b → a = b
  val : ∀ c, M.R (M.encV c) = some (M.dat c, [])
  valInj : ∀ {v c ps}, M.R v = some (M.dat c, ps) → v = M.encV c
  datInj : ∀ {c d}, M.dat c = M.dat d → c = d
  zeroV : ∀ w, (zeroValue e).run P w = .ok (M.encV M.zero) w
section
variable {P : Program} {t k e : TypeId} {α β : Type} {M : MK P t k e α β} {w w' : World} {b : Nat} {L L' : List (α × β)}
theorem MK.Ok.litInj (O : M.Ok) {a b : α} (ha : M.okK a) (hb : M.okK b) (h : M.lit a = M.lit b) : a = b :=
  O.inj ha hb (O.keyed.inj (O.key ha) (h ▸ O.key hb))
theorem MK.Ok.litKey (O : M.Ok) {a : α} (ha : M.okK a) : WideAt.IsKeyLit (M.lit a) := O.keyed.key (O.key ha)
/-- What a datum says of pairs. -/
structure MapIs (M : MK P t k e α β) (D : DataW Unit) (L : List (α × β)) : Prop where
  once : (L.map (·.1)).Nodup
  key : ∀ x ∈ L, M.okK x.1
  has : ∀ x ∈ L, Maps.has D (M.lit x.1) = true
  only : ∀ kl, Maps.has D kl = true → ∃ x ∈ L, kl = M.lit x.1
  at_ : ∀ x ∈ L, ∀ zd, D.atKey (M.lit x.1) zd = M.dat x.2
/-- Block b is a map that has just these pairs. -/
def MapL (M : MK P t k e α β) (w : World) (b : Nat) (L : List (α × β)) : Prop := ∃ D, w.ownsMap P k M.R b L.length D ∧ MapIs M D L
theorem once_eq {L : List (α × β)} (h : (L.map (·.1)).Nodup) {a : α} {c d : β} (hc : (a, c) ∈ L) (hd : (a, d) ∈ L) : c = d := by
  induction L with
  | nil => simp at hc
  | cons x L ih =>
    rw [List.map_cons, List.nodup_cons] at h
    rcases List.mem_cons.1 hc with e1 | h1 <;> rcases List.mem_cons.1 hd with e2 | h2
    · rw [← e1] at e2; exact (Prod.mk.inj e2).2.symm
    · exact absurd (List.mem_map.2 ⟨_, h2, by rw [← e1]⟩) h.1
    · exact absurd (List.mem_map.2 ⟨_, h1, by rw [← e2]⟩) h.1
    · exact ih h.2 h1 h2
theorem perm_of_once {L L' : List (α × β)} (h : (L.map (·.1)).Nodup) (h' : (L'.map (·.1)).Nodup) (hm : ∀ x, x ∈ L ↔ x ∈ L') : L.Perm L' := by
  have n1 : ∀ {L : List (α × β)}, (L.map (·.1)).Nodup → L.Nodup := fun {L} hL => by
    refine List.Pairwise.imp ?_ (List.pairwise_map.1 hL)
    intro a b hab e
    exact hab (by rw [e])
  rw [List.perm_ext_iff_of_nodup (n1 h) (n1 h')]
  exact hm
/-- Another list of the same pairs. -/
theorem MapIs.perm {D : DataW Unit} {L L' : List (α × β)} (h : MapIs M D L) (hp : L.Perm L') : MapIs M D L' :=
  ⟨(hp.map _).nodup_iff.1 h.once, fun x hx => h.key x (hp.mem_iff.2 hx), fun x hx => h.has x (hp.mem_iff.2 hx), fun kl hk => by
    obtain ⟨x, hx, e⟩ := h.only kl hk
    exact ⟨x, hp.mem_iff.1 hx, e⟩, fun x hx => h.at_ x (hp.mem_iff.2 hx)⟩
theorem MapIs.nil : MapIs M (.map []) [] := ⟨List.nodup_nil, by simp, by simp, fun kl h => by simp [Maps.has] at h, by simp⟩
theorem MapIs.lits (O : M.Ok) {D : DataW Unit} {L : List (α × β)} (h : MapIs M D L) : (L.map fun x => M.lit x.1).Nodup := by
  have := h.once
  have hk := h.key
  clear h
  induction L with
  | nil => simp
  | cons x L ih =>
    rw [List.map_cons, List.nodup_cons] at this ⊢
    refine ⟨fun hm => this.1 ?_, ih this.2 fun y hy => hk y (by simp [hy])⟩
    obtain ⟨y, hy, e⟩ := List.mem_map.1 hm
    exact List.mem_map.2 ⟨y, hy, O.litInj (hk y (by simp [hy])) (hk x (by simp)) e⟩
theorem MapIs.size (O : M.Ok) {D : DataW Unit} {L : List (α × β)} (h : MapIs M D L) (hD : ∃ es, D = .map es ∧ es.Pairwise (fun p q => p.1 ≠ q.1) ∧ ∀ p ∈ es, WideAt.IsKeyLit p.1) : Maps.size D = L.length := by
  obtain ⟨es, rfl, hp, hk⟩ := hD
  have hn : (es.map (·.1)).Nodup := List.pairwise_map.2 hp
  have : (es.map (·.1)).Perm (L.map fun x => M.lit x.1) := by
    rw [List.perm_ext_iff_of_nodup hn (h.lits O)]
    intro kl
    constructor
    · intro hm
      obtain ⟨p, hp, rfl⟩ := List.mem_map.1 hm
      obtain ⟨x, hx, e⟩ := h.only p.1 (List.any_eq_true.2 ⟨p, hp, WideAt.sameKey_self (hk p hp)⟩)
      exact List.mem_map.2 ⟨x, hx, e.symm⟩
    · intro hm
      obtain ⟨x, hx, rfl⟩ := List.mem_map.1 hm
      obtain ⟨p, hp, hs⟩ := List.any_eq_true.1 (h.has x hx)
      exact List.mem_map.2 ⟨p, hp, WideAt.sameKey_eq hs⟩
  have := this.length_eq
  simpa [Maps.size] using this
theorem tight {R : Value → Option (DataW Unit × List MemPlace)} {n : Nat} {D : DataW Unit} (h : w.ownsMap P k R b n D) : w.ownsMap P k R b (Maps.size D) D := by
  obtain ⟨es, clock, hb, F, hs, rfl⟩ := h
  refine ⟨es, clock, hb, F, ?_, rfl⟩
  simp [Maps.size, length_sorted]
theorem MapL.mk' (O : M.Ok) {n : Nat} {D : DataW Unit} (h : w.ownsMap P k M.R b n D) (hi : MapIs M D L) : MapL M w b L := by
  have := tight h
  rw [hi.size O (h.entries O.keyed)] at this
  exact ⟨D, this, hi⟩
theorem MapL.perm (h : MapL M w b L) (hp : L.Perm L') : MapL M w b L' := by
  obtain ⟨D, h1, h2⟩ := h
  exact ⟨D, hp.length_eq ▸ h1, h2.perm hp⟩
theorem MapL.once (h : MapL M w b L) : (L.map (·.1)).Nodup := by obtain ⟨D, _, h2⟩ := h; exact h2.once
theorem MapL.key (h : MapL M w b L) : ∀ x ∈ L, M.okK x.1 := by obtain ⟨D, _, h2⟩ := h; exact h2.key
theorem MapL.lt (h : MapL M w b L) : b < w.heap.size := by obtain ⟨D, h1, _⟩ := h; exact h1.lt
theorem MapL.blk (h : MapL M w b L) (hb : w'.heap[b]? = w.heap[b]?) : MapL M w' b L := by
  obtain ⟨D, ⟨es, clock, h3, h4⟩, h2⟩ := h
  exact ⟨D, ⟨es, clock, hb.trans h3, h4⟩, h2⟩
theorem MapL.made (M : MK P t k e α β) (w : World) : MapL M (w.alloc (.map #[] 0)) w.heap.size [] := ⟨_, World.ownsMap_made w _ _ _, MapIs.nil⟩
theorem MapL.size (O : M.Ok) {D : DataW Unit} {n : Nat} (h : w.ownsMap P k M.R b n D) (hi : MapIs M D L) : Maps.size D = L.length := hi.size O (h.entries O.keyed)
/-- A map that may be nil. -/
def MapO (M : MK P t k e α β) (w : World) (b : Option Nat) (L : List (α × β)) : Prop := match b with
  | none => L = []
  | some b => MapL M w b L
/-- A loop over a map (or over nil) under way: block r is its iterator, rest is what is still to come. -/
def MapR (M : MK P t k e α β) (w : World) (b : Option Nat) (r : Nat) (L rest : List (α × β)) : Prop := match b with
  | none => w.heap[r]? = some (.mapIter none 0 #[] 0) ∧ L = [] ∧ rest = []
  | some b => ∃ D left cnt, w.ranges P k M.R b r L.length D left cnt ∧ MapIs M D L ∧ (∀ x ∈ rest, x ∈ L) ∧ (rest.map (·.1)).Nodup ∧ (∀ x ∈ rest, left (M.lit x.1) = true) ∧ ∀ kl, left kl = true → ∃ x ∈ rest, kl = M.lit x.1
def leftO (w : World) (b : Option Nat) (r : Nat) : Nat := match b with
  | none => 0
  | some b => w.rangeLeft b r
theorem MapR.sub {b : Option Nat} {r : Nat} {l : List (α × β)} (h : MapR M w b r L l) : ∀ x ∈ l, x ∈ L := by
  cases b with
  | none => obtain ⟨_, _, rfl⟩ := h; simp
  | some b => obtain ⟨_, _, _, _, _, h, _⟩ := h; exact h
theorem MapR.lt {b : Option Nat} {r : Nat} {l : List (α × β)} (h : MapR M w b r L l) : r < w.heap.size := by
  cases b with
  | none => exact (Array.getElem?_eq_some_iff.1 h.1).1
  | some b => obtain ⟨_, _, _, h, _⟩ := h; exact h.lt
/-- It stays while other blocks are written and made. -/
theorem MapR.kept {w' : World} {b : Option Nat} {r : Nat} {l : List (α × β)} (h : MapR M w b r L l) (hb : ∀ c, b = some c → w'.heap[c]? = w.heap[c]?) (hr : w'.heap[r]? = w.heap[r]?) : MapR M w' b r L l := by
  cases b with
  | none => exact ⟨hr.trans h.1, h.2⟩
  | some b =>
    obtain ⟨D, left, cnt, ⟨es, clock, since, seen, c0, h1, F, hs, hD, h2, h3⟩, h4⟩ := h
    exact ⟨D, left, cnt, ⟨es, clock, since, seen, c0, (hb b rfl).trans h1, F, hs, hD, hr.trans h2, h3⟩, h4⟩
theorem leftO_kept {w' : World} {b : Option Nat} {r : Nat} (hb : ∀ c, b = some c → w'.heap[c]? = w.heap[c]?) (hr : w'.heap[r]? = w.heap[r]?) : leftO w' b r = leftO w b r := by
  cases b with
  | none => rfl
  | some b =>
    show w'.rangeLeft b r = w.rangeLeft b r
    unfold World.rangeLeft
    rw [hb b rfl, hr]
end
/-! ### at the operation -/
section
variable {P : Program} {t k e : TypeId} {α β : Type} {M : MK P t k e α β} (w : World) {ops : Array Oper} {rest : List Oper} {o : Oper} {a : Act} {Q : Exit → Act → World → Prop} {b : Nat} {L : List (α × β)}
/-- 'len(m)'. -/
theorem wpList_len_g (hg : o.guard = none) (m : Operand) (hop : o.op = Op.call { callee := Callee.builtin Builtin.len, args := #[m], argTypes := #[t] }) (O : M.Ok) (hm : a.eval m = .map (some b)) (h : MapL M w b L)
    (hK : wpList P ops Q rest (a.put o.dst (.int .i64 (L.length : Nat))) w) : wpList P ops Q (o :: rest) a w := by
  refine wpList_plain hg fun K' hK' => ?_
  obtain ⟨D, h1, h2⟩ := h
  unfold Oper.wp
  simp [execOp, hop, resolve, invoke, builtin, hm, h1.len O.und o.type, Result.andThen]
  exact hK' _ _ (by rw [MapL.size O h1 h2]; exact hK)
/-- 'range m'. -/
theorem wpList_range_g (hg : o.guard = none) (m : Operand) (hop : o.op = Op.range t m) (O : M.Ok) (b : Option Nat) (hm : a.eval m = .map b) (h : MapO M w b L)
    (hK : ∀ w', MapR M w' b w.heap.size L L → w.grownBy w' none → w'.heap.size = w.heap.size + 1 → wpList P ops Q rest (a.put o.dst (.pointer (some ⟨w.heap.size, 0, none⟩))) w') : wpList P ops Q (o :: rest) a w := by
  refine wpList_plain hg fun K' hK' => ?_
  unfold Oper.wp
  cases b with
  | none =>
    obtain rfl : L = [] := h
    simp [execOp, hop, hm, run_range_nilMap w t k e O.und, Result.andThen]
    exact hK' _ _ (hK _ ⟨(MapKept.heap_alloc w _).1, rfl, rfl⟩ (World.grownBy_alloc w _ none) (by simp))
  | some b =>
    obtain ⟨D, h1, h2⟩ := h
    obtain ⟨w', hrun, r1, r2, r3⟩ := h1.range O.keyed O.und
    simp [execOp, hop, hm, hrun, Result.andThen]
    exact hK' _ _ (hK w' ⟨D, _, _, r1, h2, fun _ hx => hx, h2.once, h2.has, h2.only⟩ r2 r3)
end
section
variable {P : Program} {t k e : TypeId} {α β : Type} [DecidableEq α] {M : MK P t k e α β} {w w' : World} {b : Nat} {L L' : List (α × β)}
theorem MK.Ok.same (O : M.Ok) {a b : α} (ha : M.okK a) (hb : M.okK b) : (M.lit a).sameKey (M.lit b) = decide (a = b) := by
  by_cases h : a = b
  · subst h; simp [WideAt.sameKey_self (O.litKey ha)]
  · rw [Maps.sameKey_ne fun e => h (O.litInj ha hb e)]; simp [h]
/-- What stands at a key. -/
def getM (M : MK P t k e α β) (L : List (α × β)) (a : α) : β := match L.find? fun x => decide (x.1 = a) with
  | some x => x.2
  | none => M.zero
def hasM (L : List (α × β)) (a : α) : Bool := L.any fun x => decide (x.1 = a)
def delM (L : List (α × β)) (a : α) : List (α × β) := L.filter fun x => decide (x.1 ≠ a)
def putM (L : List (α × β)) (a : α) (c : β) : List (α × β) := (a, c) :: delM L a
theorem hasM_iff {L : List (α × β)} {a : α} : hasM L a = true ↔ ∃ c, (a, c) ∈ L := by
  unfold hasM
  rw [List.any_eq_true]
  constructor
  · rintro ⟨x, hx, h⟩
    obtain rfl : x.1 = a := by simpa using h
    exact ⟨x.2, hx⟩
  · rintro ⟨c, hc⟩
    exact ⟨_, hc, by simp⟩
theorem hasM_false {L : List (α × β)} {a : α} : hasM L a = false ↔ ∀ c, (a, c) ∉ L := by
  rw [← Bool.not_eq_true, hasM_iff]
  simp
theorem getM_of {L : List (α × β)} (h : (L.map (·.1)).Nodup) {a : α} {c : β} (hc : (a, c) ∈ L) : getM M L a = c := by
  unfold getM
  cases hf : L.find? fun x => decide (x.1 = a) with
  | none =>
    rw [List.find?_eq_none] at hf
    exact absurd rfl (by simpa using hf (a, c) hc : ¬ a = a)
  | some x =>
    have h1 := List.mem_of_find?_eq_some hf
    have h2 : x.1 = a := by simpa using List.find?_some hf
    exact once_eq h (a := a) (c := x.2) (d := c) (by rw [← h2]; exact h1) hc
theorem getM_no {L : List (α × β)} {a : α} (h : hasM L a = false) : getM M L a = M.zero := by
  unfold getM
  cases hf : L.find? fun x => decide (x.1 = a) with
  | none => rfl
  | some x =>
    have h1 := List.mem_of_find?_eq_some hf
    have h2 : x.1 = a := by simpa using List.find?_some hf
    exact absurd (h2 ▸ h1) (hasM_false.1 h x.2)
theorem mem_delM {L : List (α × β)} {a : α} {x : α × β} : x ∈ delM L a ↔ x ∈ L ∧ x.1 ≠ a := by
  unfold delM; rw [List.mem_filter]; simp
theorem mem_putM {L : List (α × β)} {a : α} {c : β} {x : α × β} : x ∈ putM L a c ↔ x = (a, c) ∨ (x ∈ L ∧ x.1 ≠ a) := by
  unfold putM; rw [List.mem_cons, mem_delM]
theorem once_del {L : List (α × β)} (h : (L.map (·.1)).Nodup) (a : α) : ((delM L a).map (·.1)).Nodup := h.sublist (List.Sublist.map _ List.filter_sublist)
theorem once_put {L : List (α × β)} (h : (L.map (·.1)).Nodup) (a : α) (c : β) : ((putM L a c).map (·.1)).Nodup := by
  unfold putM
  rw [List.map_cons, List.nodup_cons]
  refine ⟨fun hm => ?_, once_del h a⟩
  obtain ⟨x, hx, e⟩ := List.mem_map.1 hm
  exact (mem_delM.1 hx).2 e
theorem MapIs.del (O : M.Ok) {D : DataW Unit} {L : List (α × β)} (h : MapIs M D L) {a : α} (ha : M.okK a) : MapIs M (D.del (M.lit a)) (delM L a) where
  once := once_del h.once a
  key x hx := h.key x (mem_delM.1 hx).1
  has x hx := by
    obtain ⟨h1, h2⟩ := mem_delM.1 hx
    rw [has_del_other fun e => h2 (O.litInj (h.key x h1) ha e)]
    exact h.has x h1
  only kl hkl := by
    by_cases e : kl = M.lit a
    · rw [e, has_del_same] at hkl; cases hkl
    · rw [has_del_other e] at hkl
      obtain ⟨x, hx, rfl⟩ := h.only kl hkl
      exact ⟨x, mem_delM.2 ⟨hx, fun e1 => e (by rw [e1])⟩, rfl⟩
  at_ x hx zd := by
    obtain ⟨h1, h2⟩ := mem_delM.1 hx
    rw [atKey_del_other fun e => h2 (O.litInj (h.key x h1) ha e)]
    exact h.at_ x h1 zd
theorem MapIs.put (O : M.Ok) {D : DataW Unit} {L : List (α × β)} (h : MapIs M D L) (hD : IsMap D) {a : α} (ha : M.okK a) (c : β) : MapIs M (D.put (M.lit a) (M.dat c)) (putM L a c) where
  once := once_put h.once a c
  key x hx := by
    rcases mem_putM.1 hx with rfl | ⟨h1, _⟩
    · exact ha
    · exact h.key x h1
  has x hx := by
    rcases mem_putM.1 hx with rfl | ⟨h1, h2⟩
    · exact has_put_same hD (O.litKey ha) _
    · rw [has_put_other fun e => h2 (O.litInj (h.key x h1) ha e)]
      exact h.has x h1
  only kl hkl := by
    by_cases e : kl = M.lit a
    · exact ⟨(a, c), mem_putM.2 (.inl rfl), e⟩
    · rw [has_put_other e] at hkl
      obtain ⟨x, hx, rfl⟩ := h.only kl hkl
      exact ⟨x, mem_putM.2 (.inr ⟨hx, fun e1 => e (by rw [e1])⟩), rfl⟩
  at_ x hx zd := by
    rcases mem_putM.1 hx with rfl | ⟨h1, h2⟩
    · exact atKey_put_same hD (O.litKey ha) _ _
    · rw [atKey_put_other fun e => h2 (O.litInj (h.key x h1) ha e)]
      exact h.at_ x h1 zd
/-- What 'm[a]' reads as. -/
theorem MapIs.look (O : M.Ok) {D : DataW Unit} (h : MapIs M D L) {a : α} (ha : M.okK a) : Maps.has D (M.lit a) = hasM L a ∧ D.atKey (M.lit a) (M.dat M.zero) = M.dat (getM M L a) := by
  cases hh : hasM L a with
  | true =>
    obtain ⟨c, hc⟩ := hasM_iff.1 hh
    exact ⟨h.has _ hc, by rw [h.at_ _ hc, getM_of h.once hc]⟩
  | false =>
    have hn : Maps.has D (M.lit a) = false := by
      cases hx : Maps.has D (M.lit a) with
      | false => rfl
      | true =>
        obtain ⟨x, hx, e⟩ := h.only _ hx
        have := O.litInj ha (h.key x hx) e
        exact absurd (this ▸ hx) (hasM_false.1 hh x.2)
    exact ⟨hn, by rw [atKey_of_not_has hn, getM_no hh]⟩
end
section
variable {P : Program} {t k e : TypeId} {α β : Type} [DecidableEq α] {M : MK P t k e α β} (w : World) {ops : Array Oper} {rest : List Oper} {o : Oper} {a : Act} {Q : Exit → Act → World → Prop} {b : Nat} {L : List (α × β)}
/-- 'm[q]'. -/
theorem wpList_look_g (hg : o.guard = none) (m x : Operand) (hop : o.op = Op.lookup t m x false) (O : M.Ok) (hm : a.eval m = .map (some b)) (h : MapL M w b L) (q : α) (hq : M.okK q) (hx : a.eval x = M.encK q)
    (v : Value) (hv : M.encV (getM M L q) = v) (hK : wpList P ops Q rest (a.put o.dst v) w) : wpList P ops Q (o :: rest) a w := by
  refine wpList_plain hg fun K' hK' => ?_
  obtain ⟨D, h1, h2⟩ := h
  obtain ⟨v', ps, hrun, hv'⟩ := h1.lookup O.keyed O.und (O.zeroV w) (O.val M.zero) (O.key hq)
  rw [(h2.look O hq).2] at hv'
  have := O.valInj hv'
  subst this
  unfold Oper.wp
  simp [execOp, hop, hm, hx, hrun, Result.andThen]
  exact hK' _ _ (hv ▸ hK)
/-- 'v, ok := m[q]'. -/
theorem wpList_look_ok_g (hg : o.guard = none) (m x : Operand) (hop : o.op = Op.lookup t m x true) (O : M.Ok) (hm : a.eval m = .map (some b)) (h : MapL M w b L) (q : α) (hq : M.okK q) (hx : a.eval x = M.encK q)
    (v : Value) (hv : M.encV (getM M L q) = v) (c : Bool) (hc : hasM L q = c) (hK : wpList P ops Q rest (a.put o.dst (.tuple #[v, .bool c])) w) : wpList P ops Q (o :: rest) a w := by
  refine wpList_plain hg fun K' hK' => ?_
  obtain ⟨D, h1, h2⟩ := h
  obtain ⟨v', ps, hrun, hv'⟩ := h1.look_ok O.keyed O.und (O.zeroV w) (O.val M.zero) (O.key hq)
  rw [(h2.look O hq).2] at hv'
  rw [(h2.look O hq).1] at hrun
  have := O.valInj hv'
  subst this
  unfold Oper.wp
  simp [execOp, hop, hm, hx, hrun, Result.andThen]
  exact hK' _ _ (hv ▸ hc ▸ hK)
/-- 'm[q] = c'. -/
theorem wpList_put_g (hg : o.guard = none) (m x v : Operand) (hop : o.op = Op.mapUpdate t m x v) (O : M.Ok) (hm : a.eval m = .map (some b)) (h : MapL M w b L) (hl : L.length < maxLen) (q : α) (hq : M.okK q) (hx : a.eval x = M.encK q)
    (c : β) (hv : a.eval v = M.encV c) (hK : ∀ w', MapL M w' b (putM L q c) → w.grownBy w' (some b) → w'.heap.size = w.heap.size → wpList P ops Q rest (a.put o.dst undef) w') : wpList P ops Q (o :: rest) a w := by
  refine wpList_plain hg fun K' hK' => ?_
  obtain ⟨D, h1, h2⟩ := h
  obtain ⟨w', hrun, r1, r2⟩ := h1.store O.keyed O.und hl (O.key hq) (O.val c)
  unfold Oper.wp
  simp [execOp, hop, hm, hx, hv, hrun, Result.andThen]
  refine hK' _ _ (hK w' (MapL.mk' O r1 (h2.put O h1.isMap hq c)) r2.grown ?_)
  obtain ⟨_, _, _, _, _, rfl⟩ := r2
  simp [setBlock]
/-- 'delete(m, q)'. -/
theorem wpList_del_g (hg : o.guard = none) (m x : Operand) (hop : o.op = Op.call { callee := Callee.builtin Builtin.delete, args := #[m, x], argTypes := #[t, k] }) (O : M.Ok) (hm : a.eval m = .map (some b)) (h : MapL M w b L) (q : α) (hq : M.okK q) (hx : a.eval x = M.encK q)
    (hK : ∀ w', MapL M w' b (delM L q) → w.grownBy w' (some b) → w'.heap.size = w.heap.size → wpList P ops Q rest (a.put o.dst (.tuple #[])) w') : wpList P ops Q (o :: rest) a w := by
  refine wpList_plain hg fun K' hK' => ?_
  obtain ⟨D, h1, h2⟩ := h
  obtain ⟨w', hrun, r1, r2⟩ := h1.drop O.keyed O.und (O.key hq) o.type
  unfold Oper.wp
  simp [execOp, hop, resolve, invoke, builtin, hm, hx, hrun, Result.andThen]
  refine hK' _ _ (hK w' (MapL.mk' O r1 (h2.del O hq)) r2.grown ?_)
  obtain ⟨_, _, _, _, _, rfl⟩ := r2
  simp [setBlock]
/-- The step. -/
theorem wpList_next_g (hg : o.guard = none) (it : Operand) (hop : o.op = Op.next it false) (O : M.Ok) (b : Option Nat) (r : Nat) (l : List (α × β)) (hit : a.eval it = .pointer (some ⟨r, 0, none⟩)) (h : MapR M w b r L l)
    (hDone : l = [] → wpList P ops Q rest (a.put o.dst (.tuple #[.bool false])) w)
    (hMore : ∀ (x : α) (c : β) (l' : List (α × β)) (w' : World), M.okK x → l.Perm ((x, c) :: l') → MapR M w' b r L l' → leftO w' b r < leftO w b r → w.grownBy w' (some r) → w'.heap.size = w.heap.size →
      (Instr.entry (.pointer (some ⟨r, 0, none⟩))).run P w' = .ok (.tuple #[M.encK x, M.encV c]) w' → wpList P ops Q rest (a.put o.dst (.tuple #[.bool true, M.encK x, M.encV c])) w') :
    wpList P ops Q (o :: rest) a w := by
  refine wpList_plain hg fun K' hK' => ?_
  unfold Oper.wp
  cases b with
  | none =>
    obtain ⟨h1, rfl, rfl⟩ := h
    have hrun : (Instr.next (.pointer (some ⟨r, 0, none⟩)) false o.type).run P w = .ok (.tuple #[.bool false]) w := by
      simp only [Instr.next, getObj, Sem.run_bind, Sem.run, h1, Result.andThen]
      rfl
    simp [execOp, hop, hit, hrun, Result.andThen]
    exact hK' _ _ (hDone rfl)
  | some b =>
    obtain ⟨D, left, cnt, h1, h2, h3, h4, h5, h6⟩ := h
    rcases h1.next O.keyed o.type with ⟨h0, hl, hrun⟩ | ⟨key, v, kl, y, w', cnt', hkey, hlk, hv, hat, hrun, hrg, hlt, hgr, hsz, hen⟩
    · simp [execOp, hop, hit, hrun, Result.andThen]
      refine hK' _ _ (hDone ?_)
      cases l with
      | nil => rfl
      | cons x l =>
        have := h5 x (by simp)
        rw [hl] at this
        cases this
    · obtain ⟨x, hx, rfl⟩ := h6 kl hlk
      obtain ⟨x, c⟩ := x
      have hok := h2.key _ (h3 _ hx)
      obtain rfl : key = M.encK x := O.keyed.inj hkey (O.key hok)
      have hd := hat (M.dat M.zero)
      rw [h2.at_ _ (h3 _ hx)] at hd
      obtain rfl : v = M.encV c := by
        obtain ⟨y1, y2⟩ := y
        simp only at hd
        subst hd
        exact O.valInj hv
      simp [execOp, hop, hit, hrun, Result.andThen]
      refine hK' _ _ (hMore x c (delM l x) w' hok ?_ ⟨D, _, cnt', hrg, h2, fun y hy => h3 y (mem_delM.1 hy).1, once_del h4 x, fun y hy => ?_, fun kl hkl => ?_⟩ ?_ hgr hsz hen)
      · refine perm_of_once h4 ?_ ?_
        · exact once_put h4 x c
        · intro y
          rw [show (x, c) :: delM l x = putM l x c from rfl, mem_putM]
          constructor
          · intro hy
            by_cases e1 : y.1 = x
            · left
              obtain ⟨y1, y2⟩ := y
              simp only at e1
              subst e1
              rw [once_eq h4 hy hx]
            · exact .inr ⟨hy, e1⟩
          · rintro (rfl | ⟨hy, _⟩)
            · exact hx
            · exact hy
      · obtain ⟨m1, m2⟩ := mem_delM.1 hy
        show (left (M.lit y.1) && !(M.lit y.1).sameKey (M.lit x)) = true
        rw [h5 y m1, O.same (h2.key _ (h3 _ m1)) hok]
        simp [m2]
      · have hkl2 : left kl = true ∧ kl.sameKey (M.lit x) = false := by simpa using hkl
        obtain ⟨y, hy, rfl⟩ := h6 kl hkl2.1
        refine ⟨y, mem_delM.2 ⟨hy, fun e1 => ?_⟩, rfl⟩
        have := hkl2.2
        rw [O.same (h2.key _ (h3 _ hy)) hok] at this
        simp [e1] at this
      · show w'.rangeLeft b r < w.rangeLeft b r
        rw [hrg.left_eq, h1.left_eq]
        exact hlt
end
/-! ### elements that are maps -/
def mapEl : Value → Option (DataW Unit × List MemPlace)
  | .map none => some (.agg [], [])
  | .map (some b) => some (.agg [.lit (.int .i64 (b : Int))], [])
  | _ => none
def mapDat : Option Nat → DataW Unit
  | none => .agg []
  | some b => .agg [.lit (.int .i64 (b : Int))]
theorem mapEl_val (b : Option Nat) : mapEl (.map b) = some (mapDat b, []) := by cases b <;> rfl
theorem mapDat_inj {b c : Option Nat} (h : mapDat b = mapDat c) : b = c := by
  cases b <;> cases c <;> simp [mapDat] at h ⊢
  omega
theorem mapEl_inj {v : Value} {b : Option Nat} {ps : List MemPlace} (h : mapEl v = some (mapDat b, ps)) : v = .map b := by
  unfold mapEl at h
  split at h
  · simp only [Option.some.injEq, Prod.mk.injEq] at h
    rw [mapDat_inj (b := none) (c := b) h.1]
  · rename_i b'
    simp only [Option.some.injEq, Prod.mk.injEq] at h
    rw [mapDat_inj (b := some b') (c := b) h.1]
  · cases h
end Go.Proofs.Ytgemjipbifgbgaa
/- Keys and elements of maps: places, keys' and fingerprints' values told apart. No statement of the seat is proved here. -/
namespace Go.Proofs.Ytgemjipbifgbgaa
open Go Go.Maps Go.RowKit
set_option linter.unusedVariables false

theorem in64_wf {x : Int} (h : In64 x) : (Lit.int .i64 x).wf = true := by
  obtain ⟨h1, h2⟩ := h
  have e1 : IntKind.i64.min = -9223372036854775808 := rfl
  have e2 : IntKind.i64.max = 9223372036854775807 := rfl
  simp [Lit.wf]
  omega
def placeEl : Value → Option (DataW Unit × List MemPlace)
  | .agg ⟨[.int .i64 x, .int .i64 y]⟩ => some (.agg [.lit (.int .i64 x), .lit (.int .i64 y)], [])
  | _ => none
theorem placeEl_inj {v : Value} {p : Int × Int} {ps : List MemPlace} (h : placeEl v = some (.agg [.lit (.int .i64 p.1), .lit (.int .i64 p.2)], ps)) : v = .agg #[.int .i64 p.1, .int .i64 p.2] := by
  unfold placeEl at h
  split at h
  · simp only [Option.some.injEq, Prod.mk.injEq, DataW.agg.injEq, List.cons.injEq, DataW.lit.injEq, Lit.int.injEq, true_and, and_true] at h
    rw [h.1.1, h.1.2]
  · cases h
theorem agg_kcs {a b : KeyT} (ha : a.Ok) (hb : b.Ok) (h : Value.agg (kcs a).toArray = .agg (kcs b).toArray) : a = b := by
  injection h with h
  have h2 : (kcs a).toArray.toList = (kcs b).toArray.toList := by rw [h]
  exact kcs_inj ha hb h2
theorem agg_bv {a b : List UInt8} (h : Value.agg (bv a).toArray = .agg (bv b).toArray) : a = b := by
  injection h with h
  have h2 : (bv a).toArray.toList = (bv b).toArray.toList := by rw [h]
  have h3 : bv a = bv b := h2
  clear h h2
  induction a generalizing b with
  | nil => cases b with
    | nil => rfl
    | cons y b => cases h3
  | cons x a ih => cases b with
    | nil => cases h3
    | cons y b =>
      simp only [bv, List.map_cons, List.cons.injEq, Value.int.injEq, true_and] at h3
      rw [ih h3.2]
      congr 1
      exact UInt8.toNat_inj.1 (by omega)
end Go.Proofs.Ytgemjipbifgbgaa
/- The landed package extent: Keys. No statement of the seat is proved here. -/
namespace Go.Proofs.Ytgemjipbifgbgaa
open Go Go.RowKit Go.Maps Go.ChangeShapes Go.WideShapes Go.ChangeAt Go.Deep Go.Joins
set_option linter.unusedVariables false
set_option linter.unusedSimpArgs false
set_option maxRecDepth 100000

/-- A set of keys. -/
def mkZ : MK Try.prog 55 49 56 KeyT Unit where
  encK k := .agg (kcs k).toArray
  okK := KeyT.Ok
  lit := kl
  R := unitElem
  encV _ := .agg #[]
  dat _ := .agg []
  zero := ()
theorem okZ : mkZ.Ok where
  keyed := keyLaw
  und := Try.underlying55
  key := kl_is
  inj := agg_kcs
  val _ := unitElem_mk
  valInj h := (unitElem_inv h).1
  datInj _ := rfl
  zeroV _ := by kernel_rfl
theorem info_unit : (Try.prog.info? 56).map (fun i => (i.zero, i.size)) = some (some (.agg #[]), 0) := by kernel_rfl
theorem unit_size : (Try.prog.info? 56).map (·.size) = some 0 := by kernel_rfl
/-- The set that has the keys of l. -/
def SetE (w : World) (b : Nat) (l : List RowT) : Prop := ∃ L : List (KeyT × Unit), MapL mkZ w b L ∧ (∀ k, hasM L k = decide (k ∈ l.map (·.1))) ∧ L.length ≤ l.length
theorem set_put {L : List (KeyT × Unit)} {l : List RowT} {x : RowT} (h : ∀ k, hasM L k = decide (k ∈ l.map (·.1))) (k : KeyT) : hasM (putM L x.1 ()) k = decide (k ∈ (l ++ [x]).map (·.1)) := by
  rw [Bool.eq_iff_iff, hasM_iff, decide_eq_true_iff, List.map_append, List.mem_append, List.map_singleton, List.mem_singleton]
  have h1 : (∃ c, (k, c) ∈ L) ↔ k ∈ l.map (·.1) := by rw [← hasM_iff, h k, decide_eq_true_iff]
  constructor
  · rintro ⟨c, hc⟩
    rcases mem_putM.1 hc with e | ⟨h2, _⟩
    · exact .inr (Prod.mk.inj e).1
    · exact .inl (h1.1 ⟨c, h2⟩)
  · rintro (h2 | rfl)
    · by_cases e : k = x.1
      · subst e
        exact ⟨(), mem_putM.2 (.inl rfl)⟩
      · obtain ⟨c, hc⟩ := h1.2 h2
        exact ⟨c, mem_putM.2 (.inr ⟨hc, e⟩)⟩
    · exact ⟨(), mem_putM.2 (.inl rfl)⟩
theorem map_ne_blkE {b g : Nat} {w : World} {l : List (KeyT × Unit)} {u : TypeId} {cs : Array Value} (h : MapL mkZ w b l) (hk : Blk w g u cs) : b ≠ g := by
  rintro rfl
  obtain ⟨D, ⟨es, clock, h1, _⟩, _⟩ := h
  rw [hk] at h1
  cases h1
theorem putM_lenE (L : List (KeyT × Unit)) (a : KeyT) : (putM L a ()).length ≤ L.length + 1 := by
  unfold putM delM
  rw [List.length_cons]
  have := List.length_filter_le (fun x : KeyT × Unit => decide (x.1 ≠ a)) L
  omega
set_option maxHeartbeats 8000000 in
theorem xkeys_any (A : Option Addr) (ls : List RowT) (k c : Nat) (hl : ls.length = k) (hk : k ≤ 20000) (w : World) (hr : RdRw w w.heap.size A ls) :
    Calls Try.prog 17 #[.slice A k c] w fun e w' => ∃ A' c', e = .returned (.slice A' (keysE ls).length c') ∧ OwnG 49 33 kcs w' w.heap.size A' c' (keysE ls) ∧ (∀ y ∈ keysE ls, KeyT.Ok y) ∧ Below w.heap.size w w' := by
  have hmm := @run_makeMap Try.prog
  have HR := Lib.hid (show ∀ W, Below w.heap.size w W → RdRw W w.heap.size A ls from fun W hb => hr.below hb)
  have HEA := Lib.hid hr.each
  have HPL := Lib.hid hl
  obtain ⟨fe, hfe⟩ := ext_desc
  have HF := Lib.hid hfe
  obtain ⟨iz, hiz, hzz, _⟩ := zero_parts info_extZ
  have HZ := Lib.hid (And.intro hiz hzz)
  clear hfe hiz hzz
  obtain ⟨fk, hfk⟩ := key_desc
  have HFK := Lib.hid hfk
  obtain ⟨iu, hiu, hzu, _⟩ := zero_parts info_unit
  have HU := Lib.hid (And.intro hiu hzu)
  obtain ⟨w0, hw0⟩ : ∃ w0, w.alloc (.map #[] 0) = w0 := ⟨_, rfl⟩
  obtain ⟨mb, hmb⟩ : ∃ mb, w.heap.size = mb := ⟨_, rfl⟩
  have H0 := Lib.hid (show SetE w0 mb [] ∧ Below w.heap.size w w0 ∧ w0.heap.size = mb + 1 from hw0 ▸ hmb ▸ ⟨⟨[], MapL.made mkZ w, by simp [hasM], by simp⟩, (Below.refl _ _).alloc (Nat.le_refl _) _, by simp⟩)
  have HW0 := Lib.hid (And.intro hw0 hmb)
  clear hl hr hfk hiu hzu hw0 hmb
  go_enter Try.func17, Try.ntmps17
  go_upto_region 3 with fail
  rw [HW0.out.1, HW0.out.2]
  go_wp2_with fail
  go_loopw [3, 12] (fun u i wr => ∃ (j m : Nat) (Y : Option Addr) (z : Nat), j ≤ k ∧ i = .int .i64 j ∧ u = .slice Y m z ∧ m ≤ j ∧ Hid ((keysE (ls.take j)).length = m) ∧ Hid (OwnG 49 33 kcs wr (mb + 1) Y z (keysE (ls.take j))) ∧ Hid (SetE wr mb (ls.take j) ∧ mb < wr.heap.size) ∧ Hid (Below w.heap.size w wr)) (fun _ i _ => k - (intOf i).toNat)
  case atStart => exact ⟨0, 0, none, 0, Nat.zero_le _, rfl, rfl, Nat.le_refl _, Lib.hid rfl, Lib.hid (OwnG.nil _ _), Lib.hid ⟨H0.out.1, by rw [H0.out.2.2]; omega⟩, Lib.hid H0.out.2.1⟩
  case round =>
    obtain ⟨j, m, Y, z, hj, rfl, rfl, hm, HM, HO, HS, HB⟩ := hrel
    by_cases hlt : j < k
    · have hjp : j < ls.length := by rw [HPL.out]; exact hlt
      obtain ⟨g, off, rfl, hg, hra, hokx⟩ := (HR.out _ HB.out).at_ hjp
      have HSN := Lib.hid (keysE_snoc hjp)
      have HTK := Lib.hid (List.take_succ_eq_append_getElem hjp)
      obtain ⟨x, hx⟩ : ∃ x, ls[j] = x := ⟨_, rfl⟩
      rw [hx] at hra hokx HSN HTK
      have HRA := Lib.hid hra
      have HOK := Lib.hid hokx
      have hi1 : (0 : Int) ≤ (j : Int) := by omega
      have hi2 : (j : Int) < (k : Int) := by omega
      have HLJ := Lib.hid (show (ls.take j).length = j by rw [List.length_take, HPL.out]; omega)
      clear hra hokx hx hjp hg
      have HKS := Lib.hid (show (Try.prog.info? 51).map (·.size) = some (rcs x).length by rw [rcs_length HOK.out]; exact ext_size)
      have HKS2 := Lib.hid (show (Try.prog.info? 51).map (·.size) = some (rcs x).toArray.size by rw [List.size_toArray]; exact HKS.out)
      have HOLD := Lib.hid (show (rz).size = (rcs x).toArray.size from rz_size.trans (by rw [List.size_toArray, rcs_length HOK.out]))
      have HONE := Lib.hid (rcs_one (r := x))
      have HBZ := Lib.hid (Blk.new wr 51 rz)
      obtain ⟨w2, hw2⟩ : ∃ W, wr.alloc (.cells (rcs x).toArray 51) = W := ⟨_, rfl⟩
      have hba : Below wr.heap.size wr w2 := hw2 ▸ (Below.refl wr.heap.size wr).alloc (Nat.le_refl _) _
      have HVB := Lib.hid (show Blk w2 wr.heap.size 51 (rcs x).toArray from hw2 ▸ Blk.new wr 51 (rcs x).toArray)
      have HBA := Lib.hid hba
      have HB2 := Lib.hid (HB.out.trans (hba.mono HB.out.size))
      have HW2 := Lib.hid hw2
      clear hw2 hba
      go_upto_region 6 with (first
        | ((with_reducible refine at_load ?_); refine wpList_load_mid rfl 51 (.tmp 14) rfl g (off + j * 35) rfl (rcs x) (.struct fe) HRA.out HF.out rfl HKS.out ?_)
        | ((with_reducible refine at_alloc ?_); refine wpList_alloc_z rfl 51 rfl iz _ HZ.out.1 HZ.out.2 ?_)
        | ((with_reducible refine at_store ?_); refine wpList_store_row rfl 51 (.tmp 6) (.tmp 15) rfl wr.heap.size (rcs x).toArray rfl rfl 51 rz HBZ.out HKS2.out HOLD.out HONE.out ?_; rw [setRow_alloc, HW2.out]))
      obtain ⟨vb, hvb⟩ : ∃ V, wr.heap.size = V := ⟨_, rfl⟩
      rw [hvb]
      rw [hvb] at HVB
      have HVW := Lib.hid hvb
      clear hvb HBZ HOLD HKS2 HW2
      obtain ⟨L, hL1, hL2, hL3⟩ := HS.out.1
      have hL4 := hL1.blk (HBA.out.block mb HS.out.2)
      obtain ⟨r, hr⟩ : ∃ r, decide (x.1 ∈ (ls.take j).map (·.1)) = r := ⟨_, rfl⟩
      have HH := Lib.hid ((hL2 x.1).trans hr)
      have HRE := Lib.hid hr
      have HL4 := Lib.hid hL4
      have HLX := Lib.hid (And.intro hL2 hL3)
      have HKK := Lib.hid (show (Try.prog.info? 49).map (·.size) = some (kcs x.1).length by rw [kcs_length HOK.out.key]; exact key_size)
      have HRK := Lib.hid (range_key (r := x) (range_of_blk HVB.out))
      have HG := Lib.hid (show mkZ.encV (getM mkZ L x.1) = .agg #[] from rfl)
      obtain ⟨w3, hw3⟩ : ∃ W, w2.alloc (.cells #[] 56) = W := ⟨_, rfl⟩
      have hb3 : Below w2.heap.size w2 w3 := hw3 ▸ (Below.refl _ _).alloc (Nat.le_refl _) _
      have hms2 : mb < w2.heap.size := Nat.lt_of_lt_of_le HS.out.2 HBA.out.size
      have HB3 := Lib.hid (HB2.out.trans (hb3.mono HB2.out.size))
      have HO3 := Lib.hid ((HO.out.on HBA.out).on hb3)
      have HL3 := Lib.hid (hL4.blk (hb3.block mb hms2))
      have HM3 := Lib.hid (show mb < w3.heap.size from Nat.lt_of_lt_of_le hms2 hb3.size)
      have HV3 := Lib.hid (HVB.out.below hb3 HVB.out.lt)
      have HUB := Lib.hid (Blk.new w2 56 #[])
      have HUS := Lib.hid (show (Try.prog.info? 56).map (·.size) = some (#[] : Array Value).size from unit_size)
      have HUO := Lib.hid (show (#[] : Array Value).all (·.oneCell') = true by simp)
      have HW3 := Lib.hid hw3
      clear hL1 hL2 hL3 hL4 hr hw3 hb3 hms2 HBA HB2 HS HO HB
      cases r with
      | true =>
        go_upto_region 7 with (first
          | ((with_reducible refine at_load ?_); refine wpList_load_mid rfl 49 (.tmp 18) rfl vb 0 rfl (kcs x.1) (.struct fk) HRK.out HFK.out rfl HKK.out ?_)
          | ((with_reducible refine at_lookup ?_); refine wpList_look_ok_g w2 rfl (.tmp 17) (.tmp 19) rfl okZ rfl HL4.out x.1 HOK.out.key rfl (.agg #[]) HG.out true HH.out ?_)
          | ((with_reducible refine at_alloc ?_); refine wpList_alloc_z rfl 56 rfl iu _ HU.out.1 HU.out.2 ?_)
          | ((with_reducible refine at_store ?_); refine wpList_store_row rfl 56 (.tmp 7) (.tmp 21) rfl w2.heap.size #[] rfl rfl 56 #[] HUB.out HUS.out rfl HUO.out ?_; rw [setRow_alloc]))
        rw [HW3.out]
        clear HW3 HUB HUS HUO HL4 HVB HRK
        have hin := of_decide_eq_true HRE.out
        have HSN2 := Lib.hid (show keysE (ls.take (j + 1)) = keysE (ls.take j) from HSN.out.trans (if_pos hin))
        have HS3 := Lib.hid (show SetE w3 mb (ls.take (j + 1)) ∧ mb < w3.heap.size from ⟨⟨L, HL3.out, fun q => by
          rw [HLX.out.1 q, HTK.out, List.map_append, List.map_singleton]
          refine decide_eq_decide.2 ⟨fun h => List.mem_append_left _ h, fun h => ?_⟩
          rcases List.mem_append.1 h with h | h
          · exact h
          · rw [List.mem_singleton.1 h]; exact hin, by have := HLX.out.2; rw [HTK.out, List.length_append]; omega⟩, HM3.out⟩)
        clear hin
        go_wp2_with fail
        go_roundw
        case rel => exact ⟨j + 1, m, Y, z, by omega, by go_num, rfl, by omega, Lib.hid (by rw [HSN2.out]; exact HM.out), Lib.hid (by rw [HSN2.out]; exact HO3.out), HS3, HB3⟩
        case measure => simp [intOf]; omega
      | false =>
        go_upto_region 7 with (first
          | ((with_reducible refine at_load ?_); refine wpList_load_mid rfl 49 (.tmp 18) rfl vb 0 rfl (kcs x.1) (.struct fk) HRK.out HFK.out rfl HKK.out ?_)
          | ((with_reducible refine at_lookup ?_); refine wpList_look_ok_g w2 rfl (.tmp 17) (.tmp 19) rfl okZ rfl HL4.out x.1 HOK.out.key rfl (.agg #[]) HG.out false HH.out ?_)
          | ((with_reducible refine at_alloc ?_); refine wpList_alloc_z rfl 56 rfl iu _ HU.out.1 HU.out.2 ?_)
          | ((with_reducible refine at_store ?_); refine wpList_store_row rfl 56 (.tmp 7) (.tmp 21) rfl w2.heap.size #[] rfl rfl 56 #[] HUB.out HUS.out rfl HUO.out ?_; rw [setRow_alloc]))
        rw [HW3.out]
        clear HW3 HUB HUS HUO HL4 HVB HRK
        have hin := of_decide_eq_false HRE.out
        have HSN2 := Lib.hid (show keysE (ls.take (j + 1)) = keysE (ls.take j) ++ [x.1] from HSN.out.trans (if_neg hin))
        clear hin
        have HRK := Lib.hid (range_key (r := x) (range_of_blk HV3.out))
        have HLM := Lib.hid (show L.length < maxLen by have := HLX.out.2; have := HLJ.out; unfold maxLen; omega)
        have hbu : Try.prog.built 56 [] = some #[] := by kernel_rfl
        go_upto_region 9 with (first
          | ((with_reducible refine at_load ?_); refine wpList_load_mid rfl 49 (.tmp 26) rfl vb 0 rfl (kcs x.1) (.struct fk) HRK.out HFK.out rfl HKK.out ?_)
          | ((with_reducible refine at_update ?_); refine wpList_put_g w3 rfl (.tmp 25) (.tmp 27) (.tmp 28) rfl okZ rfl HL3.out HLM.out x.1 HOK.out.key rfl () rfl ?_; intro w4 m1 m2 m3; have HM4 := Lib.hid (And.intro m1 m2); clear m1 m2 m3))
        have hmo : ∀ q, some mb = some q → (Value.slice Y m z).ownBlock ≠ some q := fun q hq e => by
          injection hq with hq
          subst hq
          have := (HO3.out.lt (by rw [HM.out]; exact e)).1
          omega
        have hmv : mb ≠ vb := fun e => by
          have := HM3.out
          exact map_ne_blkE HL3.out HV3.out e
        have HO4 := Lib.hid (HO3.out.grown HM4.out.2 fun q hq e => hmo q hq (by rw [HM.out] at e; exact e))
        have HB4 := Lib.hid (HB3.out.grown HM4.out.2 HB3.out.size fun q hq => by injection hq with hq; rw [← hq, HW0.out.2]; exact Nat.le_refl _)
        have HV4 := Lib.hid (HV3.out.same (HM4.out.2.block vb HV3.out.lt fun e => hmv (by injection e with e; exact e.symm)))
        have HS4 := Lib.hid (show SetE w4 mb (ls.take (j + 1)) ∧ mb < w4.heap.size from ⟨⟨_, HM4.out.1, fun q => by rw [HTK.out]; exact set_put HLX.out.1 q, by have := HLX.out.2; have := putM_lenE L x.1; rw [HTK.out, List.length_append, List.length_singleton]; omega⟩, Nat.lt_of_lt_of_le HM3.out HM4.out.2.size⟩)
        clear hmo hmv HO3 HB3 HV3 HL3 HM4 HRK hbu
        have HRK := Lib.hid (range_key (r := x) (range_of_blk HV4.out))
        have hba : Below w4.heap.size w4 (w4.alloc (.cells (kcs x.1).toArray 49)) := (Below.refl _ _).alloc (Nat.le_refl _) _
        have HBA := Lib.hid (HB4.out.trans (hba.mono HB4.out.size))
        have HOA := Lib.hid (HO4.out.on hba)
        have HLA := Lib.hid (show SetE (w4.alloc (.cells (kcs x.1).toArray 49)) mb (ls.take (j + 1)) ∧ mb + 1 ≤ (w4.alloc (.cells (kcs x.1).toArray 49)).heap.size from by
          obtain ⟨⟨L', q1, q2⟩, q3⟩ := HS4.out
          exact ⟨⟨L', q1.blk (hba.block mb q3), q2⟩, Nat.le_trans q3 hba.size⟩)
        have HR1 := Lib.hid (rds_one w4 x.1 49 33 kcs)
        clear hba HO4 HB4 HS4
        go_wp2_with (first
          | ((with_reducible refine at_load ?_); refine wpList_load_mid rfl 49 (.tmp 30) rfl vb 0 rfl (kcs x.1) (.struct fk) HRK.out HFK.out rfl HKK.out ?_)
          | ((with_reducible refine at_buildSlice ?_); refine wpList_buildOne keyE rfl (.tmp 31) rfl HOK.out.key rfl ?_)
          | (at_builtin; refine wpList_append_g keyE rfl (.tmp 29) (.tmp 32) rfl (mb + 1) Y z m (keysE (ls.take j)) HM.out rfl HOA.out _ (some ⟨w4.heap.size, 0, none⟩) 1 1 [x.1] rfl rfl HR1.out (by intro y hy; rw [List.mem_singleton.1 hy]; exact HOK.out.key) ?_ ?_ ?_))
        case _ => omega
        case _ => exact HLA.out.2
        intro A9 c9 w9 ho9 hg9
        have HO9 := Lib.hid ho9
        have HOW := Lib.hid (show ∀ q, (Value.slice Y m z).ownBlock = some q → mb + 1 ≤ q from fun q e => (HOA.out.lt (by rw [HM.out]; exact e)).1)
        have HB9 := Lib.hid (show Below w.heap.size w w9 from HBA.out.grown hg9 HBA.out.size fun q e => by have := HOW.out q e; rw [HW0.out.2]; omega)
        have HS9 := Lib.hid (show SetE w9 mb (ls.take (j + 1)) ∧ mb < w9.heap.size from by
          obtain ⟨⟨L', q1, q2⟩, q3⟩ := HLA.out
          exact ⟨⟨L', q1.blk (hg9.block mb (by omega) fun e => by have := HOW.out mb e.symm; omega), q2⟩, Nat.lt_of_lt_of_le (by omega) hg9.size⟩)
        clear ho9 hg9 HRK HR1 HOA HBA HLA
        go_wp2_with fail
        go_roundw
        case rel => exact ⟨j + 1, m + 1, A9, c9, by omega, by go_num, rfl, by omega, Lib.hid (by rw [HSN2.out, List.length_append, HM.out]; rfl), Lib.hid (by rw [HSN2.out]; exact HO9.out), HS9, HB9⟩
        case measure => simp [intOf]; omega
    · obtain rfl : j = k := by omega
      have HE := Lib.hid (show ls.take j = ls from List.take_of_length_le (by rw [HPL.out]; exact Nat.le_refl _))
      go_wp2_with fail
      go_ret
      have hm := HM.out
      have ho := HO.out
      rw [HE.out] at hm ho
      exact ⟨Y, z, by rw [hm]; rfl, ho.base (by rw [HW0.out.2]; omega), keysE_ok HEA.out, HB.out⟩
end Go.Proofs.Ytgemjipbifgbgaa
/- What a byte is in memory. No statement of the seat is proved here. -/
namespace Go.Proofs.Ytgemjipbifgbgaa
open Go.RowKit
set_option linter.unusedVariables false

theorem info_u8 : (Try.prog.info? 5).map (fun i => (i.zero, i.size, i.bytes)) = some (some (.int .u8 0), 1, 1) := by kernel_rfl
end Go.Proofs.Ytgemjipbifgbgaa
/- What Put has laid on its way. No statement of the seat is proved here. -/
namespace Go.Proofs.Ytgemjipbifgbgaa
open Go.RowKit
set_option linter.unusedVariables false

/-- What Put has laid when its counter stands at i. -/
def laidTo (k m : Nat) (i : Int) : List UInt8 := (be k m).take (k - (i + 1).toNat)
theorem laidTo_start (k m : Nat) : laidTo k m ((k : Int) - 1) = [] := by
  unfold laidTo
  rw [show k - ((k : Int) - 1 + 1).toNat = 0 by omega]; rfl
theorem laidTo_end (k m : Nat) : laidTo k m (-1) = be k m := by
  unfold laidTo
  rw [show k - ((-1 : Int) + 1).toNat = k by omega]
  exact List.take_of_length_le (by rw [be_length]; exact Nat.le_refl _)
theorem be_get (k m j : Nat) (h : j < k) : (be k m)[j]? = some (UInt8.ofNat (m / 256 ^ (k - 1 - j))) := by
  induction k generalizing j with
  | zero => omega
  | succ k ih =>
    rw [be]
    cases j with
    | zero => simp
    | succ j =>
      rw [List.getElem?_cons_succ, ih j (by omega)]
      congr 4
      omega
theorem laidTo_step (k m i : Nat) (h : i < k) : laidTo k m ((i : Int) - 1) = laidTo k m (i : Int) ++ [UInt8.ofNat (m / 256 ^ i)] := by
  unfold laidTo
  rw [show k - ((i : Int) - 1 + 1).toNat = (k - (i + 1)) + 1 by omega, show k - ((i : Int) + 1).toNat = k - (i + 1) by omega, List.take_add_one, be_get k m _ (by omega)]
  simp [show k - 1 - (k - (i + 1)) = i by omega]
theorem laidTo_length (k m : Nat) (i : Int) (h : -1 ≤ i) (hk : i < k) : (laidTo k m i).length = k - (i + 1).toNat := by
  unfold laidTo
  rw [List.length_take, be_length]; omega
end Go.Proofs.Ytgemjipbifgbgaa
