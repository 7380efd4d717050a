/- Look-ups in maps of the call's own as facts of a run, and in regions that draw. No statement of the seat is proved here; what stands here calls nothing. -/
import Derived.Test.YtoofhaoaogoomaaGreatZLBB
import Derived.Test.YtoofhaoaogoomaaGreatZLAA
import Derived.Test.YtoofhaoaogoomaaGreatZLAH
import Derived.Deep.MidRow
import Derived.StillTailTactics
import Derived.Deep.Cut
namespace Go.Proofs.YtoofhaoaogoomaaGreat
open Go Go.Maps Go.RowKit
set_option linter.unusedVariables false

def tm {G : Type} (T : List (G × Nat)) : List (G × Option Nat) := T.map fun x => (x.1, some x.2)
theorem tm_length {G : Type} (T : List (G × Nat)) : (tm T).length = T.length := by simp [tm]
theorem tm_fst {G : Type} (T : List (G × Nat)) : (tm T).map (·.1) = T.map (·.1) := by
  unfold tm; rw [List.map_map]; rfl
theorem mem_tm {G : Type} {T : List (G × Nat)} {d : G} {o : Option Nat} : (d, o) ∈ tm T ↔ ∃ x, o = some x ∧ (d, x) ∈ T := by
  unfold tm
  rw [List.mem_map]
  constructor
  · rintro ⟨x, hx, e⟩
    have e1 := (Prod.mk.inj e).1
    have e2 := (Prod.mk.inj e).2
    exact ⟨x.2, e2.symm, by rw [← e1]; exact hx⟩
  · rintro ⟨x, rfl, hx⟩
    exact ⟨(d, x), hx, rfl⟩
theorem tm_del {G : Type} [DecidableEq G] (T : List (G × Nat)) (d : G) : delM (tm T) d = tm (T.filter fun x => decide (x.1 ≠ d)) := by
  unfold delM tm
  rw [List.filter_map]
  rfl
/-- A draw goes unseen. -/
theorem grown_undrew {w w' : World} {r : Option Nat} (h : w.drew.grownBy w' r) : w.grownBy w' r := ⟨h.os, h.tape, h.output, h.size, h.block⟩
/-- A look-up ahead of the last write of a region that draws. -/
theorem wpStill_look {P : Program} {ops : Array Oper} {w : World} {Q : Act → Prop} {a : Act} {o : Oper} {rest : List Oper} (hgd : o.guard = none) (t : TypeId) (m x : Operand) (c : Bool) (ho : o.op = .lookup t m x c)
    (mv xv v : Value) (hm : a.eval m = mv) (hx : a.eval x = xv) (hr : (Instr.lookup t mv xv c).run P w = .ok v w) (h : wpStill P ops w Q rest (a.put o.dst v)) : wpStill P ops w Q (o :: rest) a := by
  have hw : Region.wanted o (yielded ops a.tmps) = true := by simp [Region.wanted, hgd]
  refine wpStill_step fun K hK => ?_
  rw [if_pos hw]
  unfold Oper.still execOp
  simp only [ho, hm, hx, Sem.run_bind, hr, Result.andThen_ok]
  exact ⟨rfl, hK _ h⟩
section
variable {P : Program} {t k e : TypeId} {α β : Type} [DecidableEq α] {M : MK P t k e α β} {w : World} {b : Nat} {L : List (α × β)}
theorem MapL.look (h : MapL M w b L) (O : M.Ok) {q : α} (hq : M.okK q) : (Instr.lookup t (.map (some b)) (M.encK q) false).run P w = .ok (M.encV (getM M L q)) w := by
  obtain ⟨D, h1, h2⟩ := h
  obtain ⟨v', ps, hrun, hv'⟩ := h1.lookup O.keyed O.und (O.zeroV w) (O.val M.zero) (O.key hq)
  rw [(h2.look O hq).2] at hv'
  rw [hrun, O.valInj hv']
theorem MapL.look_ok (h : MapL M w b L) (O : M.Ok) {q : α} (hq : M.okK q) : (Instr.lookup t (.map (some b)) (M.encK q) true).run P w = .ok (.tuple #[M.encV (getM M L q), .bool (hasM L q)]) w := by
  obtain ⟨D, h1, h2⟩ := h
  obtain ⟨v', ps, hrun, hv'⟩ := h1.look_ok O.keyed O.und (O.zeroV w) (O.val M.zero) (O.key hq)
  rw [(h2.look O hq).2] at hv'
  rw [hrun, O.valInj hv', (h2.look O hq).1]
end
section
variable {w : World} {g : Nat}
/-- A row is no map. -/
theorem map_ne_blk {α β : Type} {t k e : TypeId} {M : MK Tryz.prog t k e α β} {b : Nat} {l : List (α × β)} {u : TypeId} {cs : Array Value} (h : MapL M w b l) (hk : Blk w g u cs) : b ≠ g := by
  rintro rfl
  obtain ⟨D, ⟨es, clock, h1, _⟩, _⟩ := h
  have h2 : w.heap[b]? = some (.cells cs u (0, 0)) := hk
  rw [h1] at h2
  cases h2
end
end Go.Proofs.YtoofhaoaogoomaaGreat
/- Groups of keys: a map of sets. No statement of the seat is proved here; what stands here calls nothing. -/
namespace Go.Proofs.YtoofhaoaogoomaaGreat
open Go Go.Maps Go.RowKit
set_option linter.unusedVariables false

theorem nodup_len {α : Type} [DecidableEq α] : ∀ {A B : List α}, A.Nodup → (∀ x ∈ A, x ∈ B) → A.length ≤ B.length
  | [], _, _, _ => Nat.zero_le _
  | a :: A, B, h, hs => by
    rw [List.nodup_cons] at h
    have ha := hs a (by simp)
    have := nodup_len (B := B.erase a) h.2 fun x hx => (List.mem_erase_of_ne (fun e => h.1 (by rw [← e]; exact hx))).2 (hs x (by simp [hx]))
    rw [List.length_erase_of_mem ha] at this
    have h0 := List.length_pos_of_mem ha
    rw [List.length_cons]
    omega
def us (K : List KeyT) : List (KeyT × Unit) := K.map fun k => (k, ())
theorem mem_us {K : List KeyT} {x : KeyT × Unit} : x ∈ us K ↔ x.1 ∈ K := by
  unfold us
  rw [List.mem_map]
  constructor
  · rintro ⟨k, hk, rfl⟩; exact hk
  · intro h; exact ⟨x.1, h, rfl⟩
theorem us_fst (K : List KeyT) : (us K).map (·.1) = K := by
  unfold us; rw [List.map_map]; exact List.map_id' K
theorem us_length (K : List KeyT) : (us K).length = K.length := by simp [us]
theorem us_back (L : List (KeyT × Unit)) : us (L.map (·.1)) = L := by
  unfold us; rw [List.map_map]; exact List.map_id' L
/-- Block b is a map of groups: R says which keys lie in which; its blocks are F. -/
structure GrpT {G : Type} {t k : TypeId} (M : MK Tryz.prog t k 128 G (Option Nat)) (w : World) (b : Nat) (F : Nat → Prop) (R : G → KeyT → Prop) (T : List (G × Nat)) : Prop where
  map : MapL M w b (tm T)
  apart : (T.map (·.2)).Nodup
  far : b ∉ T.map (·.2)
  each : ∀ x ∈ T, ∃ K, MapL mkS w x.2 (us K) ∧ K ≠ [] ∧ ∀ k, k ∈ K ↔ R x.1 k
  all : ∀ d k, R d k → ∃ x, (d, x) ∈ T
  foot : ∀ g, F g ↔ g = b ∨ g ∈ T.map (·.2)
def Grp {G : Type} {t k : TypeId} (M : MK Tryz.prog t k 128 G (Option Nat)) (w : World) (b : Nat) (F : Nat → Prop) (R : G → KeyT → Prop) : Prop := ∃ T, GrpT M w b F R T
/-- There is room for one more. -/
def Room {G : Type} (R : G → KeyT → Prop) : Prop := ∃ B : List (G × KeyT), B.length ≤ 10000 ∧ ∀ d k, R d k → (d, k) ∈ B
section
variable {G : Type} {t k0 : TypeId} {M : MK Tryz.prog t k0 128 G (Option Nat)} {w w' : World} {b x : Nat} {F : Nat → Prop} {R : G → KeyT → Prop} {T : List (G × Nat)} {d : G} {k : KeyT} {K : List KeyT}
theorem GrpT.once (h : GrpT M w b F R T) : (T.map (·.1)).Nodup := by
  have := h.map.once
  rwa [tm_fst] at this
theorem roomK (hR : Room R) (hn : K.Nodup) (hK : ∀ k, k ∈ K ↔ R d k) : K.length ≤ 10000 := by
  obtain ⟨B, h1, h2⟩ := hR
  have := nodup_len (B := B.map (·.2)) hn fun y hy => List.mem_map.2 ⟨(d, y), h2 _ _ ((hK y).1 hy), rfl⟩
  rw [List.length_map] at this
  omega
theorem us_once (h : MapL mkS w x (us K)) : K.Nodup := by
  have := h.once
  rwa [us_fst] at this
theorem GrpT.lt (h : GrpT M w b F R T) : ∀ g, F g → g < w.heap.size := fun g hg => by
  rcases (h.foot g).1 hg with rfl | hg
  · exact h.map.lt
  · obtain ⟨x, hx, rfl⟩ := List.mem_map.1 hg
    obtain ⟨K, k1, _⟩ := h.each x hx
    exact k1.lt
theorem GrpT.keep (h : GrpT M w b F R T) (hk : ∀ g, F g → w'.heap[g]? = w.heap[g]?) : GrpT M w' b F R T :=
  ⟨h.map.blk (hk b ((h.foot b).2 (.inl rfl))), h.apart, h.far, fun x hx => by
    obtain ⟨K, k1, k2⟩ := h.each x hx
    exact ⟨K, k1.blk (hk x.2 ((h.foot _).2 (.inr (List.mem_map.2 ⟨x, hx, rfl⟩)))), k2⟩, h.all, h.foot⟩
theorem GrpT.blocks (h : GrpT M w b F R T) (hx : (d, x) ∈ T) : x ≠ b ∧ x < w.heap.size ∧ F x ∧ ∀ y ∈ T, y ≠ (d, x) → y.2 ≠ x := by
  have hm : x ∈ T.map (·.2) := List.mem_map.2 ⟨_, hx, rfl⟩
  have hF := (h.foot x).2 (.inr hm)
  refine ⟨fun e => h.far (e ▸ hm), h.lt x hF, hF, fun y hy hne e => hne ?_⟩
  have hp := h.apart
  clear h hm hF
  induction T with
  | nil => cases hx
  | cons z T ih =>
    rw [List.map_cons, List.nodup_cons] at hp
    rcases List.mem_cons.1 hx with e1 | h1 <;> rcases List.mem_cons.1 hy with e2 | h2
    · rw [e1, e2]
    · exact absurd (List.mem_map.2 ⟨y, h2, by rw [e, ← e1]⟩) hp.1
    · exact absurd (List.mem_map.2 ⟨_, h1, by rw [← e2, e]⟩) hp.1
    · exact ih h1 h2 hp.2
/-- A key is put into a group that there is. -/
theorem GrpT.add_in (h : GrpT M w b F R T) (hx : (d, x) ∈ T) (hK : ∀ k, k ∈ K ↔ R d k) (hk : ∀ g, g < w.heap.size → g ≠ x → w'.heap[g]? = w.heap[g]?) (hp : MapL mkS w' x (putM (us K) k ())) : GrpT M w' b F (fun d' k' => R d' k' ∨ (d' = d ∧ k' = k)) T := by
  obtain ⟨b1, b2, b3, b4⟩ := h.blocks hx
  refine ⟨h.map.blk (hk b h.map.lt fun e => b1 e.symm), h.apart, h.far, fun y hy => ?_, ?_, h.foot⟩
  · by_cases e : y = (d, x)
    · subst e
      refine ⟨(putM (us K) k ()).map (·.1), by rw [us_back]; exact hp, by simp [putM], fun q => ?_⟩
      rw [List.mem_map]
      constructor
      · rintro ⟨z, hz, rfl⟩
        rcases mem_putM.1 hz with rfl | ⟨hz, _⟩
        · exact .inr ⟨rfl, rfl⟩
        · exact .inl ((hK _).1 (mem_us.1 hz))
      · rintro (hq | ⟨_, rfl⟩)
        · by_cases e : q = k
          · exact ⟨(k, ()), mem_putM.2 (.inl rfl), e.symm⟩
          · exact ⟨(q, ()), mem_putM.2 (.inr ⟨mem_us.2 ((hK q).2 hq), e⟩), rfl⟩
        · exact ⟨(q, ()), mem_putM.2 (.inl rfl), rfl⟩
    · obtain ⟨K', k1, k2, k3⟩ := h.each y hy
      refine ⟨K', k1.blk (hk y.2 k1.lt (b4 y hy e)), k2, fun q => ?_⟩
      rw [k3 q]
      constructor
      · exact .inl
      · rintro (hq | ⟨e1, _⟩)
        · exact hq
        · refine absurd ?_ e
          have := once_eq h.once (a := d) (c := y.2) (d := x) (by rw [← e1]; exact hy) hx
          rw [← e1, ← this]
  · rintro d' k' (hq | ⟨rfl, _⟩)
    · exact h.all _ _ hq
    · exact ⟨x, hx⟩
/-- A key is taken out, others stay. -/
theorem GrpT.drop_in (h : GrpT M w b F R T) (hx : (d, x) ∈ T) (hK : ∀ k, k ∈ K ↔ R d k) (hk : ∀ g, g < w.heap.size → g ≠ x → w'.heap[g]? = w.heap[g]?) (hp : MapL mkS w' x (delM (us K) k)) (h0 : (delM (us K) k).length ≠ 0) : GrpT M w' b F (fun d' k' => R d' k' ∧ (d' = d → ¬ k' = k)) T := by
  obtain ⟨b1, b2, b3, b4⟩ := h.blocks hx
  refine ⟨h.map.blk (hk b h.map.lt fun e => b1 e.symm), h.apart, h.far, fun y hy => ?_, fun d' k' hq => h.all _ _ hq.1, h.foot⟩
  by_cases e : y = (d, x)
  · subst e
    refine ⟨(delM (us K) k).map (·.1), by rw [us_back]; exact hp, fun e => h0 (by rw [← List.length_map (·.1), e]; rfl), fun q => ?_⟩
    rw [List.mem_map]
    constructor
    · rintro ⟨z, hz, rfl⟩
      obtain ⟨z1, z2⟩ := mem_delM.1 hz
      exact ⟨(hK _).1 (mem_us.1 z1), fun _ e => z2 e⟩
    · rintro ⟨hq, hne⟩
      exact ⟨(q, ()), mem_delM.2 ⟨mem_us.2 ((hK q).2 hq), fun e => hne rfl e⟩, rfl⟩
  · obtain ⟨K', k1, k2, k3⟩ := h.each y hy
    refine ⟨K', k1.blk (hk y.2 k1.lt (b4 y hy e)), k2, fun q => ?_⟩
    rw [k3 q]
    constructor
    · refine fun hq => ⟨hq, fun e1 _ => absurd ?_ e⟩
      have := once_eq h.once (a := d) (c := y.2) (d := x) (by rw [← e1]; exact hy) hx
      rw [← e1, ← this]
    · exact fun hq => hq.1
end
section
variable {G : Type} [DecidableEq G] {t k0 : TypeId} {M : MK Tryz.prog t k0 128 G (Option Nat)} {w w' : World} {b x : Nat} {F : Nat → Prop} {R : G → KeyT → Prop} {T : List (G × Nat)} {d : G} {k : KeyT} {K : List KeyT}
theorem GrpT.roomT (h : GrpT M w b F R T) (hR : Room R) : T.length ≤ 10000 := by
  obtain ⟨B, h1, h2⟩ := hR
  have := nodup_len (B := B.map (·.1)) h.once fun g hg => by
    obtain ⟨x, hx, rfl⟩ := List.mem_map.1 hg
    obtain ⟨K, _, k2, k3⟩ := h.each x hx
    obtain ⟨y, hy⟩ := List.exists_mem_of_ne_nil K k2
    exact List.mem_map.2 ⟨(x.1, y), h2 _ _ ((k3 y).1 hy), rfl⟩
  rw [List.length_map, List.length_map] at this
  omega
theorem GrpT.get (h : GrpT M w b F R T) (hx : (d, x) ∈ T) : getM M (tm T) d = some x := getM_of h.map.once (mem_tm.2 ⟨x, rfl, hx⟩)
theorem GrpT.none_ (h : GrpT M w b F R T) (hO : M.zero = none) (hn : ∀ x, (d, x) ∉ T) : getM M (tm T) d = none := by
  rw [getM_no, hO]
  rw [hasM_false]
  intro c hc
  obtain ⟨x, _, hx⟩ := mem_tm.1 hc
  exact hn x hx
/-- .. into a new one. -/
theorem GrpT.add_new (h : GrpT M w b F R T) (hn : ∀ x, (d, x) ∉ T) (hx : w.heap.size ≤ x) (hk : ∀ g, g < w.heap.size → g ≠ b → w'.heap[g]? = w.heap[g]?) (hm : MapL M w' b (putM (tm T) d (some x))) (hp : MapL mkS w' x (putM (us []) k ())) :
    GrpT M w' b (fun g => F g ∨ g = x) (fun d' k' => R d' k' ∨ (d' = d ∧ k' = k)) ((d, x) :: T) := by
  have hbx : ∀ y ∈ T, y.2 < w.heap.size := fun y hy => h.lt _ ((h.foot _).2 (.inr (List.mem_map.2 ⟨y, hy, rfl⟩)))
  have hbl := h.map.lt
  have e : putM (tm T) d (some x) = tm ((d, x) :: T) := by
    have : delM (tm T) d = tm T := by
      unfold delM
      rw [List.filter_eq_self]
      intro y hy
      simp only [ne_eq, decide_eq_true_eq]
      rintro rfl
      obtain ⟨z, _, hz⟩ := mem_tm.1 (show (y.1, y.2) ∈ tm T from hy)
      exact hn z hz
    unfold putM
    rw [this]
    rfl
  rw [e] at hm
  refine ⟨hm, ?_, ?_, fun y hy => ?_, ?_, fun g => ?_⟩
  · rw [List.map_cons, List.nodup_cons]
    refine ⟨fun hm => ?_, h.apart⟩
    obtain ⟨y, hy, e⟩ := List.mem_map.1 hm
    have := hbx y hy
    omega
  · rw [List.map_cons, List.mem_cons, not_or]
    exact ⟨fun e => by omega, h.far⟩
  · rcases List.mem_cons.1 hy with rfl | hy
    · refine ⟨[k], hp, by simp, fun q => ?_⟩
      rw [List.mem_singleton]
      constructor
      · rintro rfl; exact .inr ⟨rfl, rfl⟩
      · rintro (hq | ⟨_, rfl⟩)
        · obtain ⟨y, hy⟩ := h.all _ _ hq
          exact absurd hy (hn y)
        · rfl
    · obtain ⟨K', k1, k2, k3⟩ := h.each y hy
      refine ⟨K', k1.blk (hk y.2 k1.lt fun e => h.far (e ▸ List.mem_map.2 ⟨y, hy, rfl⟩)), k2, fun q => ?_⟩
      rw [k3 q]
      constructor
      · exact .inl
      · rintro (hq | ⟨e1, _⟩)
        · exact hq
        · exact absurd (show (d, y.2) ∈ T by rw [← e1]; exact hy) (hn y.2)
  · rintro d' k' (hq | ⟨rfl, _⟩)
    · obtain ⟨y, hy⟩ := h.all _ _ hq
      exact ⟨y, List.mem_cons_of_mem _ hy⟩
    · exact ⟨x, List.mem_cons_self⟩
  · rw [h.foot g, List.map_cons, List.mem_cons]
    constructor
    · rintro ((h | h) | h)
      · exact .inl h
      · exact .inr (.inr h)
      · exact .inr (.inl h)
    · rintro (h | h | h)
      · exact .inl (.inl h)
      · exact .inr h
      · exact .inl (.inr h)
/-- .. the last of its group. -/
theorem GrpT.drop_last (h : GrpT M w b F R T) (hx : (d, x) ∈ T) (hK : ∀ k, k ∈ K ↔ R d k) (hk : ∀ g, g < w.heap.size → g ≠ x → g ≠ b → w'.heap[g]? = w.heap[g]?) (hm : MapL M w' b (delM (tm T) d)) (h0 : (delM (us K) k).length = 0) :
    GrpT M w' b (fun g => F g ∧ g ≠ x) (fun d' k' => R d' k' ∧ (d' = d → ¬ k' = k)) (T.filter fun x => decide (x.1 ≠ d)) := by
  obtain ⟨b1, b2, b3, b4⟩ := h.blocks hx
  rw [tm_del] at hm
  have hmem : ∀ y, y ∈ (T.filter fun x => decide (x.1 ≠ d)) ↔ y ∈ T ∧ y.1 ≠ d := fun y => by rw [List.mem_filter]; simp
  have honly : ∀ q, R d q → q = k := fun q hq => by
    by_cases e : q = k
    · exact e
    · have hd0 := List.eq_nil_of_length_eq_zero h0
      have : (q, ()) ∈ delM (us K) k := mem_delM.2 ⟨mem_us.2 ((hK q).2 hq), e⟩
      rw [hd0] at this
      cases this
  refine ⟨hm, h.apart.sublist (List.Sublist.map _ List.filter_sublist), fun hf => ?_, fun y hy => ?_, fun d' k' hq => ?_, fun g => ?_⟩
  · obtain ⟨y, hy, e⟩ := List.mem_map.1 hf
    exact h.far (e ▸ List.mem_map.2 ⟨y, ((hmem y).1 hy).1, rfl⟩)
  · obtain ⟨y1, y2⟩ := (hmem y).1 hy
    obtain ⟨K', k1, k2, k3⟩ := h.each y y1
    refine ⟨K', k1.blk (hk y.2 k1.lt (b4 y y1 fun e => y2 (by rw [e])) fun e => h.far (e ▸ List.mem_map.2 ⟨y, y1, rfl⟩)), k2, fun q => ?_⟩
    rw [k3 q]
    exact ⟨fun hq => ⟨hq, fun e1 _ => y2 e1⟩, fun hq => hq.1⟩
  · obtain ⟨y, hy⟩ := h.all _ _ hq.1
    refine ⟨y, (hmem _).2 ⟨hy, fun e => hq.2 e ?_⟩⟩
    have e2 : d' = d := e
    rw [e2] at hq
    exact honly _ hq.1
  · rw [h.foot g]
    constructor
    · rintro ⟨h1 | h1, h2⟩
      · exact .inl h1
      · obtain ⟨y, hy, rfl⟩ := List.mem_map.1 h1
        refine .inr (List.mem_map.2 ⟨y, (hmem y).2 ⟨hy, fun e => h2 ?_⟩, rfl⟩)
        exact once_eq h.once (a := d) (c := y.2) (d := x) (by rw [← e]; exact hy) hx
    · rintro (rfl | h1)
      · exact ⟨.inl rfl, fun e => b1 e.symm⟩
      · obtain ⟨y, hy, rfl⟩ := List.mem_map.1 h1
        obtain ⟨y1, y2⟩ := (hmem y).1 hy
        exact ⟨.inr (List.mem_map.2 ⟨y, y1, rfl⟩), b4 y y1 fun e => y2 (by rw [e])⟩
end
end Go.Proofs.YtoofhaoaogoomaaGreat
/- A key is put into the group of a fingerprint. No statement of the seat is proved here. -/
namespace Go.Proofs.YtoofhaoaogoomaaGreat
open Go Go.Maps Go.RowKit
set_option linter.unusedVariables false
set_option maxRecDepth 100000

theorem sum_desc' : ∃ n e, Tryz.prog.underlying 26 = some (.array n e) := ⟨_, _, Tryz.underlying26⟩
theorem sum_size' : (Tryz.prog.info? 26).map (·.size) = some 32 := by kernel_rfl
theorem key_desc' : ∃ fs, Tryz.prog.underlying 29 = some (.struct fs) := ⟨_, Tryz.underlying29⟩
theorem set_some (x : Nat) (W : World) : (binOp .eql 128 (.map (some x)) (.map none)).run Tryz.prog W = .ok (.bool false) W := by kernel_rfl
theorem set_none (W : World) : (binOp .eql 128 (.map none) (.map none)).run Tryz.prog W = .ok (.bool true) W := by kernel_rfl
set_option maxRecDepth 100000 in
set_option maxHeartbeats 4000000 in
theorem addS_any (w : World) (b : Nat) (F : Nat → Prop) (R : List UInt8 → KeyT → Prop) (d : List UInt8) (hd : d.length = 32) (k : KeyT) (hk : k.Ok) (h : Grp mkT w b F R) (hR : Room R) :
    Calls Tryz.prog 57 #[.map (some b), .agg (bv d).toArray, kv k] w fun e w' => e = .returned (.tuple #[]) ∧ ∃ F', Grp mkT w' b F' (fun d' k' => R d' k' ∨ (d' = d ∧ k' = k)) ∧ (∀ g, F' g → F g ∨ w.heap.size ≤ g) ∧ Only F w w' := by
  obtain ⟨T, hT⟩ := h
  obtain ⟨S, hS⟩ : ∃ S, bv d = S := ⟨_, rfl⟩
  obtain ⟨X, hX⟩ : ∃ X, kcs k = X := ⟨_, rfl⟩
  have hSl : S.length = 32 := by rw [← hS, bv_length]; exact hd
  have hXl : X.length = 33 := by rw [← hX]; exact kcs_length hk
  obtain ⟨w1, hw1⟩ : ∃ w1, w.alloc (.cells S.toArray 26) = w1 := ⟨_, rfl⟩
  obtain ⟨w2, hw2⟩ : ∃ w2, w1.alloc (.cells X.toArray 29) = w2 := ⟨_, rfl⟩
  obtain ⟨sb, hsb⟩ : ∃ sb, w.heap.size = sb := ⟨_, rfl⟩
  have hs1 : w1.heap.size = sb + 1 := by rw [← hw1, ← hsb]; simp
  have hb1 : Below w.heap.size w w1 := hw1 ▸ (Below.refl _ _).alloc (Nat.le_refl _) _
  have hb2 : Below w1.heap.size w1 w2 := hw2 ▸ (Below.refl _ _).alloc (Nat.le_refl _) _
  have hk1 : Blk w2 sb 26 S.toArray := by rw [← hsb]; exact (hw1 ▸ Blk.new w _ _ : Blk w1 w.heap.size _ _).below hb2 (by rw [hs1, hsb]; omega)
  have hk2 : Blk w2 (sb + 1) 29 X.toArray := by rw [← hs1, ← hw2]; exact Blk.new w1 _ _
  have hbw : Below w.heap.size w w2 := hb1.trans (hb2.mono hb1.size)
  have hT2 := hT.keep fun g hg => hbw.block g (hT.lt g hg)
  have hl1 := hT.roomT hR
  have hs2 : w2.heap.size = sb + 2 := by rw [← hw2]; simp [hs1]
  have HSS := Lib.hid (show (Tryz.prog.info? 26).map (·.size) = some S.length from by rw [hSl]; exact sum_size')
  have HXS := Lib.hid (show (Tryz.prog.info? 29).map (·.size) = some X.length from by rw [hXl]; exact key_size)
  obtain ⟨ns, es, hfs⟩ := sum_desc'
  obtain ⟨fk, hfk⟩ := key_desc'
  have HF := Lib.hid (And.intro hfs hfk)
  have HW := Lib.hid (And.intro hw1 (And.intro hw2 (And.intro hsb hs1)))
  have HB := Lib.hid hbw
  have HK1 := Lib.hid hk1
  have HK2 := Lib.hid hk2
  have HR := Lib.hid hR
  have HL := Lib.hid hl1
  have HSX := Lib.hid (And.intro hS hX)
  have HZ := Lib.hid hs2
  unfold kv
  rw [hS, hX]
  by_cases hin : ∃ x, (d, x) ∈ T
  · obtain ⟨x, hx⟩ := hin
    obtain ⟨K, q1, q2, q3⟩ := hT2.each _ hx
    have HT := Lib.hid hT2
    have HM := Lib.hid hT2.map
    have HG := Lib.hid (show mkT.encV (getM mkT (tm T) d) = .map (some x) by rw [hT.get hx]; rfl)
    have HQ := Lib.hid (And.intro q1 (And.intro q2 q3))
    have HX := Lib.hid hx
    have HLK := Lib.hid (show (Instr.lookup 103 (.map (some b)) (.agg S.toArray) false).run Tryz.prog w2.drew = .ok (.map (some x)) w2.drew from by
      have := (show MapL mkT w2.drew b (tm T) from hT2.map.blk rfl).look okT (q := d) hd
      rw [hT.get hx] at this
      rw [← hS]; exact this)
    have hcmp := set_some x
    have HSQ := Lib.hid (show S = bv d from hS.symm)
    have HXQ := Lib.hid (show X = kcs k from hX.symm)
    clear hT hT2 hS hX hSl hXl hw1 hw2 hsb hs1 hb1 hb2 hk1 hk2 hbw hl1 hR q1 q2 q3 hx hfs hfk hs2
    go_enter Tryz.func57, Tryz.ntmps57
    go_upto_region 1 with fail
    rw [HW.out.1, HW.out.2.1, HW.out.2.2.1]
    go_wp2_with (first
      | (refine wpList_load_mid rfl 26 (.tmp 4) rfl sb 0 rfl S (.array ns es) (range_of_blk HK1.out) HF.out.1 rfl HSS.out ?_)
      | (refine wpList_look_g _ rfl (.tmp 6) (.tmp 7) rfl okT rfl HM.out d hd (show _ = Value.agg (bv d).toArray by rw [← HSQ.out]; rfl) (.map (some x)) HG.out ?_))
    refine wp_region_still_tail 5 (by kernel_rfl) (by kernel_rfl) ?_
    simp only [List.take_succ_cons, List.take_zero, List.drop_succ_cons, List.drop_zero]
    still_step
    refine wpStill_load_mid rfl 26 (.tmp 4) rfl sb 0 rfl S (.array ns es) (range_of_blk (show Blk w2.drew sb 26 S.toArray from HK1.out)) HF.out.1 rfl HSS.out ?_
    refine wpStill_look rfl 103 (.tmp 13) (.tmp 14) false rfl _ _ _ rfl rfl HLK.out ?_
    refine wpStill_load_mid rfl 29 (.tmp 5) rfl (sb + 1) 0 rfl X (.struct fk) (range_of_blk (show Blk w2.drew (sb + 1) 29 X.toArray from HK2.out)) HF.out.2 rfl HXS.out ?_
    still_step
    refine wpStill_nil ?_
    change wpList _ _ _ _ _ w2.drew
    obtain ⟨q1, q2, q3⟩ := HQ.out
    have HLK2 := Lib.hid (roomK HR.out (us_once q1) q3)
    refine wpList_put_g w2.drew rfl (.tmp 15) (.tmp 16) (.tmp 17) rfl okS rfl (show MapL mkS w2.drew x (us K) from q1.blk rfl) (by have := HLK2.out; rw [us_length]; unfold maxLen; omega) k hk (show _ = Value.agg (kcs k).toArray by rw [← HXQ.out]; rfl) () rfl ?_
    intro w3 m1 m2 m3
    have HM1 := Lib.hid m1
    have HM2 := Lib.hid m2
    clear m1 m2 m3 q1 q2 q3
    go_wp2_with fail
    (try simp only [Exit.inBlock, Exit.then])
    refine bodyPost_end (results_none rfl _ _ _) rfl ?_
    obtain ⟨b1, b2, b3, b4⟩ := HT.out.blocks HX.out
    have hk3 : ∀ g, g < w2.heap.size → g ≠ x → w3.heap[g]? = w2.heap[g]? := fun g hg hne => HM2.out.block g hg fun e => hne (by injection e)
    have hg := HT.out.add_in HX.out HQ.out.2.2 hk3 HM1.out
    exact ⟨rfl, F, ⟨T, hg⟩, fun g hg => .inl hg, (Only.of_below (F := F) HB.out).trans (only_grown (F := F) (grown_undrew HM2.out) b3) fun g hg => .inl hg⟩
  · have hno : ∀ x, (d, x) ∉ T := fun x hx => hin ⟨x, hx⟩
    have HNO := Lib.hid hno
    have HT := Lib.hid hT2
    have HM := Lib.hid hT2.map
    have HG := Lib.hid (show mkT.encV (getM mkT (tm T) d) = .map none by rw [hT.none_ rfl hno]; rfl)
    have hcmp := set_none
    have hmm := @run_makeMap Tryz.prog
    have HM3 := Lib.hid (show MapL mkT (w2.alloc (.map #[] 0)) b (tm T) from hT2.map.blk ((World.grownBy_alloc w2 (.map #[] 0) none).block b hT2.map.lt (by simp)))
    have hs3 : (w2.alloc (.map #[] 0)).heap.size = sb + 3 := by simp [hs2]
    have HBL := Lib.hid (show b < sb by rw [← hsb]; exact hT.map.lt)
    have HSQ := Lib.hid (show S = bv d from hS.symm)
    have HXQ := Lib.hid (show X = kcs k from hX.symm)
    clear hT hT2 hS hX hSl hXl hw1 hw2 hsb hs1 hb1 hb2 hk1 hk2 hbw hl1 hR hfs hfk hs2 hin hno
    go_enter Tryz.func57, Tryz.ntmps57
    go_upto_region 1 with fail
    rw [HW.out.1, HW.out.2.1, HW.out.2.2.1]
    go_wp2_with (first
      | (refine wpList_load_mid rfl 26 (.tmp 4) rfl sb 0 rfl S (.array ns es) (range_of_blk HK1.out) HF.out.1 rfl HSS.out ?_)
      | (refine wpList_look_g _ rfl (.tmp 6) (.tmp 7) rfl okT rfl HM.out d hd (show _ = Value.agg (bv d).toArray by rw [← HSQ.out]; rfl) (.map none) HG.out ?_)
      | (refine wpList_put_g (M := mkT) _ rfl (.tmp 10) (.tmp 11) (.tmp 12) rfl okT rfl (HM3.out) (by have := HL.out; rw [tm_length]; unfold maxLen; omega) d hd (show _ = Value.agg (bv d).toArray by rw [← HSQ.out]; rfl) (some w2.heap.size) rfl ?_; intro w3 m1 m2 m3))
    have hp3 : ∀ g, g < sb + 2 → g ≠ b → w3.heap[g]? = w2.heap[g]? := fun g hg hne => (m2.block g (by rw [hs3]; omega) fun e => hne (by injection e)).trans ((World.grownBy_alloc w2 (.map #[] 0) none).block g (by rw [HZ.out]; exact hg) (by simp))
    have hbl : b < sb := by
      have := (HT.out.map).lt
      exact HBL.out
    have hk3 := HK1.out.same (hp3 sb (by omega) (by omega))
    have hk4 := HK2.out.same (hp3 (sb + 1) (by omega) (by omega))
    have hnew : MapL mkS w3 (sb + 2) (us []) := by
      have h1 := MapL.made mkS w2
      rw [HZ.out] at h1
      exact h1.blk (m2.block (sb + 2) (by rw [hs3]; omega) fun e => by injection e with e; omega)
    rw [HZ.out] at m1 ⊢
    have HM1 := Lib.hid m1
    have HM2 := Lib.hid m2
    have HK3 := Lib.hid hk3
    have HK4 := Lib.hid hk4
    have HNEW := Lib.hid hnew
    have HP3 := Lib.hid hp3
    have HLK := Lib.hid (show (Instr.lookup 103 (.map (some b)) (.agg S.toArray) false).run Tryz.prog w3.drew = .ok (.map (some (sb + 2))) w3.drew from by
      have := (show MapL mkT w3.drew b (putM (tm T) d (some (sb + 2))) from m1.blk rfl).look okT (q := d) hd
      rw [getM_of m1.once (mem_putM.2 (.inl rfl))] at this
      rw [HSQ.out]; exact this)
    clear m1 m2 m3 hk3 hk4 hnew hp3
    refine wp_region_still_tail 5 (by kernel_rfl) (by kernel_rfl) ?_
    simp only [List.take_succ_cons, List.take_zero, List.drop_succ_cons, List.drop_zero]
    still_step
    refine wpStill_load_mid rfl 26 (.tmp 4) rfl sb 0 rfl S (.array ns es) (range_of_blk (show Blk w3.drew sb 26 S.toArray from HK3.out)) HF.out.1 rfl HSS.out ?_
    refine wpStill_look rfl 103 (.tmp 13) (.tmp 14) false rfl _ _ _ rfl rfl HLK.out ?_
    refine wpStill_load_mid rfl 29 (.tmp 5) rfl (sb + 1) 0 rfl X (.struct fk) (range_of_blk (show Blk w3.drew (sb + 1) 29 X.toArray from HK4.out)) HF.out.2 rfl HXS.out ?_
    still_step
    refine wpStill_nil ?_
    change wpList _ _ _ _ _ w3.drew
    refine wpList_put_g w3.drew rfl (.tmp 15) (.tmp 16) (.tmp 17) rfl okS rfl (show MapL mkS w3.drew (sb + 2) (us []) from HNEW.out.blk rfl) (by rw [us_length]; unfold maxLen; decide) k hk (show _ = Value.agg (kcs k).toArray by rw [← HXQ.out]; rfl) () rfl ?_
    intro w4 m1 m2 m3
    have HM4 := Lib.hid m1
    have HM5 := Lib.hid m2
    clear m1 m2 m3
    go_wp2_with fail
    (try simp only [Exit.inBlock, Exit.then])
    refine bodyPost_end (results_none rfl _ _ _) rfl ?_
    have hb4 : ∀ g, g < w3.heap.size → g ≠ sb + 2 → w4.heap[g]? = w3.heap[g]? := fun g hg hne => HM5.out.block g hg fun e => hne (by injection e)
    have hz3 : sb + 3 ≤ w3.heap.size := by
      have := HM2.out.size
      rw [hs3] at this
      exact this
    have hg := HT.out.add_new HNO.out (x := sb + 2) (k := k) (by rw [HZ.out]; exact Nat.le_refl _)
      (fun g hg hne => (hb4 g (by rw [HZ.out] at hg; omega) (by rw [HZ.out] at hg; omega)).trans (HP3.out g (by rw [HZ.out] at hg; exact hg) hne)) (HM1.out.blk (hb4 b (by omega) (by omega))) HM4.out
    refine ⟨rfl, _, ⟨_, hg⟩, fun g hg => ?_, ?_⟩
    · rcases hg with h1 | rfl
      · exact .inl h1
      · rw [HW.out.2.2.1]; exact .inr (by omega)
    · have hFb : F b := (HT.out.foot b).2 (.inl rfl)
      have o1 : Only F w w2 := Only.of_below HB.out
      have o2 : Only F w2 (w2.alloc (.map #[] 0)) := Only.of_below ((Below.refl _ _).alloc (Nat.le_refl _) _)
      have o3 : Only F (w2.alloc (.map #[] 0)) w3 := only_grown HM2.out hFb
      have o4 : Only (fun g => g = sb + 2) w3 w4 := only_grown (grown_undrew HM5.out) rfl
      refine ((o1.trans o2 fun g hg => .inl hg).trans o3 fun g hg => .inl hg).trans o4 ?_
      rintro g rfl
      rw [HW.out.2.2.1]; exact .inr (by omega)
end Go.Proofs.YtoofhaoaogoomaaGreat
