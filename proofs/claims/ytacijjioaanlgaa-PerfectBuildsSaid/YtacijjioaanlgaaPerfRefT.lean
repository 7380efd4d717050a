/- What stands while the reference's groups are gone through (package perfect). No statement of the seat is proved here. -/
import Derived.Test.YtacijjioaanlgaaPerfRefS
namespace Go.Proofs.Ytacijjioaanlgaa
open Go.RowKit Go.Maps Go.Sort
set_option linter.unusedVariables false

theorem own_not_t {w : World} {B ab : Nat} {t : TypeId} {A : Option Addr} {c : Nat} {ks : List KeyT} {cs : Array Value} (ht : (27 : TypeId) ≠ t) (ho : OwnK w B A c ks) (hr : Blk w ab t cs) : ∀ g, (Value.slice A ks.length c).ownBlock = some g → g ≠ ab := fun g hv e => by
  rcases ho.2 with ⟨hv2, _⟩ | ⟨g2, cp, cur, hv2, _, hh, _⟩
  · rw [hv2] at hv; cases hv
  · rw [hv2] at hv
    injection hv with hv
    have hv : g2 = g := hv
    subst hv
    subst e
    have hk : Blk w g2 27 cur := hh
    exact Blk.other hk hr ht rfl
theorem owni_not_t {w : World} {B ab : Nat} {t : TypeId} {A : Option Addr} {c : Nat} {ks : List Nat} {cs : Array Value} (ht : (3 : TypeId) ≠ t) (ho : OwnI w B A c ks) (hr : Blk w ab t cs) : ∀ g, (Value.slice A ks.length c).ownBlock = some g → g ≠ ab := fun g hv e => by
  rcases ho.2 with ⟨hv2, _⟩ | ⟨g2, cp, cur, hv2, _, hh, _⟩
  · rw [hv2] at hv; cases hv
  · rw [hv2] at hv
    injection hv with hv
    have hv : g2 = g := hv
    subst hv
    subst e
    have hk : Blk w g2 3 cur := hh
    exact Blk.other hk hr ht rfl
/-- What an append to one group leaves alone. -/
theorem RG.leaves {w w3 : World} {B ab G : Nat} {gf : KeyT → Nat} {l : List KeyT} {ad : Nat → Option Addr} {cp : Nat → Nat} (h : RG w B ab G gf l ad cp) {p : Nat} (hp : p < G) (hg : w.grownBy w3 (Value.slice (ad p) (cntK gf l p) (cp p)).ownBlock) :
    (w3.cell? ⟨ab, p, none⟩ = some (.slice (ad p) (cntK gf l p) (cp p)) ∧ w3.frozen? ⟨ab, p, none⟩ = false) ∧ (∀ b t cs, (27 : TypeId) ≠ t → Blk w b t cs → Blk w3 b t cs) ∧ (∀ b o cs, b < B → b < w.heap.size → w.rangeAt b o cs → w3.rangeAt b o cs) := by
  have hk : ∀ b t cs, (27 : TypeId) ≠ t → Blk w b t cs → Blk w3 b t cs := fun b t cs ht hb =>
    Blk.same hb (hg.block b hb.lt fun e => own_not_t ht (h.own p hp) hb b e.symm rfl)
  have hr := hk _ _ _ key_not_slice h.row
  refine ⟨⟨by rw [hr.cell, rgc_get _ _ _ hp], Blk.frozen hr _⟩, hk, fun b o cs h1 h2 hr j u hu => ?_⟩
  have hne : some b ≠ (Value.slice (ad p) (cntK gf l p) (cp p)).ownBlock := fun e => by
    have := (World.ownsRow.lt (h.own p hp) b e.symm).1
    omega
  rw [World.cell?_of_block (hg.block b h2 hne)]
  exact hr j u hu
/-- The map's cells on the way: there are no places yet. -/
abbrev mcs (n G db : Nat) (As : Option Addr) (m cs : Nat) : Array Value := #[.int .i64 n, .slice (some ⟨db, 0, none⟩) G G, .slice As m cs, .slice none 0 0]
/-- From w5 on nothing but the blocks u, db, mb has turned; these hold what is used, the tries, the map. -/
structure RS (w0 w5 w : World) (u db mb n G : Nat) (U : Nat → Bool) (D : Array Value) (As : Option Addr) (cs : Nat) (left : List KeyT) : Prop where
  size : w5.heap.size ≤ w.heap.size
  block : ∀ k, k < w5.heap.size → k ≠ u → k ≠ db → k ≠ mb → w.heap[k]? = w5.heap[k]?
  used : Used w u n U
  d : Blk w db 22 D
  m : Blk w mb 40 (mcs n G db As left.length cs)
  own : OwnK w w5.heap.size As cs left
  u5 : ∃ c, Blk w5 u 4 c
  d5 : ∃ c, Blk w5 db 22 c
  m5 : ∃ c, Blk w5 mb 40 c
  bel : Below w0.heap.size w0 w
  ge : w0.heap.size ≤ u ∧ w0.heap.size ≤ db ∧ w0.heap.size ≤ mb
section
variable {w0 w5 w w' : World} {u db mb n G cs : Nat} {U : Nat → Bool} {D : Array Value} {As : Option Addr} {left : List KeyT}
theorem RS.ne (h : RS w0 w5 w u db mb n G U D As cs left) : u ≠ db ∧ u ≠ mb ∧ db ≠ mb ∧ u < w5.heap.size ∧ db < w5.heap.size ∧ mb < w5.heap.size := by
  obtain ⟨_, h1⟩ := h.u5
  obtain ⟨_, h2⟩ := h.d5
  obtain ⟨_, h3⟩ := h.m5
  exact ⟨Blk.other h1 h2 (by decide), Blk.other h1 h3 (by decide), Blk.other h2 h3 (by decide), h1.lt, h2.lt, h3.lt⟩
theorem RS.on (h : RS w0 w5 w u db mb n G U D As cs left) (hb : Below w.heap.size w w') : RS w0 w5 w' u db mb n G U D As cs left := by
  have hn := h.ne
  have hs := h.size
  exact ⟨Nat.le_trans h.size hb.size, fun k hk h1 h2 h3 => (hb.block k (by omega)).trans (h.block k hk h1 h2 h3), Blk.below h.used hb (Blk.lt h.used), h.d.below hb h.d.lt, h.m.below hb h.m.lt, ownsRow_below h.own hb, h.u5, h.d5, h.m5, h.bel.trans (hb.mono h.bel.size), h.ge⟩
theorem own_far2 {B x : Nat} {A : Option Addr} {c : Nat} {l : List KeyT} (h : OwnK w B A c l) (hx : x < B) (hg : w.grownBy w' (some x)) : OwnK w' B A c l := own_far h hx hg
theorem RS.mark (h : RS w0 w5 w u db mb n G U D As cs left) (p : Nat) : RS w0 w5 (w.setCell ⟨u, p, none⟩ (.bool true)) u db mb n G (setU U p true) D As cs left := by
  have hn := h.ne
  have hg := grownBy_cell w u p (.bool true)
  exact ⟨Nat.le_trans h.size hg.size, fun k hk h1 h2 h3 => (hg.block k (Nat.lt_of_lt_of_le hk h.size) (fun e => h1 (Option.some.inj e))).trans (h.block k hk h1 h2 h3), h.used.set1 p true, blk_grownOther h.d hg hn.1.symm, blk_grownOther h.m hg hn.2.1.symm, own_far h.own hn.2.2.2.1 hg, h.u5, h.d5, h.m5,
    h.bel.grown hg h.bel.size (fun k e => by have e := Option.some.inj e; have := h.ge; omega), h.ge⟩
theorem RS.setD (h : RS w0 w5 w u db mb n G U D As cs left) (i : Nat) (v : Value) : RS w0 w5 (w.setCell ⟨db, i, none⟩ v) u db mb n G U (D.setIfInBounds i v) As cs left := by
  have hn := h.ne
  have hg := grownBy_cell w db i v
  exact ⟨Nat.le_trans h.size hg.size, fun k hk h1 h2 h3 => (hg.block k (Nat.lt_of_lt_of_le hk h.size) (fun e => h2 (Option.some.inj e))).trans (h.block k hk h1 h2 h3), blk_grownOther h.used hg hn.1, h.d.set_ i v, blk_grownOther h.m hg hn.2.2.1.symm, own_far h.own hn.2.2.2.2.1 hg, h.u5, h.d5, h.m5,
    h.bel.grown hg h.bel.size (fun k e => by have e := Option.some.inj e; have := h.ge; omega), h.ge⟩
theorem RS.leaves (h : RS w0 w5 w u db mb n G U D As cs left) {w3 : World} (hg : w.grownBy w3 (Value.slice As left.length cs).ownBlock) {b : Nat} {t : TypeId} {c : Array Value} (ht : (27 : TypeId) ≠ t) (hb : Blk w b t c) : Blk w3 b t c :=
  Blk.same hb (hg.block b hb.lt fun e => own_not_t ht h.own hb b e.symm rfl)
theorem RS.push (h : RS w0 w5 w u db mb n G U D As cs left) {w3 : World} {A3 : Option Addr} {c3 : Nat} {l3 : List KeyT} (hg : w.grownBy w3 (Value.slice As left.length cs).ownBlock) (ho : OwnK w3 w5.heap.size A3 c3 l3) :
    RS w0 w5 (w3.setCell ⟨mb, 2, none⟩ (.slice A3 l3.length c3)) u db mb n G U D A3 c3 l3 := by
  have hn := h.ne
  have h5 : ∀ k, (Value.slice As left.length cs).ownBlock = some k → w5.heap.size ≤ k := fun k e => (World.ownsRow.lt h.own k e).1
  have hg2 := grownBy_cell w3 mb 2 (.slice A3 l3.length c3)
  have hb3 : Below w0.heap.size w0 w3 := h.bel.grown hg h.bel.size (fun k e => by have := h5 k e; have := h.ge; omega)
  exact ⟨Nat.le_trans h.size (Nat.le_trans hg.size hg2.size),
    fun k hk h1 h2 h3 => (hg2.block k (Nat.lt_of_lt_of_le hk (Nat.le_trans h.size hg.size)) (fun e => h3 (Option.some.inj e))).trans ((hg.block k (Nat.lt_of_lt_of_le hk h.size) (fun e => by have := h5 k e.symm; omega)).trans (h.block k hk h1 h2 h3)),
    blk_grownOther (h.leaves hg (by decide) h.used) hg2 hn.2.1, blk_grownOther (h.leaves hg (by decide) h.d) hg2 hn.2.2.1, (h.leaves hg (by decide) h.m).set_ 2 _, own_far ho hn.2.2.2.2.2 hg2, h.u5, h.d5, h.m5,
    hb3.grown hg2 hb3.size (fun k e => by have e := Option.some.inj e; have := h.ge; omega), h.ge⟩
theorem RS.grp (h : RS w0 w5 w u db mb n G U D As cs left) {B c : Nat} {A : Option Addr} {l : List KeyT} (ho : OwnK w5 B A c l) : OwnK w B A c l := by
  obtain ⟨_, h1⟩ := h.u5
  obtain ⟨_, h2⟩ := h.d5
  obtain ⟨_, h3⟩ := h.m5
  exact ownsRow_same ho fun g hv hl => h.block g hl (own_not_t (by decide) ho h1 g hv) (own_not_t (by decide) ho h2 g hv) (own_not_t (by decide) ho h3 g hv)
theorem RS.owni (h : RS w0 w5 w u db mb n G U D As cs left) {B c : Nat} {A : Option Addr} {l : List Nat} (ho : OwnI w5 B A c l) : OwnI w B A c l := by
  obtain ⟨_, h1⟩ := h.u5
  obtain ⟨_, h2⟩ := h.d5
  obtain ⟨_, h3⟩ := h.m5
  exact ownsRow_same ho fun g hv hl => h.block g hl (owni_not_t (by decide) ho h1 g hv) (owni_not_t (by decide) ho h2 g hv) (owni_not_t (by decide) ho h3 g hv)
theorem RS.rows (h : RS w0 w5 w u db mb n G U D As cs left) {b : Nat} {c : Array Value} (hb : Blk w5 b 31 c) : Blk w b 31 c := by
  obtain ⟨_, h1⟩ := h.u5
  obtain ⟨_, h2⟩ := h.d5
  obtain ⟨_, h3⟩ := h.m5
  exact hb.same (h.block b hb.lt (Blk.other hb h1 (by decide)) (Blk.other hb h2 (by decide)) (Blk.other hb h3 (by decide)))
end
/-- What is used where a group's try is f (0: none yet). -/
def fU (n : Nat) (U : Nat → Bool) (ks : List KeyT) (f : Nat) : Nat → Bool := if f = 0 then U else markL U (posL n f ks)
theorem fU_zero (n : Nat) (U : Nat → Bool) (ks : List KeyT) : fU n U ks 0 = U := rfl
theorem fU_pos {n f : Nat} (U : Nat → Bool) (ks : List KeyT) (h : 0 < f) : fU n U ks f = markL U (posL n f ks) := by rw [fU, if_neg (by omega)]
theorem sdq_put {G i : Nat} (s : BS) (v : Value) (h : i < G) : ((sdq G s).setIfInBounds i v)[i]? = some v := by
  rw [Array.getElem?_setIfInBounds, if_pos rfl, if_pos (by simp [sdq, sdL]; exact h)]
theorem sdq_twice {G i : Nat} (s : BS) (v v' : Value) : ((sdq G s).setIfInBounds i v).setIfInBounds i v' = (sdq G s).setIfInBounds i v' := by simp
/-- The tries with that of one group set anew. -/
theorem sdq_same {n G i : Nat} {gf : KeyT → Nat} {ks : List KeyT} (s : BS) (h0 : s.sd i = 0) : (sdq G s).setIfInBounds i (.int .u64 ((0 : Nat) : Int)) = sdq G s := by
  apply Array.ext_getElem?
  intro j
  rw [Array.getElem?_setIfInBounds]
  by_cases e : i = j
  · subst e
    rw [if_pos rfl]
    by_cases hj : i < G
    · rw [if_pos (by simp [sdq, sdL]; exact hj), sdq_get _ hj, h0]
    · rw [if_neg (by simp [sdq, sdL]; omega), Array.getElem?_eq_none (by simp [sdq, sdL]; omega)]
  · rw [if_neg e]
theorem sdq_set {n G i : Nat} {gf : KeyT → Nat} {ks : List KeyT} (s : BS) : (sdq G s).setIfInBounds i (.int .u64 (chD n s.U (grpK gf ks i) : Nat)) = sdq G (stepB n gf ks s i) := by
  apply Array.ext_getElem?
  intro j
  rw [Array.getElem?_setIfInBounds]
  by_cases hj : j < G
  · rw [sdq_get (stepB n gf ks s i) hj]
    by_cases e : i = j
    · subst e
      rw [if_pos rfl, if_pos (by simp [sdq, sdL]; exact hj)]
      simp [stepB]
    · rw [if_neg e, sdq_get s hj]
      simp [stepB, show ¬ j = i from fun h => e h.symm]
  · have h1 : (sdq G (stepB n gf ks s i))[j]? = none := Array.getElem?_eq_none (by simp [sdq, sdL]; omega)
    have h2 : (sdq G s)[j]? = none := Array.getElem?_eq_none (by simp [sdq, sdL]; omega)
    rw [h1, h2]
    split
    · rename_i e
      subst e
      rw [if_neg (by simp [sdq, sdL]; omega)]
    · rfl
section
variable {w0 w5 w : World} {u db mb n G cs gi f : Nat} {gf : KeyT → Nat} {ks gk : List KeyT} {S : BS} {As : Option Addr}
theorem RS.step_pos (h : RS w0 w5 w u db mb n G (fU n S.U gk f) ((sdq G S).setIfInBounds gi (.int .u64 (f : Nat))) As cs S.left) (hgk : grpK gf ks gi = gk) (hf : 1 ≤ f) (hc : chD n S.U gk = f) :
    RS w0 w5 w u db mb n G (stepB n gf ks S gi).U (sdq G (stepB n gf ks S gi)) As cs (stepB n gf ks S gi).left := by
  have e1 : (stepB n gf ks S gi).U = fU n S.U gk f := by
    simp only [stepB, chU]
    rw [hgk, hc, if_neg (by omega), fU_pos _ _ (by omega)]
  have e2 : sdq G (stepB n gf ks S gi) = (sdq G S).setIfInBounds gi (.int .u64 (f : Nat)) := by rw [← sdq_set, hgk, hc]
  have e3 : (stepB n gf ks S gi).left = S.left := by
    simp only [stepB]
    rw [hgk, hc, if_neg (by omega)]
  rw [e1, e2, e3]
  exact h
theorem RS.step_zero (h : RS w0 w5 w u db mb n G (fU n S.U gk 0) ((sdq G S).setIfInBounds gi (.int .u64 ((0 : Nat) : Int))) As cs (S.left ++ gk)) (hgk : grpK gf ks gi = gk) (hc : chD n S.U gk = 0) :
    RS w0 w5 w u db mb n G (stepB n gf ks S gi).U (sdq G (stepB n gf ks S gi)) As cs (stepB n gf ks S gi).left := by
  have e1 : (stepB n gf ks S gi).U = fU n S.U gk 0 := by
    simp only [stepB, chU]
    rw [hgk, hc, if_pos rfl, fU_zero]
  have e2 : sdq G (stepB n gf ks S gi) = (sdq G S).setIfInBounds gi (.int .u64 ((0 : Nat) : Int)) := by rw [← sdq_set, hgk, hc]
  have e3 : (stepB n gf ks S gi).left = S.left ++ gk := by
    simp only [stepB]
    rw [hgk, hc, if_pos rfl]
  rw [e1, e2, e3]
  exact h
end
/-- As many groups have keys as there are keys, at most. -/
theorem ord_len {gf : KeyT → Nat} {ks : List KeyT} {G : Nat} {O : List Nat} (h : Ord (cntK gf ks) G O) (hg : ∀ k ∈ ks, gf k < G) : O.length ≤ ks.length := by
  have h1 := sum_groups h.nodup (l := ks) fun k hk => (h.mem _).2 ⟨hg k hk, by
    unfold cntK grpK
    exact List.length_pos_of_mem (List.mem_filter.2 ⟨hk, by simp⟩)⟩
  have h2 : ∀ P : List Nat, (∀ i ∈ P, 0 < cntK gf ks i) → P.length ≤ (P.map (cntK gf ks)).sum := fun P => by
    induction P with
    | nil => intro _; simp
    | cons p P ih =>
      intro hP
      have := ih fun i hi => hP i (by simp [hi])
      have := hP p (by simp)
      rw [List.map_cons, List.sum_cons, List.length_cons]
      omega
  have := h2 O fun i hi => ((h.mem i).1 hi).2
  omega
theorem own_base {w : World} {b B : Nat} {e : TypeId} {s n : Nat} {v : Value} {xs : List Value} (h : w.ownsRow b e s v n xs) (hb : B ≤ b) : w.ownsRow B e s v n xs :=
  ⟨h.1, h.2.imp id fun ⟨g, cap, cur, hv, hg, rest⟩ => ⟨g, cap, cur, hv, Nat.le_trans hb hg, rest⟩⟩
theorem own_blk {w : World} {B c : Nat} {A : Option Addr} {l : List KeyT} (h : OwnK w B A c l) : ∀ g, (Value.slice A l.length c).ownBlock = some g → ∃ cur, Blk w g 27 cur := fun g hv => by
  rcases h.2 with ⟨hv2, _⟩ | ⟨g2, cap, cur, hv2, _, hh, _⟩
  · rw [hv2] at hv; cases hv
  · rw [hv2] at hv
    injection hv with hv
    have hv : g2 = g := hv
    subst hv
    exact ⟨cur, hh⟩
/-- The map's cells while the spilled keys get their places. -/
abbrev mcs3 (n G db : Nat) (As : Option Addr) (m cs : Nat) (Aa : Option Addr) (q ca : Nat) : Array Value := #[.int .i64 n, .slice (some ⟨db, 0, none⟩) G G, .slice As m cs, .slice Aa q ca]
/-- What stands while the spilled keys get their places. -/
structure RT (w0 w : World) (u db mb n G : Nat) (U : Nat → Bool) (D : Array Value) (As : Option Addr) (cs : Nat) (left : List KeyT) (Aa : Option Addr) (ca : Nat) (al : List Nat) : Prop where
  used : Used w u n U
  d : Blk w db 22 D
  m : Blk w mb 40 (mcs3 n G db As left.length cs Aa al.length ca)
  own : OwnK w w0.heap.size As cs left
  at_ : OwnI w w0.heap.size Aa ca al
  bel : Below w0.heap.size w0 w
  ge : w0.heap.size ≤ mb
section
variable {w0 w w' : World} {u db mb n G cs ca : Nat} {U : Nat → Bool} {D : Array Value} {As Aa : Option Addr} {left : List KeyT} {al : List Nat}
theorem RT.start {w5 : World} (h : RS w0 w5 w u db mb n G U D As cs left) (h5 : w0.heap.size ≤ w5.heap.size) : RT w0 w u db mb n G U D As cs left none 0 [] :=
  ⟨h.used, h.d, h.m, own_base h.own h5, World.ownsRow_nil _ _ _ _, h.bel, h.ge.2.2⟩
theorem RT.on (h : RT w0 w u db mb n G U D As cs left Aa ca al) (hb : Below w.heap.size w w') : RT w0 w' u db mb n G U D As cs left Aa ca al :=
  ⟨Blk.below h.used hb (Blk.lt h.used), h.d.below hb h.d.lt, h.m.below hb h.m.lt, ownsRow_below h.own hb, ownsRow_below h.at_ hb, h.bel.trans (hb.mono h.bel.size), h.ge⟩
theorem RT.leaves (h : RT w0 w u db mb n G U D As cs left Aa ca al) {w3 : World} (hg : w.grownBy w3 (Value.slice Aa al.length ca).ownBlock) {b : Nat} {t : TypeId} {c : Array Value} (ht : (3 : TypeId) ≠ t) (hb : Blk w b t c) : Blk w3 b t c :=
  Blk.same hb (hg.block b hb.lt fun e => owni_not_t ht h.at_ hb b e.symm rfl)
/-- The map has been laid into another block of that type. -/
theorem RT.out (h : RT w0 w u db mb n G U D As cs left Aa ca al) {w3 : World} {rb : Nat} {c : Array Value} (hg : w.grownBy w3 (some rb)) (hb : Blk w rb 40 c) :
    Used w3 u n U ∧ Blk w3 db 22 D ∧ OwnK w3 w0.heap.size As cs left ∧ OwnI w3 w0.heap.size Aa ca al :=
  ⟨blk_grownOther h.used hg (Blk.other h.used hb (by decide)), blk_grownOther h.d hg (Blk.other h.d hb (by decide)),
    ownsRow_same h.own fun g hv hl => hg.block g hl fun e => own_not_t (by decide) h.own hb g hv (Option.some.inj e),
    ownsRow_same h.at_ fun g hv hl => hg.block g hl fun e => owni_not_t (by decide) h.at_ hb g hv (Option.some.inj e)⟩
theorem RT.push (h : RT w0 w u db mb n G U D As cs left Aa ca al) {w3 : World} {A3 : Option Addr} {c3 : Nat} {l3 : List Nat} (hg : w.grownBy w3 (Value.slice Aa al.length ca).ownBlock) (ho : OwnI w3 w0.heap.size A3 c3 l3) :
    RT w0 (w3.setCell ⟨mb, 3, none⟩ (.slice A3 l3.length c3)) u db mb n G U D As cs left A3 c3 l3 := by
  have hu := h.leaves hg (by decide) h.used
  have hd := h.leaves hg (by decide) h.d
  have hm := h.leaves hg (by decide) h.m
  have hg2 := grownBy_cell w3 mb 3 (.slice A3 l3.length c3)
  have hown : OwnK w3 w0.heap.size As cs left := ownsRow_same h.own fun g hv hl => hg.block g hl fun e => by
    obtain ⟨cur, hb⟩ := own_blk h.own g hv
    exact owni_not_t (by decide) h.at_ hb g e.symm rfl
  have hb3 : Below w0.heap.size w0 w3 := h.bel.grown hg h.bel.size (fun k e => (World.ownsRow.lt h.at_ k e).1)
  exact ⟨blk_grownOther hu hg2 (Blk.other hu hm (by decide)), blk_grownOther hd hg2 (Blk.other hd hm (by decide)), hm.set_ 3 _,
    ownsRow_same hown fun g hv _ => setCell_block (own_not_t (by decide) hown hm g hv), ownsRow_same ho fun g hv _ => setCell_block (owni_not_t (by decide) ho hm g hv),
    hb3.grown hg2 hb3.size (fun k e => by have e := Option.some.inj e; have := h.ge; omega), h.ge⟩
end
end Go.Proofs.Ytacijjioaanlgaa
