/- A cache of the package's and one of the reference's in one world. No statement of the seat is proved here. -/
import Derived.Test.YtmnjaocdhelebaaCcRoom
import Derived.Test.YtmnjaocdhelebaaCcRefB
import Derived.Test.YtmnjaocdhelebaaCcRefG
import Derived.Test.YtmnjaocdhelebaaCcRefL
import Derived.Test.YtmnjaocdhelebaaStTwoB
namespace Go.Proofs.Ytmnjaocdhelebaa
open Go.RowKit
set_option linter.unusedVariables false
set_option linter.unusedSimpArgs false

section
variable {σ τ : Type} {St : World → Addr → (Nat → Prop) → σ → Prop} {Tt : World → Addr → (Nat → Prop) → τ → Prop} {w0 w w' : World} {s t : Addr} {S S' : σ} {T T' : τ} {E E' : List (Nat × Obj)}
theorem TwoB.sub (h : TwoB St Tt w0 w s t S T E) (hs : ∀ p ∈ E', p ∈ E) : TwoB St Tt w0 w s t S T E' := by
  obtain ⟨F, G, h1, h2, h3, h4, h5, h6, h7⟩ := h
  exact ⟨F, G, h1, h2, h3, h4, h5, h6, fun p hp => h7 p (hs p hp)⟩
/-- A block that was made meanwhile is a box, too. -/
theorem TwoB.more (hS : Firm St) (hT : Firm Tt) (h : TwoB St Tt w0 w s t S T E) (hb : Below w.heap.size w w') {g : Nat} {o : Obj} (hg : w.heap.size ≤ g) (ho : w'.heap[g]? = some o) : TwoB St Tt w0 w' s t S T ((g, o) :: E) := by
  obtain ⟨F, G, h1, h2, h3, h4, h5, h6, h7⟩ := h
  have hF := hS.lt h1
  have hG := hT.lt h2
  refine ⟨F, G, hS.keep h1 fun g hg => hb.block g (hF g hg), hT.keep h2 fun g hg => hb.block g (hG g hg), h3, h4, h5, h6.trans (hb.mono h6.size), fun p hp => ?_⟩
  rcases List.mem_cons.1 hp with rfl | hp
  · exact ⟨ho, fun hf => by have := hF _ hf; simp only at this; omega, fun hf => by have := hG _ hf; simp only at this; omega⟩
  · exact ⟨(hb.block p.1 (blk_in (h7 p hp).1)).trans (h7 p hp).1, (h7 p hp).2⟩
/-- A box is written. -/
theorem TwoB.write (hS : Firm St) (hT : Firm Tt) {g : Nat} {ty : TypeId} {cur : Array Value} (h : TwoB St Tt w0 w s t S T ((g, Obj.cells cur ty (0, 0)) :: E)) (h0 : w0.heap.size ≤ g) (hne : ∀ p ∈ E, p.1 ≠ g) (o : Nat) (vs : List Value) (hl : o + vs.length ≤ cur.size) :
    ∃ cur', cur'.size = cur.size ∧ TwoB St Tt w0 (w.setCells g o vs) s t S T ((g, Obj.cells cur' ty (0, 0)) :: E) := by
  obtain ⟨F, G, h1, h2, h3, h4, h5, h6, h7⟩ := h
  obtain ⟨hk, hF, hG⟩ := h7 _ List.mem_cons_self
  have hgr := grown_cells g vs o w
  have hbk := blk_cells (t := ty) vs o w cur hk hl
  have hsame : ∀ k, k ≠ g → k < w.heap.size → (w.setCells g o vs).heap[k]? = w.heap[k]? := fun k hk hl => hgr.block k hl fun e => by injection e with e; exact hk e
  refine ⟨(splice cur.toList o vs).toArray, ?_, F, G, hS.keep h1 fun k hk => hsame k (fun e => hF (e ▸ hk)) (hS.lt h1 k hk), hT.keep h2 fun k hk => hsame k (fun e => hG (e ▸ hk)) (hT.lt h2 k hk), h3, h4, h5, h6.grown hgr h6.size fun r hr => by injection hr with hr; omega, fun p hp => ?_⟩
  · rw [List.size_toArray]
    have := length_splice cur.toList o vs (by simpa using hl)
    simpa using this
  · rcases List.mem_cons.1 hp with rfl | hp
    · exact ⟨hbk, hF, hG⟩
    · have h8 := h7 p (List.mem_cons_of_mem _ hp)
      exact ⟨(hsame p.1 (hne p hp) (blk_in h8.1)).trans h8.1, h8.2⟩
end
section
variable {Ct : World → Addr → (Nat → Prop) → CS → Prop} {w0 w : World} {s : Addr} {tb : Nat} {S T : CS} {E : List (Nat × Obj)}
theorem pdropL (K : CachesOk Ct) (h : TwoB Ct Rc w0 w s ⟨tb, 0, none⟩ S T E) (sh : Int) (hs : In64 sh) :
    Calls Try.prog 11 #[.pointer (some s), .int .i64 sh] w fun e w' => e = .returned (.bool (hasC S sh)) ∧ TwoB Ct Rc w0 w' s ⟨tb, 0, none⟩ (dropC S sh) T E := by
  obtain ⟨F, hF, h1, back⟩ := h.left K.firm Rc.firm (Below.refl _ _)
  exact (K.drop s F S sh w h1 hs).mono fun e w' ⟨he, ht⟩ => ⟨he, back ht⟩
theorem pdropR (K : CachesOk Ct) (h : TwoB Ct Rc w0 w s ⟨tb, 0, none⟩ S T E) (hok : T.Ok) (sh : Int) :
    Calls Try.prog 12 #[.pointer (some ⟨tb, 0, none⟩), .int .i64 sh] w fun e w' => e = .returned (.bool (hasC T sh)) ∧ TwoB Ct Rc w0 w' s ⟨tb, 0, none⟩ S (dropC T sh) E := by
  obtain ⟨F, hF, h1, back⟩ := h.right K.firm Rc.firm (Below.refl _ _)
  exact (rcdrop_any ⟨tb, 0, none⟩ F T sh w h1 hok).mono fun e w' ⟨he, ht⟩ => ⟨he, back ht⟩
theorem ploadL (K : CachesOk Ct) (h : TwoB Ct Rc w0 w s ⟨tb, 0, none⟩ S T E) {W : World} (hb : Below w.heap.size w W) (sh : Int) (hs : In64 sh) (A : Option Addr) (ls : List RowT) (k c draw : Nat) (hd : draw < 18446744073709551616) (hl : ls.length = k) (hc : k ≤ c) (hm : c ≤ maxLen) (hn : k ≤ 1000) (hr : RdRw W W.heap.size A ls) (hA : ∀ ad, A = some ad → w.heap.size ≤ ad.block) :
    Calls Try.prog 13 #[.pointer (some s), .int .i64 sh, .slice A k c, .int .u64 draw] W fun e w' => e = .returned (.tuple #[]) ∧ ∃ F, (∀ g, F g → g < w.heap.size) ∧ Only F W w' ∧ TwoB Ct Rc w0 w' s ⟨tb, 0, none⟩ (loadC S sh ls draw) T E := by
  obtain ⟨F, hF, h1, back⟩ := h.left K.firm Rc.firm hb
  exact (K.load s F S sh A ls k c draw W h1 hs hd hl hc hm hn hr (fun ad e h0 hf => by
    have a1 := hA ad e
    have a2 := (hF _ hf).1
    omega)).mono fun e w' ⟨he, ht⟩ => ⟨he, F, fun g hg => (hF g hg).1, ht.only, back ht⟩
theorem ploadR (K : CachesOk Ct) (h : TwoB Ct Rc w0 w s ⟨tb, 0, none⟩ S T E) (hok : T.Ok) (sh : Int) (hs : In64 sh) (A : Option Addr) (ls : List RowT) (k c draw : Nat) (hd : draw < 18446744073709551616) (hl : ls.length = k) (hc : k ≤ c) (hm : c ≤ maxLen) (hn : k ≤ 1000) (hr : RdRw w0 w0.heap.size A ls) :
    Calls Try.prog 14 #[.pointer (some ⟨tb, 0, none⟩), .int .i64 sh, .slice A k c, .int .u64 draw] w fun e w' => e = .returned (.tuple #[]) ∧ TwoB Ct Rc w0 w' s ⟨tb, 0, none⟩ S (loadC T sh ls draw) E := by
  obtain ⟨F, hF, h1, back⟩ := h.right K.firm Rc.firm (Below.refl _ _)
  exact (rcload_any ⟨tb, 0, none⟩ F T sh A ls k c draw w h1 hok hs hd hl hc hm hn ((hr.below h.bel).more h.bel.size) (fun ad e h0 hf => by
    have a1 := hr.adr ad e (by omega)
    have a2 := (hF _ hf).2
    omega)).mono fun e w' ⟨he, ht⟩ => ⟨he, back ht⟩
/-- The rows lie in boxes. -/
theorem ploadB (K : CachesOk Ct) (h : TwoB Ct Rc w0 w s ⟨tb, 0, none⟩ S T E) (sh : Int) (hs : In64 sh) (A : Option Addr) (ls : List RowT) (k c draw : Nat) (hd : draw < 18446744073709551616) (hl : ls.length = k) (hc : k ≤ c) (hm : c ≤ maxLen) (hn : k ≤ 1000) (hr : RdRw w w.heap.size A ls) (hA : ∀ ad, A = some ad → ∃ o, ((ad.block, o) : Nat × Obj) ∈ E) :
    Calls Try.prog 13 #[.pointer (some s), .int .i64 sh, .slice A k c, .int .u64 draw] w fun e w' => e = .returned (.tuple #[]) ∧ TwoB Ct Rc w0 w' s ⟨tb, 0, none⟩ (loadC S sh ls draw) T E := by
  obtain ⟨F, G, h1, h2, h3, h4, h5, h6, h7⟩ := id h
  have hl2 := h.left K.firm Rc.firm (Below.refl _ _)
  have hG := Rc.firm.lt h2
  refine (K.load s F S sh A ls k c draw w h1 hs hd hl hc hm hn hr (fun ad e h0 hf => by
    obtain ⟨o, ho⟩ := hA ad e
    exact (h7 _ ho).2.1 hf)).mono fun e w' ⟨he, F', a1, a2, a3⟩ => ⟨he, F', G, a1, Rc.firm.keep h2 fun g hg => a3.block g (hG g hg) fun hf => h3 g hf hg, fun g hf hg => ?_, fun g hf => ?_, h5, h6.trans (Only.below a3 h4 h6.size), fun p hp => ?_⟩
  · rcases a2 g hf with h | h
    · exact h3 g h hg
    · have := hG g hg; omega
  · rcases a2 g hf with h | h
    · exact h4 g h
    · exact Nat.le_trans h6.size h
  · have hp1 := (h7 p hp).1
    refine ⟨(a3.block p.1 (blk_in hp1) (h7 p hp).2.1).trans hp1, fun hf => ?_, (h7 p hp).2.2⟩
    rcases a2 _ hf with h | h
    · exact (h7 p hp).2.1 h
    · have := blk_in hp1; omega
/-- A row of the law's own beside both. -/
theorem own_boxed (K : CachesOk Ct) (h : TwoB Ct Rc w0 w s ⟨tb, 0, none⟩ S T E) {w7 : World} (hb : Below w.heap.size w w7) {A : Option Addr} {c n : Nat} {R : List RowT} (ho : OwnG 31 35 rcs w7 w.heap.size A c R) (hn : R.length = n) :
    ∃ E', TwoB Ct Rc w0 w7 s ⟨tb, 0, none⟩ S T E' ∧ (∀ p ∈ E, p ∈ E') ∧ ((A = none ∧ n = 0 ∧ E' = E) ∨ ∃ og cur, A = some ⟨og, 0, none⟩ ∧ w.heap.size ≤ og ∧ n * 35 ≤ cur.size ∧ E' = (og, Obj.cells cur 31 (0, 0)) :: E) := by
  subst hn
  have h1 : w7.ownsRow w.heap.size 31 35 (.slice A R.length c) R.length (R.flatMap rcs) := ho
  rcases h1.2 with ⟨hv, h0⟩ | ⟨og, cap, cur, hv, hbg, hh, hnc, _, hcs, _⟩
  · injection hv with hv _ _
    exact ⟨E, h.on K.firm Rc.firm hb, fun p hp => hp, .inl ⟨hv, h0, rfl⟩⟩
  · injection hv with hv _ hcc
    refine ⟨_, h.more K.firm Rc.firm hb hbg hh, fun p hp => List.mem_cons_of_mem _ hp, .inr ⟨og, cur, hv, hbg, ?_, rfl⟩⟩
    rw [hcs]
    exact Nat.mul_le_mul_right _ hnc
theorem pgetL (K : CachesOk Ct) (h : TwoB Ct Rc w0 w s ⟨tb, 0, none⟩ S T E) (k : KeyT) (hk : k.Ok) :
    Calls Try.prog 15 #[.pointer (some s), kv k] w fun e w' => e = .returned (.tuple #[pv (getC S k), .bool (knowsC S k)]) ∧ TwoB Ct Rc w0 w' s ⟨tb, 0, none⟩ S T E := by
  obtain ⟨F, _, h1, _⟩ := id h
  exact (K.get s F S k w h1 hk).mono fun e w' ⟨he, hb⟩ => ⟨he, h.on K.firm Rc.firm hb⟩
theorem pref (h : TwoB Ct Rc w0 w s ⟨tb, 0, none⟩ S T E) : ∃ A c ts, RCs w tb A c ts T.room ∧ T.t = ts.map (·.1) := by
  obtain ⟨_, G, _, ⟨d, A, c, ts, e, hR, hst, _⟩, _⟩ := h
  injection e with e _ _
  subst e
  exact ⟨A, c, ts, hR, hst⟩
theorem pgetR (K : CachesOk Ct) (h : TwoB Ct Rc w0 w s ⟨tb, 0, none⟩ S T E) (k : KeyT) (hk : k.Ok) :
    Calls Try.prog 16 #[.pointer (some ⟨tb, 0, none⟩), kv k] w fun e w' => e = .returned (.tuple #[pv (getC T k), .bool (knowsC T k)]) ∧ TwoB Ct Rc w0 w' s ⟨tb, 0, none⟩ S T E := by
  obtain ⟨A, c, ts, hR, hst⟩ := pref h
  have hT : T = ⟨T.room, ts.map (·.1)⟩ := by rw [← hst]
  refine (rcget_any hR k hk).mono fun e w' ⟨he, hb⟩ => ⟨?_, h.on K.firm Rc.firm hb⟩
  rw [← hT] at he
  exact he
theorem pshelvesL (K : CachesOk Ct) (h : TwoB Ct Rc w0 w s ⟨tb, 0, none⟩ S T E) :
    Calls Try.prog 18 #[.pointer (some s)] w fun e w' => ∃ A c, e = .returned (.slice A (shelvesC S).length c) ∧ OwnG 3 1 i1 w' w.heap.size A c (shelvesC S) ∧ Below w.heap.size w w' ∧ TwoB Ct Rc w0 w' s ⟨tb, 0, none⟩ S T E := by
  obtain ⟨F, _, h1, _⟩ := id h
  exact (K.shelves s F S w h1).mono fun e w' ⟨A, c, he, ho, hb⟩ => ⟨A, c, he, ho, hb, h.on K.firm Rc.firm hb⟩
theorem pshelvesR (K : CachesOk Ct) (h : TwoB Ct Rc w0 w s ⟨tb, 0, none⟩ S T E) :
    Calls Try.prog 19 #[.pointer (some ⟨tb, 0, none⟩)] w fun e w' => ∃ A c, e = .returned (.slice A (shelvesC T).length c) ∧ OwnG 3 1 i1 w' w.heap.size A c (shelvesC T) ∧ Below w.heap.size w w' ∧ TwoB Ct Rc w0 w' s ⟨tb, 0, none⟩ S T E := by
  obtain ⟨A, c, ts, hR, hst⟩ := pref h
  have e1 : shelvesC T = ts.map (·.1.1) := by unfold shelvesC; rw [hst, List.map_map]; rfl
  rw [e1, List.length_map]
  exact (rcshelves_any hR).mono fun e w' ⟨A', c', he, ho, hb⟩ => ⟨A', c', he, ho, hb, h.on K.firm Rc.firm hb⟩
theorem phas2 (K : CachesOk Ct) (h : TwoB Ct Rc w0 w s ⟨tb, 0, none⟩ S T E) (sh : Int) (hs : In64 sh) :
    Calls Try.prog 20 #[.pointer (some s), .int .i64 sh] w fun e w' => e = .returned (.bool (hasC S sh)) ∧ TwoB Ct Rc w0 w' s ⟨tb, 0, none⟩ S T E := by
  obtain ⟨F, _, h1, _⟩ := id h
  exact (K.has s F S sh w h1 hs).mono fun e w' ⟨he, hb⟩ => ⟨he, h.on K.firm Rc.firm hb⟩
theorem pgood (K : CachesOk Ct) (h : TwoB Ct Rc w0 w s ⟨tb, 0, none⟩ S T E) : S.Ok := by
  obtain ⟨F, _, h1, _⟩ := h
  exact K.ok h1
theorem rc_new (w : World) (n : Nat) (hn : n ≤ 4096) : Rc (w.alloc (.cells #[.slice none 0 0, .int .i64 (n : Nat)] 40)) ⟨w.heap.size, 0, none⟩ (fun g => g = w.heap.size) ⟨n, []⟩ :=
  ⟨w.heap.size, none, 0, [], rfl, ⟨Blk.new w _ _, OwnG.nil _ _, by simp, CS.Ok.new hn⟩, rfl, rfl, fun ad h => (by cases h), by simp, fun g hg => by subst hg; simp⟩
/-- Both are new. -/
theorem two_new (K : CachesOk Ct) {n : Nat} (hn : n ≤ 4096) {kb : Nat} {o : Obj} {F : Nat → Prop} {w1 : World} (hb : Below w0.heap.size w0 w1) (hk : w1.heap[kb]? = some o) (h : Ct w s F ⟨n, []⟩) (hF : ∀ g, F g → w1.heap.size ≤ g) (hb2 : Below w1.heap.size w1 w) (htb : w.heap.size = tb) :
    TwoB Ct Rc w0 (w.alloc (.cells #[.slice none 0 0, .int .i64 (n : Nat)] 40)) s ⟨tb, 0, none⟩ ⟨n, []⟩ ⟨n, []⟩ [(kb, o)] := by
  subst htb
  have hlt := K.lt h
  have ha := (Below.refl w.heap.size w).alloc (Nat.le_refl _) (.cells #[.slice none 0 0, .int .i64 (n : Nat)] 40)
  have hkl := blk_in hk
  refine ⟨F, fun g => g = w.heap.size, K.keep h fun g hg => ha.block g (hlt g hg), rc_new w n hn, fun g h1 h2 => by have := hlt g h1; omega, fun g hg => Nat.le_trans hb.size (hF g hg), fun g hg => by rw [hg]; exact Nat.le_trans hb.size hb2.size, (hb.trans (hb2.mono hb.size)).trans (ha.mono (Nat.le_trans hb.size hb2.size)), fun p hp => ?_⟩
  have hp := List.mem_singleton.1 hp
  subst hp
  refine ⟨?_, fun hf => ?_, fun hf => ?_⟩
  · have h3 := (hb2.block kb hkl).trans hk
    exact (ha.block kb (blk_in h3)).trans h3
  · have := hF _ hf; simp only at this; omega
  · have := hb2.size; simp only at hf; omega
end
end Go.Proofs.Ytmnjaocdhelebaa
