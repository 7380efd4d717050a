/- The landed tree: nodes in memory; top, of, size, high, find, least, Len, Height, Get. No statement of the seat is proved here. -/
import Derived.Test.YtiomfkhblmmdoaaTrBst
import Derived.Test.YtiomfkhblmmdoaaTrTwo
import Derived.Test.YtiomfkhblmmdoaaGbyF
import Derived.Laws.Cover1
import Derived.Deep.LoopGhost
namespace Go.Proofs.Ytiomfkhblmmdoaa
open Go.RowKit
set_option linter.unusedVariables false
set_option linter.unusedSimpArgs false
set_option maxRecDepth 100000

/-- A node's cells. -/
def ncs18 (p : PT) (vl vr : Value) (h n : Nat) : Array Value := #[.string (st p.1), .string (st p.2), vl, vr, .int .i64 h, .int .i64 n]
/-- The tree t lies at v. -/
def Lies18 (w : World) : Value → T18 → Prop
  | v, .nil => v = .pointer none
  | v, .node a l p r => v = .pointer (some ⟨a, 0, none⟩) ∧ ∃ vl vr, Blk w a 61 (ncs18 p vl vr (T18.node a l p r).ht (T18.node a l p r).flat.length) ∧ Lies18 w vl l ∧ Lies18 w vr r
theorem Lies18.ptr {w : World} : ∀ {t : T18} {v : Value}, Lies18 w v t → ∃ X, v = .pointer X
  | .nil, v, h => ⟨none, h⟩
  | .node a l p r, v, h => ⟨_, h.1⟩
theorem Lies18.below {w w' : World} : ∀ {t : T18} {v : Value}, Lies18 w v t → Below w.heap.size w w' → Lies18 w' v t
  | .nil, v, h, _ => h
  | .node a l p r, v, ⟨e, vl, vr, hk, hl, hr⟩, hb => ⟨e, vl, vr, hk.below hb hk.lt, Lies18.below hl hb, Lies18.below hr hb⟩
theorem blk_other18 {w w' : World} {a g : Nat} {t e : TypeId} {cs ds : Array Value} (h : Blk w a t cs) (hk : Blk w g e ds) (hne : e ≠ t) (hg : w.grownBy w' (some g)) : Blk w' a t cs := by
  refine h.same (hg.block a h.lt fun e2 => ?_)
  injection e2 with e2
  subst e2
  have := h.symm.trans hk
  injection this with this
  injection this with _ h2 _
  exact hne h2.symm
theorem Lies18.rows {w w' : World} {g : Nat} {e : TypeId} {ds : Array Value} (hk : Blk w g e ds) (hne : e ≠ 61) (hg : w.grownBy w' (some g)) : ∀ {t : T18} {v : Value}, Lies18 w v t → Lies18 w' v t
  | .nil, v, h => h
  | .node a l p r, v, ⟨e, vl, vr, hb, hl, hr⟩ => ⟨e, vl, vr, blk_other18 hb hk hne hg, Lies18.rows hk hne hg hl, Lies18.rows hk hne hg hr⟩
theorem st_inj18 {a b : List UInt8} (h : Value.string (st a) = Value.string (st b)) : a = b := by
  injection h with h
  have := congrArg (fun b => b.data.toList) h
  simpa [st] using this
/-- A value has one tree. -/
theorem Lies18.uniq {w : World} : ∀ {t s : T18} {v : Value}, Lies18 w v t → Lies18 w v s → t = s
  | .nil, .nil, _, _, _ => rfl
  | .nil, .node a l p r, v, h, h2 => by
    have := h2.1
    rw [show v = .pointer none from h] at this
    injection this with this
    cases this
  | .node a l p r, .nil, v, h, h2 => by
    have := h.1
    rw [show v = .pointer none from h2] at this
    injection this with this
    cases this
  | .node a l p r, .node a' l' p' r', v, ⟨e, vl, vr, hb, hl, hr⟩, ⟨e', vl', vr', hb', hl', hr'⟩ => by
    have ee := e.symm.trans e'
    injection ee with ee
    injection ee with ee
    injection ee with ee _ _
    subst ee
    have hc : ∀ i : Nat, (ncs18 p vl vr (T18.node a l p r).ht (T18.node a l p r).flat.length)[i]? = (ncs18 p' vl' vr' (T18.node a l' p' r').ht (T18.node a l' p' r').flat.length)[i]? := fun i => (hb.cell i).symm.trans (hb'.cell i)
    have e0 : p.1 = p'.1 := st_inj18 (Option.some.inj (hc 0))
    have e1 : p.2 = p'.2 := st_inj18 (Option.some.inj (hc 1))
    have e2 : vl = vl' := Option.some.inj (hc 2)
    have e3 : vr = vr' := Option.some.inj (hc 3)
    subst e2 e3
    rw [Lies18.uniq hl hl', Lies18.uniq hr hr', show p = p' from Prod.ext e0 e1]
/-- The map at v has the tree t. -/
def Root18 (w : World) (v : Value) (t : T18) : Prop := (v = .pointer none ∧ t = .nil) ∨ ∃ g X, v = .pointer (some ⟨g, 0, none⟩) ∧ Blk w g 67 #[.pointer X] ∧ Lies18 w (.pointer X) t
section
variable {w w' : World} {v : Value} {t s : T18}
theorem Root18.below (h : Root18 w v t) (hb : Below w.heap.size w w') : Root18 w' v t := by
  rcases h with h | ⟨g, X, e, hk, hl⟩
  · exact .inl h
  · exact .inr ⟨g, X, e, hk.below hb hk.lt, hl.below hb⟩
theorem Root18.rows {g : Nat} {e : TypeId} {ds : Array Value} (h : Root18 w v t) (hk : Blk w g e ds) (hne : e ≠ 61) (hne2 : e ≠ 67) (hg : w.grownBy w' (some g)) : Root18 w' v t := by
  rcases h with h | ⟨g, X, e, hb, hl⟩
  · exact .inl h
  · exact .inr ⟨g, X, e, blk_other18 hb hk hne2 hg, hl.rows hk hne hg⟩
theorem Root18.uniq (h : Root18 w v t) (h' : Root18 w v s) : t = s := by
  rcases h with ⟨rfl, rfl⟩ | ⟨g, X, rfl, hk, hl⟩
  · rcases h' with ⟨_, rfl⟩ | ⟨g, X, e, _, _⟩
    · rfl
    · injection e with e
      cases e
  · rcases h' with ⟨e, _⟩ | ⟨g', X', e, hk', hl'⟩
    · injection e with e
      cases e
    · injection e with e
      injection e with e
      injection e with e _ _
      subst e
      have hX : Value.pointer X = Value.pointer X' := Option.some.inj ((hk.cell 0).symm.trans (hk'.cell 0))
      rw [← hX] at hl'
      exact hl.uniq hl'
end
set_option maxHeartbeats 1000000 in
theorem size18 (X : Option Addr) (t : T18) (w : World) (h : Lies18 w (.pointer X) t) : Calls Try.prog 32 #[.pointer X] w fun e w' => e = .returned (.int .i64 t.flat.length) ∧ w' = w := by
  cases t with
  | nil =>
    obtain rfl : X = none := by injection h
    go_enter Try.func32, Try.ntmps32
    go_wp2_with fail
    go_ret
    exact ⟨rfl, rfl⟩
  | node a l p r =>
    obtain ⟨e, vl, vr, hk, -, -⟩ := h
    injection e with e
    subst e
    have c5 : w.cell? ⟨a, 5, none⟩ = some (.int .i64 (T18.node a l p r).flat.length) := hk.cell 5
    obtain ⟨n, hn⟩ : ∃ n, (T18.node a l p r).flat.length = n := ⟨_, rfl⟩
    rw [hn] at c5
    rw [hn]
    clear hk hn
    go_enter Try.func32, Try.ntmps32
    go_wp2_with fail
    go_ret
    exact ⟨rfl, rfl⟩
set_option maxHeartbeats 1000000 in
theorem high18 (X : Option Addr) (t : T18) (w : World) (h : Lies18 w (.pointer X) t) : Calls Try.prog 35 #[.pointer X] w fun e w' => e = .returned (.int .i64 t.ht) ∧ w' = w := by
  cases t with
  | nil =>
    obtain rfl : X = none := by injection h
    go_enter Try.func35, Try.ntmps35
    go_wp2_with fail
    go_ret
    exact ⟨rfl, rfl⟩
  | node a l p r =>
    obtain ⟨e, vl, vr, hk, -, -⟩ := h
    injection e with e
    subst e
    have c5 : w.cell? ⟨a, 4, none⟩ = some (.int .i64 (T18.node a l p r).ht) := hk.cell 4
    obtain ⟨n, hn⟩ : ∃ n, (T18.node a l p r).ht = n := ⟨_, rfl⟩
    rw [hn] at c5
    rw [hn]
    clear hk hn
    go_enter Try.func35, Try.ntmps35
    go_wp2_with fail
    go_ret
    exact ⟨rfl, rfl⟩
set_option maxHeartbeats 1000000 in
theorem top18 (v : Value) (t : T18) (w : World) (h : Root18 w v t) : Calls Try.prog 26 #[v] w fun e w' => ∃ X, e = .returned (.pointer X) ∧ Lies18 w (.pointer X) t ∧ w' = w := by
  rcases h with ⟨rfl, rfl⟩ | ⟨g, X, rfl, hk, hl⟩
  · go_enter Try.func26, Try.ntmps26
    go_wp2_with fail
    go_ret
    exact ⟨none, rfl, rfl, rfl⟩
  · have c0 : w.cell? ⟨g, 0, none⟩ = some (.pointer X) := hk.cell 0
    have HL := Lib.hid hl
    clear hk hl
    go_enter Try.func26, Try.ntmps26
    go_wp2_with fail
    go_ret
    exact ⟨X, rfl, HL.out, rfl⟩
set_option maxHeartbeats 1000000 in
theorem of18 (X : Option Addr) (t : T18) (w : World) (h : Lies18 w (.pointer X) t) : Calls Try.prog 28 #[.pointer X] w fun e w' => ∃ v', e = .returned v' ∧ Root18 w' v' t ∧ Below w.heap.size w w' := by
  cases t with
  | nil =>
    obtain rfl : X = none := by injection h
    go_enter Try.func28, Try.ntmps28
    go_wp2_with fail
    go_ret
    exact ⟨.pointer none, rfl, .inl ⟨rfl, rfl⟩, Below.refl _ _⟩
  | node a l p r =>
    have HL := Lib.hid h
    obtain ⟨e, -⟩ := h
    injection e with e
    subst e
    go_enter Try.func28, Try.ntmps28
    go_wp2_with fail
    go_ret
    have hb := (Below.refl w.heap.size w).alloc (Nat.le_refl _) (.cells #[.pointer (some ⟨a, 0, none⟩)] 67)
    exact ⟨_, rfl, .inr ⟨w.heap.size, some ⟨a, 0, none⟩, rfl, Blk.new w _ _, HL.out.below hb⟩, hb⟩
/-- Where a key's node is. -/
def T18.seek (k : List UInt8) : T18 → Option Nat
  | .nil => none
  | .node a l p r => if p.1 = k then some a else if k < p.1 then l.seek k else r.seek k
def ptr18 (o : Option Nat) : Value := .pointer (o.map fun a => ⟨a, 0, none⟩)
/-- It is found, and has the key's value. -/
theorem seek_get {w : World} {k : List UInt8} : ∀ {t : T18} {v : Value}, Lies18 w v t → OrdL t.flat → (t.seek k = none ∧ getL t.flat k = none) ∨ ∃ a x vl vr h n, t.seek k = some a ∧ getL t.flat k = some x ∧ Blk w a 61 (ncs18 (k, x) vl vr h n)
  | .nil, v, _, _ => .inl ⟨rfl, rfl⟩
  | .node a l p r, v, ⟨e, vl, vr, hb, hl, hr⟩, ho => by
    have ho' : OrdL (l.flat ++ p :: r.flat) := ho
    by_cases hk : p.1 = k
    · subst hk
      refine .inr ⟨a, p.2, vl, vr, _, _, by rw [T18.seek, if_pos rfl], get_here ho', hb⟩
    · by_cases hlt : k < p.1
      · rw [T18.seek, if_neg hk, if_pos hlt, show getL (T18.node a l p r).flat k = getL l.flat k from get_front hlt _ _]
        exact seek_get hl ho'.parts.1
      · have hpk : p.1 < k := tx_total hlt (fun e => hk e.symm)
        rw [T18.seek, if_neg hk, if_neg hlt, show getL (T18.node a l p r).flat k = getL r.flat k from get_back ho' hpk]
        exact seek_get hr ho'.parts.2.1
set_option maxHeartbeats 1000000 in
theorem find18 (X : Option Addr) (t : T18) (k : List UInt8) (w : World) (h : Lies18 w (.pointer X) t) : Calls Try.prog 27 #[.pointer X, .string (st k)] w fun e w' => e = .returned (ptr18 (t.seek k)) ∧ w' = w := by
  obtain ⟨G, hG⟩ : ∃ G, t.seek k = G := ⟨_, rfl⟩
  rw [hG]
  have H0 := Lib.hid (And.intro h hG)
  clear h hG
  go_enter Try.func27, Try.ntmps27
  go_wp2_with fail
  go_loopg [0] (t.ht + 1) (fun gk x wx => wx = w ∧ ∃ s : T18, Hid (Lies18 w x s ∧ s.seek k = G) ∧ s.ht < gk)
  case atStart => exact ⟨rfl, t, H0, Nat.lt_succ_self _⟩
  case round =>
    obtain ⟨rfl, s, HS, hlt⟩ := hrel
    cases s with
    | nil =>
      obtain rfl := HS.out.1
      obtain rfl : G = none := HS.out.2.symm
      go_wp2_with fail
      go_ret
      exact ⟨rfl, rfl⟩
    | node a l p r =>
      obtain ⟨⟨rfl, vl, vr, hk, hl, hr⟩, hg⟩ := HS.out
      have c0 : wr.cell? ⟨a, 0, none⟩ = some (.string (st p.1)) := hk.cell 0
      have c2 : wr.cell? ⟨a, 2, none⟩ = some vl := hk.cell 2
      have c3 : wr.cell? ⟨a, 3, none⟩ = some vr := hk.cell 3
      have hht : l.ht < (T18.node a l p r).ht ∧ r.ht < (T18.node a l p r).ht := by simp only [T18.ht]; omega
      have HHT := Lib.hid hht
      have HL := Lib.hid hl
      have HRR := Lib.hid hr
      clear HS hk hl hr hht
      by_cases hkp : p.1 = k
      · subst hkp
        have hpp : (p.1 == p.1) = true := by simp
        rw [T18.seek, if_pos rfl] at hg
        subst hg
        go_wp2_with fail
        go_ret
        exact ⟨rfl, rfl⟩
      · have e1 : (p.1 == k) = false := by simpa using hkp
        rw [T18.seek, if_neg hkp] at hg
        by_cases hlk : k < p.1
        · have e2 : Op.bytesLess k p.1 = true := by rw [less_iff]; exact decide_eq_true hlk
          rw [if_pos hlk] at hg
          have HN := Lib.hid (show Lies18 wr vl l ∧ l.seek k = G from ⟨HL.out, hg⟩)
          clear hg hkp hlk
          go_wp2_with fail
          go_roundg (T18.node a l p r).ht
          case measure => exact hlt
          case rel => exact ⟨rfl, l, HN, HHT.out.1⟩
        · have e2 : Op.bytesLess k p.1 = false := by rw [less_iff]; exact decide_eq_false hlk
          rw [if_neg hlk] at hg
          have HN := Lib.hid (show Lies18 wr vr r ∧ r.seek k = G from ⟨HRR.out, hg⟩)
          clear hg hkp hlk
          go_wp2_with fail
          go_roundg (T18.node a l p r).ht
          case measure => exact hlt
          case rel => exact ⟨rfl, r, HN, HHT.out.2⟩
/-- A node's cells, and its sides, in all worlds behind. -/
theorem Lies18.open {w : World} {v : Value} {a : Nat} {l r : T18} {p : PT} (h : Lies18 w v (.node a l p r)) : ∃ Xl Xr, v = .pointer (some ⟨a, 0, none⟩) ∧ (∀ W, Below w.heap.size w W → Blk W a 61 #[.string (st p.1), .string (st p.2), .pointer Xl, .pointer Xr, .int .i64 (T18.node a l p r).ht, .int .i64 (T18.node a l p r).flat.length] ∧ Lies18 W (.pointer Xl) l ∧ Lies18 W (.pointer Xr) r) := by
  obtain ⟨rfl, vl, vr, hk, hl, hr⟩ := h
  obtain ⟨Xl, rfl⟩ := hl.ptr
  obtain ⟨Xr, rfl⟩ := hr.ptr
  exact ⟨Xl, Xr, rfl, fun W hW => ⟨hk.below hW hk.lt, hl.below hW, hr.below hW⟩⟩
set_option maxHeartbeats 1000000 in
theorem least18 (X : Option Addr) (a : Nat) (l : T18) (p : PT) (r : T18) (w : World) (h : Lies18 w (.pointer X) (.node a l p r)) : Calls Try.prog 39 #[.pointer X] w fun e w' => ∃ b m R ml mr h n, e = .returned (.pointer (some ⟨b, 0, none⟩)) ∧ (T18.node a l p r).flat = m :: R ∧ Blk w b 61 #[.string (st m.1), .string (st m.2), .pointer ml, .pointer mr, .int .i64 (h : Nat), .int .i64 (n : Nat)] ∧ w' = w := by
  obtain ⟨T, hT⟩ : ∃ T, T18.node a l p r = T := ⟨_, rfl⟩
  rw [hT] at h ⊢
  have H0 := Lib.hid h
  obtain ⟨F, hF⟩ : ∃ F, T.flat = F := ⟨_, rfl⟩
  rw [hF]
  have HF := Lib.hid hF
  have HT := Lib.hid hT
  clear h hF hT
  go_enter Try.func39, Try.ntmps39
  go_wp2_with fail
  go_loopg [0] (T.ht + 1) (fun gk x wx => wx = w ∧ ∃ a l p r, Hid (Lies18 w x (.node a l p r) ∧ ∃ R, (T18.node a l p r).flat ++ R = F) ∧ (T18.node a l p r).ht < gk)
  case atStart => exact ⟨rfl, a, l, p, r, Lib.hid ⟨by rw [HT.out]; exact H0.out, [], by rw [HT.out, List.append_nil]; exact HF.out⟩, by rw [HT.out]; exact Nat.lt_succ_self _⟩
  case round =>
    obtain ⟨rfl, a, l, p, r, HS, hlt⟩ := hrel
    obtain ⟨hs, R, hR⟩ := HS.out
    obtain ⟨Xl, Xr, rfl, hO⟩ := hs.open
    obtain ⟨hk, hl, hr⟩ := hO wr (Below.refl _ _)
    have c2 : wr.cell? ⟨a, 2, none⟩ = some (.pointer Xl) := hk.cell 2
    cases l with
    | nil =>
      obtain rfl : Xl = none := by injection hl
      have HN := Lib.hid (show F = p :: (r.flat ++ R) ∧ _ from ⟨hR.symm, hk⟩)
      clear hs hR hO hk hl hr HS
      go_wp2_with fail
      go_ret
      exact ⟨a, p, _, _, _, _, _, rfl, HN.out.1, HN.out.2, rfl⟩
    | node b l' q r' =>
      have HN := Lib.hid (show Lies18 wr (.pointer Xl) (.node b l' q r') ∧ ∃ R, (T18.node b l' q r').flat ++ R = F from ⟨hl, p :: (r.flat ++ R), by rw [← hR]; simp [T18.flat]⟩)
      have hht : (T18.node b l' q r').ht < (T18.node a (.node b l' q r') p r).ht := by
        show _ < max (T18.node b l' q r').ht r.ht + 1
        omega
      obtain ⟨rfl⟩ : Xl = some ⟨b, 0, none⟩ := by have := hl.1; injection this
      have HHT := Lib.hid hht
      clear hs hR hO hk hl hr HS hht
      go_wp2_with fail
      go_roundg (T18.node a (.node b l' q r') p r).ht
      case measure => exact hlt
      case rel => exact ⟨rfl, b, l', q, r', HN, HHT.out⟩
end Go.Proofs.Ytiomfkhblmmdoaa
