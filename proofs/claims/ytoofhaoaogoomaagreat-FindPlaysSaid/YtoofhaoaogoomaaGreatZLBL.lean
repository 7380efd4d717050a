/- What the landed index does, also where it is nil. No statement of the seat is proved here. -/
import Derived.Test.YtoofhaoaogoomaaGreatIxLandG
import Derived.Test.YtoofhaoaogoomaaGreatZLAL
import Derived.Test.YtoofhaoaogoomaaGreatZLAD
import Derived.Test.YtoofhaoaogoomaaGreatZLAB
import Derived.Test.YtoofhaoaogoomaaGreatZLBB
import Derived.Test.YtoofhaoaogoomaaGreatZLBC
import Derived.Shelf.SlicesG.Cells
import Derived.Shelf.SlicesG.Clone
import Derived.Shelf.SlicesG.Turned
import Derived.Ground.SlgnProg
import Derived.Test.YtoofhaoaogoomaaGreatProg
namespace Go.Proofs.YtoofhaoaogoomaaGreat
open Go Go.Maps Go.RowKit
set_option linter.unusedVariables false
set_option linter.unusedSimpArgs false
set_option maxRecDepth 100000

set_option maxRecDepth 100000 in
set_option maxHeartbeats 4000000 in
theorem get_nil (k : KeyT) (w : World) (hk : KeyT.Ok k) : Calls Tryz.prog 43 #[.pointer none, kv k] w fun e w' => e = .returned (.tuple #[pv (0, 0), .bool false]) ∧ Below w.heap.size w w' := by
  obtain ⟨X, hX⟩ : ∃ X, kcs k = X := ⟨_, rfl⟩
  obtain ⟨w1, hw1⟩ : ∃ w1, w.alloc (.cells X.toArray 29) = w1 := ⟨_, rfl⟩
  obtain ⟨sb, hsb⟩ : ∃ sb, w.heap.size = sb := ⟨_, rfl⟩
  obtain ⟨w2, hw2⟩ : ∃ w2, w1.alloc (.cells #[.int .i64 0, .int .i64 0] 40) = w2 := ⟨_, rfl⟩
  have hb1 : Below w.heap.size w w1 := hw1 ▸ (Below.refl _ _).alloc (Nat.le_refl _) _
  have hs1 : w1.heap.size = sb + 1 := by rw [← hw1, ← hsb]; simp
  have hb2 : Below w1.heap.size w1 w2 := hw2 ▸ (Below.refl _ _).alloc (Nat.le_refl _) _
  have hr : Blk w2 (sb + 1) 40 #[.int .i64 0, .int .i64 0] := by rw [← hs1, ← hw2]; exact Blk.new w1 _ _
  have f2 : w2.cell? ⟨sb + 1, 0, none⟩ = some (.int .i64 0) := hr.cell 0
  have f3 : w2.cell? ⟨sb + 1, 1, none⟩ = some (.int .i64 0) := hr.cell 1
  have f4 : w2.frozen? ⟨sb + 1, 0, none⟩ = false := hr.frozen 0
  have f5 : w2.frozen? ⟨sb + 1, 1, none⟩ = false := hr.frozen 1
  have HR := Lib.hid hr
  have HW := Lib.hid (And.intro hw1 (And.intro hw2 hsb))
  have HB := Lib.hid (hb1.trans (hb2.mono hb1.size))
  unfold kv
  rw [hX]
  clear hX hw1 hsb hs1 hb1 hw2 hb2 hr
  go_enter Tryz.func43, Tryz.ntmps43
  go_upto_region 1 with fail
  rw [HW.out.1, HW.out.2.1, HW.out.2.2]
  go_wp2_with fail
  (try simp only [Exit.inBlock, Exit.then])
  have hbl : Blk ((w2.setCell ⟨sb + 1, 0, none⟩ (.int .i64 0)).setCell ⟨sb + 1, 1, none⟩ (.int .i64 0)) (sb + 1) 40 #[.int .i64 0, .int .i64 0] := (HR.out.set_ 0 (.int .i64 0)).set_ 1 (.int .i64 0)
  obtain ⟨fp, hfp⟩ := place_desc
  refine bodyPost_ret (v := .tuple #[.agg #[.int .i64 0, .int .i64 0], .bool false]) ?_ rfl ⟨rfl, ?_⟩
  · exact res_row_tmpB rfl _ _ (sb + 1) 40 _ (0, 0) _ rfl hbl hfp rfl place_size _ rfl
  · have hb := HB.out
    rw [HW.out.2.2] at hb ⊢
    exact (hb.setCell (by simp) _).setCell (by simp) _
set_option maxRecDepth 100000 in
set_option maxHeartbeats 4000000 in
theorem drop_nil (k : KeyT) (w : World) (hk : KeyT.Ok k) : Calls Tryz.prog 39 #[.pointer none, kv k] w fun e w' => e = .returned (.bool false) ∧ Below w.heap.size w w' := by
  obtain ⟨X, hX⟩ : ∃ X, kcs k = X := ⟨_, rfl⟩
  have hXl : X.length = 33 := by rw [← hX]; exact kcs_length hk
  obtain ⟨w1, hw1⟩ : ∃ w1, w.alloc (.cells X.toArray 29) = w1 := ⟨_, rfl⟩
  obtain ⟨sb, hsb⟩ : ∃ sb, w.heap.size = sb := ⟨_, rfl⟩
  have hb1 : Below w.heap.size w w1 := hw1 ▸ (Below.refl _ _).alloc (Nat.le_refl _) _
  have hk1 : Blk w1 sb 29 X.toArray := by rw [← hsb, ← hw1]; exact Blk.new w _ _
  obtain ⟨fk, hfk⟩ := key_desc'
  have CG := Lib.hid (get_nil k w1 hk)
  have HW := Lib.hid (And.intro hw1 hsb)
  have HB := Lib.hid hb1
  have HK1 := Lib.hid hk1
  have HF := Lib.hid hfk
  have HXS := Lib.hid (show (Tryz.prog.info? 29).map (·.size) = some X.length by rw [hXl]; exact key_size)
  unfold kv at CG ⊢
  rw [hX] at CG ⊢
  clear hX hXl hw1 hsb hb1 hk1 hfk hk
  go_enter Tryz.func39, Tryz.ntmps39
  go_upto_region 1 with fail
  rw [HW.out.1, HW.out.2]
  go_wp2_with (first
    | (refine wpList_load_mid rfl 29 (.tmp 3) rfl sb 0 rfl X (.struct fk) (range_of_blk HK1.out) HF.out rfl HXS.out ?_)
    | (go_at_call 43; (with_reducible refine CG.out.mono ?_); rintro e w2 ⟨rfl, hb2⟩; have HB2 := Lib.hid hb2; clear hb2))
  go_ret
  exact ⟨rfl, HB.out.trans ((HB2.out.alloc HB2.out.size _).mono HB.out.size)⟩
set_option maxRecDepth 100000 in
set_option maxHeartbeats 4000000 in
theorem put_nil (k : KeyT) (p : Int × Int) (w : World) : Calls Tryz.prog 32 #[.pointer none, kv k, pv p] w fun e w' => e = .returned (.bool false) ∧ Below w.heap.size w w' := by
  obtain ⟨X, hX⟩ : ∃ X, kcs k = X := ⟨_, rfl⟩
  obtain ⟨Y, hY⟩ : ∃ Y, pvs p = Y := ⟨_, rfl⟩
  obtain ⟨w2, hw2⟩ : ∃ w2, (w.alloc (.cells X.toArray 29)).alloc (.cells Y.toArray 40) = w2 := ⟨_, rfl⟩
  have hb1 := (Below.refl w.heap.size w).alloc (Nat.le_refl _) (.cells X.toArray 29)
  have HB := Lib.hid (show Below w.heap.size w w2 from hw2 ▸ hb1.alloc hb1.size _)
  have HW := Lib.hid hw2
  unfold kv pv
  rw [hX, hY]
  clear hX hY hw2 hb1
  go_enter Tryz.func32, Tryz.ntmps32
  go_upto_region 1 with fail
  rw [HW.out]
  go_wp2_with fail
  go_ret
  exact ⟨rfl, HB.out⟩
set_option maxRecDepth 100000 in
set_option maxHeartbeats 4000000 in
theorem twins_nil (d : List UInt8) (w : World) : Calls Tryz.prog 54 #[.pointer none, .agg (bv d).toArray] w fun e w' => (∃ A c, e = .returned (.slice A 0 c)) ∧ Below w.heap.size w w' := by
  obtain ⟨X, hX⟩ : ∃ X, bv d = X := ⟨_, rfl⟩
  obtain ⟨w2, hw2⟩ : ∃ w2, w.alloc (.cells X.toArray 26) = w2 := ⟨_, rfl⟩
  have HB := Lib.hid (show Below w.heap.size w w2 from hw2 ▸ (Below.refl _ _).alloc (Nat.le_refl _) _)
  have HW := Lib.hid hw2
  rw [hX]
  clear hX hw2
  go_enter Tryz.func54, Tryz.ntmps54
  go_upto_region 1 with fail
  rw [HW.out]
  go_wp2_with fail
  go_ret
  exact ⟨⟨_, _, rfl⟩, HB.out⟩
set_option maxHeartbeats 4000000 in
theorem shelf_nil (at_ : Int) (w : World) : Calls Tryz.prog 55 #[.pointer none, .int .i64 at_] w fun e w' => (∃ A c, e = .returned (.slice A 0 c)) ∧ Below w.heap.size w w' := by
  go_enter Tryz.func55, Tryz.ntmps55
  go_wp2_with fail
  go_ret
  exact ⟨⟨_, _, rfl⟩, Below.refl _ _⟩
set_option maxHeartbeats 4000000 in
theorem all_nil (w : World) : Calls Tryz.prog 52 #[.pointer none] w fun e w' => (∃ A c, e = .returned (.slice A 0 c)) ∧ Below w.heap.size w w' := by
  go_enter Tryz.func52, Tryz.ntmps52
  go_wp2_with fail
  go_ret
  exact ⟨⟨_, _, rfl⟩, Below.refl _ _⟩
theorem len_nil' (w : World) : Calls Tryz.prog 53 #[.pointer none] w fun e w' => e = .returned (.int .i64 0) ∧ Below w.heap.size w w' := by
  go_enter Tryz.func53, Tryz.ntmps53
  go_wp2_with fail
  go_ret
  exact ⟨rfl, Below.refl _ _⟩
theorem indexesOk : IndexesOk Ist where
  lt h := Ist.lt h
  keep h := Ist.keep h
  ok h := Ist.ok h
  new := new_any
  put s F L k p w h hl hk hp := put_any w s F L h hl k hk p hp
  get s F L k w h hl hk := get_any w s F L h k hk
  drop s F L k w h hl hk := drop_any w s F L h k hk
  twins s F L d w h hl hd := twins_any w s F L h hl d hd
  shelf s F L at_ w h hl hat := shelf_any w s F L h hl at_ hat
  len s F L w h hl := len_any w s F L h
  all s F L w h hl := all_any w s F L h hl
theorem indexNilOk : IndexNilOk where
  put k p w hk hp := put_nil k p w
  get k w hk := get_nil k w hk
  drop k w hk := drop_nil k w hk
  twins d w hd := twins_nil d w
  shelf at_ w hat := shelf_nil at_ w
  len := len_nil'
  all := all_nil
end Go.Proofs.YtoofhaoaogoomaaGreat
/- What the package's caches do, as the statements' walks use it. No statement of the seat is proved here. -/
namespace Go.Proofs.YtoofhaoaogoomaaGreat
open Go.RowKit
set_option linter.unusedVariables false

/-- What the calls of the package do: Ct w s F S says that in w the cache at s, in the blocks F, has room and tables S. -/
structure CachesOk (Ct : World → Addr → (Nat → Prop) → CS → Prop) : Prop where
  lt : ∀ {w s F S}, Ct w s F S → ∀ g, F g → g < w.heap.size
  keep : ∀ {w w' : World} {s F S}, Ct w s F S → (∀ g, F g → w'.heap[g]? = w.heap[g]?) → Ct w' s F S
  ok : ∀ {w s F S}, Ct w s F S → S.Ok
  new : ∀ (n : Nat) w, n ≤ 4096 → Calls Tryz.prog 28 #[.int .i64 n] w fun e w' => ∃ s F, e = .returned (.tuple #[.pointer (some s), .int .i64 0]) ∧ Ct w' s F ⟨n, []⟩ ∧ (∀ g, F g → w.heap.size ≤ g) ∧ Below w.heap.size w w'
  newNo : ∀ (room : Int) w, In64 room → ¬ (0 ≤ room ∧ room ≤ 4096) → Calls Tryz.prog 28 #[.int .i64 room] w fun e w' => e = .returned (.tuple #[.pointer none, .int .i64 1]) ∧ Below w.heap.size w w'
  load : ∀ s F S (sh : Int) A ls n c (draw : Nat) w, Ct w s F S → In64 sh → draw < 18446744073709551616 → ls.length = n → n ≤ c → c ≤ maxLen → n ≤ 1000 → RdRw w w.heap.size A ls → (∀ ad, A = some ad → 0 < n → ¬ F ad.block) →
    Calls Tryz.prog 44 #[.pointer (some s), .int .i64 sh, .slice A n c, .int .u64 draw] w fun e w' => e = .returned (.tuple #[]) ∧ Turned Ct w s F w' (loadC S sh ls draw)
  get : ∀ s F S k w, Ct w s F S → KeyT.Ok k → Calls Tryz.prog 42 #[.pointer (some s), kv k] w fun e w' => e = .returned (.tuple #[pv (getC S k), .bool (knowsC S k)]) ∧ Below w.heap.size w w'
  has : ∀ s F S (sh : Int) w, Ct w s F S → In64 sh → Calls Tryz.prog 60 #[.pointer (some s), .int .i64 sh] w fun e w' => e = .returned (.bool (hasC S sh)) ∧ Below w.heap.size w w'
  drop : ∀ s F S (sh : Int) w, Ct w s F S → In64 sh → Calls Tryz.prog 34 #[.pointer (some s), .int .i64 sh] w fun e w' => e = .returned (.bool (hasC S sh)) ∧ Turned Ct w s F w' (dropC S sh)
/-- What they do on nil. -/
structure CacheNilOk : Prop where
  load : ∀ (sh : Int) A ls n c (draw : Nat) w, In64 sh → draw < 18446744073709551616 → ls.length = n → n ≤ c → c ≤ maxLen → n ≤ 1000 → RdRw w w.heap.size A ls → Calls Tryz.prog 44 #[.pointer none, .int .i64 sh, .slice A n c, .int .u64 draw] w fun e w' => e = .returned (.tuple #[]) ∧ Below w.heap.size w w'
  get : ∀ k w, KeyT.Ok k → Calls Tryz.prog 42 #[.pointer none, kv k] w fun e w' => e = .returned (.tuple #[pv (0, 0), .bool false]) ∧ Below w.heap.size w w'
  has : ∀ (sh : Int) w, In64 sh → Calls Tryz.prog 60 #[.pointer none, .int .i64 sh] w fun e w' => e = .returned (.bool false) ∧ Below w.heap.size w w'
  drop : ∀ (sh : Int) w, In64 sh → Calls Tryz.prog 34 #[.pointer none, .int .i64 sh] w fun e w' => e = .returned (.bool false) ∧ Below w.heap.size w w'
section
variable {Ct : World → Addr → (Nat → Prop) → CS → Prop} {w0 w w' : World} {s : Addr} {F N : Nat → Prop} {S : CS}
theorem CachesOk.firm (K : CachesOk Ct) : Firm Ct := ⟨K.lt, K.keep⟩
theorem CachesOk.on (K : CachesOk Ct) (h : Turned Ct w0 s N w S) (hb : Below w.heap.size w w') : Turned Ct w0 s N w' S := K.firm.on h hb
theorem CachesOk.good (K : CachesOk Ct) (h : Turned Ct w0 s N w S) : S.Ok := by
  obtain ⟨F, h1, _⟩ := h
  exact K.ok h1
theorem CachesOk.new' (K : CachesOk Ct) (hb : Below w0.heap.size w0 w) (n : Nat) (hn : n ≤ 4096) : Calls Tryz.prog 28 #[.int .i64 n] w fun e w' => ∃ s, e = .returned (.tuple #[.pointer (some s), .int .i64 0]) ∧ Turned Ct w0 s (fun _ => False) w' ⟨n, []⟩ :=
  (K.new n w hn).mono fun e w' ⟨s, F, h1, h2, h3, h4⟩ => ⟨s, h1, F, h2, fun g hg => .inr (Nat.le_trans hb.size (h3 g hg)), Only.of_below (hb.trans (h4.mono hb.size))⟩
/-- A list that lies outside: told of no blocks of the cache's that stood at the start. -/
theorem CachesOk.load' (K : CachesOk Ct) (h : Turned Ct w0 s N w S) (sh : Int) (hs : In64 sh) (A : Option Addr) (ls : List RowT) (n c draw : Nat) (hd : draw < 18446744073709551616) (hl : ls.length = n) (hc : n ≤ c) (hm : c ≤ maxLen) (hn : n ≤ 1000) (hr : RdRw w w.heap.size A ls)
    (ho : ∀ ad, A = some ad → 0 < n → ad.block < w0.heap.size ∧ ¬ N ad.block) :
    Calls Tryz.prog 44 #[.pointer (some s), .int .i64 sh, .slice A n c, .int .u64 draw] w fun e w' => e = .returned (.tuple #[]) ∧ Turned Ct w0 s N w' (loadC S sh ls draw) := by
  obtain ⟨F, h1, h2, h3⟩ := h
  refine (K.load s F S sh A ls n c draw w h1 hs hd hl hc hm hn hr fun ad e h0 hf => ?_).mono fun e w' ⟨he, ht⟩ => ⟨he, Turned.step h2 h3 ht⟩
  obtain ⟨a1, a2⟩ := ho ad e h0
  rcases h2 _ hf with h | h
  · exact a2 h
  · omega
theorem CachesOk.drop' (K : CachesOk Ct) (h : Turned Ct w0 s N w S) (sh : Int) (hs : In64 sh) :
    Calls Tryz.prog 34 #[.pointer (some s), .int .i64 sh] w fun e w' => e = .returned (.bool (hasC S sh)) ∧ Turned Ct w0 s N w' (dropC S sh) := by
  obtain ⟨F, h1, h2, h3⟩ := h
  exact (K.drop s F S sh w h1 hs).mono fun e w' ⟨he, ht⟩ => ⟨he, Turned.step h2 h3 ht⟩
theorem CachesOk.get' (K : CachesOk Ct) (h : Turned Ct w0 s N w S) (k : KeyT) (hk : KeyT.Ok k) : Calls Tryz.prog 42 #[.pointer (some s), kv k] w fun e w' => e = .returned (.tuple #[pv (getC S k), .bool (knowsC S k)]) ∧ Below w.heap.size w w' := by
  obtain ⟨F, h1, _⟩ := h
  exact K.get s F S k w h1 hk
theorem CachesOk.has' (K : CachesOk Ct) (h : Turned Ct w0 s N w S) (sh : Int) (hs : In64 sh) : Calls Tryz.prog 60 #[.pointer (some s), .int .i64 sh] w fun e w' => e = .returned (.bool (hasC S sh)) ∧ Below w.heap.size w w' := by
  obtain ⟨F, h1, _⟩ := h
  exact K.has s F S sh w h1 hs
end
end Go.Proofs.YtoofhaoaogoomaaGreat
/- The maps of package cache: a table (places by keys), tables by shelves. No statement of the seat is proved here. -/
namespace Go.Proofs.YtoofhaoaogoomaaGreat
open Go Go.Maps Go.RowKit Go.ChangeShapes Go.WideShapes Go.ChangeAt Go.Deep Go.Joins
set_option linter.unusedVariables false

/-- Places by keys. -/
def mkPT : MK Tryz.prog 121 29 40 KeyT (Int × Int) where
  encK k := .agg (kcs k).toArray
  okK := KeyT.Ok
  lit := kl
  R := placeEl
  encV p := .agg #[.int .i64 p.1, .int .i64 p.2]
  dat p := .agg [.lit (.int .i64 p.1), .lit (.int .i64 p.2)]
  zero := (0, 0)
theorem okPT : mkPT.Ok where
  keyed := keyLaw
  und := Tryz.underlying121
  key := kl_is
  inj := agg_kcs
  val _ := rfl
  valInj := placeEl_inj
  datInj h := by
    simp only [mkPT, DataW.agg.injEq, List.cons.injEq, DataW.lit.injEq, Lit.int.injEq, true_and, and_true] at h
    exact Prod.ext h.1 h.2
  zeroV _ := by kernel_rfl
/-- Tables by shelves. -/
def mkOT : MK Tryz.prog 97 3 121 Int (Option Nat) where
  encK x := .int .i64 x
  okK := In64
  lit x := .int .i64 x
  R := mapEl
  encV b := .map b
  dat := mapDat
  zero := none
theorem okOT : mkOT.Ok where
  keyed := int_keyed Tryz.underlying3
  und := Tryz.underlying97
  key h := keyOf_int_mk Tryz.underlying3 (in64_wf h)
  inj _ _ h := by injection h
  val := mapEl_val
  valInj := mapEl_inj
  datInj := mapDat_inj
  zeroV _ := by kernel_rfl
/-- The pairs of a table are the first rows of their keys. -/
def Firsts (L : List (KeyT × (Int × Int))) (ls : List RowT) : Prop := ∀ k, L.find? (fun x => decide (x.1 = k)) = ls.find? fun r => decide (r.1 = k)
theorem Firsts.nil : Firsts [] [] := fun _ => rfl
theorem hasM_find {β : Type} {L : List (KeyT × β)} {k : KeyT} : hasM L k = (L.find? fun x => decide (x.1 = k)).isSome := by
  unfold hasM
  rw [Bool.eq_iff_iff, List.any_eq_true, List.find?_isSome]
theorem Firsts.had {L : List (KeyT × (Int × Int))} {ls : List RowT} {r : RowT} (h : Firsts L ls) (hh : hasM L r.1 = true) : Firsts L (ls ++ [r]) := fun k => by
  rw [List.find?_append, ← h k]
  cases hf : L.find? (fun x => decide (x.1 = k)) with
  | some x => rfl
  | none =>
    have : ¬ r.1 = k := by
      rintro rfl
      rw [hasM_find, hf] at hh
      cases hh
    simp [this]
theorem Firsts.new {L : List (KeyT × (Int × Int))} {ls : List RowT} {r : RowT} (h : Firsts L ls) (hh : hasM L r.1 = false) : Firsts (putM L r.1 r.2) (ls ++ [r]) := fun k => by
  rw [List.find?_append, ← h k]
  unfold putM
  by_cases e : r.1 = k
  · subst e
    have : L.find? (fun x => decide (x.1 = r.1)) = none := by
      rw [hasM_find] at hh
      cases hf : L.find? (fun x => decide (x.1 = r.1)) with
      | none => rfl
      | some x => rw [hf] at hh; cases hh
    rw [this]
    simp
  · have h1 : (delM L r.1).find? (fun x => decide (x.1 = k)) = L.find? fun x => decide (x.1 = k) := by
      unfold delM
      rw [List.find?_filter]
      congr 1
      funext x
      by_cases e2 : x.1 = k
      · have : x.1 ≠ r.1 := fun e3 => e (by rw [← e2, e3])
        simp [e2]
        intro e4
        exact e e4.symm
      · simp [e2]
    rw [List.find?_cons_of_neg (by simpa using e), h1]
    simp [e]
theorem Firsts.get {L : List (KeyT × (Int × Int))} {ls : List RowT} (h : Firsts L ls) (k : KeyT) : hasM L k = (ls.find? fun r => decide (r.1 = k)).isSome ∧ getM mkPT L k = match ls.find? fun r => decide (r.1 = k) with
  | some r => r.2
  | none => (0, 0) := by
  rw [hasM_find, ← h k]
  refine ⟨rfl, ?_⟩
  unfold getM
  cases L.find? (fun x => decide (x.1 = k)) <;> rfl
end Go.Proofs.YtoofhaoaogoomaaGreat
/- Layings of the library's contracts, in plain words. No statement of the seat is proved here. -/
namespace Go.Proofs.YtoofhaoaogoomaaGreat
open Go.Proofs Go.Shelf
def idxInt_ren : Go.Shelf.Ren := ⟨fun | 29 => 62 | n => n, fun | 22 => 98 | 23 => 3 | 3 => 3 | 0 => 0 | 4 => 4 | n => n, fun | n => n⟩
theorem idxInt : Go.Proofs.SlLaysN.n29 Tryz.prog idxInt_ren := {
  mixed := by kernel_rfl
  f29 := ⟨Tryz.f62.name, by decide, Tryz.func62.trans (congrArg some (by kernel_rfl))⟩
  t0 := Tryz.underlying0
  a0 := Tryz.isAgg0
  z0 := Tryz.sizeOf0
  v0 := Tryz.zeroValue0
  t3 := Tryz.underlying3
  a3 := Tryz.isAgg3
  z3 := Tryz.sizeOf3
  v3 := Tryz.zeroValue3
  t4 := Tryz.underlying4
  a4 := Tryz.isAgg4
  z4 := Tryz.sizeOf4
  v4 := Tryz.zeroValue4
  t22 := Tryz.underlying98
  a22 := Tryz.isAgg98
  z22 := Tryz.sizeOf98
  v22 := Tryz.zeroValue98
  t23 := Tryz.underlying3
  a23 := Tryz.isAgg3
  z23 := Tryz.sizeOf3
  v23 := Tryz.zeroValue3
}
def delInt_ren : Go.Shelf.Ren := ⟨fun | 45 => 79 | n => n, fun | 22 => 98 | 23 => 3 | 3 => 3 | 4 => 4 | 0 => 0 | n => n, fun | n => n⟩
theorem delInt : Go.Proofs.SlLaysN.n45 Tryz.prog delInt_ren := {
  mixed := by kernel_rfl
  f45 := ⟨Tryz.f79.name, by decide, Tryz.func79.trans (congrArg some (by kernel_rfl))⟩
  t0 := Tryz.underlying0
  a0 := Tryz.isAgg0
  z0 := Tryz.sizeOf0
  v0 := Tryz.zeroValue0
  t3 := Tryz.underlying3
  a3 := Tryz.isAgg3
  z3 := Tryz.sizeOf3
  v3 := Tryz.zeroValue3
  t4 := Tryz.underlying4
  a4 := Tryz.isAgg4
  z4 := Tryz.sizeOf4
  v4 := Tryz.zeroValue4
  t22 := Tryz.underlying98
  a22 := Tryz.isAgg98
  z22 := Tryz.sizeOf98
  v22 := Tryz.zeroValue98
  t23 := Tryz.underlying3
  a23 := Tryz.isAgg3
  z23 := Tryz.sizeOf3
  v23 := Tryz.zeroValue3
  i23 := by kernel_rfl
}
end Go.Proofs.YtoofhaoaogoomaaGreat
