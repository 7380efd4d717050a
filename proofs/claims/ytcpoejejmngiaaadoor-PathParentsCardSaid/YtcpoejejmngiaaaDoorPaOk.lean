/- What the landed package path does, from the library's contracts. No statement of the seat is proved here. -/
import Derived.Test.YtcpoejejmngiaaaDoorPaLandC
import Derived.Test.YtcpoejejmngiaaaDoorPaLayB
import Derived.Test.YtcpoejejmngiaaaDoorPaTwo
import Derived.Test.YtcpoejejmngiaaaDoorPaArg
import Derived.Shelf.Unicode.ValidAny
import Derived.Shelf.Slices.Equal
import Derived.Shelf.Strings.Split
import Derived.Shelf.Strings.OnBuilder
import Derived.Shelf.Small.Wraps
import Derived.Shelf.Vars
import Derived.PinnedBridge
import Derived.Lib.LaidU8
import Derived.MakeChecks
import Derived.Test.YtcpoejejmngiaaaDoorRows
namespace Go.Proofs.YtcpoejejmngiaaaDoor
open Go.RowKit
set_option linter.unusedVariables false
set_option linter.unusedSimpArgs false
set_option maxRecDepth 100000

/-- What the package needs of the world: the tables of unicode/utf8, a number in internal/bytealg.MaxLen. -/
def PaG (w : World) : Prop := Lib.Utf8Tabs 0 1 w ∧ ∃ m : Int, w.cell? ⟨2, 0, none⟩ = some (.int .i64 m)
theorem paG_keep (w w' : World) (h : PaG w) (hb : Below w.heap.size w w') : PaG w' := by
  obtain ⟨h1, m, h2⟩ := h
  exact ⟨Utf8Tabs_below h1 hb, m, by rw [hb.cell (World.block_lt_of_cell? _ _ h2)]; exact h2⟩
theorem lib_valid (s : List UInt8) (hs : s.length ≤ 1000) (w : World) (hG : PaG w) : Calls Tryd.prog 26 #[.string (st s)] w fun e w' => e = .returned (.bool (Lib.validD s)) ∧ Below w.heap.size w w' := by
  have h : Calls Tryd.prog 26 #[.string (st s)] w fun e w' => e = .returned (.bool (Lib.validD (st s).data.toList)) ∧ Below w.heap.size w w' := Any.utf8_ValidString validLay (st s) w (by rw [st_size]; omega) hG.1
  rw [st_data] at h
  exact h
theorem lib_cut (s : List UInt8) (w : World) : Calls Tryd.prog 23 #[.string (st s), .string { data := #[47] }] w fun e w' => e = .returned (.tuple #[.string (st (Lib.trimPrefix s [47])), .bool (Lib.hasPrefix s [47])]) ∧ w' = w := by
  have h : Calls Tryd.prog 23 #[.string (st s), .string (st [47])] w fun e w' => e = .returned (.tuple #[.string (st (Lib.trimPrefix (st s).data.toList (st [47]).data.toList)), .bool (Lib.hasPrefix (st s).data.toList (st [47]).data.toList)]) ∧ w' = w := Any.strings_CutPrefix cutLay (st s) (st [47]) w
  rw [st_data, st_data] at h
  exact h
theorem lib_cutYes (t : List UInt8) (w : World) : Calls Tryd.prog 23 #[.string (st (47 :: t)), .string { data := #[47] }] w fun e w' => e = .returned (.tuple #[.string (st t), .bool true]) ∧ w' = w := by
  have h := lib_cut (47 :: t) w
  have e1 : Lib.hasPrefix (47 :: t) [47] = true := by simp [Lib.hasPrefix, List.isPrefixOf]
  have e2 : Lib.trimPrefix (47 :: t) [47] = t := by unfold Lib.trimPrefix; rw [if_pos e1]; rfl
  rw [e1, e2] at h
  exact h
theorem lib_cutNo (s : List UInt8) (w : World) (hn : ∀ t, s ≠ 47 :: t) : Calls Tryd.prog 23 #[.string (st s), .string { data := #[47] }] w fun e w' => e = .returned (.tuple #[.string (st s), .bool false]) ∧ w' = w := by
  have h := lib_cut s w
  have e1 : Lib.hasPrefix s [47] = false := by
    cases s with
    | nil => rfl
    | cons b l =>
      have hb : ¬ (47 : UInt8) = b := fun e => hn l (by rw [e])
      simp [Lib.hasPrefix, List.isPrefixOf, hb]
  have e2 : Lib.trimPrefix s [47] = s := by unfold Lib.trimPrefix; rw [if_neg (by rw [e1]; decide)]
  rw [e1, e2] at h
  exact h
theorem lib_splitN (t : List UInt8) (ht : t.length ≤ 100000) (w : World) (hG : PaG w) : Calls Tryd.prog 24 #[.string (st t), .string { data := #[47] }, .int .i64 17] w fun e w' => ∃ A c, e = .returned (.slice A (cutL t).length c) ∧ (cutL t).length ≤ c ∧ c ≤ 17 ∧ RdT w' w'.heap.size A (cutL t) ∧ Below w.heap.size w w' := by
  obtain ⟨_, m, hm⟩ := hG
  obtain ⟨L, hL⟩ : ∃ L, Lib.splitB (st [47]) 0 (min 17 ((st t).size + 1) - 1) (st t) = L := ⟨_, rfl⟩
  have hdat : L.map (fun b => b.data.toList) = cutL t := by
    rw [← hL, Lib.splitB_data, st_data, st_data, st_size]
    rfl
  have hstr : L = (cutL t).map st := by
    rw [← hdat, List.map_map]
    conv => lhs; rw [← List.map_id L]
    exact List.map_congr_left fun b _ => (st_of b).symm
  have hlen : L.length = (cutL t).length := by rw [← hdat, List.length_map]
  have hle : (cutL t).length ≤ min 17 (t.length + 1) := by
    rw [← hlen, ← hL]
    have := Lib.splitB_length_le (st [47]) 0 (min 17 ((st t).size + 1) - 1) (st t)
    rw [st_size] at this ⊢
    omega
  have h : Calls Tryd.prog 24 #[.string (st t), .string (st [47]), .int .i64 ((17 : Nat) : Int)] w fun e w' => e = .returned (.slice (some ⟨w.heap.size, 0, none⟩) (Lib.splitB (st [47]) 0 (min 17 ((st t).size + 1) - 1) (st t)).length (min 17 ((st t).size + 1))) ∧ w' = w.alloc (.cells (Lib.cellsOf (Lib.splitB (st [47]) 0 (min 17 ((st t).size + 1) - 1) (st t)) (min 17 ((st t).size + 1))) 9) :=
    Any.strings_SplitN splitLay (by kernel_rfl) (st t) (st [47]) 17 m w (by rw [st_size]; omega) hm (by rw [st_size]; decide) (by decide) (by decide)
  rw [hL, hlen] at h
  refine h.mono ?_
  rintro e w' ⟨rfl, rfl⟩
  refine ⟨_, _, rfl, by rw [st_size]; exact hle, by omega, fun hn => ?_, (Below.refl _ _).alloc (Nat.le_refl _) _⟩
  have hk := Blk.new w 9 (Lib.cellsOf L (min 17 ((st t).size + 1)))
  refine ⟨w.heap.size, 0, rfl, hk.lt, fun j hj i v hv => ?_⟩
  have hj' : j < (cutL t).length := by simpa using hj
  rw [List.getElem_map] at hv
  have hi : i = 0 := by
    have := (List.getElem?_eq_some_iff.1 hv).1
    simp [tcs] at this
    exact this
  subst hi
  simp only [tcs, List.getElem?_cons_zero, Option.some.injEq] at hv
  rw [hk.cell, ← hv]
  unfold Lib.cellsOf
  rw [List.getElem?_toArray, List.getElem?_append_left (by rw [List.length_map]; omega), hstr, List.map_map, List.getElem?_map, List.getElem?_eq_getElem (by omega)]
  simp
theorem lib_join (A : Option Addr) (ls : List (List UInt8)) (m c : Nat) (w : World) (hl : ls.length = m) (hm : m ≤ 16) (hc : m ≤ c) (hx : ∀ x ∈ ls, x.length ≤ 100) (hr : RdT w w.heap.size A ls) : Calls Tryd.prog 27 #[.slice A m c, .string { data := #[47] }] w fun e w' => e = .returned (.string (st (Lib.join ls [47]))) ∧ Below w.heap.size w w' := by
  have X : Builder.Extra Tryd.prog joinLay_ren := { sizeBuilder := by kernel_rfl, liesBuilder := by kernel_rfl, t5 := Tryd.underlying5, a5 := Tryd.isAgg5, z5 := Tryd.sizeOf5, v5 := Tryd.zeroValue5, infoByte := by kernel_rfl, cellsByte := by kernel_rfl, sizeByte := by kernel_rfl, neB5 := by decide }
  cases ls with
  | nil =>
    obtain rfl : m = 0 := hl.symm
    have h : Calls Tryd.prog 27 #[.slice A 0 c, .string (st [47])] w fun e w' => e = .returned (.string ⟨#[]⟩) ∧ w' = w := Any.strings_Join_none joinLay X A c (st [47]) w
    refine h.mono ?_
    rintro e w' ⟨rfl, rfl⟩
    exact ⟨rfl, Below.refl _ _⟩
  | cons x r =>
    obtain ⟨g, off, rfl, hg, _⟩ := hr.at_ (j := 0) (by simp)
    have hmap : ((x :: r).map st).map (fun b => b.data.toList) = x :: r := by
      rw [List.map_map]
      conv => rhs; rw [← List.map_id (x :: r)]
      exact List.map_congr_left fun b _ => st_data b
    have hjl : (Lib.join (x :: r) [47]).length ≤ 10000 := by
      have hsum : ∀ l : List (List UInt8), (∀ y ∈ l, y.length ≤ 100) → Lib.lens l ≤ 100 * l.length := by
        intro l
        induction l with
        | nil => intro _; simp [Lib.lens]
        | cons y l ih =>
          intro hy
          have h1 := ih fun z hz => hy z (by simp [hz])
          have h2 := hy y (by simp)
          simp only [Lib.lens, List.map_cons, List.sum_cons, List.length_cons] at h1 ⊢
          omega
      have := hsum (x :: r) hx
      rw [Lib.join_length]
      simp only [List.length_cons, List.length_nil] at this hl ⊢
      omega
    have h : Calls Tryd.prog 27 #[.slice (some ⟨g, off, none⟩) ((x :: r).map st).length c, .string (st [47])] w fun e w' => e = .returned (.string ⟨(Lib.join (((x :: r).map st).map (fun b => b.data.toList)) (st [47]).data.toList).toArray⟩) ∧ Below w.heap.size w w' :=
      Any.strings_Join joinLay X g off c ((x :: r).map st) (st [47]) w (fun j y hy => by
        rw [List.getElem?_map] at hy
        obtain ⟨z, hz, rfl⟩ := Option.map_eq_some_iff.1 hy
        obtain ⟨hj, rfl⟩ := List.getElem?_eq_some_iff.1 hz
        obtain ⟨g', off', e, _, hcell⟩ := hr.at_ hj
        cases e
        exact hcell) hg (by rw [List.length_map, hl]; omega) (by rw [List.length_map, hl]; exact hc) (by rw [hmap, st_data]; omega)
    rw [hmap, st_data, List.length_map, hl] at h
    exact h
theorem lib_equal (A B : Option Addr) (l1 l2 : List (List UInt8)) (n c d : Nat) (w : World) (h1 : l1.length = n) (h2 : l2.length = n) (hn : n ≤ 1000) (r1 : RdT w w.heap.size A l1) (r2 : RdT w w.heap.size B l2) : Calls Tryd.prog 35 #[.slice A n c, .slice B n d] w fun e w' => e = .returned (.bool (decide (l1 = l2))) ∧ Below w.heap.size w w' := by
  by_cases h0 : n = 0
  · subst h0
    obtain rfl := List.eq_nil_of_length_eq_zero h1
    obtain rfl := List.eq_nil_of_length_eq_zero h2
    have h : Calls Tryd.prog 35 #[.slice A 0 c, .slice B 0 d] w fun e w' => e = .returned (.bool (decide (0 = 0))) ∧ w' = w := Any.slices_Equal_string_empty equalLay A B c 0 d w (by decide)
    refine h.mono ?_
    rintro e w' ⟨rfl, rfl⟩
    exact ⟨rfl, Below.refl _ _⟩
  · obtain ⟨g, off, rfl, hg, _⟩ := r1.at_ (j := 0) (by omega)
    obtain ⟨g', off', rfl, hg', _⟩ := r2.at_ (j := 0) (by omega)
    have hc : ∀ {l : List (List UInt8)} {G o : Nat}, RdT w w.heap.size (some ⟨G, o, none⟩) l → ∀ j, j < (l.map st).length → w.cell? ⟨G, o + j, none⟩ = some (.string ((l.map st).getD j ByteArray.empty)) := by
      intro l G o hr j hj
      have hj' : j < l.length := by simpa using hj
      obtain ⟨g9, o9, e, _, hcell⟩ := hr.at_ hj'
      cases e
      rw [hcell, List.getD_eq_getElem?_getD, List.getElem?_map, List.getElem?_eq_getElem hj']
      rfl
    have h : Calls Tryd.prog 35 #[.slice (some ⟨g, off, none⟩) n c, .slice (some ⟨g', off', none⟩) n d] w fun e w' => e = .returned (.bool (decide ((l1.map st).take n = (l2.map st).take n))) ∧ ∃ q, w' = w.drewN q :=
      Any.slices_Equal_string equalLay g off n c g' off' n d (l1.map st) (l2.map st) w (by rw [List.length_map]; omega) (by rw [List.length_map]; omega) (by omega) (by omega) (hc r1) (hc r2)
    have hiff : ((l1.map st).take n = (l2.map st).take n) ↔ l1 = l2 := by
      rw [List.take_of_length_le (by rw [List.length_map]; omega), List.take_of_length_le (by rw [List.length_map]; omega)]
      constructor
      · intro he
        have := congrArg (List.map fun b => b.data.toList) he
        rw [List.map_map, List.map_map] at this
        have hid : ∀ l : List (List UInt8), l.map ((fun b => b.data.toList) ∘ st) = l := fun l => by
          conv => rhs; rw [← List.map_id l]
          exact List.map_congr_left fun b _ => st_data b
        rwa [hid, hid] at this
      · rintro rfl; rfl
    have hdec : decide ((l1.map st).take n = (l2.map st).take n) = decide (l1 = l2) := by
      by_cases he : l1 = l2
      · rw [decide_eq_true he, decide_eq_true (hiff.2 he)]
      · rw [decide_eq_false he, decide_eq_false fun q => he (hiff.1 q)]
    rw [hdec] at h
    refine h.mono ?_
    rintro e w' ⟨rfl, q, rfl⟩
    exact ⟨rfl, below_drewN (Below.refl _ _) q⟩
theorem paLib : PaLib PaG where
  keep := paG_keep
  valid := lib_valid
  cutYes := lib_cutYes
  cutNo := lib_cutNo
  splitN := lib_splitN
  join := lib_join
  equal := lib_equal
theorem pathsOk : PathsOk PaG where
  keep := paG_keep
  name := fun s hs w hG => name_any paLib s (Nat.le_trans hs (by decide)) w hG
  parse := fun s hs w hG => parse_any paLib s hs w hG
  text := fun hl hmc hc hm hx hG hr => text_any paLib hl hmc hm hx hG hr
  parent := fun s hs w hG => parent_any paLib s hs w hG
  within := fun s d hs hd w hG => within_any paLib s d hs hd w hG
  child := fun s d hs hd w hG => child_any paLib s d hs hd w hG
/-- The world of a row that lists the tables. -/
theorem paG_of {l : List (String × DataW Unit)} {w : World} (hp : (l.all fun x => x.2.handleName?.isNone) = true) (h1 : ("unicode/utf8.first", Lib.firstData) ∈ l) (h2 : ("unicode/utf8.acceptRanges", Lib.acceptData) ∈ l) (hL : laidMetH Tryd.prog l w) (hsh : w.ShapedOpen Tryd.prog) : PaG w := by
  rw [MakeChecks.laidMetH_plain _ _ _ hp] at hL
  have X : U8Extra Tryd.prog splitLay_ren := ⟨by kernel_rfl, by kernel_rfl, by kernel_rfl, by kernel_rfl, by kernel_rfl, by kernel_rfl, by kernel_rfl⟩
  exact ⟨utf8Tabs_of_reads { splitLay with } X (Lib.laidMet.reads hL h1) (Lib.laidMet.reads hL h2), cell_of_shapedOpen_int (zero := #[.int .i64 0]) (t := 3) hsh (of_decide_eq_true (by kernel_rfl)) (by kernel_rfl) rfl (by kernel_rfl) (by kernel_rfl) Tryd.underlying3⟩
theorem paG_row {l : List (String × DataW Unit)} {w : World} (he : l = [("unicode/utf8.acceptRanges", Rows.laid_unicode_utf8_acceptRanges), ("unicode/utf8.first", Rows.laid_unicode_utf8_first)]) (hL : laidMetH Tryd.prog l w) (hsh : w.ShapedOpen Tryd.prog) : PaG w := by
  subst he
  refine paG_of (by kernel_rfl) ?_ ?_ hL hsh
  · rw [← Pinned.utf8First_eq]
    exact .tail _ (.head _)
  · have e : (Rows.laid_unicode_utf8_acceptRanges : DataW Unit) = Lib.acceptData := by kernel_rfl
    rw [← e]
    exact .head _
end Go.Proofs.YtcpoejejmngiaaaDoor
