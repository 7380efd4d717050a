/- The contract of Build of package perfect. No statement of the seat is proved here. -/
import Derived.Test.YtacijjioaanlgaaPerfGw
import Derived.Test.YtacijjioaanlgaaPerfRep
import Derived.Test.YtacijjioaanlgaaPerfFold
import Derived.StillTailTactics
import Derived.Laws.AppendOwn
namespace Go.Proofs.Ytacijjioaanlgaa
open Go.RowKit Go.Maps
set_option linter.unusedVariables false

theorem info_u16 : (Try.prog.info? 61).map (fun i => (i.zero, i.size, i.bytes)) = some (some (.int .u16 0), 1, 2) := by kernel_rfl
theorem info_bool : (Try.prog.info? 4).map (fun i => (i.zero, i.size, i.bytes)) = some (some (.bool false), 1, 1) := by kernel_rfl
/-- All but the blocks a and b is as it was. -/
structure Kept2 (a b : Nat) (w w' : World) : Prop where
  size : w.heap.size ≤ w'.heap.size
  block : ∀ k, k < w.heap.size → k ≠ a → k ≠ b → w'.heap[k]? = w.heap[k]?
section
variable {a b : Nat} {w w' w'' : World}
theorem Kept2.refl (a b : Nat) (w : World) : Kept2 a b w w := ⟨Nat.le_refl _, fun _ _ _ _ => rfl⟩
theorem Kept2.grown (h : Kept2 a b w w') {r : Option Nat} (hg : w'.grownBy w'' r) (hr : ∀ k, r = some k → k = a ∨ k = b ∨ w.heap.size ≤ k) : Kept2 a b w w'' :=
  ⟨Nat.le_trans h.size hg.size, fun k hk h1 h2 => (hg.block k (Nat.lt_of_lt_of_le hk h.size) (fun e => by
    rcases hr k e.symm with h3 | h3 | h3
    · exact h1 h3
    · exact h2 h3
    · omega)).trans (h.block k hk h1 h2)⟩
theorem Kept2.below (h : Kept2 a b w w') (hb : Below w'.heap.size w' w'') : Kept2 a b w w'' := h.grown (r := none) ⟨hb.os, hb.tape, hb.output, hb.size, fun k hk _ => hb.block k hk⟩ (fun k e => by cases e)
theorem Kept2.grownB (h : Kept2 a b w w') (hg : w'.grownBy w'' (some b)) : Kept2 a b w w'' := h.grown hg (fun k e => .inr (.inl (Option.some.inj e).symm))
theorem own_far {B x : Nat} {A : Option Addr} {c : Nat} {l : List KeyT} (h : OwnK w B A c l) (hx : x < B) (hg : w.grownBy w' (some x)) : OwnK w' B A c l :=
  ownsRow_grown h hg fun b e hb => by
    have e := Option.some.inj e
    subst e
    have h1 := (World.ownsRow.lt h _ hb).1
    omega
theorem Kept2.blk (h : Kept2 a b w w') {g : Nat} {t : TypeId} {cs : Array Value} (hb : Blk w g t cs) (h1 : g ≠ a) (h2 : g ≠ b) : Blk w' g t cs := hb.same (h.block g hb.lt h1 h2)
theorem Kept2.rd (h : Kept2 a b w w') {A : Option Addr} {ks : List KeyT} (hr : RdK w w.heap.size A ks) (ha : ∀ i (v : Int), w.cell? ⟨a, i, none⟩ ≠ some (.int .u8 v)) (hb : ∀ i (v : Int), w.cell? ⟨b, i, none⟩ ≠ some (.int .u8 v)) : RdK w' w.heap.size A ks := by
  refine ⟨fun hn => ?_, hr.each⟩
  obtain ⟨g, off, e, hl, hc⟩ := hr.rows hn
  have hk0 : 0 < ks.length := by simpa using hn
  have hby := hc 0 hn 0 (.int .u8 (ks[0].1[0]'(by have := (hr.each _ (List.getElem_mem hk0)).1; omega)).toNat) (by rw [List.getElem_map]; exact kcs_byte _)
  refine ⟨g, off, e, hl, fun j hj i v hv => ?_⟩
  exact (World.cell?_of_block (h.block g hl (fun e => by subst e; exact ha _ _ hby) (fun e => by subst e; exact hb _ _ hby))).trans (hc j hj i v hv)
end
theorem sd_out {n : Nat} {gf : KeyT → Nat} {ks : List KeyT} {P : List Nat} {i : Nat} (h : i ∉ P) : (finB n gf ks P).sd i = 0 := by
  have key : ∀ (P : List Nat) (s : BS), i ∉ P → (P.foldl (stepB n gf ks) s).sd i = s.sd i := fun P => by
    induction P with
    | nil => intro s _; rfl
    | cons p P ih =>
      intro s hp
      rw [List.foldl_cons, ih _ (fun h => hp (by simp [h]))]
      simp only [stepB]
      rw [if_neg (fun e => hp (by simp [e]))]
  exact key P startB h
theorem left_sub (n : Nat) (gf : KeyT → Nat) (ks : List KeyT) : ∀ P : List Nat, ∀ x ∈ (finB n gf ks P).left, x ∈ ks := by
  have key : ∀ (P : List Nat) (s : BS), (∀ x ∈ s.left, x ∈ ks) → ∀ x ∈ (P.foldl (stepB n gf ks) s).left, x ∈ ks := fun P => by
    induction P with
    | nil => intro s h; exact h
    | cons p P ih =>
      intro s h
      rw [List.foldl_cons]
      refine ih _ ?_
      intro x hx
      simp only [stepB] at hx
      split at hx
      · rcases List.mem_append.1 hx with hx | hx
        · exact h x hx
        · exact (List.mem_filter.1 hx).1
      · exact h x hx
  exact fun P => key P startB (by simp [startB])
/-- The tries as cells. -/
def sdc (G : Nat) (s : BS) : Array Value := ((sdL G s).map fun d => Value.int .u16 (d : Nat)).toArray
theorem sdc_get {G i : Nat} (s : BS) (h : i < G) : (sdc G s)[i]? = some (.int .u16 (s.sd i : Nat)) := by
  rw [sdc, List.getElem?_toArray, List.getElem?_map, sdL_get s h]; rfl
theorem sdc_set {n G i : Nat} {gf : KeyT → Nat} {ks : List KeyT} (s : BS) (h : i < G) : (sdc G s).setIfInBounds i (.int .u16 (chD n s.U (grpK gf ks i) : Nat)) = sdc G (stepB n gf ks s i) := by
  apply Array.ext_getElem?
  intro j
  rw [Array.getElem?_setIfInBounds]
  have hs : (sdc G s).size = G := by simp [sdc, sdL]
  have hs2 : ∀ t : BS, (sdc G t).size = G := fun t => by simp [sdc, sdL]
  by_cases hj : j < G
  · rw [sdc_get _ hj, sdc_get _ hj, hs]
    by_cases e : i = j
    · subst e
      simp [h, stepB]
    · rw [if_neg e]
      simp only [stepB]
      rw [if_neg (fun h => e h.symm)]
  · rw [Array.getElem?_eq_none (by rw [hs2]; omega), Array.getElem?_eq_none (by rw [hs2]; omega)]
    by_cases e : i = j
    · omega
    · rw [if_neg e]
theorem sdc_same {n G i : Nat} {gf : KeyT → Nat} {ks : List KeyT} (s : BS) (h0 : s.sd i = 0) (hc : chD n s.U (grpK gf ks i) = 0) : sdc G (stepB n gf ks s i) = sdc G s := by
  have : (stepB n gf ks s i).sd = s.sd := by
    funext j
    simp only [stepB, hc]
    by_cases e : j = i
    · subst e; rw [if_pos rfl, h0]
    · rw [if_neg e]
  unfold sdc sdL
  rw [this]
theorem made_u16 (G : Nat) : madeCells #[.int .u16 0] G = sdc G startB := by
  apply Array.ext_getElem?
  intro j
  by_cases hj : j < G
  · rw [sdc_get _ hj, ← Array.getElem?_toList, toList_madeCells_one]
    simp [hj, startB]
  · rw [Array.getElem?_eq_none (by rw [size_madeCells]; omega), Array.getElem?_eq_none (by simp [sdc, sdL]; omega)]
theorem made_bool (n : Nat) : madeCells #[.bool false] n = (ucs n startB.U).toArray := by
  apply Array.ext_getElem?
  intro j
  by_cases hj : j < n
  · rw [← Array.getElem?_toList, toList_madeCells_one, List.getElem?_toArray, ucs_get hj]
    simp [hj, startB]
  · rw [Array.getElem?_eq_none (by rw [size_madeCells]; omega), Array.getElem?_eq_none (by simp [ucs]; omega)]
theorem start4 (w : World) (n G : Nat) (cs : Array Value) :
    ∀ W, W = (((w.alloc (.cells (madeCells #[.int .u16 0] G) 61)).alloc (.map #[] 0)).alloc (.cells cs 56)).alloc (.cells (madeCells #[.bool false] n) 4) →
      Blk W w.heap.size 61 (sdc G startB) ∧ Held W (w.heap.size + 1) [] ∧ Blk W (w.heap.size + 1 + 1) 56 cs ∧ Used W (w.heap.size + 1 + 1 + 1) n startB.U ∧ Below w.heap.size w W ∧ W.heap.size = w.heap.size + 4 := by
  intro W hW
  have n1 := Blk.new w 61 (madeCells #[.int .u16 0] G)
  have n2 := World.ownsMap_made (w.alloc (.cells (madeCells #[.int .u16 0] G) 61)) Try.prog 27 (plainElem (H := Unit) Try.prog 3)
  have n3 := blk_at ((w.alloc (.cells (madeCells #[.int .u16 0] G) 61)).alloc (.map #[] 0)) 56 cs (g := w.heap.size + 1 + 1) (by simp)
  have n4 := blk_at (((w.alloc (.cells (madeCells #[.int .u16 0] G) 61)).alloc (.map #[] 0)).alloc (.cells cs 56)) 4 (madeCells #[.bool false] n) (g := w.heap.size + 1 + 1 + 1) (by simp)
  have b1 := (Below.refl w.heap.size w).alloc (Nat.le_refl _) (.cells (madeCells #[.int .u16 0] G) 61)
  have b2 := b1.alloc b1.size (.map #[] 0)
  have b3 := b2.alloc b2.size (.cells cs 56)
  have b4 := b3.alloc b3.size (.cells (madeCells #[.bool false] n) 4)
  have c2 : ∀ (V : World) (o : Obj), Below V.heap.size V (V.alloc o) := fun V o => (Below.refl V.heap.size V).alloc (Nat.le_refl _) o
  rw [← hW] at n4 b4
  have d2 := c2 (w.alloc (.cells (madeCells #[.int .u16 0] G) 61)) (.map #[] 0)
  have d3 := c2 ((w.alloc (.cells (madeCells #[.int .u16 0] G) 61)).alloc (.map #[] 0)) (.cells cs 56)
  have d4 := c2 (((w.alloc (.cells (madeCells #[.int .u16 0] G) 61)).alloc (.map #[] 0)).alloc (.cells cs 56)) (.cells (madeCells #[.bool false] n) 4)
  rw [← hW] at d4
  have e2 : (w.alloc (.cells (madeCells #[.int .u16 0] G) 61)).heap.size = w.heap.size + 1 := by simp
  rw [e2] at n2
  refine ⟨?_, ?_, ?_, ?_, b4, by rw [hW]; simp⟩
  · have m1 := n1.below d2 n1.lt
    have m2 := m1.below d3 m1.lt
    have m3 := m2.below d4 m2.lt
    rw [made_u16] at m3
    exact m3
  · exact map_below (map_below n2 d3) d4
  · exact n3.below d4 n3.lt
  · rw [made_bool] at n4
    exact n4
theorem build_long (A : Option Addr) (n c : Nat) (hn : 16384 < n) (w : World) :
    Calls Try.prog 11 #[.slice A n c] w fun e w' => e = .returned (.tuple #[.pointer none, .int .i64 4]) ∧ w = w' := by
  have hi : (16384 : Int) < (n : Int) := by omega
  go_enter Try.func11, Try.ntmps11
  go_wp2
  go_ret2
  exact ⟨rfl, rfl⟩
theorem build_twice (A : Option Addr) (ks : List KeyT) (n c : Nat) (hl : ks.length = n) (hc : n ≤ c) (hm : c ≤ maxLen) (hn : n ≤ 16384) (hd : ¬ ks.Nodup) (w : World) (hr : RdK w w.heap.size A ks) :
    Calls Try.prog 11 #[.slice A n c] w fun e w' => e = .returned (.tuple #[.pointer none, .int .i64 3]) ∧ Below w.heap.size w w' := by
  have hi : ¬ (16384 : Int) < (n : Int) := by omega
  have K := repeats_any A ks n c hl hc hm hn w hr
  rw [decide_eq_true hd] at K
  have HK := Lib.hid K
  clear K hl hm hd hr
  go_enter Try.func11, Try.ntmps11
  go_wp2_with fail
  (with_reducible refine HK.out.mono ?_)
  rintro e w1 ⟨rfl, hb⟩
  have HB := Lib.hid hb
  clear hb
  go_wp2_with fail
  go_ret2
  exact ⟨rfl, HB.out⟩
set_option maxRecDepth 100000 in
set_option maxHeartbeats 500000 in
theorem build_ok (A : Option Addr) (ks : List KeyT) (n c G : Nat) (hl : ks.length = n) (hc : n ≤ c) (hm : c ≤ maxLen) (hn : n ≤ 16384) (hG : n / 4 + 1 = G) (hd : ks.Nodup) (w : World) (hr : RdK w w.heap.size A ks) :
    Calls Try.prog 11 #[.slice A n c] w fun e w' => ∃ (mb sb pm : Nat) (O : List Nat), e = .returned (.tuple #[.pointer (some ⟨mb, 0, none⟩), .int .i64 0]) ∧
      Ord (cntK (fun k => HH 0 k % G) ks) G O ∧ PM w' mb sb pm n (sdL G (finB n (fun k => HH 0 k % G) ks O)) (alB n (finB n (fun k => HH 0 k % G) ks O)) ∧ Below w.heap.size w w' := by
  have hi : ¬ (16384 : Int) < (n : Int) := by omega
  have hGi : (n : Int) / 4 + 1 = (G : Int) := by omega
  have hG0 : 0 < G := by omega
  have hG1 : G ≤ 16384 := by omega
  obtain ⟨i0, hi0, hz0, hz1, hz2⟩ := info_parts info_u16
  obtain ⟨i1, hi1, hy0, hy1, hy2⟩ := info_parts info_bool
  have hmk1 := fun W => run_make (P := Try.prog) W 53 61 i0 _ Try.underlying53 hi0 hz0 .i64 .i64 (G : Int) (G : Int) (by omega) (by omega) (by rw [hz2]; omega) (by omega)
  have hmk2 := fun W => run_make (P := Try.prog) W 46 4 i1 _ Try.underlying46 hi1 hy0 .i64 .i64 (n : Int) (n : Int) (by omega) (by omega) (by rw [hy2]; omega) (by omega)
  have hmm := @run_makeMap Try.prog
  have K := repeats_any A ks n c hl hc hm hn w hr
  rw [decide_eq_false (by simpa using hd)] at K
  have HK := Lib.hid K
  have HL := Lib.hid hl
  have HR := Lib.hid hr
  have HD := Lib.hid hd
  have HM := Lib.hid hm
  have HGG := Lib.hid hG
  rw [hz1] at hmk1
  rw [hy1] at hmk2
  obtain ⟨gf, hgf⟩ : ∃ gf : KeyT → Nat, (fun k => HH 0 k % G) = gf := ⟨_, rfl⟩
  have HGF := Lib.hid hgf
  rw [hgf]
  clear K hl hm hd hr hi0 hz0 hz1 hz2 hi1 hy0 hy1 hy2 hG hgf
  go_enter Try.func11, Try.ntmps11
  go_wp2_with fail
  (with_reducible refine HK.out.mono ?_)
  rintro e w1 ⟨rfl, hb⟩
  have HB := Lib.hid hb
  clear hb
  go_wp2_with fail
  obtain ⟨W0, hW0⟩ : ∃ W0, (((w1.alloc (.cells (madeCells #[.int .u16 0] G) 61)).alloc (.map #[] 0)).alloc (.cells #[.int .i64 n, .slice (some ⟨w1.heap.size, 0, none⟩) G G, .map (some (w1.heap.size + 1))] 56)).alloc (.cells (madeCells #[.bool false] n) 4) = W0 := ⟨_, rfl⟩
  obtain ⟨s1, s2, s3, s4, s5, s6⟩ := start4 w1 n G #[.int .i64 n, .slice (some ⟨w1.heap.size, 0, none⟩) G G, .map (some (w1.heap.size + 1))] W0 hW0.symm
  rw [hW0]
  have hbw := HB.out.trans (s5.mono HB.out.size)
  have hs1 := HB.out.size
  obtain ⟨sb, hsb⟩ : ∃ sb, w1.heap.size = sb := ⟨_, rfl⟩
  rw [hsb] at s1 s2 s3 s4 s6 hs1
  rw [hsb]
  obtain ⟨ub, hub⟩ : ∃ ub, sb + 1 + 1 + 1 = ub := ⟨_, rfl⟩
  rw [hub] at s4 ⊢
  obtain ⟨mb, hmb⟩ : ∃ mb, sb + 1 + 1 = mb := ⟨_, rfl⟩
  rw [hmb] at s3 ⊢
  obtain ⟨pm, hpm⟩ : ∃ pm, sb + 1 = pm := ⟨_, rfl⟩
  rw [hpm] at s2 s3 ⊢
  have HNUM := Lib.hid (show sb < pm ∧ pm < mb ∧ mb < ub by omega)
  have HSW := Lib.hid (show w.heap.size ≤ sb from hs1)
  clear hub hmb hpm
  have KG := Lib.hid (groups_any A ks n c G HL.out hc HM.out hn hG0 hG1 W0 ((HR.out.below hbw).more hbw.size))
  have HS := Lib.hid (And.intro s1 (And.intro s2 (And.intro s3 s4)))
  have HBW := Lib.hid hbw
  have HWS := Lib.hid s6
  have HS1 := Lib.hid hs1
  clear s1 s2 s3 s4 s5 s6 hW0 hsb hbw hmk1 hmk2 hmm hs1
  (with_reducible refine KG.out.mono ?_)
  rintro e w5 ⟨gb, F, rfl, hgb, hout, hb5⟩
  rw [HGF.out] at hout
  have hsb5 := HS.out.1.below hb5 HS.out.1.lt
  have hpm5 := map_below HS.out.2.1 hb5
  have hmb5 := HS.out.2.2.1.below hb5 HS.out.2.2.1.lt
  have hub5 := Blk.below HS.out.2.2.2 hb5 (Blk.lt HS.out.2.2.2)
  have HSB := Lib.hid hsb5
  have HPM := Lib.hid hpm5
  have HMB := Lib.hid hmb5
  have HUB := Lib.hid hub5
  have HOUT := Lib.hid hout
  have HB5 := Lib.hid (HBW.out.trans (hb5.mono HBW.out.size))
  obtain ⟨m, hmF⟩ : ∃ m, F.length = m := ⟨_, rfl⟩
  have HMF := Lib.hid hmF
  have hmG : m ≤ G := by rw [← hmF]; exact hout.len
  rw [hmF]
  clear hsb5 hpm5 hmb5 hub5 hout hb5 hgb KG HS HWS HBW
  go_wp2_with fail
  have HON : Hid _ := Lib.hid HOUT.out.ord
  obtain ⟨O, hO⟩ : ∃ O, F.map (·.idx) = O := ⟨_, rfl⟩
  rw [hO] at HON
  have HO := Lib.hid hO
  have HGL := Lib.hid (show ∀ k ∈ ks, gf k < G from fun k _ => by rw [← HGF.out]; exact Nat.mod_lt _ hG0)
  obtain ⟨i2, hi2, hx0, hx1, hx2⟩ := info_parts info_key
  have HI2 := Lib.hid (And.intro hi2 (And.intro hx0 (And.intro hx1 hx2)))
  clear hO hi2 hx0 hx1 hx2
  go_loopw [6, 36] (fun l i wr => ∃ (j : Nat) (A' : Option Addr) (c' : Nat), j ≤ m ∧ i = .int .i64 j ∧ l = .slice A' (finB n gf ks (O.take j)).left.length c' ∧ Kept2 ub sb w5 wr ∧ Used wr ub n (finB n gf ks (O.take j)).U ∧
    Blk wr sb 61 (sdc G (finB n gf ks (O.take j))) ∧ OwnK wr w5.heap.size A' c' (finB n gf ks (O.take j)).left ∧ Below w.heap.size w wr) (fun _ i _ => m - (intOf i).toNat)
  case atStart => exact ⟨0, none, 0, Nat.zero_le _, rfl, rfl, Kept2.refl _ _ _, HUB.out, HSB.out, World.ownsRow_nil _ _ _ _, HB5.out⟩
  case round =>
    obtain ⟨j, A', c', hj, rfl, rfl, hkp, hus, hsd, hown, hbel⟩ := hrel
    obtain ⟨S, hS⟩ : ∃ S, finB n gf ks (O.take j) = S := ⟨_, rfl⟩
    have hll : S.left.length ≤ n := by rw [← hS]; exact left_le HON.out HGL.out HL.out j
    rw [hS] at hus hsd hown ⊢
    by_cases hlt : j < m
    · have hjF : j < F.length := by rw [HMF.out]; exact hlt
      have hjO : j < O.length := by rw [← HO.out, List.length_map]; exact hjF
      obtain ⟨g, hg⟩ : ∃ g, F[j] = g := ⟨_, rfl⟩
      have hgm : g ∈ F := hg ▸ List.getElem_mem hjF
      have hOj : O[j] = g.idx := by subst hg; simp [← HO.out]
      have hgi : g.idx < G := HOUT.out.idx g hgm
      have hgk : g.keys = grpK gf ks g.idx := HOUT.out.keys g hgm
      have hgc := HOUT.out.le g hgm
      have hk0 : 0 < g.keys.length := by
        have := (HON.out.mem g.idx).1 (by rw [← hOj]; exact List.getElem_mem hjO)
        rw [hgk]; exact this.2
      have hkn : g.keys.length ≤ n := by
        rw [hgk, ← HL.out]; exact List.length_filter_le _ _
      have hn0 : 0 < n := by omega
      obtain ⟨Z, hZ⟩ := HOUT.out.row
      have hgu : gb ≠ ub := Blk.other hZ HUB.out (by decide)
      have hgs : gb ≠ sb := Blk.other hZ HSB.out (by decide)
      have hrow := hkp.blk hZ hgu hgs
      have hget : (F ++ Z)[j]'(by rw [List.length_append]; omega) = g := by rw [List.getElem_append_left hjF]; exact hg
      have hc0 := row_c0 hrow (i := j) (by rw [List.length_append]; omega)
      have hc1 := row_c1 hrow (i := j) (by rw [List.length_append]; omega)
      rw [hget] at hc0 hc1
      have hua : ∀ i (v : Int), w5.cell? ⟨ub, i, none⟩ ≠ some (.int .u8 v) := fun i v e => by
        rw [Blk.cell HUB.out, List.getElem?_toArray] at e
        have := (List.getElem?_eq_some_iff.1 e).1
        rw [ucs_length] at this
        rw [ucs_get this] at e
        cases e
      have hsa : ∀ i (v : Int), w5.cell? ⟨sb, i, none⟩ ≠ some (.int .u8 v) := fun i v e => by
        rw [Blk.cell HSB.out] at e
        have hi := (Array.getElem?_eq_some_iff.1 e).1
        rw [show (sdc G startB).size = G by simp [sdc, sdL]] at hi
        rw [sdc_get _ hi] at e
        cases e
      have hrd := hkp.rd (HOUT.out.rd g hgm) hua hsa
      have htk : finB n gf ks (O.take (j + 1)) = stepB n gf ks S g.idx := by rw [List.take_succ_eq_append_getElem hjO, finB_snoc, hS, hOj]
      have hout' : S.sd g.idx = 0 := by
        rw [← hS]
        refine sd_out fun h => ?_
        have hnd := HON.out.nodup
        rw [← List.take_append_drop j O, List.nodup_append] at hnd
        refine hnd.2.2 _ h g.idx ?_ rfl
        rw [List.drop_eq_getElem_cons hjO, hOj]
        simp
      have hrd5 := HOUT.out.rd g hgm
      have HUA := Lib.hid hua
      have HSA := Lib.hid hsa
      clear hOj hg hgm hget hua hsa hZ
      generalize g.idx = gi at *
      generalize g.adr = ga at *
      generalize g.cap = gcp at *
      generalize g.keys = gk at *
      clear g
      obtain ⟨kg, koff, rfl, hkgB, hkf⟩ := RdK.flat hrd hk0
      have HTK := Lib.hid htk
      have HKE := Lib.hid hrd.each
      have HRD5 := Lib.hid hrd5
      clear htk hkf hrd5
      obtain ⟨w1', hw1'⟩ : ∃ V, wr.alloc (.cells #[.int .i64 gi, .slice (some ⟨kg, koff, none⟩) gk.length gcp] 60) = V := ⟨_, rfl⟩
      obtain ⟨xb, hxb⟩ : ∃ xb, wr.heap.size = xb := ⟨_, rfl⟩
      have hbx : Below wr.heap.size wr w1' := hw1' ▸ (Below.refl wr.heap.size wr).alloc (Nat.le_refl _) (.cells #[.int .i64 gi, .slice (some ⟨kg, koff, none⟩) gk.length gcp] 60)
      have HXB := Lib.hid (show Blk w1' xb 60 #[.int .i64 gi, .slice (some ⟨kg, koff, none⟩) gk.length gcp] by rw [← hw1', ← hxb]; exact Blk.new wr 60 _)
      have hrd1 := ((hrd.more hkp.size).below hbx).more hbx.size
      have hus1 := Blk.below hus hbx (Blk.lt hus)
      have KC := Lib.hid (choose_any n gcp gk.length hn0 (by omega) (some ⟨kg, koff, none⟩) gk rfl hgc.1 hgc.2 ub S.U w1' hrd1 hus1)
      have HXU := Lib.hid (show xb ≠ ub by have h1 := hkp.size; have h2 := Blk.lt HUB.out; omega)
      have HW1 := Lib.hid hw1'
      have HXE := Lib.hid hxb
      have HKP := Lib.hid (hkp.below hbx)
      have HSD := Lib.hid (hsd.below hbx hsd.lt)
      have HOWN := Lib.hid (ownsRow_below hown hbx)
      have HBL := Lib.hid (hbel.trans (hbx.mono hbel.size))
      have HRD := Lib.hid hrd
      have HOUTI := Lib.hid hout'
      have HGK := Lib.hid hgk
      have HGC := Lib.hid hgc
      have hi1 : (0 : Int) ≤ (j : Int) := by omega
      have hi2 : (j : Int) < (m : Int) := by omega
      clear hkp hus hsd hown hbel hrow hrd hout' hbx hrd1 hus1 hw1' hxb hgk hgc
      go_wp2_with fail
      rw [HW1.out, HXE.out]
      (with_reducible refine KC.out.mono ?_)
      rintro e w2 ⟨rfl, hus2, hg2⟩
      have hne1 : sb ≠ ub := by have := HNUM.out; omega
      have hne2 : mb ≠ ub ∧ mb ≠ sb := by have := HNUM.out; omega
      have hkp2 := HKP.out.grown hg2 (fun k e => .inl (by injection e with e; exact e.symm))
      have hsd2 := blk_grownOther HSD.out hg2 hne1
      have hmb2 := hkp2.blk HMB.out hne2.1 hne2.2
      have hxb2 := blk_grownOther HXB.out hg2 HXU.out
      have hown2 : OwnK w2 w5.heap.size A' c' S.left := ownsRow_grown HOWN.out hg2 (fun b e hb => by
        injection e with e
        subst e
        have h1 := (World.ownsRow.lt HOWN.out _ hb).1
        have h2 := Blk.lt HUB.out
        omega)
      have hbel2 := HBL.out.grown hg2 HBL.out.size (fun k e => by injection e with e; have := HNUM.out; have := HSW.out; omega)
      have HKF := Lib.hid (show ∀ (q : Nat) (u : Value), (gk.flatMap kcs)[q]? = some u → w2.cell? ((⟨kg, koff, none⟩ : Addr).add q) = some u from fun q u hu => by
        obtain ⟨b', o', e', _, hf'⟩ := RdK.flat (hkp2.rd (HRD5.out) HUA.out HSA.out) hk0
        injection e' with e'
        injection e' with e1 e2 _
        subst e1 e2
        exact hf' q u hu)
      have HUS2 := Lib.hid hus2
      have HKP2 := Lib.hid hkp2
      have HSD2 := Lib.hid hsd2
      have HMB2 := Lib.hid hmb2
      have HXB2 := Lib.hid hxb2
      have HOWN2 := Lib.hid hown2
      have HBL2 := Lib.hid hbel2
      have HG2 := Lib.hid hg2
      clear hus2 hkp2 hsd2 hmb2 hxb2 hown2 hbel2 hg2
      have hD := chD_le n S.U gk
      have HUU := Lib.hid (show chU n S.U gk = (stepB n gf ks S gi).U by simp only [stepB]; rw [HGK.out])
      obtain ⟨D, hDe⟩ : ∃ D, chD n S.U gk = D := ⟨_, rfl⟩
      have HDE := Lib.hid hDe
      rw [hDe] at hD ⊢
      clear hDe
      have hD0 : (0 : Int) ≤ (D : Int) := by omega
      by_cases hz : D = 0
      · subst hz
        have HST := Lib.hid (show (stepB n gf ks S gi).left = S.left ++ gk by
          have h1 : chD n S.U (grpK gf ks gi) = 0 := by rw [← HGK.out]; exact HDE.out
          simp only [stepB]
          rw [h1, if_pos rfl, HGK.out])
        have hxc : w2.cell? ⟨xb, 1, none⟩ = some (.slice (some ⟨kg, koff, none⟩) gk.length gcp) := HXB2.out.cell 1
        have HNW := Lib.hid (show ∀ (q : Nat) (u : Value), (gk.flatMap kcs)[q]? = some u → w2.cell? ((⟨kg, koff, none⟩ : Addr).add q) = some u from HKF.out)
        have HLN := Lib.hid (show S.left.length + gk.length ≤ maxLen ∧ (S.left.length + gk.length) * 36 ≤ 140737488355328 from ⟨by unfold maxLen; omega, by omega⟩)
        have HFK := Lib.hid (show (gk.flatMap kcs).length = gk.length * 33 from flat_kcs HKE.out)
        have HON2 := Lib.hid (show ∀ u ∈ gk.flatMap kcs, u.oneCell' = true from fun u hu => by
          obtain ⟨k, _, hk⟩ := List.mem_flatMap.1 hu
          have := kcs_one (k := k)
          rw [Array.all_eq_true_iff_forall_mem] at this
          exact this u (by simpa using hk))
        go_wp2_with (at_builtin; refine wpList_append_own _ rfl (.tmp 54) (.tmp 56) 31 rfl w5.heap.size 27 i2 _ 33 36 Try.underlying31 HI2.out.1 HI2.out.2.1 HI2.out.2.2.1 HI2.out.2.2.2 rfl (by omega) (.slice A' S.left.length c') S.left.length (S.left.flatMap kcs) rfl HOWN2.out ⟨kg, koff, none⟩ gk.length gcp (gk.flatMap kcs) rfl HFK.out HNW.out HON2.out HLN.out.1 HLN.out.2 HKP2.out.size ?_; intro v3 w3 hown3 hgrow3 hnil3; clear hnil3; have H3 := Lib.hid (And.intro hown3 hgrow3); clear hown3 hgrow3)
        obtain ⟨A3, c3, hv3⟩ : ∃ A3 c3, v3 = .slice A3 (S.left ++ gk).length c3 := by
          rw [List.length_append]
          rcases H3.out.1.2 with ⟨hv, h0⟩ | ⟨g3, cp, cur, hv, _⟩
          · exact ⟨none, 0, by rw [hv, h0]⟩
          · exact ⟨_, _, hv⟩
        subst hv3
        go_roundw
        case rel =>
          refine ⟨j + 1, A3, c3, by omega, by go_num, ?_, ?_, ?_, ?_, ?_, ?_⟩
          · rw [HTK.out, HST.out]
          · exact HKP2.out.grown H3.out.2 (fun k e => .inr (.inr (World.ownsRow.lt HOWN2.out k e).1))
          · rw [HTK.out, ← HUU.out]
            exact Blk.same HUS2.out (H3.out.2.block ub (Blk.lt HUS2.out) (fun e => by have h1 := (World.ownsRow.lt HOWN2.out ub e.symm).1; have h2 := Blk.lt HUB.out; omega))
          · rw [HTK.out, sdc_same S HOUTI.out (by rw [← HGK.out]; exact HDE.out)]
            exact HSD2.out.same (H3.out.2.block sb HSD2.out.lt (fun e => by have h1 := (World.ownsRow.lt HOWN2.out sb e.symm).1; have h2 := HSB.out.lt; omega))
          · rw [HTK.out, HST.out]
            show World.ownsRow _ _ _ _ _ _ _
            rw [List.flatMap_append]
            have := H3.out.1
            rw [← List.length_append] at this
            exact this
          · exact HBL2.out.grown H3.out.2 HBL2.out.size (fun k e => Nat.le_trans HB5.out.size (World.ownsRow.lt HOWN2.out k e).1)
        case measure => simp [intOf]; omega
      · have hdi : (0 : Int) < (D : Int) := by omega
        have hdn : 0 < D := by omega
        have HST := Lib.hid (show (stepB n gf ks S gi).left = S.left ∧ sdc G (stepB n gf ks S gi) = (sdc G S).setIfInBounds gi (.int .u16 (D : Nat)) from by
          have h1 : chD n S.U (grpK gf ks gi) = D := by rw [← HGK.out]; exact HDE.out
          refine ⟨by simp only [stepB]; rw [h1, if_neg hz], ?_⟩
          rw [← sdc_set S hgi, h1])
        go_wp2_with fail
        have hm1 : w2.drew.cell? ⟨mb, 1, none⟩ = some (.slice (some ⟨sb, 0, none⟩) G G) := HMB2.out.cell 1
        have hx0 : w2.drew.cell? ⟨xb, 0, none⟩ = some (.int .i64 gi) := HXB2.out.cell 0
        have hs0 : w2.drew.cell? ⟨sb, gi, none⟩ = some (.int .u16 (S.sd gi : Nat)) := (HSD2.out.cell gi).trans (sdc_get S hgi)
        have hsf : w2.drew.frozen? ⟨sb, gi, none⟩ = false := HSD2.out.frozen gi
        have hgi0 : (0 : Int) ≤ (gi : Int) := by omega
        have hgi1 : (gi : Int) < (G : Int) := by omega
        refine wp_region_still_tail 8 (by kernel_rfl) (by kernel_rfl) ?_
        simp only [List.take_succ_cons, List.take_zero, List.drop_succ_cons, List.drop_zero]
        repeat still_step
        refine wpStill_nil ?_
        change wpList _ _ _ _ _ w2.drew
        have HGD := Lib.hid (show w2.grownBy w2.drew (some sb) from ⟨rfl, rfl, rfl, Nat.le_refl _, fun _ _ _ => rfl⟩)
        have HSS := Lib.hid (show Blk (w2.drew.setCell ⟨sb, gi, none⟩ (.int .u16 (D : Nat))) sb 61 ((sdc G S).setIfInBounds gi (.int .u16 (D : Nat))) from Blk.set_ (w := w2.drew) HSD2.out gi _)
        generalize w2.drew = w2d at *
        have HGS := Lib.hid (gby_trans HGD.out (grownBy_cell w2d sb gi (.int .u16 (D : Nat))))
        go_wp2_with fail
        go_roundw
        case rel =>
          refine ⟨j + 1, A', c', by omega, by go_num, ?_, ?_, ?_, ?_, ?_, ?_⟩
          · rw [HTK.out, HST.out.1]
          · exact HKP2.out.grownB HGS.out
          · rw [HTK.out, ← HUU.out]
            exact blk_grownOther HUS2.out HGS.out hne1.symm
          · rw [HTK.out, HST.out.2]
            exact HSS.out
          · rw [HTK.out, HST.out.1]
            exact own_far HOWN2.out HSB.out.lt HGS.out
          · exact HBL2.out.grown HGS.out HBL2.out.size (fun k e => by have e := Option.some.inj e; have := HSW.out; omega)
        case measure => simp [intOf]; omega
    · obtain rfl : m = j := by omega
      have hOm : O.take m = O := List.take_of_length_le (by rw [← HO.out, List.length_map, HMF.out]; exact Nat.le_refl _)
      rw [hOm] at hS
      have hne2 : mb ≠ ub ∧ mb ≠ sb ∧ pm ≠ ub ∧ pm ≠ sb ∧ sb ≠ pm ∧ mb ≠ pm := by have := HNUM.out; omega
      have hcap : S.left.length ≤ c' ∧ c' ≤ maxLen := by
        rcases hown.2 with ⟨hv, h0⟩ | ⟨g3, cp, cur, hv, _, _, h1, h2, _⟩
        · injection hv with _ _ hv
          rw [hv, h0]
          exact ⟨Nat.le_refl _, by simp [maxLen]⟩
        · injection hv with _ _ hv
          rw [hv]
          exact ⟨h1, h2⟩
      have hok : ∀ k ∈ S.left, k.Ok := by
        intro k hk
        have hks := HR.out.each
        have hsub : ∀ P : List Nat, ∀ x ∈ (finB n gf ks P).left, x ∈ ks := left_sub n gf ks
        exact hks k (hsub O k (by rw [hS]; exact hk))
      have hfree : S.left.length ≤ (freeL n S.U).length := by
        rw [← hS, fin_free HON.out HGL.out HL.out]; exact Nat.le_refl _
      have hmbr := hkp.blk HMB.out hne2.1 hne2.2.1
      have hpmr : Held wr pm [] := by
        obtain ⟨es, clock, h1, h2⟩ := HPM.out
        have hlt : pm < w5.heap.size := (Array.getElem?_eq_some_iff.1 h1).1
        exact ⟨es, clock, (hkp.block pm hlt hne2.2.2.1 hne2.2.2.2.1).trans h1, h2⟩
      have KS := Lib.hid (spill_any mb pm ub n S.left.length c' _ _ hn A' S.left rfl hcap.1 hcap.2 S.U hfree wr (OwnK.rd hown hok) hus hmbr hpmr)
      have HS := Lib.hid hS
      have HSD := Lib.hid hsd
      have HMBR := Lib.hid hmbr
      have HBL := Lib.hid hbel
      have HFE := Lib.hid (show (S.left.zip (freeL n S.U)).take S.left.length = S.left.zip (freeL n S.U) from List.take_of_length_le (by rw [List.length_zip]; exact Nat.min_le_left _ _))
      clear hkp hus hsd hown hbel hcap hok hfree hmbr hpmr hS
      go_wp2_with fail
      (with_reducible refine KS.out.mono ?_)
      rintro e w6 ⟨rfl, hheld, hg6⟩
      rw [HFE.out] at hheld
      have HRES := Lib.hid (show PM w6 mb sb pm n (sdL G S) (alB n S) from ⟨by
        have := blk_grownOther HMBR.out hg6 hne2.2.2.2.2.2
        rw [sdL_length]; exact this, blk_grownOther HSD.out hg6 hne2.2.2.2.2.1, hheld⟩)
      have HB6 := Lib.hid (HBL.out.grown hg6 HBL.out.size (fun k e => by have e := Option.some.inj e; have := HNUM.out; have := HSW.out; omega))
      clear hheld hg6
      go_wp2_with fail
      go_ret2
      exact ⟨mb, sb, pm, O, rfl, HON.out, by rw [HS.out]; exact HRES.out, HB6.out⟩
end Go.Proofs.Ytacijjioaanlgaa
