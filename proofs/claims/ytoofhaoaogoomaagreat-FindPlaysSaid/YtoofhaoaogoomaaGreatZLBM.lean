/- The landed cache as a state; New, Has, Shelves. No statement of the seat is proved here. -/
import Derived.Test.YtoofhaoaogoomaaGreatZLBL
import Derived.Test.YtoofhaoaogoomaaGreatZLAL
import Derived.Deep.DeepCutAuto
import Derived.Great.BuildSlice
namespace Go.Proofs.YtoofhaoaogoomaaGreat
open Go Go.Maps Go.RowKit
set_option linter.unusedVariables false
set_option linter.unusedSimpArgs false
set_option maxRecDepth 100000

/-- A shelf, its rows, the block of its table. -/
abbrev UT := (Int × List RowT) × Nat
def ut (U : List UT) : List (Int × Nat) := U.map fun u => (u.1.1, u.2)
/-- The cache at block g: its order at A, its tables in the map bt. -/
structure CstB (w : World) (g bt : Nat) (A : Option Addr) (c : Nat) (U : List UT) (S : CS) : Prop where
  rows : U.map (·.1) = S.t
  blk : Blk w g 100 #[.int .i64 (S.room : Nat), .slice A (shelvesC S).length c, .map (some bt)]
  order : OwnG 3 1 i1 w 0 A c (shelvesC S)
  tabs : MapL mkOT w bt (tm (ut U))
  each : ∀ u ∈ U, ∃ L, MapL mkPT w u.2 L ∧ Firsts L u.1.2
  apart : (U.map (·.2)).Nodup
  far : bt ∉ U.map (·.2)
  ok : S.Ok
def CstF (g bt : Nat) (A : Option Addr) (U : List UT) (x : Nat) : Prop := x = g ∨ x = bt ∨ (∃ ad, A = some ad ∧ ad.block = x) ∨ x ∈ U.map (·.2)
def Cst (w : World) (s : Addr) (F : Nat → Prop) (S : CS) : Prop := ∃ g bt A c U, s = ⟨g, 0, none⟩ ∧ (∀ x, F x ↔ CstF g bt A U x) ∧ CstB w g bt A c U S
section
variable {w w' : World} {g bt c : Nat} {A : Option Addr} {U : List UT} {S : CS}
theorem CstB.lt (h : CstB w g bt A c U S) : ∀ x, CstF g bt A U x → x < w.heap.size := by
  rintro x (rfl | rfl | ⟨ad, e, rfl⟩ | hx)
  · exact h.blk.lt
  · exact h.tabs.lt
  · exact (h.order.adr ad e).2
  · obtain ⟨u, hu, rfl⟩ := List.mem_map.1 hx
    obtain ⟨L, h1, _⟩ := h.each u hu
    exact h1.lt
theorem CstB.keep (h : CstB w g bt A c U S) (hk : ∀ x, CstF g bt A U x → w'.heap[x]? = w.heap[x]?) : CstB w' g bt A c U S :=
  ⟨h.rows, h.blk.same (hk g (.inl rfl)), h.order.same fun ad e => hk _ (.inr (.inr (.inl ⟨ad, e, rfl⟩))), h.tabs.blk (hk bt (.inr (.inl rfl))), fun u hu => by
    obtain ⟨L, h1, h2⟩ := h.each u hu
    exact ⟨L, h1.blk (hk u.2 (.inr (.inr (.inr (List.mem_map.2 ⟨u, hu, rfl⟩))))), h2⟩, h.apart, h.far, h.ok⟩
theorem CstB.on (h : CstB w g bt A c U S) (hb : Below w.heap.size w w') : CstB w' g bt A c U S := h.keep fun x hx => hb.block x (h.lt x hx)
theorem CstB.len (h : CstB w g bt A c U S) : (shelvesC S).length = S.t.length ∧ U.length = S.t.length ∧ S.t.length ≤ 4096 ∧ (shelvesC S).length ≤ c ∧ c ≤ 9223372036854775807 := by
  have h1 := h.ok.len
  have h2 := h.ok.room
  have h3 := h.order.cap
  have h4 := congrArg List.length h.rows
  rw [List.length_map] at h4
  unfold maxLen at h3
  exact ⟨shelves_len S, h4, by omega, h3.1, by omega⟩
/-- A row of other cells is neither a map nor the order's block. -/
theorem CstB.other (h : CstB w g bt A c U S) : g ≠ bt ∧ (∀ ad, A = some ad → ad.block ≠ g ∧ ad.block ≠ bt ∧ ad.block ∉ U.map (·.2)) ∧ g ∉ U.map (·.2) := by
  refine ⟨fun e => map_ne_blk h.tabs h.blk e.symm, fun ad e => ?_, fun hm => ?_⟩
  · subst e
    obtain ⟨cur, hc⟩ := h.order.kind (k := ad.block) rfl
    refine ⟨blk_other hc h.blk (by decide), fun e => map_ne_blk h.tabs hc e.symm, fun hm => ?_⟩
    obtain ⟨u, hu, e⟩ := List.mem_map.1 hm
    obtain ⟨L, h1, _⟩ := h.each u hu
    exact map_ne_blk h1 hc e
  · obtain ⟨u, hu, e⟩ := List.mem_map.1 hm
    obtain ⟨L, h1, _⟩ := h.each u hu
    exact map_ne_blk h1 h.blk e
theorem mem_ut {U : List UT} {x : Int} {b : Nat} : (x, b) ∈ ut U ↔ ∃ u ∈ U, u.1.1 = x ∧ u.2 = b := by
  unfold ut
  rw [List.mem_map]
  constructor
  · rintro ⟨u, hu, e⟩; exact ⟨u, hu, (Prod.mk.inj e).1, (Prod.mk.inj e).2⟩
  · rintro ⟨u, hu, rfl, rfl⟩; exact ⟨u, hu, rfl⟩
theorem CstB.shelves (h : CstB w g bt A c U S) : shelvesC S = U.map (·.1.1) := by
  unfold shelvesC
  rw [← h.rows, List.map_map]
  rfl
theorem CstB.has (h : CstB w g bt A c U S) (sh : Int) : hasM (tm (ut U)) sh = hasC S sh := by
  rw [Bool.eq_iff_iff, hasM_iff, hasC_iff, h.shelves, List.mem_map]
  constructor
  · rintro ⟨o, ho⟩
    obtain ⟨b, _, hb⟩ := mem_tm.1 ho
    obtain ⟨u, hu, e, _⟩ := mem_ut.1 hb
    exact ⟨u, hu, e⟩
  · rintro ⟨u, hu, e⟩
    exact ⟨some u.2, mem_tm.2 ⟨u.2, rfl, mem_ut.2 ⟨u, hu, e, rfl⟩⟩⟩
theorem CstB.get (h : CstB w g bt A c U S) {u : UT} (hu : u ∈ U) : getM mkOT (tm (ut U)) u.1.1 = some u.2 := getM_of h.tabs.once (mem_tm.2 ⟨u.2, rfl, mem_ut.2 ⟨u, hu, rfl, rfl⟩⟩)
end
theorem Cst.lt {w : World} {s : Addr} {F : Nat → Prop} {S : CS} (h : Cst w s F S) : ∀ g, F g → g < w.heap.size := by
  obtain ⟨g, bt, A, c, U, _, hF, hi⟩ := h
  exact fun x hx => hi.lt x ((hF x).1 hx)
theorem Cst.keep {w w' : World} {s : Addr} {F : Nat → Prop} {S : CS} (h : Cst w s F S) (hk : ∀ g, F g → w'.heap[g]? = w.heap[g]?) : Cst w' s F S := by
  obtain ⟨g, bt, A, c, U, hs, hF, hi⟩ := h
  exact ⟨g, bt, A, c, U, hs, hF, hi.keep fun x hx => hk x ((hF x).2 hx)⟩
theorem Cst.ok {w : World} {s : Addr} {F : Nat → Prop} {S : CS} (h : Cst w s F S) : S.Ok := by
  obtain ⟨g, bt, A, c, U, _, _, hi⟩ := h
  exact hi.ok
set_option maxHeartbeats 1000000 in
theorem cnew_any (n : Nat) (w : World) (hn : n ≤ 4096) : Calls Tryz.prog 28 #[.int .i64 n] w fun e w' => ∃ s F, e = .returned (.tuple #[.pointer (some s), .int .i64 0]) ∧ Cst w' s F ⟨n, []⟩ ∧ (∀ g, F g → w.heap.size ≤ g) ∧ Below w.heap.size w w' := by
  have hmm := @run_makeMap Tryz.prog
  obtain ⟨w1, hw1⟩ : ∃ w1, w.alloc (.map #[] 0) = w1 := ⟨_, rfl⟩
  obtain ⟨w2, hw2⟩ : ∃ w2, w1.alloc (.cells #[.int .i64 n, .slice none 0 0, .map (some w.heap.size)] 100) = w2 := ⟨_, rfl⟩
  have hb1 : Below w.heap.size w w1 := hw1 ▸ (Below.refl _ _).alloc (Nat.le_refl _) _
  have hb2 : Below w1.heap.size w1 w2 := hw2 ▸ (Below.refl _ _).alloc (Nat.le_refl _) _
  have s1 : w1.heap.size = w.heap.size + 1 := by rw [← hw1]; simp
  have h1 : MapL mkOT w1 w.heap.size [] := hw1 ▸ MapL.made mkOT w
  have hi : CstB w2 w1.heap.size w.heap.size none 0 [] ⟨n, []⟩ :=
    ⟨rfl, by rw [← hw2]; exact Blk.new _ _ _, OwnG.nil _ _, h1.blk (hb2.block _ (by omega)), by simp, by simp, by simp, CS.Ok.new hn⟩
  have HI := Lib.hid hi
  have HS := Lib.hid s1
  have HB := Lib.hid (hb1.trans (hb2.mono hb1.size))
  have HW := Lib.hid (And.intro hw1 hw2)
  have hn1 : (0 : Int) ≤ (n : Int) := by omega
  have hn2 : (n : Int) ≤ 4096 := by omega
  clear hi s1 hb1 hb2 h1 hw1 hw2
  go_enter Tryz.func28, Tryz.ntmps28
  go_wp2_with fail
  all_goals first
    | (exfalso; omega)
    | skip
  obtain ⟨e1, e2⟩ := HW.out
  rw [e1, e2]
  (try simp only [Exit.inBlock, Exit.then])
  refine bodyPost_ret (results_tmp2 rfl _ _ _) rfl ?_
  refine ⟨⟨w.heap.size + 1, 0, none⟩, _, rfl, ⟨w1.heap.size, _, _, _, _, by rw [HS.out], fun x => Iff.rfl, HI.out⟩, ?_, HB.out⟩
  have := HS.out
  rintro x (rfl | rfl | ⟨_, e, _⟩ | hx)
  · omega
  · exact Nat.le_refl _
  · cases e
  · cases hx
set_option maxHeartbeats 1000000 in
theorem cnew_no (room : Int) (w : World) (hr : In64 room) (hn : ¬ (0 ≤ room ∧ room ≤ 4096)) : Calls Tryz.prog 28 #[.int .i64 room] w fun e w' => e = .returned (.tuple #[.pointer none, .int .i64 1]) ∧ Below w.heap.size w w' := by
  obtain ⟨r1, r2⟩ := hr
  go_enter Tryz.func28, Tryz.ntmps28
  go_wp2_with fail
  all_goals first
    | (exfalso; omega)
    | ((try simp only [Exit.inBlock, Exit.then]); refine bodyPost_ret (results_tmp2 rfl _ _ _) rfl ?_; exact ⟨rfl, Below.refl _ _⟩)
set_option maxHeartbeats 1000000 in
theorem chas_b (w : World) (g bt c : Nat) (A : Option Addr) (U : List UT) (S : CS) (h : CstB w g bt A c U S) (sh : Int) (hs : In64 sh) : Calls Tryz.prog 60 #[.pointer (some ⟨g, 0, none⟩), .int .i64 sh] w fun e w' => e = .returned (.bool (hasC S sh)) ∧ w' = w := by
  have c0 : w.cell? ⟨g, 2, none⟩ = some (.map (some bt)) := h.blk.cell 2
  have HM := Lib.hid h.tabs
  have HH := Lib.hid (h.has sh)
  obtain ⟨o, ho⟩ : ∃ o, mkOT.encV (getM mkOT (tm (ut U)) sh) = .map o := ⟨_, rfl⟩
  have HO := Lib.hid ho
  obtain ⟨r, hr⟩ : ∃ r, hasC S sh = r := ⟨_, rfl⟩
  rw [hr] at HH ⊢
  clear h ho hr
  go_enter Tryz.func60, Tryz.ntmps60
  go_wp2_with (refine wpList_look_ok_g _ rfl (.tmp 13) (.tmp 14) rfl okOT rfl HM.out sh hs rfl (.map o) HO.out r HH.out ?_)
  go_ret
  exact ⟨rfl, rfl⟩
theorem chas_any (s : Addr) (F : Nat → Prop) (S : CS) (sh : Int) (w : World) (h : Cst w s F S) (hs : In64 sh) : Calls Tryz.prog 60 #[.pointer (some s), .int .i64 sh] w fun e w' => e = .returned (.bool (hasC S sh)) ∧ Below w.heap.size w w' := by
  obtain ⟨g, bt, A, c, U, rfl, hF, hi⟩ := h
  exact (chas_b w g bt c A U S hi sh hs).mono fun e w' ⟨h1, h2⟩ => ⟨h1, h2 ▸ Below.refl _ _⟩
theorem chas_nil (sh : Int) (w : World) : Calls Tryz.prog 60 #[.pointer none, .int .i64 sh] w fun e w' => e = .returned (.bool false) ∧ w' = w := by
  go_enter Tryz.func60, Tryz.ntmps60
  go_wp2_with fail
  go_ret
  exact ⟨rfl, rfl⟩
end Go.Proofs.YtoofhaoaogoomaaGreat
/- The landed cache: remove, Drop. No statement of the seat is proved here. -/
namespace Go.Proofs.YtoofhaoaogoomaaGreat
open Go Go.Maps Go.RowKit
set_option linter.unusedVariables false
set_option linter.unusedSimpArgs false
set_option maxRecDepth 100000

theorem filter_erase {α β : Type} [DecidableEq β] (f : α → β) : ∀ (l : List α) (i : Nat) (hi : i < l.length), (l.map f).Nodup → l.filter (fun x => decide (f x ≠ f l[i])) = l.eraseIdx i
  | [], i, hi, _ => by simp at hi
  | x :: l, 0, _, hn => by
    rw [List.map_cons, List.nodup_cons] at hn
    simp only [List.getElem_cons_zero, List.eraseIdx_cons_zero]
    rw [List.filter_cons_of_neg (by simp)]
    exact List.filter_eq_self.2 fun y hy => by
      have : f y ≠ f x := fun e => hn.1 (List.mem_map.2 ⟨y, hy, e⟩)
      simpa using this
  | x :: l, i + 1, hi, hn => by
    rw [List.map_cons, List.nodup_cons] at hn
    have hi' : i < l.length := by simpa using hi
    simp only [List.getElem_cons_succ, List.eraseIdx_cons_succ]
    have h1 : f x ≠ f l[i] := fun e => hn.1 (List.mem_map.2 ⟨l[i], List.getElem_mem hi', e.symm⟩)
    rw [List.filter_cons_of_pos (by simpa using h1), filter_erase f l i hi' hn.2]
theorem row_short {w : World} {B n c m : Nat} {e : TypeId} {ad : Addr} {xs : List Value} (h : w.ownsRow B e 1 (.slice (some ad) n c) n xs) (hm : m ≤ n) : w.ownsRow B e 1 (.slice (some ad) m c) m (xs.take m) := by
  have hl := h.1
  rcases h.2 with ⟨hv, _⟩ | ⟨g, cap, cur, hv, hb, hh, hnc, hmx, hcs, ht⟩
  · cases hv
  · injection hv with e1 _ e3
    refine ⟨by rw [List.length_take]; omega, .inr ⟨g, cap, cur, by rw [e1, e3], hb, hh, by omega, hmx, hcs, ?_⟩⟩
    rw [← ht, List.take_take]
    congr 1
    omega
/-- slices.Delete of one number. -/
theorem del_ints (w : World) (B k c : Nat) (l : List Int) (h : OwnG 3 1 i1 w B (some ⟨k, 0, none⟩) c l) (i : Nat) (hi : i < l.length) (hl : l.length ≤ 100000) :
    Calls Tryz.prog 79 #[.slice (some ⟨k, 0, none⟩) l.length c, .int .i64 (i : Nat), .int .i64 ((i : Int) + 1)] w fun e w' => e = .returned (.slice (some ⟨k, 0, none⟩) (l.length - 1) c) ∧ OwnG 3 1 i1 w' B (some ⟨k, 0, none⟩) c (l.eraseIdx i) ∧ w.grownBy w' (some k) := by
  obtain ⟨hc1, hc2⟩ := h.cap
  unfold maxLen at hc2
  have hcell : ∀ j, j < l.length → w.cell? ⟨k, 0 + j, none⟩ = some (.int .i64 (l.getD j 0)) ∧ w.frozen? ⟨k, 0 + j, none⟩ = false := fun j hj => by
    obtain ⟨g2, hA, _, _, hcl⟩ := row_at h (by omega)
    injection hA with hA
    injection hA with hA _ _
    subst hA
    rw [Nat.zero_add]
    refine hcl j _ ?_
    rw [flat_i1, iv_get hj]
    simp [List.getD, hj]
  have hcall := Go.Proofs.AnyG.slices_Delete_int_cells delInt k 0 l.length c i (i + 1) l w (Nat.le_refl _) hc1 (by omega) (by omega) (by omega) (fun j hj => (hcell j hj).1) (fun j hj => (hcell j hj).2)
  refine (show Calls Tryz.prog 79 #[.slice (some ⟨k, 0, none⟩) l.length c, .int .i64 (i : Nat), .int .i64 ((i : Int) + 1)] w _ from hcall).mono fun e w' ⟨h1, q, h2⟩ => ?_
  have hl1 : (l.eraseIdx i).length = l.length - 1 := by rw [List.length_eraseIdx, if_pos hi]
  refine ⟨by rw [h1]; congr 2; omega, ?_, ?_⟩
  · subst h2
    have h0 : (w.drewN q).ownsRow B 3 1 (.slice (some ⟨k, 0, none⟩) l.length c) l.length (l.flatMap i1) := h
    obtain ⟨vs, hvs⟩ : ∃ vs, ((l.take l.length).take i ++ (l.take l.length).drop (i + 1) ++ List.replicate (i + 1 - i) 0).map (Value.int .i64) = vs := ⟨_, rfl⟩
    have e1 : vs = iv (l.eraseIdx i) ++ [.int .i64 0] := by
      rw [← hvs, List.take_length, cut_list, show i + 1 - i = 1 by omega]
      simp [iv]
    have hvl : vs.length = l.length := by rw [e1, List.length_append, iv_length, hl1]; simp; omega
    have h2 := row_splice (o := 0) h0 rfl vs (by omega)
    have h3 := row_short (m := l.length - 1) h2 (by omega)
    have e2 : (splice (l.flatMap i1) 0 vs).take (l.length - 1) = (l.eraseIdx i).flatMap i1 := by
      have : splice (l.flatMap i1) 0 vs = vs := by
        unfold splice
        rw [List.drop_eq_nil_of_le (by rw [flat_i1, iv_length]; omega)]
        simp
      rw [this, e1, flat_i1, List.take_left' (by rw [iv_length, hl1])]
    rw [e2] at h3
    unfold OwnG
    rw [hvs, hl1]
    exact h3
  · subst h2
    have h5 := grown_cells k (((l.take l.length).take i ++ (l.take l.length).drop (i + 1) ++ List.replicate (i + 1 - i) 0).map (Value.int .i64)) 0 (w.drewN q)
    exact ⟨h5.os, h5.tape, h5.output, h5.size, h5.block⟩
section
variable {w w1 w2 : World} {g bt c k i : Nat} {U : List UT} {S : CS} {sh : Int}
theorem remove_fin (h : CstB w g bt (some ⟨k, 0, none⟩) c U S) (hi : i < S.t.length) (hsh : (shelvesC S)[i]? = some sh) {n : Nat} (hn : (shelvesC S).length = n)
    (m1 : MapL mkOT w1 bt (delM (tm (ut U)) sh)) (m2 : w.grownBy w1 (some bt)) (o1 : OwnG 3 1 i1 w2 0 (some ⟨k, 0, none⟩) c ((shelvesC S).eraseIdx i)) (o2 : w1.grownBy w2 (some k)) :
    w2.cell? ⟨g, 1, none⟩ = some (.slice (some ⟨k, 0, none⟩) n c) ∧ w2.frozen? ⟨g, 1, none⟩ = false ∧ w2.cell? ⟨g, 2, none⟩ = some (.map (some bt)) ∧
    CstB (w2.setCell ⟨g, 1, none⟩ (.slice (some ⟨k, 0, none⟩) (n - 1) c)) g bt (some ⟨k, 0, none⟩) c (U.eraseIdx i) ⟨S.room, S.t.eraseIdx i⟩ ∧ Only (CstF g bt (some ⟨k, 0, none⟩) U) w (w2.setCell ⟨g, 1, none⟩ (.slice (some ⟨k, 0, none⟩) (n - 1) c)) := by
  subst hn
  obtain ⟨l1, l2, l3, l4, l5⟩ := h.len
  obtain ⟨q1, q2, q3⟩ := h.other
  obtain ⟨q4, q5, q6⟩ := q2 _ rfl
  have lt := h.lt
  have hiU : i < U.length := by omega
  have hk12 : ∀ x, x < w.heap.size → x ≠ bt → x ≠ k → w2.heap[x]? = w.heap[x]? := fun x hx n1 n2 => (o2.block x (Nat.lt_of_lt_of_le hx m2.size) fun e => n2 (by injection e)).trans (m2.block x hx fun e => n1 (by injection e))
  have hb2 := h.blk.same (hk12 g h.blk.lt q1 fun e => q4 e.symm)
  obtain ⟨v, hv⟩ : ∃ v, Value.slice (some (⟨k, 0, none⟩ : Addr)) ((shelvesC S).length - 1) c = v := ⟨_, rfl⟩
  have g3 := grown_cell w2 g 1 v
  have hk3 : ∀ x, x < w2.heap.size → x ≠ g → (w2.setCell ⟨g, 1, none⟩ v).heap[x]? = w2.heap[x]? := fun x hx hne => g3.block x hx fun e => hne (by injection e)
  have hs2 : w.heap.size ≤ w2.heap.size := Nat.le_trans m2.size o2.size
  have hbt := lt bt (.inr (.inl rfl))
  have hks := lt k (.inr (.inr (.inl ⟨_, rfl, rfl⟩)))
  have esh : shelvesC ⟨S.room, S.t.eraseIdx i⟩ = (shelvesC S).eraseIdx i := eraseIdx_map _ _ _
  have eln : (shelvesC ⟨S.room, S.t.eraseIdx i⟩).length = (shelvesC S).length - 1 := by rw [esh, List.length_eraseIdx, if_pos (by omega)]
  rw [hv]
  refine ⟨hb2.cell 1, hb2.frozen 1, hb2.cell 2, ⟨?_, ?_, ?_, ?_, ?_, ?_, ?_, h.ok.cut i⟩, ?_⟩
  · rw [eraseIdx_map, h.rows]
  · have := hb2.set_ 1 v
    rw [← eln] at hv
    rw [hv]
    simpa using this
  · rw [esh]
    exact o1.grown g3 fun r e e2 => by
      injection e with e
      injection e2 with e2
      exact q4 (e2.trans e.symm)
  · have e1 : delM (tm (ut U)) sh = tm (ut (U.eraseIdx i)) := by
      have hl : i < (ut U).length := by unfold ut; rw [List.length_map]; exact hiU
      have hs : sh = ((ut U)[i]).1 := by
        have h1 : ((ut U).map (·.1))[i]? = some sh := by
          rw [show (ut U).map (·.1) = U.map (·.1.1) from by unfold ut; rw [List.map_map]; rfl, ← h.shelves]
          exact hsh
        rw [List.getElem?_map, List.getElem?_eq_getElem hl] at h1
        injection h1 with h1
        exact h1.symm
      have hn : ((ut U).map (·.1)).Nodup := by
        have := h.tabs.once
        rwa [tm_fst] at this
      rw [tm_del, hs, filter_erase (·.1) (ut U) i hl hn]
      unfold ut
      rw [eraseIdx_map]
    rw [← e1]
    exact m1.blk ((hk3 bt (by omega) fun e => q1 e.symm).trans (o2.block bt (Nat.lt_of_lt_of_le hbt m2.size) fun e => q5 (by injection e with e; exact e.symm)))
  · intro u hu
    have hu := List.mem_of_mem_eraseIdx hu
    have hum : u.2 ∈ U.map (·.2) := List.mem_map.2 ⟨u, hu, rfl⟩
    obtain ⟨L, h1, h2⟩ := h.each u hu
    exact ⟨L, h1.blk ((hk3 u.2 (Nat.lt_of_lt_of_le h1.lt hs2) fun e => q3 (e ▸ hum)).trans (hk12 u.2 h1.lt (fun e => h.far (e ▸ hum)) fun e => q6 (e ▸ hum))), h2⟩
  · exact h.apart.sublist ((List.eraseIdx_sublist _ _).map _)
  · exact fun hm => h.far (((List.eraseIdx_sublist _ _).map _).subset hm)
  · have a1 : Only (CstF g bt (some ⟨k, 0, none⟩) U) w w1 := only_grown m2 (.inr (.inl rfl))
    have a2 : Only (CstF g bt (some ⟨k, 0, none⟩) U) w1 w2 := only_grown o2 (.inr (.inr (.inl ⟨_, rfl, rfl⟩)))
    exact only_trans (only_trans a1 a2) (only_grown g3 (.inl rfl))
end
set_option maxHeartbeats 4000000 in
theorem remove_b (w : World) (g bt c : Nat) (A : Option Addr) (U : List UT) (S : CS) (h : CstB w g bt A c U S) (i : Nat) (hi : i < S.t.length) : Calls Tryz.prog 61 #[.pointer (some ⟨g, 0, none⟩), .int .i64 (i : Nat)] w fun e w' => e = .returned (.tuple #[]) ∧ CstB w' g bt A c (U.eraseIdx i) ⟨S.room, S.t.eraseIdx i⟩ ∧ Only (CstF g bt A U) w w' := by
  obtain ⟨l1, l2, l3, l4, l5⟩ := h.len
  obtain ⟨k, hA, _, hkl, hcell⟩ := row_at (n := (shelvesC S).length) h.order (by omega)
  subst hA
  have hil : i < (shelvesC S).length := by omega
  obtain ⟨sh, hsh⟩ : ∃ sh, (shelvesC S)[i] = sh := ⟨_, rfl⟩
  have hsh2 : (shelvesC S)[i]? = some sh := by rw [List.getElem?_eq_getElem hil, hsh]
  have cx : w.cell? ⟨k, i, none⟩ = some (.int .i64 sh) := (hcell i _ (by rw [flat_i1, iv_get hil, hsh])).1
  have hs64 : In64 sh := by
    have hm : sh ∈ shelvesC S := hsh ▸ List.getElem_mem hil
    obtain ⟨x, hx, e⟩ := List.mem_map.1 hm
    have := h.ok.shelf x hx
    rw [e] at this
    exact this
  obtain ⟨n, hn⟩ : ∃ n, (shelvesC S).length = n := ⟨_, rfl⟩
  have c1 : w.cell? ⟨g, 1, none⟩ = some (.slice (some ⟨k, 0, none⟩) n c) := by rw [← hn]; exact h.blk.cell 1
  have c2 : w.cell? ⟨g, 2, none⟩ = some (.map (some bt)) := h.blk.cell 2
  have hi1 : (0 : Int) ≤ (i : Int) := by omega
  have hi2 : (i : Int) < (n : Int) := by omega
  have hi3 : (i : Int) < 4096 := by omega
  have HM := Lib.hid h.tabs
  have HFIN := Lib.hid (fun w1 w2 => remove_fin (w1 := w1) (w2 := w2) h hi hsh2 hn)
  have HC := Lib.hid (fun w1 (m2 : w.grownBy w1 (some bt)) => show w1.cell? ⟨g, 1, none⟩ = some (.slice (some ⟨k, 0, none⟩) n c) ∧ Calls Tryz.prog 79 #[.slice (some ⟨k, 0, none⟩) n c, .int .i64 (i : Nat), .int .i64 ((i : Int) + 1)] w1 (fun e w' => e = .returned (.slice (some ⟨k, 0, none⟩) (n - 1) c) ∧ OwnG 3 1 i1 w' 0 (some ⟨k, 0, none⟩) c ((shelvesC S).eraseIdx i) ∧ w1.grownBy w' (some k)) from by
    obtain ⟨q1, q2, q3⟩ := h.other
    obtain ⟨q4, q5, q6⟩ := q2 _ rfl
    subst hn
    refine ⟨(h.blk.same (m2.block g h.blk.lt fun e => q1 (by injection e))).cell 1, del_ints w1 0 k c (shelvesC S) (h.order.grown m2 fun r e e2 => ?_) i (by omega) (by omega)⟩
    injection e with e
    injection e2 with e2
    exact q5 (e2.trans e.symm))
  clear h hcell hsh hsh2 hkl hil hn l1 l2 l3
  go_enter Tryz.func61, Tryz.ntmps61
  go_upto_region 0 with fail
  refine wp_region_still_tail 11 (by kernel_rfl) (by kernel_rfl) ?_
  simp only [List.take_succ_cons, List.take_zero, List.drop_succ_cons, List.drop_zero]
  iterate 11 still_step
  refine wpStill_nil ?_
  change wpList _ _ _ _ _ w.drew
  refine wpList_del_g w.drew rfl (.tmp 7) (.tmp 14) rfl okOT rfl (show MapL mkOT w.drew bt (tm (ut U)) from HM.out.blk rfl) sh hs64 rfl ?_
  intro w1 m1 m2 m3
  have HM1 := Lib.hid (And.intro m1 (grown_undrew m2))
  obtain ⟨d1, d2⟩ := HC.out w1 HM1.out.2
  have D2 := Lib.hid d2
  clear m1 m2 m3 d2
  go_wp2_with (go_at_call 79; (with_reducible refine D2.out.mono ?_); rintro _ w2 ⟨rfl, o1, o2⟩; have HO := Lib.hid (HFIN.out w1 w2 HM1.out.1 HM1.out.2 o1 o2); obtain ⟨e1, e2, e3, _⟩ := HO.out; clear o1 o2)
  go_end0
  exact ⟨rfl, HO.out.2.2.2⟩
end Go.Proofs.YtoofhaoaogoomaaGreat
