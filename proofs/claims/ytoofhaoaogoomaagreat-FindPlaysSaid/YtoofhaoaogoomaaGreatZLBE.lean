/- The landed index: Get. No statement of the seat is proved here. -/
import Derived.Test.YtoofhaoaogoomaaGreatZLBD
import Derived.Test.YtoofhaoaogoomaaGreatZLAI
import Derived.Test.YtoofhaoaogoomaaGreatZLAO
import Derived.Deep.RegionHeld
namespace Go.Proofs.YtoofhaoaogoomaaGreat
open Go Go.Maps Go.RowKit
set_option linter.unusedVariables false
set_option linter.unusedSimpArgs false
set_option maxRecDepth 100000

theorem hasX_hasM (L : List RowT) (k : KeyT) : hasM L k = hasX L k := rfl
theorem getX_getM (L : List RowT) (k : KeyT) : getM mkP L k = getX L k := by
  cases h : L.find? (fun r => decide (r.1 = k)) with
  | none => simp only [getM, getX, h]; rfl
  | some x => simp only [getM, getX, h]
set_option maxRecDepth 100000 in
set_option maxHeartbeats 4000000 in
theorem get_any (w : World) (s : Addr) (F : Nat → Prop) (L : List RowT) (h : Ist w s F L) (k : KeyT) (hk : k.Ok) :
    Calls Tryz.prog 43 #[.pointer (some s), kv k] w fun e w' => e = .returned (.tuple #[pv (getX L k), .bool (hasX L k)]) ∧ Below w.heap.size w w' := by
  obtain ⟨g, bp, bt, bs, FT, FH, rfl, hF, hi⟩ := h
  obtain ⟨X, hX⟩ : ∃ X, kcs k = X := ⟨_, rfl⟩
  have hXl : X.length = 33 := by rw [← hX]; exact kcs_length hk
  obtain ⟨⟨p1, p2⟩, hp⟩ : ∃ p, getX L k = p := ⟨_, rfl⟩
  obtain ⟨r, hr⟩ : ∃ r, hasX L k = r := ⟨_, rfl⟩
  obtain ⟨w1, hw1⟩ : ∃ w1, w.alloc (.cells X.toArray 29) = w1 := ⟨_, rfl⟩
  obtain ⟨w2, hw2⟩ : ∃ w2, w1.alloc (.cells #[.int .i64 0, .int .i64 0] 40) = w2 := ⟨_, rfl⟩
  obtain ⟨sb, hsb⟩ : ∃ sb, w.heap.size = sb := ⟨_, rfl⟩
  have hs1 : w1.heap.size = sb + 1 := by rw [← hw1, ← hsb]; simp
  have hs2 : w2.heap.size = sb + 2 := by rw [← hw2]; simp [hs1]
  have hb1 : Below w.heap.size w w1 := hw1 ▸ (Below.refl _ _).alloc (Nat.le_refl _) _
  have hb2 : Below w1.heap.size w1 w2 := hw2 ▸ (Below.refl _ _).alloc (Nat.le_refl _) _
  have hbw : Below w.heap.size w w2 := hb1.trans (hb2.mono hb1.size)
  have hk1 : Blk w2 sb 29 X.toArray := by rw [← hsb]; exact (hw1 ▸ Blk.new w _ _ : Blk w1 w.heap.size _ _).below hb2 (by rw [hs1, hsb]; omega)
  have hk2 : Blk w2 (sb + 1) 40 #[.int .i64 0, .int .i64 0] := by rw [← hs1, ← hw2]; exact Blk.new w1 _ _
  have hi2 := hi.on hbw
  have hgl : g < sb := hsb ▸ hi.blk.lt
  obtain ⟨fk, hfk⟩ := key_desc'
  have hXs : (Tryz.prog.info? 29).map (·.size) = some X.length := by rw [hXl]; exact key_size
  have hlk : ∀ W, Below w2.heap.size w2 W → (Instr.lookup 101 (.map (some bp)) (.agg X.toArray) true).run Tryz.prog W = .ok (.tuple #[.agg #[.int .i64 p1, .int .i64 p2], .bool r]) W := fun W hW => by
    have := (hi2.on hW).places.look_ok okP (q := k) hk
    rw [hasX_hasM, getX_getM, hp, hr] at this
    rw [← hX]; exact this
  have hcl : ∀ W, Below w2.heap.size w2 W → W.cell? ⟨g, 0, none⟩ = some (.map (some bp)) := fun W hW => (hi2.blk.below hW hi2.blk.lt).cell 0
  have HW := Lib.hid (And.intro hw1 (And.intro hw2 (And.intro hsb (And.intro hs1 hs2))))
  have HB := Lib.hid hbw
  have HK2 := Lib.hid hk2
  have HC := Lib.hid hcl
  have HLK := Lib.hid hlk
  have HX := Lib.hid (show ∀ W, Below w2.heap.size w2 W → W.rangeAt sb 0 X from fun W hW => range_of_blk (hk1.below hW hk1.lt))
  have HF := Lib.hid hfk
  have HXS := Lib.hid hXs
  unfold kv
  rw [hX, hp, hr]
  clear hi hi2 hX hXl hp hr hw1 hw2 hsb hs1 hs2 hb1 hb2 hbw hk1 hk2 hfk hXs hlk hcl hF
  go_enter Tryz.func43, Tryz.ntmps43
  go_upto_region 1 with fail
  rw [HW.out.1, HW.out.2.1, HW.out.2.2.1]
  go_upto_region 3 with fail
  have b0 : Below w2.heap.size w2 w2.drew := ⟨rfl, rfl, rfl, Nat.le_refl _, fun _ _ => rfl⟩
  refine wp_region_held_drew (S := fun W => Below w2.heap.size w2 W) (by kernel_rfl) b0 (fun hHeld => ?_)
  refine wpAnyH_take (i := 0) (oi := _) (v := .pointer (some ⟨g, 0, none⟩)) rfl (by kernel_rfl) (by kernel_rfl) (by kernel_rfl) (fun _ _ _ h => h) (Or.inl ⟨by rfl, by intro w hSw; go_simp⟩) b0 ?_
  simp only [List.getElem_toArray, List.getElem_cons_zero, List.getElem_cons_succ, Act.put, List.setIfInBounds_toArray, List.set_cons_zero, List.set_cons_succ]
  refine wpAnyH_take (i := 1) (oi := _) (v := .pointer (some ⟨g, 0, none⟩)) rfl (by kernel_rfl) (by kernel_rfl) (by kernel_rfl) (fun _ _ _ h => h) (Or.inl ⟨by rfl, by intro w hSw; go_simp⟩) b0 ?_
  simp only [List.getElem_toArray, List.getElem_cons_zero, List.getElem_cons_succ, Act.put, List.setIfInBounds_toArray, List.set_cons_zero, List.set_cons_succ]
  refine wpAnyH_take (i := 2) (oi := _) (v := .pointer (some ⟨g, 0, none⟩)) rfl (by kernel_rfl) (by kernel_rfl) (by kernel_rfl) (fun _ _ _ h => h) (Or.inl ⟨by rfl, by intro w hSw; go_simp⟩) b0 ?_
  simp only [List.getElem_toArray, List.getElem_cons_zero, List.getElem_cons_succ, Act.put, List.setIfInBounds_toArray, List.set_cons_zero, List.set_cons_succ]
  refine wpAnyH_take (i := 3) (oi := _) (v := .map (some bp)) rfl (by kernel_rfl) (by kernel_rfl) (by kernel_rfl) (fun _ _ _ h => h) (Or.inl ⟨by rfl, by intro w hSw; have hcc := HC.out w hSw; go_simp⟩) b0 ?_
  simp only [List.getElem_toArray, List.getElem_cons_zero, List.getElem_cons_succ, Act.put, List.setIfInBounds_toArray, List.set_cons_zero, List.set_cons_succ]
  refine wpAnyH_take (i := 4) (oi := _) (v := .agg X.toArray) rfl (by kernel_rfl) (by kernel_rfl) (by kernel_rfl) (fun _ _ _ h => h) (yields_mid (by rfl) 29 (.tmp 3) rfl sb 0 rfl X (.struct fk) (fun W hW => HX.out W hW) HF.out rfl HXS.out) b0 ?_
  simp only [List.getElem_toArray, List.getElem_cons_zero, List.getElem_cons_succ, Act.put, List.setIfInBounds_toArray, List.set_cons_zero, List.set_cons_succ]
  refine wpAnyH_take (i := 5) (oi := _) (v := .tuple #[.agg #[.int .i64 p1, .int .i64 p2], .bool r]) rfl (by kernel_rfl) (by kernel_rfl) (by kernel_rfl) (fun _ _ _ h => h) (Or.inl ⟨by rfl, by intro w hSw; have hcc := HLK.out w hSw; go_simp⟩) b0 ?_
  simp only [List.getElem_toArray, List.getElem_cons_zero, List.getElem_cons_succ, Act.put, List.setIfInBounds_toArray, List.set_cons_zero, List.set_cons_succ]
  refine wpAnyH_take (i := 6) (oi := _) (v := .tuple #[.agg #[.int .i64 p1, .int .i64 p2], .bool r]) rfl (by kernel_rfl) (by kernel_rfl) (by kernel_rfl) (fun _ _ _ h => h) (Or.inl ⟨by rfl, by intro w hSw; go_simp⟩) b0 ?_
  simp only [List.getElem_toArray, List.getElem_cons_zero, List.getElem_cons_succ, Act.put, List.setIfInBounds_toArray, List.set_cons_zero, List.set_cons_succ]
  refine wpAnyH_take (i := 7) (oi := _) (v := .agg #[.int .i64 p1, .int .i64 p2]) rfl (by kernel_rfl) (by kernel_rfl) (by kernel_rfl) (fun _ _ _ h => h) (Or.inl ⟨by rfl, by intro w hSw; go_simp⟩) b0 ?_
  simp only [List.getElem_toArray, List.getElem_cons_zero, List.getElem_cons_succ, Act.put, List.setIfInBounds_toArray, List.set_cons_zero, List.set_cons_succ]
  refine wpAnyH_take (i := 8) (oi := _) (v := .bool r) rfl (by kernel_rfl) (by kernel_rfl) (by kernel_rfl) (fun _ _ _ h => h) (Or.inl ⟨by rfl, by intro w hSw; go_simp⟩) b0 ?_
  simp only [List.getElem_toArray, List.getElem_cons_zero, List.getElem_cons_succ, Act.put, List.setIfInBounds_toArray, List.set_cons_zero, List.set_cons_succ]
  refine wpAnyH_ready (rs := [9]) (by kernel_rfl) (by simp) ?_
  refine AllReadyH.cons rfl (fun K hK => ?_) AllReadyH.nil
  go_simp
  have b1 : Below w2.heap.size w2 (w2.alloc (.cells #[.int .i64 0, .int .i64 0] 40)).drew := by
    have := (Below.refl w2.heap.size w2).alloc (Nat.le_refl _) (.cells #[.int .i64 0, .int .i64 0] 40)
    exact ⟨this.os, this.tape, this.output, this.size, this.block⟩
  refine hK.out _ _ b1 (fun _ => ?_)
  clear hK K
  try simp only [List.getElem_toArray, List.getElem_cons_zero, List.getElem_cons_succ, Act.put, List.setIfInBounds_toArray, List.set_cons_zero, List.set_cons_succ]
  refine wpAnyH_ready (rs := [10]) (by kernel_rfl) (by simp) ?_
  refine AllReadyH.cons rfl (fun K hK => ?_) AllReadyH.nil
  go_simp
  obtain ⟨w3, hw3⟩ : ∃ w3, (w2.alloc (.cells #[.int .i64 p1, .int .i64 p2] 40)).drew = w3 := ⟨_, rfl⟩
  have b2 : Below w2.heap.size w2 w3 := by
    have := (Below.refl w2.heap.size w2).alloc (Nat.le_refl _) (.cells #[.int .i64 p1, .int .i64 p2] 40)
    rw [← hw3]
    exact ⟨this.os, this.tape, this.output, this.size, this.block⟩
  have hq : Blk w3 w2.heap.size 40 #[.int .i64 p1, .int .i64 p2] := hw3 ▸ Blk.new w2 _ _
  rw [hw3]
  refine hK.out _ _ b2 (fun _ => ?_)
  clear hK K
  try simp only [List.getElem_toArray, List.getElem_cons_zero, List.getElem_cons_succ, Act.put, List.setIfInBounds_toArray, List.set_cons_zero, List.set_cons_succ]
  refine wpAnyH_take (i := 11) (oi := _) (v := .bool r) rfl (by kernel_rfl) (by kernel_rfl) (by kernel_rfl) (fun _ _ _ h => h) (Or.inl ⟨by rfl, by intro w hSw; go_simp⟩) b2 ?_
  simp only [List.getElem_toArray, List.getElem_cons_zero, List.getElem_cons_succ, Act.put, List.setIfInBounds_toArray, List.set_cons_zero, List.set_cons_succ]
  refine wpAnyH_done (by kernel_rfl) ?_ _
  have hr3 := HK2.out.below b2 HK2.out.lt
  have f0 : w3.cell? ⟨w2.heap.size, 0, none⟩ = some (.int .i64 p1) := hq.cell 0
  have f1 : w3.cell? ⟨w2.heap.size, 1, none⟩ = some (.int .i64 p2) := hq.cell 1
  have f2 : w3.cell? ⟨sb + 1, 0, none⟩ = some (.int .i64 0) := hr3.cell 0
  have f3 : w3.cell? ⟨sb + 1, 1, none⟩ = some (.int .i64 0) := hr3.cell 1
  have f4 : w3.frozen? ⟨sb + 1, 0, none⟩ = false := hr3.frozen 0
  have f5 : w3.frozen? ⟨sb + 1, 1, none⟩ = false := hr3.frozen 1
  have HB2 := Lib.hid b2
  have HR3 := Lib.hid hr3
  clear b0 b1 b2 hq hr3 hw3
  go_wp2_with fail
  (try simp only [Exit.inBlock, Exit.then])
  have hbl : Blk ((w3.setCell ⟨sb + 1, 0, none⟩ (.int .i64 p1)).setCell ⟨sb + 1, 1, none⟩ (.int .i64 p2)) (sb + 1) 40 #[.int .i64 p1, .int .i64 p2] := (HR3.out.set_ 0 (.int .i64 p1)).set_ 1 (.int .i64 p2)
  obtain ⟨fp, hfp⟩ := place_desc
  refine bodyPost_ret (v := .tuple #[.agg #[.int .i64 p1, .int .i64 p2], .bool r]) ?_ rfl ⟨rfl, ?_⟩
  · exact res_row_tmpB rfl _ _ (sb + 1) 40 _ (0, 0) _ rfl hbl hfp rfl place_size _ rfl
  · have hb1 : Below w.heap.size w w3 := HB.out.trans (HB2.out.mono HB.out.size)
    rw [HW.out.2.2.1] at hb1 ⊢
    exact (hb1.setCell (by simp) _).setCell (by simp) _
end Go.Proofs.YtoofhaoaogoomaaGreat
/- Plain mathematics for the landed index. No statement of the seat is proved here. -/
namespace Go.Proofs.YtoofhaoaogoomaaGreat
open Go Go.Maps Go.RowKit
set_option linter.unusedVariables false
set_option maxRecDepth 100000

theorem ordK_ne {a k : KeyT} (ha : KeyT.Ok a) (hk : KeyT.Ok k) : a ≠ k ↔ ordK a < ordK k ∨ ordK k < ordK a := by
  constructor
  · intro h
    rcases Nat.lt_trichotomy (ordK a) (ordK k) with h1 | h1 | h1
    · exact .inl h1
    · exact absurd (ordK_inj ha hk h1) h
    · exact .inr h1
  · rintro h rfl
    omega
theorem mem_dropY {L : List RowT} (h : RowsOk L) {k : KeyT} (hk : KeyT.Ok k) {r : RowT} : r ∈ dropX L k ↔ r ∈ L ∧ r.1 ≠ k := by
  unfold dropX
  rw [List.mem_append, mem_under, mem_over]
  constructor
  · rintro (⟨h1, h2⟩ | ⟨h1, h2⟩)
    · exact ⟨h1, (ordK_ne (h.key r h1) hk).2 (.inl h2)⟩
    · exact ⟨h1, (ordK_ne (h.key r h1) hk).2 (.inr h2)⟩
  · rintro ⟨h1, h2⟩
    rcases (ordK_ne (h.key r h1) hk).1 h2 with h3 | h3
    · exact .inl ⟨h1, h3⟩
    · exact .inr ⟨h1, h3⟩
theorem mem_putY {L : List RowT} (h : RowsOk L) {k : KeyT} (hk : KeyT.Ok k) {p : Int × Int} {r : RowT} : r ∈ putX L k p ↔ r = (k, p) ∨ (r ∈ L ∧ r.1 ≠ k) := by
  rw [← mem_dropY h hk]
  unfold putX dropX
  rw [List.mem_append, List.mem_cons, List.mem_append]
  constructor
  · rintro (h | h | h)
    · exact .inr (.inl h)
    · exact .inl h
    · exact .inr (.inr h)
  · rintro (h | h | h)
    · exact .inr (.inl h)
    · exact .inl h
    · exact .inr (.inr h)
theorem rise_once {L : List RowT} (h : Rise L) : (L.map (·.1)).Nodup := List.pairwise_map.2 (List.Pairwise.imp (fun hab e => by rw [e] at hab; omega) h)
theorem delM_drop {L : List RowT} (h : RowsOk L) {k : KeyT} (hk : KeyT.Ok k) : (delM L k).Perm (dropX L k) :=
  perm_of_once (once_del (rise_once h.rise) k) (rise_once (h.drop k).rise) fun x => by rw [mem_delM, mem_dropY h hk]
theorem putM_put {L : List RowT} (h : RowsOk L) {k : KeyT} (hk : KeyT.Ok k) {p : Int × Int} (hp : PlOk p) : (putM (dropX L k) k p).Perm (putX L k p) :=
  perm_of_once (once_put (rise_once (h.drop k).rise) k p) (rise_once (h.put hk hp).rise) fun x => by
    rw [mem_putM, mem_dropY h hk, mem_putY h hk]
    constructor
    · rintro (h | ⟨⟨h1, h2⟩, _⟩)
      · exact .inl h
      · exact .inr ⟨h1, h2⟩
    · rintro (h | ⟨h1, h2⟩)
      · exact .inl h
      · exact .inr ⟨⟨h1, h2⟩, h2⟩
theorem rt_drop {L : List RowT} (h : RowsOk L) {k : KeyT} (hk : KeyT.Ok k) (d : List UInt8) (q : KeyT) : (RT L d q ∧ (d = k.1 → ¬ q = k)) ↔ RT (dropX L k) d q := by
  unfold RT
  constructor
  · rintro ⟨⟨h1, p, hp⟩, h2⟩
    exact ⟨h1, p, (mem_dropY h hk).2 ⟨hp, fun e => h2 (by rw [← h1]; exact congrArg Prod.fst e) e⟩⟩
  · rintro ⟨h1, p, hp⟩
    obtain ⟨h2, h3⟩ := (mem_dropY h hk).1 hp
    exact ⟨⟨h1, p, h2⟩, fun _ e => h3 e⟩
theorem rh_drop {L : List RowT} (h : RowsOk L) {k : KeyT} (hk : KeyT.Ok k) {p0 : Int × Int} (hp0 : (k, p0) ∈ L) (i : Int) (q : KeyT) : (RH L i q ∧ (i = p0.1 → ¬ q = k)) ↔ RH (dropX L k) i q := by
  unfold RH
  constructor
  · rintro ⟨⟨p, h1, hp⟩, h2⟩
    refine ⟨p, h1, (mem_dropY h hk).2 ⟨hp, fun e => h2 ?_ e⟩⟩
    have e : q = k := e
    rw [e] at hp
    rw [← h1, once_eq (rise_once h.rise) hp hp0]
  · rintro ⟨p, h1, hp⟩
    obtain ⟨h2, h3⟩ := (mem_dropY h hk).1 hp
    exact ⟨⟨p, h1, h2⟩, fun _ e => h3 e⟩
theorem rt_put {L : List RowT} (h : RowsOk L) {k : KeyT} (hk : KeyT.Ok k) (p : Int × Int) (d : List UInt8) (q : KeyT) : (RT (dropX L k) d q ∨ (d = k.1 ∧ q = k)) ↔ RT (putX L k p) d q := by
  unfold RT
  constructor
  · rintro (⟨h1, p', hp⟩ | ⟨rfl, rfl⟩)
    · exact ⟨h1, p', (mem_putY h hk).2 (.inr ((mem_dropY h hk).1 hp))⟩
    · exact ⟨rfl, p, (mem_putY h hk).2 (.inl rfl)⟩
  · rintro ⟨h1, p', hp⟩
    rcases (mem_putY h hk).1 hp with e | h2
    · have e1 := (Prod.mk.inj e).1
      exact .inr ⟨by rw [← h1, e1], e1⟩
    · exact .inl ⟨h1, p', (mem_dropY h hk).2 h2⟩
theorem rh_put {L : List RowT} (h : RowsOk L) {k : KeyT} (hk : KeyT.Ok k) (p : Int × Int) (i : Int) (q : KeyT) : (RH (dropX L k) i q ∨ (i = p.1 ∧ q = k)) ↔ RH (putX L k p) i q := by
  unfold RH
  constructor
  · rintro (⟨p', h1, hp⟩ | ⟨rfl, rfl⟩)
    · exact ⟨p', h1, (mem_putY h hk).2 (.inr ((mem_dropY h hk).1 hp))⟩
    · exact ⟨p, rfl, (mem_putY h hk).2 (.inl rfl)⟩
  · rintro ⟨p', h1, hp⟩
    rcases (mem_putY h hk).1 hp with e | h2
    · obtain ⟨e1, e2⟩ := Prod.mk.inj e
      exact .inr ⟨by rw [← h1, e2], e1⟩
    · exact .inl ⟨p', h1, (mem_dropY h hk).2 h2⟩
theorem room_rt {L : List RowT} (hl : L.length ≤ 10000) : Room (RT L) := ⟨L.map fun r => (r.1.1, r.1), by rw [List.length_map]; exact hl, fun d k ⟨h1, p, hp⟩ => List.mem_map.2 ⟨(k, p), hp, by rw [← h1]⟩⟩
theorem room_rh {L : List RowT} (hl : L.length ≤ 10000) : Room (RH L) := ⟨L.map fun r => (r.2.1, r.1), by rw [List.length_map]; exact hl, fun d k ⟨p, h1, hp⟩ => List.mem_map.2 ⟨(k, p), hp, by rw [← h1]⟩⟩
theorem has_get {L : List RowT} (h : RowsOk L) {k : KeyT} (hh : hasX L k = true) : (k, getX L k) ∈ L := by
  obtain ⟨p, hp⟩ := hasX_iff.1 hh
  have : getX L k = p := by
    cases hf : L.find? (fun r => decide (r.1 = k)) with
    | none =>
      rw [List.find?_eq_none] at hf
      exact absurd rfl (by simpa using hf (k, p) hp : ¬ k = k)
    | some x =>
      have h1 := List.mem_of_find?_eq_some hf
      have h2 : x.1 = k := by simpa using List.find?_some hf
      simp only [getX, hf]
      exact once_eq (rise_once h.rise) (a := k) (by rw [← h2]; exact h1) hp
  rw [this]; exact hp
theorem drop_none {L : List RowT} (h : RowsOk L) {k : KeyT} (hk : KeyT.Ok k) (hh : hasX L k = false) : dropX L k = L := by
  rcases rise_split h.rise hk h.key with ⟨_, e⟩ | ⟨_, e, _⟩
  · exact e.symm
  · rw [hh] at e; cases e
end Go.Proofs.YtoofhaoaogoomaaGreat
/- The landed index: Drop. No statement of the seat is proved here. -/
namespace Go.Proofs.YtoofhaoaogoomaaGreat
open Go Go.Maps Go.RowKit
set_option linter.unusedVariables false
set_option linter.unusedSimpArgs false
set_option maxRecDepth 100000

theorem only_undrew {F : Nat → Prop} {w w' : World} (h : Only F w.drew w') : Only F w w' := ⟨h.os, h.tape, h.output, h.size, h.block⟩
theorem kcs_sum {w : World} {kb : Nat} {k : KeyT} (hk : k.Ok) (h : w.rangeAt kb 0 (kcs k)) : w.rangeAt kb 0 (bv k.1) := fun j u hu => h j u (by
  unfold kcs
  rw [List.getElem?_append_left (List.getElem?_eq_some_iff.1 hu).1]
  exact hu)
theorem only_more {F G : Nat → Prop} {w w' : World} (h : Only F w w') (hs : ∀ x, F x → G x) : Only G w w' := ⟨h.os, h.tape, h.output, h.size, fun g hg hn => h.block g hg fun hf => hn (hs g hf)⟩
/-- What has become of an index when a key was taken out of its three maps. -/
theorem drop_done {w3 w4 w5 w6 : World} {g bp bt bs : Nat} {FT FH FT' FH' : Nat → Prop} {L : List RowT} {k : KeyT} {p0 : Int × Int} (h : IstB w3 g bp bt bs FT FH L) (hk : k.Ok) (hp0 : (k, p0) ∈ L) (h4 : MapL mkP w4 bp (delM L k)) (g4 : w3.grownBy w4 (some bp))
    (h5 : Grp mkT w5 bt FT' (fun d' k' => RT L d' k' ∧ (d' = k.1 → ¬ k' = k))) (s5 : ∀ x, FT' x → FT x) (o5 : Only FT w4 w5) (h6 : Grp mkH w6 bs FH' (fun d' k' => RH L d' k' ∧ (d' = p0.1 → ¬ k' = k))) (s6 : ∀ x, FH' x → FH x) (o6 : Only FH w5 w6) :
    IstB w6 g bp bt bs FT' FH' (dropX L k) ∧ Only (IstF g bp FT FH) w3 w6 := by
  have z4 := g4.size
  have z5 := o5.size
  have hbg : g ≠ bp := fun e => map_ne_blk h.places h.blk e.symm
  have hTg := grp_ne_blk h.tw h.blk
  have hHg := grp_ne_blk h.sh h.blk
  obtain ⟨f1, f2, f3⟩ := h.far
  have b4 : ∀ x, x < w3.heap.size → x ≠ bp → w4.heap[x]? = w3.heap[x]? := fun x hx hne => g4.block x hx fun e => hne (by injection e)
  have lg := h.blk.lt
  have lp := h.places.lt
  refine ⟨⟨?_, ?_, ?_, ?_, h.ok.drop k, fun hx => f1 (s5 _ hx), fun hx => f2 (s6 _ hx), fun x hx hy => f3 x (s5 x hx) (s6 x hy)⟩, ?_⟩
  · exact h.blk.same ((o6.block g (by omega) hHg).trans ((o5.block g (by omega) hTg).trans (b4 g lg hbg)))
  · exact (h4.perm (delM_drop h.ok hk)).blk ((o6.block bp (by omega) f2).trans (o5.block bp (by omega) f1))
  · exact (h5.keep fun x hx => o6.block x (h5.lt x hx) fun hy => f3 x (s5 x hx) hy).rel (rt_drop h.ok hk)
  · exact h6.rel (rh_drop h.ok hk hp0)
  · have o4 : Only (IstF g bp FT FH) w3 w4 := only_grown g4 (.inr (.inl rfl))
    exact (o4.trans (only_more o5 fun x hx => .inr (.inr (.inl hx))) fun x hx => .inl hx).trans (only_more o6 fun x hx => .inr (.inr (.inr hx))) fun x hx => .inl hx
set_option maxRecDepth 100000 in
set_option maxHeartbeats 8000000 in
theorem drop_any (w : World) (s : Addr) (F : Nat → Prop) (L : List RowT) (h : Ist w s F L) (k : KeyT) (hk : k.Ok) :
    Calls Tryz.prog 39 #[.pointer (some s), kv k] w fun e w' => e = .returned (.bool (hasX L k)) ∧ Turned Ist w s F w' (dropX L k) := by
  obtain ⟨g, bp, bt, bs, FT, FH, rfl, hF, hi⟩ := h
  obtain ⟨X, hX⟩ : ∃ X, kcs k = X := ⟨_, rfl⟩
  have hXl : X.length = 33 := by rw [← hX]; exact kcs_length hk
  obtain ⟨⟨p1, p2⟩, hp⟩ : ∃ p, getX L k = p := ⟨_, rfl⟩
  obtain ⟨w1, hw1⟩ : ∃ w1, w.alloc (.cells X.toArray 29) = w1 := ⟨_, rfl⟩
  obtain ⟨sb, hsb⟩ : ∃ sb, w.heap.size = sb := ⟨_, rfl⟩
  have hs1 : w1.heap.size = sb + 1 := by rw [← hw1, ← hsb]; simp
  have hb1 : Below w.heap.size w w1 := hw1 ▸ (Below.refl _ _).alloc (Nat.le_refl _) _
  have hk1 : Blk w1 sb 29 X.toArray := by rw [← hsb, ← hw1]; exact Blk.new w _ _
  have hi1 := hi.on hb1
  have hgl : g < sb := hsb ▸ hi.blk.lt
  have hfl : ∀ x, IstF g bp FT FH x → x < sb := fun x hx => hsb ▸ hi.lt x hx
  obtain ⟨fk, hfk⟩ := key_desc'
  obtain ⟨fs, es, hfs⟩ := sum_desc'
  obtain ⟨fp, hfp⟩ := place_desc
  have hXs : (Tryz.prog.info? 29).map (·.size) = some X.length := by rw [hXl]; exact key_size
  have hSs : (Tryz.prog.info? 26).map (·.size) = some (bv k.1).length := by rw [bv_length, hk.1]; exact sum_size'
  have CG := Lib.hid (get_any w1 ⟨g, 0, none⟩ (IstF g bp FT FH) L ⟨g, bp, bt, bs, FT, FH, rfl, fun x => Iff.rfl, hi1⟩ k hk)
  have HI := Lib.hid hi1
  have HFL := Lib.hid hfl
  have HFF := Lib.hid hF
  have HW := Lib.hid (And.intro hw1 (And.intro hsb hs1))
  have HB := Lib.hid hb1
  have HK1 := Lib.hid hk1
  have HF := Lib.hid (And.intro hfk (And.intro hfs hfp))
  have HXS := Lib.hid hXs
  have HSS := Lib.hid hSs
  have HXQ := Lib.hid (show X = kcs k from hX.symm)
  have HP := Lib.hid hp
  have HWW := Lib.hid (show Only F w w1 from Only.of_below hb1)
  rw [hp] at CG
  unfold kv at CG ⊢
  rw [hX] at CG ⊢
  cases hr : hasX L k with
  | false =>
    rw [hr] at CG
    have HD := Lib.hid (drop_none hi.ok hk hr)
    clear hi hX hXl hp hw1 hsb hs1 hb1 hk1 hi1 hfl hfk hfs hfp hXs hSs hF hr
    go_enter Tryz.func39, Tryz.ntmps39
    go_upto_region 1 with fail
    rw [HW.out.1, HW.out.2.1]
    go_wp2_with (first
      | (refine wpList_load_mid rfl 29 (.tmp 3) rfl sb 0 rfl X (.struct fk) (range_of_blk HK1.out) HF.out.1 rfl HXS.out ?_)
      | (go_at_call 43; (with_reducible refine CG.out.mono ?_); rintro e w2 ⟨rfl, hb2⟩; have HB2 := Lib.hid hb2; clear hb2))
    go_ret
    have hbx := HB2.out.alloc HB2.out.size (.cells #[.int .i64 p1, .int .i64 p2] 40)
    rw [HD.out]
    exact ⟨rfl, F, ⟨g, bp, bt, bs, FT, FH, rfl, HFF.out, HI.out.on hbx⟩, fun x hx => .inl hx, HWW.out.trans (Only.of_below (F := F) hbx) fun x hx => .inl hx⟩
  | true =>
    rw [hr] at CG
    have HIN := Lib.hid (show (k, ((p1, p2) : Int × Int)) ∈ L from by rw [← hp]; exact has_get hi.ok hr)
    have HOK := Lib.hid (hi.ok.place _ HIN.out)
    clear hi hX hXl hp hw1 hsb hs1 hb1 hk1 hi1 hfl hfk hfs hfp hXs hSs hF hr
    go_enter Tryz.func39, Tryz.ntmps39
    go_upto_region 1 with fail
    rw [HW.out.1, HW.out.2.1]
    go_upto_region 4 with (first
      | (refine wpList_load_mid rfl 29 (.tmp 3) rfl sb 0 rfl X (.struct fk) (range_of_blk HK1.out) HF.out.1 rfl HXS.out ?_)
      | (go_at_call 43; (with_reducible refine CG.out.mono ?_); rintro e w2 ⟨rfl, hb2⟩; have HB2 := Lib.hid hb2; clear hb2))
    obtain ⟨w3, hw3⟩ : ∃ w3, w2.alloc (.cells #[.int .i64 p1, .int .i64 p2] 40) = w3 := ⟨_, rfl⟩
    obtain ⟨pb, hpb⟩ : ∃ pb, w2.heap.size = pb := ⟨_, rfl⟩
    have hbx : Below w1.heap.size w1 w3 := by rw [← hw3]; exact HB2.out.alloc HB2.out.size _
    have hi3 := HI.out.on hbx
    have hk3 := HK1.out.below hbx HK1.out.lt
    have hq3 : Blk w3 pb 40 #[.int .i64 p1, .int .i64 p2] := by rw [← hw3, ← hpb]; exact Blk.new w2 _ _
    have hpb1 : sb + 1 ≤ pb := by rw [← hpb, ← HW.out.2.2]; exact HB2.out.size
    have hpb3 : pb < w3.heap.size := hq3.lt
    rw [hw3, hpb]
    have HI3 := Lib.hid hi3
    have HK3 := Lib.hid hk3
    have HQ3 := Lib.hid hq3
    have HB3 := Lib.hid hbx
    have HPB := Lib.hid (And.intro hpb1 hpb3)
    have c0 : w3.cell? ⟨g, 0, none⟩ = some (.map (some bp)) := hi3.blk.cell 0
    clear hw3 hpb hbx hi3 hk3 hq3 hpb1 hpb3
    refine wp_region_still_tail 5 (by kernel_rfl) (by kernel_rfl) ?_
    simp only [List.take_succ_cons, List.take_zero, List.drop_succ_cons, List.drop_zero]
    still_step
    still_step
    still_step
    still_step
    refine wpStill_load_mid rfl 29 (.tmp 3) rfl sb 0 rfl X (.struct fk) (range_of_blk (show Blk w3.drew sb 29 X.toArray from HK3.out)) HF.out.1 rfl HXS.out ?_
    refine wpStill_nil ?_
    change wpList _ _ _ _ _ w3.drew
    refine wpList_del_g w3.drew rfl (.tmp 18) (.tmp 19) rfl okP rfl (show MapL mkP w3.drew bp L from HI3.out.places.blk rfl) k hk (show _ = Value.agg (kcs k).toArray by rw [← HXQ.out]; rfl) ?_
    intro w4 m1 m2 m3
    have HM4 := Lib.hid m1
    have HG4 := Lib.hid (grown_undrew m2)
    have h4 : ∀ x, x < w3.heap.size → x ≠ bp → w4.heap[x]? = w3.heap[x]? := fun x hx hne => m2.block x hx fun e => hne (by injection e)
    have hgb : g ≠ bp := fun e => map_ne_blk HI3.out.places HI3.out.blk e.symm
    have hbl : bp < sb := HFL.out bp (.inr (.inl rfl))
    have hpp := HPB.out
    have hk4 := HK3.out.same (h4 sb HK3.out.lt (by omega))
    have hq4 := HQ3.out.same (h4 pb HQ3.out.lt (by omega))
    have hg4 := HI3.out.blk.same (h4 g HI3.out.blk.lt hgb)
    have hT4 : Grp mkT w4.drew bt FT (RT L) := HI3.out.tw.keep fun x hx => h4 x (HI3.out.tw.lt x hx) fun e => HI3.out.far.1 (e ▸ hx)
    have HS4 := Lib.hid (show Grp mkH w4 bs FH (RH L) from HI3.out.sh.keep fun x hx => h4 x (HI3.out.sh.lt x hx) fun e => HI3.out.far.2.1 (e ▸ hx))
    have CD := Lib.hid (dropS_any w4.drew bt FT (RT L) k.1 hk.1 k hk hT4 ⟨rfl, _, HIN.out⟩)
    unfold kv at CD
    rw [← HXQ.out] at CD
    have HK4 := Lib.hid hk4
    have HQ4 := Lib.hid hq4
    have HGB4 := Lib.hid hg4
    have HZ4 := Lib.hid (show w3.heap.size ≤ w4.heap.size from m2.size)
    have c1 : w4.cell? ⟨g, 1, none⟩ = some (.map (some bt)) := hg4.cell 1
    have HRS := Lib.hid (show w4.drew.rangeAt sb 0 (bv k.1) from kcs_sum hk (by rw [← HXQ.out]; exact range_of_blk (show Blk w4.drew sb 29 X.toArray from hk4)))
    clear m1 m2 m3 h4 hgb hbl hpp hk4 hq4 hg4 hT4 c0
    go_wp2_with fail
    refine wp_region_still_tail 7 (by kernel_rfl) (by kernel_rfl) ?_
    simp only [List.take_succ_cons, List.take_zero, List.drop_succ_cons, List.drop_zero]
    still_step
    still_step
    still_step
    still_step
    still_step
    refine wpStill_load_mid rfl 26 (.tmp 24) rfl sb 0 rfl (bv k.1) (.array fs es) HRS.out HF.out.2.1 rfl HSS.out ?_
    refine wpStill_load_mid rfl 29 (.tmp 3) rfl sb 0 rfl X (.struct fk) (range_of_blk (show Blk w4.drew sb 29 X.toArray from HK4.out)) HF.out.1 rfl HXS.out ?_
    refine wpStill_nil ?_
    change wpList _ _ _ _ _ w4.drew
    go_wp2_with (go_at_call 67; (with_reducible refine CD.out.mono ?_); rintro e w5 ⟨rfl, hq⟩; have HD5 := Lib.hid hq; clear hq)
    obtain ⟨FT', h5, s5, o5⟩ := HD5.out
    have o5 := only_undrew o5
    have hz4 := HZ4.out
    have hpp := HPB.out
    have nT : ∀ x, sb ≤ x → ¬ FT x := fun x hx hf => by have := HFL.out x (.inr (.inr (.inl hf))); omega
    have nH : ∀ x, sb ≤ x → ¬ FH x := fun x hx hf => by have := HFL.out x (.inr (.inr (.inr hf))); omega
    have hk5 := HK4.out.same (o5.block sb HK4.out.lt (nT sb (Nat.le_refl _)))
    have hq5 := HQ4.out.same (o5.block pb HQ4.out.lt (nT pb (by omega)))
    have hg5 := HGB4.out.same (o5.block g HGB4.out.lt (grp_ne_blk HI3.out.tw HI3.out.blk))
    have hH5 : Grp mkH w5.drew bs FH (RH L) := HS4.out.keep fun x hx => o5.block x (HS4.out.lt x hx) fun hf => HI3.out.far.2.2 x hf hx
    have CH := Lib.hid (dropH_any w5.drew bs FH (RH L) p1 HOK.out.1 k hk hH5 ⟨_, rfl, HIN.out⟩)
    unfold kv at CH
    rw [← HXQ.out] at CH
    have c2 : w5.cell? ⟨g, 2, none⟩ = some (.map (some bs)) := hg5.cell 2
    have c3 : w5.cell? ⟨pb, 0, none⟩ = some (.int .i64 p1) := hq5.cell 0
    have HK5 := Lib.hid hk5
    clear o5 hz4 hpp nT nH hk5 hq5 hg5 hH5 c1 h5 s5
    refine wp_region_still_tail 7 (by kernel_rfl) (by kernel_rfl) ?_
    simp only [List.take_succ_cons, List.take_zero, List.drop_succ_cons, List.drop_zero]
    still_step
    still_step
    still_step
    still_step
    still_step
    still_step
    refine wpStill_load_mid rfl 29 (.tmp 3) rfl sb 0 rfl X (.struct fk) (range_of_blk (show Blk w5.drew sb 29 X.toArray from HK5.out)) HF.out.1 rfl HXS.out ?_
    refine wpStill_nil ?_
    change wpList _ _ _ _ _ w5.drew
    go_wp2_with (go_at_call 68; (with_reducible refine CH.out.mono ?_); rintro e w6 ⟨rfl, hq⟩; have HD6 := Lib.hid hq; clear hq)
    go_ret
    obtain ⟨FT', h5, s5, o5⟩ := HD5.out
    obtain ⟨FH', h6, s6, o6⟩ := HD6.out
    obtain ⟨r1, r2⟩ := drop_done HI3.out hk HIN.out HM4.out HG4.out h5 s5 (only_undrew o5) h6 s6 (only_undrew o6)
    refine ⟨rfl, IstF g bp FT' FH', ⟨g, bp, bt, bs, FT', FH', rfl, fun x => Iff.rfl, r1⟩, fun x hx => .inl ((HFF.out x).2 ?_), (HWW.out.trans (Only.of_below (F := F) HB3.out) fun x hx => .inl hx).trans (only_more r2 fun x hx => (HFF.out x).2 hx) fun x hx => .inl hx⟩
    rcases hx with h | h | h | h
    · exact .inl h
    · exact .inr (.inl h)
    · exact .inr (.inr (.inl (s5 x h)))
    · exact .inr (.inr (.inr (s6 x h)))
end Go.Proofs.YtoofhaoaogoomaaGreat
