/- The landed tree: From (written by gen/gen_trlandf.py). No statement of the seat is proved here. -/
import Derived.Test.YtiomfkhblmmdoaaTrLandA
import Derived.Test.YtiomfkhblmmdoaaOwnGat
import Derived.Test.YtiomfkhblmmdoaaStKit
import Derived.Test.YtiomfkhblmmdoaaStRegion
import Derived.Test.YtiomfkhblmmdoaaQuiet
import Derived.Deep.RegionHeld
namespace Go.Proofs.Ytiomfkhblmmdoaa
open Go.RowKit
set_option linter.unusedVariables false
set_option linter.unusedSimpArgs false
set_option maxRecDepth 100000

theorem grown_of_own18 {w w' : World} {B : Nat} {A : Option Addr} {n c : Nat} (h : w.grownBy w' (Value.slice A n c).ownBlock) (hl : ∀ k, (Value.slice A n c).ownBlock = some k → B ≤ k) (hB : B ≤ w.heap.size) : Below B w w' := ⟨h.os, h.tape, h.output, h.size, fun i hi => h.block i (by omega) fun e => by have := hl i e.symm; omega⟩
/-- What the visitor of From has: the number that is asked for at nb, the pairs so far at lb. -/
structure Vis18 (w W : World) (nb lb : Nat) (N : Int) (L : List PT) : Prop where
  lo : w.heap.size ≤ nb
  lt : nb < lb
  old : Below w.heap.size w W
  num : Blk W nb 3 #[.int .i64 N]
  sl : ∃ A c, Blk W lb 25 #[.slice A L.length c] ∧ OwnG 30 2 pcs W (lb + 1) A c L
set_option maxHeartbeats 4000000 in
theorem visit_no (w W : World) (nb lb : Nat) (N : Int) (L : List PT) (h : Vis18 w W nb lb N L) (hN : N ≤ (L.length : Int)) (v : Value) :
    Calls Try.prog 34 #[v, .pointer (some ⟨lb, 0, none⟩), .pointer (some ⟨nb, 0, none⟩)] W fun e w' => e = .returned (.bool false) ∧ w' = W := by
  obtain ⟨A, c, hk, ho⟩ := h.sl
  have c0 : W.cell? ⟨lb, 0, none⟩ = some (.slice A L.length c) := hk.cell 0
  have c1 : W.cell? ⟨nb, 0, none⟩ = some (.int .i64 N) := h.num.cell 0
  obtain ⟨m, hm⟩ : ∃ m, L.length = m := ⟨_, rfl⟩
  rw [hm] at c0 hN
  have e2 : decide (N ≤ (m : Int)) = true := decide_eq_true hN
  clear hk ho h hm
  go_enter Try.func34, Try.ntmps34
  go_wp2_with fail
  go_ret
  exact ⟨rfl, rfl⟩
theorem visit_fin {w W w3 w4 : World} {nb lb : Nat} {N : Int} {L : List PT} {p : PT} {A A' : Option Addr} {c c' m : Nat} (h : Vis18 w W nb lb N L) (hm : L.length = m) (hk : Blk W lb 25 #[.slice A m c]) (hb : Below W.heap.size W w3) (ho : OwnG 30 2 pcs w3 (lb + 1) A c L)
    (ho4 : OwnG 30 2 pcs w4 (lb + 1) A' c' (L ++ [p])) (hg : w3.grownBy w4 (Value.slice A m c).ownBlock) : Vis18 w (w4.setCell ⟨lb, 0, none⟩ (.slice A' (m + 1) c')) nb lb N (L ++ [p]) := by
  have hlow : ∀ k, (Value.slice A m c).ownBlock = some k → lb + 1 ≤ k := fun k hk => by
    rw [← hm] at hk
    exact (ho.lt hk).1
  have hlw : lb < W.heap.size := hk.lt
  have hbe : Below (lb + 1) W w4 := (hb.mono hlw).trans (grown_of_own18 hg hlow (Nat.le_trans hlw hb.size))
  have h4 : Blk w4 lb 25 #[.slice A m c] := hk.same (hbe.block lb (Nat.lt_succ_self _))
  have h5 := h4.set_ 0 (.slice A' (m + 1) c')
  have hwn := h.lo
  have hnl := h.lt
  have hgc := grown_cell w4 lb 0 (.slice A' (m + 1) c')
  refine ⟨hwn, hnl, ?_, ?_, A', c', ?_, ?_⟩
  · have h1 : Below w.heap.size w w4 := h.old.trans (hbe.mono (by omega))
    exact ⟨hgc.os.trans h1.os, hgc.tape.trans h1.tape, hgc.output.trans h1.output, Nat.le_trans h1.size hgc.size, fun k hk2 => (hgc.block k (Nat.lt_of_lt_of_le hk2 h1.size) (fun e => by injection e with e; omega)).trans (h1.block k hk2)⟩
  · have h1 : Blk w4 nb 3 #[.int .i64 N] := h.num.same (hbe.block nb (by omega))
    exact h1.same (hgc.block nb h1.lt (fun e => by injection e with e; omega))
  · rw [List.length_append, List.length_singleton, hm]
    simpa using h5
  · exact ho4.grown hgc fun k e e2 => by
      injection e with e
      have := (ho4.lt e2).1
      omega
set_option maxHeartbeats 8000000 in
theorem visit_yes (w W : World) (nb lb : Nat) (N : Int) (L : List PT) (h : Vis18 w W nb lb N L) (hN : (L.length : Int) < N) (hl : L.length ≤ 1000) (a : Nat) (p : PT) (Xl Xr : Option Addr) (H M : Int) (ha : a < w.heap.size) (hka : Blk W a 61 #[.string (st p.1), .string (st p.2), .pointer Xl, .pointer Xr, .int .i64 H, .int .i64 M]) :
    Calls Try.prog 34 #[.pointer (some ⟨a, 0, none⟩), .pointer (some ⟨lb, 0, none⟩), .pointer (some ⟨nb, 0, none⟩)] W fun e w' => e = .returned (.bool true) ∧ Vis18 w w' nb lb N (L ++ [p]) := by
  obtain ⟨A, c, hk, ho⟩ := h.sl
  obtain ⟨m, hm⟩ : ∃ m, L.length = m := ⟨_, rfl⟩
  rw [hm] at hk hN hl
  have c0 : W.cell? ⟨lb, 0, none⟩ = some (.slice A m c) := hk.cell 0
  have c1 : W.cell? ⟨nb, 0, none⟩ = some (.int .i64 N) := h.num.cell 0
  have e1 : ¬ N ≤ (m : Int) := by omega
  have e2 : decide (N ≤ (m : Int)) = false := decide_eq_false e1
  obtain ⟨wd, hwd⟩ : ∃ wd, W.drew = wd := ⟨_, rfl⟩
  have hbd : Below W.heap.size W wd := hwd ▸ below_drewN (Below.refl W.heap.size W) 1
  have hlw : lb < W.heap.size := hk.lt
  have haw : a < lb := by have := h.lo; have := h.lt; omega
  have hHA := h.sl
  -- the block of the pair that is appended
  obtain ⟨w2, hw2, hb2⟩ : ∃ w2, wd.alloc (.cells (pcs p).toArray 30) = w2 ∧ Below wd.heap.size wd w2 := ⟨_, rfl, (Below.refl _ _).alloc (Nat.le_refl _) _⟩
  have hb12 : Below W.heap.size W w2 := hbd.trans (hb2.mono hbd.size)
  have HS := Lib.hid (show ∀ V, Below (lb + 1) W V → V.cell? ⟨a, 0, none⟩ = some (.string (st p.1)) ∧ V.cell? ⟨a, 1, none⟩ = some (.string (st p.2)) from fun V hV => by
    have := hka.same (hV.block a (by omega))
    exact ⟨this.cell 0, this.cell 1⟩)
  have HC := Lib.hid (show ∀ V, Below (lb + 1) W V → V.cell? ⟨lb, 0, none⟩ = some (.slice A m c) ∧ V.frozen? ⟨lb, 0, none⟩ = false from fun V hV => by
    have := hk.same (hV.block lb (Nat.lt_succ_self _))
    exact ⟨this.cell 0, this.frozen 0⟩)
  have HB := Lib.hid (show Below (lb + 1) W wd ∧ Below (lb + 1) W w2 from ⟨hbd.mono hlw, hb12.mono hlw⟩)
  have HB2 := Lib.hid hb12
  have HW2 := Lib.hid hw2
  have HO2 := Lib.hid (ho.on hb12)
  have HR := Lib.hid (show RdS w2 w2.heap.size 2 (some ⟨wd.heap.size, 0, none⟩) ([p].map pcs) from by rw [← hw2]; exact rds_one wd p _ 2 pcs)
  have HM := Lib.hid hm
  have HL := Lib.hid (show lb + 1 ≤ w2.heap.size from Nat.le_trans hlw hb12.size)
  have HLOW := Lib.hid (show ∀ k, (Value.slice A m c).ownBlock = some k → lb + 1 ≤ k from fun k hk => by
    rw [← hm] at hk
    exact (ho.lt hk).1)
  have HV := Lib.hid (And.intro h hk)
  have HNE := Lib.hid (show a ≠ lb from by omega)
  have s0 := HS.out W (Below.refl _ _)
  have hcd := (HC.out wd (hbd.mono hlw)).1
  clear hk ho h hm hbd hw2 hb2 hb12 hlw haw hka hHA ha
  go_enter Try.func34, Try.ntmps34
  go_upto_region 3 with fail
  refine wp_region_held_drew (S := fun V => V.cell? ⟨a, 0, none⟩ = some (.string (st p.1)) ∧ V.cell? ⟨a, 1, none⟩ = some (.string (st p.2))) (by kernel_rfl) s0 (fun hHeld => ?_)
  clear hHeld
  rw [hwd]
  clear hwd
  refine wpAnyH_take (i := 1) (oi := _) (v := .pointer (some ⟨a, 0, none⟩)) rfl (by kernel_rfl) (by kernel_rfl) (by kernel_rfl) (fun _ _ _ h => h) (Or.inl ⟨by rfl, by intro w hSw; go_simp⟩) (HS.out _ HB.out.1) ?_
  simp only [List.getElem_toArray, List.getElem_cons_zero, List.getElem_cons_succ, Act.put, List.setIfInBounds_toArray, List.set_cons_zero, List.set_cons_succ]
  refine wpAnyH_take (i := 2) (oi := _) (v := .pointer (some ⟨a, 0, none⟩)) rfl (by kernel_rfl) (by kernel_rfl) (by kernel_rfl) (fun _ _ _ h => h) (Or.inl ⟨by rfl, by intro w hSw; go_simp⟩) (HS.out _ HB.out.1) ?_
  simp only [List.getElem_toArray, List.getElem_cons_zero, List.getElem_cons_succ, Act.put, List.setIfInBounds_toArray, List.set_cons_zero, List.set_cons_succ]
  refine wpAnyH_take (i := 3) (oi := _) (v := .pointer (some ⟨a, 0, none⟩)) rfl (by kernel_rfl) (by kernel_rfl) (by kernel_rfl) (fun _ _ _ h => h) (Or.inl ⟨by rfl, by intro w hSw; go_simp⟩) (HS.out _ HB.out.1) ?_
  simp only [List.getElem_toArray, List.getElem_cons_zero, List.getElem_cons_succ, Act.put, List.setIfInBounds_toArray, List.set_cons_zero, List.set_cons_succ]
  refine wpAnyH_take (i := 4) (oi := _) (v := .agg (pcs p).toArray) rfl (by kernel_rfl) (by kernel_rfl) (by kernel_rfl) (fun _ _ _ h => h) (Or.inl ⟨by rfl, by intro w hSw; obtain ⟨q0, q1⟩ := hSw; go_simp; rfl⟩) (HS.out _ HB.out.1) ?_
  simp only [List.getElem_toArray, List.getElem_cons_zero, List.getElem_cons_succ, Act.put, List.setIfInBounds_toArray, List.set_cons_zero, List.set_cons_succ]
  refine wpAnyH_ready (rs := [0, 5]) (by kernel_rfl) (by simp) ?_
  refine AllReadyH.cons rfl (fun K hK => ?_) (AllReadyH.cons rfl (fun K hK => ?_) AllReadyH.nil)
  · go_simp
    refine hK.out _ _ (HS.out _ HB.out.1) (fun _ => ?_)
    clear hK K
    try simp only [List.getElem_toArray, List.getElem_cons_zero, List.getElem_cons_succ, Act.put, List.setIfInBounds_toArray, List.set_cons_zero, List.set_cons_succ]
    refine wpAnyH_ready (rs := [5]) (by kernel_rfl) (by simp) ?_
    refine AllReadyH.cons rfl (fun K hK => ?_) AllReadyH.nil
    refine wp_buildOne prE (.tmp 13) rfl (y := p) trivial rfl ?_
    rw [HW2.out]
    refine hK.out _ _ (HS.out _ HB.out.2) (fun _ => ?_)
    clear hK K
    try simp only [List.getElem_toArray, List.getElem_cons_zero, List.getElem_cons_succ, Act.put, List.setIfInBounds_toArray, List.set_cons_zero, List.set_cons_succ]
    refine wpAnyH_ready (rs := [6]) (by kernel_rfl) (by simp) ?_
    refine AllReadyH.cons rfl (fun K hK => ?_) AllReadyH.nil
    refine wp_append_g prE (.tmp 9) (.tmp 14) rfl (lb + 1) A c m L HM.out rfl HO2.out w2.heap.size (some ⟨wd.heap.size, 0, none⟩) 1 1 [p] rfl rfl HR.out (fun _ _ => trivial) ?_ ?_ ?_
    case _ => omega
    case _ => exact HL.out
    intro A' c' w3 ho3 hg3
    have hb3 : Below (lb + 1) W w3 := HB.out.2.trans (grown_of_own18 hg3 HLOW.out HL.out)
    have HF := Lib.hid (visit_fin HV.out.1 HM.out HV.out.2 HB2.out HO2.out ho3 hg3)
    have HS3 := Lib.hid (HS.out _ hb3)
    have HS4 := Lib.hid (show Below (lb + 1) W w3 from hb3)
    obtain ⟨hc3, hf3⟩ := HC.out _ hb3
    clear ho3 hg3 hb3
    refine hK.out _ _ HS3.out (fun _ => ?_)
    clear hK K
    try simp only [List.getElem_toArray, List.getElem_cons_zero, List.getElem_cons_succ, Act.put, List.setIfInBounds_toArray, List.set_cons_zero, List.set_cons_succ]
    refine wpAnyH_ready (rs := [7]) (by kernel_rfl) (by simp) ?_
    refine AllReadyH.cons rfl (fun K hK => ?_) AllReadyH.nil
    go_simp
    refine hK.out _ _ ?_ (fun _ => ?_)
    case _ =>
      have e : ∀ i, (w3.setCell ⟨lb, 0, none⟩ (.slice A' (m + 1) c')).cell? ⟨a, i, none⟩ = w3.cell? ⟨a, i, none⟩ := fun i => World.cell?_of_block (setCell_block HNE.out)
      rw [e 0, e 1]
      exact HS3.out
    clear hK K
    refine wpAnyH_done (by kernel_rfl) ?_ _
    go_wp2_with fail
    go_ret
    exact ⟨rfl, HF.out⟩
  · refine wp_buildOne prE (.tmp 13) rfl (y := p) trivial rfl ?_
    rw [HW2.out]
    refine hK.out _ _ (HS.out _ HB.out.2) (fun _ => ?_)
    clear hK K
    try simp only [List.getElem_toArray, List.getElem_cons_zero, List.getElem_cons_succ, Act.put, List.setIfInBounds_toArray, List.set_cons_zero, List.set_cons_succ]
    refine wpAnyH_ready (rs := [0]) (by kernel_rfl) (by simp) ?_
    refine AllReadyH.cons rfl (fun K hK => ?_) AllReadyH.nil
    have hc2 := (HC.out _ HB.out.2).1
    go_simp
    refine hK.out _ _ (HS.out _ HB.out.2) (fun _ => ?_)
    clear hK K
    try simp only [List.getElem_toArray, List.getElem_cons_zero, List.getElem_cons_succ, Act.put, List.setIfInBounds_toArray, List.set_cons_zero, List.set_cons_succ]
    refine wpAnyH_ready (rs := [6]) (by kernel_rfl) (by simp) ?_
    refine AllReadyH.cons rfl (fun K hK => ?_) AllReadyH.nil
    refine wp_append_g prE (.tmp 9) (.tmp 14) rfl (lb + 1) A c m L HM.out rfl HO2.out w2.heap.size (some ⟨wd.heap.size, 0, none⟩) 1 1 [p] rfl rfl HR.out (fun _ _ => trivial) ?_ ?_ ?_
    case _ => omega
    case _ => exact HL.out
    intro A' c' w3 ho3 hg3
    have hb3 : Below (lb + 1) W w3 := HB.out.2.trans (grown_of_own18 hg3 HLOW.out HL.out)
    have HF := Lib.hid (visit_fin HV.out.1 HM.out HV.out.2 HB2.out HO2.out ho3 hg3)
    have HS3 := Lib.hid (HS.out _ hb3)
    have HS4 := Lib.hid (show Below (lb + 1) W w3 from hb3)
    obtain ⟨hc3, hf3⟩ := HC.out _ hb3
    clear ho3 hg3 hb3
    refine hK.out _ _ HS3.out (fun _ => ?_)
    clear hK K
    try simp only [List.getElem_toArray, List.getElem_cons_zero, List.getElem_cons_succ, Act.put, List.setIfInBounds_toArray, List.set_cons_zero, List.set_cons_succ]
    refine wpAnyH_ready (rs := [7]) (by kernel_rfl) (by simp) ?_
    refine AllReadyH.cons rfl (fun K hK => ?_) AllReadyH.nil
    go_simp
    refine hK.out _ _ ?_ (fun _ => ?_)
    case _ =>
      have e : ∀ i, (w3.setCell ⟨lb, 0, none⟩ (.slice A' (m + 1) c')).cell? ⟨a, i, none⟩ = w3.cell? ⟨a, i, none⟩ := fun i => World.cell?_of_block (setCell_block HNE.out)
      rw [e 0, e 1]
      exact HS3.out
    clear hK K
    refine wpAnyH_done (by kernel_rfl) ?_ _
    go_wp2_with fail
    go_ret
    exact ⟨rfl, HF.out⟩
/-- The pairs of a tree from a key on. -/
def T18.rest (t : T18) (k : List UInt8) : List PT := t.flat.drop (posL t.flat k)
theorem rest_nil (k : List UInt8) : (T18.nil).rest k = [] := rfl
theorem rest_right {a : Nat} {l r : T18} {p : PT} {k : List UInt8} (ho : OrdL (T18.node a l p r).flat) (hk : p.1 < k) : (T18.node a l p r).rest k = r.rest k := by
  have ho' : OrdL (l.flat ++ p :: r.flat) := ho
  unfold T18.rest
  show (l.flat ++ p :: r.flat).drop (posL (l.flat ++ p :: r.flat) k) = _
  rw [pos_back ho' hk, show l.flat.length + 1 + posL r.flat k = l.flat.length + (1 + posL r.flat k) by omega, ← List.drop_drop, List.drop_left, show 1 + posL r.flat k = posL r.flat k + 1 by omega, List.drop_succ_cons]
theorem pos_all {m : List PT} {k : List UInt8} (h : ∀ x ∈ m, k ≤ x.1) : posL m k = 0 := by
  cases m with
  | nil => rfl
  | cons x m => rw [posL, if_neg fun hx => h x (by simp) hx]
theorem rest_left {a : Nat} {l r : T18} {p : PT} {k : List UInt8} (ho : OrdL (T18.node a l p r).flat) (hk : ¬ p.1 < k) : (T18.node a l p r).rest k = l.rest k ++ p :: r.rest k := by
  have ho' : OrdL (l.flat ++ p :: r.flat) := ho
  obtain ⟨_, _, o3, o4⟩ := ho'.parts
  have hr : posL r.flat k = 0 := pos_all fun x hx hxk => hk (tx_trans (o4 x hx) hxk)
  have hp : posL (l.flat ++ p :: r.flat) k = posL l.flat k := by
    by_cases hkp : k = p.1
    · subst hkp
      rw [pos_here ho']
      have := pos_app o3 []
      rw [List.append_nil, show posL [] p.1 = 0 from rfl] at this
      omega
    · exact pos_front (tx_total hk fun e => hkp e.symm) _ _
  unfold T18.rest
  show (l.flat ++ p :: r.flat).drop (posL (l.flat ++ p :: r.flat) k) = _
  rw [hp, hr, List.drop_zero, List.drop_append_of_le_length (pos_le _ _)]
theorem rest_len (t : T18) (k : List UInt8) : (t.rest k).length ≤ t.flat.length := by
  unfold T18.rest
  rw [List.length_drop]
  omega
set_option maxHeartbeats 8000000 in
theorem from18 (k : List UInt8) (nb lb : Nat) (N : Int) (w : World) : ∀ (t : T18) (X : Option Addr) (W : World) (L : List PT), Lies18 w (.pointer X) t → OrdL t.flat → Vis18 w W nb lb N L → L.length ≤ N.toNat → L.length + t.flat.length ≤ 1000 →
    Calls Try.prog 33 #[.pointer X, .string (st k), .func (.func 34) #[] #[.pointer (some ⟨lb, 0, none⟩), .pointer (some ⟨nb, 0, none⟩)]] W fun e w' => ∃ b L', e = .returned (.bool b) ∧ b = decide (L.length + (t.rest k).length ≤ N.toNat) ∧ L' = L ++ (t.rest k).take (N.toNat - L.length) ∧ Vis18 w w' nb lb N L' := by
  intro t
  induction t with
  | nil =>
    intro X W L h _ hV hL _
    obtain rfl : X = none := by injection h
    have HV := Lib.hid hV
    have HL := Lib.hid hL
    clear h hV hL
    go_enter Try.func33, Try.ntmps33
    go_wp2_with fail
    go_ret
    refine ⟨true, L, rfl, ?_, ?_, HV.out⟩
    · rw [rest_nil, List.length_nil, Nat.add_zero]
      exact (decide_eq_true HL.out).symm
    · rw [rest_nil, List.take_nil, List.append_nil]
  | node a l p r ihl ihr =>
    intro X W L h ho hV hL hlen
    have hla : a < w.heap.size := by
      obtain ⟨_, _, _, hk, _, _⟩ := h
      exact hk.lt
    obtain ⟨Xl, Xr, hX, hO⟩ := h.open
    injection hX with hX
    subst hX
    have ho' : OrdL (l.flat ++ p :: r.flat) := ho
    obtain ⟨o1, o2, _, _⟩ := ho'.parts
    have hlen2 : L.length + (l.flat.length + (r.flat.length + 1)) ≤ 1000 := by
      simp only [T18.flat, List.length_append, List.length_cons] at hlen
      omega
    obtain ⟨hbl, hl, hr⟩ := hO w (Below.refl _ _)
    obtain ⟨H, hH⟩ : ∃ H, (T18.node a l p r).ht = H := ⟨_, rfl⟩
    obtain ⟨M, hM⟩ : ∃ M, (T18.node a l p r).flat.length = M := ⟨_, rfl⟩
    rw [hH, hM] at hO
    have hWB := hV.old
    have HK := Lib.hid (fun V hV => (hO V hV).1)
    obtain ⟨hkW, _, _⟩ := hO W hWB
    have c0 : W.cell? ⟨a, 0, none⟩ = some (.string (st p.1)) := hkW.cell 0
    have c2 : W.cell? ⟨a, 2, none⟩ = some (.pointer Xl) := hkW.cell 2
    have c3 : W.cell? ⟨a, 3, none⟩ = some (.pointer Xr) := hkW.cell 3
    have HV := Lib.hid hV
    have HA := Lib.hid (And.intro hla (And.intro hL hlen2))
    by_cases hpk : p.1 < k
    · have e1 : Op.bytesLess p.1 k = true := by rw [less_iff]; exact decide_eq_true hpk
      have IH := Lib.hid (ihr Xr W L hr o2 hV hL (by omega))
      have HRE := Lib.hid (rest_right ho hpk)
      rw [HRE.out]
      clear hV hL hlen hlen2 ho ho' o1 o2 hbl hl hr hO hkW ihl ihr h hpk hH hM hWB hla
      go_enter Try.func33, Try.ntmps33
      go_wp2_with fail
      refine IH.out.mono ?_
      rintro e w1 ⟨b, L', rfl, q1, q2, q3⟩
      have HQ := Lib.hid (And.intro q1 (And.intro q2 q3))
      clear q1 q2 q3
      go_wp2_with fail
      go_ret
      exact ⟨b, L', rfl, HQ.out.1, HQ.out.2.1, HQ.out.2.2⟩
    · have e1 : Op.bytesLess p.1 k = false := by rw [less_iff]; exact decide_eq_false hpk
      have IH := Lib.hid (ihl Xl W L hl o1 hV hL (by omega))
      have IHR := Lib.hid (fun V L2 (hV2 : Vis18 w V nb lb N L2) (h1 : L2.length ≤ N.toNat) (h2 : L2.length + r.flat.length ≤ 1000) => ihr Xr V L2 hr o2 hV2 h1 h2)
      have HRE := Lib.hid (rest_left ho hpk)
      have HRL := Lib.hid (rest_len l k)
      rw [HRE.out]
      obtain ⟨R, hR⟩ : ∃ R, r.rest k = R := ⟨_, rfl⟩
      obtain ⟨Q, hQ⟩ : ∃ Q, l.rest k = Q := ⟨_, rfl⟩
      rw [hQ] at IH HRL
      rw [hR] at IHR
      rw [hR, hQ]
      clear hV hL hlen hlen2 ho ho' o1 o2 hbl hl hr hO hkW ihl ihr h hpk hH hM hWB hla hR hQ HRE
      go_enter Try.func33, Try.ntmps33
      go_wp2_with fail
      refine IH.out.mono ?_
      rintro e w1 ⟨b, L1, rfl, q1, q2, q3⟩
      have HQ := Lib.hid (And.intro q2 q3)
      clear q2 q3
      by_cases z1 : L.length + Q.length ≤ N.toNat
      · obtain rfl : b = true := by rw [q1]; exact decide_eq_true z1
        have hL1 : L1 = L ++ Q := by rw [HQ.out.1, List.take_of_length_le (by omega)]
        have hl1 : L1.length = L.length + Q.length := by rw [hL1, List.length_append]
        have hV1 := HQ.out.2
        by_cases z2 : N.toNat ≤ L1.length
        · have KN := Lib.hid (visit_no w w1 nb lb N L1 hV1 (by omega) (.pointer (some ⟨a, 0, none⟩)))
          have HE := Lib.hid (show decide (L.length + (Q ++ p :: R).length ≤ N.toNat) = false ∧ L1 = L ++ (Q ++ p :: R).take (N.toNat - L.length) ∧ Vis18 w w1 nb lb N L1 from by
            refine ⟨decide_eq_false ?_, ?_, hV1⟩
            · rw [List.length_append, List.length_cons]
              omega
            · rw [hL1, show N.toNat - L.length = Q.length by omega, List.take_left])
          clear q1 z1 z2 hL1 hl1 hV1
          go_wp2_with fail
          refine KN.out.mono ?_
          rintro e w2 ⟨rfl, rfl⟩
          go_wp2_with fail
          go_ret
          exact ⟨false, L1, rfl, HE.out.1.symm, HE.out.2.1, HE.out.2.2⟩
        · have KY := Lib.hid (visit_yes w w1 nb lb N L1 hV1 (by omega) (by have := HA.out.2.2; have := HRL.out; omega) a p Xl Xr H M HA.out.1 (HK.out w1 hV1.old))
          have HZ := Lib.hid (And.intro z1 (And.intro z2 (And.intro hL1 hl1)))
          clear q1 z1 z2 hL1 hl1 hV1
          go_wp2_with fail
          refine KY.out.mono ?_
          rintro e w2 ⟨rfl, hV2⟩
          obtain ⟨z1, z2, hL1, hl1⟩ := HZ.out
          have KR := Lib.hid (IHR.out w2 (L1 ++ [p]) hV2 (by rw [List.length_append, List.length_singleton]; omega) (by rw [List.length_append, List.length_singleton]; have := HA.out.2.2; have := HRL.out; omega))
          have c3' : w2.cell? ⟨a, 3, none⟩ = some (.pointer Xr) := (HK.out w2 hV2.old).cell 3
          clear z1 z2 hL1 hl1 hV2
          go_wp2_with fail
          refine KR.out.mono ?_
          rintro e w3 ⟨b, L', rfl, q1, q2, q3⟩
          have HE := Lib.hid (show b = decide (L.length + (Q ++ p :: R).length ≤ N.toNat) ∧ L' = L ++ (Q ++ p :: R).take (N.toNat - L.length) ∧ Vis18 w w3 nb lb N L' from by
            obtain ⟨z1, z2, hL1, hl1⟩ := HZ.out
            refine ⟨?_, ?_, q3⟩
            · rw [q1, hL1]
              simp only [List.length_append, List.length_cons, List.length_nil]
              congr 1
              simp only [eq_iff_iff]
              omega
            · rw [q2, hL1, show (Q ++ p :: R).take (N.toNat - L.length) = Q ++ p :: R.take (N.toNat - (L.length + Q.length + 1)) from by
                rw [List.take_append, List.take_of_length_le (by omega), show N.toNat - L.length - Q.length = (N.toNat - (L.length + Q.length + 1)) + 1 by omega, List.take_succ_cons]]
              simp only [List.length_append, List.length_cons, List.length_nil, List.append_assoc, List.cons_append, List.nil_append]
              rw [show L.length + (Q.length + (0 + 1)) = L.length + Q.length + 1 by omega])
          clear q1 q2 q3
          go_wp2_with fail
          go_ret
          exact ⟨b, L', rfl, HE.out.1, HE.out.2.1, HE.out.2.2⟩
      · obtain rfl : b = false := by rw [q1]; exact decide_eq_false z1
        have HE := Lib.hid (show decide (L.length + (Q ++ p :: R).length ≤ N.toNat) = false ∧ L1 = L ++ (Q ++ p :: R).take (N.toNat - L.length) ∧ Vis18 w w1 nb lb N L1 from by
          refine ⟨decide_eq_false ?_, ?_, HQ.out.2⟩
          · rw [List.length_append, List.length_cons]
            omega
          · rw [HQ.out.1, List.take_append_of_le_length (by omega)])
        clear q1 z1
        go_wp2_with fail
        go_ret
        exact ⟨false, L1, rfl, HE.out.1.symm, HE.out.2.1, HE.out.2.2⟩
/-- A map's root, in all worlds behind. -/
theorem root_top {w : World} {v : Value} {t : T18} (h : Root18 w v t) : ∃ X, Lies18 w (.pointer X) t ∧ ∀ W, Below w.heap.size w W → Calls Try.prog 26 #[v] W fun e w' => e = .returned (.pointer X) ∧ w' = W := by
  rcases h with ⟨rfl, rfl⟩ | ⟨g, X, rfl, hk, hl⟩
  · refine ⟨none, rfl, fun W _ => ?_⟩
    go_enter Try.func26, Try.ntmps26
    go_wp2_with fail
    go_ret
    exact ⟨rfl, rfl⟩
  · refine ⟨X, hl, fun W hW => ?_⟩
    have c0 : W.cell? ⟨g, 0, none⟩ = some (.pointer X) := (hk.below hW hk.lt).cell 0
    clear hk hl hW
    go_enter Try.func26, Try.ntmps26
    go_wp2_with fail
    go_ret
    exact ⟨rfl, rfl⟩
set_option maxHeartbeats 4000000 in
theorem fromT18 (v : Value) (t : T18) (k : List UInt8) (n : Int) (w : World) (h : Root18 w v t) (ho : OrdL t.flat) (hl : t.flat.length ≤ 1000) :
    Calls Try.prog 19 #[v, .string (st k), .int .i64 n] w fun e w' => ∃ A c, e = .returned (.slice A (fromL t.flat k n).length c) ∧ OwnG 30 2 pcs w' w.heap.size A c (fromL t.flat k n) ∧ Below w.heap.size w w' := by
  obtain ⟨w1, hw1, hb1, hk1⟩ : ∃ w1, w.alloc (.cells #[.int .i64 n] 3) = w1 ∧ Below w.heap.size w w1 ∧ Blk w1 w.heap.size 3 #[.int .i64 n] := ⟨_, rfl, (Below.refl w.heap.size w).alloc (Nat.le_refl _) _, Blk.new w _ _⟩
  obtain ⟨w2, hw2, hb2, hk2⟩ : ∃ w2, w1.alloc (.cells #[.slice none 0 0] 25) = w2 ∧ Below w1.heap.size w1 w2 ∧ Blk w2 w1.heap.size 25 #[.slice none 0 0] := ⟨_, rfl, (Below.refl w1.heap.size w1).alloc (Nat.le_refl _) _, Blk.new w1 _ _⟩
  have hz1 : w.heap.size < w1.heap.size := hk1.lt
  have hb12 : Below w.heap.size w w2 := hb1.trans (hb2.mono hb1.size)
  have hV : Vis18 w w2 w.heap.size w1.heap.size n [] := ⟨Nat.le_refl _, hz1, hb12, hk1.below hb2 hk1.lt, none, 0, hk2, OwnG.nil _ _⟩
  obtain ⟨nb, hnb⟩ : ∃ nb, w.heap.size = nb := ⟨_, rfl⟩
  obtain ⟨lb, hlb⟩ : ∃ lb, w1.heap.size = lb := ⟨_, rfl⟩
  rw [hnb, hlb] at hV
  have HB := Lib.hid hb12
  obtain ⟨X, hX, hT⟩ := root_top h
  have HT := Lib.hid (hT w2 hb12)
  have KF := Lib.hid (from18 k nb lb n w t X w2 [] hX ho hV (Nat.zero_le _) (by simpa using hl))
  have hmf : ∀ (fn : Fn) (first cap : Array Value) (w : World), (Instr.makeFunc fn first cap).run Try.prog w = .ok (.func fn first cap) w := fun _ _ _ _ => rfl
  have HW := Lib.hid (And.intro (And.intro hw1 hw2) (And.intro hnb hlb))
  clear h ho hl hw1 hb1 hk1 hw2 hb2 hk2 hz1 hb12 hV hnb hlb hX hT
  go_enter Try.func19, Try.ntmps19
  go_upto_region 1 with fail
  rw [HW.out.1.1, HW.out.2.1]
  go_upto_region 2 with fail
  rw [HW.out.1.2, HW.out.2.2]
  go_wp2_with fail
  refine HT.out.mono ?_
  rintro e w3 ⟨rfl, hw3⟩
  obtain rfl : w2 = w3 := hw3.symm
  go_wp2_with fail
  refine KF.out.mono ?_
  rintro e w4 ⟨b, L', rfl, -, hL, hV⟩
  obtain ⟨A, c, hk, ho⟩ := hV.sl
  have c0 : w4.cell? ⟨lb, 0, none⟩ = some (.slice A L'.length c) := hk.cell 0
  have HE := Lib.hid (show L' = fromL t.flat k n from by rw [hL, List.nil_append, List.length_nil, Nat.sub_zero]; rfl)
  have HO := Lib.hid (And.intro ho (And.intro hV.old hV.lt))
  clear hL hV hk ho
  go_wp2_with fail
  go_ret
  rw [HE.out]
  have ho := HO.out.1
  rw [HE.out] at ho
  exact ⟨A, c, rfl, ho.base (by have := HO.out.2.2; have := HW.out.2.1; omega), HO.out.2.1⟩
end Go.Proofs.Ytiomfkhblmmdoaa
