/- The reference's finder (cellarageref15): Anew, New (written by gen/gen_fdrefd.py). No statement of the seat is proved here. -/
import Derived.Test.YtoofhaoaogoomaaGreatFdRefC
namespace Go.Proofs.YtoofhaoaogoomaaGreat
open Go.RowKit
set_option linter.unusedVariables false
set_option linter.unusedSimpArgs false
set_option maxRecDepth 100000

/-- The reference's index, told where it lies. -/
def RxA (dx : Nat) (A : Option Addr) (cap : Nat) (w : World) (s : Addr) (F : Nat → Prop) (L : List RowT) : Prop := s = ⟨dx, 0, none⟩ ∧ RIx w dx A cap L ∧ F dx ∧ (∀ ad, A = some ad → F ad.block) ∧ ∀ g, F g → g < w.heap.size
theorem RxA.rx {dx cap : Nat} {A : Option Addr} {w : World} {s : Addr} {F : Nat → Prop} {L : List RowT} (h : RxA dx A cap w s F L) : Rx w s F L := ⟨dx, A, cap, h⟩
theorem RxA.firm (dx : Nat) (A : Option Addr) (cap : Nat) : Firm (RxA dx A cap) where
  lt := fun ⟨_, _, _, _, h⟩ => h
  keep := fun {w w'} {s F L} ⟨hs, h, hd, hA, hl⟩ hk => by
    have hsz := still_lt hl hk
    refine ⟨hs, ⟨h.blk.same (hk dx hd), ⟨fun h0 => ?_, h.rows.each⟩, h.cap, h.most, h.ok⟩, hd, hA, hsz⟩
    obtain ⟨g, off, e, hg, hc⟩ := h.rows.rows h0
    exact ⟨g, off, e, hsz _ (hA _ e), fun j hj i v hv => (World.cell?_of_block (hk g (hA _ e))).trans (hc j hj i v hv)⟩
section
variable {α β γ : Type} {Sa : World → Addr → (Nat → Prop) → α → Prop} {Sb : World → Addr → (Nat → Prop) → β → Prop} {Sc Sc' : World → Addr → (Nat → Prop) → γ → Prop}
  {w0 w : World} {d : Nat} {F0 F : Nat → Prop} {a b c : Addr} {x : α} {y : β} {z : γ}
theorem TriT.map3 (hm : ∀ {w s F z}, Sc w s F z → Sc' w s F z) (h : TriT Sa Sb Sc w0 F0 d w a b c x y z) : TriT Sa Sb Sc' w0 F0 d w a b c x y z := by
  obtain ⟨F, ⟨Fa, Fb, Fc, h1, h2, h3, h4, h5⟩, h6⟩ := h
  exact ⟨F, ⟨Fa, Fb, Fc, h1, h2, h3, hm h4, h5⟩, h6⟩
end
theorem TriT.rxa {w0 w : World} {d : Nat} {F0 : Nat → Prop} {a b c : Addr} {x : BS} {y : CS} {L : List RowT} (h : TriT Rb Rc Rx w0 F0 d w a b c x y L) : ∃ dx A cap, c = ⟨dx, 0, none⟩ ∧ TriT Rb Rc (RxA dx A cap) w0 F0 d w a b c x y L := by
  obtain ⟨F, ⟨Fa, Fb, Fc, h1, h2, h3, ⟨dx, A, cap, h4⟩, h5⟩, h6⟩ := h
  exact ⟨dx, A, cap, h4.1, F, ⟨Fa, Fb, Fc, h1, h2, h3, h4, h5⟩, h6⟩
theorem allS_step {n p : Nat} {L : List RowT} {S : Nat → Bool} {j : Nat} (hj : j < L.length) : allS n p (L.take (j + 1)) S = putL (allS n p (L.take j) S) (spotsK n p L[j].1) := by
  unfold allS
  rw [List.take_succ_eq_append_getElem hj, List.foldl_append]
  rfl
/-- The summary's new bits. -/
theorem rb_fresh {w w1 w2 : World} {r g g2 n p : Nat} {S : Nat → Bool} {F : Nat → Prop} (h : Ref w r g n p S) (hr : F r) (hl : ∀ k, F k → k < w.heap.size) (hw : w.alloc (.cells (madeCells #[Value.bool false] n) 4) = w1) (hg : w.heap.size = g2) (h2 : w1.setCell ⟨r, 0, none⟩ (.slice (some ⟨g2, 0, none⟩) n n) = w2) :
    Turned Rb w ⟨r, 0, none⟩ F w2 ⟨n, p, fun _ => false⟩ := by
  have hb1 : Below w.heap.size w w1 := hw ▸ (Below.refl _ _).alloc (Nat.le_refl _) _
  have hgb : Blk w1 g2 4 (bcs n fun _ => false).toArray := by rw [← made_bool, ← hw, ← hg]; exact Blk.new w _ _
  have hrb := h.rb.below hb1 h.rb.lt
  have hgr : w1.grownBy w2 (some r) := h2 ▸ grown_cell w1 r 0 _
  have hrl := h.rb.lt
  have hgb2 : Blk w2 g2 4 (bcs n fun _ => false).toArray := hgb.same (hgr.block g2 hgb.lt fun e => by injection e with e; omega)
  have hrb2 : Blk w2 r 92 #[.slice (some ⟨g2, 0, none⟩) n n, .int .i64 p] := by
    have := hrb.set_ 0 (.slice (some ⟨g2, 0, none⟩) n n)
    rw [h2] at this
    simpa using this
  refine ⟨fun x => x = r ∨ x = g2, ⟨r, g2, rfl, ⟨hrb2, hgb2, h.hn, h.hp⟩, .inl rfl, .inr rfl, ?_⟩, ?_, (Only.of_below (F := F) hb1).trans (grown_only hgr hr) fun x hx => .inl hx⟩
  · rintro x (rfl | rfl)
    · exact hrb2.lt
    · exact hgb2.lt
  · rintro x (rfl | rfl)
    · exact .inl hr
    · exact .inr (by omega)
set_option maxHeartbeats 40000000 in
theorem rfanew_any (s : Addr) (F : Nat → Prop) (f : FS) (w : World) (h : Rfd w s F f) (hok : f.Ok) (hl : f.L.length ≤ 900) :
    Calls Tryz.prog 15 #[.pointer (some s)] w fun e w' => e = .returned (.tuple #[]) ∧ Turned Rfd w s F w' (anewF f) := by
  obtain ⟨d, a, b, c, rfl, hR⟩ := RfT.start h
  obtain ⟨na, hna⟩ : ∃ n, f.asked = n := ⟨_, rfl⟩
  obtain ⟨nl, hnl⟩ : ∃ n, f.loads = n := ⟨_, rfl⟩
  obtain ⟨n, hn⟩ : ∃ n, f.L.length = n := ⟨_, rfl⟩
  have hbd := hR.blk
  rw [hna, hnl] at hbd
  obtain ⟨dx, A, cap, hc, hT⟩ := hR.tri.rxa
  subst hc
  have hz := drew_below w
  have hTz := (hT.on Rb.firm Rc.firm (RxA.firm dx A cap) hz).1
  have hbz : Blk w.drew d 56 #[.pointer (some a), .pointer (some b), .pointer (some ⟨dx, 0, none⟩), .int .i64 (na : Nat), .int .i64 (nl : Nat)] := hbd.below hz hbd.lt
  obtain ⟨Fa, hA, hAF, turn⟩ := hTz.first Rb.firm Rc.firm (RxA.firm dx A cap)
  obtain ⟨r, g, ha, hRef, hFr, hFg, hFal⟩ := hA
  subst ha
  have hn1 : f.n ≤ 1048576 := hRef.hn
  have hp1 : f.p ≤ 30 := hRef.hp
  obtain ⟨nb, hnb⟩ : ∃ n, f.n = n := ⟨_, rfl⟩
  obtain ⟨pr, hpr⟩ : ∃ n, f.p = n := ⟨_, rfl⟩
  simp only [hnb, hpr] at hRef
  obtain ⟨i0, hi, hz0, hz1, hz2⟩ := info_parts info_bool
  have hmk := run_make (P := Tryz.prog) w.drew 90 4 i0 (.bool false) Tryz.underlying90 hi hz0 .i64 .i64 (nb : Int) (nb : Int) (by omega) (by omega) (by rw [hz2]; omega) (by omega)
  obtain ⟨w1, hw1⟩ : ∃ w1, w.drew.alloc (.cells (madeCells #[Value.bool false] nb) 4) = w1 := ⟨_, rfl⟩
  obtain ⟨g2, hg2⟩ : ∃ g2, w.drew.heap.size = g2 := ⟨_, rfl⟩
  have hb1 : Below w.drew.heap.size w.drew w1 := hw1 ▸ (Below.refl _ _).alloc (Nat.le_refl _) _
  obtain ⟨w2, hw2⟩ : ∃ w2, w1.setCell ⟨r, 0, none⟩ (.slice (some ⟨g2, 0, none⟩) nb nb) = w2 := ⟨_, rfl⟩
  have hfr := rb_fresh hRef hFr hFal hw1 hg2 hw2
  have hT2 : TriT Rb Rc (RxA dx A cap) w F d w2 ⟨r, 0, none⟩ b ⟨dx, 0, none⟩ ⟨nb, pr, fun _ => false⟩ f.C f.L ∧ w2.heap[d]? = w.drew.heap[d]? := turn hfr
  have hS : Blk w.drew d 56 #[.pointer (some ⟨r, 0, none⟩), .pointer (some b), .pointer (some ⟨dx, 0, none⟩), .int .i64 (na : Nat), .int .i64 (nl : Nat)] ∧ Blk w.drew r 92 #[.slice (some ⟨g, 0, none⟩) nb nb, .int .i64 pr] := ⟨hbz, hRef.rb⟩
  have hS1 : Blk w1 d 56 #[.pointer (some ⟨r, 0, none⟩), .pointer (some b), .pointer (some ⟨dx, 0, none⟩), .int .i64 (na : Nat), .int .i64 (nl : Nat)] ∧ Blk w1 r 92 #[.slice (some ⟨g, 0, none⟩) nb nb, .int .i64 pr] := ⟨hbz.below hb1 hbz.lt, hRef.rb.below hb1 hRef.rb.lt⟩
  have hrd : d ≠ r := fun e => blk_other hS.1 hS.2 (by decide) e
  have hS2 : Blk w2 d 56 #[.pointer (some ⟨r, 0, none⟩), .pointer (some b), .pointer (some ⟨dx, 0, none⟩), .int .i64 (na : Nat), .int .i64 (nl : Nat)] := hS.1.same hT2.2
  have H2 := Lib.hid (And.intro hT2.1 hS2)
  have HS := Lib.hid hS
  have HS1 := Lib.hid hS1
  rw [hz1, Nat.mul_one, Int.toNat_natCast] at hmk
  have hmk2 : (Instr.makeSlice 90 (.int .i64 (nb : Int)) (.int .i64 (nb : Int))).run Tryz.prog w.drew = .ok (.slice (some ⟨w.drew.heap.size, 0, none⟩) nb nb) (w.drew.alloc (.cells (madeCells #[Value.bool false] nb) 4)) := hmk
  rw [hw1, hg2] at hmk2
  have HMK := Lib.hid hmk2
  have HW := Lib.hid hw2
  have HN := Lib.hid (And.intro (And.intro hna hnl) (And.intro hn (And.intro hnb hpr)))
  have HOK := Lib.hid (And.intro hok hl)
  obtain ⟨fk, hfk⟩ := key_desc
  have HF := Lib.hid hfk
  have hn9 : n ≤ 900 := by omega
  have hnbi : (nb : Int) ≤ 1048576 := by omega
  clear h hR hna hnl hn hbd hT hz hTz hbz hAF turn hRef hFr hFg hFal hn1 hp1 hi hz0 hz1 hz2 hmk hmk2 hw1 hg2 hb1 hw2 hfr hT2 hS hS1 hrd hS2 hfk hok hl hnb hpr
  go_enter Tryz.func15, Tryz.ntmps15
  go_upto_region 0 with fail
  refine wp_region_held_drew (S := fun W => Blk W d 56 #[.pointer (some ⟨r, 0, none⟩), .pointer (some b), .pointer (some ⟨dx, 0, none⟩), .int .i64 (na : Nat), .int .i64 (nl : Nat)]) (by kernel_rfl) HS.out.1 (fun hHeld => ?_)
  clear hHeld
  generalize w.drew = wz at *
  refine wpAnyH_take (i := 0) (oi := _) (v := .pointer (some ⟨d, 0, none⟩)) rfl (by kernel_rfl) (by kernel_rfl) (by kernel_rfl) (fun _ _ _ h => h) (Or.inl ⟨by rfl, by intro w hSw; go_simp⟩) HS.out.1 ?_
  simp only [List.getElem_toArray, List.getElem_cons_zero, List.getElem_cons_succ, Act.put, List.setIfInBounds_toArray, List.set_cons_zero, List.set_cons_succ]
  refine wpAnyH_take (i := 1) (oi := _) (v := .pointer (some ⟨d, 0, none⟩)) rfl (by kernel_rfl) (by kernel_rfl) (by kernel_rfl) (fun _ _ _ h => h) (Or.inl ⟨by rfl, by intro w hSw; go_simp⟩) HS.out.1 ?_
  simp only [List.getElem_toArray, List.getElem_cons_zero, List.getElem_cons_succ, Act.put, List.setIfInBounds_toArray, List.set_cons_zero, List.set_cons_succ]
  refine wpAnyH_take (i := 2) (oi := _) (v := .pointer (some ⟨d, 0, none⟩)) rfl (by kernel_rfl) (by kernel_rfl) (by kernel_rfl) (fun _ _ _ h => h) (Or.inl ⟨by rfl, by intro w hSw; go_simp⟩) HS.out.1 ?_
  simp only [List.getElem_toArray, List.getElem_cons_zero, List.getElem_cons_succ, Act.put, List.setIfInBounds_toArray, List.set_cons_zero, List.set_cons_succ]
  refine wpAnyH_take (i := 3) (oi := _) (v := .pointer (some ⟨r, 0, none⟩)) rfl (by kernel_rfl) (by kernel_rfl) (by kernel_rfl) (fun _ _ _ h => h) (Or.inl ⟨by rfl, by intro w hSw; have hcc : w.cell? ⟨d, 0, none⟩ = some (.pointer (some ⟨r, 0, none⟩)) := hSw.cell 0; go_simp⟩) HS.out.1 ?_
  simp only [List.getElem_toArray, List.getElem_cons_zero, List.getElem_cons_succ, Act.put, List.setIfInBounds_toArray, List.set_cons_zero, List.set_cons_succ]
  refine wpAnyH_take (i := 4) (oi := _) (v := .pointer (some ⟨d, 0, none⟩)) rfl (by kernel_rfl) (by kernel_rfl) (by kernel_rfl) (fun _ _ _ h => h) (Or.inl ⟨by rfl, by intro w hSw; go_simp⟩) HS.out.1 ?_
  simp only [List.getElem_toArray, List.getElem_cons_zero, List.getElem_cons_succ, Act.put, List.setIfInBounds_toArray, List.set_cons_zero, List.set_cons_succ]
  refine wpAnyH_take (i := 5) (oi := _) (v := .pointer (some ⟨d, 0, none⟩)) rfl (by kernel_rfl) (by kernel_rfl) (by kernel_rfl) (fun _ _ _ h => h) (Or.inl ⟨by rfl, by intro w hSw; go_simp⟩) HS.out.1 ?_
  simp only [List.getElem_toArray, List.getElem_cons_zero, List.getElem_cons_succ, Act.put, List.setIfInBounds_toArray, List.set_cons_zero, List.set_cons_succ]
  refine wpAnyH_take (i := 6) (oi := _) (v := .pointer (some ⟨d, 0, none⟩)) rfl (by kernel_rfl) (by kernel_rfl) (by kernel_rfl) (fun _ _ _ h => h) (Or.inl ⟨by rfl, by intro w hSw; go_simp⟩) HS.out.1 ?_
  simp only [List.getElem_toArray, List.getElem_cons_zero, List.getElem_cons_succ, Act.put, List.setIfInBounds_toArray, List.set_cons_zero, List.set_cons_succ]
  refine wpAnyH_take (i := 7) (oi := _) (v := .pointer (some ⟨r, 0, none⟩)) rfl (by kernel_rfl) (by kernel_rfl) (by kernel_rfl) (fun _ _ _ h => h) (Or.inl ⟨by rfl, by intro w hSw; have hcc : w.cell? ⟨d, 0, none⟩ = some (.pointer (some ⟨r, 0, none⟩)) := hSw.cell 0; go_simp⟩) HS.out.1 ?_
  simp only [List.getElem_toArray, List.getElem_cons_zero, List.getElem_cons_succ, Act.put, List.setIfInBounds_toArray, List.set_cons_zero, List.set_cons_succ]
  refine wpAnyH_take (i := 8) (oi := _) (v := .pointer (some ⟨r, 0, none⟩)) rfl (by kernel_rfl) (by kernel_rfl) (by kernel_rfl) (fun _ _ _ h => h) (Or.inl ⟨by rfl, by intro w hSw; go_simp⟩) HS.out.1 ?_
  simp only [List.getElem_toArray, List.getElem_cons_zero, List.getElem_cons_succ, Act.put, List.setIfInBounds_toArray, List.set_cons_zero, List.set_cons_succ]
  refine wpAnyH_take (i := 9) (oi := _) (v := .pointer (some ⟨r, 0, none⟩)) rfl (by kernel_rfl) (by kernel_rfl) (by kernel_rfl) (fun _ _ _ h => h) (Or.inl ⟨by rfl, by intro w hSw; go_simp⟩) HS.out.1 ?_
  simp only [List.getElem_toArray, List.getElem_cons_zero, List.getElem_cons_succ, Act.put, List.setIfInBounds_toArray, List.set_cons_zero, List.set_cons_succ]
  have vc : wz.cell? ⟨r, 0, none⟩ = some (.slice (some ⟨g, 0, none⟩) nb nb) := HS.out.2.cell 0
  refine wpAnyH_ready (rs := [10]) (by kernel_rfl) (by simp) ?_
  refine AllReadyH.cons rfl (fun K hK => ?_) AllReadyH.nil
  go_simp
  refine hK.out _ _ HS.out.1 (fun _ => ?_)
  clear hK K
  try simp only [List.getElem_toArray, List.getElem_cons_zero, List.getElem_cons_succ, Act.put, List.setIfInBounds_toArray, List.set_cons_zero, List.set_cons_succ]
  refine wpAnyH_take (i := 11) (oi := _) (v := .int .i64 (nb : Int)) rfl (by kernel_rfl) (by kernel_rfl) (by kernel_rfl) (fun _ _ _ h => h) (Or.inl ⟨by rfl, by intro w hSw; go_simp⟩) HS.out.1 ?_
  simp only [List.getElem_toArray, List.getElem_cons_zero, List.getElem_cons_succ, Act.put, List.setIfInBounds_toArray, List.set_cons_zero, List.set_cons_succ]
  have hmk := HMK.out
  refine wpAnyH_ready (rs := [12]) (by kernel_rfl) (by simp) ?_
  refine AllReadyH.cons rfl (fun K hK => ?_) AllReadyH.nil
  go_simp
  refine hK.out _ _ HS1.out.1 (fun _ => ?_)
  clear hK K
  try simp only [List.getElem_toArray, List.getElem_cons_zero, List.getElem_cons_succ, Act.put, List.setIfInBounds_toArray, List.set_cons_zero, List.set_cons_succ]
  refine wpAnyH_take (i := 13) (oi := _) (v := .pointer (some ⟨r, 0, none⟩)) rfl (by kernel_rfl) (by kernel_rfl) (by kernel_rfl) (fun _ _ _ h => h) (Or.inl ⟨by rfl, by intro w hSw; go_simp⟩) HS1.out.1 ?_
  simp only [List.getElem_toArray, List.getElem_cons_zero, List.getElem_cons_succ, Act.put, List.setIfInBounds_toArray, List.set_cons_zero, List.set_cons_succ]
  refine wpAnyH_take (i := 14) (oi := _) (v := .pointer (some ⟨r, 0, none⟩)) rfl (by kernel_rfl) (by kernel_rfl) (by kernel_rfl) (fun _ _ _ h => h) (Or.inl ⟨by rfl, by intro w hSw; go_simp⟩) HS1.out.1 ?_
  simp only [List.getElem_toArray, List.getElem_cons_zero, List.getElem_cons_succ, Act.put, List.setIfInBounds_toArray, List.set_cons_zero, List.set_cons_succ]
  have vc1 : w1.cell? ⟨r, 0, none⟩ = some (.slice (some ⟨g, 0, none⟩) nb nb) := HS1.out.2.cell 0
  have vf1 : w1.frozen? ⟨r, 0, none⟩ = false := HS1.out.2.frozen 0
  refine wpAnyH_ready (rs := [15]) (by kernel_rfl) (by simp) ?_
  refine AllReadyH.cons rfl (fun K hK => ?_) AllReadyH.nil
  go_simp
  rw [HW.out]
  refine hK.out _ _ H2.out.2 (fun _ => ?_)
  clear hK K
  try simp only [List.getElem_toArray, List.getElem_cons_zero, List.getElem_cons_succ, Act.put, List.setIfInBounds_toArray, List.set_cons_zero, List.set_cons_succ]
  refine wpAnyH_done (by kernel_rfl) ?_ _
  clear vc vc1 vf1 hmk HMK HS HS1 HW
  go_upto_region 2 with fail
  go_loopw [2] (fun iv wr => ∃ j : Nat, j ≤ n ∧ iv = .int .i64 j ∧ Hid (TriT Rb Rc (RxA dx A cap) w F d wr ⟨r, 0, none⟩ b ⟨dx, 0, none⟩ ⟨nb, pr, allS nb pr (f.L.take j) fun _ => false⟩ f.C f.L ∧ Blk wr d 56 #[.pointer (some ⟨r, 0, none⟩), .pointer (some b), .pointer (some ⟨dx, 0, none⟩), .int .i64 (na : Nat), .int .i64 (nl : Nat)])) (fun iv _ => n - (intOf iv).toNat)
  case atStart => exact ⟨0, Nat.zero_le _, rfl, Lib.hid H2.out⟩
  case round =>
    obtain ⟨j, hj, rfl, hst⟩ := hrel
    obtain ⟨Fx, hsx, hRI, hFx, hFA, hFl⟩ := hst.out.1.get3
    have hdc : wr.cell? ⟨d, 2, none⟩ = some (.pointer (some ⟨dx, 0, none⟩)) := hst.out.2.cell 2
    have hxc : wr.cell? ⟨dx, 0, none⟩ = some (.slice A n cap) := by rw [← HN.out.2.1]; exact hRI.blk.cell 0
    have hcn := hRI.cap
    have hcm := hRI.most
    rw [HN.out.2.1] at hcn
    unfold maxLen at hcm
    by_cases hlt : j < n
    · have hjl : j < f.L.length := by rw [HN.out.2.1]; exact hlt
      obtain ⟨gr, orr, rfl, hgr, hra, hko⟩ := hRI.rows.at_ hjl
      obtain ⟨x, hx⟩ : ∃ x, f.L[j] = x := ⟨_, rfl⟩
      rw [hx] at hra hko
      obtain ⟨Yk, hYk⟩ : ∃ Yk, kcs x.1 = Yk := ⟨_, rfl⟩
      have HYS := Lib.hid (show (Tryz.prog.info? 29).map (·.size) = some Yk.length from by rw [← hYk, kcs_length hko.key]; exact key_size)
      have HST := Lib.hid (show allS nb pr (f.L.take (j + 1)) (fun _ => false) = putL (allS nb pr (f.L.take j) fun _ => false) (spotsK nb pr x.1) from by rw [← hx]; exact allS_step hjl)
      have hi1 : (0 : Int) ≤ (j : Int) := by omega
      have hi2 : (j : Int) < (n : Int) := by omega
      have hzr := drew_below wr
      have h1 := (hst.out.1.on Rb.firm Rc.firm (RxA.firm dx (some ⟨gr, orr, none⟩) cap) hzr).1
      have HSP := Lib.hid (show ∀ W x y z G, TriT Rb Rc (RxA dx (some ⟨gr, orr, none⟩) cap) w G d W ⟨r, 0, none⟩ b ⟨dx, 0, none⟩ x y z → z = f.L → Blk W dx 63 #[.slice (some ⟨gr, orr, none⟩) n cap] ∧ W.rangeAt gr (orr + j * 35) Yk from fun W x y z G h e => by
        obtain ⟨Fx, hsx, hRI, _⟩ := h.get3
        subst e
        refine ⟨by rw [← HN.out.2.1]; exact hRI.blk, ?_⟩
        obtain ⟨g3, o3, e3, _, h3, _⟩ := hRI.rows.at_ hjl
        injection e3 with e3
        injection e3 with e4 e5 _
        subst e4 e5
        rw [hx] at h3
        exact hYk ▸ range_key h3)
      have HS := Lib.hid (show Blk wr.drew d 56 #[.pointer (some ⟨r, 0, none⟩), .pointer (some b), .pointer (some ⟨dx, 0, none⟩), .int .i64 (na : Nat), .int .i64 (nl : Nat)] ∧ Blk wr.drew dx 63 #[.slice (some ⟨gr, orr, none⟩) n cap] ∧ wr.drew.rangeAt gr (orr + j * 35) Yk from ⟨hst.out.2.below hzr hst.out.2.lt, HSP.out _ _ _ _ _ h1 rfl⟩)
      have KA := h1.call1 Rb.firm Rc.firm (RxA.firm dx (some ⟨gr, orr, none⟩) cap) fun F hF _ => rb_add hF x.1 hko.key
      rw [hYk] at KA
      replace KA := Lib.hid KA
      clear hra hko hx hYk hzr h1 hst hRI hsx hFx hFA hFl hgr hjl
      go_upto_region 4 with fail
      clear hdc hxc
      refine wp_region_held_drew (S := fun W => Blk W d 56 #[.pointer (some ⟨r, 0, none⟩), .pointer (some b), .pointer (some ⟨dx, 0, none⟩), .int .i64 (na : Nat), .int .i64 (nl : Nat)] ∧ Blk W dx 63 #[.slice (some ⟨gr, orr, none⟩) n cap] ∧ W.rangeAt gr (orr + j * 35) Yk) (by kernel_rfl) HS.out (fun hHeld => ?_)
      clear hHeld
      generalize wr.drew = wy at *
      refine wpAnyH_take (i := 0) (oi := _) (v := .pointer (some ⟨d, 0, none⟩)) rfl (by kernel_rfl) (by kernel_rfl) (by kernel_rfl) (fun _ _ _ h => h) (Or.inl ⟨by rfl, by intro w hSw; go_simp⟩) HS.out ?_
      simp only [List.getElem_toArray, List.getElem_cons_zero, List.getElem_cons_succ, Act.put, List.setIfInBounds_toArray, List.set_cons_zero, List.set_cons_succ]
      refine wpAnyH_take (i := 1) (oi := _) (v := .pointer (some ⟨d, 0, none⟩)) rfl (by kernel_rfl) (by kernel_rfl) (by kernel_rfl) (fun _ _ _ h => h) (Or.inl ⟨by rfl, by intro w hSw; go_simp⟩) HS.out ?_
      simp only [List.getElem_toArray, List.getElem_cons_zero, List.getElem_cons_succ, Act.put, List.setIfInBounds_toArray, List.set_cons_zero, List.set_cons_succ]
      refine wpAnyH_take (i := 2) (oi := _) (v := .pointer (some ⟨d, 0, none⟩)) rfl (by kernel_rfl) (by kernel_rfl) (by kernel_rfl) (fun _ _ _ h => h) (Or.inl ⟨by rfl, by intro w hSw; go_simp⟩) HS.out ?_
      simp only [List.getElem_toArray, List.getElem_cons_zero, List.getElem_cons_succ, Act.put, List.setIfInBounds_toArray, List.set_cons_zero, List.set_cons_succ]
      refine wpAnyH_take (i := 3) (oi := _) (v := .pointer (some ⟨r, 0, none⟩)) rfl (by kernel_rfl) (by kernel_rfl) (by kernel_rfl) (fun _ _ _ h => h) (Or.inl ⟨by rfl, by intro w hSw; have hcc : w.cell? ⟨d, 0, none⟩ = some (.pointer (some ⟨r, 0, none⟩)) := hSw.1.cell 0; go_simp⟩) HS.out ?_
      simp only [List.getElem_toArray, List.getElem_cons_zero, List.getElem_cons_succ, Act.put, List.setIfInBounds_toArray, List.set_cons_zero, List.set_cons_succ]
      refine wpAnyH_take (i := 4) (oi := _) (v := .pointer (some ⟨d, 0, none⟩)) rfl (by kernel_rfl) (by kernel_rfl) (by kernel_rfl) (fun _ _ _ h => h) (Or.inl ⟨by rfl, by intro w hSw; go_simp⟩) HS.out ?_
      simp only [List.getElem_toArray, List.getElem_cons_zero, List.getElem_cons_succ, Act.put, List.setIfInBounds_toArray, List.set_cons_zero, List.set_cons_succ]
      refine wpAnyH_take (i := 5) (oi := _) (v := .pointer (some ⟨d, 0, none⟩)) rfl (by kernel_rfl) (by kernel_rfl) (by kernel_rfl) (fun _ _ _ h => h) (Or.inl ⟨by rfl, by intro w hSw; go_simp⟩) HS.out ?_
      simp only [List.getElem_toArray, List.getElem_cons_zero, List.getElem_cons_succ, Act.put, List.setIfInBounds_toArray, List.set_cons_zero, List.set_cons_succ]
      refine wpAnyH_take (i := 6) (oi := _) (v := .pointer (some ⟨d, 2, none⟩)) rfl (by kernel_rfl) (by kernel_rfl) (by kernel_rfl) (fun _ _ _ h => h) (Or.inl ⟨by rfl, by intro w hSw; go_simp⟩) HS.out ?_
      simp only [List.getElem_toArray, List.getElem_cons_zero, List.getElem_cons_succ, Act.put, List.setIfInBounds_toArray, List.set_cons_zero, List.set_cons_succ]
      refine wpAnyH_take (i := 7) (oi := _) (v := .pointer (some ⟨dx, 0, none⟩)) rfl (by kernel_rfl) (by kernel_rfl) (by kernel_rfl) (fun _ _ _ h => h) (Or.inl ⟨by rfl, by intro w hSw; have hcc : w.cell? ⟨d, 2, none⟩ = some (.pointer (some ⟨dx, 0, none⟩)) := hSw.1.cell 2; go_simp⟩) HS.out ?_
      simp only [List.getElem_toArray, List.getElem_cons_zero, List.getElem_cons_succ, Act.put, List.setIfInBounds_toArray, List.set_cons_zero, List.set_cons_succ]
      refine wpAnyH_take (i := 8) (oi := _) (v := .pointer (some ⟨dx, 0, none⟩)) rfl (by kernel_rfl) (by kernel_rfl) (by kernel_rfl) (fun _ _ _ h => h) (Or.inl ⟨by rfl, by intro w hSw; go_simp⟩) HS.out ?_
      simp only [List.getElem_toArray, List.getElem_cons_zero, List.getElem_cons_succ, Act.put, List.setIfInBounds_toArray, List.set_cons_zero, List.set_cons_succ]
      refine wpAnyH_take (i := 9) (oi := _) (v := .pointer (some ⟨dx, 0, none⟩)) rfl (by kernel_rfl) (by kernel_rfl) (by kernel_rfl) (fun _ _ _ h => h) (Or.inl ⟨by rfl, by intro w hSw; go_simp⟩) HS.out ?_
      simp only [List.getElem_toArray, List.getElem_cons_zero, List.getElem_cons_succ, Act.put, List.setIfInBounds_toArray, List.set_cons_zero, List.set_cons_succ]
      refine wpAnyH_take (i := 10) (oi := _) (v := .slice (some ⟨gr, orr, none⟩) n cap) rfl (by kernel_rfl) (by kernel_rfl) (by kernel_rfl) (fun _ _ _ h => h) (Or.inl ⟨by rfl, by intro w hSw; have hcc : w.cell? ⟨dx, 0, none⟩ = some (.slice (some ⟨gr, orr, none⟩) n cap) := hSw.2.1.cell 0; go_simp⟩) HS.out ?_
      simp only [List.getElem_toArray, List.getElem_cons_zero, List.getElem_cons_succ, Act.put, List.setIfInBounds_toArray, List.set_cons_zero, List.set_cons_succ]
      refine wpAnyH_take (i := 11) (oi := _) (v := .int .i64 j) rfl (by kernel_rfl) (by kernel_rfl) (by kernel_rfl) (fun _ _ _ h => h) (Or.inl ⟨by rfl, by intro w hSw; go_simp⟩) HS.out ?_
      simp only [List.getElem_toArray, List.getElem_cons_zero, List.getElem_cons_succ, Act.put, List.setIfInBounds_toArray, List.set_cons_zero, List.set_cons_succ]
      refine wpAnyH_take (i := 12) (oi := _) (v := .pointer (some ⟨gr, orr + j * 35, none⟩)) rfl (by kernel_rfl) (by kernel_rfl) (by kernel_rfl) (fun _ _ _ h => h) (Or.inl ⟨by rfl, by intro w hSw; go_simp⟩) HS.out ?_
      simp only [List.getElem_toArray, List.getElem_cons_zero, List.getElem_cons_succ, Act.put, List.setIfInBounds_toArray, List.set_cons_zero, List.set_cons_succ]
      refine wpAnyH_take (i := 13) (oi := _) (v := .pointer (some ⟨gr, orr + j * 35, none⟩)) rfl (by kernel_rfl) (by kernel_rfl) (by kernel_rfl) (fun _ _ _ h => h) (Or.inl ⟨by rfl, by intro w hSw; go_simp⟩) HS.out ?_
      simp only [List.getElem_toArray, List.getElem_cons_zero, List.getElem_cons_succ, Act.put, List.setIfInBounds_toArray, List.set_cons_zero, List.set_cons_succ]
      refine wpAnyH_take (i := 14) (oi := _) (v := .agg Yk.toArray) rfl (by kernel_rfl) (by kernel_rfl) (by kernel_rfl) (fun _ _ _ h => h) (yields_mid (by rfl) 29 (.tmp 43) rfl gr (orr + j * 35) rfl Yk (.struct fk) (fun W hW => hW.2.2) HF.out rfl HYS.out) HS.out ?_
      simp only [List.getElem_toArray, List.getElem_cons_zero, List.getElem_cons_succ, Act.put, List.setIfInBounds_toArray, List.set_cons_zero, List.set_cons_succ]
      refine wpAnyH_ready (rs := [15]) (by kernel_rfl) (by simp) ?_
      refine AllReadyH.cons rfl (fun K hK => ?_) AllReadyH.nil
      go_simp
      (with_reducible refine KA.out.mono ?_)
      rintro e w5 ⟨⟨y, rfl⟩, h5, e5⟩
      have hd5 : Blk w5 d 56 #[.pointer (some ⟨r, 0, none⟩), .pointer (some b), .pointer (some ⟨dx, 0, none⟩), .int .i64 (na : Nat), .int .i64 (nl : Nat)] := HS.out.1.same e5
      have hs5 : Blk w5 d 56 #[.pointer (some ⟨r, 0, none⟩), .pointer (some b), .pointer (some ⟨dx, 0, none⟩), .int .i64 (na : Nat), .int .i64 (nl : Nat)] ∧ Blk w5 dx 63 #[.slice (some ⟨gr, orr, none⟩) n cap] ∧ w5.rangeAt gr (orr + j * 35) Yk := ⟨hd5, HSP.out _ _ _ _ _ h5 rfl⟩
      have H5 := Lib.hid (And.intro h5 hd5)
      clear h5 e5 hd5
      go_wp2_with fail
      refine hK.out _ _ hs5 (fun _ => ?_)
      clear hK K
      try simp only [List.getElem_toArray, List.getElem_cons_zero, List.getElem_cons_succ, Act.put, List.setIfInBounds_toArray, List.set_cons_zero, List.set_cons_succ]
      refine wpAnyH_done (by kernel_rfl) ?_ _
      clear hs5 KA HS HSP
      go_wp2_with fail
      go_roundw
      case rel => exact ⟨j + 1, by omega, by go_num, Lib.hid ⟨by rw [HST.out]; exact H5.out.1, H5.out.2⟩⟩
      case measure => simp [intOf]; omega
    · obtain rfl : j = n := by omega
      have HSTT := hst
      clear hst hRI hsx hFx hFA hFl
      go_wp2_with fail
      (try simp only [Exit.inBlock, Exit.then])
      refine bodyPost_end (results_none rfl _ _ _) rfl ?_
      refine ⟨rfl, ?_⟩
      have h9 := HSTT.out.1.map3 (Sc' := Rx) fun h => h.rx
      rw [List.take_of_length_le (by rw [HN.out.2.1]; exact Nat.le_refl _)] at h9
      refine RfT.fin (f' := anewF f) (a := ⟨r, 0, none⟩) (b := b) (c := ⟨dx, 0, none⟩) ⟨?_, ?_⟩
      · show TriT Rb Rc Rx w F d _ ⟨r, 0, none⟩ b ⟨dx, 0, none⟩ ⟨f.n, f.p, allS f.n f.p f.L fun _ => false⟩ f.C f.L
        rw [HN.out.2.2.1, HN.out.2.2.2]
        exact h9
      · show Blk _ d 56 #[.pointer (some ⟨r, 0, none⟩), .pointer (some b), .pointer (some ⟨dx, 0, none⟩), .int .i64 (f.asked : Nat), .int .i64 (f.loads : Nat)]
        rw [HN.out.1.1, HN.out.1.2]
        exact HSTT.out.2
end Go.Proofs.YtoofhaoaogoomaaGreat
