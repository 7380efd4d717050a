/- The reference's Take (cellarageref10). No statement of the seat is proved here. -/
import Derived.Test.YtmfbidohmkoeeaaSlRefA
import Derived.Test.YtmfbidohmkoeeaaRefGet
import Derived.Test.YtmfbidohmkoeeaaOwnRow
import Derived.Test.YtmfbidohmkoeeaaQuiet
import Derived.Laws.ResultCell
import Derived.Deep.RegionHeld
namespace Go.Proofs.Ytmfbidohmkoeeaa
open Go.RowKit
set_option linter.unusedVariables false
set_option linter.unusedSimpArgs false

theorem slot_desc : ∃ fs, Try.prog.underlying 25 = some (.struct fs) := ⟨_, Try.underlying25⟩
theorem slot_size4 : (Try.prog.info? 25).map (·.size) = some 4 := by kernel_rfl
theorem results_slot_tmp {P : Program} {fn : Func} {p u : Tmp} {ty : TypeId} (h : fn.results = #[.cell p ty, .tmp u]) (tmps : Array Value) (w : World) (g : Nat) (t : TypeId) (cs : Array Value) (fr : Nat × Nat) (d : TypeDesc)
    (hp : tmps.getD p undef = .pointer (some ⟨g, 0, none⟩)) (hg : w.heap[g]? = some (.cells cs t fr))
    (hu : P.underlying ty = some d) (hd : (match d with | .struct _ | .array _ _ => true | _ => false) = true) (hi : (P.info? ty).map (·.size) = some cs.size) (x : Value) (hx : tmps.getD u undef = x) :
    (results fn tmps).run P w = .ok (.tuple #[.agg cs, x]) w := by
  rw [results_cell_tmp h, hp, hx]
  simp [asAddr, Result.andThen, run_loadVar_row w g t ty cs fr d hg hu hd hi]
theorem take_of {b : List UInt8} {s : SlT} (hh : b.length = 128 → headS b = s) : takeS b = if s.g ≠ 0 ∧ layS s = b then (s, 0) else (slZ, 100) := by
  by_cases hl : b.length = 128
  · unfold takeS
    rw [hh hl]
  · rw [takeS_len hl, if_neg]
    rintro ⟨_, h⟩
    exact hl (by rw [← h, layS_length])
/-- The state of the walk of Take: the result's block, the reader g, the slot p. -/
structure TK (w0 w : World) (g p : Nat) (A : Option Addr) (c : Nat) (l : List UInt8) (i : Nat) (f : Int) (vals : List Value) : Prop where
  bd : Blk w w0.heap.size 25 (slcs slZ).toArray
  rf : Ref w g A c l i f
  bp : Blk w p 25 vals.toArray
  bel : Below w0.heap.size w0 w
  lg : w0.heap.size < g
  lp : g < p
section
variable {w0 w w' : World} {A : Option Addr} {c i g p : Nat} {l : List UInt8} {f : Int} {vals : List Value}
theorem TK.get (h : TK w0 w g p A c l i f vals) {i' : Nat} {f' : Int} (hr : Ref w' g A c l i' f') (hg : w.grownBy w' (some g)) : TK w0 w' g p A c l i' f' vals :=
  ⟨h.bd.same (hg.block _ h.bd.lt (by have := h.lg; simp; omega)), hr, h.bp.same (hg.block _ h.bp.lt (by have := h.lp; simp; omega)), h.bel.grown hg h.bel.size fun k hk => by injection hk with hk; have := h.lg; omega, h.lg, h.lp⟩
theorem TK.set (h : TK w0 w g p A c l i f vals) (j : Nat) (v : Value) : TK w0 (w.setCell ⟨p, j, none⟩ v) g p A c l i f (vals.set j v) := by
  have hg : w.grownBy (w.setCell ⟨p, j, none⟩ v) (some p) := setCell_grown (World.grownBy.refl w _)
  have := h.lg
  have := h.lp
  refine ⟨h.bd.same (hg.block _ h.bd.lt (by simp; omega)), h.rf.other hg h.lp, ?_, h.bel.grown hg h.bel.size fun k hk => by injection hk with hk; omega, h.lg, h.lp⟩
  have := h.bp.set_ j v
  rwa [List.setIfInBounds_toArray] at this
end
theorem conv_u8 {V : Nat} (h : V < 256) : IntKind.u8.wrap (V : Int) = (V : Int) := by rw [IntKind.wrap_u8']; omega
theorem conv_u32 {V : Nat} (h : V < 4294967296) : IntKind.u32.wrap (V : Int) = (V : Int) := by rw [IntKind.wrap_u32']; omega
/-- What the four Gets give. -/
theorem gets (b : List UInt8) : ∃ (V1 V2 V3 V4 : Nat) (L1 L2 L3 L4 : List UInt8) (F1 F2 F3 F4 : Int),
    (getV b 0 8 = V1 ∧ getL b 0 8 = L1 ∧ getF b 0 8 = F1) ∧ (getV L1 F1 1 = V2 ∧ getL L1 F1 1 = L2 ∧ getF L1 F1 1 = F2) ∧ (getV L2 F2 4 = V3 ∧ getL L2 F2 4 = L3 ∧ getF L2 F2 4 = F3) ∧ (getV L3 F3 4 = V4 ∧ getL L3 F3 4 = L4 ∧ getF L3 F3 4 = F4) ∧
    (⟨V1, V2, V3, V4⟩ : SlT).Ok ∧ (b.length = 128 → headS b = ⟨V1, V2, V3, V4⟩) := by
  refine ⟨_, _, _, _, _, _, _, _, _, _, _, _, ⟨rfl, rfl, rfl⟩, ⟨rfl, rfl, rfl⟩, ⟨rfl, rfl, rfl⟩, ⟨rfl, rfl, rfl⟩, ⟨getV_lt _ _ 8, getV_lt _ _ 1, getV_lt _ _ 4, getV_lt _ _ 4⟩, fun hl => ?_⟩
  have d8 : (b.drop 8).length = 120 := by rw [List.length_drop]; omega
  have d9 : (b.drop 9).length = 119 := by rw [List.length_drop]; omega
  have d13 : (b.drop 13).length = 115 := by rw [List.length_drop]; omega
  have F : ∀ (x : List UInt8) (k : Int), 0 ≤ k → k ≤ 8 → k ≤ x.length → getF x 0 k = 0 := fun x k h0 h1 h2 => by unfold getF; rw [if_pos rfl, if_neg (by omega), if_neg (by omega)]
  have V : ∀ (x : List UInt8) (k : Int), 0 ≤ k → k ≤ 8 → k ≤ x.length → getV x 0 k = val (x.take k.toNat) := fun x k h0 h1 h2 => by unfold getV; rw [if_pos ⟨rfl, h0, h1, h2⟩]
  have L : ∀ (x : List UInt8) (k : Int), 0 ≤ k → k ≤ 8 → k ≤ x.length → getL x 0 k = x.drop k.toNat := fun x k h0 h1 h2 => by unfold getL; rw [if_pos ⟨rfl, h0, h1, h2⟩]
  have e1 : getL b 0 8 = b.drop 8 := L b 8 (by omega) (by omega) (by omega)
  have e2 : getL (b.drop 8) 0 1 = b.drop 9 := by rw [L _ _ (by omega) (by omega) (by omega), List.drop_drop]; rfl
  have e3 : getL (b.drop 9) 0 4 = b.drop 13 := by rw [L _ _ (by omega) (by omega) (by omega), List.drop_drop]; rfl
  rw [F b 8 (by omega) (by omega) (by omega), e1, F (b.drop 8) 1 (by omega) (by omega) (by omega), e2, F (b.drop 9) 4 (by omega) (by omega) (by omega), e3,
    V b 8 (by omega) (by omega) (by omega), V (b.drop 8) 1 (by omega) (by omega) (by omega), V (b.drop 9) 4 (by omega) (by omega) (by omega), V (b.drop 13) 4 (by omega) (by omega) (by omega)]
  rfl
theorem rget_lit {g c i : Nat} {A : Option Addr} {l : List UInt8} {f many : Int} {w : World} (h : Ref w g A c l i f) {x : List UInt8} (hx : l.drop i = x) {V : Nat} {L : List UInt8} {F : Int} (hg : getV x f many = V ∧ getL x f many = L ∧ getF x f many = F) :
    Calls Try.prog 19 #[.pointer (some ⟨g, 0, none⟩), .int .i64 many] w fun e w' => e = .returned (.int .u64 V) ∧ (∃ i', Ref w' g A c l i' F ∧ l.drop i' = L) ∧ w.grownBy w' (some g) := by
  obtain ⟨rfl, rfl, rfl⟩ := hg
  subst hx
  exact rget_any g c i A l f many w h
theorem set4 {w : World} {g : Nat} {t : TypeId} {a b c d a' b' c' d' : Value} (h : Blk w g t #[a, b, c, d]) :
    Blk ((((w.setCell ⟨g, 0, none⟩ a').setCell ⟨g, 1, none⟩ b').setCell ⟨g, 2, none⟩ c').setCell ⟨g, 3, none⟩ d') g t #[a', b', c', d'] :=
  (((h.set_ 0 a').set_ 1 b').set_ 2 c').set_ 3 d'
theorem gby4 (w : World) (g : Nat) (a b c d : Value) : w.grownBy ((((w.setCell ⟨g, 0, none⟩ a).setCell ⟨g, 1, none⟩ b).setCell ⟨g, 2, none⟩ c).setCell ⟨g, 3, none⟩ d) (some g) :=
  setCell_grown (setCell_grown (setCell_grown (setCell_grown (World.grownBy.refl w _))))
/-- The result is stored, in a world behind. -/
theorem take_end {w0 w : World} {g p : Nat} {A : Option Addr} {c i : Nat} {l : List UInt8} {f : Int} {vals : List Value} (h : TK w0 w g p A c l i f vals) {d : Nat} (hd : w0.heap.size = d) (s : SlT) (W : World) (hW : ∀ k, k < w.heap.size → W.heap[k]? = w.heap[k]?) (hb : Below w0.heap.size w0 W) :
    Blk ((((W.setCell ⟨d, 0, none⟩ (.int .u64 s.g)).setCell ⟨d, 1, none⟩ (.int .u8 s.a)).setCell ⟨d, 2, none⟩ (.int .u32 s.z)).setCell ⟨d, 3, none⟩ (.int .u32 s.u)) d 25 (slcs s).toArray ∧
    Below w0.heap.size w0 ((((W.setCell ⟨d, 0, none⟩ (.int .u64 s.g)).setCell ⟨d, 1, none⟩ (.int .u8 s.a)).setCell ⟨d, 2, none⟩ (.int .u32 s.z)).setCell ⟨d, 3, none⟩ (.int .u32 s.u)) := by
  have hbd : Blk W d 25 (slcs slZ).toArray := by have := h.bd.same (hW _ h.bd.lt); rwa [hd] at this
  exact ⟨set4 hbd, hb.grown (gby4 W _ _ _ _ _) hb.size fun k hk => by injection hk with hk; omega⟩
/-- 'string(b)' of a row of the call's own, in every world behind. -/
theorem str_own {w : World} {B c n : Nat} {A : Option Addr} {l : List UInt8} {t : TypeId} (hl : l.length = n) (h : w.ownsRow B t 1 (.slice A n c) n (bv l)) : ∀ W, Below w.heap.size w W → (convert 27 9 (.slice A n c)).run Try.prog W = .ok (.string ⟨l.toArray⟩) W := fun W hb => by
  subst hl
  exact run_str _ _ _ Try.underlying27 Try.underlying5 Try.underlying9 ((Rd.of_own h).below hb) c
set_option maxRecDepth 100000 in
set_option maxHeartbeats 2000000 in
theorem rtake_any (A : Option Addr) (k c : Nat) (b : List UInt8) (hl : b.length = k) (hk : k ≤ c) (hc : c ≤ maxLen ∧ k ≤ 140737488351232) (w : World) (hr : Rd w w.heap.size A b) :
    Calls Try.prog 13 #[.slice A k c] w fun e w' => e = .returned (.tuple #[(takeS b).1.v, .int .i64 (takeS b).2]) ∧ Below w.heap.size w w' := by
  obtain ⟨R, hR⟩ : ∃ R, takeS b = R := ⟨_, rfl⟩
  rw [hR]
  obtain ⟨d, hd⟩ : ∃ d, w.heap.size = d := ⟨_, rfl⟩
  obtain ⟨w1, hw1⟩ : ∃ w1, w.alloc (.cells #[.int .u64 0, .int .u8 0, .int .u32 0, .int .u32 0] 25) = w1 := ⟨_, rfl⟩
  obtain ⟨w2, hw2⟩ : ∃ w2, w1.alloc (.cells #[.slice A k c, .int .i64 0, .int .i64 0] 47) = w2 := ⟨_, rfl⟩
  have hz1 : w1.heap.size = d + 1 := by rw [← hw1, ← hd]; exact Array.size_push ..
  have hz2 : w2.heap.size = d + 2 := by
    have : w2.heap.size = w1.heap.size + 1 := by rw [← hw2]; exact Array.size_push ..
    omega
  have hb1 : Below w.heap.size w w1 := hw1 ▸ (Below.refl _ _).alloc (Nat.le_refl _) _
  have hb2 : Below w1.heap.size w1 w2 := hw2 ▸ (Below.refl _ _).alloc (Nat.le_refl _) _
  have hb12 : Below w.heap.size w w2 := hb1.trans (hb2.mono hb1.size)
  have hbd : Blk w2 d 25 (slcs slZ).toArray := (show Blk w1 d 25 (slcs slZ).toArray by rw [← hw1, ← hd]; exact Blk.new w _ _).below hb2 (by omega)
  have hrf : Ref w2 (d + 1) A c b 0 0 := by
    refine ⟨by rw [← hw2, ← hz1, hl]; exact Blk.new w1 _ _, Nat.zero_le _, by omega, by omega, ?_⟩
    exact (hr.below hb12).more (by omega)
  have HK2 := Lib.hid (And.intro hw1 (And.intro hw2 (And.intro hd (And.intro hz1 hz2))))
  have HB := Lib.hid (And.intro hbd (And.intro hrf hb12))
  have HR := Lib.hid (And.intro hr (And.intro hl (And.intro hk hc)))
  clear hw1 hw2 hd hz1 hz2 hb1 hb2 hb12 hbd hrf hr hl hk hc
  go_enter Try.func13, Try.ntmps13
  go_upto_region 1 with fail
  rw [HK2.out.1, HK2.out.2.2.1]
  go_upto_region 2 with fail
  rw [HK2.out.2.1, HK2.out.2.2.2.1]
  obtain ⟨V1, V2, V3, V4, L1, L2, L3, L4, F1, F2, F3, F4, G1, G2, G3, G4, hok, hh⟩ := gets b
  have HG := Lib.hid (And.intro G1 (And.intro G2 (And.intro G3 G4)))
  have ht := take_of hh
  rw [hR] at ht
  have HT := Lib.hid ht
  clear ht hR
  have HOK := Lib.hid hok
  clear G1 G2 G3 G4 hok hh
  go_wp2_with fail
  refine (rget_lit HB.out.2.1 (List.drop_zero) HG.out.1).mono ?_
  rintro e w3 ⟨rfl, ⟨i1, hr1, hl1⟩, hg1⟩
  obtain ⟨p, hp⟩ : ∃ p, w3.heap.size = p := ⟨_, rfl⟩
  have hpd : d + 2 ≤ p := by have := hg1.size; have := HK2.out.2.2.2.2; omega
  obtain ⟨w4, hw4⟩ : ∃ w4, w3.alloc (.cells #[.int .u64 V1, .int .u8 0, .int .u32 0, .int .u32 0] 25) = w4 := ⟨_, rfl⟩
  have hb4 : Below w3.heap.size w3 w4 := hw4 ▸ (Below.refl _ _).alloc (Nat.le_refl _) _
  have hd := HK2.out.2.2.1
  have T4 := Lib.hid (show TK w w4 (d + 1) p A c b i1 F1 [.int .u64 V1, .int .u8 0, .int .u32 0, .int .u32 0] from by
    have hbd3 : Blk w3 d 25 (slcs slZ).toArray := HB.out.1.same (hg1.block _ HB.out.1.lt (by simp))
    refine ⟨by rw [hd]; exact hbd3.below hb4 hbd3.lt, hr1.below hb4, by rw [← hw4, ← hp]; exact Blk.new w3 _ _, ?_, by omega, by omega⟩
    exact (HB.out.2.2.grown hg1 HB.out.2.2.size fun k hk => by injection hk with hk; omega).trans (hb4.mono (by have := hg1.size; have := HB.out.2.2.size; omega)))
  have HW4 := Lib.hid (And.intro hw4 hp)
  have HL1 := Lib.hid hl1
  clear hr1 hl1 hg1 hpd hb4 hd hw4 hp
  go_upto_region 3 with fail
  rw [HW4.out.1, HW4.out.2]
  go_wp2_with fail
  have T4c := T4
  refine (rget_lit T4c.out.rf HL1.out HG.out.2.1).mono ?_
  rintro e w5 ⟨rfl, ⟨i2, hr, hl⟩, hg⟩
  have T6a := Lib.hid (T4c.out.get hr hg)
  have HL2 := Lib.hid hl
  have T6 := Lib.hid (T6a.out.set 1 (.int .u8 (V2 : Nat)))
  have hf := T6a.out.bp.frozen 1
  have hc := T6a.out.bp.cell 1
  have hv := conv_u8 HOK.out.a
  clear hr hl hg T4 T4c
  go_upto_region 4 with fail
  clear hf hc hv T6a
  obtain ⟨w6, hw6⟩ : ∃ v, w5.setCell ⟨p, 1, none⟩ (.int .u8 (V2 : Nat)) = v := ⟨_, rfl⟩
  rw [hw6] at T6 ⊢
  replace hw6 := Lib.hid hw6
  go_wp2_with fail
  have T6c := T6
  refine (rget_lit T6c.out.rf HL2.out HG.out.2.2.1).mono ?_
  rintro e w7 ⟨rfl, ⟨i3, hr, hl⟩, hg⟩
  have T8a := Lib.hid (T6c.out.get hr hg)
  have HL3 := Lib.hid hl
  have T8 := Lib.hid (T8a.out.set 2 (.int .u32 (V3 : Nat)))
  have hf := T8a.out.bp.frozen 2
  have hc := T8a.out.bp.cell 2
  have hv := conv_u32 HOK.out.z
  clear hr hl hg T6 T6c
  go_upto_region 5 with fail
  clear hf hc hv T8a
  obtain ⟨w8, hw8⟩ : ∃ v, w7.setCell ⟨p, 2, none⟩ (.int .u32 (V3 : Nat)) = v := ⟨_, rfl⟩
  rw [hw8] at T8 ⊢
  replace hw8 := Lib.hid hw8
  go_wp2_with fail
  have T8c := T8
  refine (rget_lit T8c.out.rf HL3.out HG.out.2.2.2).mono ?_
  rintro e w9 ⟨rfl, ⟨i4, hr, hl⟩, hg⟩
  have T10a := Lib.hid (T8c.out.get hr hg)
  have HL4 := Lib.hid hl
  have T10 := Lib.hid (T10a.out.set 3 (.int .u32 (V4 : Nat)))
  have hf := T10a.out.bp.frozen 3
  have hc := T10a.out.bp.cell 3
  have hv := conv_u32 HOK.out.u
  clear hr hl hg T8 T8c
  go_upto_region 6 with fail
  clear hf hc hv T10a
  obtain ⟨w10, hw10⟩ : ∃ v, w9.setCell ⟨p, 3, none⟩ (.int .u32 (V4 : Nat)) = v := ⟨_, rfl⟩
  rw [hw10] at T10 ⊢
  replace hw10 := Lib.hid hw10
  obtain ⟨hd0, hp0⟩ : w.heap.size = d ∧ d < p := ⟨HK2.out.2.2.1, by have := T10.out.lp; omega⟩
  have c0 : w10.cell? ⟨p, 0, none⟩ = some (.int .u64 V1) := T10.out.bp.cell 0
  by_cases hV : V1 = 0
  · have hz : ((V1 : Int) == 0) = true := by simp; omega
    obtain rfl : R = (slZ, 100) := by rw [HT.out, if_neg]; rintro ⟨h, _⟩; exact h hV
    have HEND := Lib.hid (fun W => take_end T10.out hd0 slZ W)
    have HBL := Lib.hid T10.out.bel
    have hbd : Blk w10 d 25 #[.int .u64 0, .int .u8 0, .int .u32 0, .int .u32 0] := by have := T10.out.bd; rw [hd0] at this; exact this
    clear hV hd0 HG HT HOK HK2 HR HB HW4 T10 HL1 HL2 HL3 HL4 hw6 hw8 hw10
    go_quiet (fail)
    obtain ⟨W, hW⟩ : ∃ W, w10.drewN nq = W := ⟨_, rfl⟩
    have hend := HEND.out W (fun k _ => by rw [← hW]; rfl) (by rw [← hW]; exact below_drewN HBL.out nq)
    have hbW : Blk W d 25 #[.int .u64 0, .int .u8 0, .int .u32 0, .int .u32 0] := by rw [← hW]; exact hbd
    rw [hW]
    have HX := Lib.hid hend
    have hc0 := hbW.cell 0
    have hc1 := hbW.cell 1
    have hc2 := hbW.cell 2
    have hc3 := hbW.cell 3
    have hf0 := hbW.frozen 0
    have hf1 := hbW.frozen 1
    have hf2 := hbW.frozen 2
    have hf3 := hbW.frozen 3
    clear hend hbW hbd hW c0 HEND HBL
    go_wp2_with fail
    have hx := HX.out
    clear hc0 hc1 hc2 hc3 hf0 hf1 hf2 hf3 HX
    obtain ⟨fs, hfs⟩ := slot_desc
    (try simp only [Exit.inBlock, Exit.then])
    refine bodyPost_ret (v := .tuple #[slZ.v, .int .i64 100]) ?_ rfl ⟨rfl, hx.2⟩
    exact results_slot_tmp rfl _ _ d 25 _ (0, 0) _ rfl hx.1 hfs rfl slot_size4 _ rfl
  · have hz : ((V1 : Int) == 0) = false := by simp; omega
    have HLAY := Lib.hid (show ∀ W, Below w10.heap.size w10 W → Calls Try.prog 11 #[.agg #[.int .u64 V1, .int .u8 V2, .int .u32 V3, .int .u32 V4]] W fun e w' => ∃ A' c', e = .returned (.slice A' 128 c') ∧ w'.ownsRow W.heap.size 5 1 (.slice A' 128 c') 128 (bv (layS ⟨V1, V2, V3, V4⟩)) ∧ Below w10.heap.size w10 w' ∧ Below W.heap.size W w' from fun W hb => (rlay_any ⟨V1, V2, V3, V4⟩ HOK.out W).mono fun e w' ⟨A', c', h1, h2, h3⟩ => ⟨A', c', h1, h2, hb.trans (h3.mono hb.size), h3⟩)
    have hrd := HR.out.1.below T10.out.bel
    have SX := Lib.hid (show ∀ W, Below w10.heap.size w10 W → (W.cell? ⟨p, 0, none⟩ = some (.int .u64 V1) ∧ W.cell? ⟨p, 1, none⟩ = some (.int .u8 V2) ∧ W.cell? ⟨p, 2, none⟩ = some (.int .u32 V3) ∧ W.cell? ⟨p, 3, none⟩ = some (.int .u32 V4) ∧ (convert 27 9 (.slice A k c)).run Try.prog W = .ok (.string ⟨b.toArray⟩) W) from fun W hb => by
      have hbp := T10.out.bp.below hb T10.out.bp.lt
      refine ⟨hbp.cell 0, hbp.cell 1, hbp.cell 2, hbp.cell 3, ?_⟩
      have := run_str (P := Try.prog) 27 9 5 Try.underlying27 Try.underlying5 Try.underlying9 ((HR.out.1.below T10.out.bel).below (hb.mono T10.out.bel.size)) c
      rwa [HR.out.2.1] at this)
    have HEND := Lib.hid (fun s W => take_end T10.out hd0 s W)
    have HBL := Lib.hid T10.out.bel
    have hbd : Blk w10 d 25 #[.int .u64 0, .int .u8 0, .int .u32 0, .int .u32 0] := by have := T10.out.bd; rw [hd0] at this; exact this
    have HBD := Lib.hid hbd
    have hb0 : Below w10.heap.size w10 w10.drew := below_drewN (Below.refl w10.heap.size w10) 1
    clear hbd hd0 HG HOK HK2 HR HB HW4 T10 HL1 HL2 HL3 HL4 hw6 hw8 hw10 hrd c0
    first | (go_region_held (fun w' => w'.cell? ⟨p, 0, none⟩ = some (.int .u64 V1) ∧ w'.cell? ⟨p, 1, none⟩ = some (.int .u8 V2) ∧ w'.cell? ⟨p, 2, none⟩ = some (.int .u32 V3) ∧ w'.cell? ⟨p, 3, none⟩ = some (.int .u32 V4) ∧ (convert 27 9 (.slice A k c)).run Try.prog w' = .ok (.string ⟨b.toArray⟩) w') (exact SX.out _ (by assumption)) (first
      | (go_at_call 11; (with_reducible refine (HLAY.out _ (by assumption)).mono ?_); rintro e w11 ⟨A5, c5, rfl, ho5, hb5, hb6⟩; have s5 := str_own (layS_length _) ho5 _ (Below.refl _ _)))) | fail
    have hbW : Blk w11 d 25 #[.int .u64 0, .int .u8 0, .int .u32 0, .int .u32 0] := HBD.out.below hb5 HBD.out.lt
    have HEW := Lib.hid (fun s => HEND.out s w11 (fun k hk => hb5.block k hk) (HBL.out.trans (hb5.mono HBL.out.size)))
    obtain ⟨k0, k1, k2, k3, _⟩ := SX.out w11 hb5
    have hc0 := hbW.cell 0
    have hc1 := hbW.cell 1
    have hc2 := hbW.cell 2
    have hc3 := hbW.cell 3
    have hf0 := hbW.frozen 0
    have hf1 := hbW.frozen 1
    have hf2 := hbW.frozen 2
    have hf3 := hbW.frozen 3
    obtain ⟨fs, hfs⟩ := slot_desc
    have HFS := Lib.hid hfs
    clear hbW ho5 hb5 hb6 s5 hb0 HEND HBL HBD SX HLAY hfs
    by_cases he : layS ⟨V1, V2, V3, V4⟩ = b
    · have hq : (layS ⟨V1, V2, V3, V4⟩ == b) = true := by simpa using he
      obtain rfl : R = (⟨V1, V2, V3, V4⟩, 0) := by rw [HT.out, if_pos ⟨hV, he⟩]
      rw [hq]
      clear hq he HT hV
      go_wp2_with fail
      have hx := HEW.out ⟨V1, V2, V3, V4⟩
      clear hc0 hc1 hc2 hc3 hf0 hf1 hf2 hf3 k0 k1 k2 k3 HEW
      (try simp only [Exit.inBlock, Exit.then])
      refine bodyPost_ret (v := .tuple #[(⟨V1, V2, V3, V4⟩ : SlT).v, .int .i64 0]) ?_ rfl ⟨rfl, hx.2⟩
      exact results_slot_tmp rfl _ _ d 25 _ (0, 0) _ rfl hx.1 HFS.out rfl slot_size4 _ rfl
    · have hq : (layS ⟨V1, V2, V3, V4⟩ == b) = false := by simpa using he
      obtain rfl : R = (slZ, 100) := by rw [HT.out, if_neg]; rintro ⟨_, h⟩; exact he h
      rw [hq]
      clear hq he HT hV k0 k1 k2 k3
      go_wp2_with fail
      have hx := HEW.out slZ
      clear hc0 hc1 hc2 hc3 hf0 hf1 hf2 hf3 HEW
      (try simp only [Exit.inBlock, Exit.then])
      refine bodyPost_ret (v := .tuple #[slZ.v, .int .i64 100]) ?_ rfl ⟨rfl, hx.2⟩
      exact results_slot_tmp rfl _ _ d 25 _ (0, 0) _ rfl hx.1 HFS.out rfl slot_size4 _ rfl
end Go.Proofs.Ytmfbidohmkoeeaa
