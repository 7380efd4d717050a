/- FindSame's walk, told from what the packages do. No statement of the seat is proved here. -/
import Derived.Test.YtoofhaoaogoomaaZMAF
import Derived.Test.YtoofhaoaogoomaaZMAG
import Derived.Test.YtoofhaoaogoomaaZMAH
import Derived.Test.YtoofhaoaogoomaaZMAC
namespace Go.Proofs.Ytoofhaoaogoomaa
open Go.RowKit
set_option linter.unusedVariables false
set_option linter.unusedSimpArgs false

section
variable {σ τ : Type} {St : World → Addr → (Nat → Prop) → σ → Prop} {Tt : World → Addr → (Nat → Prop) → τ → Prop} {w0 w w' : World} {s t : Addr} {S : σ} {T : τ} {E : List (Nat × Obj)}
/-- A block that came up behind a world is a box, too. -/
theorem TwoB.fresh (hS : Firm St) (hT : Firm Tt) (h : TwoB St Tt w0 w s t S T E) (hb : Below w.heap.size w w') {g : Nat} {o : Obj} (hg : w'.heap[g]? = some o) (hl : w.heap.size ≤ g) : TwoB St Tt w0 w' s t S T ((g, o) :: E) := by
  obtain ⟨F, G, h1, h2, h3, h4, h5, h6, h7⟩ := h
  have hF := hS.lt h1
  have hG := hT.lt h2
  refine ⟨F, G, hS.keep h1 fun g hg => hb.block g (hF g hg), hT.keep h2 fun g hg => hb.block g (hG g hg), h3, h4, h5, h6.trans (hb.mono h6.size), fun p hp => ?_⟩
  rcases List.mem_cons.1 hp with rfl | hp
  · exact ⟨hg, fun hf => by have := hF _ hf; omega, fun hf => by have := hG _ hf; omega⟩
  · exact ⟨(hb.block p.1 (blk_in (h7 p hp).1)).trans (h7 p hp).1, (h7 p hp).2⟩
theorem TwoB.has {p : Nat × Obj} (h : TwoB St Tt w0 w s t S T E) (hp : p ∈ E) : w.heap[p.1]? = some p.2 := by
  obtain ⟨F, G, h1, h2, h3, h4, h5, h6, h7⟩ := h
  exact (h7 p hp).1
end
/-- Rows read on where their block is as it was. -/
theorem rdrw_blk {w w' : World} {B : Nat} {A : Option Addr} {ls : List RowT} (h : RdRw w B A ls) (hb : ∀ g, (∃ off, A = some ⟨g, off, none⟩) → w'.heap[g]? = w.heap[g]?) : RdRw w' B A ls := ⟨fun hn => by
  obtain ⟨g, off, e, hg, hc⟩ := h.rows hn
  exact ⟨g, off, e, hg, fun j hj i v hv => by
    have := hc j hj i v hv
    rw [← this]
    exact World.cell?_of_block (hb g ⟨off, e⟩)⟩, h.each⟩
section
variable {Ft : World → Addr → (Nat → Prop) → FS → Prop} {It : World → Addr → (Nat → Prop) → List RowT → Prop} {w0 w : World} {s t : Addr} {f : FS} {L : List RowT} {E : List (Nat × Obj)}
theorem xputR (K : FindersOk Ft) (I : IndexesOk It) (h : TwoB Ft It w0 w s t f L E) (hl : L.length ≤ 900) (k : KeyT) (hk : KeyT.Ok k) (q : Int × Int) (hq : PlOk q) :
    Calls Try.prog 13 #[.pointer (some t), kv k, pv q] w fun e w' => e = .returned (.bool (hasX L k)) ∧ TwoB Ft It w0 w' s t f (putX L k q) E := by
  obtain ⟨G, hG, h1, back⟩ := h.right K.firm I.firm (Below.refl _ _)
  exact (I.put t G L k q w h1 (by omega) hk hq).mono fun e w' ⟨he, ht⟩ => ⟨he, back ht⟩
theorem xdropR (K : FindersOk Ft) (I : IndexesOk It) (h : TwoB Ft It w0 w s t f L E) (hl : L.length ≤ 900) (k : KeyT) (hk : KeyT.Ok k) :
    Calls Try.prog 14 #[.pointer (some t), kv k] w fun e w' => e = .returned (.bool (hasX L k)) ∧ TwoB Ft It w0 w' s t f (dropX L k) E := by
  obtain ⟨G, hG, h1, back⟩ := h.right K.firm I.firm (Below.refl _ _)
  exact (I.drop t G L k w h1 (by omega) hk).mono fun e w' ⟨he, ht⟩ => ⟨he, back ht⟩
theorem xgetR (K : FindersOk Ft) (I : IndexesOk It) (h : TwoB Ft It w0 w s t f L E) (hl : L.length ≤ 900) (k : KeyT) (hk : KeyT.Ok k) :
    Calls Try.prog 16 #[.pointer (some t), kv k] w fun e w' => e = .returned (.tuple #[pv (getX L k), .bool (hasX L k)]) ∧ TwoB Ft It w0 w' s t f L E := by
  obtain ⟨F, G, h1, h2, h3⟩ := id h
  exact (I.get t G L k w h2 (by omega) hk).mono fun e w' ⟨he, hb⟩ => ⟨he, h.on K.firm I.firm hb⟩
theorem xallR (K : FindersOk Ft) (I : IndexesOk It) (h : TwoB Ft It w0 w s t f L E) (hl : L.length ≤ 900) : Calls Try.prog 17 #[.pointer (some t)] w fun e w' => ∃ A c, e = .returned (.slice A L.length c) ∧ RdRw w' w'.heap.size A L ∧ L.length ≤ c ∧ c ≤ maxLen ∧ (∀ ad, A = some ad → w.heap.size ≤ ad.block) ∧ Below w.heap.size w w' ∧ TwoB Ft It w0 w' s t f L E := by
  obtain ⟨F, G, h1, h2, h3⟩ := id h
  exact (I.all t G L w h2 (by omega)).mono fun e w' ⟨A, c, a1, a2, a3, a4, a5, hb⟩ => ⟨A, c, a1, a2, a3, a4, a5, hb, h.on K.firm I.firm hb⟩
theorem xgood (K : FindersOk Ft) (I : IndexesOk It) (h : TwoB Ft It w0 w s t f L E) : RowsOk L := by
  obtain ⟨F, G, h1, h2, h3⟩ := h
  exact I.ok h2
end
/-- Rows that a call laid stay while the two states turn. -/
theorem rows_kept {Ft : World → Addr → (Nat → Prop) → FS → Prop} {It : World → Addr → (Nat → Prop) → List RowT → Prop} (K : FindersOk Ft) (I : IndexesOk It) {w wr wA : World} {s t : Addr} {f : FS} {L : List RowT} {AA : Option Addr} (h : TwoB Ft It w wr s t f L []) (hb : Below wr.heap.size wr wA) (hr : RdRw wA wA.heap.size AA L) (hA : ∀ ad, AA = some ad → wr.heap.size ≤ ad.block) :
    ∃ E, TwoB Ft It w wA s t f L E ∧ ∀ W f', TwoB Ft It w W s t f' L E → RdRw W wA.heap.size AA L := by
  rcases Nat.eq_zero_or_pos L.length with h0 | h0
  · have := List.eq_nil_of_length_eq_zero h0
    subst this
    exact ⟨[], h.on K.firm I.firm hb, fun W f' _ => RdRw.nil _ _ _⟩
  · obtain ⟨g, off, e, hg, _⟩ := hr.at_ h0
    have hl := hA _ e
    obtain ⟨o, ho⟩ : ∃ o, wA.heap[g]? = some o := ⟨_, Array.getElem?_eq_getElem hg⟩
    refine ⟨[(g, o)], h.fresh K.firm I.firm hb ho hl, fun W f' hW => rdrw_blk hr fun g' ⟨off', e'⟩ => ?_⟩
    rw [e] at e'
    injection e' with e'
    injection e' with e1 _ _
    subst e1
    exact (hW.has List.mem_cons_self).trans ho.symm
theorem get_row {L : List RowT} (h : RowsOk L) {r : RowT} (hr : r ∈ L) : getX L r.1 = r.2 ∧ hasX L r.1 = true := ⟨get_mem h.rise hr, hasX_row.2 ⟨r, hr, rfl⟩⟩
section
variable {Ft : World → Addr → (Nat → Prop) → FS → Prop} {It : World → Addr → (Nat → Prop) → List RowT → Prop}
set_option maxRecDepth 100000 in
set_option maxHeartbeats 20000000 in
theorem same_walk (K : FindersOk Ft) (I : IndexesOk It) (qa qb qc : Int) (hqa : In64 qa) (hqb : In64 qb) (hqc : In64 qc) (A : Option Addr) (n c : Nat) (ls : List FAct) (hl : ls.length = n) (hc : n ≤ c) (hm : c ≤ maxLen) (w : World) (hr : RdF w w.heap.size A ls) :
    Calls Try.prog 3 #[.agg (hws qa qb qc).toArray, .slice A n c] w fun e w' => e = .returned (.bool true) ∧ Below w.heap.size w w' := by
  obtain ⟨fs, hfs⟩ := key_desc
  obtain ⟨fp, hfp⟩ := place_desc
  obtain ⟨fr, hfr⟩ := row_desc
  obtain ⟨fa, hfa⟩ := fact_desc
  obtain ⟨fh, hfh⟩ := how_desc
  have HF := Lib.hid (And.intro hfs (And.intro hfp (And.intro hfr (And.intro hfa hfh))))
  have HLS := Lib.hid (And.intro hl hr)
  obtain ⟨w1, hw1⟩ : ∃ w1, w.alloc (.cells (hws qa qb qc).toArray 23) = w1 := ⟨_, rfl⟩
  obtain ⟨hb, hhb⟩ : ∃ hb, w.heap.size = hb := ⟨_, rfl⟩
  have hb1 : Below w.heap.size w w1 := hw1 ▸ (Below.refl _ _).alloc (Nat.le_refl _) _
  have hk1 : Blk w1 hb 23 (hws qa qb qc).toArray := by rw [← hhb, ← hw1]; exact Blk.new w _ _
  have HW1 := Lib.hid (And.intro hw1 (And.intro hhb (And.intro hb1 hk1)))
  have HHS := Lib.hid (show (Try.prog.info? 23).map (·.size) = some (hws qa qb qc).length from how_size)
  have KS := Lib.hid (shown_any K w1)
  have KR := fun W => Lib.hid (right_any qa qb qc hqa hqb hqc W)
  clear hfs hfp hfr hfa hfh hl hr hw1 hhb hb1 hk1
  go_enter Try.func3, Try.ntmps3
  go_upto_region 1 with fail
  rw [HW1.out.1, HW1.out.2.1]
  go_wp2_with fail
  refine KS.out.mono ?_
  rintro e w2 ⟨rfl, hb2⟩
  have HR2 := Lib.hid (show w2.rangeAt hb 0 (hws qa qb qc) from range_of_blk (HW1.out.2.2.2.below hb2 HW1.out.2.2.2.lt))
  have HB2 := Lib.hid (HW1.out.2.2.1.trans (hb2.mono HW1.out.2.2.1.size))
  clear hb2 KS
  go_wp2_with (refine wpList_load_mid rfl 23 (.tmp 2) rfl hb 0 rfl (hws qa qb qc) (.struct fh) HR2.out HF.out.2.2.2.2 rfl HHS.out ?_)
  refine (KR w2).out.mono ?_
  rintro e w3 ⟨x, y, z, hx, hy, hz, rfl, hb3⟩
  have HB3 := Lib.hid (HB2.out.trans (hb3.mono HB2.out.size))
  have KN := Lib.hid (fun (W : World) => K.new x y z W (by omega) (by omega) (by omega))
  clear hx hy hz hb3 KR HR2
  go_wp2_with fail
  obtain ⟨w4, hw4⟩ : ∃ w4, w3.alloc (.cells #[.int .i64 x, .int .i64 y, .int .i64 z] 23) = w4 := ⟨_, rfl⟩
  have HB4 := Lib.hid (show Below w.heap.size w w4 from HB3.out.trans ((hw4 ▸ (Below.refl _ _).alloc (Nat.le_refl _) _ : Below w3.heap.size w3 w4).mono HB3.out.size))
  rw [hw4]
  clear hw4
  refine (KN.out w4).mono ?_
  rintro e w5 ⟨s, F, rfl, h5, hF5, hb5⟩
  have KX := Lib.hid (I.new w5)
  have H5 := Lib.hid (And.intro h5 (And.intro (show ∀ g, F g → w.heap.size ≤ g from fun g hg => Nat.le_trans HB4.out.size (hF5 g hg)) (HB4.out.trans (hb5.mono HB4.out.size))))
  clear h5 hF5 hb5 KN
  go_wp2_with fail
  refine KX.out.mono ?_
  rintro e w6 ⟨t, G, rfl, h6, hG6, hb6⟩
  have h7 : TwoB Ft It w w6 s t (newF x y z) [] [] := two_made K.firm I.firm H5.out.2.2 H5.out.1 H5.out.2.1 hb6 h6 hG6
  have H7 := Lib.hid h7
  have KF := Lib.hid (few_any A n c ls HLS.out.1 hc hm w6 ((HLS.out.2.below h7.bel).more h7.bel.size))
  clear h6 hG6 hb6 h7 KX H5
  go_wp2_with fail
  refine KF.out.mono ?_
  rintro e w7 ⟨m, hmn, hm150, rfl, rfl⟩
  have HM := Lib.hid (And.intro hmn hm150)
  clear KF
  go_wp2_with fail
  go_loopw [47] (fun i wr => ∃ (j : Nat) (f : FS), j ≤ m ∧ i = .int .i64 j ∧ Hid (TwoB Ft It w wr s t f f.L [] ∧ f.L.length ≤ j ∧ f.asked ≤ j ∧ f.loads ≤ j)) (fun i _ => m - (intOf i).toNat)
  case atStart => exact ⟨0, newF x y z, Nat.zero_le _, rfl, Lib.hid ⟨H7.out, Nat.le_refl _, Nat.le_refl _, Nat.le_refl _⟩⟩
  case round =>
    clear H7
    obtain ⟨j, f, hj, rfl, hst⟩ := hrel
    by_cases hlt : j < m
    · have hjx : j < ls.length := by rw [HLS.out.1]; omega
      obtain ⟨hst1, hst2, hst3, hst4⟩ := hst.out
      have hbel := hst1.bel
      obtain ⟨g, off, hA, hg, hra, hok2⟩ := (HLS.out.2.below hbel).at_ hjx
      clear hok2
      have hok := HLS.out.2.each _ (List.getElem_mem hjx)
      obtain ⟨a, hae⟩ : ∃ a, ls[j] = a := ⟨_, rfl⟩
      rw [hae] at hra hok
      subst hA
      obtain ⟨V, hV⟩ : ∃ V, fcs a = V := ⟨_, rfl⟩
      have hVl : V.length = 38 := by rw [← hV]; exact fcs_length hok.row
      rw [hV] at hra
      have HRA := Lib.hid hra
      have HKS := Lib.hid (show (Try.prog.info? 46).map (·.size) = some V.length from by rw [hVl]; exact fact_size)
      have HKS2 := Lib.hid (show (Try.prog.info? 46).map (·.size) = some V.toArray.size from by rw [List.size_toArray, hVl]; exact fact_size)
      have HOLD := Lib.hid (show fz.size = V.toArray.size from fz_size.trans (by rw [List.size_toArray, hVl]))
      have HBZ := Lib.hid (Blk.new wr 46 fz)
      have HONE := Lib.hid (show V.toArray.all (·.oneCell') = true from by rw [← hV]; exact fcs_one)
      obtain ⟨w8, hw8⟩ : ∃ w8, wr.alloc (.cells V.toArray 46) = w8 := ⟨_, rfl⟩
      obtain ⟨ab, hab⟩ : ∃ ab, wr.heap.size = ab := ⟨_, rfl⟩
      have h8 := hst1.box K.firm I.firm hab hw8
      have HW8 := Lib.hid (And.intro hw8 hab)
      obtain ⟨X, hX⟩ : ∃ X, kcs a.row.1 = X := ⟨_, rfl⟩
      obtain ⟨⟨p1, p2⟩, hp⟩ : ∃ p, a.row.2 = p := ⟨_, rfl⟩
      have HXS := Lib.hid (show (Try.prog.info? 38).map (·.size) = some X.length from by rw [← hX, kcs_length hok.row.key]; exact key_size)
      have HPS := Lib.hid (show (Try.prog.info? 40).map (·.size) = some ([Value.int .i64 p1, Value.int .i64 p2]).length from place_size)
      have HBV := Lib.hid (range_of_blk (h8.blk List.mem_cons_self))
      have HRW := Lib.hid (show ∀ W, Blk W ab 46 V.toArray → W.rangeAt ab 1 X ∧ W.rangeAt ab 34 [.int .i64 p1, .int .i64 p2] ∧ W.cell? ⟨ab, 0, none⟩ = some (.int .u8 a.kind) ∧ W.cell? ⟨ab, 36, none⟩ = some (.int .u64 a.draw) from fun W h => by
        have h0 := range_of_blk h
        rw [← hV] at h0
        have h1 := fcs_row h0
        rw [Nat.zero_add] at h1
        have h2 := range_key h1
        rw [hX] at h2
        have h3 := range_place hok.row h1
        rw [hp] at h3
        have h4 := fcs_draw hok.row h0
        rw [Nat.zero_add] at h4
        exact ⟨h2, h3, fcs_kind h0, h4⟩)
      have KD := does_any K I.firm h8 (by omega) a hok
      rw [hV] at KD
      replace KD := Lib.hid KD
      have HOK := Lib.hid (And.intro hok (And.intro hX hp))
      have HST := Lib.hid (And.intro hst2 (And.intro hst3 hst4))
      have HJ := Lib.hid (show j < 150 by have := HM.out.2; omega)
      have hi1 : (0 : Int) ≤ (j : Int) := by omega
      have hi2 : (j : Int) < (m : Int) := by omega
      have hi3 : (j : Int) < (n : Int) := by have := HM.out.1; omega
      have hkd := hok.kind
      clear hst hst1 hst2 hst3 hst4 hbel hra hok hae hjx hV hVl hw8 hab h8 hX hp hg
      go_wp2_with (first
        | refine wpList_load_mid rfl 46 (.tmp 49) rfl g (off + j * 38) rfl V (.struct fa) HRA.out HF.out.2.2.2.1 rfl HKS.out ?_
        | (refine wpList_store_row rfl 46 (.tmp 11) (.tmp 50) rfl wr.heap.size V.toArray rfl rfl 46 fz HBZ.out HKS2.out HOLD.out HONE.out ?_; rw [setRow_alloc, HW8.out.1, HW8.out.2])
        | refine wpList_load_mid rfl 46 (.tmp 11) rfl ab 0 rfl V (.struct fa) HBV.out HF.out.2.2.2.1 rfl HKS.out ?_)
      refine KD.out.mono ?_
      rintro e w9 ⟨rfl, h9⟩
      -- the ways
      have H9 := Lib.hid h9
      have R9 := Lib.hid (HRW.out w9 (h9.blk List.mem_cons_self))
      have c0 := R9.out.2.2.1
      have HFL := Lib.hid (show (doesF f a).L.length ≤ j + 1 ∧ (doesF f a).asked ≤ j ∧ (doesF f a).loads ≤ j ∧ j < 150 ∧ f.L.length ≤ j from by
        have e1 := does_len f a
        have e2 := does_cost f a
        have e3 := HST.out
        have e4 := HJ.out
        omega)
      have HDL := Lib.hid (does_L f a)
      obtain ⟨kd, hkk⟩ : ∃ kd, a.kind = kd := ⟨_, rfl⟩
      rw [hkk] at hkd c0 HDL
      obtain ⟨r, hrr⟩ : ∃ r, kd % 5 = r := ⟨_, rfl⟩
      have hri : (kd : Int) % 5 = (r : Int) := by omega
      have hr5 : r < 5 := by omega
      rw [hrr] at HDL
      clear h9 KD hkk hrr
      have hcase : r = 0 ∨ r = 1 ∨ (r ≠ 0 ∧ r ≠ 1) := by omega
      rcases hcase with rfl | rfl | ⟨hr0, hr1⟩
      · have hri : (kd : Int) % 5 = 0 := hri
        have KP := xputR K I H9.out (by have := HFL.out; omega) a.row.1 HOK.out.1.row.key a.row.2 ⟨HOK.out.1.row.shelf, HOK.out.1.row.slot⟩
        unfold kv pv at KP
        rw [HOK.out.2.1, HOK.out.2.2] at KP
        replace KP := Lib.hid KP
        go_wp2_with (first
          | refine wpList_load_mid rfl 38 (.tmp 61) rfl ab 1 rfl X (.struct fs) R9.out.1 HF.out.1 rfl HXS.out ?_
          | refine wpList_load_mid rfl 40 (.tmp 64) rfl ab 34 rfl [.int .i64 p1, .int .i64 p2] (.struct fp) R9.out.2.1 HF.out.2.1 rfl HPS.out ?_)
        refine KP.out.mono ?_
        rintro e w10 ⟨rfl, h10⟩
        have H10 := Lib.hid (show TwoB Ft It w w10 s t (doesF f a) (doesF f a).L [(ab, Obj.cells V.toArray 46 (0, 0))] from by rw [HDL.out, if_pos trivial, HOK.out.2.2]; exact h10)
        clear h10 KP R9 c0 H9
        have KFF := Lib.hid (show Calls Try.prog 15 #[.pointer (some s), .agg X.toArray, .int .u64 a.draw] w10 _ from by
          have := ffindL K I.firm H10.out (by have := HFL.out; omega) (by have := HFL.out; omega) (by have := HFL.out; omega) a.row.1 HOK.out.1.row.key a.draw HOK.out.1.draw
          unfold kv at this
          rw [HOK.out.2.1] at this
          exact this)
        have R10 := Lib.hid (HRW.out w10 (H10.out.blk List.mem_cons_self))
        have c36 := R10.out.2.2.2
        go_wp2_with (refine wpList_load_mid rfl 38 (.tmp 77) rfl ab 1 rfl X (.struct fs) R10.out.1 HF.out.1 rfl HXS.out ?_)
        refine KFF.out.mono ?_
        rintro e w11 ⟨rfl, h11⟩
        obtain ⟨⟨g1, g2⟩, hg⟩ : ∃ p, getX (doesF f a).L a.row.1 = p := ⟨_, rfl⟩
        obtain ⟨hs, hhs⟩ : ∃ b, hasX (doesF f a).L a.row.1 = b := ⟨_, rfl⟩
        rw [hg, hhs]
        unfold pv
        obtain ⟨w12, hw12⟩ : ∃ w12, w11.alloc (.cells #[.int .i64 g1, .int .i64 g2] 40) = w12 := ⟨_, rfl⟩
        obtain ⟨pb, hpb⟩ : ∃ pb, w11.heap.size = pb := ⟨_, rfl⟩
        have h12 := h11.box K.firm I.firm hpb hw12
        have KG := Lib.hid (show Calls Try.prog 16 #[.pointer (some t), .agg X.toArray] w12 _ from by
          have := xgetR K I h12 (by have := HFL.out; omega) a.row.1 HOK.out.1.row.key
          unfold kv at this
          rw [HOK.out.2.1, hg, hhs] at this
          exact this)
        have R12 := Lib.hid (HRW.out w12 (h12.blk (List.mem_cons_of_mem _ List.mem_cons_self)))
        have HG := Lib.hid (And.intro hg hhs)
        have HW12 := Lib.hid (And.intro hw12 hpb)
        have HPI := Lib.hid (show In64 g1 ∧ In64 g2 from by
          have := getX_ok (xgood K I h12) a.row.1
          rw [hg] at this
          exact this)
        clear h11 h12 hw12 hpb hg hhs KFF R10 c36
        go_upto_region 17 with fail
        rw [HW12.out.1, HW12.out.2]
        go_wp2_with (refine wpList_load_mid rfl 38 (.tmp 87) rfl ab 1 rfl X (.struct fs) R12.out.1 HF.out.1 rfl HXS.out ?_)
        refine KG.out.mono ?_
        rintro e w13 ⟨rfl, h13⟩
        unfold pv
        obtain ⟨w14, hw14⟩ : ∃ w14, w13.alloc (.cells #[.int .i64 g1, .int .i64 g2] 40) = w14 := ⟨_, rfl⟩
        obtain ⟨qb, hqb⟩ : ∃ qb, w13.heap.size = qb := ⟨_, rfl⟩
        have h14 := h13.box K.firm I.firm hqb hw14
        have HPB := Lib.hid (show w14.rangeAt pb 0 [.int .i64 g1, .int .i64 g2] ∧ w14.rangeAt qb 0 [.int .i64 g1, .int .i64 g2] from ⟨range_of_blk (cs := [.int .i64 g1, .int .i64 g2]) (h14.blk (List.mem_cons_of_mem _ List.mem_cons_self)), range_of_blk (cs := [.int .i64 g1, .int .i64 g2]) (h14.blk List.mem_cons_self)⟩)
        have HGS := Lib.hid (show (Try.prog.info? 40).map (·.size) = some ([Value.int .i64 g1, Value.int .i64 g2]).length from place_size)
        have HW14 := Lib.hid (And.intro hw14 hqb)
        have H14 := Lib.hid h14.drop.drop.drop
        clear h13 h14 hw14 hqb KG R12
        go_upto_region 18 with fail
        rw [HW14.out.1, HW14.out.2]
        have QEP : ∀ W : World, (Op.equalIn 10000 40 (.agg #[.int .i64 g1, .int .i64 g2]) (.agg #[.int .i64 g1, .int .i64 g2])).run Try.prog W = .ok true W := fun W => by
          have := place_eq (a := (g1, g2)) (b := (g1, g2)) HPI.out HPI.out W
          rw [decide_eq_true rfl] at this
          exact this
        have QGP : Try.prog.eqGuardType Try.prog.depth 40 = false := place_guard
        have HNX := Lib.hid (show TwoB Ft It w w14 s t (nextF (doesF f a) a.row.1 a.draw) (nextF (doesF f a) a.row.1 a.draw).L [] ∧ (nextF (doesF f a) a.row.1 a.draw).L.length ≤ j + 1 ∧ (nextF (doesF f a) a.row.1 a.draw).asked ≤ j + 1 ∧ (nextF (doesF f a) a.row.1 a.draw).loads ≤ j + 1 from by
          have n1 := next_cost (doesF f a) a.row.1 a.draw
          have n2 := HFL.out
          rw [next_L]
          exact ⟨H14.out, by omega, by omega, by omega⟩)
        cases hs with
        | true =>
          go_wp2_with (first | refine wpList_load_mid rfl 40 (.tmp 12) rfl pb 0 rfl [.int .i64 g1, .int .i64 g2] (.struct fp) HPB.out.1 HF.out.2.1 rfl HGS.out ?_ | refine wpList_load_mid rfl 40 (.tmp 14) rfl qb 0 rfl [.int .i64 g1, .int .i64 g2] (.struct fp) HPB.out.2 HF.out.2.1 rfl HGS.out ?_)
          go_roundw
          case rel => exact ⟨j + 1, _, by omega, by go_num, HNX⟩
          case measure => simp [intOf]; omega
        | false =>
          go_wp2_with (first | refine wpList_load_mid rfl 40 (.tmp 12) rfl pb 0 rfl [.int .i64 g1, .int .i64 g2] (.struct fp) HPB.out.1 HF.out.2.1 rfl HGS.out ?_ | refine wpList_load_mid rfl 40 (.tmp 14) rfl qb 0 rfl [.int .i64 g1, .int .i64 g2] (.struct fp) HPB.out.2 HF.out.2.1 rfl HGS.out ?_)
          go_roundw
          case rel => exact ⟨j + 1, _, by omega, by go_num, HNX⟩
          case measure => simp [intOf]; omega
      · have hri : (kd : Int) % 5 = 1 := hri
        have KP := xdropR K I H9.out (by have := HFL.out; omega) a.row.1 HOK.out.1.row.key
        unfold kv at KP
        rw [HOK.out.2.1] at KP
        replace KP := Lib.hid KP
        go_wp2_with (refine wpList_load_mid rfl 38 (.tmp 71) rfl ab 1 rfl X (.struct fs) R9.out.1 HF.out.1 rfl HXS.out ?_)
        refine KP.out.mono ?_
        rintro e w10 ⟨rfl, h10⟩
        have H10 := Lib.hid (show TwoB Ft It w w10 s t (doesF f a) (doesF f a).L [(ab, Obj.cells V.toArray 46 (0, 0))] from by rw [HDL.out, if_neg (by omega), if_pos trivial]; exact h10)
        clear h10 KP R9 c0 H9
        have KFF := Lib.hid (show Calls Try.prog 15 #[.pointer (some s), .agg X.toArray, .int .u64 a.draw] w10 _ from by
          have := ffindL K I.firm H10.out (by have := HFL.out; omega) (by have := HFL.out; omega) (by have := HFL.out; omega) a.row.1 HOK.out.1.row.key a.draw HOK.out.1.draw
          unfold kv at this
          rw [HOK.out.2.1] at this
          exact this)
        have R10 := Lib.hid (HRW.out w10 (H10.out.blk List.mem_cons_self))
        have c36 := R10.out.2.2.2
        go_wp2_with (refine wpList_load_mid rfl 38 (.tmp 77) rfl ab 1 rfl X (.struct fs) R10.out.1 HF.out.1 rfl HXS.out ?_)
        refine KFF.out.mono ?_
        rintro e w11 ⟨rfl, h11⟩
        obtain ⟨⟨g1, g2⟩, hg⟩ : ∃ p, getX (doesF f a).L a.row.1 = p := ⟨_, rfl⟩
        obtain ⟨hs, hhs⟩ : ∃ b, hasX (doesF f a).L a.row.1 = b := ⟨_, rfl⟩
        rw [hg, hhs]
        unfold pv
        obtain ⟨w12, hw12⟩ : ∃ w12, w11.alloc (.cells #[.int .i64 g1, .int .i64 g2] 40) = w12 := ⟨_, rfl⟩
        obtain ⟨pb, hpb⟩ : ∃ pb, w11.heap.size = pb := ⟨_, rfl⟩
        have h12 := h11.box K.firm I.firm hpb hw12
        have KG := Lib.hid (show Calls Try.prog 16 #[.pointer (some t), .agg X.toArray] w12 _ from by
          have := xgetR K I h12 (by have := HFL.out; omega) a.row.1 HOK.out.1.row.key
          unfold kv at this
          rw [HOK.out.2.1, hg, hhs] at this
          exact this)
        have R12 := Lib.hid (HRW.out w12 (h12.blk (List.mem_cons_of_mem _ List.mem_cons_self)))
        have HG := Lib.hid (And.intro hg hhs)
        have HW12 := Lib.hid (And.intro hw12 hpb)
        have HPI := Lib.hid (show In64 g1 ∧ In64 g2 from by
          have := getX_ok (xgood K I h12) a.row.1
          rw [hg] at this
          exact this)
        clear h11 h12 hw12 hpb hg hhs KFF R10 c36
        go_upto_region 17 with fail
        rw [HW12.out.1, HW12.out.2]
        go_wp2_with (refine wpList_load_mid rfl 38 (.tmp 87) rfl ab 1 rfl X (.struct fs) R12.out.1 HF.out.1 rfl HXS.out ?_)
        refine KG.out.mono ?_
        rintro e w13 ⟨rfl, h13⟩
        unfold pv
        obtain ⟨w14, hw14⟩ : ∃ w14, w13.alloc (.cells #[.int .i64 g1, .int .i64 g2] 40) = w14 := ⟨_, rfl⟩
        obtain ⟨qb, hqb⟩ : ∃ qb, w13.heap.size = qb := ⟨_, rfl⟩
        have h14 := h13.box K.firm I.firm hqb hw14
        have HPB := Lib.hid (show w14.rangeAt pb 0 [.int .i64 g1, .int .i64 g2] ∧ w14.rangeAt qb 0 [.int .i64 g1, .int .i64 g2] from ⟨range_of_blk (cs := [.int .i64 g1, .int .i64 g2]) (h14.blk (List.mem_cons_of_mem _ List.mem_cons_self)), range_of_blk (cs := [.int .i64 g1, .int .i64 g2]) (h14.blk List.mem_cons_self)⟩)
        have HGS := Lib.hid (show (Try.prog.info? 40).map (·.size) = some ([Value.int .i64 g1, Value.int .i64 g2]).length from place_size)
        have HW14 := Lib.hid (And.intro hw14 hqb)
        have H14 := Lib.hid h14.drop.drop.drop
        clear h13 h14 hw14 hqb KG R12
        go_upto_region 18 with fail
        rw [HW14.out.1, HW14.out.2]
        have QEP : ∀ W : World, (Op.equalIn 10000 40 (.agg #[.int .i64 g1, .int .i64 g2]) (.agg #[.int .i64 g1, .int .i64 g2])).run Try.prog W = .ok true W := fun W => by
          have := place_eq (a := (g1, g2)) (b := (g1, g2)) HPI.out HPI.out W
          rw [decide_eq_true rfl] at this
          exact this
        have QGP : Try.prog.eqGuardType Try.prog.depth 40 = false := place_guard
        have HNX := Lib.hid (show TwoB Ft It w w14 s t (nextF (doesF f a) a.row.1 a.draw) (nextF (doesF f a) a.row.1 a.draw).L [] ∧ (nextF (doesF f a) a.row.1 a.draw).L.length ≤ j + 1 ∧ (nextF (doesF f a) a.row.1 a.draw).asked ≤ j + 1 ∧ (nextF (doesF f a) a.row.1 a.draw).loads ≤ j + 1 from by
          have n1 := next_cost (doesF f a) a.row.1 a.draw
          have n2 := HFL.out
          rw [next_L]
          exact ⟨H14.out, by omega, by omega, by omega⟩)
        cases hs with
        | true =>
          go_wp2_with (first | refine wpList_load_mid rfl 40 (.tmp 12) rfl pb 0 rfl [.int .i64 g1, .int .i64 g2] (.struct fp) HPB.out.1 HF.out.2.1 rfl HGS.out ?_ | refine wpList_load_mid rfl 40 (.tmp 14) rfl qb 0 rfl [.int .i64 g1, .int .i64 g2] (.struct fp) HPB.out.2 HF.out.2.1 rfl HGS.out ?_)
          go_roundw
          case rel => exact ⟨j + 1, _, by omega, by go_num, HNX⟩
          case measure => simp [intOf]; omega
        | false =>
          go_wp2_with (first | refine wpList_load_mid rfl 40 (.tmp 12) rfl pb 0 rfl [.int .i64 g1, .int .i64 g2] (.struct fp) HPB.out.1 HF.out.2.1 rfl HGS.out ?_ | refine wpList_load_mid rfl 40 (.tmp 14) rfl qb 0 rfl [.int .i64 g1, .int .i64 g2] (.struct fp) HPB.out.2 HF.out.2.1 rfl HGS.out ?_)
          go_roundw
          case rel => exact ⟨j + 1, _, by omega, by go_num, HNX⟩
          case measure => simp [intOf]; omega
      · have hri0 : ¬ (kd : Int) % 5 = 0 := by omega
        have hri1 : ¬ (kd : Int) % 5 = 1 := by omega
        go_upto_region 16 with fail
        obtain ⟨w10, hw10⟩ : ∃ w10, w9 = w10 := ⟨_, rfl⟩
        rw [hw10]
        have H10 := Lib.hid (show TwoB Ft It w w10 s t (doesF f a) (doesF f a).L [(ab, Obj.cells V.toArray 46 (0, 0))] from by rw [HDL.out, if_neg hr0, if_neg hr1, ← hw10]; exact H9.out)
        clear R9 c0 H9 hw10
        have KFF := Lib.hid (show Calls Try.prog 15 #[.pointer (some s), .agg X.toArray, .int .u64 a.draw] w10 _ from by
          have := ffindL K I.firm H10.out (by have := HFL.out; omega) (by have := HFL.out; omega) (by have := HFL.out; omega) a.row.1 HOK.out.1.row.key a.draw HOK.out.1.draw
          unfold kv at this
          rw [HOK.out.2.1] at this
          exact this)
        have R10 := Lib.hid (HRW.out w10 (H10.out.blk List.mem_cons_self))
        have c36 := R10.out.2.2.2
        go_wp2_with (refine wpList_load_mid rfl 38 (.tmp 77) rfl ab 1 rfl X (.struct fs) R10.out.1 HF.out.1 rfl HXS.out ?_)
        refine KFF.out.mono ?_
        rintro e w11 ⟨rfl, h11⟩
        obtain ⟨⟨g1, g2⟩, hg⟩ : ∃ p, getX (doesF f a).L a.row.1 = p := ⟨_, rfl⟩
        obtain ⟨hs, hhs⟩ : ∃ b, hasX (doesF f a).L a.row.1 = b := ⟨_, rfl⟩
        rw [hg, hhs]
        unfold pv
        obtain ⟨w12, hw12⟩ : ∃ w12, w11.alloc (.cells #[.int .i64 g1, .int .i64 g2] 40) = w12 := ⟨_, rfl⟩
        obtain ⟨pb, hpb⟩ : ∃ pb, w11.heap.size = pb := ⟨_, rfl⟩
        have h12 := h11.box K.firm I.firm hpb hw12
        have KG := Lib.hid (show Calls Try.prog 16 #[.pointer (some t), .agg X.toArray] w12 _ from by
          have := xgetR K I h12 (by have := HFL.out; omega) a.row.1 HOK.out.1.row.key
          unfold kv at this
          rw [HOK.out.2.1, hg, hhs] at this
          exact this)
        have R12 := Lib.hid (HRW.out w12 (h12.blk (List.mem_cons_of_mem _ List.mem_cons_self)))
        have HG := Lib.hid (And.intro hg hhs)
        have HW12 := Lib.hid (And.intro hw12 hpb)
        have HPI := Lib.hid (show In64 g1 ∧ In64 g2 from by
          have := getX_ok (xgood K I h12) a.row.1
          rw [hg] at this
          exact this)
        clear h11 h12 hw12 hpb hg hhs KFF R10 c36
        go_upto_region 17 with fail
        rw [HW12.out.1, HW12.out.2]
        go_wp2_with (refine wpList_load_mid rfl 38 (.tmp 87) rfl ab 1 rfl X (.struct fs) R12.out.1 HF.out.1 rfl HXS.out ?_)
        refine KG.out.mono ?_
        rintro e w13 ⟨rfl, h13⟩
        unfold pv
        obtain ⟨w14, hw14⟩ : ∃ w14, w13.alloc (.cells #[.int .i64 g1, .int .i64 g2] 40) = w14 := ⟨_, rfl⟩
        obtain ⟨qb, hqb⟩ : ∃ qb, w13.heap.size = qb := ⟨_, rfl⟩
        have h14 := h13.box K.firm I.firm hqb hw14
        have HPB := Lib.hid (show w14.rangeAt pb 0 [.int .i64 g1, .int .i64 g2] ∧ w14.rangeAt qb 0 [.int .i64 g1, .int .i64 g2] from ⟨range_of_blk (cs := [.int .i64 g1, .int .i64 g2]) (h14.blk (List.mem_cons_of_mem _ List.mem_cons_self)), range_of_blk (cs := [.int .i64 g1, .int .i64 g2]) (h14.blk List.mem_cons_self)⟩)
        have HGS := Lib.hid (show (Try.prog.info? 40).map (·.size) = some ([Value.int .i64 g1, Value.int .i64 g2]).length from place_size)
        have HW14 := Lib.hid (And.intro hw14 hqb)
        have H14 := Lib.hid h14.drop.drop.drop
        clear h13 h14 hw14 hqb KG R12
        go_upto_region 18 with fail
        rw [HW14.out.1, HW14.out.2]
        have QEP : ∀ W : World, (Op.equalIn 10000 40 (.agg #[.int .i64 g1, .int .i64 g2]) (.agg #[.int .i64 g1, .int .i64 g2])).run Try.prog W = .ok true W := fun W => by
          have := place_eq (a := (g1, g2)) (b := (g1, g2)) HPI.out HPI.out W
          rw [decide_eq_true rfl] at this
          exact this
        have QGP : Try.prog.eqGuardType Try.prog.depth 40 = false := place_guard
        have HNX := Lib.hid (show TwoB Ft It w w14 s t (nextF (doesF f a) a.row.1 a.draw) (nextF (doesF f a) a.row.1 a.draw).L [] ∧ (nextF (doesF f a) a.row.1 a.draw).L.length ≤ j + 1 ∧ (nextF (doesF f a) a.row.1 a.draw).asked ≤ j + 1 ∧ (nextF (doesF f a) a.row.1 a.draw).loads ≤ j + 1 from by
          have n1 := next_cost (doesF f a) a.row.1 a.draw
          have n2 := HFL.out
          rw [next_L]
          exact ⟨H14.out, by omega, by omega, by omega⟩)
        cases hs with
        | true =>
          go_wp2_with (first | refine wpList_load_mid rfl 40 (.tmp 12) rfl pb 0 rfl [.int .i64 g1, .int .i64 g2] (.struct fp) HPB.out.1 HF.out.2.1 rfl HGS.out ?_ | refine wpList_load_mid rfl 40 (.tmp 14) rfl qb 0 rfl [.int .i64 g1, .int .i64 g2] (.struct fp) HPB.out.2 HF.out.2.1 rfl HGS.out ?_)
          go_roundw
          case rel => exact ⟨j + 1, _, by omega, by go_num, HNX⟩
          case measure => simp [intOf]; omega
        | false =>
          go_wp2_with (first | refine wpList_load_mid rfl 40 (.tmp 12) rfl pb 0 rfl [.int .i64 g1, .int .i64 g2] (.struct fp) HPB.out.1 HF.out.2.1 rfl HGS.out ?_ | refine wpList_load_mid rfl 40 (.tmp 14) rfl qb 0 rfl [.int .i64 g1, .int .i64 g2] (.struct fp) HPB.out.2 HF.out.2.1 rfl HGS.out ?_)
          go_roundw
          case rel => exact ⟨j + 1, _, by omega, by go_num, HNX⟩
          case measure => simp [intOf]; omega
    · obtain rfl : j = m := by omega
      obtain ⟨hst1, hst2, hst3, hst4⟩ := hst.out
      obtain ⟨L, hL⟩ : ∃ L, f.L = L := ⟨_, rfl⟩
      rw [hL] at hst1 hst2
      have hLok := xgood K I hst1
      obtain ⟨N, hN⟩ : ∃ N, L.length = N := ⟨_, rfl⟩
      have KA := xallR K I hst1 (by have := HM.out.2; omega)
      rw [hN] at KA hst2
      replace KA := Lib.hid KA
      have HN := Lib.hid hN
      have HLK := Lib.hid hLok
      have HL0 := Lib.hid hL
      have HST := Lib.hid (And.intro hst1 (And.intro hst3 hst4))
      have hN2 : N ≤ 150 := by have := HM.out.2; omega
      have HNB := Lib.hid hN2
      clear hst hst1 hst2 hst3 hst4 hL hN hLok
      go_wp2_with fail
      refine KA.out.mono ?_
      rintro e wA ⟨AA, cA, rfl, hrA, hcA, hmA, hAA, hbA, hA1⟩
      obtain ⟨E, hE1, hE2⟩ := rows_kept K I HST.out.1 hbA hrA hAA
      have HE := Lib.hid hE2
      have HE1 := Lib.hid hE1
      have HCA := Lib.hid hcA
      have HMA := Lib.hid hmA
      clear hrA hcA hmA hAA hbA hA1 KA hE1 hE2
      go_wp2_with fail
      go_loopw [104] (fun i wr => ∃ (q : Nat) (f2 : FS), q ≤ N ∧ i = .int .i64 q ∧ Hid (TwoB Ft It w wr s t f2 L E ∧ f2.L = L ∧ f2.asked ≤ 150 + q ∧ f2.loads ≤ 150 + q)) (fun i _ => N - (intOf i).toNat)
      case atStart => exact ⟨0, f, Nat.zero_le _, rfl, Lib.hid ⟨HE1.out, HL0.out, by have := HST.out.2.1; have := HM.out.2; omega, by have := HST.out.2.2; have := HM.out.2; omega⟩⟩
      case round =>
        clear HE1 HST
        obtain ⟨q, f2, hq, rfl, hst⟩ := hrel
        by_cases hltq : q < N
        · have hqx : q < L.length := by rw [HN.out]; exact hltq
          obtain ⟨hst1, hst2, hst3, hst4⟩ := hst.out
          obtain ⟨gr, offr, hA, hgr, hra, hok⟩ := (HE.out wr f2 hst1).at_ hqx
          obtain ⟨r, hre⟩ : ∃ r, L[q] = r := ⟨_, rfl⟩
          have hrm : r ∈ L := by rw [← hre]; exact List.getElem_mem hqx
          rw [hre] at hra hok
          subst hA
          obtain ⟨Z, hZ⟩ : ∃ Z, rcs r = Z := ⟨_, rfl⟩
          have hZl : Z.length = 35 := by rw [← hZ]; exact rcs_length hok
          rw [hZ] at hra
          have HRA := Lib.hid hra
          have HKS := Lib.hid (show (Try.prog.info? 42).map (·.size) = some Z.length from by rw [hZl]; exact row_size)
          have HKS2 := Lib.hid (show (Try.prog.info? 42).map (·.size) = some Z.toArray.size from by rw [List.size_toArray, hZl]; exact row_size)
          have HOLD := Lib.hid (show rz.size = Z.toArray.size from rz_size.trans (by rw [List.size_toArray, hZl]))
          have HBZ := Lib.hid (Blk.new wr 42 rz)
          have HONE := Lib.hid (show Z.toArray.all (·.oneCell') = true from by rw [← hZ]; exact rcs_one)
          obtain ⟨w8, hw8⟩ : ∃ w8, wr.alloc (.cells Z.toArray 42) = w8 := ⟨_, rfl⟩
          obtain ⟨ab, hab⟩ : ∃ ab, wr.heap.size = ab := ⟨_, rfl⟩
          have h8 := hst1.box K.firm I.firm hab hw8
          have HW8 := Lib.hid (And.intro hw8 hab)
          obtain ⟨X, hX⟩ : ∃ X, kcs r.1 = X := ⟨_, rfl⟩
          obtain ⟨⟨p1, p2⟩, hp⟩ : ∃ p, r.2 = p := ⟨_, rfl⟩
          have HXS := Lib.hid (show (Try.prog.info? 38).map (·.size) = some X.length from by rw [← hX, kcs_length hok.key]; exact key_size)
          have HPS := Lib.hid (show (Try.prog.info? 40).map (·.size) = some ([Value.int .i64 p1, Value.int .i64 p2]).length from place_size)
          have HRW := Lib.hid (show ∀ W, Blk W ab 42 Z.toArray → W.rangeAt ab 0 X ∧ W.rangeAt ab 33 [.int .i64 p1, .int .i64 p2] from fun W h => by
            have h0 := range_of_blk h
            rw [← hZ] at h0
            have h2 := range_key h0
            rw [hX] at h2
            have h3 := range_place hok h0
            rw [hp, Nat.zero_add] at h3
            exact ⟨h2, h3⟩)
          obtain ⟨gm1, gm2⟩ := get_row HLK.out hrm
          have KFF := Lib.hid (show Calls Try.prog 15 #[.pointer (some s), .agg X.toArray, .int .u64 7] w8 _ from by
            have := ffindL K I.firm h8 (by rw [hst2, HN.out]; have := HNB.out; omega) (by have := HNB.out; omega) (by have := HNB.out; omega) r.1 hok.key 7 (by omega)
            unfold kv at this
            rw [hX, hst2, gm1, gm2, hp] at this
            exact this)
          have R8 := Lib.hid (HRW.out w8 (h8.blk List.mem_cons_self))
          have HPI := Lib.hid (show In64 p1 ∧ In64 p2 from by
            have h1 := hok.shelf
            have h2 := hok.slot
            rw [hp] at h1 h2
            exact ⟨h1, h2⟩)
          have HS2 := Lib.hid (And.intro hst2 (And.intro hst3 hst4))
          have hi1 : (0 : Int) ≤ (q : Int) := by omega
          have hi2 : (q : Int) < (N : Int) := by omega
          clear hst hst1 hst2 hst3 hst4 hra hok hre hrm hqx hZ hZl hw8 hab h8 hX hp hgr gm1 gm2
          go_wp2_with (first
            | refine wpList_load_mid rfl 42 (.tmp 106) rfl gr (offr + q * 35) rfl Z (.struct fr) HRA.out HF.out.2.2.1 rfl HKS.out ?_
            | (refine wpList_store_row rfl 42 (.tmp 17) (.tmp 107) rfl wr.heap.size Z.toArray rfl rfl 42 rz HBZ.out HKS2.out HOLD.out HONE.out ?_; rw [setRow_alloc, HW8.out.1, HW8.out.2])
            | refine wpList_load_mid rfl 38 (.tmp 110) rfl ab 0 rfl X (.struct fs) R8.out.1 HF.out.1 rfl HXS.out ?_)
          refine KFF.out.mono ?_
          rintro e w9 ⟨rfl, h9⟩
          unfold pv
          obtain ⟨w10, hw10⟩ : ∃ w10, w9.alloc (.cells #[.int .i64 p1, .int .i64 p2] 40) = w10 := ⟨_, rfl⟩
          obtain ⟨pb, hpb⟩ : ∃ pb, w9.heap.size = pb := ⟨_, rfl⟩
          have h10 := h9.box K.firm I.firm hpb hw10
          have HPB := Lib.hid (show w10.rangeAt pb 0 [.int .i64 p1, .int .i64 p2] from range_of_blk (cs := [.int .i64 p1, .int .i64 p2]) (h10.blk List.mem_cons_self))
          have R10 := Lib.hid (HRW.out w10 (h10.blk (List.mem_cons_of_mem _ List.mem_cons_self)))
          have HNX := Lib.hid (show TwoB Ft It w w10 s t (nextF f2 r.1 7) L E ∧ (nextF f2 r.1 7).L = L ∧ (nextF f2 r.1 7).asked ≤ 150 + (q + 1) ∧ (nextF f2 r.1 7).loads ≤ 150 + (q + 1) from by
            have n1 := next_cost f2 r.1 7
            have n2 := HS2.out
            exact ⟨h10.drop.drop, (next_L _ _ _).trans n2.1, by omega, by omega⟩)
          have HW10 := Lib.hid (And.intro hw10 hpb)
          clear h9 h10 hw10 hpb KFF R8
          go_upto_region 25 with fail
          rw [HW10.out.1, HW10.out.2]
          have QEP : ∀ W : World, (Op.equalIn 10000 40 (.agg #[.int .i64 p1, .int .i64 p2]) (.agg #[.int .i64 p1, .int .i64 p2])).run Try.prog W = .ok true W := fun W => by
            have := place_eq (a := (p1, p2)) (b := (p1, p2)) HPI.out HPI.out W
            rw [decide_eq_true rfl] at this
            exact this
          have QGP : Try.prog.eqGuardType Try.prog.depth 40 = false := place_guard
          go_wp2_with (first
            | refine wpList_load_mid rfl 40 (.tmp 18) rfl pb 0 rfl [.int .i64 p1, .int .i64 p2] (.struct fp) HPB.out HF.out.2.1 rfl HPS.out ?_
            | refine wpList_load_mid rfl 40 (.tmp 119) rfl ab 33 rfl [.int .i64 p1, .int .i64 p2] (.struct fp) R10.out.2 HF.out.2.1 rfl HPS.out ?_
            | refine wpList_mid_want (by rfl) 40 (.tmp 18) rfl pb 0 rfl [.int .i64 p1, .int .i64 p2] (.struct fp) HPB.out HF.out.2.1 rfl HPS.out ?_
            | refine wpList_mid_want (by rfl) 40 (.tmp 119) rfl ab 33 rfl [.int .i64 p1, .int .i64 p2] (.struct fp) R10.out.2 HF.out.2.1 rfl HPS.out ?_)
          go_roundw
          case rel => exact ⟨q + 1, _, by omega, by go_num, HNX⟩
          case measure => simp [intOf]; omega
        · obtain rfl : q = N := by omega
          obtain ⟨hst1, hst2, hst3, hst4⟩ := hst.out
          have KA := fallL K I.firm hst1 (by rw [hst2, HN.out]; have := HNB.out; omega)
          rw [hst2, HN.out] at KA
          replace KA := Lib.hid KA
          clear hst hst1 hst2 hst3 hst4
          go_wp2_with fail
          refine KA.out.mono ?_
          rintro e wB ⟨AB, cB, rfl, hrB, hcB, hmB, hAB, hbB, hB1⟩
          have KX := xallR K I hB1 (by rw [HN.out]; have := HNB.out; omega)
          rw [HN.out] at KX
          replace KX := Lib.hid KX
          have HRB := Lib.hid hrB
          clear hrB hcB hmB hAB hbB hB1 KA
          go_wp2_with fail
          refine KX.out.mono ?_
          rintro e wC ⟨AC, cC, rfl, hrC, hcC, hmC, hAC, hbC, hC1⟩
          have KS2 := rsamerows_any AB L q cB AC L q cC HN.out HN.out (by have := HNB.out; omega) wC (HRB.out.on hbC) hrC
          rw [decide_eq_true rfl] at KS2
          replace KS2 := Lib.hid KS2
          have HBC := Lib.hid hC1.bel
          clear hrC hcC hmC hAC hbC hC1 KX
          go_wp2_with fail
          refine KS2.out.mono ?_
          rintro e wD ⟨rfl, hbD⟩
          have HBD := Lib.hid (HBC.out.trans (hbD.mono HBC.out.size))
          clear hbD
          go_wp2_with fail
          go_ret
          exact ⟨rfl, HBD.out⟩
end
end Go.Proofs.Ytoofhaoaogoomaa
