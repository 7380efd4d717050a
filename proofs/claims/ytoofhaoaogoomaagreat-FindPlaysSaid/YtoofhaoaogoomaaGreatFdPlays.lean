/- FindPlays' walk, told from what the package does (written by gen/gen_fdplays.py). No statement of the seat is proved here. -/
import Derived.Test.YtoofhaoaogoomaaGreatZLAV
import Derived.Test.YtoofhaoaogoomaaGreatZLAW
import Derived.Test.YtoofhaoaogoomaaGreatZLAX
import Derived.Test.YtoofhaoaogoomaaGreatZLAG
import Derived.Test.YtoofhaoaogoomaaGreatZLAH
import Derived.Test.YtoofhaoaogoomaaGreatZLAF
import Derived.Test.YtoofhaoaogoomaaGreatZLAC
import Derived.Test.YtoofhaoaogoomaaGreatZLAI
namespace Go.Proofs.YtoofhaoaogoomaaGreat
open Go.RowKit
set_option linter.unusedVariables false
set_option linter.unusedSimpArgs false

section
variable {Ft : World → Addr → (Nat → Prop) → FS → Prop} {w0 w w' : World} {s : Addr} {d : Nat} {f g : FS} {E : List (Nat × Obj)}
theorem gputR (K : FindersOk Ft) (h : TwoB Ft Rfd w0 w s ⟨d, 0, none⟩ f g E) (hok : g.Ok) (hl : g.L.length ≤ 900) (k : KeyT) (hk : KeyT.Ok k) (q : Int × Int) (hq : PlOk q) :
    Calls Tryz.prog 9 #[.pointer (some ⟨d, 0, none⟩), kv k, pv q] w fun e w' => e = .returned (.tuple #[]) ∧ TwoB Ft Rfd w0 w' s ⟨d, 0, none⟩ f (putF g k q) E := by
  obtain ⟨G, hG, h1, back⟩ := h.right K.firm Rfd.firm (Below.refl _ _)
  exact (rfput_any _ G g k q w h1 hok hl hk hq).mono fun e w' ⟨he, ht⟩ => ⟨he, back ht⟩
theorem gdropR (K : FindersOk Ft) (h : TwoB Ft Rfd w0 w s ⟨d, 0, none⟩ f g E) (hok : g.Ok) (hl : g.L.length ≤ 900) (k : KeyT) (hk : KeyT.Ok k) :
    Calls Tryz.prog 11 #[.pointer (some ⟨d, 0, none⟩), kv k] w fun e w' => e = .returned (.bool (hasX g.L k)) ∧ TwoB Ft Rfd w0 w' s ⟨d, 0, none⟩ f (dropF g k) E := by
  obtain ⟨G, hG, h1, back⟩ := h.right K.firm Rfd.firm (Below.refl _ _)
  exact (rfdrop_any _ G g k w h1 hok hl hk).mono fun e w' ⟨he, ht⟩ => ⟨he, back ht⟩
theorem gfindR (K : FindersOk Ft) (h : TwoB Ft Rfd w0 w s ⟨d, 0, none⟩ f g E) (hok : g.Ok) (hl : g.L.length ≤ 900) (ha : g.asked ≤ 100000) (hb : g.loads ≤ 100000) (k : KeyT) (hk : KeyT.Ok k) (dr : Nat) (hd : dr < 18446744073709551616) :
    Calls Tryz.prog 13 #[.pointer (some ⟨d, 0, none⟩), kv k, .int .u64 dr] w fun e w' => e = .returned (.tuple #[pv (getX g.L k), .bool (hasX g.L k)]) ∧ TwoB Ft Rfd w0 w' s ⟨d, 0, none⟩ f (nextF g k dr) E := by
  obtain ⟨G, hG, h1, back⟩ := h.right K.firm Rfd.firm (Below.refl _ _)
  refine (rffind_any _ G g k dr w h1 hok hl ha hb hk hd).mono fun e w' ⟨he, ht⟩ => ⟨?_, back ht⟩
  rw [answer_get hok] at he
  exact he
theorem ganewR (K : FindersOk Ft) (h : TwoB Ft Rfd w0 w s ⟨d, 0, none⟩ f g E) (hok : g.Ok) (hl : g.L.length ≤ 900) :
    Calls Tryz.prog 15 #[.pointer (some ⟨d, 0, none⟩)] w fun e w' => e = .returned (.tuple #[]) ∧ TwoB Ft Rfd w0 w' s ⟨d, 0, none⟩ f (anewF g) E := by
  obtain ⟨G, hG, h1, back⟩ := h.right K.firm Rfd.firm (Below.refl _ _)
  exact (rfanew_any _ G g w h1 hok hl).mono fun e w' ⟨he, ht⟩ => ⟨he, back ht⟩
/-- The reference's finder as it lies. -/
theorem rfd_at (h : TwoB Ft Rfd w0 w s ⟨d, 0, none⟩ f g E) : ∃ a b c, Blk w d 56 #[.pointer (some a), .pointer (some b), .pointer (some c), .int .i64 (g.asked : Nat), .int .i64 (g.loads : Nat)] ∧ ∃ F, Rx w c F g.L := by
  obtain ⟨F, G, _, ⟨d', a, b, c, h1, h2, h3⟩, _⟩ := h
  injection h1 with h1
  subst h1
  obtain ⟨Fa, Fb, Fc, _, _, _, h4, _⟩ := h3
  exact ⟨a, b, c, h2, Fc, h4⟩
/-- Bytes that stood at the start are taken into the reference's bits. -/
theorem gorR (K : FindersOk Ft) (h : TwoB Ft Rfd w0 w s ⟨d, 0, none⟩ f g E) (A : Option Addr) (b : List UInt8) (n c : Nat) (hl : b.length = n) (hc : n ≤ c) (hm : c ≤ maxLen) (hr : Rd w w.heap.size A b) (hA : ∀ ad, A = some ad → 0 < n → ad.block < w0.heap.size) :
    ∃ a x y, Blk w d 56 #[.pointer (some a), .pointer (some x), .pointer (some y), .int .i64 (g.asked : Nat), .int .i64 (g.loads : Nat)] ∧ Calls Tryz.prog 17 #[.pointer (some a), .slice A n c] w fun e w' => (∃ z, e = .returned z) ∧ TwoB Ft Rfd w0 w' s ⟨d, 0, none⟩ f (blurF g b) E ∧ Blk w' d 56 #[.pointer (some a), .pointer (some x), .pointer (some y), .int .i64 (g.asked : Nat), .int .i64 (g.loads : Nat)] := by
  obtain ⟨G, hG, h1, back⟩ := h.right K.firm Rfd.firm (Below.refl _ _)
  obtain ⟨d', a, x, y, e, hR⟩ := RfT.start h1
  injection e with e
  subst e
  refine ⟨a, x, y, hR.blk, (hR.tri.call1 Rb.firm Rc.firm Rx.firm fun F hF hFG => rb_or hF A b n c hl (by unfold maxLen at hm; omega) hr fun ad e h0 hf => ?_).mono fun e w' ⟨he, ht, hd⟩ => ?_⟩
  · have a1 := hA ad e h0
    have a2 := Rb.firm.lt hF _ hf
    rcases (hFG _ hf).2 with h | h
    · have := (hG _ h).2; omega
    · omega
  · have h9 : RfT w G d a x y w' (blurF g b) := RfT.same (f' := blurF g b) ht hR hd rfl rfl
    exact ⟨he, back h9.fin, h9.blk⟩
end
section
variable {Ft : World → Addr → (Nat → Prop) → FS → Prop}
set_option maxRecDepth 100000 in
set_option maxHeartbeats 4000000 in
theorem plays_bad (K : FindersOk Ft) (qa qb qc : Int) (hqa : In64 qa) (hqb : In64 qb) (hqc : In64 qc) (h : ¬ ((0 ≤ qa ∧ qa ≤ 1048576) ∧ (0 ≤ qb ∧ qb ≤ 30) ∧ (0 ≤ qc ∧ qc ≤ 4096))) (A : Option Addr) (n c : Nat) (ky : KeyT) (w : World) :
    Calls Tryz.prog 3 #[.agg (hws qa qb qc).toArray, .slice A n c, .agg (kcs ky).toArray] w fun e w' => e = .returned (.bool true) ∧ Below w.heap.size w w' := by
  obtain ⟨X, hX⟩ : ∃ X, kcs ky = X := ⟨_, rfl⟩
  rw [hX]
  obtain ⟨w1, hw1⟩ : ∃ w1, w.alloc (.cells (hws qa qb qc).toArray 23) = w1 := ⟨_, rfl⟩
  obtain ⟨hb, hhb⟩ : ∃ hb, w.heap.size = hb := ⟨_, rfl⟩
  obtain ⟨w2, hw2⟩ : ∃ w2, w1.alloc (.cells X.toArray 29) = w2 := ⟨_, rfl⟩
  have b1 : Below w.heap.size w w1 := hw1 ▸ (Below.refl _ _).alloc (Nat.le_refl _) _
  have b2 : Below w1.heap.size w1 w2 := hw2 ▸ (Below.refl _ _).alloc (Nat.le_refl _) _
  have k1 : Blk w1 hb 23 (hws qa qb qc).toArray := by rw [← hhb, ← hw1]; exact Blk.new w _ _
  have k2 := k1.below b2 k1.lt
  have HB := Lib.hid (b1.trans (b2.mono b1.size))
  have HK := Lib.hid k2
  have HW := Lib.hid (And.intro hw1 (And.intro hhb hw2))
  have KS := Lib.hid (shown_any K w2)
  have KN := Lib.hid (fun W => K.newNo qa qb qc W hqa hqb hqc h)
  have KR := Lib.hid (fun W => rfnew_no qa qb qc W hqa hqb hqc h)
  clear hX hw1 hhb hw2 b1 b2 k1 k2 hqa hqb hqc h
  go_enter Tryz.func3, Tryz.ntmps3
  go_upto_region 1 with fail
  rw [HW.out.1, HW.out.2.1, HW.out.2.2]
  go_wp2_with fail
  refine KS.out.mono ?_
  rintro e w3 ⟨rfl, hb3⟩
  have HK3 := Lib.hid (HK.out.below hb3 HK.out.lt)
  have HB3 := Lib.hid (HB.out.trans (hb3.mono HB.out.size))
  clear hb3 HK HB
  have h0 : w3.cell? ⟨hb, 0, none⟩ = some (.int .i64 qa) := HK3.out.cell 0
  have h1 : w3.cell? ⟨hb, 1, none⟩ = some (.int .i64 qb) := HK3.out.cell 1
  have h2 : w3.cell? ⟨hb, 2, none⟩ = some (.int .i64 qc) := HK3.out.cell 2
  go_wp2_with fail
  refine (KN.out w3).mono ?_
  rintro e w4 ⟨rfl, hb4⟩
  have HK4 := Lib.hid (HK3.out.below hb4 HK3.out.lt)
  have HB4 := Lib.hid (HB3.out.trans (hb4.mono HB3.out.size))
  clear hb4 HK3 HB3 h0 h1 h2
  have h0 : w4.cell? ⟨hb, 0, none⟩ = some (.int .i64 qa) := HK4.out.cell 0
  have h1 : w4.cell? ⟨hb, 1, none⟩ = some (.int .i64 qb) := HK4.out.cell 1
  have h2 : w4.cell? ⟨hb, 2, none⟩ = some (.int .i64 qc) := HK4.out.cell 2
  go_wp2_with fail
  refine (KR.out w4).mono ?_
  rintro e w5 ⟨rfl, hb5⟩
  have HB5 := Lib.hid (HB4.out.trans (hb5.mono HB4.out.size))
  clear hb5
  go_wp2_with fail
  go_ret
  exact ⟨rfl, HB5.out⟩
set_option maxRecDepth 100000 in
set_option maxHeartbeats 100000000 in
theorem plays_good (K : FindersOk Ft) (x y z : Nat) (hx : x ≤ 1048576) (hy : y ≤ 30) (hz : z ≤ 4096) (A : Option Addr) (n c : Nat) (ls : List FAct) (hl : ls.length = n) (hc : n ≤ c) (hm : c ≤ maxLen) (ky : KeyT) (hky : ky.Ok) (w : World) (hr : RdF w w.heap.size A ls) :
    Calls Tryz.prog 3 #[.agg (hws x y z).toArray, .slice A n c, .agg (kcs ky).toArray] w fun e w' => e = .returned (.bool true) ∧ Below w.heap.size w w' := by
  unfold maxLen at hm
  obtain ⟨X0, hX0⟩ : ∃ X0, kcs ky = X0 := ⟨_, rfl⟩
  have hX0l : X0.length = 33 := by rw [← hX0]; exact kcs_length hky
  rw [hX0]
  obtain ⟨w1, hw1⟩ : ∃ w1, w.alloc (.cells (hws x y z).toArray 23) = w1 := ⟨_, rfl⟩
  obtain ⟨hb, hhb⟩ : ∃ hb, w.heap.size = hb := ⟨_, rfl⟩
  obtain ⟨w2, hw2⟩ : ∃ w2, w1.alloc (.cells X0.toArray 29) = w2 := ⟨_, rfl⟩
  obtain ⟨kb, hkb⟩ : ∃ kb, w1.heap.size = kb := ⟨_, rfl⟩
  have b1 : Below w.heap.size w w1 := hw1 ▸ (Below.refl _ _).alloc (Nat.le_refl _) _
  have b2 : Below w1.heap.size w1 w2 := hw2 ▸ (Below.refl _ _).alloc (Nat.le_refl _) _
  have k1 : Blk w1 hb 23 (hws x y z).toArray := by rw [← hhb, ← hw1]; exact Blk.new w _ _
  have k2 := k1.below b2 k1.lt
  have q2 : Blk w2 kb 29 X0.toArray := by rw [← hkb, ← hw2]; exact Blk.new w1 _ _
  have hb12 := b1.trans (b2.mono b1.size)
  have HB := Lib.hid hb12
  have HK := Lib.hid (And.intro k2 q2)
  have HW := Lib.hid (And.intro hw1 (And.intro hhb (And.intro hw2 (show hb + 1 = kb by rw [← hhb, ← hkb, ← hw1]; simp))))
  have HL := Lib.hid hl
  have HR := Lib.hid ((hr.below hb12).more hb12.size)
  have HX0 := Lib.hid (And.intro hX0 hky)
  obtain ⟨fs, hfs⟩ := key_desc
  obtain ⟨fp, hfp⟩ := place_desc
  obtain ⟨fa, hfa⟩ := fact_desc
  obtain ⟨an, ae, hsd⟩ := sum_desc
  have HF := Lib.hid (And.intro hfs (And.intro hfp (And.intro hfa hsd)))
  have KS := Lib.hid (shown_any K w2)
  have KN := Lib.hid (fun W => K.new x y z W hx hy hz)
  have KR := Lib.hid (fun W => rfnew_any x y z W hx hy hz)
  have KF := Lib.hid (fun W (hW : Below w2.heap.size w2 W) => few_any A n c ls hl hc (by unfold maxLen; exact hm) W ((HR.out.below hW).more hW.size))
  clear hX0 hX0l hw1 hhb hw2 hkb b1 b2 k1 k2 q2 hb12 hl hr hfs hfp hfa hsd hx hy hz hky
  go_enter Tryz.func3, Tryz.ntmps3
  go_upto_region 1 with fail
  rw [HW.out.1, HW.out.2.1, HW.out.2.2.1, HW.out.2.2.2]
  go_wp2_with fail
  refine KS.out.mono ?_
  rintro e w3 ⟨rfl, hb3⟩
  have HK3 := Lib.hid (HK.out.1.below hb3 HK.out.1.lt)
  have HB3 := Lib.hid hb3
  clear hb3
  have h0 : w3.cell? ⟨hb, 0, none⟩ = some (.int .i64 x) := HK3.out.cell 0
  have h1 : w3.cell? ⟨hb, 1, none⟩ = some (.int .i64 y) := HK3.out.cell 1
  have h2 : w3.cell? ⟨hb, 2, none⟩ = some (.int .i64 z) := HK3.out.cell 2
  go_wp2_with fail
  refine (KN.out w3).mono ?_
  rintro e w4 ⟨s, F4, rfl, h4, hF4, hb4⟩
  have HK4 := Lib.hid (HK3.out.below hb4 HK3.out.lt)
  have H4 := Lib.hid (And.intro h4 (And.intro (show ∀ g, F4 g → w2.heap.size ≤ g from fun g hg => Nat.le_trans HB3.out.size (hF4 g hg)) (HB3.out.trans (hb4.mono HB3.out.size))))
  clear h4 hF4 hb4 HK3 HB3 h0 h1 h2
  have h0 : w4.cell? ⟨hb, 0, none⟩ = some (.int .i64 x) := HK4.out.cell 0
  have h1 : w4.cell? ⟨hb, 1, none⟩ = some (.int .i64 y) := HK4.out.cell 1
  have h2 : w4.cell? ⟨hb, 2, none⟩ = some (.int .i64 z) := HK4.out.cell 2
  go_wp2_with fail
  refine (KR.out w4).mono ?_
  rintro e w5 ⟨t, F5, rfl, h5, hF5, hb5⟩
  have h6 := (two_made K.firm Rfd.firm H4.out.2.2 H4.out.1 H4.out.2.1 hb5 h5 hF5).old HK.out.2
  obtain ⟨d, a5, b5, c5, rfl, _⟩ := id h5
  have H6 := Lib.hid h6
  have KF5 := Lib.hid (KF.out w5 h6.bel)
  clear h5 hF5 hb5 h6 H4 HK4 h0 h1 h2 KS KN KR KF
  go_wp2_with fail
  refine KF5.out.mono ?_
  rintro e w7 ⟨m, hmn, hm150, rfl, rfl⟩
  have HM := Lib.hid (And.intro hmn hm150)
  clear KF5
  go_wp2_with fail
  go_loopw [63] (fun i wr => ∃ (j : Nat) (f : FS), j ≤ m ∧ i = .int .i64 j ∧ Hid (TwoB Ft Rfd w2 wr s ⟨d, 0, none⟩ f f [(kb, Obj.cells X0.toArray 29 (0, 0))] ∧ f.L.length ≤ j ∧ f.asked ≤ j ∧ f.loads ≤ j)) (fun i _ => m - (intOf i).toNat)
  case atStart => exact ⟨0, newF x y z, Nat.zero_le _, rfl, Lib.hid ⟨H6.out, Nat.le_refl _, Nat.le_refl _, Nat.le_refl _⟩⟩
  case round =>
    clear H6
    obtain ⟨j, f, hj, rfl, hst⟩ := hrel
    by_cases hlt : j < m
    · have hjx : j < ls.length := by rw [HL.out]; omega
      obtain ⟨hst1, hst2, hst3, hst4⟩ := hst.out
      have hbel := hst1.bel
      obtain ⟨g, off, hA, hg, hra, hok2⟩ := (HR.out.below hbel).at_ hjx
      clear hok2
      have hok := HR.out.each _ (List.getElem_mem hjx)
      obtain ⟨a, hae⟩ : ∃ a, ls[j] = a := ⟨_, rfl⟩
      rw [hae] at hra hok
      subst hA
      obtain ⟨V, hV⟩ : ∃ V, fcs a = V := ⟨_, rfl⟩
      have hVl : V.length = 38 := by rw [← hV]; exact fcs_length hok.row
      rw [hV] at hra
      have HRA := Lib.hid hra
      have HKS := Lib.hid (show (Tryz.prog.info? 46).map (·.size) = some V.length from by rw [hVl]; exact fact_size)
      have HKS2 := Lib.hid (show (Tryz.prog.info? 46).map (·.size) = some V.toArray.size from by rw [List.size_toArray, hVl]; exact fact_size)
      have HOLD := Lib.hid (show fz.size = V.toArray.size from fz_size.trans (by rw [List.size_toArray, hVl]))
      have HBZ := Lib.hid (Blk.new wr 46 fz)
      have HONE := Lib.hid (show V.toArray.all (·.oneCell') = true from by rw [← hV]; exact fcs_one)
      obtain ⟨w8, hw8⟩ : ∃ w8, wr.alloc (.cells V.toArray 46) = w8 := ⟨_, rfl⟩
      obtain ⟨ab, hab⟩ : ∃ ab, wr.heap.size = ab := ⟨_, rfl⟩
      have h8 := hst1.box K.firm Rfd.firm hab hw8
      have HW8 := Lib.hid (And.intro hw8 hab)
      have H8 := Lib.hid h8
      obtain ⟨X, hX⟩ : ∃ X, kcs a.row.1 = X := ⟨_, rfl⟩
      obtain ⟨⟨p1, p2⟩, hp⟩ : ∃ p, a.row.2 = p := ⟨_, rfl⟩
      have HXS := Lib.hid (show (Tryz.prog.info? 29).map (·.size) = some X.length from by rw [← hX, kcs_length hok.row.key]; exact key_size)
      have HPS := Lib.hid (show (Tryz.prog.info? 40).map (·.size) = some ([Value.int .i64 p1, Value.int .i64 p2]).length from place_size)
      have HRW := Lib.hid (show ∀ W, Blk W ab 46 V.toArray → W.rangeAt ab 1 X ∧ W.rangeAt ab 34 [.int .i64 p1, .int .i64 p2] ∧ W.cell? ⟨ab, 0, none⟩ = some (.int .u8 a.kind) ∧ W.cell? ⟨ab, 36, none⟩ = some (.int .u64 a.draw) ∧ W.cell? ⟨ab, 37, none⟩ = some (.slice a.adr a.b.length a.cap) from fun W h => by
        have h0 := range_of_blk h
        rw [← hV] at h0
        have h1 := fcs_row h0
        rw [Nat.zero_add] at h1
        have h2 := range_key h1
        rw [hX] at h2
        have h3 := range_place hok.row h1
        rw [hp] at h3
        have h4 := fcs_draw hok.row h0
        rw [Nat.zero_add] at h4
        have h5 := fcs_bytes hok.row h0
        rw [Nat.zero_add] at h5
        exact ⟨h2, h3, fcs_kind h0, h4, h5⟩)
      have HOK := Lib.hid (And.intro hok (And.intro hX hp))
      have HST := Lib.hid (And.intro hst2 (And.intro hst3 hst4))
      have HJ := Lib.hid (show j < 150 by have := HM.out.2; omega)
      have HFO := Lib.hid (fgoodL K hst1)
      have hi1 : (0 : Int) ≤ (j : Int) := by omega
      have hi2 : (j : Int) < (m : Int) := by omega
      have hi3 : (j : Int) < (n : Int) := by have := HM.out.1; omega
      have hkd := hok.kind
      have c0 : w8.cell? ⟨ab, 0, none⟩ = some (.int .u8 a.kind) := (HRW.out w8 (h8.blk List.mem_cons_self)).2.2.1
      obtain ⟨kd, hkk⟩ : ∃ kd, a.kind = kd := ⟨_, rfl⟩
      rw [hkk] at hkd c0
      obtain ⟨r, hrr⟩ : ∃ r, kd % 5 = r := ⟨_, rfl⟩
      have hri : (kd : Int) % 5 = (r : Int) := by omega
      have hr5 : r < 5 := by omega
      clear hst hst1 hst2 hst3 hst4 hbel hra hok hae hjx hV hVl hw8 hab h8 hX hp hg hkk hrr
      have hcase : r = 0 ∨ r = 1 ∨ r = 2 ∨ r = 3 ∨ r = 4 := by omega
      go_upto_region 11 with (first
        | refine wpList_load_mid rfl 46 (.tmp 65) rfl g (off + j * 38) rfl V (.struct fa) HRA.out HF.out.2.2.1 rfl HKS.out ?_
        | (refine wpList_store_row rfl 46 (.tmp 13) (.tmp 66) rfl wr.heap.size V.toArray rfl rfl 46 fz HBZ.out HKS2.out HOLD.out HONE.out ?_; rw [setRow_alloc, HW8.out.1, HW8.out.2]))
      rcases hcase with rfl | rfl | rfl | rfl | rfl
      · have hri : (kd : Int) % 5 = 0 := hri
        have R8 := Lib.hid (HRW.out w8 (H8.out.blk List.mem_cons_self))
        have KP := fputL K Rfd.firm H8.out (by have := HST.out; have := HJ.out; omega) a.row.1 HOK.out.1.row.key a.row.2 ⟨HOK.out.1.row.shelf, HOK.out.1.row.slot⟩
        unfold kv pv at KP
        rw [HOK.out.2.1, HOK.out.2.2] at KP
        replace KP := Lib.hid KP
        go_wp2_with (first
          | refine wpList_load_mid rfl 29 (.tmp 85) rfl ab 1 rfl X (.struct fs) R8.out.1 HF.out.1 rfl HXS.out ?_
          | refine wpList_load_mid rfl 40 (.tmp 88) rfl ab 34 rfl [.int .i64 p1, .int .i64 p2] (.struct fp) R8.out.2.1 HF.out.2.1 rfl HPS.out ?_)
        refine KP.out.mono ?_
        rintro e w9 ⟨rfl, h9⟩
        have R9 := Lib.hid (HRW.out w9 (h9.blk List.mem_cons_self))
        have KQ := gputR K h9 HFO.out (by have := HST.out; have := HJ.out; omega) a.row.1 HOK.out.1.row.key a.row.2 ⟨HOK.out.1.row.shelf, HOK.out.1.row.slot⟩
        unfold kv pv at KQ
        rw [HOK.out.2.1, HOK.out.2.2] at KQ
        replace KQ := Lib.hid KQ
        clear h9 KP R8 c0 H8
        go_upto_region 28 with (first
          | refine wpList_load_mid rfl 29 (.tmp 93) rfl ab 1 rfl X (.struct fs) R9.out.1 HF.out.1 rfl HXS.out ?_
          | refine wpList_load_mid rfl 40 (.tmp 96) rfl ab 34 rfl [.int .i64 p1, .int .i64 p2] (.struct fp) R9.out.2.1 HF.out.2.1 rfl HPS.out ?_
          | (go_at_call 9; (with_reducible refine KQ.out.mono ?_); rintro e w10 ⟨rfl, h10⟩))
        clear KQ R9
        obtain ⟨f2, hf2⟩ : ∃ f2, putF f a.row.1 (p1, p2) = f2 := ⟨_, rfl⟩
        rw [hf2] at h10
        have H10 := Lib.hid h10
        have HFL := Lib.hid (show f2.L.length ≤ j + 1 ∧ f2.asked ≤ j + 1 ∧ f2.loads ≤ j + 1 from by
          have e3 := HST.out
          have e1 := length_putX' f.L a.row.1 (p1, p2)
          rw [← hf2]
          show (putX f.L a.row.1 (p1, p2)).length ≤ j + 1 ∧ f.asked ≤ j + 1 ∧ f.loads ≤ j + 1
          omega
          )
        clear h10 hf2
        have KC := fcostL K Rfd.firm H10.out
        obtain ⟨na, hna⟩ : ∃ n, f2.asked = n := ⟨_, rfl⟩
        obtain ⟨nl, hnl⟩ : ∃ n, f2.loads = n := ⟨_, rfl⟩
        rw [hna, hnl] at KC
        replace KC := Lib.hid KC
        have HNA := Lib.hid (And.intro hna hnl)
        clear hna hnl
        go_upto_region 29 with (go_at_call 18; (with_reducible refine KC.out.mono ?_); rintro e w11 ⟨rfl, h11⟩; have H11 := Lib.hid h11; clear h11)
        obtain ⟨ra, rb, rc, hbk, _⟩ := rfd_at H11.out
        rw [HNA.out.1, HNA.out.2] at hbk
        have e3 : w11.cell? ⟨d, 3, none⟩ = some (.int .i64 (na : Nat)) := hbk.cell 3
        have e4 : w11.cell? ⟨d, 4, none⟩ = some (.int .i64 (nl : Nat)) := hbk.cell 4
        clear hbk
        go_wp2_with fail
        go_roundw
        case rel => exact ⟨j + 1, f2, by omega, by go_num, Lib.hid ⟨H11.out.drop, HFL.out⟩⟩
        case measure => simp [intOf]; omega
      · have hri : (kd : Int) % 5 = 1 := hri
        have hz8 := below_drewN (Below.refl w8.heap.size w8) 1
        have h8d := H8.out.on K.firm Rfd.firm hz8
        have KP := fdropL K Rfd.firm h8d (by have := HST.out; have := HJ.out; omega) a.row.1 HOK.out.1.row.key
        unfold kv at KP
        obtain ⟨hs, hhs⟩ : ∃ b, hasX f.L a.row.1 = b := ⟨_, rfl⟩
        rw [HOK.out.2.1, hhs] at KP
        replace KP := Lib.hid KP
        have HHS := Lib.hid hhs
        have KQF := Lib.hid (fun W (h : TwoB Ft Rfd w2 W s ⟨d, 0, none⟩ (dropF f a.row.1) f [(ab, Obj.cells V.toArray 46 (0, 0)), (kb, Obj.cells X0.toArray 29 (0, 0))]) => gdropR K h HFO.out (by have := HST.out; have := HJ.out; omega) a.row.1 HOK.out.1.row.key)
        have HS8 := Lib.hid (show Blk (w8.drewN 1) ab 46 V.toArray from h8d.blk List.mem_cons_self)
        clear hhs h8d hz8
        go_upto_region 18 with fail
        clear c0
        refine wp_region_held_drew (S := fun W => Blk W ab 46 V.toArray) (by kernel_rfl) HS8.out (fun hHeld => ?_)
        clear hHeld
        change wpAnyH _ _ _ _ _ _ _ _ (w8.drewN 1)
        generalize w8.drewN 1 = wz at *
        refine wpAnyH_take (i := 0) (oi := _) (v := .pointer (some s)) rfl (by kernel_rfl) (by kernel_rfl) (by kernel_rfl) (fun _ _ _ h => h) (Or.inl ⟨by rfl, by intro w hSw; go_simp⟩) HS8.out ?_
        simp only [List.getElem_toArray, List.getElem_cons_zero, List.getElem_cons_succ, Act.put, List.setIfInBounds_toArray, List.set_cons_zero, List.set_cons_succ]
        refine wpAnyH_take (i := 1) (oi := _) (v := .pointer (some ⟨ab, 1, none⟩)) rfl (by kernel_rfl) (by kernel_rfl) (by kernel_rfl) (fun _ _ _ h => h) (Or.inl ⟨by rfl, by intro w hSw; go_simp⟩) HS8.out ?_
        simp only [List.getElem_toArray, List.getElem_cons_zero, List.getElem_cons_succ, Act.put, List.setIfInBounds_toArray, List.set_cons_zero, List.set_cons_succ]
        refine wpAnyH_take (i := 2) (oi := _) (v := .pointer (some ⟨ab, 1, none⟩)) rfl (by kernel_rfl) (by kernel_rfl) (by kernel_rfl) (fun _ _ _ h => h) (Or.inl ⟨by rfl, by intro w hSw; go_simp⟩) HS8.out ?_
        simp only [List.getElem_toArray, List.getElem_cons_zero, List.getElem_cons_succ, Act.put, List.setIfInBounds_toArray, List.set_cons_zero, List.set_cons_succ]
        refine wpAnyH_take (i := 3) (oi := _) (v := .agg X.toArray) rfl (by kernel_rfl) (by kernel_rfl) (by kernel_rfl) (fun _ _ _ h => h) (yields_mid (by rfl) 29 (.tmp 103) rfl ab 1 rfl X (.struct fs) (fun W hW => (HRW.out W hW).1) HF.out.1 rfl HXS.out) HS8.out ?_
        simp only [List.getElem_toArray, List.getElem_cons_zero, List.getElem_cons_succ, Act.put, List.setIfInBounds_toArray, List.set_cons_zero, List.set_cons_succ]
        refine wpAnyH_take (i := 5) (oi := _) (v := .pointer (some ⟨d, 0, none⟩)) rfl (by kernel_rfl) (by kernel_rfl) (by kernel_rfl) (fun _ _ _ h => h) (Or.inl ⟨by rfl, by intro w hSw; go_simp⟩) HS8.out ?_
        simp only [List.getElem_toArray, List.getElem_cons_zero, List.getElem_cons_succ, Act.put, List.setIfInBounds_toArray, List.set_cons_zero, List.set_cons_succ]
        refine wpAnyH_take (i := 6) (oi := _) (v := .pointer (some ⟨ab, 1, none⟩)) rfl (by kernel_rfl) (by kernel_rfl) (by kernel_rfl) (fun _ _ _ h => h) (Or.inl ⟨by rfl, by intro w hSw; go_simp⟩) HS8.out ?_
        simp only [List.getElem_toArray, List.getElem_cons_zero, List.getElem_cons_succ, Act.put, List.setIfInBounds_toArray, List.set_cons_zero, List.set_cons_succ]
        refine wpAnyH_take (i := 7) (oi := _) (v := .pointer (some ⟨ab, 1, none⟩)) rfl (by kernel_rfl) (by kernel_rfl) (by kernel_rfl) (fun _ _ _ h => h) (Or.inl ⟨by rfl, by intro w hSw; go_simp⟩) HS8.out ?_
        simp only [List.getElem_toArray, List.getElem_cons_zero, List.getElem_cons_succ, Act.put, List.setIfInBounds_toArray, List.set_cons_zero, List.set_cons_succ]
        refine wpAnyH_take (i := 8) (oi := _) (v := .agg X.toArray) rfl (by kernel_rfl) (by kernel_rfl) (by kernel_rfl) (fun _ _ _ h => h) (yields_mid (by rfl) 29 (.tmp 108) rfl ab 1 rfl X (.struct fs) (fun W hW => (HRW.out W hW).1) HF.out.1 rfl HXS.out) HS8.out ?_
        simp only [List.getElem_toArray, List.getElem_cons_zero, List.getElem_cons_succ, Act.put, List.setIfInBounds_toArray, List.set_cons_zero, List.set_cons_succ]
        refine wpAnyH_ready (rs := [4]) (by kernel_rfl) (by simp) ?_
        refine AllReadyH.cons rfl (fun K hK => ?_) AllReadyH.nil
        go_simp
        (with_reducible refine KP.out.mono ?_)
        rintro e w9 ⟨rfl, h9⟩
        have hs9 : Blk w9 ab 46 V.toArray := h9.blk List.mem_cons_self
        have KQ := KQF.out _ h9
        unfold kv at KQ
        rw [HOK.out.2.1, HHS.out] at KQ
        replace KQ := Lib.hid KQ
        clear h9 KP
        go_wp2_with fail
        refine hK.out _ _ hs9 (fun _ => ?_)
        clear hK K
        try simp only [List.getElem_toArray, List.getElem_cons_zero, List.getElem_cons_succ, Act.put, List.setIfInBounds_toArray, List.set_cons_zero, List.set_cons_succ]
        refine wpAnyH_ready (rs := [9]) (by kernel_rfl) (by simp) ?_
        refine AllReadyH.cons rfl (fun K hK => ?_) AllReadyH.nil
        go_simp
        (with_reducible refine KQ.out.mono ?_)
        rintro e w10 ⟨rfl, h10⟩
        have hs10 : Blk w10 ab 46 V.toArray := h10.blk List.mem_cons_self
        clear KQ
        go_wp2_with fail
        refine hK.out _ _ hs10 (fun _ => ?_)
        clear hK K
        try simp only [List.getElem_toArray, List.getElem_cons_zero, List.getElem_cons_succ, Act.put, List.setIfInBounds_toArray, List.set_cons_zero, List.set_cons_succ]
        have hbe : (hs != hs) = false := by cases hs <;> rfl
        refine wpAnyH_take (i := 10) (oi := _) (v := .bool false) rfl (by kernel_rfl) (by kernel_rfl) (by kernel_rfl) (fun _ _ _ h => h) (Or.inl ⟨by rfl, by intro w hSw; go_simp⟩) hs10 ?_
        simp only [List.getElem_toArray, List.getElem_cons_zero, List.getElem_cons_succ, Act.put, List.setIfInBounds_toArray, List.set_cons_zero, List.set_cons_succ]
        refine wpAnyH_done (by kernel_rfl) ?_ _
        clear hs9 hs10 hbe
        go_upto_region 28 with fail
        obtain ⟨f2, hf2⟩ : ∃ f2, dropF f a.row.1 = f2 := ⟨_, rfl⟩
        rw [hf2] at h10
        have H10 := Lib.hid h10
        have HFL := Lib.hid (show f2.L.length ≤ j + 1 ∧ f2.asked ≤ j + 1 ∧ f2.loads ≤ j + 1 from by
          have e3 := HST.out
          have e1 := length_dropX' f.L a.row.1
          rw [← hf2]
          show (dropX f.L a.row.1).length ≤ j + 1 ∧ f.asked ≤ j + 1 ∧ f.loads ≤ j + 1
          omega
          )
        clear h10 hf2
        have KC := fcostL K Rfd.firm H10.out
        obtain ⟨na, hna⟩ : ∃ n, f2.asked = n := ⟨_, rfl⟩
        obtain ⟨nl, hnl⟩ : ∃ n, f2.loads = n := ⟨_, rfl⟩
        rw [hna, hnl] at KC
        replace KC := Lib.hid KC
        have HNA := Lib.hid (And.intro hna hnl)
        clear hna hnl
        go_upto_region 29 with (go_at_call 18; (with_reducible refine KC.out.mono ?_); rintro e w11 ⟨rfl, h11⟩; have H11 := Lib.hid h11; clear h11)
        obtain ⟨ra, rb, rc, hbk, _⟩ := rfd_at H11.out
        rw [HNA.out.1, HNA.out.2] at hbk
        have e3 : w11.cell? ⟨d, 3, none⟩ = some (.int .i64 (na : Nat)) := hbk.cell 3
        have e4 : w11.cell? ⟨d, 4, none⟩ = some (.int .i64 (nl : Nat)) := hbk.cell 4
        clear hbk
        go_wp2_with fail
        go_roundw
        case rel => exact ⟨j + 1, f2, by omega, by go_num, Lib.hid ⟨H11.out.drop, HFL.out⟩⟩
        case measure => simp [intOf]; omega
      · have hri : (kd : Int) % 5 = 2 := hri
        have R8 := Lib.hid (HRW.out w8 (H8.out.blk List.mem_cons_self))
        have KP := ffindL K Rfd.firm H8.out (by have := HST.out; have := HJ.out; omega) (by have := HST.out; have := HJ.out; omega) (by have := HST.out; have := HJ.out; omega) a.row.1 HOK.out.1.row.key a.draw HOK.out.1.draw
        unfold kv at KP
        obtain ⟨⟨g1, g2⟩, hg⟩ : ∃ p, getX f.L a.row.1 = p := ⟨_, rfl⟩
        obtain ⟨hs, hhs⟩ : ∃ b, hasX f.L a.row.1 = b := ⟨_, rfl⟩
        rw [HOK.out.2.1, hg, hhs] at KP
        unfold pv at KP
        replace KP := Lib.hid KP
        have HG := Lib.hid (And.intro hg hhs)
        have HPI := Lib.hid (show In64 g1 ∧ In64 g2 from by
          have := getX_ok HFO.out.rows a.row.1
          rw [hg] at this
          exact this)
        have c36 := R8.out.2.2.2.1
        clear hg hhs
        go_upto_region 21 with fail
        clear c0
        go_wp2_with (refine wpList_load_mid rfl 29 (.tmp 117) rfl ab 1 rfl X (.struct fs) R8.out.1 HF.out.1 rfl HXS.out ?_)
        refine KP.out.mono ?_
        rintro e w9 ⟨rfl, h9⟩
        obtain ⟨w10, hw10⟩ : ∃ w10, w9.alloc (.cells #[.int .i64 g1, .int .i64 g2] 40) = w10 := ⟨_, rfl⟩
        obtain ⟨pb, hpb⟩ : ∃ pb, w9.heap.size = pb := ⟨_, rfl⟩
        have h10 := h9.box K.firm Rfd.firm hpb hw10
        have HW10 := Lib.hid (And.intro hw10 hpb)
        have KQ := gfindR K h10 HFO.out (by have := HST.out; have := HJ.out; omega) (by have := HST.out; have := HJ.out; omega) (by have := HST.out; have := HJ.out; omega) a.row.1 HOK.out.1.row.key a.draw HOK.out.1.draw
        unfold kv at KQ
        rw [HOK.out.2.1, HG.out.1, HG.out.2] at KQ
        unfold pv at KQ
        replace KQ := Lib.hid KQ
        have R10 := Lib.hid (HRW.out w10 (h10.blk (List.mem_cons_of_mem _ List.mem_cons_self)))
        clear h9 h10 hw10 hpb KP R8 c36 H8
        go_upto_region 22 with fail
        rw [HW10.out.1, HW10.out.2]
        have c36 := R10.out.2.2.2.1
        go_wp2_with (refine wpList_load_mid rfl 29 (.tmp 127) rfl ab 1 rfl X (.struct fs) R10.out.1 HF.out.1 rfl HXS.out ?_)
        refine KQ.out.mono ?_
        rintro e w13 ⟨rfl, h13⟩
        obtain ⟨w14, hw14⟩ : ∃ w14, w13.alloc (.cells #[.int .i64 g1, .int .i64 g2] 40) = w14 := ⟨_, rfl⟩
        obtain ⟨qb, hqb⟩ : ∃ qb, w13.heap.size = qb := ⟨_, rfl⟩
        have h14 := h13.box K.firm Rfd.firm hqb hw14
        have HPB := Lib.hid (show w14.rangeAt pb 0 [.int .i64 g1, .int .i64 g2] ∧ w14.rangeAt qb 0 [.int .i64 g1, .int .i64 g2] from ⟨range_of_blk (cs := [.int .i64 g1, .int .i64 g2]) (h14.blk (List.mem_cons_of_mem _ List.mem_cons_self)), range_of_blk (cs := [.int .i64 g1, .int .i64 g2]) (h14.blk List.mem_cons_self)⟩)
        have HGS := Lib.hid (show (Tryz.prog.info? 40).map (·.size) = some ([Value.int .i64 g1, Value.int .i64 g2]).length from place_size)
        have HW14 := Lib.hid (And.intro hw14 hqb)
        have h10 := h14.drop.drop
        clear h13 h14 hw14 hqb KQ R10 c36 HW10
        go_upto_region 23 with fail
        rw [HW14.out.1, HW14.out.2]
        have QEP : ∀ W : World, (Op.equalIn 10000 40 (.agg #[.int .i64 g1, .int .i64 g2]) (.agg #[.int .i64 g1, .int .i64 g2])).run Tryz.prog W = .ok true W := fun W => by
          have := place_eq (a := (g1, g2)) (b := (g1, g2)) HPI.out HPI.out W
          rw [decide_eq_true rfl] at this
          exact this
        have QGP : Tryz.prog.eqGuardType Tryz.prog.depth 40 = false := place_guard
        have hbe : (hs != hs) = false := by cases hs <;> rfl
        go_upto_region 28 with (first | refine wpList_load_mid rfl 40 (.tmp 14) rfl pb 0 rfl [.int .i64 g1, .int .i64 g2] (.struct fp) HPB.out.1 HF.out.2.1 rfl HGS.out ?_ | refine wpList_load_mid rfl 40 (.tmp 16) rfl qb 0 rfl [.int .i64 g1, .int .i64 g2] (.struct fp) HPB.out.2 HF.out.2.1 rfl HGS.out ?_)
        clear QEP QGP hbe
        obtain ⟨f2, hf2⟩ : ∃ f2, nextF f a.row.1 a.draw = f2 := ⟨_, rfl⟩
        rw [hf2] at h10
        have H10 := Lib.hid h10
        have HFL := Lib.hid (show f2.L.length ≤ j + 1 ∧ f2.asked ≤ j + 1 ∧ f2.loads ≤ j + 1 from by
          have e3 := HST.out
          have n1 := next_cost f a.row.1 a.draw
          have n2 := next_L f a.row.1 a.draw
          rw [← hf2, n2]
          omega
          )
        clear h10 hf2
        have KC := fcostL K Rfd.firm H10.out
        obtain ⟨na, hna⟩ : ∃ n, f2.asked = n := ⟨_, rfl⟩
        obtain ⟨nl, hnl⟩ : ∃ n, f2.loads = n := ⟨_, rfl⟩
        rw [hna, hnl] at KC
        replace KC := Lib.hid KC
        have HNA := Lib.hid (And.intro hna hnl)
        clear hna hnl
        go_upto_region 29 with (go_at_call 18; (with_reducible refine KC.out.mono ?_); rintro e w11 ⟨rfl, h11⟩; have H11 := Lib.hid h11; clear h11)
        obtain ⟨ra, rb, rc, hbk, _⟩ := rfd_at H11.out
        rw [HNA.out.1, HNA.out.2] at hbk
        have e3 : w11.cell? ⟨d, 3, none⟩ = some (.int .i64 (na : Nat)) := hbk.cell 3
        have e4 : w11.cell? ⟨d, 4, none⟩ = some (.int .i64 (nl : Nat)) := hbk.cell 4
        clear hbk
        go_wp2_with fail
        go_roundw
        case rel => exact ⟨j + 1, f2, by omega, by go_num, Lib.hid ⟨H11.out.drop, HFL.out⟩⟩
        case measure => simp [intOf]; omega
      · have hri : (kd : Int) % 5 = 3 := hri
        have KP := Lib.hid (fanewL K Rfd.firm H8.out (by have := HST.out; have := HJ.out; omega))
        go_upto_region 26 with fail
        clear c0
        go_wp2_with fail
        refine KP.out.mono ?_
        rintro e w9 ⟨rfl, h9⟩
        have KQ := Lib.hid (ganewR K h9 HFO.out (by have := HST.out; have := HJ.out; omega))
        clear h9 KP H8
        go_upto_region 28 with (go_at_call 15; (with_reducible refine KQ.out.mono ?_); rintro e w10 ⟨rfl, h10⟩)
        clear KQ
        obtain ⟨f2, hf2⟩ : ∃ f2, anewF f = f2 := ⟨_, rfl⟩
        rw [hf2] at h10
        have H10 := Lib.hid h10
        have HFL := Lib.hid (show f2.L.length ≤ j + 1 ∧ f2.asked ≤ j + 1 ∧ f2.loads ≤ j + 1 from by
          have e3 := HST.out
          rw [← hf2]
          show f.L.length ≤ j + 1 ∧ f.asked ≤ j + 1 ∧ f.loads ≤ j + 1
          omega
          )
        clear h10 hf2
        have KC := fcostL K Rfd.firm H10.out
        obtain ⟨na, hna⟩ : ∃ n, f2.asked = n := ⟨_, rfl⟩
        obtain ⟨nl, hnl⟩ : ∃ n, f2.loads = n := ⟨_, rfl⟩
        rw [hna, hnl] at KC
        replace KC := Lib.hid KC
        have HNA := Lib.hid (And.intro hna hnl)
        clear hna hnl
        go_upto_region 29 with (go_at_call 18; (with_reducible refine KC.out.mono ?_); rintro e w11 ⟨rfl, h11⟩; have H11 := Lib.hid h11; clear h11)
        obtain ⟨ra, rb, rc, hbk, _⟩ := rfd_at H11.out
        rw [HNA.out.1, HNA.out.2] at hbk
        have e3 : w11.cell? ⟨d, 3, none⟩ = some (.int .i64 (na : Nat)) := hbk.cell 3
        have e4 : w11.cell? ⟨d, 4, none⟩ = some (.int .i64 (nl : Nat)) := hbk.cell 4
        clear hbk
        go_wp2_with fail
        go_roundw
        case rel => exact ⟨j + 1, f2, by omega, by go_num, Lib.hid ⟨H11.out.drop, HFL.out⟩⟩
        case measure => simp [intOf]; omega
      · have hri : (kd : Int) % 5 = 4 := hri
        have R8 := Lib.hid (HRW.out w8 (H8.out.blk List.mem_cons_self))
        obtain ⟨nb, hnb⟩ : ∃ n, a.b.length = n := ⟨_, rfl⟩
        obtain ⟨ad, had⟩ : ∃ n, a.adr = n := ⟨_, rfl⟩
        obtain ⟨cp, hcp⟩ : ∃ n, a.cap = n := ⟨_, rfl⟩
        have hle := HOK.out.1.le
        have hmx := HOK.out.1.max
        have hrd := HOK.out.1.rd
        rw [had] at hrd
        rw [hnb, hcp] at hle
        rw [hcp] at hmx
        have HRD := Lib.hid hrd
        have HAD := Lib.hid (show ∀ x, ad = some x → 0 < nb → x.block < w2.heap.size from fun x e h0 => by
          obtain ⟨g, off, e2, hg, _⟩ := hrd (by rw [hnb]; exact h0)
          rw [e] at e2
          injection e2 with e2
          rw [e2]
          exact hg)
        have HNB := Lib.hid (And.intro hnb (And.intro hle hmx))
        have KP := Lib.hid (fblurL K Rfd.firm H8.out ad a.b nb cp hnb hle hmx ((hrd.below H8.out.bel).more H8.out.bel.size) HAD.out)
        have c37 := R8.out.2.2.2.2
        rw [had, hnb, hcp] at c37
        have HABC := Lib.hid (And.intro had (And.intro hnb hcp))
        clear hnb had hcp hle hmx hrd
        go_upto_region 12 with fail
        clear c0
        go_wp2_with fail
        refine KP.out.mono ?_
        rintro e w9 ⟨rfl, h9⟩
        have hz9 := below_drewN (Below.refl w9.heap.size w9) 1
        have h9d := h9.on K.firm Rfd.firm hz9
        obtain ⟨ra, rb, rc, hbk, KO⟩ := gorR K h9d ad a.b nb cp HNB.out.1 HNB.out.2.1 HNB.out.2.2 ((HRD.out.below h9d.bel).more h9d.bel.size) HAD.out
        have hbx : Blk (w9.drewN 1) ab 46 V.toArray := h9d.blk List.mem_cons_self
        have HS9 := Lib.hid (And.intro hbk hbx)
        replace KO := Lib.hid KO
        clear h9 hz9 h9d hbk hbx KP R8 c37 H8
        go_upto_region 13 with fail
        refine wp_region_held_drew (S := fun W => Blk W d 56 #[.pointer (some ra), .pointer (some rb), .pointer (some rc), .int .i64 (f.asked : Nat), .int .i64 (f.loads : Nat)] ∧ Blk W ab 46 V.toArray) (by kernel_rfl) HS9.out (fun hHeld => ?_)
        clear hHeld
        change wpAnyH _ _ _ _ _ _ _ _ (w9.drewN 1)
        generalize w9.drewN 1 = wz at *
        refine wpAnyH_take (i := 0) (oi := _) (v := .pointer (some ⟨d, 0, none⟩)) rfl (by kernel_rfl) (by kernel_rfl) (by kernel_rfl) (fun _ _ _ h => h) (Or.inl ⟨by rfl, by intro w hSw; go_simp⟩) HS9.out ?_
        simp only [List.getElem_toArray, List.getElem_cons_zero, List.getElem_cons_succ, Act.put, List.setIfInBounds_toArray, List.set_cons_zero, List.set_cons_succ]
        refine wpAnyH_take (i := 1) (oi := _) (v := .pointer (some ⟨d, 0, none⟩)) rfl (by kernel_rfl) (by kernel_rfl) (by kernel_rfl) (fun _ _ _ h => h) (Or.inl ⟨by rfl, by intro w hSw; go_simp⟩) HS9.out ?_
        simp only [List.getElem_toArray, List.getElem_cons_zero, List.getElem_cons_succ, Act.put, List.setIfInBounds_toArray, List.set_cons_zero, List.set_cons_succ]
        refine wpAnyH_take (i := 2) (oi := _) (v := .pointer (some ⟨d, 0, none⟩)) rfl (by kernel_rfl) (by kernel_rfl) (by kernel_rfl) (fun _ _ _ h => h) (Or.inl ⟨by rfl, by intro w hSw; go_simp⟩) HS9.out ?_
        simp only [List.getElem_toArray, List.getElem_cons_zero, List.getElem_cons_succ, Act.put, List.setIfInBounds_toArray, List.set_cons_zero, List.set_cons_succ]
        refine wpAnyH_take (i := 3) (oi := _) (v := .pointer (some ra)) rfl (by kernel_rfl) (by kernel_rfl) (by kernel_rfl) (fun _ _ _ h => h) (Or.inl ⟨by rfl, by intro w hSw; have hcc : w.cell? ⟨d, 0, none⟩ = some (.pointer (some ra)) := hSw.1.cell 0; go_simp⟩) HS9.out ?_
        simp only [List.getElem_toArray, List.getElem_cons_zero, List.getElem_cons_succ, Act.put, List.setIfInBounds_toArray, List.set_cons_zero, List.set_cons_succ]
        refine wpAnyH_take (i := 4) (oi := _) (v := .pointer (some ⟨ab, 37, none⟩)) rfl (by kernel_rfl) (by kernel_rfl) (by kernel_rfl) (fun _ _ _ h => h) (Or.inl ⟨by rfl, by intro w hSw; go_simp⟩) HS9.out ?_
        simp only [List.getElem_toArray, List.getElem_cons_zero, List.getElem_cons_succ, Act.put, List.setIfInBounds_toArray, List.set_cons_zero, List.set_cons_succ]
        refine wpAnyH_take (i := 5) (oi := _) (v := .slice ad nb cp) rfl (by kernel_rfl) (by kernel_rfl) (by kernel_rfl) (fun _ _ _ h => h) (Or.inl ⟨by rfl, by intro w hSw; have hcc := (HRW.out w hSw.2).2.2.2.2; rw [HABC.out.1, HABC.out.2.1, HABC.out.2.2] at hcc; go_simp⟩) HS9.out ?_
        simp only [List.getElem_toArray, List.getElem_cons_zero, List.getElem_cons_succ, Act.put, List.setIfInBounds_toArray, List.set_cons_zero, List.set_cons_succ]
        refine wpAnyH_ready (rs := [6]) (by kernel_rfl) (by simp) ?_
        refine AllReadyH.cons rfl (fun K hK => ?_) AllReadyH.nil
        go_simp
        (with_reducible refine KO.out.mono ?_)
        rintro e w10 ⟨⟨zz, rfl⟩, h10, hk10⟩
        have hs10 := And.intro hk10 (show Blk w10 ab 46 V.toArray from h10.blk List.mem_cons_self)
        clear KO hk10
        go_wp2_with fail
        refine hK.out _ _ hs10 (fun _ => ?_)
        clear hK K
        try simp only [List.getElem_toArray, List.getElem_cons_zero, List.getElem_cons_succ, Act.put, List.setIfInBounds_toArray, List.set_cons_zero, List.set_cons_succ]
        refine wpAnyH_done (by kernel_rfl) ?_ _
        clear hs10
        go_upto_region 28 with fail
        obtain ⟨f2, hf2⟩ : ∃ f2, blurF f a.b = f2 := ⟨_, rfl⟩
        rw [hf2] at h10
        have H10 := Lib.hid h10
        have HFL := Lib.hid (show f2.L.length ≤ j + 1 ∧ f2.asked ≤ j + 1 ∧ f2.loads ≤ j + 1 from by
          have e3 := HST.out
          rw [← hf2]
          show f.L.length ≤ j + 1 ∧ f.asked ≤ j + 1 ∧ f.loads ≤ j + 1
          omega
          )
        clear h10 hf2
        have KC := fcostL K Rfd.firm H10.out
        obtain ⟨na, hna⟩ : ∃ n, f2.asked = n := ⟨_, rfl⟩
        obtain ⟨nl, hnl⟩ : ∃ n, f2.loads = n := ⟨_, rfl⟩
        rw [hna, hnl] at KC
        replace KC := Lib.hid KC
        have HNA := Lib.hid (And.intro hna hnl)
        clear hna hnl
        go_upto_region 29 with (go_at_call 18; (with_reducible refine KC.out.mono ?_); rintro e w11 ⟨rfl, h11⟩; have H11 := Lib.hid h11; clear h11)
        obtain ⟨ra, rb, rc, hbk, _⟩ := rfd_at H11.out
        rw [HNA.out.1, HNA.out.2] at hbk
        have e3 : w11.cell? ⟨d, 3, none⟩ = some (.int .i64 (na : Nat)) := hbk.cell 3
        have e4 : w11.cell? ⟨d, 4, none⟩ = some (.int .i64 (nl : Nat)) := hbk.cell 4
        clear hbk
        go_wp2_with fail
        go_roundw
        case rel => exact ⟨j + 1, f2, by omega, by go_num, Lib.hid ⟨H11.out.drop, HFL.out⟩⟩
        case measure => simp [intOf]; omega
    · obtain rfl : j = m := by omega
      obtain ⟨L, hL⟩ : ∃ L, f.L = L := ⟨_, rfl⟩
      obtain ⟨N, hN⟩ : ∃ N, L.length = N := ⟨_, rfl⟩
      have hN2 : N ≤ 150 := by have := hst.out.2.1; rw [hL, hN] at this; have := HM.out.2; omega
      have HTB := Lib.hid hst.out.1
      have HN := Lib.hid (And.intro hN hL)
      -- what holds in every world from here on
      have FACT := Lib.hid (show ∀ W, Below wr.heap.size wr W → TwoB Ft Rfd w2 W s ⟨d, 0, none⟩ f f [(kb, Obj.cells X0.toArray 29 (0, 0))] from fun W hW => HTB.out.on K.firm Rfd.firm hW)
      obtain ⟨ra, rb, rc, hbk, Fx, dx, AR, cR, rfl, hRX, _⟩ := rfd_at HTB.out
      rw [hL] at hRX
      have HC := Lib.hid (show ∀ W, Below wr.heap.size wr W → W.cell? ⟨d, 2, none⟩ = some (.pointer (some ⟨dx, 0, none⟩)) ∧ W.cell? ⟨dx, 0, none⟩ = some (.slice AR N cR) ∧ RIx W dx AR cR L from fun W hW => ⟨(hbk.below hW hbk.lt).cell 2, by rw [← hN]; exact (hRX.blk.below hW hRX.blk.lt).cell 0, hRX.on hW⟩)
      obtain ⟨DV, hDV⟩ : ∃ DV, bv ky.1 = DV := ⟨_, rfl⟩
      obtain ⟨nk, hnk⟩ : ∃ nk, ky.2 = nk := ⟨_, rfl⟩
      have hnk2 : nk < 4294967296 := by rw [← hnk]; exact HX0.out.2.2
      have HKB := Lib.hid (show ∀ W, Below wr.heap.size wr W → W.rangeAt kb 0 DV ∧ W.cell? ⟨kb, 32, none⟩ = some (.int .u32 (nk : Nat)) from fun W hW => by
        have h1 := range_of_blk ((FACT.out W hW).blk List.mem_cons_self)
        rw [← HX0.out.1] at h1
        refine ⟨hDV ▸ range_sum h1, ?_⟩
        have := h1 32 (.int .u32 (nk : Nat)) (by
          unfold kcs
          rw [List.getElem?_append_right (by rw [bv_length, HX0.out.2.1]; exact Nat.le_refl _), bv_length, HX0.out.2.1, hnk]
          rfl)
        rwa [Nat.zero_add] at this)
      have HDS := Lib.hid (show (Tryz.prog.info? 26).map (·.size) = some DV.length from by rw [← hDV, bv_length, HX0.out.2.1]; exact sum_size)
      have cnk : IntKind.i64.wrap (nk : Int) = (nk : Int) := by rw [IntKind.wrap_i64]; omega
      have hsh : In64 (nk : Int) := ⟨by omega, by omega⟩
      obtain ⟨n1, hn1⟩ : ∃ n1, (twinsX L ky.1).length = n1 := ⟨_, rfl⟩
      obtain ⟨n2, hn2⟩ : ∃ n2, (shelfX L (nk : Int)).length = n2 := ⟨_, rfl⟩
      have hn12 : n1 ≤ N ∧ n2 ≤ N := by rw [← hn1, ← hn2, ← hN]; exact ⟨twinsX_length _ _, shelfX_length _ _⟩
      have ft := fun W (hW : Below wr.heap.size wr W) => show ∃ F, Ft W s F f from by
        obtain ⟨F, G, h1, _⟩ := FACT.out W hW
        exact ⟨F, h1⟩
      have hl9 : f.L.length ≤ 900 := by rw [hL, hN]; omega
      have CT1 := fun W (hW : Below wr.heap.size wr W) => (ft W hW).elim fun F h => K.twins s F f ky.1 W h hl9 HX0.out.2.1
      have CT2 := fun W (hW : Below wr.heap.size wr W) => rtwins_any W dx AR cR L (HC.out W hW).2.2 (by rw [hN]; omega) ky.1 HX0.out.2.1
      have CH1 := fun W (hW : Below wr.heap.size wr W) => (ft W hW).elim fun F h => K.shelf s F f (nk : Int) W h hl9 hsh
      have CH2 := fun W (hW : Below wr.heap.size wr W) => rshelf_any W dx AR cR L (HC.out W hW).2.2 (by rw [hN]; omega) (nk : Int) hsh
      have CA := fun W (hW : Below wr.heap.size wr W) => (ft W hW).elim fun F h => K.all s F f W h hl9
      have CL := fun W (hW : Below wr.heap.size wr W) => (ft W hW).elim fun F h => K.len s F f W h hl9
      simp only [hL, hDV, hn1] at CT1 CT2
      simp only [hL, hn2] at CH1 CH2
      simp only [hL, hN] at CA CL
      replace CT1 := Lib.hid CT1
      replace CT2 := Lib.hid CT2
      replace CH1 := Lib.hid CH1
      replace CH2 := Lib.hid CH2
      replace CA := Lib.hid CA
      replace CL := Lib.hid CL
      have CS := Lib.hid (fun A1 c1 A2 c2 W (h1 : RdK W W.heap.size A1 (twinsX L ky.1)) (h2 : RdK W W.heap.size A2 (twinsX L ky.1)) => rsamekeys_any A1 (twinsX L ky.1) n1 c1 A2 (twinsX L ky.1) n1 c2 hn1 hn1 (by omega) W h1 h2)
      have CR := Lib.hid (fun A1 c1 A2 c2 W (h1 : RdRw W W.heap.size A1 (shelfX L (nk : Int))) (h2 : RdRw W W.heap.size A2 (shelfX L (nk : Int))) => rsamerows_any A1 (shelfX L (nk : Int)) n2 c1 A2 (shelfX L (nk : Int)) n2 c2 hn2 hn2 (by omega) W h1 h2)
      have CR2 := Lib.hid (fun A1 c1 A2 c2 W (h1 : RdRw W W.heap.size A1 L) (h2 : RdRw W W.heap.size A2 L) => rsamerows_any A1 L N c1 A2 L N c2 hN hN (by omega) W h1 h2)
      rw [decide_eq_true rfl] at CS CR CR2
      have HBW := Lib.hid (fun W (hW : Below wr.heap.size wr W) => show Below w.heap.size w W from HB.out.trans (((FACT.out W hW).bel).mono HB.out.size))
      have b0 : Below wr.heap.size wr wr.drew := below_drewN (Below.refl wr.heap.size wr) 1
      clear hst hRX hbk hDV hn1 hn2 ft hl9 hN hL hnk
      go_upto_region 32 with fail
      refine wp_region_held_drew (S := fun W => Below wr.heap.size wr W) (by kernel_rfl) b0 (fun hHeld => ?_)
      refine wpAnyH_take (i := 0) (oi := _) (v := .bool true) rfl (by kernel_rfl) (by kernel_rfl) (by kernel_rfl) (fun _ _ _ h => h) (Or.inl ⟨by rfl, by intro w hSw; go_simp⟩) b0 ?_
      simp only [List.getElem_toArray, List.getElem_cons_zero, List.getElem_cons_succ, Act.put, List.setIfInBounds_toArray, List.set_cons_zero, List.set_cons_succ]
      refine wpAnyH_take (i := 1) (oi := _) (v := .bool true) rfl (by kernel_rfl) (by kernel_rfl) (by kernel_rfl) (fun _ _ _ h => h) (Or.inl ⟨by rfl, by intro w hSw; go_simp⟩) b0 ?_
      simp only [List.getElem_toArray, List.getElem_cons_zero, List.getElem_cons_succ, Act.put, List.setIfInBounds_toArray, List.set_cons_zero, List.set_cons_succ]
      refine wpAnyH_take (i := 2) (oi := _) (v := .pointer (some s)) rfl (by kernel_rfl) (by kernel_rfl) (by kernel_rfl) (fun _ _ _ h => h) (Or.inl ⟨by rfl, by intro w hSw; go_simp⟩) b0 ?_
      simp only [List.getElem_toArray, List.getElem_cons_zero, List.getElem_cons_succ, Act.put, List.setIfInBounds_toArray, List.set_cons_zero, List.set_cons_succ]
      refine wpAnyH_take (i := 4) (oi := _) (v := .pointer (some ⟨d, 0, none⟩)) rfl (by kernel_rfl) (by kernel_rfl) (by kernel_rfl) (fun _ _ _ h => h) (Or.inl ⟨by rfl, by intro w hSw; go_simp⟩) b0 ?_
      simp only [List.getElem_toArray, List.getElem_cons_zero, List.getElem_cons_succ, Act.put, List.setIfInBounds_toArray, List.set_cons_zero, List.set_cons_succ]
      refine wpAnyH_take (i := 5) (oi := _) (v := .pointer (some ⟨d, 0, none⟩)) rfl (by kernel_rfl) (by kernel_rfl) (by kernel_rfl) (fun _ _ _ h => h) (Or.inl ⟨by rfl, by intro w hSw; go_simp⟩) b0 ?_
      simp only [List.getElem_toArray, List.getElem_cons_zero, List.getElem_cons_succ, Act.put, List.setIfInBounds_toArray, List.set_cons_zero, List.set_cons_succ]
      refine wpAnyH_take (i := 6) (oi := _) (v := .pointer (some ⟨d, 2, none⟩)) rfl (by kernel_rfl) (by kernel_rfl) (by kernel_rfl) (fun _ _ _ h => h) (Or.inl ⟨by rfl, by intro w hSw; go_simp⟩) b0 ?_
      simp only [List.getElem_toArray, List.getElem_cons_zero, List.getElem_cons_succ, Act.put, List.setIfInBounds_toArray, List.set_cons_zero, List.set_cons_succ]
      refine wpAnyH_take (i := 7) (oi := _) (v := .pointer (some ⟨dx, 0, none⟩)) rfl (by kernel_rfl) (by kernel_rfl) (by kernel_rfl) (fun _ _ _ h => h) (Or.inl ⟨by rfl, by intro w hSw; have hcc := (HC.out w hSw).1; go_simp⟩) b0 ?_
      simp only [List.getElem_toArray, List.getElem_cons_zero, List.getElem_cons_succ, Act.put, List.setIfInBounds_toArray, List.set_cons_zero, List.set_cons_succ]
      refine wpAnyH_take (i := 8) (oi := _) (v := .pointer (some ⟨dx, 0, none⟩)) rfl (by kernel_rfl) (by kernel_rfl) (by kernel_rfl) (fun _ _ _ h => h) (Or.inl ⟨by rfl, by intro w hSw; go_simp⟩) b0 ?_
      simp only [List.getElem_toArray, List.getElem_cons_zero, List.getElem_cons_succ, Act.put, List.setIfInBounds_toArray, List.set_cons_zero, List.set_cons_succ]
      refine wpAnyH_take (i := 9) (oi := _) (v := .pointer (some ⟨dx, 0, none⟩)) rfl (by kernel_rfl) (by kernel_rfl) (by kernel_rfl) (fun _ _ _ h => h) (Or.inl ⟨by rfl, by intro w hSw; go_simp⟩) b0 ?_
      simp only [List.getElem_toArray, List.getElem_cons_zero, List.getElem_cons_succ, Act.put, List.setIfInBounds_toArray, List.set_cons_zero, List.set_cons_succ]
      refine wpAnyH_take (i := 10) (oi := _) (v := .slice AR N cR) rfl (by kernel_rfl) (by kernel_rfl) (by kernel_rfl) (fun _ _ _ h => h) (Or.inl ⟨by rfl, by intro w hSw; have hcc := (HC.out w hSw).2.1; go_simp⟩) b0 ?_
      simp only [List.getElem_toArray, List.getElem_cons_zero, List.getElem_cons_succ, Act.put, List.setIfInBounds_toArray, List.set_cons_zero, List.set_cons_succ]
      refine wpAnyH_ready (rs := [3]) (by kernel_rfl) (by simp) ?_
      refine AllReadyH.cons rfl (fun K hK => ?_) AllReadyH.nil
      go_simp
      (go_at_call 20; (with_reducible refine (CA.out _ b0).mono ?_))
      rintro e x1 ⟨A1, c1, rfl, hr1, _, _, _, hb9⟩
      have HR1 := Lib.hid hr1
      clear hr1
      have b1 := b0.trans (hb9.mono b0.size)
      go_wp2_with fail
      refine hK.out _ _ b1 (fun _ => ?_)
      clear hK K
      try simp only [List.getElem_toArray, List.getElem_cons_zero, List.getElem_cons_succ, Act.put, List.setIfInBounds_toArray, List.set_cons_zero, List.set_cons_succ]
      refine wpAnyH_ready (rs := [11]) (by kernel_rfl) (by simp) ?_
      refine AllReadyH.cons rfl (fun K hK => ?_) AllReadyH.nil
      go_simp
      (go_at_call 19; (with_reducible refine (CR2.out _ _ _ _ _ HR1.out (HC.out _ b1).2.2.rows).mono ?_))
      rintro e x2 ⟨rfl, hb9⟩
      have b2 := b1.trans (hb9.mono b1.size)
      go_wp2_with fail
      refine hK.out _ _ b2 (fun _ => ?_)
      clear hK K
      try simp only [List.getElem_toArray, List.getElem_cons_zero, List.getElem_cons_succ, Act.put, List.setIfInBounds_toArray, List.set_cons_zero, List.set_cons_succ]
      refine wpAnyH_take (i := 12) (oi := _) (v := .bool true) rfl (by kernel_rfl) (by kernel_rfl) (by kernel_rfl) (fun _ _ _ h => h) (Or.inl ⟨by rfl, by intro w hSw; go_simp⟩) b2 ?_
      simp only [List.getElem_toArray, List.getElem_cons_zero, List.getElem_cons_succ, Act.put, List.setIfInBounds_toArray, List.set_cons_zero, List.set_cons_succ]
      refine wpAnyH_take (i := 13) (oi := _) (v := .bool true) rfl (by kernel_rfl) (by kernel_rfl) (by kernel_rfl) (fun _ _ _ h => h) (Or.inl ⟨by rfl, by intro w hSw; go_simp⟩) b2 ?_
      simp only [List.getElem_toArray, List.getElem_cons_zero, List.getElem_cons_succ, Act.put, List.setIfInBounds_toArray, List.set_cons_zero, List.set_cons_succ]
      refine wpAnyH_take (i := 14) (oi := _) (v := .pointer (some s)) rfl (by kernel_rfl) (by kernel_rfl) (by kernel_rfl) (fun _ _ _ h => h) (Or.inl ⟨by rfl, by intro w hSw; go_simp⟩) b2 ?_
      simp only [List.getElem_toArray, List.getElem_cons_zero, List.getElem_cons_succ, Act.put, List.setIfInBounds_toArray, List.set_cons_zero, List.set_cons_succ]
      refine wpAnyH_take (i := 16) (oi := _) (v := .pointer (some ⟨d, 0, none⟩)) rfl (by kernel_rfl) (by kernel_rfl) (by kernel_rfl) (fun _ _ _ h => h) (Or.inl ⟨by rfl, by intro w hSw; go_simp⟩) b2 ?_
      simp only [List.getElem_toArray, List.getElem_cons_zero, List.getElem_cons_succ, Act.put, List.setIfInBounds_toArray, List.set_cons_zero, List.set_cons_succ]
      refine wpAnyH_take (i := 17) (oi := _) (v := .pointer (some ⟨d, 0, none⟩)) rfl (by kernel_rfl) (by kernel_rfl) (by kernel_rfl) (fun _ _ _ h => h) (Or.inl ⟨by rfl, by intro w hSw; go_simp⟩) b2 ?_
      simp only [List.getElem_toArray, List.getElem_cons_zero, List.getElem_cons_succ, Act.put, List.setIfInBounds_toArray, List.set_cons_zero, List.set_cons_succ]
      refine wpAnyH_take (i := 18) (oi := _) (v := .pointer (some ⟨d, 2, none⟩)) rfl (by kernel_rfl) (by kernel_rfl) (by kernel_rfl) (fun _ _ _ h => h) (Or.inl ⟨by rfl, by intro w hSw; go_simp⟩) b2 ?_
      simp only [List.getElem_toArray, List.getElem_cons_zero, List.getElem_cons_succ, Act.put, List.setIfInBounds_toArray, List.set_cons_zero, List.set_cons_succ]
      refine wpAnyH_take (i := 19) (oi := _) (v := .pointer (some ⟨dx, 0, none⟩)) rfl (by kernel_rfl) (by kernel_rfl) (by kernel_rfl) (fun _ _ _ h => h) (Or.inl ⟨by rfl, by intro w hSw; have hcc := (HC.out w hSw).1; go_simp⟩) b2 ?_
      simp only [List.getElem_toArray, List.getElem_cons_zero, List.getElem_cons_succ, Act.put, List.setIfInBounds_toArray, List.set_cons_zero, List.set_cons_succ]
      refine wpAnyH_take (i := 20) (oi := _) (v := .pointer (some ⟨dx, 0, none⟩)) rfl (by kernel_rfl) (by kernel_rfl) (by kernel_rfl) (fun _ _ _ h => h) (Or.inl ⟨by rfl, by intro w hSw; go_simp⟩) b2 ?_
      simp only [List.getElem_toArray, List.getElem_cons_zero, List.getElem_cons_succ, Act.put, List.setIfInBounds_toArray, List.set_cons_zero, List.set_cons_succ]
      refine wpAnyH_take (i := 21) (oi := _) (v := .pointer (some ⟨dx, 0, none⟩)) rfl (by kernel_rfl) (by kernel_rfl) (by kernel_rfl) (fun _ _ _ h => h) (Or.inl ⟨by rfl, by intro w hSw; go_simp⟩) b2 ?_
      simp only [List.getElem_toArray, List.getElem_cons_zero, List.getElem_cons_succ, Act.put, List.setIfInBounds_toArray, List.set_cons_zero, List.set_cons_succ]
      refine wpAnyH_take (i := 22) (oi := _) (v := .slice AR N cR) rfl (by kernel_rfl) (by kernel_rfl) (by kernel_rfl) (fun _ _ _ h => h) (Or.inl ⟨by rfl, by intro w hSw; have hcc := (HC.out w hSw).2.1; go_simp⟩) b2 ?_
      simp only [List.getElem_toArray, List.getElem_cons_zero, List.getElem_cons_succ, Act.put, List.setIfInBounds_toArray, List.set_cons_zero, List.set_cons_succ]
      refine wpAnyH_take (i := 23) (oi := _) (v := .int .i64 (N : Nat)) rfl (by kernel_rfl) (by kernel_rfl) (by kernel_rfl) (fun _ _ _ h => h) (Or.inl ⟨by rfl, by intro w hSw; go_simp⟩) b2 ?_
      simp only [List.getElem_toArray, List.getElem_cons_zero, List.getElem_cons_succ, Act.put, List.setIfInBounds_toArray, List.set_cons_zero, List.set_cons_succ]
      refine wpAnyH_ready (rs := [15]) (by kernel_rfl) (by simp) ?_
      refine AllReadyH.cons rfl (fun K hK => ?_) AllReadyH.nil
      go_simp
      (go_at_call 21; (with_reducible refine (CL.out _ b2).mono ?_))
      rintro e x3 ⟨rfl, hb9⟩
      have b3 := b2.trans (hb9.mono b2.size)
      go_wp2_with fail
      refine hK.out _ _ b3 (fun _ => ?_)
      clear hK K
      try simp only [List.getElem_toArray, List.getElem_cons_zero, List.getElem_cons_succ, Act.put, List.setIfInBounds_toArray, List.set_cons_zero, List.set_cons_succ]
      refine wpAnyH_take (i := 24) (oi := _) (v := .bool true) rfl (by kernel_rfl) (by kernel_rfl) (by kernel_rfl) (fun _ _ _ h => h) (Or.inl ⟨by rfl, by intro w hSw; go_simp⟩) b3 ?_
      simp only [List.getElem_toArray, List.getElem_cons_zero, List.getElem_cons_succ, Act.put, List.setIfInBounds_toArray, List.set_cons_zero, List.set_cons_succ]
      refine wpAnyH_take (i := 25) (oi := _) (v := .bool true) rfl (by kernel_rfl) (by kernel_rfl) (by kernel_rfl) (fun _ _ _ h => h) (Or.inl ⟨by rfl, by intro w hSw; go_simp⟩) b3 ?_
      simp only [List.getElem_toArray, List.getElem_cons_zero, List.getElem_cons_succ, Act.put, List.setIfInBounds_toArray, List.set_cons_zero, List.set_cons_succ]
      refine wpAnyH_take (i := 26) (oi := _) (v := .bool true) rfl (by kernel_rfl) (by kernel_rfl) (by kernel_rfl) (fun _ _ _ h => h) (Or.inl ⟨by rfl, by intro w hSw; go_simp⟩) b3 ?_
      simp only [List.getElem_toArray, List.getElem_cons_zero, List.getElem_cons_succ, Act.put, List.setIfInBounds_toArray, List.set_cons_zero, List.set_cons_succ]
      refine wpAnyH_take (i := 27) (oi := _) (v := .pointer (some s)) rfl (by kernel_rfl) (by kernel_rfl) (by kernel_rfl) (fun _ _ _ h => h) (Or.inl ⟨by rfl, by intro w hSw; go_simp⟩) b3 ?_
      simp only [List.getElem_toArray, List.getElem_cons_zero, List.getElem_cons_succ, Act.put, List.setIfInBounds_toArray, List.set_cons_zero, List.set_cons_succ]
      refine wpAnyH_take (i := 28) (oi := _) (v := .pointer (some ⟨kb, 0, none⟩)) rfl (by kernel_rfl) (by kernel_rfl) (by kernel_rfl) (fun _ _ _ h => h) (Or.inl ⟨by rfl, by intro w hSw; go_simp⟩) b3 ?_
      simp only [List.getElem_toArray, List.getElem_cons_zero, List.getElem_cons_succ, Act.put, List.setIfInBounds_toArray, List.set_cons_zero, List.set_cons_succ]
      refine wpAnyH_take (i := 29) (oi := _) (v := .agg DV.toArray) rfl (by kernel_rfl) (by kernel_rfl) (by kernel_rfl) (fun _ _ _ h => h) (yields_mid (by rfl) 26 (.tmp 196) rfl kb 0 rfl DV (.array an ae) (fun W hW => (HKB.out W hW).1) HF.out.2.2.2 rfl HDS.out) b3 ?_
      simp only [List.getElem_toArray, List.getElem_cons_zero, List.getElem_cons_succ, Act.put, List.setIfInBounds_toArray, List.set_cons_zero, List.set_cons_succ]
      refine wpAnyH_take (i := 31) (oi := _) (v := .pointer (some ⟨d, 0, none⟩)) rfl (by kernel_rfl) (by kernel_rfl) (by kernel_rfl) (fun _ _ _ h => h) (Or.inl ⟨by rfl, by intro w hSw; go_simp⟩) b3 ?_
      simp only [List.getElem_toArray, List.getElem_cons_zero, List.getElem_cons_succ, Act.put, List.setIfInBounds_toArray, List.set_cons_zero, List.set_cons_succ]
      refine wpAnyH_take (i := 32) (oi := _) (v := .pointer (some ⟨d, 0, none⟩)) rfl (by kernel_rfl) (by kernel_rfl) (by kernel_rfl) (fun _ _ _ h => h) (Or.inl ⟨by rfl, by intro w hSw; go_simp⟩) b3 ?_
      simp only [List.getElem_toArray, List.getElem_cons_zero, List.getElem_cons_succ, Act.put, List.setIfInBounds_toArray, List.set_cons_zero, List.set_cons_succ]
      refine wpAnyH_take (i := 33) (oi := _) (v := .pointer (some ⟨d, 2, none⟩)) rfl (by kernel_rfl) (by kernel_rfl) (by kernel_rfl) (fun _ _ _ h => h) (Or.inl ⟨by rfl, by intro w hSw; go_simp⟩) b3 ?_
      simp only [List.getElem_toArray, List.getElem_cons_zero, List.getElem_cons_succ, Act.put, List.setIfInBounds_toArray, List.set_cons_zero, List.set_cons_succ]
      refine wpAnyH_take (i := 34) (oi := _) (v := .pointer (some ⟨dx, 0, none⟩)) rfl (by kernel_rfl) (by kernel_rfl) (by kernel_rfl) (fun _ _ _ h => h) (Or.inl ⟨by rfl, by intro w hSw; have hcc := (HC.out w hSw).1; go_simp⟩) b3 ?_
      simp only [List.getElem_toArray, List.getElem_cons_zero, List.getElem_cons_succ, Act.put, List.setIfInBounds_toArray, List.set_cons_zero, List.set_cons_succ]
      refine wpAnyH_take (i := 35) (oi := _) (v := .pointer (some ⟨kb, 0, none⟩)) rfl (by kernel_rfl) (by kernel_rfl) (by kernel_rfl) (fun _ _ _ h => h) (Or.inl ⟨by rfl, by intro w hSw; go_simp⟩) b3 ?_
      simp only [List.getElem_toArray, List.getElem_cons_zero, List.getElem_cons_succ, Act.put, List.setIfInBounds_toArray, List.set_cons_zero, List.set_cons_succ]
      refine wpAnyH_take (i := 36) (oi := _) (v := .agg DV.toArray) rfl (by kernel_rfl) (by kernel_rfl) (by kernel_rfl) (fun _ _ _ h => h) (yields_mid (by rfl) 26 (.tmp 203) rfl kb 0 rfl DV (.array an ae) (fun W hW => (HKB.out W hW).1) HF.out.2.2.2 rfl HDS.out) b3 ?_
      simp only [List.getElem_toArray, List.getElem_cons_zero, List.getElem_cons_succ, Act.put, List.setIfInBounds_toArray, List.set_cons_zero, List.set_cons_succ]
      refine wpAnyH_ready (rs := [30]) (by kernel_rfl) (by simp) ?_
      refine AllReadyH.cons rfl (fun K hK => ?_) AllReadyH.nil
      go_simp
      (go_at_call 23; (with_reducible refine (CT1.out _ b3).mono ?_))
      rintro e x4 ⟨A4, c4, rfl, hk4, _, _, _, hb9⟩
      have b4 := b3.trans (hb9.mono b3.size)
      go_wp2_with fail
      refine hK.out _ _ b4 (fun _ => ?_)
      clear hK K
      try simp only [List.getElem_toArray, List.getElem_cons_zero, List.getElem_cons_succ, Act.put, List.setIfInBounds_toArray, List.set_cons_zero, List.set_cons_succ]
      refine wpAnyH_ready (rs := [37]) (by kernel_rfl) (by simp) ?_
      refine AllReadyH.cons rfl (fun K hK => ?_) AllReadyH.nil
      go_simp
      (go_at_call 24; (with_reducible refine (CT2.out _ b4).mono ?_))
      rintro e x5 ⟨A5, c5, rfl, hk5, hb9⟩
      have HKS := Lib.hid (And.intro (hk4.on hb9) hk5)
      clear hk4 hk5
      have b5 := b4.trans (hb9.mono b4.size)
      go_wp2_with fail
      refine hK.out _ _ b5 (fun _ => ?_)
      clear hK K
      try simp only [List.getElem_toArray, List.getElem_cons_zero, List.getElem_cons_succ, Act.put, List.setIfInBounds_toArray, List.set_cons_zero, List.set_cons_succ]
      refine wpAnyH_ready (rs := [38]) (by kernel_rfl) (by simp) ?_
      refine AllReadyH.cons rfl (fun K hK => ?_) AllReadyH.nil
      go_simp
      (go_at_call 22; (with_reducible refine (CS.out _ _ _ _ _ HKS.out.1 HKS.out.2).mono ?_))
      rintro e x6 ⟨rfl, hb9⟩
      have b6 := b5.trans (hb9.mono b5.size)
      go_wp2_with fail
      refine hK.out _ _ b6 (fun _ => ?_)
      clear hK K
      try simp only [List.getElem_toArray, List.getElem_cons_zero, List.getElem_cons_succ, Act.put, List.setIfInBounds_toArray, List.set_cons_zero, List.set_cons_succ]
      refine wpAnyH_take (i := 39) (oi := _) (v := .bool true) rfl (by kernel_rfl) (by kernel_rfl) (by kernel_rfl) (fun _ _ _ h => h) (Or.inl ⟨by rfl, by intro w hSw; go_simp⟩) b6 ?_
      simp only [List.getElem_toArray, List.getElem_cons_zero, List.getElem_cons_succ, Act.put, List.setIfInBounds_toArray, List.set_cons_zero, List.set_cons_succ]
      refine wpAnyH_take (i := 40) (oi := _) (v := .bool true) rfl (by kernel_rfl) (by kernel_rfl) (by kernel_rfl) (fun _ _ _ h => h) (Or.inl ⟨by rfl, by intro w hSw; go_simp⟩) b6 ?_
      simp only [List.getElem_toArray, List.getElem_cons_zero, List.getElem_cons_succ, Act.put, List.setIfInBounds_toArray, List.set_cons_zero, List.set_cons_succ]
      refine wpAnyH_take (i := 41) (oi := _) (v := .pointer (some s)) rfl (by kernel_rfl) (by kernel_rfl) (by kernel_rfl) (fun _ _ _ h => h) (Or.inl ⟨by rfl, by intro w hSw; go_simp⟩) b6 ?_
      simp only [List.getElem_toArray, List.getElem_cons_zero, List.getElem_cons_succ, Act.put, List.setIfInBounds_toArray, List.set_cons_zero, List.set_cons_succ]
      refine wpAnyH_take (i := 42) (oi := _) (v := .pointer (some ⟨kb, 32, none⟩)) rfl (by kernel_rfl) (by kernel_rfl) (by kernel_rfl) (fun _ _ _ h => h) (Or.inl ⟨by rfl, by intro w hSw; go_simp⟩) b6 ?_
      simp only [List.getElem_toArray, List.getElem_cons_zero, List.getElem_cons_succ, Act.put, List.setIfInBounds_toArray, List.set_cons_zero, List.set_cons_succ]
      refine wpAnyH_take (i := 43) (oi := _) (v := .int .u32 (nk : Nat)) rfl (by kernel_rfl) (by kernel_rfl) (by kernel_rfl) (fun _ _ _ h => h) (Or.inl ⟨by rfl, by intro w hSw; have hcc := (HKB.out w hSw).2; go_simp⟩) b6 ?_
      simp only [List.getElem_toArray, List.getElem_cons_zero, List.getElem_cons_succ, Act.put, List.setIfInBounds_toArray, List.set_cons_zero, List.set_cons_succ]
      refine wpAnyH_take (i := 44) (oi := _) (v := .int .i64 (nk : Int)) rfl (by kernel_rfl) (by kernel_rfl) (by kernel_rfl) (fun _ _ _ h => h) (Or.inl ⟨by rfl, by intro w hSw; go_simp⟩) b6 ?_
      simp only [List.getElem_toArray, List.getElem_cons_zero, List.getElem_cons_succ, Act.put, List.setIfInBounds_toArray, List.set_cons_zero, List.set_cons_succ]
      refine wpAnyH_take (i := 46) (oi := _) (v := .pointer (some ⟨d, 0, none⟩)) rfl (by kernel_rfl) (by kernel_rfl) (by kernel_rfl) (fun _ _ _ h => h) (Or.inl ⟨by rfl, by intro w hSw; go_simp⟩) b6 ?_
      simp only [List.getElem_toArray, List.getElem_cons_zero, List.getElem_cons_succ, Act.put, List.setIfInBounds_toArray, List.set_cons_zero, List.set_cons_succ]
      refine wpAnyH_take (i := 47) (oi := _) (v := .pointer (some ⟨d, 0, none⟩)) rfl (by kernel_rfl) (by kernel_rfl) (by kernel_rfl) (fun _ _ _ h => h) (Or.inl ⟨by rfl, by intro w hSw; go_simp⟩) b6 ?_
      simp only [List.getElem_toArray, List.getElem_cons_zero, List.getElem_cons_succ, Act.put, List.setIfInBounds_toArray, List.set_cons_zero, List.set_cons_succ]
      refine wpAnyH_take (i := 48) (oi := _) (v := .pointer (some ⟨d, 2, none⟩)) rfl (by kernel_rfl) (by kernel_rfl) (by kernel_rfl) (fun _ _ _ h => h) (Or.inl ⟨by rfl, by intro w hSw; go_simp⟩) b6 ?_
      simp only [List.getElem_toArray, List.getElem_cons_zero, List.getElem_cons_succ, Act.put, List.setIfInBounds_toArray, List.set_cons_zero, List.set_cons_succ]
      refine wpAnyH_take (i := 49) (oi := _) (v := .pointer (some ⟨dx, 0, none⟩)) rfl (by kernel_rfl) (by kernel_rfl) (by kernel_rfl) (fun _ _ _ h => h) (Or.inl ⟨by rfl, by intro w hSw; have hcc := (HC.out w hSw).1; go_simp⟩) b6 ?_
      simp only [List.getElem_toArray, List.getElem_cons_zero, List.getElem_cons_succ, Act.put, List.setIfInBounds_toArray, List.set_cons_zero, List.set_cons_succ]
      refine wpAnyH_take (i := 50) (oi := _) (v := .pointer (some ⟨kb, 32, none⟩)) rfl (by kernel_rfl) (by kernel_rfl) (by kernel_rfl) (fun _ _ _ h => h) (Or.inl ⟨by rfl, by intro w hSw; go_simp⟩) b6 ?_
      simp only [List.getElem_toArray, List.getElem_cons_zero, List.getElem_cons_succ, Act.put, List.setIfInBounds_toArray, List.set_cons_zero, List.set_cons_succ]
      refine wpAnyH_take (i := 51) (oi := _) (v := .int .u32 (nk : Nat)) rfl (by kernel_rfl) (by kernel_rfl) (by kernel_rfl) (fun _ _ _ h => h) (Or.inl ⟨by rfl, by intro w hSw; have hcc := (HKB.out w hSw).2; go_simp⟩) b6 ?_
      simp only [List.getElem_toArray, List.getElem_cons_zero, List.getElem_cons_succ, Act.put, List.setIfInBounds_toArray, List.set_cons_zero, List.set_cons_succ]
      refine wpAnyH_take (i := 52) (oi := _) (v := .int .i64 (nk : Int)) rfl (by kernel_rfl) (by kernel_rfl) (by kernel_rfl) (fun _ _ _ h => h) (Or.inl ⟨by rfl, by intro w hSw; go_simp⟩) b6 ?_
      simp only [List.getElem_toArray, List.getElem_cons_zero, List.getElem_cons_succ, Act.put, List.setIfInBounds_toArray, List.set_cons_zero, List.set_cons_succ]
      refine wpAnyH_ready (rs := [45]) (by kernel_rfl) (by simp) ?_
      refine AllReadyH.cons rfl (fun K hK => ?_) AllReadyH.nil
      go_simp
      (go_at_call 25; (with_reducible refine (CH1.out _ b6).mono ?_))
      rintro e x7 ⟨A7, c7, rfl, hr7, _, _, _, hb9⟩
      have b7 := b6.trans (hb9.mono b6.size)
      go_wp2_with fail
      refine hK.out _ _ b7 (fun _ => ?_)
      clear hK K
      try simp only [List.getElem_toArray, List.getElem_cons_zero, List.getElem_cons_succ, Act.put, List.setIfInBounds_toArray, List.set_cons_zero, List.set_cons_succ]
      refine wpAnyH_ready (rs := [53]) (by kernel_rfl) (by simp) ?_
      refine AllReadyH.cons rfl (fun K hK => ?_) AllReadyH.nil
      go_simp
      (go_at_call 26; (with_reducible refine (CH2.out _ b7).mono ?_))
      rintro e x8 ⟨A8, c8, rfl, hr8, hb9⟩
      have HRS := Lib.hid (And.intro (hr7.on hb9) hr8)
      clear hr7 hr8
      have b8 := b7.trans (hb9.mono b7.size)
      go_wp2_with fail
      refine hK.out _ _ b8 (fun _ => ?_)
      clear hK K
      try simp only [List.getElem_toArray, List.getElem_cons_zero, List.getElem_cons_succ, Act.put, List.setIfInBounds_toArray, List.set_cons_zero, List.set_cons_succ]
      refine wpAnyH_ready (rs := [54]) (by kernel_rfl) (by simp) ?_
      refine AllReadyH.cons rfl (fun K hK => ?_) AllReadyH.nil
      go_simp
      (go_at_call 19; (with_reducible refine (CR.out _ _ _ _ _ HRS.out.1 HRS.out.2).mono ?_))
      rintro e x9 ⟨rfl, hb9⟩
      have b9 := b8.trans (hb9.mono b8.size)
      go_wp2_with fail
      refine hK.out _ _ b9 (fun _ => ?_)
      clear hK K
      try simp only [List.getElem_toArray, List.getElem_cons_zero, List.getElem_cons_succ, Act.put, List.setIfInBounds_toArray, List.set_cons_zero, List.set_cons_succ]
      refine wpAnyH_take (i := 55) (oi := _) (v := .bool true) rfl (by kernel_rfl) (by kernel_rfl) (by kernel_rfl) (fun _ _ _ h => h) (Or.inl ⟨by rfl, by intro w hSw; go_simp⟩) b9 ?_
      simp only [List.getElem_toArray, List.getElem_cons_zero, List.getElem_cons_succ, Act.put, List.setIfInBounds_toArray, List.set_cons_zero, List.set_cons_succ]
      refine wpAnyH_take (i := 56) (oi := _) (v := .bool true) rfl (by kernel_rfl) (by kernel_rfl) (by kernel_rfl) (fun _ _ _ h => h) (Or.inl ⟨by rfl, by intro w hSw; go_simp⟩) b9 ?_
      simp only [List.getElem_toArray, List.getElem_cons_zero, List.getElem_cons_succ, Act.put, List.setIfInBounds_toArray, List.set_cons_zero, List.set_cons_succ]
      refine wpAnyH_done (by kernel_rfl) ?_ _
      have HB9 := Lib.hid (HBW.out _ b9)
      clear b0 b1 b2 b3 b4 b5 b6 b7 b8 b9 hHeld
      go_wp2_with fail
      go_ret
      exact ⟨rfl, HB9.out⟩
end
end Go.Proofs.YtoofhaoaogoomaaGreat
