/- VaultPlays' walk, told from what the package does. No statement of the seat is proved here. -/
import Derived.Test.YthbgcffnnholeaaVtTwo
import Derived.Test.YthbgcffnnholeaaVtShown
import Derived.Test.YthbgcffnnholeaaVtFew
import Derived.Test.YthbgcffnnholeaaBaseB
import Derived.Test.YthbgcffnnholeaaAppStep
import Derived.Deep.Cut
import Derived.BigQuiet
import Derived.Deep.MidRow
namespace Go.Proofs.Ythbgcffnnholeaa
open Go.RowKit
set_option linter.unusedVariables false
set_option linter.unusedSimpArgs false

section
variable {St : World → Addr → (Nat → Prop) → DS → Prop} {Vt : World → Addr → (Nat → Prop) → Addr → VS → Prop}
/-- All is made. -/
theorem p2_made (K : DisksOk St) (L : VaultsOk St Vt) {w w2 w3 w4 w5 : World} {d v : Addr} {F G : Nat → Prop} {m rd : Nat} {As : Option Addr} {cs : Nat} {V : VS} (hb2 : Below w.heap.size w w2) (h1 : St w3 d F (newS m)) (h2 : ∀ g, F g → w2.heap.size ≤ g) (hb3 : Below w2.heap.size w2 w3)
    (h3 : RD w4 rd As cs none 0 (newS m)) (hm : m ≤ 16384) (h4 : ∀ g, RF rd As cs none 0 (newS m) g → w3.heap.size ≤ g) (hb4 : Below w3.heap.size w3 w4)
    (h5 : Vt w5 v G d V) (h6 : ∀ g, G g → w4.heap.size ≤ g) (hb5 : Below w4.heap.size w4 w5) (hf : V.Fits m) : P2 St Vt v V w w5 d ⟨rd, 0, none⟩ (newS m) (newS m) [] := by
  have hb45 := hb4.trans (hb5.mono hb4.size)
  have k1 := K.below (K.below h1 hb4) hb5
  have hF := K.lt h1
  have hR := rf_lt h3
  have s3 := hb3.size
  have s2 := hb2.size
  refine ⟨fun g => F g ∨ G g, RF rd As cs none 0 (newS m), ⟨F, G, k1, h5, fun g hf hg => ?_, fun _ => Iff.rfl, hf⟩, ⟨rd, As, cs, none, 0, rfl, rd_keep h3 fun g hg => hb5.block g (hR g hg), DS.Ok.new hm, fun _ => Iff.rfl⟩, fun g hg hr => ?_, fun g hg => ?_, fun g hg => ?_, ?_, by simp⟩
  · have := hF g hf; have := h6 g hg; have := hb4.size; omega
  · have := h4 g hr
    have := hR g hr
    rcases hg with h | h
    · have := hF g h; omega
    · have := h6 g h; omega
  · rcases hg with h | h
    · have := h2 g h; omega
    · have := h6 g h; have := hb4.size; omega
  · have := h4 g hg; omega
  · exact (hb2.trans (hb3.mono hb2.size)).trans (hb45.mono (Nat.le_trans s2 s3))
theorem p2_cells {w0 w : World} {d v : Addr} {rd : Nat} {V : VS} {S T : DS} {E : List (Nat × Obj)} (h : P2 St Vt v V w0 w d ⟨rd, 0, none⟩ S T E) : w.cell? ⟨rd, 2, none⟩ = some (.bool T.off) ∧ w.cell? ⟨rd, 4, none⟩ = some (.int .i64 (T.cnt : Nat)) := by
  obtain ⟨G, d', As, cs, Ap, cp, e, hd, _⟩ := h.ref
  injection e with e _ _
  subst e
  exact ⟨hd.blk.cell 2, hd.blk.cell 4⟩
set_option maxRecDepth 100000 in
set_option maxHeartbeats 2000000 in
theorem plays_bad (K : DisksOk St) (L : VaultsOk St Vt) (sz : Nat) (h8 : sz < 256) (f e n : Int) (hf : In64 f) (he : In64 e) (hn : In64 n) (hbad : ¬ FitV (sz % 61) f e n) (A : Option Addr) (k c : Nat) (w : World) :
    Calls Try.prog 3 #[.agg #[.int .u8 sz, .int .i64 f, .int .i64 e, .int .i64 n], .slice A k c] w fun x w' => x = .returned (.bool true) ∧ Below w.heap.size w w' := by
  obtain ⟨m, hm⟩ : ∃ m, sz % 61 = m := ⟨_, rfl⟩
  have hmi : (sz : Int) % 61 = (m : Int) := by omega
  have hm61 : m ≤ 60 := by omega
  rw [hm] at hbad
  obtain ⟨w0, hw0⟩ : ∃ w0, w.alloc (.cells #[.int .u8 sz, .int .i64 f, .int .i64 e, .int .i64 n] 23) = w0 := ⟨_, rfl⟩
  obtain ⟨sb, hsb⟩ : ∃ sb, w.heap.size = sb := ⟨_, rfl⟩
  have HB0 := Lib.hid (show Blk w0 sb 23 #[.int .u8 sz, .int .i64 f, .int .i64 e, .int .i64 n] ∧ Below w.heap.size w w0 from ⟨by rw [← hw0, ← hsb]; exact Blk.new w _ _, hw0 ▸ (Below.refl _ _).alloc (Nat.le_refl _) _⟩)
  have HW0 := Lib.hid (And.intro hw0 hsb)
  have HBAD := Lib.hid hbad
  have HI := Lib.hid (And.intro hf (And.intro he hn))
  clear hm hw0 hsb hbad hf he hn
  go_enter Try.func3, Try.ntmps3
  go_upto_region 1 with fail
  rw [HW0.out.1, HW0.out.2]
  go_wp2_with fail
  refine (shown_any K L w0).mono ?_
  rintro x w2 ⟨rfl, hb2⟩
  have hk2 := HB0.out.1.below hb2 HB0.out.1.lt
  have hk0 : w2.cell? ⟨sb, 0, none⟩ = some (.int .u8 sz) := hk2.cell 0
  have H2 := Lib.hid (And.intro hk2 (HB0.out.2.trans (hb2.mono HB0.out.2.size)))
  clear hb2 hk2 HB0
  go_wp2_with fail
  refine (K.new m w2 (by omega)).mono ?_
  rintro x w3 ⟨d, F, rfl, h3, hF, hb3⟩
  have H3 := Lib.hid (And.intro h3 hb3)
  clear h3 hF hb3
  go_wp2_with fail
  refine (rnew_any m (by omega) w3).mono ?_
  rintro x w4 ⟨rd, As, cs, rfl, h4, hG, hb4⟩
  have hb34 := H3.out.2.trans (hb4.mono H3.out.2.size)
  have hk4 := H2.out.1.below hb34 H2.out.1.lt
  have hk1 : w4.cell? ⟨sb, 1, none⟩ = some (.int .i64 f) := hk4.cell 1
  have hk2 : w4.cell? ⟨sb, 2, none⟩ = some (.int .i64 e) := hk4.cell 2
  have hk3 : w4.cell? ⟨sb, 3, none⟩ = some (.int .i64 n) := hk4.cell 3
  have H4 := Lib.hid (And.intro (K.below H3.out.1 hb4) (And.intro h4 (And.intro hk4 (H2.out.2.trans (hb34.mono H2.out.2.size)))))
  clear h4 hG hb4 hb34 hk4 hk0 H3 H2
  go_wp2_with fail
  refine (L.bad d F (newS m) f e n w4 H4.out.1 HI.out.1 HI.out.2.1 HI.out.2.2 HBAD.out).mono ?_
  rintro x w5 ⟨rfl, hb5⟩
  have hk5 := H4.out.2.2.1.below hb5 H4.out.2.2.1.lt
  have hk1 : w5.cell? ⟨sb, 1, none⟩ = some (.int .i64 f) := hk5.cell 1
  have hk2 : w5.cell? ⟨sb, 2, none⟩ = some (.int .i64 e) := hk5.cell 2
  have hk3 : w5.cell? ⟨sb, 3, none⟩ = some (.int .i64 n) := hk5.cell 3
  have hr5 : RD w5 rd As cs none 0 (newS m) := rd_keep H4.out.2.1 fun g hg => hb5.block g (rf_lt H4.out.2.1 g hg)
  have KV := Lib.hid (rvnew_bad hr5 (by show m ≤ 16384; omega) f e n HBAD.out)
  have H5 := Lib.hid (H4.out.2.2.2.trans (hb5.mono H4.out.2.2.2.size))
  unfold rv0 at KV
  clear hb5 hk5 hr5 H4
  go_wp2_with fail
  refine KV.out.mono ?_
  rintro x w6 ⟨rfl, hb6⟩
  have H6 := Lib.hid (H5.out.trans (hb6.mono H5.out.size))
  clear hb6
  go_wp2_with fail
  go_ret
  exact ⟨rfl, H6.out.trans (((Below.refl w6.heap.size w6).alloc (Nat.le_refl _) _).mono H6.out.size)⟩
set_option maxRecDepth 100000 in
set_option maxHeartbeats 40000000 in
theorem plays_good (K : DisksOk St) (L : VaultsOk St Vt) (sz : Nat) (h8 : sz < 256) (f e n : Nat) (hfit : FitV (sz % 61) f e n) (A : Option Addr) (ka c : Nat) (ls : List DActT) (hl : ls.length = ka) (hc : ka ≤ c) (hmx : c ≤ maxLen) (w : World) (hr : RdD w w.heap.size A ls) :
    Calls Try.prog 3 #[.agg #[.int .u8 sz, .int .i64 f, .int .i64 e, .int .i64 n], .slice A ka c] w fun x w' => x = .returned (.bool true) ∧ Below w.heap.size w w' := by
  obtain ⟨m, hm⟩ : ∃ m, sz % 61 = m := ⟨_, rfl⟩
  have hmi : (sz : Int) % 61 = (m : Int) := by omega
  have hm61 : m ≤ 60 := by omega
  rw [hm] at hfit
  have hfm : f ≤ 60 ∧ e ≤ 16384 ∧ 1 ≤ e := by
    obtain ⟨q1, q2, q3, q4, q5, q6⟩ := hfit
    omega
  have hnm : n ≤ 60 := by
    obtain ⟨q1, q2, q3, q4, q5, q6⟩ := hfit
    have h7 : ((n * e : Nat) : Int) = (n : Int) * e := Int.natCast_mul n e
    have h9 : n * 1 ≤ n * e := Nat.mul_le_mul_left n (by omega)
    omega
  obtain ⟨V, hV⟩ : ∃ V : VS, VS.mk f e n = V := ⟨_, rfl⟩
  have hVF : V.Fits m := by have := hfit.fits; rw [← hV]; exact this
  obtain ⟨rm, hrm⟩ : ∃ rm, V.room = rm := ⟨_, rfl⟩
  have HV := Lib.hid (And.intro hV (And.intro hVF hrm))
  have HFIT := Lib.hid hfit
  obtain ⟨w0, hw0⟩ : ∃ w0, w.alloc (.cells #[.int .u8 sz, .int .i64 f, .int .i64 e, .int .i64 n] 23) = w0 := ⟨_, rfl⟩
  obtain ⟨sb, hsb⟩ : ∃ sb, w.heap.size = sb := ⟨_, rfl⟩
  have HB0 := Lib.hid (show Blk w0 sb 23 #[.int .u8 sz, .int .i64 f, .int .i64 e, .int .i64 n] ∧ Below w.heap.size w w0 from ⟨by rw [← hw0, ← hsb]; exact Blk.new w _ _, hw0 ▸ (Below.refl _ _).alloc (Nat.le_refl _) _⟩)
  have HW0 := Lib.hid (And.intro hw0 hsb)
  have HL := Lib.hid hl
  have HR := Lib.hid hr
  clear hm hw0 hsb hfit hV hVF hl hr hrm
  go_enter Try.func3, Try.ntmps3
  go_upto_region 1 with fail
  rw [HW0.out.1, HW0.out.2]
  go_wp2_with fail
  refine (shown_any K L w0).mono ?_
  rintro x w2 ⟨rfl, hb2⟩
  have hk2 := HB0.out.1.below hb2 HB0.out.1.lt
  have hk0 : w2.cell? ⟨sb, 0, none⟩ = some (.int .u8 sz) := hk2.cell 0
  have H2 := Lib.hid (And.intro hk2 (HB0.out.2.trans (hb2.mono HB0.out.2.size)))
  clear hb2 hk2 HB0
  go_wp2_with fail
  refine (K.new m w2 (by omega)).mono ?_
  rintro x w3 ⟨d, F, rfl, h3, hF, hb3⟩
  have H3 := Lib.hid (And.intro h3 (And.intro hF hb3))
  clear h3 hF hb3
  go_wp2_with fail
  refine (rnew_any m (by omega) w3).mono ?_
  rintro x w4 ⟨rd, As, cs, rfl, h4, hG, hb4⟩
  have hb34 := H3.out.2.2.trans (hb4.mono H3.out.2.2.size)
  have hk4 := H2.out.1.below hb34 H2.out.1.lt
  have hk1 : w4.cell? ⟨sb, 1, none⟩ = some (.int .i64 f) := hk4.cell 1
  have hk2 : w4.cell? ⟨sb, 2, none⟩ = some (.int .i64 e) := hk4.cell 2
  have hk3 : w4.cell? ⟨sb, 3, none⟩ = some (.int .i64 n) := hk4.cell 3
  have H4 := Lib.hid (And.intro h4 (And.intro hG (And.intro hb4 hk4)))
  have HK4 := Lib.hid (K.below H3.out.1 hb4)
  clear h4 hG hb4 hb34 hk4 hk0
  go_wp2_with fail
  refine (L.new d F (newS m) f e n w4 HK4.out ⟨by omega, by omega⟩ ⟨by omega, by omega⟩ ⟨by omega, by omega⟩ HFIT.out).mono ?_
  rintro x w5 ⟨v, G, rfl, hv5, hG5, hb5⟩
  have hv5 : Vt w5 v G d V := by rw [← HV.out.1]; exact hv5
  have hP := p2_made K L H2.out.2 H3.out.1 H3.out.2.1 H3.out.2.2 H4.out.1 (by omega) H4.out.2.1 H4.out.2.2.1 hv5 hG5 hb5 HV.out.2.1
  have hk5 := H4.out.2.2.2.below hb5 H4.out.2.2.2.lt
  have hk1 : w5.cell? ⟨sb, 1, none⟩ = some (.int .i64 f) := hk5.cell 1
  have hk2 : w5.cell? ⟨sb, 2, none⟩ = some (.int .i64 e) := hk5.cell 2
  have hk3 : w5.cell? ⟨sb, 3, none⟩ = some (.int .i64 n) := hk5.cell 3
  have hr5 : RD w5 rd As cs none 0 (newS m) := rd_keep H4.out.1 fun g hg => hb5.block g (rf_lt H4.out.1 g hg)
  have KV := rvnew_good hr5 (by show m ≤ 16384; omega) f e n HFIT.out
  unfold rvv at KV
  have KV : Calls Try.prog 11 #[.pointer (some ⟨rd, 0, none⟩), .int .i64 f, .int .i64 e, .int .i64 n] w5 fun x w' => x = .returned (.tuple #[.agg #[.pointer (some ⟨rd, 0, none⟩), .int .i64 f, .int .i64 e, .int .i64 n], .int .i64 0]) ∧ Below w5.heap.size w5 w' := KV
  replace KV := Lib.hid KV
  have HP := Lib.hid hP
  clear hb5 hk5 hr5 H4 H3 H2 HK4 hv5 hG5 hP
  go_wp2_with fail
  refine KV.out.mono ?_
  rintro x w6 ⟨rfl, hb6⟩
  obtain ⟨w7, hw7⟩ : ∃ w7, w6.alloc (.cells #[.pointer (some ⟨rd, 0, none⟩), .int .i64 f, .int .i64 e, .int .i64 n] 37) = w7 := ⟨_, rfl⟩
  obtain ⟨rb, hrb⟩ : ∃ rb, w6.heap.size = rb := ⟨_, rfl⟩
  have hP7 := P2.box K L (P2.on K L HP.out hb6) hrb hw7
  have hbk7 := P2.blk hP7 List.mem_cons_self
  have HW7 := Lib.hid (And.intro hw7 hrb)
  have hk0 := hbk7.cell 0
  have hk1 := hbk7.cell 1
  have hk2 := hbk7.cell 2
  have hk3 := hbk7.cell 3
  have q1 := fun dd os => Lib.hid (from_base (P := Try.prog) (w := w7) (fun W hW => by have := P2.room K L (P2.on K L hP7 hW); rw [HV.out.2.2] at this; exact this) dd os)
  have q2 := fun dd os => Lib.hid (from_base (P := Try.prog) (w := w7) (fun W hW => by have := rvroom_any ⟨rd, 0, none⟩ V HV.out.2.1.each.1 HV.out.2.1.each.2 W; rw [HV.out.2.2] at this; unfold rvv at this; rw [← HV.out.1] at this; exact this) dd os)
  have q3 := fun dd os => Lib.hid (from_base (P := Try.prog) (w := w7) (fun W hW => by have := P2.len K L (P2.on K L hP7 hW); rw [← HV.out.1] at this; exact this) dd os)
  have d0 := cell_base hk0
  have d1 := cell_base hk1
  have d2 := cell_base hk2
  have d3 := cell_base hk3
  have HP7 := Lib.hid hP7
  clear hb6 hw7 hrb hP7 hbk7 HP KV hk0 hk1 hk2 hk3
  go_upto_region 7 with fail
  rw [HW7.out.1, HW7.out.2]
  go_wp2_with fail
  refine wp_region_quiet_below (by kernel_rfl) (by kernel_rfl) ?_
  repeat (go_big_quiet_step (first | exact (q1 _ _).out | exact (q2 _ _).out | exact (q3 _ _).out))
  refine wpQuiet_nil ?_
  intro _ hw'
  obtain ⟨pq, rfl⟩ := hw'
  obtain ⟨w8, hw8, hb8⟩ := regrown_some w7 pq
  rw [hw8]
  have HP8 := Lib.hid (P2.on K L HP7.out hb8)
  clear d0 d1 d2 d3 q1 q2 q3 hw8 hb8 HP7
  have KF := Lib.hid (few_any A ka c ls HL.out hc hmx w8 ((HR.out.below HP8.out.bel).more HP8.out.bel.size))
  go_wp2_with fail
  refine KF.out.mono ?_
  rintro x w9 ⟨k, hk, hk60, hall, rfl, rfl⟩
  have HALL := Lib.hid hall
  clear hall KF
  go_wp2_with fail
  unfold maxLen at hmx
  go_loopw [95] (fun i wr => ∃ (j : Nat) (S : DS), j ≤ k ∧ i = .int .i64 j ∧ Hid (P2 St Vt v V w wr d ⟨rd, 0, none⟩ S S [(rb, Obj.cells #[.pointer (some ⟨rd, 0, none⟩), .int .i64 f, .int .i64 e, .int .i64 n] 37 (0, 0))] ∧ S.cnt ≤ 160 * j ∧ S.put.length ≤ 160 * j ∧ S.n = m)) (fun i _ => k - (intOf i).toNat)
  case atStart => exact ⟨0, _, Nat.zero_le _, rfl, Lib.hid ⟨HP8.out, Nat.le_refl _, Nat.le_refl _, rfl⟩⟩
  case round =>
    clear HP8
    obtain ⟨j, S, hj, rfl, hst⟩ := hrel
    by_cases hlt : j < k
    · have hjx : j < ls.length := by rw [HL.out]; omega
      obtain ⟨g, off, a, hA, hra, hok, hab, hae⟩ := HR.out.get hst.out.1.bel hjx hlt HALL.out
      subst hA
      have HOK := Lib.hid hok
      have HRA := Lib.hid hra
      have HKS := Lib.hid (show (Try.prog.info? 45).map (·.size) = some (dcs a).length from act_size)
      have HKS2 := Lib.hid (show (Try.prog.info? 45).map (·.size) = some (dcs a).toArray.size from act_size)
      have HOLD := Lib.hid (show dz.size = (dcs a).toArray.size from rfl)
      have HBZ := Lib.hid (Blk.new wr 45 dz)
      have HONE := Lib.hid (dcs_one a)
      obtain ⟨w5, hw5⟩ : ∃ w5, wr.alloc (.cells (dcs a).toArray 45) = w5 := ⟨_, rfl⟩
      obtain ⟨ab, habq⟩ : ∃ ab, wr.heap.size = ab := ⟨_, rfl⟩
      have h5 := P2.box K L hst.out.1 habq hw5
      have hbk5 := P2.blk h5 List.mem_cons_self
      have HFEW := Lib.hid (show FewBy 1000 S ∧ S.cnt ≤ 160 * j ∧ S.put.length ≤ 160 * j ∧ S.n = m ∧ V.Fits S.n from ⟨⟨by have := hst.out.2.2.1; omega, by have := hst.out.2.1; omega⟩, hst.out.2.1, hst.out.2.2.1, hst.out.2.2.2, by rw [hst.out.2.2.2]; exact HV.out.2.1⟩)
      have H5 := Lib.hid h5
      have HW5 := Lib.hid hw5
      have HAB := Lib.hid habq
      have HNB := Lib.hid hab
      obtain ⟨fs, hfs⟩ := act_desc
      have HF := Lib.hid hfs
      have hk0 : w5.cell? ⟨ab, 0, none⟩ = some (.int .u8 a.kind) := hbk5.cell 0
      have hk1 : w5.cell? ⟨ab, 1, none⟩ = some (.int .i64 a.at_) := hbk5.cell 1
      have hk2 : w5.cell? ⟨ab, 2, none⟩ = some (.int .i64 a.num) := hbk5.cell 2
      have hk3 : w5.cell? ⟨ab, 3, none⟩ = some (.slice a.adr a.b.length a.cap) := hbk5.cell 3
      have hk4 : w5.cell? ⟨ab, 4, none⟩ = some (.slice a.fadr a.fates.length a.fcap) := hbk5.cell 4
      have hi1 : (0 : Int) ≤ (j : Int) := by omega
      have hi2 : (j : Int) < (k : Int) := by omega
      obtain ⟨nb, hnb⟩ : ∃ nb, a.b.length = nb := ⟨_, rfl⟩
      obtain ⟨nf, hnf⟩ : ∃ nf, a.fates.length = nf := ⟨_, rfl⟩
      rw [hnb] at hk3
      rw [hnf] at hk4
      have HLB := Lib.hid (And.intro hnb hnf)
      have hrv : rvv ⟨rd, 0, none⟩ V = .agg #[.pointer (some ⟨rd, 0, none⟩), .int .i64 f, .int .i64 e, .int .i64 n] := by rw [← HV.out.1]; rfl
      have HRV := Lib.hid hrv
      have hkd := hok.kind
      obtain ⟨q, hri, hq6⟩ : ∃ q : Nat, (a.kind : Int) % 6 = q ∧ q < 6 := ⟨a.kind % 6, by omega, by omega⟩
      clear hae hst hra hok hw5 h5 habq hbk5 hfs hjx hab hnb hnf hrv
      generalize a.kind = kd at hk0 hri hkd
      have hcase : q = 0 ∨ q = 1 ∨ q = 2 ∨ q = 3 ∨ q = 4 ∨ q = 5 := by omega
      rcases hcase with rfl | rfl | rfl | rfl | rfl | rfl
      · have hri : (kd : Int) % 6 = 0 := hri
        go_wp2_with (first
          | refine wpList_load_mid rfl 45 (.tmp 97) rfl g (off + j * 5) rfl (dcs a) (.struct fs) HRA.out HF.out rfl HKS.out ?_
          | (refine wpList_store_row rfl 45 (.tmp 16) (.tmp 98) rfl wr.heap.size (dcs a).toArray rfl rfl 45 dz HBZ.out HKS2.out HOLD.out HONE.out ?_; rw [setRow_alloc, HW5.out, HAB.out]))
        obtain ⟨i0, hi, hz0, hz1, hz2⟩ := info_parts info_u8
        have HI := Lib.hid (And.intro hi (And.intro hz0 (And.intro hz1 hz2)))
        obtain ⟨zb, hzb⟩ : ∃ zb : ByteArray, (⟨a.b.toArray⟩ : ByteArray) = zb := ⟨_, rfl⟩
        have HSP := Lib.hid (show ∀ W S1 T1, P2 St Vt v V w W d ⟨rd, 0, none⟩ S1 T1 [(ab, Obj.cells (dcs a).toArray 45 (0, 0)), (rb, Obj.cells #[.pointer (some ⟨rd, 0, none⟩), .int .i64 f, .int .i64 e, .int .i64 n] 37 (0, 0))] →
            W.cell? ⟨ab, 1, none⟩ = some (.int .i64 a.at_) ∧ W.cell? ⟨ab, 3, none⟩ = some (.slice a.adr nb a.cap) ∧ W.cell? ⟨rb, 0, none⟩ = some (.pointer (some ⟨rd, 0, none⟩)) ∧ W.cell? ⟨rb, 1, none⟩ = some (.int .i64 f) ∧ W.cell? ⟨rb, 2, none⟩ = some (.int .i64 e) ∧ W.cell? ⟨rb, 3, none⟩ = some (.int .i64 n) ∧ (convert 42 9 (.slice a.adr nb a.cap)).run Try.prog W = .ok (.string zb) W from fun W S1 T1 h => by
          have b1 := P2.blk h List.mem_cons_self
          have b2 := P2.blk h (List.mem_cons_of_mem _ List.mem_cons_self)
          have b3 := conv_own (w := W) (c := a.cap) HLB.out.1 (HOK.out.rd.below h.bel)
          rw [hzb] at b3
          exact ⟨b1.cell 1, by rw [← HLB.out.1]; exact b1.cell 3, b2.cell 0, b2.cell 1, b2.cell 2, b2.cell 3, b3⟩)
        have hbe : Below w5.heap.size w5 (w5.drew.alloc (.cells #[] 5)) := ((show Below w5.heap.size w5 w5.drew from ⟨rfl, rfl, rfl, Nat.le_refl _, fun _ _ => rfl⟩)).alloc (Nat.le_refl _) _
        have HBE := Lib.hid hbe
        have HOE := Lib.hid (show (w5.drew.alloc (.cells #[] 5)).ownsRow w5.heap.size 5 1 (.slice (some ⟨w5.heap.size, 0, none⟩) 0 0) 0 [] from World.ownsRow_lit w5.drew #[] 0 (Nat.le_refl _) (by simp [maxLen]) rfl)
        have HRA2 := Lib.hid (show ∀ W, Below w5.heap.size w5 W → Rd W w.heap.size a.adr a.b from fun W hb => HOK.out.rd.below (H5.out.bel.trans (hb.mono H5.out.bel.size)))
        have HNX := Lib.hid (show a.b.length ≤ 140737488355328 ∧ nb ≤ 20000 ∧ nSec (nb + 4) ≤ 160 from ⟨by have := HNB.out; omega, by rw [← HLB.out.1]; exact HNB.out, by have := HNB.out; rw [HLB.out.1] at this; unfold nSec; omega⟩)
        have KW := Lib.hid (show ∀ (A6 : Option Addr) (c6 : Nat) (W : World), Below w5.heap.size w5 W → W.ownsRow w5.heap.size 5 1 (.slice A6 nb c6) nb (bv a.b) → Calls Try.prog 16 #[.pointer (some v), .int .i64 a.at_, .slice A6 nb c6] W fun x w' => x = .returned (.int .i64 ((putV V S a.at_ a.b).2 : Nat)) ∧ P2 St Vt v V w w' d ⟨rd, 0, none⟩ (putV V S a.at_ a.b).1 S [(ab, Obj.cells (dcs a).toArray 45 (0, 0)), (rb, Obj.cells #[.pointer (some ⟨rd, 0, none⟩), .int .i64 f, .int .i64 e, .int .i64 n] 37 (0, 0))] from fun A6 c6 W hb ho => by
          have hcap := ownsRow_form2 ho
          refine P2.vput K L H5.out hb a.at_ HOK.out.at_ A6 nb c6 a.b HLB.out.1 ⟨by have := HFEW.out.1.1; have := HNX.out.2.2; omega, by have := HFEW.out.1.2; have := HNX.out.2.2; omega⟩ hcap.1 hcap.2 (by have := HNX.out.2.1; omega) (Rd.of_own ho) (fun ad e => ?_)
          rcases ho.2 with ⟨hv, _⟩ | ⟨g1, _, _, hv, hbg, _⟩
          · injection hv with hA _ _
            rw [hA] at e; cases e
          · injection hv with hA _ _
            rw [hA] at e
            injection e with e
            rw [← e]; exact hbg)
        obtain ⟨pe, hpe⟩ : ∃ pe, (putV V S a.at_ a.b).2 = pe := ⟨_, rfl⟩
        obtain ⟨S6, hS6⟩ : ∃ S6, (putV V S a.at_ a.b).1 = S6 := ⟨_, rfl⟩
        have KQ := Lib.hid (show ∀ W, P2 St Vt v V w W d ⟨rd, 0, none⟩ S6 S [(ab, Obj.cells (dcs a).toArray 45 (0, 0)), (rb, Obj.cells #[.pointer (some ⟨rd, 0, none⟩), .int .i64 f, .int .i64 e, .int .i64 n] 37 (0, 0))] → Calls Try.prog 17 #[.agg #[.pointer (some ⟨rd, 0, none⟩), .int .i64 f, .int .i64 e, .int .i64 n], .int .i64 a.at_, .string zb] W fun x w' => x = .returned (.int .i64 (pe : Nat)) ∧ P2 St Vt v V w w' d ⟨rd, 0, none⟩ S6 S6 [(ab, Obj.cells (dcs a).toArray 45 (0, 0)), (rb, Obj.cells #[.pointer (some ⟨rd, 0, none⟩), .int .i64 f, .int .i64 e, .int .i64 n] 37 (0, 0))] from fun W h => by
          have := P2.rvput K L h HFEW.out.2.2.2.2 a.at_ a.b nb HLB.out.1 ⟨by have := HFEW.out.1.1; have := HNX.out.2.2; omega, by have := HFEW.out.1.2; have := HNX.out.2.2; omega⟩
          rw [HRV.out, hzb, hpe, hS6] at this
          exact this)
        have HS6 := Lib.hid hS6
        rw [hpe, hS6] at KW
        have hs1 := HSP.out w5.drew _ _ (P2.on K L H5.out (⟨rfl, rfl, rfl, Nat.le_refl _, fun _ _ => rfl⟩ : Below w5.heap.size w5 w5.drew))
        have hs2 := HSP.out _ _ _ (P2.on K L H5.out hbe)
        have HP6 := Lib.hid (show ∀ W, Below w5.heap.size w5 W → _ from fun W hb => HSP.out W _ _ (P2.on K L H5.out hb))
        clear hi hz0 hz1 hz2 hzb hbe hpe hS6 hk0 hk1 hk2 hk3 hk4
        go_wp2_with fail
        first | (go_region_held3 (fun W => W.cell? ⟨ab, 1, none⟩ = some (.int .i64 a.at_) ∧ W.cell? ⟨ab, 3, none⟩ = some (.slice a.adr nb a.cap) ∧ W.cell? ⟨rb, 0, none⟩ = some (.pointer (some ⟨rd, 0, none⟩)) ∧ W.cell? ⟨rb, 1, none⟩ = some (.int .i64 f) ∧ W.cell? ⟨rb, 2, none⟩ = some (.int .i64 e) ∧ W.cell? ⟨rb, 3, none⟩ = some (.int .i64 n) ∧ (convert 42 9 (.slice a.adr nb a.cap)).run Try.prog W = .ok (.string zb) W) (first | exact hs1 | exact hs2 | exact hs6 | exact hs7 | exact hs8) (first
          | (refine step_append_first _ (by rfl) (.tmp 115) (.tmp 117) 42 (by rfl) w5.heap.size 5 i0 Try.underlying42 HI.out.1 HI.out.2.1 HI.out.2.2.1 HI.out.2.2.2 (.slice (some ⟨w5.heap.size, 0, none⟩) 0 0) (by rfl) HOE.out w.heap.size a.adr a.cap nb a.b (by rfl) HLB.out.1 (HRA2.out _ HBE.out) HNX.out.1 HBE.out.size ?_; intro A6 c6 w6 ho6 hg6; have hb6 : Below w5.heap.size w5 w6 := HBE.out.grown hg6 HBE.out.size (fun g hg => (HOE.out.lt g hg).1); have hs6 := HP6.out w6 hb6)
          | (go_at_call 16; (with_reducible refine (KW.out A6 c6 w6 hb6 ho6).mono ?_); rintro x w7 ⟨rfl, h7⟩; have hs7 := HSP.out w7 _ _ h7)
          | (go_at_call 17; (with_reducible refine (KQ.out w7 h7).mono ?_); rintro x w9 ⟨rfl, h9⟩; have hs8 := HSP.out w9 _ _ h9))) | fail
        clear hs1 hs2 hs6 hs7 hs8 ho6 hg6 hb6 h7
        obtain ⟨S', hS'⟩ : ∃ S', S6 = S' := ⟨_, rfl⟩
        have HG := Lib.hid (show S'.cnt ≤ 160 * (j + 1) ∧ S'.put.length ≤ 160 * (j + 1) ∧ S'.n = m from by
          have h1 := (show S6.n = S.n ∧ S6.cnt ≤ S.cnt + 160 ∧ S6.put.length ≤ S.put.length + 160 from by have h0 := putV_grow V S a.at_ a.b; have h8 := HNX.out.2.2; rw [HLB.out.1, HS6.out] at h0; exact ⟨h0.2.2, by omega, by omega⟩)
          have h2 := HFEW.out.2.1
          have h3 := HFEW.out.2.2.1
          have h4 := HFEW.out.2.2.2.1
          rw [hS'] at h1
          exact ⟨by omega, by omega, by omega⟩)
        rw [hS'] at h9
        have hc9 := p2_cells h9
        obtain ⟨ob, hob⟩ : ∃ ob, S'.off = ob := ⟨_, rfl⟩
        obtain ⟨cn, hcn⟩ : ∃ cn, S'.cnt = cn := ⟨_, rfl⟩
        rw [hob, hcn] at hc9
        have q1 := fun dd os => Lib.hid (from_base (P := Try.prog) (w := w9) (fun W hW => by have := P2.done K L (P2.on K L h9 hW); rw [hcn] at this; exact this) dd os)
        have q2 := fun dd os => Lib.hid (from_base (P := Try.prog) (w := w9) (fun W hW => by have := P2.dead K L (P2.on K L h9 hW); rw [hob] at this; exact this) dd os)
        have d1 := cell_base hc9.1
        have d2 := cell_base hc9.2
        have hbb : (ob != ob) = false := by cases ob <;> rfl
        have H9 := Lib.hid h9
        clear h9 hc9 hob hcn hS'
        go_wp2_with fail
        refine wp_region_quiet_below (by kernel_rfl) (by kernel_rfl) ?_
        repeat (go_big_quiet_step (first | exact (q1 _ _).out | exact (q2 _ _).out))
        refine wpQuiet_nil ?_
        intro _ hw'
        obtain ⟨pq, rfl⟩ := hw'
        obtain ⟨w10, hw10, hb10⟩ := regrown_some w9 pq
        rw [hw10]
        have HN := Lib.hid (P2.drop (P2.on K L H9.out hb10))
        clear d1 d2 q1 q2 hw10 hb10 H9
        go_wp2_with fail
        go_roundw
        case rel => exact ⟨j + 1, S', by omega, by go_num, Lib.hid ⟨HN.out, HG.out⟩⟩
        case measure => simp [intOf]; omega
      · have hri : (kd : Int) % 6 = 1 := hri
        go_wp2_with (first
          | refine wpList_load_mid rfl 45 (.tmp 97) rfl g (off + j * 5) rfl (dcs a) (.struct fs) HRA.out HF.out rfl HKS.out ?_
          | (refine wpList_store_row rfl 45 (.tmp 16) (.tmp 98) rfl wr.heap.size (dcs a).toArray rfl rfl 45 dz HBZ.out HKS2.out HOLD.out HONE.out ?_; rw [setRow_alloc, HW5.out, HAB.out]))
        refine (P2.vget K L H5.out HFEW.out.1.few a.at_ HOK.out.at_).mono ?_
        rintro x w6 ⟨A6, c6, rfl, hlc6, hc6, hr6, hb6, h6⟩
        have hbk6 := P2.blk h6 List.mem_cons_self
        have hk1 : w6.cell? ⟨ab, 1, none⟩ = some (.int .i64 a.at_) := hbk6.cell 1
        have hk2 : w6.cell? ⟨ab, 2, none⟩ = some (.int .i64 a.num) := hbk6.cell 2
        have hk3 : w6.cell? ⟨ab, 3, none⟩ = some (.slice a.adr nb a.cap) := by rw [← HLB.out.1]; exact hbk6.cell 3
        have hk4 : w6.cell? ⟨ab, 4, none⟩ = some (.slice a.fadr nf a.fcap) := by rw [← HLB.out.2]; exact hbk6.cell 4
        have hrb6 := P2.blk h6 (List.mem_cons_of_mem _ List.mem_cons_self)
        have r0 := hrb6.cell 0
        have r1 := hrb6.cell 1
        have r2 := hrb6.cell 2
        have r3 := hrb6.cell 3
        have KR := P2.rvget K L h6 HFEW.out.2.2.2.2 HFEW.out.1.few a.at_
        rw [HRV.out] at KR
        obtain ⟨lx, hlx⟩ : ∃ lx, (vgetB V S a.at_).length = lx := ⟨_, rfl⟩
        obtain ⟨ev, hev⟩ : ∃ ev, vgetE V S a.at_ = ev := ⟨_, rfl⟩
        obtain ⟨zx, hzx⟩ : ∃ zx : ByteArray, (⟨(vgetB V S a.at_).toArray⟩ : ByteArray) = zx := ⟨_, rfl⟩
        have HCV := Lib.hid (show ∀ w', Below w6.heap.size w6 w' → (convert 42 9 (.slice A6 lx c6)).run Try.prog w' = .ok (.string zx) w' from fun w' hb => by
          have := conv_own (w := w') (c := c6) hlx (hr6.below hb)
          rw [hzx] at this
          exact this)
        rw [hlx] at hlc6 ⊢
        rw [hev] at KR ⊢
        rw [hzx] at KR
        replace KR := Lib.hid KR
        clear h6 hbk6 hrb6 hlx hev hzx hr6 hb6
        go_wp2_with fail
        refine KR.out.mono ?_
        rintro x w9 ⟨rfl, hb9, h9⟩
        have hcv := HCV.out w9 hb9
        clear KR r0 r1 r2 r3 hb9
        obtain ⟨S', hS'⟩ : ∃ S', S = S' := ⟨_, rfl⟩
        have HG := Lib.hid (show S'.cnt ≤ 160 * (j + 1) ∧ S'.put.length ≤ 160 * (j + 1) ∧ S'.n = m from by
          have h1 := (show S.n = S.n ∧ S.cnt ≤ S.cnt + 1 ∧ S.put.length ≤ S.put.length + 1 from ⟨rfl, Nat.le_succ _, Nat.le_succ _⟩)
          have h2 := HFEW.out.2.1
          have h3 := HFEW.out.2.2.1
          have h4 := HFEW.out.2.2.2.1
          rw [← hS']
          exact ⟨by omega, by omega, by omega⟩)
        rw [hS'] at h9
        have hc9 := p2_cells h9
        obtain ⟨ob, hob⟩ : ∃ ob, S'.off = ob := ⟨_, rfl⟩
        obtain ⟨cn, hcn⟩ : ∃ cn, S'.cnt = cn := ⟨_, rfl⟩
        rw [hob, hcn] at hc9
        have q1 := fun dd os => Lib.hid (from_base (P := Try.prog) (w := w9) (fun W hW => by have := P2.done K L (P2.on K L h9 hW); rw [hcn] at this; exact this) dd os)
        have q2 := fun dd os => Lib.hid (from_base (P := Try.prog) (w := w9) (fun W hW => by have := P2.dead K L (P2.on K L h9 hW); rw [hob] at this; exact this) dd os)
        have d1 := cell_base hc9.1
        have d2 := cell_base hc9.2
        have hbb : (ob != ob) = false := by cases ob <;> rfl
        have H9 := Lib.hid h9
        clear h9 hc9 hob hcn hS' hk0 hk1 hk2 hk3 hk4
        go_wp2_with fail
        clear hcv
        refine wp_region_quiet_below (by kernel_rfl) (by kernel_rfl) ?_
        repeat (go_big_quiet_step (first | exact (q1 _ _).out | exact (q2 _ _).out))
        refine wpQuiet_nil ?_
        intro _ hw'
        obtain ⟨pq, rfl⟩ := hw'
        obtain ⟨w10, hw10, hb10⟩ := regrown_some w9 pq
        rw [hw10]
        have HN := Lib.hid (P2.drop (P2.on K L H9.out hb10))
        clear d1 d2 q1 q2 hw10 hb10 H9
        go_wp2_with fail
        go_roundw
        case rel => exact ⟨j + 1, S', by omega, by go_num, Lib.hid ⟨HN.out, HG.out⟩⟩
        case measure => simp [intOf]; omega
      · have hri : (kd : Int) % 6 = 2 := hri
        go_wp2_with (first
          | refine wpList_load_mid rfl 45 (.tmp 97) rfl g (off + j * 5) rfl (dcs a) (.struct fs) HRA.out HF.out rfl HKS.out ?_
          | (refine wpList_store_row rfl 45 (.tmp 16) (.tmp 98) rfl wr.heap.size (dcs a).toArray rfl rfl 45 dz HBZ.out HKS2.out HOLD.out HONE.out ?_; rw [setRow_alloc, HW5.out, HAB.out]))
        refine (P2.write K L H5.out HFEW.out.1.few a.at_ HOK.out.at_ a.adr nb a.cap a.b HLB.out.1 (by rw [← HLB.out.1]; exact HOK.out.le) HOK.out.max HOK.out.rd).mono ?_
        rintro x w6 ⟨rfl, h6⟩
        have hbk6 := P2.blk h6 List.mem_cons_self
        have hk1 : w6.cell? ⟨ab, 1, none⟩ = some (.int .i64 a.at_) := hbk6.cell 1
        have hk2 : w6.cell? ⟨ab, 2, none⟩ = some (.int .i64 a.num) := hbk6.cell 2
        have hk3 : w6.cell? ⟨ab, 3, none⟩ = some (.slice a.adr nb a.cap) := by rw [← HLB.out.1]; exact hbk6.cell 3
        have hk4 : w6.cell? ⟨ab, 4, none⟩ = some (.slice a.fadr nf a.fcap) := by rw [← HLB.out.2]; exact hbk6.cell 4
        have hcb := conv_own (w := w6) (c := a.cap) HLB.out.1 (HOK.out.rd.below h6.bel)
        have KR := P2.rwrite K L h6 HFEW.out.1.few a.at_ a.b nb HLB.out.1
        obtain ⟨zb, hzb⟩ : ∃ zb : ByteArray, (⟨a.b.toArray⟩ : ByteArray) = zb := ⟨_, rfl⟩
        rw [hzb] at hcb KR
        replace KR := Lib.hid KR
        clear h6 hbk6 hzb
        go_wp2_with fail
        refine KR.out.mono ?_
        rintro x w9 ⟨rfl, h9⟩
        clear KR hcb
        obtain ⟨S', hS'⟩ : ∃ S', writeS S a.at_ a.b = S' := ⟨_, rfl⟩
        have HG := Lib.hid (show S'.cnt ≤ 160 * (j + 1) ∧ S'.put.length ≤ 160 * (j + 1) ∧ S'.n = m from by
          have h1 := write_grow S a.at_ a.b
          have h2 := HFEW.out.2.1
          have h3 := HFEW.out.2.2.1
          have h4 := HFEW.out.2.2.2.1
          rw [hS'] at h1
          exact ⟨by omega, by omega, by omega⟩)
        rw [hS'] at h9
        have hc9 := p2_cells h9
        obtain ⟨ob, hob⟩ : ∃ ob, S'.off = ob := ⟨_, rfl⟩
        obtain ⟨cn, hcn⟩ : ∃ cn, S'.cnt = cn := ⟨_, rfl⟩
        rw [hob, hcn] at hc9
        have q1 := fun dd os => Lib.hid (from_base (P := Try.prog) (w := w9) (fun W hW => by have := P2.done K L (P2.on K L h9 hW); rw [hcn] at this; exact this) dd os)
        have q2 := fun dd os => Lib.hid (from_base (P := Try.prog) (w := w9) (fun W hW => by have := P2.dead K L (P2.on K L h9 hW); rw [hob] at this; exact this) dd os)
        have d1 := cell_base hc9.1
        have d2 := cell_base hc9.2
        have hbb : (ob != ob) = false := by cases ob <;> rfl
        have H9 := Lib.hid h9
        clear h9 hc9 hob hcn hS' hk0 hk1 hk2 hk3 hk4
        go_wp2_with fail
        refine wp_region_quiet_below (by kernel_rfl) (by kernel_rfl) ?_
        repeat (go_big_quiet_step (first | exact (q1 _ _).out | exact (q2 _ _).out))
        refine wpQuiet_nil ?_
        intro _ hw'
        obtain ⟨pq, rfl⟩ := hw'
        obtain ⟨w10, hw10, hb10⟩ := regrown_some w9 pq
        rw [hw10]
        have HN := Lib.hid (P2.drop (P2.on K L H9.out hb10))
        clear d1 d2 q1 q2 hw10 hb10 H9
        go_wp2_with fail
        go_roundw
        case rel => exact ⟨j + 1, S', by omega, by go_num, Lib.hid ⟨HN.out, HG.out⟩⟩
        case measure => simp [intOf]; omega
      · have hri : (kd : Int) % 6 = 3 := hri
        go_wp2_with (first
          | refine wpList_load_mid rfl 45 (.tmp 97) rfl g (off + j * 5) rfl (dcs a) (.struct fs) HRA.out HF.out rfl HKS.out ?_
          | (refine wpList_store_row rfl 45 (.tmp 16) (.tmp 98) rfl wr.heap.size (dcs a).toArray rfl rfl 45 dz HBZ.out HKS2.out HOLD.out HONE.out ?_; rw [setRow_alloc, HW5.out, HAB.out]))
        refine (P2.flush K L H5.out HFEW.out.1.few).mono ?_
        rintro x w6 ⟨rfl, h6⟩
        have hbk6 := P2.blk h6 List.mem_cons_self
        have hk1 : w6.cell? ⟨ab, 1, none⟩ = some (.int .i64 a.at_) := hbk6.cell 1
        have hk2 : w6.cell? ⟨ab, 2, none⟩ = some (.int .i64 a.num) := hbk6.cell 2
        have hk3 : w6.cell? ⟨ab, 3, none⟩ = some (.slice a.adr nb a.cap) := by rw [← HLB.out.1]; exact hbk6.cell 3
        have hk4 : w6.cell? ⟨ab, 4, none⟩ = some (.slice a.fadr nf a.fcap) := by rw [← HLB.out.2]; exact hbk6.cell 4
        have H6 := Lib.hid h6
        clear h6 hbk6
        go_wp2_with fail
        refine (P2.rflush K L H6.out HFEW.out.1.few).mono ?_
        rintro x w9 ⟨rfl, h9⟩
        clear H6
        obtain ⟨S', hS'⟩ : ∃ S', flushS S = S' := ⟨_, rfl⟩
        have HG := Lib.hid (show S'.cnt ≤ 160 * (j + 1) ∧ S'.put.length ≤ 160 * (j + 1) ∧ S'.n = m from by
          have h1 := flush_grow S
          have h2 := HFEW.out.2.1
          have h3 := HFEW.out.2.2.1
          have h4 := HFEW.out.2.2.2.1
          rw [hS'] at h1
          exact ⟨by omega, by omega, by omega⟩)
        rw [hS'] at h9
        have hc9 := p2_cells h9
        obtain ⟨ob, hob⟩ : ∃ ob, S'.off = ob := ⟨_, rfl⟩
        obtain ⟨cn, hcn⟩ : ∃ cn, S'.cnt = cn := ⟨_, rfl⟩
        rw [hob, hcn] at hc9
        have q1 := fun dd os => Lib.hid (from_base (P := Try.prog) (w := w9) (fun W hW => by have := P2.done K L (P2.on K L h9 hW); rw [hcn] at this; exact this) dd os)
        have q2 := fun dd os => Lib.hid (from_base (P := Try.prog) (w := w9) (fun W hW => by have := P2.dead K L (P2.on K L h9 hW); rw [hob] at this; exact this) dd os)
        have d1 := cell_base hc9.1
        have d2 := cell_base hc9.2
        have hbb : (ob != ob) = false := by cases ob <;> rfl
        have H9 := Lib.hid h9
        clear h9 hc9 hob hcn hS' hk0 hk1 hk2 hk3 hk4
        go_wp2_with fail
        refine wp_region_quiet_below (by kernel_rfl) (by kernel_rfl) ?_
        repeat (go_big_quiet_step (first | exact (q1 _ _).out | exact (q2 _ _).out))
        refine wpQuiet_nil ?_
        intro _ hw'
        obtain ⟨pq, rfl⟩ := hw'
        obtain ⟨w10, hw10, hb10⟩ := regrown_some w9 pq
        rw [hw10]
        have HN := Lib.hid (P2.drop (P2.on K L H9.out hb10))
        clear d1 d2 q1 q2 hw10 hb10 H9
        go_wp2_with fail
        go_roundw
        case rel => exact ⟨j + 1, S', by omega, by go_num, Lib.hid ⟨HN.out, HG.out⟩⟩
        case measure => simp [intOf]; omega
      · have hri : (kd : Int) % 6 = 4 := hri
        go_wp2_with (first
          | refine wpList_load_mid rfl 45 (.tmp 97) rfl g (off + j * 5) rfl (dcs a) (.struct fs) HRA.out HF.out rfl HKS.out ?_
          | (refine wpList_store_row rfl 45 (.tmp 16) (.tmp 98) rfl wr.heap.size (dcs a).toArray rfl rfl 45 dz HBZ.out HKS2.out HOLD.out HONE.out ?_; rw [setRow_alloc, HW5.out, HAB.out]))
        refine (P2.cut K L H5.out a.num HOK.out.num).mono ?_
        rintro x w6 ⟨rfl, h6⟩
        have hbk6 := P2.blk h6 List.mem_cons_self
        have hk1 : w6.cell? ⟨ab, 1, none⟩ = some (.int .i64 a.at_) := hbk6.cell 1
        have hk2 : w6.cell? ⟨ab, 2, none⟩ = some (.int .i64 a.num) := hbk6.cell 2
        have hk3 : w6.cell? ⟨ab, 3, none⟩ = some (.slice a.adr nb a.cap) := by rw [← HLB.out.1]; exact hbk6.cell 3
        have hk4 : w6.cell? ⟨ab, 4, none⟩ = some (.slice a.fadr nf a.fcap) := by rw [← HLB.out.2]; exact hbk6.cell 4
        have H6 := Lib.hid h6
        clear h6 hbk6
        go_wp2_with fail
        refine (P2.rcut K L H6.out a.num HOK.out.num).mono ?_
        rintro x w9 ⟨rfl, h9⟩
        clear H6
        obtain ⟨S', hS'⟩ : ∃ S', cutS S a.num = S' := ⟨_, rfl⟩
        have HG := Lib.hid (show S'.cnt ≤ 160 * (j + 1) ∧ S'.put.length ≤ 160 * (j + 1) ∧ S'.n = m from by
          have h1 := (show (cutS S a.num).n = S.n ∧ (cutS S a.num).cnt ≤ S.cnt + 1 ∧ (cutS S a.num).put.length ≤ S.put.length + 1 from by unfold cutS; split <;> exact ⟨rfl, Nat.le_succ _, Nat.le_succ _⟩)
          have h2 := HFEW.out.2.1
          have h3 := HFEW.out.2.2.1
          have h4 := HFEW.out.2.2.2.1
          rw [hS'] at h1
          exact ⟨by omega, by omega, by omega⟩)
        rw [hS'] at h9
        have hc9 := p2_cells h9
        obtain ⟨ob, hob⟩ : ∃ ob, S'.off = ob := ⟨_, rfl⟩
        obtain ⟨cn, hcn⟩ : ∃ cn, S'.cnt = cn := ⟨_, rfl⟩
        rw [hob, hcn] at hc9
        have q1 := fun dd os => Lib.hid (from_base (P := Try.prog) (w := w9) (fun W hW => by have := P2.done K L (P2.on K L h9 hW); rw [hcn] at this; exact this) dd os)
        have q2 := fun dd os => Lib.hid (from_base (P := Try.prog) (w := w9) (fun W hW => by have := P2.dead K L (P2.on K L h9 hW); rw [hob] at this; exact this) dd os)
        have d1 := cell_base hc9.1
        have d2 := cell_base hc9.2
        have hbb : (ob != ob) = false := by cases ob <;> rfl
        have H9 := Lib.hid h9
        clear h9 hc9 hob hcn hS' hk0 hk1 hk2 hk3 hk4
        go_wp2_with fail
        refine wp_region_quiet_below (by kernel_rfl) (by kernel_rfl) ?_
        repeat (go_big_quiet_step (first | exact (q1 _ _).out | exact (q2 _ _).out))
        refine wpQuiet_nil ?_
        intro _ hw'
        obtain ⟨pq, rfl⟩ := hw'
        obtain ⟨w10, hw10, hb10⟩ := regrown_some w9 pq
        rw [hw10]
        have HN := Lib.hid (P2.drop (P2.on K L H9.out hb10))
        clear d1 d2 q1 q2 hw10 hb10 H9
        go_wp2_with fail
        go_roundw
        case rel => exact ⟨j + 1, S', by omega, by go_num, Lib.hid ⟨HN.out, HG.out⟩⟩
        case measure => simp [intOf]; omega
      · have hri : (kd : Int) % 6 = 5 := hri
        go_wp2_with (first
          | refine wpList_load_mid rfl 45 (.tmp 97) rfl g (off + j * 5) rfl (dcs a) (.struct fs) HRA.out HF.out rfl HKS.out ?_
          | (refine wpList_store_row rfl 45 (.tmp 16) (.tmp 98) rfl wr.heap.size (dcs a).toArray rfl rfl 45 dz HBZ.out HKS2.out HOLD.out HONE.out ?_; rw [setRow_alloc, HW5.out, HAB.out]))
        refine (P2.crash K L H5.out HFEW.out.1.few a.fadr nf a.fcap a.fates HLB.out.2 (by rw [← HLB.out.2]; exact HOK.out.fle) HOK.out.fmax HOK.out.frd HOK.out.fin).mono ?_
        rintro x w6 ⟨rfl, h6⟩
        have hbk6 := P2.blk h6 List.mem_cons_self
        have hk1 : w6.cell? ⟨ab, 1, none⟩ = some (.int .i64 a.at_) := hbk6.cell 1
        have hk2 : w6.cell? ⟨ab, 2, none⟩ = some (.int .i64 a.num) := hbk6.cell 2
        have hk3 : w6.cell? ⟨ab, 3, none⟩ = some (.slice a.adr nb a.cap) := by rw [← HLB.out.1]; exact hbk6.cell 3
        have hk4 : w6.cell? ⟨ab, 4, none⟩ = some (.slice a.fadr nf a.fcap) := by rw [← HLB.out.2]; exact hbk6.cell 4
        have H6 := Lib.hid h6
        clear h6 hbk6
        go_wp2_with fail
        refine (P2.rcrash K L H6.out HFEW.out.1.few a.fadr nf a.fcap a.fates HLB.out.2 (by rw [← HLB.out.2]; exact HOK.out.fle) HOK.out.fmax HOK.out.frd HOK.out.fin).mono ?_
        rintro x w9 ⟨rfl, h9⟩
        clear H6
        obtain ⟨S', hS'⟩ : ∃ S', crashS S a.fates = S' := ⟨_, rfl⟩
        have HG := Lib.hid (show S'.cnt ≤ 160 * (j + 1) ∧ S'.put.length ≤ 160 * (j + 1) ∧ S'.n = m from by
          have h1 := (show (crashS S a.fates).n = S.n ∧ (crashS S a.fates).cnt ≤ S.cnt + 1 ∧ (crashS S a.fates).put.length ≤ S.put.length + 1 from ⟨rfl, Nat.le_succ _, Nat.zero_le _⟩)
          have h2 := HFEW.out.2.1
          have h3 := HFEW.out.2.2.1
          have h4 := HFEW.out.2.2.2.1
          rw [hS'] at h1
          exact ⟨by omega, by omega, by omega⟩)
        rw [hS'] at h9
        have hc9 := p2_cells h9
        obtain ⟨ob, hob⟩ : ∃ ob, S'.off = ob := ⟨_, rfl⟩
        obtain ⟨cn, hcn⟩ : ∃ cn, S'.cnt = cn := ⟨_, rfl⟩
        rw [hob, hcn] at hc9
        have q1 := fun dd os => Lib.hid (from_base (P := Try.prog) (w := w9) (fun W hW => by have := P2.done K L (P2.on K L h9 hW); rw [hcn] at this; exact this) dd os)
        have q2 := fun dd os => Lib.hid (from_base (P := Try.prog) (w := w9) (fun W hW => by have := P2.dead K L (P2.on K L h9 hW); rw [hob] at this; exact this) dd os)
        have d1 := cell_base hc9.1
        have d2 := cell_base hc9.2
        have hbb : (ob != ob) = false := by cases ob <;> rfl
        have H9 := Lib.hid h9
        clear h9 hc9 hob hcn hS' hk0 hk1 hk2 hk3 hk4
        go_wp2_with fail
        refine wp_region_quiet_below (by kernel_rfl) (by kernel_rfl) ?_
        repeat (go_big_quiet_step (first | exact (q1 _ _).out | exact (q2 _ _).out))
        refine wpQuiet_nil ?_
        intro _ hw'
        obtain ⟨pq, rfl⟩ := hw'
        obtain ⟨w10, hw10, hb10⟩ := regrown_some w9 pq
        rw [hw10]
        have HN := Lib.hid (P2.drop (P2.on K L H9.out hb10))
        clear d1 d2 q1 q2 hw10 hb10 H9
        go_wp2_with fail
        go_roundw
        case rel => exact ⟨j + 1, S', by omega, by go_num, Lib.hid ⟨HN.out, HG.out⟩⟩
        case measure => simp [intOf]; omega
    · obtain rfl : j = k := by omega
      have HFEW := Lib.hid (show Few S from ⟨by have := hst.out.2.2.1; omega, by have := hst.out.2.1; omega⟩)
      have H1 := Lib.hid hst.out.1
      clear hst
      go_wp2_with fail
      go_loopw [202] (fun i wr => ∃ t : Nat, t ≤ m ∧ i = .int .i64 t ∧ Hid (P2 St Vt v V w wr d ⟨rd, 0, none⟩ S S [(rb, Obj.cells #[.pointer (some ⟨rd, 0, none⟩), .int .i64 f, .int .i64 e, .int .i64 n] 37 (0, 0))])) (fun i _ => m - (intOf i).toNat)
      case atStart => exact ⟨0, Nat.zero_le _, rfl, Lib.hid H1.out⟩
      case round =>
        clear H1
        obtain ⟨t, ht, rfl, hst⟩ := hrel
        by_cases htm : t < m
        · have hti : (t : Int) < (m : Int) := by omega
          have KR := Lib.hid (P2.read K L hst.out HFEW.out t ⟨by omega, by omega⟩)
          go_wp2_with fail
          refine KR.out.mono ?_
          rintro x w6 ⟨A6, c6, rfl, hr6, hb6, h6⟩
          have KR2 := P2.rread K L h6 HFEW.out t
          obtain ⟨lx, hlx⟩ : ∃ lx, (readS S t).length = lx := ⟨_, rfl⟩
          obtain ⟨ev, hev⟩ : ∃ ev, readE S t = ev := ⟨_, rfl⟩
          obtain ⟨zx, hzx⟩ : ∃ zx : ByteArray, (⟨(readS S t).toArray⟩ : ByteArray) = zx := ⟨_, rfl⟩
          have hcv := conv_own (c := c6) hlx hr6
          rw [hzx] at hcv KR2
          rw [hev] at KR2 ⊢
          rw [hlx]
          replace KR2 := Lib.hid KR2
          have H6 := Lib.hid h6
          clear KR hst hr6 hb6 h6 hlx hev hzx
          go_wp2_with fail
          refine KR2.out.mono ?_
          rintro x w7 ⟨rfl, rfl⟩
          go_wp2_with fail
          go_roundw
          case rel => exact ⟨t + 1, by omega, by go_num, Lib.hid H6.out⟩
          case measure => simp [intOf]; omega
        · obtain rfl : t = m := by omega
          have HE := Lib.hid hst.out.bel
          go_wp2_with fail
          go_ret
          exact ⟨rfl, HE.out⟩
end
end Go.Proofs.Ythbgcffnnholeaa
