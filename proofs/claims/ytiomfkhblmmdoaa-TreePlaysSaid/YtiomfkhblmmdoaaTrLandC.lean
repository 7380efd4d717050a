/- The landed tree: downRight, downLeft, with. No statement of the seat is proved here. -/
import Derived.Test.YtiomfkhblmmdoaaTrLandB
import Derived.Test.YtiomfkhblmmdoaaAppRd
namespace Go.Proofs.Ytiomfkhblmmdoaa
open Go.RowKit
set_option linter.unusedVariables false
set_option linter.unusedSimpArgs false
set_option maxRecDepth 100000

set_option maxHeartbeats 4000000 in
theorem down_ll (p : PT) (A B : Option Addr) (C D : Int) (Xl Xr : Option Addr) (x : Nat) (o : T18) (lp : PT) (i s : T18) (w : World) (hl : Lies18 w (.pointer Xl) (.node x o lp i)) (hr : Lies18 w (.pointer Xr) s) (q1 : (T18.node x o lp i).ht = s.ht + 2) (q2 : i.ht ≤ o.ht) (hbal : (T18.node x o lp i).Bal) (h1 : (T18.node x o lp i).ht ≤ 100) (h2 : s.ht ≤ 100) (h3 : (T18.node x o lp i).flat.length ≤ 10000) (h4 : s.flat.length ≤ 10000) :
    Calls Try.prog 40 #[.agg #[.string (st p.1), .string (st p.2), .pointer A, .pointer B, .int .i64 C, .int .i64 D], .pointer Xl, .pointer Xr] w fun e w' => ∃ v' t', e = .returned v' ∧ Even18 (.node x o lp i) p s t' ∧ Lies18 w' v' t' ∧ Below w.heap.size w w' := by
  obtain ⟨w1, d, hd, hw1, hb1, hk1⟩ : ∃ w1 d, w.heap.size = d ∧ w.alloc (.cells #[.string (st p.1), .string (st p.2), .pointer A, .pointer B, .int .i64 C, .int .i64 D] 61) = w1 ∧ Below w.heap.size w w1 ∧ Blk w1 d 61 #[.string (st p.1), .string (st p.2), .pointer A, .pointer B, .int .i64 C, .int .i64 D] := ⟨_, _, rfl, rfl, (Below.refl w.heap.size w).alloc (Nat.le_refl _) _, Blk.new w 61 _⟩
  have HW := Lib.hid (And.intro hd hw1)
  have HB1 := Lib.hid hb1
  obtain ⟨Xo, Xi, hxe, hO⟩ := (hl.below hb1).open
  injection hxe with hxe
  subst hxe
  have hlen : o.flat.length ≤ 10000 ∧ i.flat.length + s.flat.length + 1 ≤ 30000 := by
    simp only [T18.flat, List.length_append, List.length_cons] at h3
    omega
  have hh : o.ht ≤ 100 ∧ i.ht ≤ 100 := by
    simp only [T18.ht] at h1
    omega
  obtain ⟨_, _, b3, b4⟩ := hbal
  simp only [T18.ht] at q1
  have HS := Lib.hid (show ∀ W, Below w1.heap.size w1 W → Lies18 W (.pointer Xr) s from fun W hW => (hr.below hb1).below hW)
  obtain ⟨H1, hH1⟩ : ∃ H1, (T18.node x o lp i).ht = H1 := ⟨_, rfl⟩
  obtain ⟨N1, hN1⟩ : ∃ N1, (T18.node x o lp i).flat.length = N1 := ⟨_, rfl⟩
  rw [hH1, hN1] at hO
  have SX := Lib.hid (show ∀ W, Below w1.heap.size w1 W → W.cell? ⟨d, 0, none⟩ = some (.string (st p.1)) ∧ W.cell? ⟨d, 1, none⟩ = some (.string (st p.2)) ∧ W.cell? ⟨d, 2, none⟩ = some (.pointer A) ∧ W.cell? ⟨d, 3, none⟩ = some (.pointer B) ∧ W.cell? ⟨d, 4, none⟩ = some (.int .i64 C) ∧ W.cell? ⟨d, 5, none⟩ = some (.int .i64 D) ∧ W.cell? ⟨x, 0, none⟩ = some (.string (st lp.1)) ∧ W.cell? ⟨x, 1, none⟩ = some (.string (st lp.2)) ∧ W.cell? ⟨x, 2, none⟩ = some (.pointer Xo) ∧ W.cell? ⟨x, 3, none⟩ = some (.pointer Xi) ∧ W.cell? ⟨x, 4, none⟩ = some (.int .i64 (H1 : Int)) ∧ W.cell? ⟨x, 5, none⟩ = some (.int .i64 (N1 : Int)) from fun W hW => by
    obtain ⟨o0, _, _⟩ := hO W hW
    have k0 := hk1.below hW hk1.lt
    exact ⟨k0.cell 0, k0.cell 1, k0.cell 2, k0.cell 3, k0.cell 4, k0.cell 5, o0.cell 0, o0.cell 1, o0.cell 2, o0.cell 3, o0.cell 4, o0.cell 5⟩)
  have K1 := Lib.hid (fun W (hW : Below w1.heap.size w1 W) => high18 Xo o W (hO W hW).2.1)
  have K2 := Lib.hid (fun W (hW : Below w1.heap.size w1 W) => high18 Xi i W (hO W hW).2.2)
  have KA := Lib.hid (fun W (hW : Below w1.heap.size w1 W) => with_plain p A B C D Xi Xr i s W (hO W hW).2.2 (HS.out W hW) (by omega) (by omega) (by omega) (by omega) (by omega) (by omega))
  have KB := Lib.hid (fun (a : Nat) (Y : Option Addr) W (h : Lies18 W (.pointer Y) (.node a i p s)) (hW : Below w1.heap.size w1 W) => with_plain lp Xo Xi (H1 : Int) (N1 : Int) Xo Y o (.node a i p s) W (hO W hW).2.1 h (by first | omega | (simp only [T18.ht]; omega)) (by first | omega | (simp only [T18.ht]; omega)) (by first | omega | (simp only [T18.ht]; omega)) (by first | omega | (simp only [T18.ht]; omega)) (by first | omega | (simp only [T18.flat, List.length_append, List.length_cons]; omega)) (by first | omega | (simp only [T18.flat, List.length_append, List.length_cons]; omega)))
  have HQ := Lib.hid (And.intro (show (T18.node x o lp i).ht = s.ht + 2 by simp only [T18.ht]; omega) q2)
  obtain ⟨U, hU⟩ : ∃ U, o.ht = U := ⟨_, rfl⟩
  obtain ⟨V, hV⟩ : ∃ V, i.ht = V := ⟨_, rfl⟩
  rw [hU] at K1 q2
  rw [hV] at K2 q2
  have e3 : (V : Int) ≤ (U : Int) := by omega
  have e4 : decide ((V : Int) ≤ (U : Int)) = true := decide_eq_true e3
  have hbw : Below w1.heap.size w1 w1.drew := below_drewN (Below.refl w1.heap.size w1) 1
  obtain ⟨s0, s1, s2, s3, s4, s5, s6, s7, s8, s9, s10, s11⟩ := SX.out w1 (Below.refl _ _)
  clear hl hr hd hw1 hb1 hk1 hU hV hO hlen hh b3 b4 q1 h1 h2 h3 h4 hH1 hN1
  go_enter Try.func40, Try.ntmps40
  go_upto_region 1 with fail
  rw [HW.out.1, HW.out.2]
  go_wp2_with fail
  refine (K1.out w1 (Below.refl _ _)).mono ?_
  rintro e w2 ⟨rfl, rfl⟩
  go_wp2_with fail
  refine (K2.out w2 (Below.refl _ _)).mono ?_
  rintro e w3 ⟨rfl, rfl⟩
  go_upto_region 3 with fail
  (go_region_held3 (fun W => W.cell? ⟨d, 0, none⟩ = some (.string (st p.1)) ∧ W.cell? ⟨d, 1, none⟩ = some (.string (st p.2)) ∧ W.cell? ⟨d, 2, none⟩ = some (.pointer A) ∧ W.cell? ⟨d, 3, none⟩ = some (.pointer B) ∧ W.cell? ⟨d, 4, none⟩ = some (.int .i64 C) ∧ W.cell? ⟨d, 5, none⟩ = some (.int .i64 D) ∧ W.cell? ⟨x, 0, none⟩ = some (.string (st lp.1)) ∧ W.cell? ⟨x, 1, none⟩ = some (.string (st lp.2)) ∧ W.cell? ⟨x, 2, none⟩ = some (.pointer Xo) ∧ W.cell? ⟨x, 3, none⟩ = some (.pointer Xi) ∧ W.cell? ⟨x, 4, none⟩ = some (.int .i64 (H1 : Int)) ∧ W.cell? ⟨x, 5, none⟩ = some (.int .i64 (N1 : Int))) (exact SX.out _ (by assumption)) (first
    | (go_at_call 38; (with_reducible refine (KA.out _ (by assumption)).mono ?_); rintro e w7 ⟨a7, rfl, -, l7, b7⟩; have hb7 := Below.trans (by assumption : Below w3.heap.size w3 _) (b7.mono (Below.size (by assumption))))
    | (go_at_call 38; (with_reducible refine (KB.out a7 _ _ l7 (by assumption)).mono ?_); rintro e w8 ⟨a8, rfl, -, l8, b8⟩; have hb8 := Below.trans (by assumption : Below w3.heap.size w3 _) (b8.mono (Below.size (by assumption))))))
  all_goals (
    go_wp2_with fail
    go_ret
    exact ⟨_, _, rfl, .inr (.inl ⟨x, o, lp, i, a8, a7, rfl, HQ.out.1, HQ.out.2, rfl⟩), l8, HB1.out.trans (hb8.mono HB1.out.size)⟩)
set_option maxHeartbeats 4000000 in
theorem down_lr (p : PT) (A B : Option Addr) (C D : Int) (Xl Xr : Option Addr) (x : Nat) (o : T18) (lp : PT) (y : Nat) (m1 : T18) (mp : PT) (m2 s : T18) (w : World) (hl : Lies18 w (.pointer Xl) (.node x o lp (.node y m1 mp m2))) (hr : Lies18 w (.pointer Xr) s) (q1 : (T18.node x o lp (.node y m1 mp m2)).ht = s.ht + 2) (q2 : o.ht < (T18.node y m1 mp m2).ht) (hbal : (T18.node x o lp (.node y m1 mp m2)).Bal) (h1 : (T18.node x o lp (.node y m1 mp m2)).ht ≤ 100) (h2 : s.ht ≤ 100) (h3 : (T18.node x o lp (.node y m1 mp m2)).flat.length ≤ 10000) (h4 : s.flat.length ≤ 10000) :
    Calls Try.prog 40 #[.agg #[.string (st p.1), .string (st p.2), .pointer A, .pointer B, .int .i64 C, .int .i64 D], .pointer Xl, .pointer Xr] w fun e w' => ∃ v' t', e = .returned v' ∧ Even18 (.node x o lp (.node y m1 mp m2)) p s t' ∧ Lies18 w' v' t' ∧ Below w.heap.size w w' := by
  obtain ⟨w1, d, hd, hw1, hb1, hk1⟩ : ∃ w1 d, w.heap.size = d ∧ w.alloc (.cells #[.string (st p.1), .string (st p.2), .pointer A, .pointer B, .int .i64 C, .int .i64 D] 61) = w1 ∧ Below w.heap.size w w1 ∧ Blk w1 d 61 #[.string (st p.1), .string (st p.2), .pointer A, .pointer B, .int .i64 C, .int .i64 D] := ⟨_, _, rfl, rfl, (Below.refl w.heap.size w).alloc (Nat.le_refl _) _, Blk.new w 61 _⟩
  have HW := Lib.hid (And.intro hd hw1)
  have HB1 := Lib.hid hb1
  obtain ⟨Xo, Xi, hxe, hO⟩ := (hl.below hb1).open
  injection hxe with hxe
  subst hxe
  obtain ⟨Xm1, Xm2, hye, hM⟩ := (hO w1 (Below.refl _ _)).2.2.open
  injection hye with hye
  subst hye
  have hlen : o.flat.length + m1.flat.length + m2.flat.length + 2 ≤ 10000 := by
    simp only [T18.flat, List.length_append, List.length_cons] at h3
    omega
  have hh : o.ht ≤ 100 ∧ m1.ht ≤ 100 ∧ m2.ht ≤ 100 := by
    simp only [T18.ht] at h1
    omega
  have hbal2 : (T18.node x o lp (.node y m1 mp m2)).Bal := hbal
  simp only [T18.Bal, T18.ht] at hbal2
  have hq2 := q2
  simp only [T18.ht] at q1 hq2
  have HS := Lib.hid (show ∀ W, Below w1.heap.size w1 W → Lies18 W (.pointer Xr) s from fun W hW => (hr.below hb1).below hW)
  obtain ⟨H1, hH1⟩ : ∃ H1, (T18.node x o lp (.node y m1 mp m2)).ht = H1 := ⟨_, rfl⟩
  obtain ⟨N1, hN1⟩ : ∃ N1, (T18.node x o lp (.node y m1 mp m2)).flat.length = N1 := ⟨_, rfl⟩
  obtain ⟨H2, hH2⟩ : ∃ H2, (T18.node y m1 mp m2).ht = H2 := ⟨_, rfl⟩
  obtain ⟨N2, hN2⟩ : ∃ N2, (T18.node y m1 mp m2).flat.length = N2 := ⟨_, rfl⟩
  rw [hH1, hN1] at hO
  rw [hH2, hN2] at hM
  have SX := Lib.hid (show ∀ W, Below w1.heap.size w1 W → W.cell? ⟨d, 0, none⟩ = some (.string (st p.1)) ∧ W.cell? ⟨d, 1, none⟩ = some (.string (st p.2)) ∧ W.cell? ⟨d, 2, none⟩ = some (.pointer A) ∧ W.cell? ⟨d, 3, none⟩ = some (.pointer B) ∧ W.cell? ⟨d, 4, none⟩ = some (.int .i64 C) ∧ W.cell? ⟨d, 5, none⟩ = some (.int .i64 D) ∧ W.cell? ⟨x, 0, none⟩ = some (.string (st lp.1)) ∧ W.cell? ⟨x, 1, none⟩ = some (.string (st lp.2)) ∧ W.cell? ⟨x, 2, none⟩ = some (.pointer Xo) ∧ W.cell? ⟨x, 3, none⟩ = some (.pointer (some ⟨y, 0, none⟩)) ∧ W.cell? ⟨x, 4, none⟩ = some (.int .i64 (H1 : Int)) ∧ W.cell? ⟨x, 5, none⟩ = some (.int .i64 (N1 : Int)) ∧ W.cell? ⟨y, 0, none⟩ = some (.string (st mp.1)) ∧ W.cell? ⟨y, 1, none⟩ = some (.string (st mp.2)) ∧ W.cell? ⟨y, 2, none⟩ = some (.pointer Xm1) ∧ W.cell? ⟨y, 3, none⟩ = some (.pointer Xm2) ∧ W.cell? ⟨y, 4, none⟩ = some (.int .i64 (H2 : Int)) ∧ W.cell? ⟨y, 5, none⟩ = some (.int .i64 (N2 : Int)) from fun W hW => by
    obtain ⟨o0, _, _⟩ := hO W hW
    obtain ⟨n0, _, _⟩ := hM W hW
    have k0 := hk1.below hW hk1.lt
    exact ⟨k0.cell 0, k0.cell 1, k0.cell 2, k0.cell 3, k0.cell 4, k0.cell 5, o0.cell 0, o0.cell 1, o0.cell 2, o0.cell 3, o0.cell 4, o0.cell 5, n0.cell 0, n0.cell 1, n0.cell 2, n0.cell 3, n0.cell 4, n0.cell 5⟩)
  have K1 := Lib.hid (fun W (hW : Below w1.heap.size w1 W) => high18 Xo o W (hO W hW).2.1)
  have K2 := Lib.hid (fun W (hW : Below w1.heap.size w1 W) => high18 (some ⟨y, 0, none⟩) (.node y m1 mp m2) W (hO W hW).2.2)
  have KA := Lib.hid (fun W (hW : Below w1.heap.size w1 W) => with_plain lp Xo (some ⟨y, 0, none⟩) (H1 : Int) (N1 : Int) Xo Xm1 o m1 W (hO W hW).2.1 (hM W hW).2.1 (by omega) (by omega) (by omega) (by omega) (by omega) (by omega))
  have KB := Lib.hid (fun W (hW : Below w1.heap.size w1 W) => with_plain p A B C D Xm2 Xr m2 s W (hM W hW).2.2 (HS.out W hW) (by omega) (by omega) (by omega) (by omega) (by omega) (by omega))
  have KC := Lib.hid (fun (a b : Nat) (Y Z : Option Addr) W (h : Lies18 W (.pointer Y) (.node a o lp m1)) (h' : Lies18 W (.pointer Z) (.node b m2 p s)) => with_plain mp Xm1 Xm2 (H2 : Int) (N2 : Int) Y Z (.node a o lp m1) (.node b m2 p s) W h h' (by first | omega | (simp only [T18.ht]; omega)) (by first | omega | (simp only [T18.ht]; omega)) (by first | omega | (simp only [T18.ht]; omega)) (by first | omega | (simp only [T18.ht]; omega)) (by first | omega | (simp only [T18.flat, List.length_append, List.length_cons]; omega)) (by first | omega | (simp only [T18.flat, List.length_append, List.length_cons]; omega)))
  have HQ := Lib.hid (And.intro (show (T18.node x o lp (.node y m1 mp m2)).ht = s.ht + 2 by simp only [T18.ht]; omega) q2)
  obtain ⟨U, hU⟩ : ∃ U, o.ht = U := ⟨_, rfl⟩
  rw [hU, hH2] at q2
  rw [hU] at K1
  rw [hH2] at K2
  have e3 : ¬ (H2 : Int) ≤ (U : Int) := by omega
  have e4 : decide ((H2 : Int) ≤ (U : Int)) = false := decide_eq_false e3
  have hbw : Below w1.heap.size w1 w1.drew := below_drewN (Below.refl w1.heap.size w1) 1
  obtain ⟨s0, s1, s2, s3, s4, s5, s6, s7, s8, s9, s10, s11, s12, s13, s14, s15, s16, s17⟩ := SX.out w1 (Below.refl _ _)
  clear hl hr hd hw1 hb1 hk1 hU hO hM hlen hh hbal hbal2 hq2 q1 h1 h2 h3 h4 hH1 hN1 hH2 hN2
  go_enter Try.func40, Try.ntmps40
  go_upto_region 1 with fail
  rw [HW.out.1, HW.out.2]
  go_wp2_with fail
  refine (K1.out w1 (Below.refl _ _)).mono ?_
  rintro e w2 ⟨rfl, rfl⟩
  go_wp2_with fail
  refine (K2.out w2 (Below.refl _ _)).mono ?_
  rintro e w3 ⟨rfl, rfl⟩
  go_upto_region 4 with fail
  (go_region_held3 (fun W => W.cell? ⟨d, 0, none⟩ = some (.string (st p.1)) ∧ W.cell? ⟨d, 1, none⟩ = some (.string (st p.2)) ∧ W.cell? ⟨d, 2, none⟩ = some (.pointer A) ∧ W.cell? ⟨d, 3, none⟩ = some (.pointer B) ∧ W.cell? ⟨d, 4, none⟩ = some (.int .i64 C) ∧ W.cell? ⟨d, 5, none⟩ = some (.int .i64 D) ∧ W.cell? ⟨x, 0, none⟩ = some (.string (st lp.1)) ∧ W.cell? ⟨x, 1, none⟩ = some (.string (st lp.2)) ∧ W.cell? ⟨x, 2, none⟩ = some (.pointer Xo) ∧ W.cell? ⟨x, 3, none⟩ = some (.pointer (some ⟨y, 0, none⟩)) ∧ W.cell? ⟨x, 4, none⟩ = some (.int .i64 (H1 : Int)) ∧ W.cell? ⟨x, 5, none⟩ = some (.int .i64 (N1 : Int)) ∧ W.cell? ⟨y, 0, none⟩ = some (.string (st mp.1)) ∧ W.cell? ⟨y, 1, none⟩ = some (.string (st mp.2)) ∧ W.cell? ⟨y, 2, none⟩ = some (.pointer Xm1) ∧ W.cell? ⟨y, 3, none⟩ = some (.pointer Xm2) ∧ W.cell? ⟨y, 4, none⟩ = some (.int .i64 (H2 : Int)) ∧ W.cell? ⟨y, 5, none⟩ = some (.int .i64 (N2 : Int))) (exact SX.out _ (by assumption)) (first
    | (go_at_call 38; (with_reducible refine (KA.out _ (by assumption)).mono ?_); rintro e w7 ⟨a7, rfl, -, l7, b7⟩; have hb7 := Below.trans (by assumption : Below w3.heap.size w3 _) (b7.mono (Below.size (by assumption))))
    | (go_at_call 38; (with_reducible refine (KB.out _ (by assumption)).mono ?_); rintro e w8 ⟨a8, rfl, -, l8, b8⟩; have hb8 := Below.trans (by assumption : Below w3.heap.size w3 _) (b8.mono (Below.size (by assumption))))
    | (go_at_call 38; (with_reducible refine (KC.out a7 a8 _ _ _ (l7.below b8) l8).mono ?_); rintro e w9 ⟨a9, rfl, -, l9, b9⟩; have hb9 := hb8.trans (b9.mono hb8.size))))
  all_goals (
    go_wp2_with fail
    go_ret
    exact ⟨_, _, rfl, .inr (.inr (.inl ⟨x, o, lp, y, m1, mp, m2, a9, a7, a8, rfl, HQ.out.1, HQ.out.2, rfl⟩)), l9, HB1.out.trans (hb9.mono HB1.out.size)⟩)
set_option maxHeartbeats 4000000 in
theorem down_rr (p : PT) (A B : Option Addr) (C D : Int) (Xl Xr : Option Addr) (x : Nat) (o : T18) (lp : PT) (i s : T18) (w : World) (hl : Lies18 w (.pointer Xl) s) (hr : Lies18 w (.pointer Xr) (.node x i lp o)) (q1 : (T18.node x i lp o).ht = s.ht + 2) (q2 : i.ht ≤ o.ht) (hbal : (T18.node x i lp o).Bal) (h1 : (T18.node x i lp o).ht ≤ 100) (h2 : s.ht ≤ 100) (h3 : (T18.node x i lp o).flat.length ≤ 10000) (h4 : s.flat.length ≤ 10000) :
    Calls Try.prog 41 #[.agg #[.string (st p.1), .string (st p.2), .pointer A, .pointer B, .int .i64 C, .int .i64 D], .pointer Xl, .pointer Xr] w fun e w' => ∃ v' t', e = .returned v' ∧ Even18 s p (.node x i lp o) t' ∧ Lies18 w' v' t' ∧ Below w.heap.size w w' := by
  obtain ⟨w1, d, hd, hw1, hb1, hk1⟩ : ∃ w1 d, w.heap.size = d ∧ w.alloc (.cells #[.string (st p.1), .string (st p.2), .pointer A, .pointer B, .int .i64 C, .int .i64 D] 61) = w1 ∧ Below w.heap.size w w1 ∧ Blk w1 d 61 #[.string (st p.1), .string (st p.2), .pointer A, .pointer B, .int .i64 C, .int .i64 D] := ⟨_, _, rfl, rfl, (Below.refl w.heap.size w).alloc (Nat.le_refl _) _, Blk.new w 61 _⟩
  have HW := Lib.hid (And.intro hd hw1)
  have HB1 := Lib.hid hb1
  obtain ⟨Xi, Xo, hxe, hO⟩ := (hr.below hb1).open
  injection hxe with hxe
  subst hxe
  have hlen : o.flat.length ≤ 10000 ∧ i.flat.length + s.flat.length + 1 ≤ 30000 := by
    simp only [T18.flat, List.length_append, List.length_cons] at h3
    omega
  have hh : o.ht ≤ 100 ∧ i.ht ≤ 100 := by
    simp only [T18.ht] at h1
    omega
  obtain ⟨_, _, b3, b4⟩ := hbal
  simp only [T18.ht] at q1
  have HS := Lib.hid (show ∀ W, Below w1.heap.size w1 W → Lies18 W (.pointer Xl) s from fun W hW => (hl.below hb1).below hW)
  obtain ⟨H1, hH1⟩ : ∃ H1, (T18.node x i lp o).ht = H1 := ⟨_, rfl⟩
  obtain ⟨N1, hN1⟩ : ∃ N1, (T18.node x i lp o).flat.length = N1 := ⟨_, rfl⟩
  rw [hH1, hN1] at hO
  have SX := Lib.hid (show ∀ W, Below w1.heap.size w1 W → W.cell? ⟨d, 0, none⟩ = some (.string (st p.1)) ∧ W.cell? ⟨d, 1, none⟩ = some (.string (st p.2)) ∧ W.cell? ⟨d, 2, none⟩ = some (.pointer A) ∧ W.cell? ⟨d, 3, none⟩ = some (.pointer B) ∧ W.cell? ⟨d, 4, none⟩ = some (.int .i64 C) ∧ W.cell? ⟨d, 5, none⟩ = some (.int .i64 D) ∧ W.cell? ⟨x, 0, none⟩ = some (.string (st lp.1)) ∧ W.cell? ⟨x, 1, none⟩ = some (.string (st lp.2)) ∧ W.cell? ⟨x, 2, none⟩ = some (.pointer Xi) ∧ W.cell? ⟨x, 3, none⟩ = some (.pointer Xo) ∧ W.cell? ⟨x, 4, none⟩ = some (.int .i64 (H1 : Int)) ∧ W.cell? ⟨x, 5, none⟩ = some (.int .i64 (N1 : Int)) from fun W hW => by
    obtain ⟨o0, _, _⟩ := hO W hW
    have k0 := hk1.below hW hk1.lt
    exact ⟨k0.cell 0, k0.cell 1, k0.cell 2, k0.cell 3, k0.cell 4, k0.cell 5, o0.cell 0, o0.cell 1, o0.cell 2, o0.cell 3, o0.cell 4, o0.cell 5⟩)
  have K1 := Lib.hid (fun W (hW : Below w1.heap.size w1 W) => high18 Xo o W (hO W hW).2.2)
  have K2 := Lib.hid (fun W (hW : Below w1.heap.size w1 W) => high18 Xi i W (hO W hW).2.1)
  have KA := Lib.hid (fun W (hW : Below w1.heap.size w1 W) => with_plain p A B C D Xl Xi s i W (HS.out W hW) (hO W hW).2.1 (by omega) (by omega) (by omega) (by omega) (by omega) (by omega))
  have KB := Lib.hid (fun (a : Nat) (Y : Option Addr) W (h : Lies18 W (.pointer Y) (.node a s p i)) (hW : Below w1.heap.size w1 W) => with_plain lp Xi Xo (H1 : Int) (N1 : Int) Y Xo (.node a s p i) o W h (hO W hW).2.2 (by first | omega | (simp only [T18.ht]; omega)) (by first | omega | (simp only [T18.ht]; omega)) (by first | omega | (simp only [T18.ht]; omega)) (by first | omega | (simp only [T18.ht]; omega)) (by first | omega | (simp only [T18.flat, List.length_append, List.length_cons]; omega)) (by first | omega | (simp only [T18.flat, List.length_append, List.length_cons]; omega)))
  have HQ := Lib.hid (And.intro (show (T18.node x i lp o).ht = s.ht + 2 by simp only [T18.ht]; omega) q2)
  obtain ⟨U, hU⟩ : ∃ U, o.ht = U := ⟨_, rfl⟩
  obtain ⟨V, hV⟩ : ∃ V, i.ht = V := ⟨_, rfl⟩
  rw [hU] at K1 q2
  rw [hV] at K2 q2
  have e3 : (V : Int) ≤ (U : Int) := by omega
  have e4 : decide ((V : Int) ≤ (U : Int)) = true := decide_eq_true e3
  have hbw : Below w1.heap.size w1 w1.drew := below_drewN (Below.refl w1.heap.size w1) 1
  obtain ⟨s0, s1, s2, s3, s4, s5, s6, s7, s8, s9, s10, s11⟩ := SX.out w1 (Below.refl _ _)
  clear hl hr hd hw1 hb1 hk1 hU hV hO hlen hh b3 b4 q1 h1 h2 h3 h4 hH1 hN1
  go_enter Try.func41, Try.ntmps41
  go_upto_region 1 with fail
  rw [HW.out.1, HW.out.2]
  go_wp2_with fail
  refine (K1.out w1 (Below.refl _ _)).mono ?_
  rintro e w2 ⟨rfl, rfl⟩
  go_wp2_with fail
  refine (K2.out w2 (Below.refl _ _)).mono ?_
  rintro e w3 ⟨rfl, rfl⟩
  go_upto_region 3 with fail
  (go_region_held3 (fun W => W.cell? ⟨d, 0, none⟩ = some (.string (st p.1)) ∧ W.cell? ⟨d, 1, none⟩ = some (.string (st p.2)) ∧ W.cell? ⟨d, 2, none⟩ = some (.pointer A) ∧ W.cell? ⟨d, 3, none⟩ = some (.pointer B) ∧ W.cell? ⟨d, 4, none⟩ = some (.int .i64 C) ∧ W.cell? ⟨d, 5, none⟩ = some (.int .i64 D) ∧ W.cell? ⟨x, 0, none⟩ = some (.string (st lp.1)) ∧ W.cell? ⟨x, 1, none⟩ = some (.string (st lp.2)) ∧ W.cell? ⟨x, 2, none⟩ = some (.pointer Xi) ∧ W.cell? ⟨x, 3, none⟩ = some (.pointer Xo) ∧ W.cell? ⟨x, 4, none⟩ = some (.int .i64 (H1 : Int)) ∧ W.cell? ⟨x, 5, none⟩ = some (.int .i64 (N1 : Int))) (exact SX.out _ (by assumption)) (first
    | (go_at_call 38; (with_reducible refine (KA.out _ (by assumption)).mono ?_); rintro e w7 ⟨a7, rfl, -, l7, b7⟩; have hb7 := Below.trans (by assumption : Below w3.heap.size w3 _) (b7.mono (Below.size (by assumption))))
    | (go_at_call 38; (with_reducible refine (KB.out a7 _ _ l7 (by assumption)).mono ?_); rintro e w8 ⟨a8, rfl, -, l8, b8⟩; have hb8 := Below.trans (by assumption : Below w3.heap.size w3 _) (b8.mono (Below.size (by assumption))))))
  all_goals (
    go_wp2_with fail
    go_ret
    exact ⟨_, _, rfl, .inr (.inr (.inr (.inl ⟨x, i, lp, o, a8, a7, rfl, HQ.out.1, HQ.out.2, rfl⟩))), l8, HB1.out.trans (hb8.mono HB1.out.size)⟩)
set_option maxHeartbeats 4000000 in
theorem down_rl (p : PT) (A B : Option Addr) (C D : Int) (Xl Xr : Option Addr) (x : Nat) (o : T18) (lp : PT) (y : Nat) (m1 : T18) (mp : PT) (m2 s : T18) (w : World) (hl : Lies18 w (.pointer Xl) s) (hr : Lies18 w (.pointer Xr) (.node x (.node y m1 mp m2) lp o)) (q1 : (T18.node x (.node y m1 mp m2) lp o).ht = s.ht + 2) (q2 : o.ht < (T18.node y m1 mp m2).ht) (hbal : (T18.node x (.node y m1 mp m2) lp o).Bal) (h1 : (T18.node x (.node y m1 mp m2) lp o).ht ≤ 100) (h2 : s.ht ≤ 100) (h3 : (T18.node x (.node y m1 mp m2) lp o).flat.length ≤ 10000) (h4 : s.flat.length ≤ 10000) :
    Calls Try.prog 41 #[.agg #[.string (st p.1), .string (st p.2), .pointer A, .pointer B, .int .i64 C, .int .i64 D], .pointer Xl, .pointer Xr] w fun e w' => ∃ v' t', e = .returned v' ∧ Even18 s p (.node x (.node y m1 mp m2) lp o) t' ∧ Lies18 w' v' t' ∧ Below w.heap.size w w' := by
  obtain ⟨w1, d, hd, hw1, hb1, hk1⟩ : ∃ w1 d, w.heap.size = d ∧ w.alloc (.cells #[.string (st p.1), .string (st p.2), .pointer A, .pointer B, .int .i64 C, .int .i64 D] 61) = w1 ∧ Below w.heap.size w w1 ∧ Blk w1 d 61 #[.string (st p.1), .string (st p.2), .pointer A, .pointer B, .int .i64 C, .int .i64 D] := ⟨_, _, rfl, rfl, (Below.refl w.heap.size w).alloc (Nat.le_refl _) _, Blk.new w 61 _⟩
  have HW := Lib.hid (And.intro hd hw1)
  have HB1 := Lib.hid hb1
  obtain ⟨Xi, Xo, hxe, hO⟩ := (hr.below hb1).open
  injection hxe with hxe
  subst hxe
  obtain ⟨Xm1, Xm2, hye, hM⟩ := (hO w1 (Below.refl _ _)).2.1.open
  injection hye with hye
  subst hye
  have hlen : o.flat.length + m1.flat.length + m2.flat.length + 2 ≤ 10000 := by
    simp only [T18.flat, List.length_append, List.length_cons] at h3
    omega
  have hh : o.ht ≤ 100 ∧ m1.ht ≤ 100 ∧ m2.ht ≤ 100 := by
    simp only [T18.ht] at h1
    omega
  have hbal2 : (T18.node x (.node y m1 mp m2) lp o).Bal := hbal
  simp only [T18.Bal, T18.ht] at hbal2
  have hq2 := q2
  simp only [T18.ht] at q1 hq2
  have HS := Lib.hid (show ∀ W, Below w1.heap.size w1 W → Lies18 W (.pointer Xl) s from fun W hW => (hl.below hb1).below hW)
  obtain ⟨H1, hH1⟩ : ∃ H1, (T18.node x (.node y m1 mp m2) lp o).ht = H1 := ⟨_, rfl⟩
  obtain ⟨N1, hN1⟩ : ∃ N1, (T18.node x (.node y m1 mp m2) lp o).flat.length = N1 := ⟨_, rfl⟩
  obtain ⟨H2, hH2⟩ : ∃ H2, (T18.node y m1 mp m2).ht = H2 := ⟨_, rfl⟩
  obtain ⟨N2, hN2⟩ : ∃ N2, (T18.node y m1 mp m2).flat.length = N2 := ⟨_, rfl⟩
  rw [hH1, hN1] at hO
  rw [hH2, hN2] at hM
  have SX := Lib.hid (show ∀ W, Below w1.heap.size w1 W → W.cell? ⟨d, 0, none⟩ = some (.string (st p.1)) ∧ W.cell? ⟨d, 1, none⟩ = some (.string (st p.2)) ∧ W.cell? ⟨d, 2, none⟩ = some (.pointer A) ∧ W.cell? ⟨d, 3, none⟩ = some (.pointer B) ∧ W.cell? ⟨d, 4, none⟩ = some (.int .i64 C) ∧ W.cell? ⟨d, 5, none⟩ = some (.int .i64 D) ∧ W.cell? ⟨x, 0, none⟩ = some (.string (st lp.1)) ∧ W.cell? ⟨x, 1, none⟩ = some (.string (st lp.2)) ∧ W.cell? ⟨x, 2, none⟩ = some (.pointer (some ⟨y, 0, none⟩)) ∧ W.cell? ⟨x, 3, none⟩ = some (.pointer Xo) ∧ W.cell? ⟨x, 4, none⟩ = some (.int .i64 (H1 : Int)) ∧ W.cell? ⟨x, 5, none⟩ = some (.int .i64 (N1 : Int)) ∧ W.cell? ⟨y, 0, none⟩ = some (.string (st mp.1)) ∧ W.cell? ⟨y, 1, none⟩ = some (.string (st mp.2)) ∧ W.cell? ⟨y, 2, none⟩ = some (.pointer Xm1) ∧ W.cell? ⟨y, 3, none⟩ = some (.pointer Xm2) ∧ W.cell? ⟨y, 4, none⟩ = some (.int .i64 (H2 : Int)) ∧ W.cell? ⟨y, 5, none⟩ = some (.int .i64 (N2 : Int)) from fun W hW => by
    obtain ⟨o0, _, _⟩ := hO W hW
    obtain ⟨n0, _, _⟩ := hM W hW
    have k0 := hk1.below hW hk1.lt
    exact ⟨k0.cell 0, k0.cell 1, k0.cell 2, k0.cell 3, k0.cell 4, k0.cell 5, o0.cell 0, o0.cell 1, o0.cell 2, o0.cell 3, o0.cell 4, o0.cell 5, n0.cell 0, n0.cell 1, n0.cell 2, n0.cell 3, n0.cell 4, n0.cell 5⟩)
  have K1 := Lib.hid (fun W (hW : Below w1.heap.size w1 W) => high18 Xo o W (hO W hW).2.2)
  have K2 := Lib.hid (fun W (hW : Below w1.heap.size w1 W) => high18 (some ⟨y, 0, none⟩) (.node y m1 mp m2) W (hO W hW).2.1)
  have KA := Lib.hid (fun W (hW : Below w1.heap.size w1 W) => with_plain p A B C D Xl Xm1 s m1 W (HS.out W hW) (hM W hW).2.1 (by omega) (by omega) (by omega) (by omega) (by omega) (by omega))
  have KB := Lib.hid (fun W (hW : Below w1.heap.size w1 W) => with_plain lp (some ⟨y, 0, none⟩) Xo (H1 : Int) (N1 : Int) Xm2 Xo m2 o W (hM W hW).2.2 (hO W hW).2.2 (by omega) (by omega) (by omega) (by omega) (by omega) (by omega))
  have KC := Lib.hid (fun (a b : Nat) (Y Z : Option Addr) W (h : Lies18 W (.pointer Y) (.node a s p m1)) (h' : Lies18 W (.pointer Z) (.node b m2 lp o)) => with_plain mp Xm1 Xm2 (H2 : Int) (N2 : Int) Y Z (.node a s p m1) (.node b m2 lp o) W h h' (by first | omega | (simp only [T18.ht]; omega)) (by first | omega | (simp only [T18.ht]; omega)) (by first | omega | (simp only [T18.ht]; omega)) (by first | omega | (simp only [T18.ht]; omega)) (by first | omega | (simp only [T18.flat, List.length_append, List.length_cons]; omega)) (by first | omega | (simp only [T18.flat, List.length_append, List.length_cons]; omega)))
  have HQ := Lib.hid (And.intro (show (T18.node x (.node y m1 mp m2) lp o).ht = s.ht + 2 by simp only [T18.ht]; omega) q2)
  obtain ⟨U, hU⟩ : ∃ U, o.ht = U := ⟨_, rfl⟩
  rw [hU, hH2] at q2
  rw [hU] at K1
  rw [hH2] at K2
  have e3 : ¬ (H2 : Int) ≤ (U : Int) := by omega
  have e4 : decide ((H2 : Int) ≤ (U : Int)) = false := decide_eq_false e3
  have hbw : Below w1.heap.size w1 w1.drew := below_drewN (Below.refl w1.heap.size w1) 1
  obtain ⟨s0, s1, s2, s3, s4, s5, s6, s7, s8, s9, s10, s11, s12, s13, s14, s15, s16, s17⟩ := SX.out w1 (Below.refl _ _)
  clear hl hr hd hw1 hb1 hk1 hU hO hM hlen hh hbal hbal2 hq2 q1 h1 h2 h3 h4 hH1 hN1 hH2 hN2
  go_enter Try.func41, Try.ntmps41
  go_upto_region 1 with fail
  rw [HW.out.1, HW.out.2]
  go_wp2_with fail
  refine (K1.out w1 (Below.refl _ _)).mono ?_
  rintro e w2 ⟨rfl, rfl⟩
  go_wp2_with fail
  refine (K2.out w2 (Below.refl _ _)).mono ?_
  rintro e w3 ⟨rfl, rfl⟩
  go_upto_region 4 with fail
  (go_region_held3 (fun W => W.cell? ⟨d, 0, none⟩ = some (.string (st p.1)) ∧ W.cell? ⟨d, 1, none⟩ = some (.string (st p.2)) ∧ W.cell? ⟨d, 2, none⟩ = some (.pointer A) ∧ W.cell? ⟨d, 3, none⟩ = some (.pointer B) ∧ W.cell? ⟨d, 4, none⟩ = some (.int .i64 C) ∧ W.cell? ⟨d, 5, none⟩ = some (.int .i64 D) ∧ W.cell? ⟨x, 0, none⟩ = some (.string (st lp.1)) ∧ W.cell? ⟨x, 1, none⟩ = some (.string (st lp.2)) ∧ W.cell? ⟨x, 2, none⟩ = some (.pointer (some ⟨y, 0, none⟩)) ∧ W.cell? ⟨x, 3, none⟩ = some (.pointer Xo) ∧ W.cell? ⟨x, 4, none⟩ = some (.int .i64 (H1 : Int)) ∧ W.cell? ⟨x, 5, none⟩ = some (.int .i64 (N1 : Int)) ∧ W.cell? ⟨y, 0, none⟩ = some (.string (st mp.1)) ∧ W.cell? ⟨y, 1, none⟩ = some (.string (st mp.2)) ∧ W.cell? ⟨y, 2, none⟩ = some (.pointer Xm1) ∧ W.cell? ⟨y, 3, none⟩ = some (.pointer Xm2) ∧ W.cell? ⟨y, 4, none⟩ = some (.int .i64 (H2 : Int)) ∧ W.cell? ⟨y, 5, none⟩ = some (.int .i64 (N2 : Int))) (exact SX.out _ (by assumption)) (first
    | (go_at_call 38; (with_reducible refine (KA.out _ (by assumption)).mono ?_); rintro e w7 ⟨a7, rfl, -, l7, b7⟩; have hb7 := Below.trans (by assumption : Below w3.heap.size w3 _) (b7.mono (Below.size (by assumption))))
    | (go_at_call 38; (with_reducible refine (KB.out _ (by assumption)).mono ?_); rintro e w8 ⟨a8, rfl, -, l8, b8⟩; have hb8 := Below.trans (by assumption : Below w3.heap.size w3 _) (b8.mono (Below.size (by assumption))))
    | (go_at_call 38; (with_reducible refine (KC.out a7 a8 _ _ _ (l7.below b8) l8).mono ?_); rintro e w9 ⟨a9, rfl, -, l9, b9⟩; have hb9 := hb8.trans (b9.mono hb8.size))))
  all_goals (
    go_wp2_with fail
    go_ret
    exact ⟨_, _, rfl, .inr (.inr (.inr (.inr ⟨x, lp, o, y, m1, mp, m2, a9, a7, a8, rfl, HQ.out.1, HQ.out.2, rfl⟩))), l9, HB1.out.trans (hb9.mono HB1.out.size)⟩)
end Go.Proofs.Ytiomfkhblmmdoaa
