/- The landed tree: with in full, put. No statement of the seat is proved here. -/
import Derived.Test.YtiomfkhblmmdoaaTrLandC
import Derived.Deep.QuietTactic
import Derived.BigQuiet
namespace Go.Proofs.Ytiomfkhblmmdoaa
open Go.RowKit
set_option linter.unusedVariables false
set_option linter.unusedSimpArgs false
set_option maxRecDepth 100000

theorem dec_t18 {x y : Int} (h : x < y) : decide (x < y) = true := decide_eq_true h
set_option maxHeartbeats 4000000 in
theorem with_right (p : PT) (A B : Option Addr) (C D : Int) (Xl Xr : Option Addr) (l r : T18) (w : World) (hl : Lies18 w (.pointer Xl) l) (hr : Lies18 w (.pointer Xr) r) (q1 : l.ht = r.ht + 2) (h1 : l.ht ≤ 100) (h2 : r.ht ≤ 100)
    (KD : ∀ W, Below w.heap.size w W → Calls Try.prog 40 #[.agg #[.string (st p.1), .string (st p.2), .pointer A, .pointer B, .int .i64 C, .int .i64 D], .pointer Xl, .pointer Xr] W fun e w' => ∃ v' t', e = .returned v' ∧ Even18 l p r t' ∧ Lies18 w' v' t' ∧ Below W.heap.size W w') :
    Calls Try.prog 38 #[.agg #[.string (st p.1), .string (st p.2), .pointer A, .pointer B, .int .i64 C, .int .i64 D], .pointer Xl, .pointer Xr] w fun e w' => ∃ v' t', e = .returned v' ∧ Even18 l p r t' ∧ Lies18 w' v' t' ∧ Below w.heap.size w w' := by
  obtain ⟨w1, hw1, hb1, hk1⟩ : ∃ w1, w.alloc (.cells #[.string (st p.1), .string (st p.2), .pointer A, .pointer B, .int .i64 C, .int .i64 D] 61) = w1 ∧ Below w.heap.size w w1 ∧ Blk w1 w.heap.size 61 #[.string (st p.1), .string (st p.2), .pointer A, .pointer B, .int .i64 C, .int .i64 D] := ⟨_, rfl, (Below.refl w.heap.size w).alloc (Nat.le_refl _) _, Blk.new w 61 _⟩
  obtain ⟨d, hd⟩ : ∃ d, w.heap.size = d := ⟨_, rfl⟩
  have HW := Lib.hid (And.intro hd hw1)
  have HB1 := Lib.hid hb1
  rw [hd] at hk1
  have c0 : w1.cell? ⟨d, 0, none⟩ = some (.string (st p.1)) := hk1.cell 0
  have c1 : w1.cell? ⟨d, 1, none⟩ = some (.string (st p.2)) := hk1.cell 1
  have c2 : w1.cell? ⟨d, 2, none⟩ = some (.pointer A) := hk1.cell 2
  have c3 : w1.cell? ⟨d, 3, none⟩ = some (.pointer B) := hk1.cell 3
  have c4 : w1.cell? ⟨d, 4, none⟩ = some (.int .i64 C) := hk1.cell 4
  have c5 : w1.cell? ⟨d, 5, none⟩ = some (.int .i64 D) := hk1.cell 5
  have KHL := Lib.hid (high18 Xl l w1 (hl.below hb1))
  have KHR := Lib.hid (high18 Xr r w1 (hr.below hb1))
  have KD2 := Lib.hid (KD w1 hb1)
  obtain ⟨x, hx⟩ : ∃ x, l.ht = x := ⟨_, rfl⟩
  obtain ⟨y, hy⟩ : ∃ y, r.ht = y := ⟨_, rfl⟩
  rw [hx] at KHL q1 h1
  rw [hy] at KHR q1 h2
  have e1 : (y : Int) + 1 < (x : Int) := by omega
  have e2 := dec_t18 e1
  clear hl hr hd hw1 hb1 hk1 hx hy q1 KD
  go_enter Try.func38, Try.ntmps38
  go_upto_region 1 with fail
  rw [HW.out.1, HW.out.2]
  go_wp2_with fail
  refine KHL.out.mono ?_
  rintro e w2 ⟨rfl, rfl⟩
  go_wp2_with fail
  refine KHR.out.mono ?_
  rintro e w3 ⟨rfl, rfl⟩
  go_wp2_with fail
  refine KD2.out.mono ?_
  rintro e w6 ⟨v6, t6, rfl, p6, l6, b6⟩
  have HL6 := Lib.hid (And.intro p6 (And.intro l6 (HB1.out.trans (b6.mono HB1.out.size))))
  clear p6 l6 b6
  go_wp2_with fail
  go_ret
  exact ⟨_, _, rfl, HL6.out.1, HL6.out.2.1, HL6.out.2.2⟩
set_option maxHeartbeats 4000000 in
theorem with_left (p : PT) (A B : Option Addr) (C D : Int) (Xl Xr : Option Addr) (l r : T18) (w : World) (hl : Lies18 w (.pointer Xl) l) (hr : Lies18 w (.pointer Xr) r) (q1 : r.ht = l.ht + 2) (h1 : l.ht ≤ 100) (h2 : r.ht ≤ 100)
    (KD : ∀ W, Below w.heap.size w W → Calls Try.prog 41 #[.agg #[.string (st p.1), .string (st p.2), .pointer A, .pointer B, .int .i64 C, .int .i64 D], .pointer Xl, .pointer Xr] W fun e w' => ∃ v' t', e = .returned v' ∧ Even18 l p r t' ∧ Lies18 w' v' t' ∧ Below W.heap.size W w') :
    Calls Try.prog 38 #[.agg #[.string (st p.1), .string (st p.2), .pointer A, .pointer B, .int .i64 C, .int .i64 D], .pointer Xl, .pointer Xr] w fun e w' => ∃ v' t', e = .returned v' ∧ Even18 l p r t' ∧ Lies18 w' v' t' ∧ Below w.heap.size w w' := by
  obtain ⟨w1, hw1, hb1, hk1⟩ : ∃ w1, w.alloc (.cells #[.string (st p.1), .string (st p.2), .pointer A, .pointer B, .int .i64 C, .int .i64 D] 61) = w1 ∧ Below w.heap.size w w1 ∧ Blk w1 w.heap.size 61 #[.string (st p.1), .string (st p.2), .pointer A, .pointer B, .int .i64 C, .int .i64 D] := ⟨_, rfl, (Below.refl w.heap.size w).alloc (Nat.le_refl _) _, Blk.new w 61 _⟩
  obtain ⟨d, hd⟩ : ∃ d, w.heap.size = d := ⟨_, rfl⟩
  have HW := Lib.hid (And.intro hd hw1)
  have HB1 := Lib.hid hb1
  rw [hd] at hk1
  have c0 : w1.cell? ⟨d, 0, none⟩ = some (.string (st p.1)) := hk1.cell 0
  have c1 : w1.cell? ⟨d, 1, none⟩ = some (.string (st p.2)) := hk1.cell 1
  have c2 : w1.cell? ⟨d, 2, none⟩ = some (.pointer A) := hk1.cell 2
  have c3 : w1.cell? ⟨d, 3, none⟩ = some (.pointer B) := hk1.cell 3
  have c4 : w1.cell? ⟨d, 4, none⟩ = some (.int .i64 C) := hk1.cell 4
  have c5 : w1.cell? ⟨d, 5, none⟩ = some (.int .i64 D) := hk1.cell 5
  have KHL := Lib.hid (high18 Xl l w1 (hl.below hb1))
  have KHR := Lib.hid (high18 Xr r w1 (hr.below hb1))
  have KD2 := Lib.hid (KD w1 hb1)
  obtain ⟨x, hx⟩ : ∃ x, l.ht = x := ⟨_, rfl⟩
  obtain ⟨y, hy⟩ : ∃ y, r.ht = y := ⟨_, rfl⟩
  rw [hx] at KHL q1 h1
  rw [hy] at KHR q1 h2
  have e1 : ¬ (y : Int) + 1 < (x : Int) := by omega
  have e2 := dec_f18 e1
  have e3 : (x : Int) + 1 < (y : Int) := by omega
  have e4 := dec_t18 e3
  clear hl hr hd hw1 hb1 hk1 hx hy q1 KD
  go_enter Try.func38, Try.ntmps38
  go_upto_region 1 with fail
  rw [HW.out.1, HW.out.2]
  go_wp2_with fail
  refine KHL.out.mono ?_
  rintro e w2 ⟨rfl, rfl⟩
  go_wp2_with fail
  refine KHR.out.mono ?_
  rintro e w3 ⟨rfl, rfl⟩
  go_wp2_with fail
  refine KHR.out.mono ?_
  rintro e w2 ⟨rfl, rfl⟩
  go_wp2_with fail
  refine KHL.out.mono ?_
  rintro e w3 ⟨rfl, rfl⟩
  go_wp2_with fail
  refine KD2.out.mono ?_
  rintro e w6 ⟨v6, t6, rfl, p6, l6, b6⟩
  have HL6 := Lib.hid (And.intro p6 (And.intro l6 (HB1.out.trans (b6.mono HB1.out.size))))
  clear p6 l6 b6
  go_wp2_with fail
  go_ret
  exact ⟨_, _, rfl, HL6.out.1, HL6.out.2.1, HL6.out.2.2⟩
theorem with18 (p : PT) (A B : Option Addr) (C D : Int) (Xl Xr : Option Addr) (l r : T18) (w : World) (hl : Lies18 w (.pointer Xl) l) (hr : Lies18 w (.pointer Xr) r) (bl : l.Bal) (br : r.Bal) (q1 : l.ht ≤ r.ht + 2) (q2 : r.ht ≤ l.ht + 2) (h1 : l.ht ≤ 100) (h2 : r.ht ≤ 100) (h3 : l.flat.length ≤ 10000) (h4 : r.flat.length ≤ 10000) :
    Calls Try.prog 38 #[.agg #[.string (st p.1), .string (st p.2), .pointer A, .pointer B, .int .i64 C, .int .i64 D], .pointer Xl, .pointer Xr] w fun e w' => ∃ v' t', e = .returned v' ∧ Even18 l p r t' ∧ Lies18 w' v' t' ∧ Below w.heap.size w w' := by
  by_cases z1 : l.ht = r.ht + 2
  · refine with_right p A B C D Xl Xr l r w hl hr z1 h1 h2 fun W hW => ?_
    cases l with
    | nil => simp [T18.ht] at z1
    | node x ll lp lr =>
      by_cases z2 : lr.ht ≤ ll.ht
      · exact down_ll p A B C D Xl Xr x ll lp lr r W (hl.below hW) (hr.below hW) z1 z2 bl h1 h2 h3 h4
      · cases lr with
        | nil => exact absurd (Nat.zero_le _) z2
        | node y m1 mp m2 => exact down_lr p A B C D Xl Xr x ll lp y m1 mp m2 r W (hl.below hW) (hr.below hW) z1 (by omega) bl h1 h2 h3 h4
  · by_cases z3 : r.ht = l.ht + 2
    · refine with_left p A B C D Xl Xr l r w hl hr z3 h1 h2 fun W hW => ?_
      cases r with
      | nil => simp [T18.ht] at z3
      | node x rl rp rr =>
        by_cases z2 : rl.ht ≤ rr.ht
        · exact down_rr p A B C D Xl Xr x rr rp rl l W (hl.below hW) (hr.below hW) z3 z2 br h2 h1 h4 h3
        · cases rl with
          | nil => exact absurd (Nat.zero_le _) z2
          | node y m1 mp m2 => exact down_rl p A B C D Xl Xr x rr rp y m1 mp m2 l W (hl.below hW) (hr.below hW) z3 (by omega) br h2 h1 h4 h3
    · refine (with_plain p A B C D Xl Xr l r w hl hr (by omega) (by omega) (by omega) (by omega) (by omega) (by omega)).mono ?_
      rintro e w' ⟨a, rfl, _, q3, q4⟩
      exact ⟨_, _, rfl, .inl ⟨by omega, by omega, a, rfl⟩, q3, q4⟩
set_option maxHeartbeats 4000000 in
theorem put18 (k x : List UInt8) : ∀ (t : T18) (X : Option Addr) (w : World), Lies18 w (.pointer X) t → OrdL t.flat → t.Bal → t.ht ≤ 50 → t.flat.length ≤ 5000 →
    Calls Try.prog 31 #[.pointer X, .agg #[.string (st k), .string (st x)]] w fun e w' => ∃ v' t', e = .returned v' ∧ PutTo k x t t' ∧ Lies18 w' v' t' ∧ Below w.heap.size w w' := by
  intro t
  induction t with
  | nil =>
    intro X w h _ _ _ _
    obtain rfl : X = none := by injection h
    obtain ⟨d, w1, hd, hw1, hb1, hk1⟩ : ∃ d w1, w.heap.size = d ∧ w.alloc (.cells #[.string (st k), .string (st x)] 30) = w1 ∧ Below w.heap.size w w1 ∧ Blk w1 d 30 #[.string (st k), .string (st x)] := ⟨_, _, rfl, rfl, (Below.refl w.heap.size w).alloc (Nat.le_refl _) _, Blk.new w 30 _⟩
    have HW := Lib.hid (And.intro hd hw1)
    have HB1 := Lib.hid hb1
    have c0 : w1.cell? ⟨d, 0, none⟩ = some (.string (st k)) := hk1.cell 0
    have c1 : w1.cell? ⟨d, 1, none⟩ = some (.string (st x)) := hk1.cell 1
    have KW := Lib.hid (with_plain (k, x) none none 0 0 none none .nil .nil w1 rfl rfl (Nat.le_succ _) (Nat.le_succ _) (Nat.zero_le _) (Nat.zero_le _) (Nat.zero_le _) (Nat.zero_le _))
    clear h hd hw1 hb1 hk1
    go_enter Try.func31, Try.ntmps31
    go_upto_region 1 with fail
    rw [HW.out.1, HW.out.2]
    go_wp2_with fail
    refine KW.out.mono ?_
    rintro e w6 ⟨a, rfl, -, l6, b6⟩
    have HL6 := Lib.hid (And.intro l6 (HB1.out.trans (b6.mono HB1.out.size)))
    clear l6 b6
    go_wp2_with fail
    go_ret
    exact ⟨_, _, rfl, PutTo.first a k x, HL6.out.1, HL6.out.2⟩
  | node a l p r ihl ihr =>
    intro X w h ho hbal hht hlen
    have HN := Lib.hid (And.intro ho hbal)
    have ho : OrdL (l.flat ++ p :: r.flat) := ho
    obtain ⟨b1, b2, b3, b4⟩ := hbal
    have hll : l.flat.length ≤ 5000 ∧ r.flat.length ≤ 5000 := by
      simp only [T18.flat, List.length_append, List.length_cons] at hlen
      omega
    have hhl : l.ht ≤ 49 ∧ r.ht ≤ 49 := by
      simp only [T18.ht] at hht
      omega
    obtain ⟨Xl, Xr, hX, hO⟩ := h.open
    injection hX with hX
    subst hX
    obtain ⟨d, w1, hd, hw1, hb1, hk1⟩ : ∃ d w1, w.heap.size = d ∧ w.alloc (.cells #[.string (st k), .string (st x)] 30) = w1 ∧ Below w.heap.size w w1 ∧ Blk w1 d 30 #[.string (st k), .string (st x)] := ⟨_, _, rfl, rfl, (Below.refl w.heap.size w).alloc (Nat.le_refl _) _, Blk.new w 30 _⟩
    have HW := Lib.hid (And.intro hd hw1)
    have HB1 := Lib.hid hb1
    have hl := (hO w (Below.refl _ _)).2.1
    have hr := (hO w (Below.refl _ _)).2.2
    obtain ⟨H, hH⟩ : ∃ H, (T18.node a l p r).ht = H := ⟨_, rfl⟩
    obtain ⟨N, hN⟩ : ∃ N, (T18.node a l p r).flat.length = N := ⟨_, rfl⟩
    have HHN := Lib.hid (And.intro hH hN)
    rw [hH, hN] at hO
    have SX := Lib.hid (show ∀ W, Below w1.heap.size w1 W → W.cell? ⟨d, 0, none⟩ = some (.string (st k)) ∧ W.cell? ⟨d, 1, none⟩ = some (.string (st x)) ∧ W.cell? ⟨a, 0, none⟩ = some (.string (st p.1)) ∧ W.cell? ⟨a, 1, none⟩ = some (.string (st p.2)) ∧ W.cell? ⟨a, 2, none⟩ = some (.pointer Xl) ∧ W.cell? ⟨a, 3, none⟩ = some (.pointer Xr) ∧ W.cell? ⟨a, 4, none⟩ = some (.int .i64 (H : Int)) ∧ W.cell? ⟨a, 5, none⟩ = some (.int .i64 (N : Int)) from fun W hW => by
      obtain ⟨o0, _, _⟩ := hO W (hb1.trans (hW.mono hb1.size))
      have k0 := hk1.below hW hk1.lt
      exact ⟨k0.cell 0, k0.cell 1, o0.cell 0, o0.cell 1, o0.cell 2, o0.cell 3, o0.cell 4, o0.cell 5⟩)
    obtain ⟨c0, c1, c2, c3, c4, c5, c6, c7⟩ := SX.out w1 (Below.refl _ _)
    clear hO h hd hw1 hk1 hH hN
    by_cases hkp : k = p.1
    · subst hkp
      have e1 : Op.bytesLess p.1 p.1 = false := by rw [less_iff]; exact decide_eq_false (tx_irrefl _)
      have HLR := Lib.hid (show ∀ W, Below w1.heap.size w1 W → Lies18 W (.pointer Xl) l ∧ Lies18 W (.pointer Xr) r from fun W hW => ⟨hl.below (hb1.trans (hW.mono hb1.size)), hr.below (hb1.trans (hW.mono hb1.size))⟩)
      clear hl hr b1 b2 b3 b4 hll hhl ihl ihr hht hlen hb1 ho
      go_enter Try.func31, Try.ntmps31
      go_upto_region 1 with fail
      rw [HW.out.1, HW.out.2]
      go_wp2_with fail
      go_quiet (fail)
      obtain ⟨wq, hwq⟩ : ∃ wq, w1.drewN nq = wq := ⟨_, rfl⟩
      rw [hwq]
      have hbq : Below w1.heap.size w1 wq := hwq ▸ below_drewN (Below.refl w1.heap.size w1) nq
      clear hwq nq
      obtain ⟨s0, s1, s2, s3, s4, s5, s6, s7⟩ := SX.out wq hbq
      go_wp2_with fail
      go_quiet (fail)
      obtain ⟨w2, hw2⟩ : ∃ w2, wq.drewN nq = w2 := ⟨_, rfl⟩
      rw [hw2]
      have hb2 : Below w1.heap.size w1 w2 := hw2 ▸ below_drewN hbq nq
      clear hw2
      have HB2 := Lib.hid hb2
      obtain ⟨r0, r1, r2, r3, r4, r5, r6, r7⟩ := SX.out w2 hb2
      have hA : ∀ o, (w2.alloc o).cell? ⟨d, 1, none⟩ = some (.string (st x)) := fun o => (SX.out _ (hb2.trans ((Below.refl _ _).alloc hb2.size o))).2.1
      clear hb2
      go_wp2_with fail
      go_ret
      have hb3 := (Below.refl w2.heap.size w2).alloc (Nat.le_refl _) (.cells #[.string (st p.1), .string (st x), .pointer Xl, .pointer Xr, .int .i64 H, .int .i64 N] 61)
      have hk3 := Blk.new w2 61 #[.string (st p.1), .string (st x), .pointer Xl, .pointer Xr, .int .i64 H, .int .i64 N]
      have hLR := HLR.out _ (HB2.out.trans (hb3.mono HB2.out.size))
      refine ⟨_, .node w2.heap.size l (p.1, x) r, rfl, PutTo.here HN.out.1 HN.out.2, ⟨rfl, .pointer Xl, .pointer Xr, ?_, hLR.1, hLR.2⟩, HB1.out.trans ((HB2.out.trans (hb3.mono HB2.out.size)).mono HB1.out.size)⟩
      have e1 : (T18.node w2.heap.size l (p.1, x) r).ht = H := HHN.out.1
      have e2 : (T18.node w2.heap.size l (p.1, x) r).flat.length = N := by rw [← HHN.out.2]; simp [T18.flat]
      rw [e1, e2]
      exact hk3
    · by_cases hlk : k < p.1
      · have e2 : Op.bytesLess k p.1 = true := by rw [less_iff]; exact decide_eq_true hlk
        have HK := Lib.hid hlk
        clear hlk
        have IH := Lib.hid (fun W (hW : Below w1.heap.size w1 W) => ihl Xl W (hl.below (hb1.trans (hW.mono hb1.size))) ho.parts.1 b1 (by omega) (by omega))
        have HO := Lib.hid (show ∀ W, Below w1.heap.size w1 W → Lies18 W (.pointer Xr) r from fun W hW => hr.below (hb1.trans (hW.mono hb1.size)))
        have HEV := Lib.hid (fun (t5 : T18) (X5 : Option Addr) W (h5 : Lies18 W (.pointer X5) t5) (hW : Below w1.heap.size w1 W) (p5 : PutTo k x l t5) => with18 p Xl Xr (H : Int) (N : Int) X5 Xr t5 r W h5 (HO.out W hW) p5.2.1 b2 (by have := p5.2.2.1; have := p5.2.2.2.1; omega) (by have := p5.2.2.1; have := p5.2.2.2.1; omega) (by have := p5.2.2.2.1; omega) (by have := p5.2.2.2.1; omega) (by rw [p5.1]; have := (put_len l.flat k x).1; omega) (by omega))
        clear hl hr b1 b2 b3 b4 hll hhl hkp ihl ihr hht hlen hb1 ho
        go_enter Try.func31, Try.ntmps31
        go_upto_region 1 with fail
        rw [HW.out.1, HW.out.2]
        go_wp2_with fail
        go_quiet (fail)
        obtain ⟨w2, hw2⟩ : ∃ w2, w1.drewN nq = w2 := ⟨_, rfl⟩
        rw [hw2]
        have hb2 : Below w1.heap.size w1 w2 := hw2 ▸ below_drewN (Below.refl w1.heap.size w1) nq
        clear hw2
        obtain ⟨r0, r1, r2, r3, r4, r5, r6, r7⟩ := SX.out w2 hb2
        have hbw : Below w1.heap.size w1 w2.drew := below_drewN hb2 1
        go_upto_region 4 with fail
        (go_region_held3 (fun W => W.cell? ⟨d, 0, none⟩ = some (.string (st k)) ∧ W.cell? ⟨d, 1, none⟩ = some (.string (st x)) ∧ W.cell? ⟨a, 0, none⟩ = some (.string (st p.1)) ∧ W.cell? ⟨a, 1, none⟩ = some (.string (st p.2)) ∧ W.cell? ⟨a, 2, none⟩ = some (.pointer Xl) ∧ W.cell? ⟨a, 3, none⟩ = some (.pointer Xr) ∧ W.cell? ⟨a, 4, none⟩ = some (.int .i64 (H : Int)) ∧ W.cell? ⟨a, 5, none⟩ = some (.int .i64 (N : Int))) (exact SX.out _ (by assumption)) (first
          | (go_at_call 31; (with_reducible refine (IH.out _ (by assumption)).mono ?_); rintro e w5 ⟨v5, t5, rfl, p5, l5, b5⟩; have hb5 := Below.trans (by assumption : Below w1.heap.size w1 _) (b5.mono (Below.size (by assumption))); obtain ⟨X5, rfl⟩ := l5.ptr)
          | (go_at_call 38; (with_reducible refine (HEV.out t5 X5 _ l5 (by assumption) p5).mono ?_); rintro e w6 ⟨v6, t6, rfl, p6, l6, b6⟩; have hb6 := Below.trans (by assumption : Below w1.heap.size w1 _) (b6.mono (Below.size (by assumption))); obtain ⟨X6, rfl⟩ := l6.ptr)))
        all_goals (
          go_wp2_with fail
          go_ret
          exact ⟨_, t6, rfl, PutTo.left HN.out.1 HN.out.2 HK.out p5 p6, l6, HB1.out.trans (hb6.mono HB1.out.size)⟩)
      · have hpk : p.1 < k := tx_total hlk hkp
        have e2 : Op.bytesLess k p.1 = false := by rw [less_iff]; exact decide_eq_false hlk
        have e3 : (k == p.1) = false := by simpa using hkp
        have HK := Lib.hid hpk
        clear hlk hpk
        have IH := Lib.hid (fun W (hW : Below w1.heap.size w1 W) => ihr Xr W (hr.below (hb1.trans (hW.mono hb1.size))) ho.parts.2.1 b2 (by omega) (by omega))
        have HO := Lib.hid (show ∀ W, Below w1.heap.size w1 W → Lies18 W (.pointer Xl) l from fun W hW => hl.below (hb1.trans (hW.mono hb1.size)))
        have HEV := Lib.hid (fun (t5 : T18) (X5 : Option Addr) W (h5 : Lies18 W (.pointer X5) t5) (hW : Below w1.heap.size w1 W) (p5 : PutTo k x r t5) => with18 p Xl Xr (H : Int) (N : Int) Xl X5 l t5 W (HO.out W hW) h5 b1 p5.2.1 (by have := p5.2.2.1; have := p5.2.2.2.1; omega) (by have := p5.2.2.1; have := p5.2.2.2.1; omega) (by have := p5.2.2.2.1; omega) (by have := p5.2.2.2.1; omega) (by omega) (by rw [p5.1]; have := (put_len r.flat k x).1; omega))
        clear hl hr b1 b2 b3 b4 hll hhl hkp ihl ihr hht hlen hb1 ho
        go_enter Try.func31, Try.ntmps31
        go_upto_region 1 with fail
        rw [HW.out.1, HW.out.2]
        go_wp2_with fail
        go_quiet (fail)
        obtain ⟨wq, hwq⟩ : ∃ wq, w1.drewN nq = wq := ⟨_, rfl⟩
        rw [hwq]
        have hbq : Below w1.heap.size w1 wq := hwq ▸ below_drewN (Below.refl w1.heap.size w1) nq
        clear hwq nq
        obtain ⟨s0, s1, s2, s3, s4, s5, s6, s7⟩ := SX.out wq hbq
        go_wp2_with fail
        go_quiet (fail)
        obtain ⟨w2, hw2⟩ : ∃ w2, wq.drewN nq = w2 := ⟨_, rfl⟩
        rw [hw2]
        have hb2 : Below w1.heap.size w1 w2 := hw2 ▸ below_drewN hbq nq
        clear hw2
        obtain ⟨r0, r1, r2, r3, r4, r5, r6, r7⟩ := SX.out w2 hb2
        have hbw : Below w1.heap.size w1 w2.drew := below_drewN hb2 1
        go_upto_region 6 with fail
        (go_region_held3 (fun W => W.cell? ⟨d, 0, none⟩ = some (.string (st k)) ∧ W.cell? ⟨d, 1, none⟩ = some (.string (st x)) ∧ W.cell? ⟨a, 0, none⟩ = some (.string (st p.1)) ∧ W.cell? ⟨a, 1, none⟩ = some (.string (st p.2)) ∧ W.cell? ⟨a, 2, none⟩ = some (.pointer Xl) ∧ W.cell? ⟨a, 3, none⟩ = some (.pointer Xr) ∧ W.cell? ⟨a, 4, none⟩ = some (.int .i64 (H : Int)) ∧ W.cell? ⟨a, 5, none⟩ = some (.int .i64 (N : Int))) (exact SX.out _ (by assumption)) (first
          | (go_at_call 31; (with_reducible refine (IH.out _ (by assumption)).mono ?_); rintro e w5 ⟨v5, t5, rfl, p5, l5, b5⟩; have hb5 := Below.trans (by assumption : Below w1.heap.size w1 _) (b5.mono (Below.size (by assumption))); obtain ⟨X5, rfl⟩ := l5.ptr)
          | (go_at_call 38; (with_reducible refine (HEV.out t5 X5 _ l5 (by assumption) p5).mono ?_); rintro e w6 ⟨v6, t6, rfl, p6, l6, b6⟩; have hb6 := Below.trans (by assumption : Below w1.heap.size w1 _) (b6.mono (Below.size (by assumption))); obtain ⟨X6, rfl⟩ := l6.ptr)))
        all_goals (
          go_wp2_with fail
          go_ret
          exact ⟨_, t6, rfl, PutTo.right HN.out.1 HN.out.2 HK.out p5 p6, l6, HB1.out.trans (hb6.mono HB1.out.size)⟩)
end Go.Proofs.Ytiomfkhblmmdoaa
