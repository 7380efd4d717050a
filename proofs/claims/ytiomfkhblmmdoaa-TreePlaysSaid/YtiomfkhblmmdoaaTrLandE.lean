/- The landed tree: drop. No statement of the seat is proved here. -/
import Derived.Test.YtiomfkhblmmdoaaTrLandD
namespace Go.Proofs.Ytiomfkhblmmdoaa
open Go.RowKit
set_option linter.unusedVariables false
set_option linter.unusedSimpArgs false
set_option maxRecDepth 100000

set_option maxHeartbeats 4000000 in
theorem drop18 : ∀ (t : T18) (k : List UInt8) (X : Option Addr) (w : World), Lies18 w (.pointer X) t → OrdL t.flat → t.Bal → getL t.flat k ≠ none → t.ht ≤ 50 → t.flat.length ≤ 5000 →
    Calls Try.prog 29 #[.pointer X, .string (st k)] w fun e w' => ∃ v' t', e = .returned v' ∧ DropTo (dropL t.flat k) t t' ∧ Lies18 w' v' t' ∧ Below w.heap.size w w' := by
  intro t
  induction t with
  | nil =>
    intro k X w h _ _ hg _ _
    exact absurd rfl hg
  | node a l p r ihl ihr =>
    intro k X w h ho hbal hg hht hlen
    have HN := Lib.hid (And.intro ho hbal)
    have ho : OrdL (l.flat ++ p :: r.flat) := ho
    have hg : getL (l.flat ++ p :: r.flat) k ≠ none := hg
    obtain ⟨b1, b2, b3, b4⟩ := hbal
    have hll : l.flat.length ≤ 5000 ∧ r.flat.length ≤ 5000 := by
      simp only [T18.flat, List.length_append, List.length_cons] at hlen
      omega
    have hhl : l.ht ≤ 49 ∧ r.ht ≤ 49 := by
      simp only [T18.ht] at hht
      omega
    obtain ⟨Xl, Xr, hX, hO⟩ := h.open
    injection hX with hX
    subst hX
    have hl := (hO w (Below.refl _ _)).2.1
    have hr := (hO w (Below.refl _ _)).2.2
    obtain ⟨H, hH⟩ : ∃ H, (T18.node a l p r).ht = H := ⟨_, rfl⟩
    obtain ⟨N, hN⟩ : ∃ N, (T18.node a l p r).flat.length = N := ⟨_, rfl⟩
    rw [hH, hN] at hO
    have SX := Lib.hid (show ∀ W, Below w.heap.size w W → W.cell? ⟨a, 0, none⟩ = some (.string (st p.1)) ∧ W.cell? ⟨a, 1, none⟩ = some (.string (st p.2)) ∧ W.cell? ⟨a, 2, none⟩ = some (.pointer Xl) ∧ W.cell? ⟨a, 3, none⟩ = some (.pointer Xr) ∧ W.cell? ⟨a, 4, none⟩ = some (.int .i64 (H : Int)) ∧ W.cell? ⟨a, 5, none⟩ = some (.int .i64 (N : Int)) from fun W hW => by
      obtain ⟨o0, _, _⟩ := hO W hW
      exact ⟨o0.cell 0, o0.cell 1, o0.cell 2, o0.cell 3, o0.cell 4, o0.cell 5⟩)
    obtain ⟨c0, c1, c2, c3, c4, c5⟩ := SX.out w (Below.refl _ _)
    have hbw : Below w.heap.size w w.drew := below_drewN (Below.refl w.heap.size w) 1
    clear hO h hH hN
    by_cases hkp : k = p.1
    · subst hkp
      have e1 : Op.bytesLess p.1 p.1 = false := by rw [less_iff]; exact decide_eq_false (tx_irrefl _)
      have hD : dropL (T18.node a l p r).flat p.1 = l.flat ++ r.flat := drop_here ho
      rw [hD]
      cases l with
      | nil =>
        obtain rfl : Xl = none := by injection hl
        have HR := Lib.hid hr
        clear hl hr b1 b2 b3 b4 hll hhl ihl ihr hht hlen ho hg hD hbw
        go_enter Try.func29, Try.ntmps29
        go_wp2_with fail
        go_ret
        exact ⟨_, r, rfl, DropTo.noLeft HN.out.2, HR.out, Below.refl _ _⟩
      | node al ll lp lr =>
        obtain rfl : Xl = some ⟨al, 0, none⟩ := by have := hl.1; injection this
        cases r with
        | nil =>
          obtain rfl : Xr = none := by injection hr
          have HL := Lib.hid hl
          clear hl hr b1 b2 b3 b4 hll hhl ihl ihr hht hlen ho hg hD hbw
          go_enter Try.func29, Try.ntmps29
          go_wp2_with fail
          go_ret
          refine ⟨_, .node al ll lp lr, rfl, ?_, HL.out, Below.refl _ _⟩
          rw [show (T18.nil).flat = [] from rfl, List.append_nil]
          exact DropTo.noRight HN.out.2
        | node ar rl rp rr =>
          obtain rfl : Xr = some ⟨ar, 0, none⟩ := by have := hr.1; injection this
          have KM := Lib.hid (least18 _ ar rl rp rr w hr)
          obtain ⟨L, hL⟩ : ∃ L, T18.node al ll lp lr = L := ⟨_, rfl⟩
          obtain ⟨R, hR⟩ : ∃ R, T18.node ar rl rp rr = R := ⟨_, rfl⟩
          rw [hL] at hl b1 b3 b4 hll hhl HN
          rw [hR] at hr b2 b3 b4 hll hhl HN ihr KM
          rw [hL, hR]
          have HRO := Lib.hid (show OrdL R.flat from by rw [← hR]; exact ho.parts.2.1)
          have HL := Lib.hid (show ∀ W, Below w.heap.size w W → Lies18 W (.pointer (some ⟨al, 0, none⟩)) L from fun W hW => hl.below hW)
          have HEV := Lib.hid (fun (t5 : T18) (q : PT) (A B : Option Addr) (C D : Int) (X5 : Option Addr) W (h5 : Lies18 W (.pointer X5) t5) (hW : Below w.heap.size w W) (F : List PT) (hF : F.length ≤ 5000) (p5 : DropTo F R t5) => with18 q A B C D (some ⟨al, 0, none⟩) X5 L t5 W (HL.out W hW) h5 b1 p5.2.1 (by have := p5.2.2.1; have := p5.2.2.2.1; omega) (by have := p5.2.2.1; have := p5.2.2.2.1; omega) (by omega) (by have := p5.2.2.1; omega) (by omega) (by rw [p5.1]; omega))
          have IH := Lib.hid (fun q W (hW : Below w.heap.size w W) hq => ihr q (some ⟨ar, 0, none⟩) W (hr.below hW) HRO.out b2 hq (by omega) (by omega))
          have HLN := Lib.hid hll
          clear hl hr b1 b2 b3 b4 hll hhl ihl ihr hht hlen ho hg hD hL hR
          go_enter Try.func29, Try.ntmps29
          go_wp2_with fail
          refine KM.out.mono ?_
          rintro e wm ⟨b, m, F, ml, mr, h, n, rfl, hm, hk, hwm⟩
          obtain rfl : w = wm := hwm.symm
          have SY := Lib.hid (show ∀ W, Below w.heap.size w W → W.cell? ⟨a, 0, none⟩ = some (.string (st p.1)) ∧ W.cell? ⟨a, 1, none⟩ = some (.string (st p.2)) ∧ W.cell? ⟨a, 2, none⟩ = some (.pointer (some ⟨al, 0, none⟩)) ∧ W.cell? ⟨a, 3, none⟩ = some (.pointer (some ⟨ar, 0, none⟩)) ∧ W.cell? ⟨a, 4, none⟩ = some (.int .i64 (H : Int)) ∧ W.cell? ⟨a, 5, none⟩ = some (.int .i64 (N : Int)) ∧ W.cell? ⟨b, 0, none⟩ = some (.string (st m.1)) ∧ W.cell? ⟨b, 1, none⟩ = some (.string (st m.2)) ∧ W.cell? ⟨b, 2, none⟩ = some (.pointer ml) ∧ W.cell? ⟨b, 3, none⟩ = some (.pointer mr) ∧ W.cell? ⟨b, 4, none⟩ = some (.int .i64 (h : Int)) ∧ W.cell? ⟨b, 5, none⟩ = some (.int .i64 (n : Int)) from fun W hW => by
            obtain ⟨o0, o1, o2, o3, o4, o5⟩ := SX.out W hW
            have k0 := hk.below hW hk.lt
            exact ⟨o0, o1, o2, o3, o4, o5, k0.cell 0, k0.cell 1, k0.cell 2, k0.cell 3, k0.cell 4, k0.cell 5⟩)
          have hFl : F.length ≤ 5000 := by have := HLN.out.2; rw [hm, List.length_cons] at this; omega
          have hdm : dropL R.flat m.1 = F := by rw [hm, dropL, if_neg (tx_irrefl _), if_pos rfl]
          have hgm : getL R.flat m.1 ≠ none := by rw [hm, getL, if_neg (tx_irrefl _), if_pos rfl]; exact Option.some_ne_none _
          have IH2 := Lib.hid (fun W (hW : Below w.heap.size w W) => IH.out m.1 W hW hgm)
          rw [hdm] at IH2
          have HEV2 := Lib.hid (fun t5 X5 W h5 hW p5 => HEV.out t5 m ml mr (h : Int) (n : Int) X5 W h5 hW F hFl p5)
          have HM := Lib.hid hm
          obtain ⟨s0, s1, s2, s3, s4, s5, s6, s7, s8, s9, s10, s11⟩ := SY.out w (Below.refl _ _)
          clear hk hdm hgm hFl hm
          go_upto_region 10 with fail
          (go_region_held3 (fun W => W.cell? ⟨a, 0, none⟩ = some (.string (st p.1)) ∧ W.cell? ⟨a, 1, none⟩ = some (.string (st p.2)) ∧ W.cell? ⟨a, 2, none⟩ = some (.pointer (some ⟨al, 0, none⟩)) ∧ W.cell? ⟨a, 3, none⟩ = some (.pointer (some ⟨ar, 0, none⟩)) ∧ W.cell? ⟨a, 4, none⟩ = some (.int .i64 (H : Int)) ∧ W.cell? ⟨a, 5, none⟩ = some (.int .i64 (N : Int)) ∧ W.cell? ⟨b, 0, none⟩ = some (.string (st m.1)) ∧ W.cell? ⟨b, 1, none⟩ = some (.string (st m.2)) ∧ W.cell? ⟨b, 2, none⟩ = some (.pointer ml) ∧ W.cell? ⟨b, 3, none⟩ = some (.pointer mr) ∧ W.cell? ⟨b, 4, none⟩ = some (.int .i64 (h : Int)) ∧ W.cell? ⟨b, 5, none⟩ = some (.int .i64 (n : Int))) (exact SY.out _ (by assumption)) (first
            | (go_at_call 29; (with_reducible refine (IH2.out _ (by assumption)).mono ?_); rintro e w5 ⟨v5, t5, rfl, p5, l5, b5⟩; have hb5 := Below.trans (by assumption : Below w.heap.size w _) (b5.mono (Below.size (by assumption))); obtain ⟨X5, rfl⟩ := l5.ptr)
            | (go_at_call 38; (with_reducible refine (HEV2.out t5 X5 _ l5 (by assumption) p5).mono ?_); rintro e w6 ⟨v6, t6, rfl, p6, l6, b6⟩; have hb6 := Below.trans (by assumption : Below w.heap.size w _) (b6.mono (Below.size (by assumption))); obtain ⟨X6, rfl⟩ := l6.ptr)))
          all_goals (
            go_wp2_with fail
            go_ret
            exact ⟨_, t6, rfl, DropTo.least HN.out.2 HM.out p5 p6, l6, hb6⟩)
    · by_cases hlk : k < p.1
      · have e2 : Op.bytesLess k p.1 = true := by rw [less_iff]; exact decide_eq_true hlk
        have hD : dropL (T18.node a l p r).flat k = dropL l.flat k ++ p :: r.flat := drop_front hlk _ _
        rw [hD]
        rw [get_front hlk] at hg
        have IH := Lib.hid (fun W (hW : Below w.heap.size w W) => ihl k Xl W (hl.below hW) ho.parts.1 b1 hg (by omega) (by omega))
        have HO := Lib.hid (show ∀ W, Below w.heap.size w W → Lies18 W (.pointer Xr) r from fun W hW => hr.below hW)
        have HEV := Lib.hid (fun (t5 : T18) (X5 : Option Addr) W (h5 : Lies18 W (.pointer X5) t5) (hW : Below w.heap.size w W) (p5 : DropTo (dropL l.flat k) l t5) => with18 p Xl Xr (H : Int) (N : Int) X5 Xr t5 r W h5 (HO.out W hW) p5.2.1 b2 (by have := p5.2.2.1; have := p5.2.2.2.1; omega) (by have := p5.2.2.1; have := p5.2.2.2.1; omega) (by have := p5.2.2.1; omega) (by have := p5.2.2.1; omega) (by rw [p5.1]; have := drop_len l.flat k; omega) (by omega))
        clear hl hr b1 b2 b3 b4 hll hhl hkp ihl ihr hht hlen ho hg hD hlk
        go_enter Try.func29, Try.ntmps29
        go_upto_region 2 with fail
        (go_region_held3 (fun W => W.cell? ⟨a, 0, none⟩ = some (.string (st p.1)) ∧ W.cell? ⟨a, 1, none⟩ = some (.string (st p.2)) ∧ W.cell? ⟨a, 2, none⟩ = some (.pointer Xl) ∧ W.cell? ⟨a, 3, none⟩ = some (.pointer Xr) ∧ W.cell? ⟨a, 4, none⟩ = some (.int .i64 (H : Int)) ∧ W.cell? ⟨a, 5, none⟩ = some (.int .i64 (N : Int))) (exact SX.out _ (by assumption)) (first
          | (go_at_call 29; (with_reducible refine (IH.out _ (by assumption)).mono ?_); rintro e w5 ⟨v5, t5, rfl, p5, l5, b5⟩; have hb5 := Below.trans (by assumption : Below w.heap.size w _) (b5.mono (Below.size (by assumption))); obtain ⟨X5, rfl⟩ := l5.ptr)
          | (go_at_call 38; (with_reducible refine (HEV.out t5 X5 _ l5 (by assumption) p5).mono ?_); rintro e w6 ⟨v6, t6, rfl, p6, l6, b6⟩; have hb6 := Below.trans (by assumption : Below w.heap.size w _) (b6.mono (Below.size (by assumption))); obtain ⟨X6, rfl⟩ := l6.ptr)))
        all_goals (
          go_wp2_with fail
          go_ret
          exact ⟨_, t6, rfl, DropTo.left HN.out.2 p5 p6, l6, hb6⟩)
      · have hpk : p.1 < k := tx_total hlk hkp
        have e2 : Op.bytesLess k p.1 = false := by rw [less_iff]; exact decide_eq_false hlk
        have e3 : (k == p.1) = false := by simpa using hkp
        have hD : dropL (T18.node a l p r).flat k = l.flat ++ p :: dropL r.flat k := drop_back ho hpk
        rw [hD]
        rw [get_back ho hpk] at hg
        have IH := Lib.hid (fun W (hW : Below w.heap.size w W) => ihr k Xr W (hr.below hW) ho.parts.2.1 b2 hg (by omega) (by omega))
        have HO := Lib.hid (show ∀ W, Below w.heap.size w W → Lies18 W (.pointer Xl) l from fun W hW => hl.below hW)
        have HEV := Lib.hid (fun (t5 : T18) (X5 : Option Addr) W (h5 : Lies18 W (.pointer X5) t5) (hW : Below w.heap.size w W) (p5 : DropTo (dropL r.flat k) r t5) => with18 p Xl Xr (H : Int) (N : Int) Xl X5 l t5 W (HO.out W hW) h5 b1 p5.2.1 (by have := p5.2.2.1; have := p5.2.2.2.1; omega) (by have := p5.2.2.1; have := p5.2.2.2.1; omega) (by have := p5.2.2.1; omega) (by have := p5.2.2.1; omega) (by omega) (by rw [p5.1]; have := drop_len r.flat k; omega))
        clear hl hr b1 b2 b3 b4 hll hhl hkp ihl ihr hht hlen ho hg hD hlk hpk
        go_enter Try.func29, Try.ntmps29
        go_upto_region 4 with fail
        (go_region_held3 (fun W => W.cell? ⟨a, 0, none⟩ = some (.string (st p.1)) ∧ W.cell? ⟨a, 1, none⟩ = some (.string (st p.2)) ∧ W.cell? ⟨a, 2, none⟩ = some (.pointer Xl) ∧ W.cell? ⟨a, 3, none⟩ = some (.pointer Xr) ∧ W.cell? ⟨a, 4, none⟩ = some (.int .i64 (H : Int)) ∧ W.cell? ⟨a, 5, none⟩ = some (.int .i64 (N : Int))) (exact SX.out _ (by assumption)) (first
          | (go_at_call 29; (with_reducible refine (IH.out _ (by assumption)).mono ?_); rintro e w5 ⟨v5, t5, rfl, p5, l5, b5⟩; have hb5 := Below.trans (by assumption : Below w.heap.size w _) (b5.mono (Below.size (by assumption))); obtain ⟨X5, rfl⟩ := l5.ptr)
          | (go_at_call 38; (with_reducible refine (HEV.out t5 X5 _ l5 (by assumption) p5).mono ?_); rintro e w6 ⟨v6, t6, rfl, p6, l6, b6⟩; have hb6 := Below.trans (by assumption : Below w.heap.size w _) (b6.mono (Below.size (by assumption))); obtain ⟨X6, rfl⟩ := l6.ptr)))
        all_goals (
          go_wp2_with fail
          go_ret
          exact ⟨_, t6, rfl, DropTo.right HN.out.2 p5 p6, l6, hb6⟩)
end Go.Proofs.Ytiomfkhblmmdoaa
