/- TreeOrder's walk, told from what the package does. No statement of the seat is proved here. -/
import Derived.Test.YtiomfkhblmmdoaaTrPages
import Derived.Laws.Cover1
namespace Go.Proofs.Ytiomfkhblmmdoaa
open Go.RowKit
set_option linter.unusedVariables false
set_option linter.unusedSimpArgs false
set_option maxRecDepth 100000

/-- Texts of a length that is a length. -/
def Full18 (L : List PT) : Prop := ∀ p ∈ L, p.1.length ≤ maxLen ∧ p.2.length ≤ maxLen
theorem Full18.done {L : List PT} (h : Full18 L) {a : AT18} (ha : a.2.1.length ≤ maxLen) (hv : a.2.2.length ≤ maxLen) : Full18 (doL L a) := fun p hp => by
  unfold doL at hp
  split at hp
  · exact h p (drop_mem hp)
  · rcases put_mem hp with rfl | hp
    · exact ⟨ha, hv⟩
    · exact h p hp
theorem is_mem {m : List PT} (h : OrdL m) {p : PT} (hp : p ∈ m) : isL m p.1 = true := by
  unfold isL
  rw [h.get hp]
  rfl
theorem putsL_snoc (u : List PT) (l : List PT) (p : PT) : putsL u (l ++ [p]) = putL (putsL u l) p.1 p.2 := by
  unfold putsL
  rw [List.foldl_append]
  rfl
theorem rev_snoc {L : List PT} {i : Nat} (hi : i < L.length) : L.reverse.take (i + 1) = L.reverse.take i ++ [L[L.length - 1 - i]'(by omega)] := by
  rw [List.take_succ_eq_append_getElem (by simpa using hi), List.getElem_reverse]
section
variable {St : World → Value → List PT → Nat → Prop} {Nu : World → Value → Value → Prop}
set_option maxHeartbeats 1000000 in
theorem order18_walk (K : TreesOk St Nu) (A : Option Addr) (ls : List AT18) (k c : Nat) (hl : ls.length = k) (hc : k ≤ c) (hcm : c ≤ maxLen) (w : World) (hr : RdQ w w.heap.size A ls) :
    Calls Try.prog 6 #[.slice A k c] w fun e w' => e = .returned (.bool true) ∧ Below w.heap.size w w' := by
  have KS := Lib.hid (shown_any K w)
  have KF := Lib.hid (fun W hW => few_any A ls k c hl hc hcm W (hr.on hW))
  have HR := Lib.hid (show ∀ W, Below w.heap.size w W → RdQ W W.heap.size A ls from fun W hW => hr.on hW)
  have HPL := Lib.hid hl
  obtain ⟨fs, hfs⟩ := act18_desc
  have HF := Lib.hid hfs
  clear hl hr hfs
  go_enter Try.func6, Try.ntmps6
  go_wp2_with fail
  refine KS.out.mono ?_
  rintro e w1 ⟨rfl, hb1⟩
  have KF1 := Lib.hid (KF.out w1 hb1)
  have HB1 := Lib.hid hb1
  clear hb1 KS KF
  go_wp2_with fail
  refine KF1.out.mono ?_
  rintro e w2 ⟨m, hm, hm2, hs, rfl, hb2⟩
  have HS := Lib.hid hs
  have HB2 := Lib.hid (HB1.out.trans (hb2.mono HB1.out.size))
  clear hs hb2 KF1
  go_wp2_with fail
  go_loopw [4, 15] (fun t i wr => ∃ (j : Nat) (v : Value) (L : List PT) (h : Nat), j ≤ m ∧ i = .int .i64 (j : Nat) ∧ v = t ∧ Hid (St wr v L h ∧ L.length ≤ j ∧ Full18 L) ∧ Hid (Below w.heap.size w wr)) (fun _ i _ => m - (intOf i).toNat)
  case atStart => exact ⟨0, _, [], 0, Nat.zero_le _, rfl, rfl, Lib.hid ⟨K.nil _, Nat.le_refl _, fun p hp => by simp at hp⟩, HB2⟩
  case round =>
    obtain ⟨j, v, L, h, hj, rfl, rfl, HT, HB⟩ := hrel
    by_cases hlt : j < m
    · have hjp : j < ls.length := by rw [HPL.out]; omega
      obtain ⟨g, off, rfl, hg, hra⟩ := (HR.out _ HB.out).row hjp
      have hsx := HS.out (ls[j]) (by rw [List.mem_take_iff_getElem]; exact ⟨j, by omega, rfl⟩)
      obtain ⟨x, hx⟩ : ∃ x, ls[j] = x := ⟨_, rfl⟩
      rw [hx] at hra hsx
      obtain ⟨wb, d, hd, hwb, hbb, hkb⟩ := act_box (w := wr) (x := x)
      have HW := Lib.hid (And.intro hd hwb)
      have HKB := Lib.hid hkb
      have HBB := Lib.hid hbb
      have hLj := HT.out.2.1
      have KD := Lib.hid (does_any K _ L h x wb (K.keep HT.out.1 hbb) (by omega) (by have := hsx.1; unfold maxLen; omega) (by have := hsx.2; unfold maxLen; omega))
      have HRA := Lib.hid (show wr.rangeAt g (off + j * 3) [.bool x.1, .string (st x.2.1), .string (st x.2.2)] from hra)
      have hi1 : (0 : Int) ≤ (j : Int) := by omega
      have hi2 : (j : Int) < (m : Int) := by omega
      have HKX := Lib.hid (HT.out.2.2.done (a := x) (by have := hsx.1; unfold maxLen; omega) (by have := hsx.2; unfold maxLen; omega))
      clear hx hjp hg hra hd hwb hbb hkb hsx
      go_upto_region 6 with (first | (refine wpList_load_mid rfl 32 (.tmp 17) rfl g (off + j * 3) rfl [.bool x.1, .string (st x.2.1), .string (st x.2.2)] (.struct fs) HRA.out HF.out rfl act18_size ?_) | fail)
      rw [HW.out.1, HW.out.2]
      have hkd := HKB.out
      have c0 : wb.cell? ⟨d, 0, none⟩ = some (.bool x.1) := hkd.cell 0
      have c1 : wb.cell? ⟨d, 1, none⟩ = some (.string (st x.2.1)) := hkd.cell 1
      have c2 : wb.cell? ⟨d, 2, none⟩ = some (.string (st x.2.2)) := hkd.cell 2
      clear hkd
      go_wp2_with fail
      refine KD.out.mono ?_
      rintro e w3 ⟨v', h', rfl, q1, -, q3⟩
      have HQ := Lib.hid (And.intro q1 (And.intro (show (doL L x).length ≤ j + 1 from do_size L x HT.out.2.1) HKX.out))
      have HB3 := Lib.hid (HB.out.trans (HBB.out.mono HB.out.size |>.trans (q3.mono (Nat.le_trans HB.out.size HBB.out.size))))
      clear q1 q3 c0 c1 c2
      go_wp2_with fail
      go_roundw
      case rel => exact ⟨j + 1, v', doL L x, h', by omega, by go_num, rfl, HQ, HB3⟩
      case measure => simp [intOf]; omega
    · obtain rfl : j = m := by omega
      have hLj := HT.out.2.1
      obtain ⟨wl, hwl⟩ : ∃ W, W = wr := ⟨_, rfl⟩
      subst hwl
      have KA := Lib.hid (K.pairs _ L h [] 4611686018427387904 wl HT.out.1 (by omega) (Nat.zero_le _) (by decide) (by decide))
      rw [from_all L (by omega)] at KA
      obtain ⟨a, ha⟩ : ∃ a, L.length = a := ⟨_, rfl⟩
      rw [ha] at KA hLj
      have HA := Lib.hid ha
      have ha200 : a ≤ 200 := by omega
      have HO := Lib.hid (K.ord HT.out.1)
      clear ha
      go_wp2_with fail
      refine KA.out.mono ?_
      rintro e w3 ⟨A3, c3, rfl, r3, -, -, -, b3⟩
      have HRP := Lib.hid (show ∀ W, Below w3.heap.size w3 W → RdP W w3.heap.size A3 L from fun W hW => r3.below hW)
      have HT3 := Lib.hid (show ∀ W, Below w3.heap.size w3 W → St W _ L h from fun W hW => K.keep HT.out.1 (b3.trans (hW.mono b3.size)))
      have HB3 := Lib.hid (HB.out.trans (b3.mono HB.out.size))
      clear r3 b3 KA
      go_wp2_with fail
      go_loopw [5, 27] (fun t i wr => ∃ (p : Nat) (u : Value) (U : List PT) (hu : Nat), p ≤ a ∧ i = .int .i64 (p : Nat) ∧ u = t ∧ Hid (St wr u U hu ∧ U.length ≤ p ∧ KeysIn U L) ∧ Hid (Below w3.heap.size w3 wr)) (fun _ i _ => a - (intOf i).toNat)
      case atStart => exact ⟨0, _, [], 0, Nat.zero_le _, rfl, rfl, Lib.hid ⟨K.nil _, Nat.le_refl _, KeysIn.nil L⟩, Lib.hid (Below.refl _ _)⟩
      case round =>
        obtain ⟨p, u, U, hu, hp, rfl, rfl, HU, HBQ⟩ := hrel
        by_cases hpa : p < a
        · have hUp := HU.out.2.1
          have hpl : p < L.length := by rw [HA.out]; exact hpa
          obtain ⟨q, hq⟩ : ∃ q, (p * 7 + 3) % a = q := ⟨_, rfl⟩
          have hqa : q < a := hq ▸ Nat.mod_lt _ (by omega)
          have hqi : ((p : Int) * 7 + 3) % (a : Int) = (q : Int) := by rw [← hq]; simp
          have hql : q < L.length := by rw [HA.out]; exact hqa
          obtain ⟨gq, oq, e1, hgq, hcq, -⟩ := (HRP.out _ HBQ.out).at_ hql
          obtain ⟨gp, op, e2, hgp, hcp, -⟩ := (HRP.out _ HBQ.out).at_ hpl
          rw [e1] at e2
          injection e2 with e2
          injection e2 with e2 e3 _
          subst e2 e3
          obtain ⟨Q, hQ⟩ : ∃ Q, L[q] = Q := ⟨_, rfl⟩
          have hQm : Q ∈ L := hQ ▸ List.getElem_mem hql
          have HPU := Lib.hid (fun W (hW : Below wr.heap.size wr W) => K.put u U hu Q.1 [] W (K.keep HU.out.1 hW) (by omega) (HT.out.2.2 Q hQm).1 (Nat.zero_le _))
          have HNU := Lib.hid (show (putL U Q.1 []).length ≤ p + 1 ∧ KeysIn (putL U Q.1 []) L from ⟨put_size U Q.1 [] hUp, HU.out.2.2.put (is_mem HO.out hQm)⟩)
          rw [hQ] at hcq
          have HCQ := Lib.hid (show ∀ W, Below wr.heap.size wr W → W.cell? ⟨gq, oq + q * 2, none⟩ = some (.string (st Q.1)) from fun W hW => by rw [hW.cell (p := ⟨gq, oq + q * 2, none⟩) (Nat.lt_of_lt_of_le hgq HBQ.out.size)]; exact hcq)
          obtain ⟨P, hP⟩ : ∃ P, L[p] = P := ⟨_, rfl⟩
          rw [hP] at hcp
          have hi3 : (0 : Int) ≤ (p : Int) := by omega
          have hi4 : (p : Int) < (a : Int) := by omega
          have hi5 : (0 : Int) ≤ (q : Int) := by omega
          have hi6 : (q : Int) < (a : Int) := by omega
          have ha0 : ¬ (a : Int) = 0 := by omega
          subst e1
          by_cases hp0 : p = 0
          · have hz : ¬ (p : Int) > 0 := by omega
            have hzb : decide ((p : Int) > 0) = false := decide_eq_false hz
            subst hp0
            have hq3 : (3 : Int) % (a : Int) = (q : Int) := by simpa using hqi
            clear hqi
            clear hQ hP hpl hql hgq hgp hQm hq hcp hcq
            go_wp2_with fail
            go_quiet (fail)
            have HBR := Lib.hid (HBQ.out.trans ((below_drewN (Below.refl wr.heap.size wr) nq).mono HBQ.out.size))
            have HPU2 := Lib.hid (HPU.out (wr.drewN nq) (below_drewN (Below.refl _ _) nq))
            have hcq := HCQ.out (wr.drewN nq) (below_drewN (Below.refl _ _) nq)
            clear HPU
            generalize wr.drewN nq = wz at *
            go_wp2_with fail
            refine HPU2.out.mono ?_
            rintro e w5 ⟨u', hu', rfl, q1, -, q3⟩
            have HU2 := Lib.hid (And.intro q1 HNU.out)
            have HB5 := Lib.hid (HBR.out.trans (q3.mono HBR.out.size))
            clear q1 q3 HPU2
            go_wp2_with fail
            go_roundw
            case rel => exact ⟨0 + 1, u', _, hu', by omega, by go_num, rfl, HU2, HB5⟩
            case measure => simp [intOf]; omega
          · have hz : (0 : Int) < (p : Int) := by omega
            have hzn : 0 < p := by omega
            have hzb : decide (0 < p) = true := decide_eq_true hzn
            have hpl1 : p - 1 < L.length := by rw [HA.out]; omega
            have hpi : (p : Int) - 1 = ((p - 1 : Nat) : Int) := by omega
            obtain ⟨g1, o1, e1, hg1, hc1, -⟩ := (HRP.out _ HBQ.out).at_ hpl1
            injection e1 with e1
            injection e1 with e1 e3 _
            subst e1 e3
            obtain ⟨O, hO⟩ : ∃ O, L[p - 1] = O := ⟨_, rfl⟩
            have hle : Op.bytesLess O.1 P.1 = true := by
              rw [less_iff, ← hO, ← hP]
              exact decide_eq_true (HO.out.lt hpl1 hpl (by omega))
            rw [hO] at hc1
            obtain ⟨p1, hp1⟩ : ∃ p1, p - 1 = p1 := ⟨_, rfl⟩
            rw [hp1] at hpi hc1
            have hi7 : (0 : Int) ≤ (p1 : Int) := by omega
            have hi8 : (p1 : Int) < (a : Int) := by omega
            clear hQ hP hO hpl hql hgq hgp hQm hq hcq hpl1 hg1 hp1
            go_wp2_with fail
            go_quiet (fail)
            have HBR := Lib.hid (HBQ.out.trans ((below_drewN (Below.refl wr.heap.size wr) nq).mono HBQ.out.size))
            have HPU2 := Lib.hid (HPU.out (wr.drewN nq) (below_drewN (Below.refl _ _) nq))
            have hcq := HCQ.out (wr.drewN nq) (below_drewN (Below.refl _ _) nq)
            clear HPU hcp hc1 hpi
            generalize wr.drewN nq = wz at *
            go_wp2_with fail
            refine HPU2.out.mono ?_
            rintro e w5 ⟨u', hu', rfl, q1, -, q3⟩
            have HU2 := Lib.hid (And.intro q1 HNU.out)
            have HB5 := Lib.hid (HBR.out.trans (q3.mono HBR.out.size))
            clear q1 q3 HPU2
            go_wp2_with fail
            go_roundw
            case rel => exact ⟨p + 1, u', _, hu', by omega, by go_num, rfl, HU2, HB5⟩
            case measure => simp [intOf]; omega
        · obtain rfl : p = a := by omega
          have HU0 := Lib.hid (And.intro (K.ord HU.out.1) HU.out.2)
          have HSU := Lib.hid HU.out.1
          clear HU
          obtain ⟨wm, hwm⟩ : ∃ W, W = wr := ⟨_, rfl⟩
          subst hwm
          have HEND := Lib.hid (puts_all HO.out HU0.out.1 HU0.out.2.2)
          have HBM := Lib.hid HBQ.out
          clear HBQ
          go_wp2_with fail
          go_loopw [5, 61] (fun t i wr => ∃ (q : Nat) (u : Value) (hu : Nat), q ≤ p ∧ i = .int .i64 (q : Nat) ∧ u = t ∧ Hid (St wr u (putsL U (L.reverse.take q)) hu ∧ (putsL U (L.reverse.take q)).length ≤ p + q) ∧ Hid (Below w3.heap.size w3 wr)) (fun _ i _ => p - (intOf i).toNat)
          case atStart => exact ⟨0, _, hu, Nat.zero_le _, rfl, rfl, Lib.hid ⟨HSU.out, HU0.out.2.1⟩, HBM⟩
          case round =>
            obtain ⟨q, u, hu, hq, rfl, rfl, HU, HBQ⟩ := hrel
            obtain ⟨V, hV⟩ : ∃ V, putsL U (L.reverse.take q) = V := ⟨_, rfl⟩
            rw [hV] at HU
            by_cases hqa : q < p
            · have hVq := HU.out.2
              obtain ⟨r, hr⟩ : ∃ r, L.length - 1 - q = r := ⟨_, rfl⟩
              have hrl : r < L.length := by rw [← hr, HA.out]; omega
              have hri : (p : Int) - 1 - (q : Int) = (r : Int) := by rw [← hr, HA.out]; omega
              obtain ⟨gq, oq, e1, hgq, hc1, hc2⟩ := (HRP.out _ HBQ.out).at_ hrl
              obtain ⟨R, hR⟩ : ∃ R, L[r] = R := ⟨_, rfl⟩
              have hRm : R ∈ L := hR ▸ List.getElem_mem hrl
              have hN : putsL U (L.reverse.take (q + 1)) = putL V R.1 R.2 := by
                have hsn := rev_snoc (L := L) (i := q) (by rw [HA.out]; exact hqa)
                rw [hsn, putsL_snoc, hV]
                simp only [hr, hR]
              have HN := Lib.hid hN
              have HPU := Lib.hid (fun W (hW : Below wr.heap.size wr W) => K.put u V hu R.1 R.2 W (K.keep HU.out.1 hW) (by omega) (HT.out.2.2 R hRm).1 (HT.out.2.2 R hRm).2)
              have HNL := Lib.hid (show (putL V R.1 R.2).length ≤ p + (q + 1) from put_size V R.1 R.2 hVq)
              rw [hR] at hc1 hc2
              have SX := Lib.hid (show ∀ W, Below wr.heap.size wr W → W.cell? ⟨gq, oq + r * 2, none⟩ = some (.string (st R.1)) ∧ W.cell? ⟨gq, oq + r * 2 + 1, none⟩ = some (.string (st R.2)) from fun W hW => ⟨by rw [hW.cell (p := ⟨gq, oq + r * 2, none⟩) (Nat.lt_of_lt_of_le hgq HBQ.out.size)]; exact hc1, by rw [hW.cell (p := ⟨gq, oq + r * 2 + 1, none⟩) (Nat.lt_of_lt_of_le hgq HBQ.out.size)]; exact hc2⟩)
              have hw1 : IntKind.i64.wrap ((p : Int) - 1) = (p : Int) - 1 := IntWalk.i64_in _ (by omega)
              have hw2 : IntKind.i64.wrap ((p : Int) - 1 - (q : Int)) = (r : Int) := by rw [hri]; exact IntWalk.i64_in _ (by omega)
              have hw3 : IntKind.i64.wrap (r : Int) = (r : Int) := IntWalk.i64_in _ (by omega)
              have hi3 : (0 : Int) ≤ (r : Int) := by omega
              have hi4 : (r : Int) < (p : Int) := by omega
              have hi5 : (q : Int) < (p : Int) := by omega
              have hbw : Below wr.heap.size wr wr.drew := below_drewN (Below.refl wr.heap.size wr) 1
              subst e1
              clear hV hr hrl hR hRm hN hgq
              go_wp2_with fail
              refine wp_region_held_drew (S := fun W => Below wr.heap.size wr W) (by kernel_rfl) hbw (fun hHeld => ?_)
              refine wpAnyH_take (i := 0) (oi := _) (v := u) rfl (by kernel_rfl) (by kernel_rfl) (by kernel_rfl) (fun _ _ _ h => h) (Or.inl ⟨by rfl, by intro w hSw; go_simp⟩) hHeld ?_
              simp only [List.getElem_toArray, List.getElem_cons_zero, List.getElem_cons_succ, Act.put, List.setIfInBounds_toArray, List.set_cons_zero, List.set_cons_succ]
              refine wpAnyH_take (i := 1) (oi := _) (v := .slice (some ⟨gq, oq, none⟩) p c3) rfl (by kernel_rfl) (by kernel_rfl) (by kernel_rfl) (fun _ _ _ h => h) (Or.inl ⟨by rfl, by intro w hSw; go_simp⟩) hHeld ?_
              simp only [List.getElem_toArray, List.getElem_cons_zero, List.getElem_cons_succ, Act.put, List.setIfInBounds_toArray, List.set_cons_zero, List.set_cons_succ]
              refine wpAnyH_take (i := 2) (oi := _) (v := .slice (some ⟨gq, oq, none⟩) p c3) rfl (by kernel_rfl) (by kernel_rfl) (by kernel_rfl) (fun _ _ _ h => h) (Or.inl ⟨by rfl, by intro w hSw; go_simp⟩) hHeld ?_
              simp only [List.getElem_toArray, List.getElem_cons_zero, List.getElem_cons_succ, Act.put, List.setIfInBounds_toArray, List.set_cons_zero, List.set_cons_succ]
              refine wpAnyH_take (i := 3) (oi := _) (v := .int .i64 p) rfl (by kernel_rfl) (by kernel_rfl) (by kernel_rfl) (fun _ _ _ h => h) (Or.inl ⟨by rfl, by intro w hSw; go_simp⟩) hHeld ?_
              simp only [List.getElem_toArray, List.getElem_cons_zero, List.getElem_cons_succ, Act.put, List.setIfInBounds_toArray, List.set_cons_zero, List.set_cons_succ]
              refine wpAnyH_take (i := 4) (oi := _) (v := .int .i64 ((p : Int) - 1)) rfl (by kernel_rfl) (by kernel_rfl) (by kernel_rfl) (fun _ _ _ h => h) (Or.inl ⟨by rfl, by intro w hSw; go_simp⟩) hHeld ?_
              simp only [List.getElem_toArray, List.getElem_cons_zero, List.getElem_cons_succ, Act.put, List.setIfInBounds_toArray, List.set_cons_zero, List.set_cons_succ]
              refine wpAnyH_take (i := 5) (oi := _) (v := .int .i64 q) rfl (by kernel_rfl) (by kernel_rfl) (by kernel_rfl) (fun _ _ _ h => h) (Or.inl ⟨by rfl, by intro w hSw; go_simp⟩) hHeld ?_
              simp only [List.getElem_toArray, List.getElem_cons_zero, List.getElem_cons_succ, Act.put, List.setIfInBounds_toArray, List.set_cons_zero, List.set_cons_succ]
              refine wpAnyH_take (i := 6) (oi := _) (v := .int .i64 r) rfl (by kernel_rfl) (by kernel_rfl) (by kernel_rfl) (fun _ _ _ h => h) (Or.inl ⟨by rfl, by intro w hSw; go_simp⟩) hHeld ?_
              simp only [List.getElem_toArray, List.getElem_cons_zero, List.getElem_cons_succ, Act.put, List.setIfInBounds_toArray, List.set_cons_zero, List.set_cons_succ]
              refine wpAnyH_take (i := 7) (oi := _) (v := .pointer (some ⟨gq, oq + r * 2, none⟩)) rfl (by kernel_rfl) (by kernel_rfl) (by kernel_rfl) (fun _ _ _ h => h) (Or.inl ⟨by rfl, by intro w hSw; go_simp⟩) hHeld ?_
              simp only [List.getElem_toArray, List.getElem_cons_zero, List.getElem_cons_succ, Act.put, List.setIfInBounds_toArray, List.set_cons_zero, List.set_cons_succ]
              refine wpAnyH_take (i := 8) (oi := _) (v := .pointer (some ⟨gq, oq + r * 2, none⟩)) rfl (by kernel_rfl) (by kernel_rfl) (by kernel_rfl) (fun _ _ _ h => h) (Or.inl ⟨by rfl, by intro w hSw; go_simp⟩) hHeld ?_
              simp only [List.getElem_toArray, List.getElem_cons_zero, List.getElem_cons_succ, Act.put, List.setIfInBounds_toArray, List.set_cons_zero, List.set_cons_succ]
              refine wpAnyH_take (i := 9) (oi := _) (v := .string (st R.1)) rfl (by kernel_rfl) (by kernel_rfl) (by kernel_rfl) (fun _ _ _ h => h) (Or.inl ⟨by rfl, by intro w hSw; have hcc := (SX.out w hSw).1; go_simp⟩) hHeld ?_
              simp only [List.getElem_toArray, List.getElem_cons_zero, List.getElem_cons_succ, Act.put, List.setIfInBounds_toArray, List.set_cons_zero, List.set_cons_succ]
              refine wpAnyH_take (i := 10) (oi := _) (v := .slice (some ⟨gq, oq, none⟩) p c3) rfl (by kernel_rfl) (by kernel_rfl) (by kernel_rfl) (fun _ _ _ h => h) (Or.inl ⟨by rfl, by intro w hSw; go_simp⟩) hHeld ?_
              simp only [List.getElem_toArray, List.getElem_cons_zero, List.getElem_cons_succ, Act.put, List.setIfInBounds_toArray, List.set_cons_zero, List.set_cons_succ]
              refine wpAnyH_take (i := 11) (oi := _) (v := .slice (some ⟨gq, oq, none⟩) p c3) rfl (by kernel_rfl) (by kernel_rfl) (by kernel_rfl) (fun _ _ _ h => h) (Or.inl ⟨by rfl, by intro w hSw; go_simp⟩) hHeld ?_
              simp only [List.getElem_toArray, List.getElem_cons_zero, List.getElem_cons_succ, Act.put, List.setIfInBounds_toArray, List.set_cons_zero, List.set_cons_succ]
              refine wpAnyH_take (i := 12) (oi := _) (v := .int .i64 p) rfl (by kernel_rfl) (by kernel_rfl) (by kernel_rfl) (fun _ _ _ h => h) (Or.inl ⟨by rfl, by intro w hSw; go_simp⟩) hHeld ?_
              simp only [List.getElem_toArray, List.getElem_cons_zero, List.getElem_cons_succ, Act.put, List.setIfInBounds_toArray, List.set_cons_zero, List.set_cons_succ]
              refine wpAnyH_take (i := 13) (oi := _) (v := .int .i64 ((p : Int) - 1)) rfl (by kernel_rfl) (by kernel_rfl) (by kernel_rfl) (fun _ _ _ h => h) (Or.inl ⟨by rfl, by intro w hSw; go_simp⟩) hHeld ?_
              simp only [List.getElem_toArray, List.getElem_cons_zero, List.getElem_cons_succ, Act.put, List.setIfInBounds_toArray, List.set_cons_zero, List.set_cons_succ]
              refine wpAnyH_take (i := 14) (oi := _) (v := .int .i64 q) rfl (by kernel_rfl) (by kernel_rfl) (by kernel_rfl) (fun _ _ _ h => h) (Or.inl ⟨by rfl, by intro w hSw; go_simp⟩) hHeld ?_
              simp only [List.getElem_toArray, List.getElem_cons_zero, List.getElem_cons_succ, Act.put, List.setIfInBounds_toArray, List.set_cons_zero, List.set_cons_succ]
              refine wpAnyH_take (i := 15) (oi := _) (v := .int .i64 r) rfl (by kernel_rfl) (by kernel_rfl) (by kernel_rfl) (fun _ _ _ h => h) (Or.inl ⟨by rfl, by intro w hSw; go_simp⟩) hHeld ?_
              simp only [List.getElem_toArray, List.getElem_cons_zero, List.getElem_cons_succ, Act.put, List.setIfInBounds_toArray, List.set_cons_zero, List.set_cons_succ]
              refine wpAnyH_take (i := 16) (oi := _) (v := .pointer (some ⟨gq, oq + r * 2, none⟩)) rfl (by kernel_rfl) (by kernel_rfl) (by kernel_rfl) (fun _ _ _ h => h) (Or.inl ⟨by rfl, by intro w hSw; go_simp⟩) hHeld ?_
              simp only [List.getElem_toArray, List.getElem_cons_zero, List.getElem_cons_succ, Act.put, List.setIfInBounds_toArray, List.set_cons_zero, List.set_cons_succ]
              refine wpAnyH_take (i := 17) (oi := _) (v := .pointer (some ⟨gq, oq + r * 2 + 1, none⟩)) rfl (by kernel_rfl) (by kernel_rfl) (by kernel_rfl) (fun _ _ _ h => h) (Or.inl ⟨by rfl, by intro w hSw; go_simp⟩) hHeld ?_
              simp only [List.getElem_toArray, List.getElem_cons_zero, List.getElem_cons_succ, Act.put, List.setIfInBounds_toArray, List.set_cons_zero, List.set_cons_succ]
              refine wpAnyH_take (i := 18) (oi := _) (v := .string (st R.2)) rfl (by kernel_rfl) (by kernel_rfl) (by kernel_rfl) (fun _ _ _ h => h) (Or.inl ⟨by rfl, by intro w hSw; have hcc := (SX.out w hSw).2; go_simp⟩) hHeld ?_
              simp only [List.getElem_toArray, List.getElem_cons_zero, List.getElem_cons_succ, Act.put, List.setIfInBounds_toArray, List.set_cons_zero, List.set_cons_succ]
              refine wpAnyH_ready (rs := [19]) (by kernel_rfl) (by simp) ?_
              refine AllReadyH.cons rfl (fun K hK => ?_) AllReadyH.nil
              go_simp
              (with_reducible refine (HPU.out _ hHeld).mono ?_)
              rintro e w6 ⟨u', hu', rfl, q1, -, q3⟩
              have hb6 := Below.trans hHeld (q3.mono hHeld.size)
              go_wp2_with fail
              refine hK.out _ _ hb6 (fun _ => ?_)
              clear hK K
              try simp only [List.getElem_toArray, List.getElem_cons_zero, List.getElem_cons_succ, Act.put, List.setIfInBounds_toArray, List.set_cons_zero, List.set_cons_succ]
              refine wpAnyH_take (i := 20) (oi := _) (v := u') rfl (by kernel_rfl) (by kernel_rfl) (by kernel_rfl) (fun _ _ _ h => h) (Or.inl ⟨by rfl, by intro w hSw; go_simp⟩) hb6 ?_
              simp only [List.getElem_toArray, List.getElem_cons_zero, List.getElem_cons_succ, Act.put, List.setIfInBounds_toArray, List.set_cons_zero, List.set_cons_succ]
              refine wpAnyH_done (by kernel_rfl) ?_ _
              go_wp2_with fail
              go_roundw
              case rel => exact ⟨q + 1, u', hu', by omega, by go_num, rfl, Lib.hid (by rw [HN.out]; exact ⟨q1, HNL.out⟩), Lib.hid (HBQ.out.trans (hb6.mono HBQ.out.size))⟩
              case measure => simp [intOf]; omega
            · obtain rfl : q = p := by omega
              obtain rfl : V = L := by
                rw [← hV, List.take_of_length_le (by rw [List.length_reverse, HA.out]; exact Nat.le_refl _)]
                exact HEND.out
              have KA := Lib.hid (K.pairs _ V _ [] 4611686018427387904 wr HU.out.1 (by rw [HA.out]; omega) (Nat.zero_le _) (by decide) (by decide))
              rw [from_all V (by rw [HA.out]; omega), HA.out] at KA
              have KL := Lib.hid (fun W (hW : Below wr.heap.size wr W) => K.len _ V _ W (K.keep HU.out.1 hW) (by rw [HA.out]; omega))
              have KM := Lib.hid (fun W (hW : Below w3.heap.size w3 W) => K.len _ V _ W (HT3.out W hW) (by rw [HA.out]; omega))
              rw [HA.out] at KL KM
              have hee : ((q : Int) == (q : Int)) = true := by simp
              go_wp2_with fail
              refine KA.out.mono ?_
              rintro e w6 ⟨A6, c6, rfl, r6, -, -, -, b6⟩
              have HB6 := Lib.hid b6
              have KS6 := Lib.hid (rsamepairs_any A6 V q c6 A3 V q c3 HA.out HA.out (by omega) w6 r6 ((HRP.out w6 (HBQ.out.trans (b6.mono HBQ.out.size))).more (HBQ.out.trans (b6.mono HBQ.out.size)).size))
              rw [decide_eq_true rfl] at KS6
              clear r6 b6 KA
              go_wp2_with fail
              refine KS6.out.mono ?_
              rintro e w7 ⟨rfl, b7⟩
              have HB7 := Lib.hid (HB6.out.trans (b7.mono HB6.out.size))
              clear b7 KS6
              go_wp2_with fail
              refine (KL.out w7 HB7.out).mono ?_
              rintro e w8 ⟨rfl, b8⟩
              have HB8 := Lib.hid (HB7.out.trans (b8.mono HB7.out.size))
              clear b8
              go_wp2_with fail
              refine (KM.out w8 (HBQ.out.trans (HB8.out.mono HBQ.out.size))).mono ?_
              rintro e w9 ⟨rfl, b9⟩
              have HB9 := Lib.hid (HB8.out.trans (b9.mono HB8.out.size))
              clear b9
              go_wp2_with fail
              go_ret
              exact ⟨rfl, HB3.out.trans ((HBQ.out.trans (HB9.out.mono HBQ.out.size)).mono HB3.out.size)⟩
end
end Go.Proofs.Ytiomfkhblmmdoaa
