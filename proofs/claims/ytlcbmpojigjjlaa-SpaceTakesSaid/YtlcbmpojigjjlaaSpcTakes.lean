/- The walk of SpaceTakes, told from what the package's spaces do. No statement of the seat is proved here. -/
import Derived.Test.YtlcbmpojigjjlaaSpcShown
namespace Go.Proofs.Ytlcbmpojigjjlaa
open Go.RowKit
set_option linter.unusedVariables false

/-- The first places are used. -/
def upS (i : Nat) : Nat → Bool := fun x => decide (x < i)
theorem up_zero : upS 0 = fun _ => false := by funext x; simp [upS]
theorem up_put (i : Nat) : put1 (upS i) i = upS (i + 1) := by
  funext x
  show (x == i || decide (x < i)) = decide (x < i + 1)
  by_cases h : x = i
  · subst h; simp
  · have e : (x == i) = false := by simpa using h
    rw [e, Bool.false_or]
    congr 1
    apply propext
    omega
theorem up_least {i m : Nat} (h : i ≤ m) : leastF (upS i) m = i := leastF_eq h (fun x hx => by simp [upS, hx]) (fun _ => by simp [upS])
theorem up_take {i m : Nat} (h : i < m) : takeP ⟨m, upS i⟩ = ⟨m, upS (i + 1)⟩ ∧ takeV ⟨m, upS i⟩ = i ∧ takeE ⟨m, upS i⟩ = 0 := by
  unfold takeP takeV takeE
  simp only [up_least (Nat.le_of_lt h), if_pos h, up_put]
  exact ⟨trivial, trivial, trivial⟩
theorem up_full (m : Nat) : takeP ⟨m, upS m⟩ = ⟨m, upS m⟩ ∧ takeV ⟨m, upS m⟩ = 0 ∧ takeE ⟨m, upS m⟩ = 5 := by
  unfold takeP takeV takeE
  simp only [up_least (Nat.le_refl m), Nat.lt_irrefl, if_false]
  exact ⟨trivial, trivial, trivial⟩
theorem up_all (m : Nat) : (allF (upS m) m).length = m := by
  have : allF (upS m) m = List.range m := by
    unfold allF
    apply List.filter_eq_self.2
    intro x hx
    simpa [upS] using hx
  rw [this, List.length_range]
theorem all_none {S : Nat → Bool} {m : Nat} (h : (allF S m).length = 0) (ho : ∀ i, m ≤ i → S i = false) : S = fun _ => false := by
  funext x
  by_cases hx : x < m
  · cases e : S x with
    | false => rfl
    | true =>
      have h1 : x ∈ allF S m := mem_allF.2 ⟨hx, e⟩
      rw [List.eq_nil_of_length_eq_zero h] at h1
      cases h1
  · exact ho x (by omega)
theorem all_del {S : Nat → Bool} {k : Nat} (hk : S k = true) : ∀ m, k < m → (allF (del1 S k) m).length + 1 = (allF S m).length
  | 0, h => by omega
  | m + 1, h => by
    rw [allF_succ, allF_succ, List.length_append, List.length_append]
    by_cases e : k = m
    · subst e
      have h1 : allF (del1 S k) k = allF S k := allF_congr fun i hi => by
        have : (i != k) = true := by simp; omega
        simp [del1, this]
      have h2 : del1 S k k = false := by simp [del1]
      rw [h1, h2, hk]
      simp
    · have h3 := all_del hk m (by omega)
      have h4 : del1 S k m = S m := by
        have : (m != k) = true := by simp; omega
        simp [del1, this]
      rw [h4]
      omega
/-- Gone round once, all were seen. -/
theorem round_all {S : Nat → Bool} {m k : Nat} (hk : k < m) (h : ∀ j, j < m → S ((k + j) % m) = false) : ∀ x, x < m → S x = false := fun x hx => by
  by_cases hxk : k ≤ x
  · have := h (x - k) (by omega)
    rwa [show k + (x - k) = x by omega, Nat.mod_eq_of_lt hx] at this
  · have := h (x + m - k) (by omega)
    rwa [show k + (x + m - k) = x + m by omega, Nat.add_mod_right, Nat.mod_eq_of_lt hx] at this
theorem all_zero {S : Nat → Bool} {m : Nat} (h : ∀ x, x < m → S x = false) : (allF S m).length = 0 := by
  have : allF S m = [] := List.filter_eq_nil_iff.2 fun x hx => by rw [h x (List.mem_range.1 hx)]; decide
  rw [this]; rfl
section
variable {St : World → Addr → (Nat → Prop) → PS → Prop}
set_option maxRecDepth 100000 in
set_option maxHeartbeats 4000000 in
theorem takes_walk (K : SpacesOk St) (N T : Nat) (hN : N < 65536) (hT : T < 65536) (w : World) :
    Calls Try.prog 8 #[.int .u16 N, .int .u16 T] w fun e w' => e = .returned (.bool true) ∧ Below w.heap.size w w' := by
  have HK := Lib.hid K
  obtain ⟨m, hm⟩ : ∃ m, N % 501 = m := ⟨_, rfl⟩
  have hmi : (N : Int) % 501 = (m : Int) := by omega
  have hm5 : m ≤ 500 := by omega
  obtain ⟨t7, ht7⟩ : ∃ t7, T % 7 = t7 := ⟨_, rfl⟩
  have hti : (T : Int) % 7 = (t7 : Int) := by omega
  have ht8 : t7 ≤ 6 := by omega
  clear K hm ht7
  go_enter Try.func8, Try.ntmps8
  go_wp2_with fail
  (with_reducible refine (shown_any HK.out w).mono ?_)
  rintro e w1 ⟨rfl, hb1⟩
  have KN := Lib.hid (HK.out.new' (w0 := w) m (by omega) hb1)
  clear hb1
  go_wp2_with fail
  (with_reducible refine KN.out.mono ?_)
  rintro e w2 ⟨s, rfl, h2⟩
  have H2 := Lib.hid h2
  clear h2 KN
  go_wp2_with fail
  go_loopw [31] (fun i wr => ∃ j : Nat, j ≤ 2 ∧ i = .int .i64 j ∧ Hid (Spc St w wr s ⟨m, upS 0⟩)) (fun i _ => 2 - (intOf i).toNat)
  case atStart => exact ⟨0, by omega, rfl, Lib.hid (by rw [up_zero]; exact H2.out)⟩
  case round =>
    clear H2
    obtain ⟨jo, hjo, rfl, hso⟩ := hrel
    by_cases hlo : jo < 2
    · have hlo1 : (jo : Int) < 2 := by omega
      obtain ⟨wo, rfl⟩ : ∃ wo, wo = wr := ⟨_, rfl⟩
      go_wp2_with fail
      go_loopw [34] (fun i wr => ∃ j : Nat, j ≤ m ∧ i = .int .i64 j ∧ Hid (Spc St w wr s ⟨m, upS j⟩)) (fun i _ => m - (intOf i).toNat)
      case atStart => exact ⟨0, Nat.zero_le _, rfl, hso⟩
      case round =>
        clear hso
        obtain ⟨j, hj, rfl, hst⟩ := hrel
        by_cases hlt : j < m
        · have hlt1 : (j : Int) < (m : Int) := by omega
          obtain ⟨e1, e2, e3⟩ := up_take hlt
          have KT := HK.out.take' hst.out
          rw [e1, e2, e3] at KT
          have KT := Lib.hid KT
          clear e1 e2 e3 hst
          go_wp2_with fail
          (with_reducible refine KT.out.mono ?_)
          rintro e w3 ⟨rfl, h3⟩
          have H3 := Lib.hid h3
          clear h3 KT
          go_wp2_with fail
          go_roundw
          case rel => exact ⟨j + 1, by omega, by go_num, H3⟩
          case measure => simp [intOf]; omega
        · obtain rfl : m = j := by omega
          obtain ⟨e1, e2, e3⟩ := up_full m
          have KT := HK.out.take' hst.out
          rw [e1, e2, e3] at KT
          have KT := Lib.hid KT
          clear e1 e2 e3 hst
          go_wp2_with fail
          (with_reducible refine KT.out.mono ?_)
          rintro e w3 ⟨rfl, h3⟩
          have KA := HK.out.taken' h3
          rw [show (allF (PS.mk m (upS m)).S (PS.mk m (upS m)).n).length = m from up_all m] at KA
          have KA := Lib.hid KA
          clear h3 KT
          go_wp2_with fail
          (with_reducible refine KA.out.mono ?_)
          rintro e w4 ⟨rfl, h4, _⟩
          have H4 := Lib.hid h4
          clear h4 KA
          go_wp2_with fail
          obtain ⟨wp, rfl⟩ : ∃ wp, wp = wr := ⟨_, rfl⟩
          go_loopw [14, 70] (fun kv i wr => ∃ (k j : Nat) (S : Nat → Bool), j ≤ m ∧ k < 65536 ∧ i = .int .i64 j ∧ kv = .int .i64 k ∧ Hid (Spc St w wr s ⟨m, S⟩ ∧ (allF S m).length = m - j)) (fun _ i _ => m - (intOf i).toNat)
          case atStart => exact ⟨T, 0, upS m, Nat.zero_le _, hT, rfl, rfl, Lib.hid ⟨H4.out, up_all m⟩⟩
          case round =>
            clear H4 hj hlt
            obtain ⟨k, j, S, hj, hk6, rfl, rfl, hst⟩ := hrel
            by_cases hlt : j < m
            · have hlt1 : (j : Int) < (m : Int) := by omega
              have hm0 : 0 < m := by omega
              obtain ⟨k2, hk2⟩ : ∃ k2, (k + 1 + t7) % m = k2 := ⟨_, rfl⟩
              have hk2m : k2 < m := by rw [← hk2]; exact Nat.mod_lt _ hm0
              have HK2 := Lib.hid hk2m
              have hmod : ((k : Int) + 1 + (t7 : Int)).tmod (m : Int) = (k2 : Int) := by
                rw [← hk2]
                have e : ((k : Int) + 1 + (t7 : Int)) = ((k + 1 + t7 : Nat) : Int) := by omega
                rw [e]
                rfl
              obtain ⟨wq, rfl⟩ : ∃ wq, wq = wr := ⟨_, rfl⟩
              clear hk2
              go_wp2_with fail
              rw [hti]
              go_loopw [14, 15] (fun kv i wr => ∃ (kc q : Nat), q ≤ m ∧ kc < m ∧ i = .int .i64 q ∧ kv = .int .i64 kc ∧ Hid (kc = (k2 + q) % m ∧ (∀ p, p < q → S ((k2 + p) % m) = false) ∧ Spc St w wr s ⟨m, S⟩ ∧ (allF S m).length = m - j)) (fun _ i _ => m - (intOf i).toNat)
              case atStart => exact ⟨k2, 0, Nat.zero_le _, HK2.out, rfl, rfl, Lib.hid ⟨by rw [Nat.add_zero, Nat.mod_eq_of_lt HK2.out], fun p hp => by omega, hst.out.1, hst.out.2⟩⟩
              case round =>
                clear hst hmod hk6
                obtain ⟨kc, q, hq, hkc, rfl, rfl, hst⟩ := hrel
                by_cases hqm : q < m
                · have hqm1 : (q : Int) < (m : Int) := by omega
                  have KH := HK.out.has' hst.out.2.2.1 (kc : Int) ⟨by omega, by omega⟩
                  have hv : hasV ⟨m, S⟩ (kc : Int) = S kc := by
                    unfold hasV
                    have h1 : decide ((0 : Int) ≤ (kc : Int)) = true := by simp
                    have h2 : decide ((kc : Int) < ((PS.mk m S).n : Int)) = true := by simpa using hkc
                    rw [h1, h2]
                    simp
                  rw [hv] at KH
                  cases hs : S kc with
                  | false =>
                    rw [hs] at KH
                    have KH := Lib.hid KH
                    obtain ⟨k3, hk3⟩ : ∃ k3, (kc + 1) % m = k3 := ⟨_, rfl⟩
                    have hk3m : k3 < m := by rw [← hk3]; exact Nat.mod_lt _ hm0
                    have hmod : ((kc : Int) + 1).tmod (m : Int) = (k3 : Int) := by
                      rw [← hk3]
                      rfl
                    have HX := Lib.hid (show k3 = (k2 + (q + 1)) % m ∧ (∀ p, p < q + 1 → S ((k2 + p) % m) = false) ∧ (allF S m).length = m - j from by
                      refine ⟨?_, fun p hp => ?_, hst.out.2.2.2⟩
                      · rw [← hk3, hst.out.1, Nat.mod_add_mod]
                        rfl
                      · by_cases e : p = q
                        · rw [e, ← hst.out.1]; exact hs
                        · exact hst.out.2.1 p (by omega))
                    clear hst hv hs hk3
                    go_wp2_with fail
                    (with_reducible refine KH.out.mono ?_)
                    rintro e w5 ⟨rfl, h5, _⟩
                    have H5 := Lib.hid h5
                    clear h5 KH
                    go_wp2_with fail
                    go_roundw
                    case rel => exact ⟨k3, q + 1, by omega, hk3m, by go_num, rfl, Lib.hid ⟨HX.out.1, HX.out.2.1, H5.out, HX.out.2.2⟩⟩
                    case measure => simp [intOf]; omega
                  | true =>
                    rw [hs] at KH
                    have KH := Lib.hid KH
                    have HX := Lib.hid (show freeE ⟨m, S⟩ (kc : Int) = 0 ∧ freeP ⟨m, S⟩ (kc : Int) = ⟨m, del1 S kc⟩ ∧ (allF (del1 S kc) m).length = m - (j + 1) from by
                      have e1 : freeE ⟨m, S⟩ (kc : Int) = 0 := by
                        unfold freeE
                        rw [if_neg (by show ¬ ((kc : Int) < 0 ∨ (m : Int) ≤ (kc : Int)); omega), if_pos (by show S (kc : Int).toNat = true; rw [Int.toNat_natCast]; exact hs)]
                      refine ⟨e1, ?_, ?_⟩
                      · unfold freeP
                        rw [if_pos e1, Int.toNat_natCast]
                      · have := all_del hs m hkc
                        have := hst.out.2.2.2
                        omega)
                    clear hst hv hs
                    go_wp2_with fail
                    (with_reducible refine KH.out.mono ?_)
                    rintro e w5 ⟨rfl, h5, _⟩
                    have KF := HK.out.free' h5 (kc : Int) ⟨by omega, by omega⟩
                    rw [HX.out.1, HX.out.2.1] at KF
                    have KF := Lib.hid KF
                    clear h5 KH
                    go_wp2_with fail
                    (with_reducible refine KF.out.mono ?_)
                    rintro e w6 ⟨rfl, h6⟩
                    have H6 := Lib.hid h6
                    clear h6 KF
                    go_wp2_with fail
                    go_roundw
                    case rel => exact ⟨kc, j + 1, del1 S kc, by omega, by omega, by go_num, rfl, Lib.hid ⟨H6.out, HX.out.2.2⟩⟩
                    case measure => simp [intOf]; omega
                · exfalso
                  obtain rfl : m = q := by omega
                  have h1 := all_zero (round_all HK2.out hst.out.2.1)
                  have h2 := hst.out.2.2.2
                  omega
            · obtain rfl : m = j := by omega
              have hz : (allF S m).length = 0 := by have := hst.out.2; omega
              have hok := HK.out.turnedOk hst.out.1
              have hS : S = upS 0 := by rw [up_zero]; exact all_none hz hok.out
              have KA := HK.out.taken' hst.out.1
              rw [show (allF (PS.mk m S).S (PS.mk m S).n).length = 0 from hz] at KA
              have KA := Lib.hid KA
              have HS := Lib.hid hS
              clear hst hz hok hS
              go_wp2_with fail
              (with_reducible refine KA.out.mono ?_)
              rintro e w5 ⟨rfl, h5, _⟩
              have H5 := Lib.hid (HS.out ▸ h5)
              clear h5 KA
              go_wp2_with fail
              go_roundw
              case rel => exact ⟨jo + 1, by omega, by go_num, H5⟩
              case measure => simp [intOf]; omega
    · obtain rfl : 2 = jo := by omega
      have HE := Lib.hid hso.out.bel
      clear hso
      go_wp2_with fail
      go_ret
      exact ⟨rfl, HE.out⟩
end
end Go.Proofs.Ytlcbmpojigjjlaa
