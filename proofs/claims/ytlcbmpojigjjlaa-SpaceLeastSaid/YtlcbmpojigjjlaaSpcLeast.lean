/- The walk of SpaceLeast, told from what the package's spaces do. No statement of the seat is proved here. -/
import Derived.Test.YtlcbmpojigjjlaaSpcRow
import Derived.Test.YtlcbmpojigjjlaaQuiet
namespace Go.Proofs.Ytlcbmpojigjjlaa
open Go.RowKit
set_option linter.unusedVariables false

/-- What SpaceLeast looks at, number by number. -/
theorem least_at {R : List Nat} {k i : Nat} (hi : i < (List.range (k + 1) ++ R).length) : (i ≤ k → (List.range (k + 1) ++ R)[i]? = some i) ∧ (k < i → (List.range (k + 1) ++ R)[i]? = (List.range k ++ R)[i - 1]?) := by
  constructor
  · intro h
    rw [List.getElem?_append_left (by rw [List.length_range]; omega), List.getElem?_range (by omega)]
  · intro h
    rw [List.getElem?_append_right (by rw [List.length_range]; omega), List.getElem?_append_right (by rw [List.length_range]; omega), List.length_range, List.length_range, show i - 1 - k = i - (k + 1) by omega]
theorem ints_get {l : List Nat} {i x : Nat} (h : l[i]? = some x) : (ints l)[i]? = some (x : Int) := by simp [ints, h]
section
variable {St : World → Addr → (Nat → Prop) → PS → Prop}
set_option maxRecDepth 100000 in
set_option maxHeartbeats 4000000 in
theorem least_walk (K : SpacesOk St) (N : Nat) (hN : N < 65536) (A : Option Addr) (ls : List PActT) (n c : Nat) (hl : ls.length = n) (hc : n ≤ c) (hm : c ≤ maxLen) (w : World) (hr : RdP w w.heap.size A ls) :
    Calls Try.prog 5 #[.int .u16 N, .slice A n c] w fun e w' => e = .returned (.bool true) ∧ Below w.heap.size w w' := by
  have HK := Lib.hid K
  have HR := Lib.hid hr
  have HL := Lib.hid hl
  obtain ⟨m, hmm⟩ : ∃ m, N % 2001 = m := ⟨_, rfl⟩
  have hmi : (N : Int) % 2001 = (m : Int) := by omega
  have hm5 : m ≤ 2000 := by omega
  have KF := Lib.hid (fun W => few_any A n c hc hm W)
  have hc63 : c ≤ 9223372036854775807 := by unfold maxLen at hm; omega
  clear K hr hl hmm hm
  go_enter Try.func5, Try.ntmps5
  go_wp2_with fail
  (with_reducible refine (shown_any HK.out w).mono ?_)
  rintro e w1 ⟨rfl, hb1⟩
  have KN := Lib.hid (HK.out.new' (w0 := w) m (by omega) hb1)
  clear hb1
  go_wp2_with fail
  (with_reducible refine KN.out.mono ?_)
  rintro e w2 ⟨s, rfl, h2⟩
  have H2 := Lib.hid h2
  clear h2 KN
  go_wp2_with fail
  (with_reducible refine (KF.out w2).mono ?_)
  rintro e w3 ⟨k0, hk0, hk3, rfl, rfl⟩
  clear KF
  obtain ⟨fs, hfs⟩ := pact_desc
  have HF := Lib.hid hfs
  clear hfs
  go_wp2_with fail
  go_loopw [32] (fun i wr => ∃ (j : Nat) (S : PS), j ≤ k0 ∧ i = .int .i64 j ∧ Hid (Spc St w wr s S ∧ S.n = m)) (fun i _ => k0 - (intOf i).toNat)
  case atStart => exact ⟨0, _, Nat.zero_le _, rfl, Lib.hid ⟨H2.out, rfl⟩⟩
  case round =>
    clear H2 hmi
    obtain ⟨j, S, hj, rfl, hst⟩ := hrel
    by_cases hlt : j < k0
    · have hjx : j < ls.length := by rw [HL.out]; omega
      obtain ⟨g, off, a, rfl, hra, hok, hab⟩ := HR.out.get hst.out.1.bel hjx
      have HRA := Lib.hid hra
      have HOK := Lib.hid hok
      have HFA := Lib.hid (pact_facts a)
      have HBZ := Lib.hid (Blk.new wr 33 pdz)
      obtain ⟨w5, ab, hw5, hab5, hb5, hbk5⟩ := pact_box wr a
      have h5 := HK.out.on hst.out.1 hb5
      have HW5 := Lib.hid hw5
      have HAB := Lib.hid hab5
      have HBK := Lib.hid hbk5
      have HSN := Lib.hid hst.out.2
      have KA := HK.out.all2 h5
      rw [hst.out.2] at KA
      obtain ⟨U, hU⟩ : ∃ U, allF S.S m = U := ⟨_, rfl⟩
      rw [hU] at KA
      obtain ⟨u, hu⟩ : ∃ u, U.length = u := ⟨_, rfl⟩
      rw [hu] at KA
      have KA := Lib.hid KA
      have hum : u ≤ m := by rw [← hu, ← hU]; exact allF_le _ _
      have HU := Lib.hid (And.intro hU hu)
      have hi1 : (0 : Int) ≤ (j : Int) := by omega
      have hi2 : (j : Int) < (k0 : Int) := by omega
      clear hra hok hst hw5 hab5 hb5 hbk5 h5 hab hU hu hjx
      go_wp2_with (first
        | refine wpList_load_mid rfl 33 (.tmp 34) rfl g (off + j * 2) rfl (pcsA a) (.struct fs) HRA.out HF.out rfl HFA.out.1 ?_
        | (refine wpList_store_row rfl 33 (.tmp 9) (.tmp 35) rfl wr.heap.size (pcsA a).toArray rfl rfl 33 pdz HBZ.out HFA.out.2.1 HFA.out.2.2.1 HFA.out.2.2.2 ?_; rw [setRow_new, HW5.out, HAB.out]))
      (with_reducible refine KA.out.mono ?_)
      rintro e w6 ⟨A6, c6, rfl, ho6, hb6, F, hst6, hFl, hFg, hon6⟩
      have h6 : Spc St w w6 s S := ⟨F, hst6, hFg, hon6⟩
      have HFF := Lib.hid (And.intro hst6 (And.intro hFl (And.intro hFg hon6)))
      have hbk6 := HBK.out.below hb6 HBK.out.lt
      have HBK6 := Lib.hid hbk6
      have hck : w6.cell? ⟨ab, 0, none⟩ = some (.int .u8 a.kind) := hbk6.cell 0
      have hkd := HOK.out.kind
      obtain ⟨r, hr⟩ : ∃ r, a.kind % 3 = r := ⟨_, rfl⟩
      have hri : (a.kind : Int) % 3 = (r : Int) := by omega
      have HRR := Lib.hid hr
      have hr3 : r < 3 := by omega
      have H6 := Lib.hid h6
      have HO6 := Lib.hid ho6
      clear h6 hb6 hbk6 KA hr ho6 hst6 hFl hFg hon6
      by_cases h0 : 0 < r
      · have h0i : (0 : Int) < (r : Int) := by omega
        have KD := Lib.hid (does_any HK.out H6.out a HOK.out)
        generalize a.kind = kd at hck hri hkd
        go_wp2_with (refine wpList_load_row rfl 33 (.tmp 9) rfl ab rfl 33 (pcsA a).toArray (0, 0) (.struct fs) HBK6.out HF.out rfl HFA.out.2.1 ?_)
        (with_reducible refine KD.out.mono ?_)
        rintro e w7 ⟨rfl, h7⟩
        have H7 := Lib.hid h7
        clear h7 hck
        go_wp2_with fail
        go_roundw
        case rel => exact ⟨j + 1, doP S a, by omega, by go_num, Lib.hid ⟨H7.out, by rw [doP_n]; exact HSN.out⟩⟩
        case measure => simp [intOf]; omega
      · obtain rfl : r = 0 := by omega
        have KT := HK.out.take s F S w6 HFF.out.1
        generalize a.kind = kd at hck hri hkd
        by_cases hfr : leastF S.S S.n < S.n
        · have e1 : takeV S = leastF S.S S.n := by unfold takeV; rw [if_pos hfr]
          have e2 : takeE S = 0 := by unfold takeE; rw [if_pos hfr]
          have e3 : takeP S = ⟨S.n, put1 S.S (leastF S.S S.n)⟩ := by unfold takeP; rw [if_pos hfr]
          rw [e1, e2, e3] at KT
          obtain ⟨R, hR1, hR2⟩ := allF_take hfr
          obtain ⟨k, hk⟩ : ∃ k, leastF S.S S.n = k := ⟨_, rfl⟩
          rw [hk] at hfr KT hR1 hR2
          rw [HSN.out] at hfr KT hR1 hR2
          obtain ⟨T, hT⟩ : ∃ T, put1 S.S k = T := ⟨_, rfl⟩
          rw [hT] at KT hR2
          have hul : k + R.length = u := by rw [← HU.out.2, ← HU.out.1, hR1, List.length_append, List.length_range]
          have hnl : (allF T m).length = u + 1 := by rw [hR2, List.length_append, List.length_range]; omega
          have HRL := Lib.hid (show U = List.range k ++ R ∧ allF T m = List.range (k + 1) ++ R from ⟨by rw [← HU.out.1]; exact hR1, hR2⟩)
          have KT := Lib.hid KT
          have hkm : k ≤ 2000 := by omega
          have hku : k ≤ u := by omega
          clear e1 e2 e3 hR1 hR2 hk hT
          go_wp2_with fail
          (with_reducible refine KT.out.mono ?_)
          rintro e w7 ⟨rfl, h7⟩
          have h7' : Spc St w w7 s ⟨m, T⟩ := Turned.step HFF.out.2.2.1 HFF.out.2.2.2 h7
          have ho7 := own_turn HO6.out (fun g hg => .inl (HFF.out.2.1 g hg)) h7.only
          have KA := HK.out.all' h7'
          rw [show (allF (PS.mk m T).S (PS.mk m T).n).length = u + 1 from hnl, show allF (PS.mk m T).S (PS.mk m T).n = List.range (k + 1) ++ R from HRL.out.2] at KA
          have KA := Lib.hid KA
          have HO7 := Lib.hid ho7
          clear h7 h7' ho7 KT
          go_wp2_with fail
          (with_reducible refine KA.out.mono ?_)
          rintro e w8 ⟨A8, c8, rfl, ho8, h8, hb8⟩
          have H8 := Lib.hid (And.intro h8 (And.intro ho8 (ownsRow_below HO7.out hb8)))
          clear h8 hb8 ho8 KA
          go_wp2_with fail
          obtain ⟨wo, rfl⟩ : ∃ wo, wo = w8 := ⟨_, rfl⟩
          go_loopw [81] (fun i wr => ∃ q : Nat, q ≤ u + 1 ∧ i = .int .i64 q ∧ Hid (Spc St w wr s ⟨m, T⟩ ∧ wr.ownsRow w7.heap.size 3 1 (.slice A8 (u + 1) c8) (u + 1) (iv (ints (List.range (k + 1) ++ R))) ∧ wr.ownsRow w5.heap.size 3 1 (.slice A6 u c6) u (iv (ints U)))) (fun i _ => u + 1 - (intOf i).toNat)
          case atStart => exact ⟨0, Nat.zero_le _, rfl, H8⟩
          case round =>
            clear H8
            obtain ⟨q, hq, rfl, hsq⟩ := hrel
            by_cases hqu : q < u + 1
            · have hqi : (q : Int) < ((u + 1 : Nat) : Int) := by omega
              have hq0 : (0 : Int) ≤ (q : Int) := by omega
              obtain ⟨g8, hA8, _, x, hx, hcx⟩ := int_at hsq.out.2.1 hqu
              have hll : q < (List.range (k + 1) ++ R).length := by rw [List.length_append, List.length_range]; omega
              by_cases hqk : q ≤ k
              · have hx2 := ints_get ((least_at hll).1 hqk)
                rw [hx] at hx2
                obtain rfl : x = (q : Int) := Option.some.inj hx2
                have hqk1 : decide ((q : Int) ≤ (k : Int)) = true := by simpa using hqk
                have hqk2 : decide (q ≤ k) = true := by simpa using hqk
                have hkq1 : decide ((k : Int) < (q : Int)) = false := by simpa using hqk
                have hkq2 : decide (k < q) = false := by simpa using hqk
                have HX := Lib.hid (fun z => show Spc St w (wr.drewN z) s ⟨m, T⟩ ∧ (wr.drewN z).ownsRow w7.heap.size 3 1 (.slice A8 (u + 1) c8) (u + 1) (iv (ints (List.range (k + 1) ++ R))) ∧ (wr.drewN z).ownsRow w5.heap.size 3 1 (.slice A6 u c6) u (iv (ints U)) from
                  ⟨HK.out.on hsq.out.1 (below_drewN (Below.refl _ _) z), hsq.out.2.1, hsq.out.2.2⟩)
                subst hA8
                clear hsq hx hx2 hll
                go_wp2_with fail
                go_quiet (fail)
                go_wp2_with fail
                go_roundw
                case rel => exact ⟨q + 1, by omega, by go_num, Lib.hid (HX.out _)⟩
                case measure => simp [intOf]; omega
              · have hq1 : q - 1 < u := by omega
                obtain ⟨g6, hA6, _, y, hy, hcy⟩ := int_at hsq.out.2.2 hq1
                have hxy : x = y := by
                  have h1 : (ints (List.range (k + 1) ++ R))[q]? = (ints U)[q - 1]? := by
                    unfold ints
                    rw [List.getElem?_map, List.getElem?_map, (least_at hll).2 (by omega), HRL.out.1]
                  rw [hx, hy] at h1
                  exact Option.some.inj h1
                subst hxy
                have hqk1 : decide ((q : Int) ≤ (k : Int)) = false := by simp; omega
                have hqk2 : decide (q ≤ k) = false := by simp; omega
                have hkq1 : decide ((k : Int) < (q : Int)) = true := by simp; omega
                have hkq2 : decide (k < q) = true := by simp; omega
                have hsub : IntKind.i64.wrap ((q : Int) - 1) = ((q - 1 : Nat) : Int) := by rw [IntKind.wrap_i64]; omega
                have hsub2 : (q : Int) - 1 = ((q - 1 : Nat) : Int) := by omega
                obtain ⟨p, hp⟩ : ∃ p, q - 1 = p := ⟨_, rfl⟩
                rw [hp] at hcy hsub hsub2 hq1
                have hp0 : (0 : Int) ≤ (p : Int) := by omega
                have hp1 : (p : Int) < (u : Int) := by omega
                have hwp : IntKind.i64.wrap (p : Int) = (p : Int) := by rw [IntKind.wrap_i64]; omega
                have HX := Lib.hid (fun z => show Spc St w (wr.drewN z) s ⟨m, T⟩ ∧ (wr.drewN z).ownsRow w7.heap.size 3 1 (.slice A8 (u + 1) c8) (u + 1) (iv (ints (List.range (k + 1) ++ R))) ∧ (wr.drewN z).ownsRow w5.heap.size 3 1 (.slice A6 u c6) u (iv (ints U)) from
                  ⟨HK.out.on hsq.out.1 (below_drewN (Below.refl _ _) z), hsq.out.2.1, hsq.out.2.2⟩)
                subst hA8 hA6
                clear hsq hx hy hll hp
                go_wp2_with fail
                go_quiet (fail)
                go_wp2_with fail
                go_roundw
                case rel => exact ⟨q + 1, by omega, by go_num, Lib.hid (HX.out _)⟩
                case measure => simp [intOf]; omega
            · obtain rfl : q = u + 1 := by omega
              have H9 := Lib.hid hsq.out.1
              clear hsq
              go_wp2_with fail
              go_roundw
              case rel => exact ⟨j + 1, _, by omega, by go_num, Lib.hid ⟨H9.out, rfl⟩⟩
              case measure => simp [intOf]; omega
        · have e1 : takeV S = 0 := by unfold takeV; rw [if_neg hfr]
          have e2 : takeE S = 5 := by unfold takeE; rw [if_neg hfr]
          have e3 : takeP S = S := by unfold takeP; rw [if_neg hfr]
          rw [e1, e2, e3] at KT
          rw [HSN.out] at hfr
          have hul : u = m := by rw [← HU.out.2, ← HU.out.1]; exact allF_full hfr
          have KT := Lib.hid KT
          clear e1 e2 e3 hfr
          subst hul
          go_wp2_with fail
          (with_reducible refine KT.out.mono ?_)
          rintro e w7 ⟨rfl, h7⟩
          have KL := HK.out.len' (show Spc St w w7 s S from Turned.step HFF.out.2.2.1 HFF.out.2.2.2 h7)
          rw [HSN.out] at KL
          have KL := Lib.hid KL
          clear h7 KT
          go_wp2_with fail
          (with_reducible refine KL.out.mono ?_)
          rintro e w8 ⟨rfl, h8, _⟩
          have H8 := Lib.hid h8
          clear h8 KL
          go_wp2_with fail
          go_roundw
          case rel => exact ⟨j + 1, S, by omega, by go_num, Lib.hid ⟨H8.out, HSN.out⟩⟩
          case measure => simp [intOf]; omega
    · obtain rfl : k0 = j := by omega
      have HE := Lib.hid hst.out.1.bel
      clear hst
      go_wp2_with fail
      go_ret
      exact ⟨rfl, HE.out⟩
end
end Go.Proofs.Ytlcbmpojigjjlaa
