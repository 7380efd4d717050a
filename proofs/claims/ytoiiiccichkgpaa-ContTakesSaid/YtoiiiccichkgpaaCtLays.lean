/- The walks of ContLays and ContBack, told from what the package does. No statement of the seat is proved here. -/
import Derived.Test.YtoiiiccichkgpaaCtShown
import Derived.Test.YtoiiiccichkgpaaCtLight
import Derived.Test.YtoiiiccichkgpaaCtRefD
import Derived.Test.YtoiiiccichkgpaaCtRefG
namespace Go.Proofs.Ytoiiiccichkgpaa
open Go.RowKit
set_option linter.unusedVariables false
set_option linter.unusedSimpArgs false

section
variable {w0 : World}
/-- Told from a base world. -/
theorem shown_at (K : ContsOk) : ∀ W, Below w0.heap.size w0 W → Calls Try.prog 9 #[] W fun e w' => e = .returned (.bool true) ∧ Below w0.heap.size w0 w' ∧ Below W.heap.size W w' := fun W hb =>
  (shown_any K W).mono fun e w' ⟨h1, h2⟩ => ⟨h1, hb.trans (h2.mono hb.size), h2⟩
theorem light_at (A : Option Addr) (ls : List PieceT) (k c : Nat) (hl : ls.length = k) (hr : RdPc w0 w0.heap.size A ls) : ∀ W, Below w0.heap.size w0 W → Calls Try.prog 10 #[.slice A k c] W fun e w' => e = .returned (.bool (lightC ls)) ∧ W = w' := fun W hb =>
  light_any A ls k c hl W ((hr.below hb).more hb.size)
end
set_option maxRecDepth 100000 in
set_option maxHeartbeats 4000000 in
theorem lays_walk (K : ContsOk) (id : Nat) (hid : id < 4294967296) (A : Option Addr) (ls : List PieceT) (k c : Nat) (hl : ls.length = k) (hk : k ≤ c) (hc : c ≤ maxLen) (w : World) (hr : RdPc w w.heap.size A ls) :
    Calls Try.prog 3 #[.int .u32 id, .slice A k c] w fun e w' => e = .returned (.bool true) ∧ Below w.heap.size w w' := by
  have C0 := Lib.hid (shown_any K w)
  have CL := Lib.hid (light_at A ls k c hl hr)
  have HP := Lib.hid (fun W (hb : Below w.heap.size w W) => (hr.below hb).more hb.size)
  have HOK := Lib.hid (pds_ok hr)
  by_cases hli : lightC ls = true
  · rw [hli] at CL
    have HSM := Lib.hid (light_small hli)
    have HL := Lib.hid (And.intro hl (And.intro hk hc))
    have HI := Lib.hid hid
    clear hl hk hc hr hli hid
    go_enter Try.func3, Try.ntmps3
    go_wp2_with fail
    refine C0.out.mono ?_
    rintro e w1 ⟨rfl, hb1⟩
    have HB1 := Lib.hid hb1
    clear hb1 C0
    go_wp2_with fail
    refine (CL.out _ HB1.out).mono ?_
    rintro e w1' ⟨rfl, rfl⟩
    clear CL
    go_wp2_with fail
    refine (K.lay A ls k c id w1 HI.out HL.out.1 HL.out.2.1 HL.out.2.2 HSM.out (HP.out w1 HB1.out)).mono ?_
    rintro e w2 ⟨hyes, hno, hb2⟩
    have HB2 := Lib.hid (HB1.out.trans (hb2.mono HB1.out.size))
    clear hb2
    obtain ⟨S, hS⟩ : ∃ S, sizeC (pds ls) = S := ⟨_, rfl⟩
    by_cases hR : refC (pds ls) = 0
    · obtain ⟨A2, c2, t, rfl, ho2, _⟩ := hyes hR
      have HO2 := Lib.hid ho2
      have HR := Lib.hid hR
      have HS := Lib.hid hS
      rw [hS]
      clear hyes hno ho2 hR hS
      go_wp2_with fail
      refine (rlay_yes A ls k c id HI.out HL.out.1 HSM.out w2 (HP.out w2 HB2.out) HR.out).mono ?_
      rintro e w3 ⟨A3, c3, rfl, ho3, hb3⟩
      have HB3 := Lib.hid (HB2.out.trans (hb3.mono HB2.out.size))
      have s2 := str_row (layC_length (id := id) (l := pds ls) HOK.out) HO2.out w3 hb3
      have s3 := ho3.str
      rw [HS.out] at s2 s3 ⊢
      obtain ⟨Q, hQ⟩ : ∃ Q, layC id (pds ls) = Q := ⟨_, rfl⟩
      rw [hQ] at s2 s3
      clear hb3 ho3 hQ HO2
      go_wp2_with fail
      refine (K.size A ls k c w3 HL.out.1 HSM.out (HP.out w3 HB3.out)).mono ?_
      rintro e w4 ⟨rfl, hb4⟩
      have HB4 := Lib.hid (HB3.out.trans (hb4.mono HB3.out.size))
      clear hb4 s2 s3
      go_wp2_with fail
      refine (rsize_any A ls k c HL.out.1 HSM.out w4 (HP.out w4 HB4.out)).mono ?_
      rintro e w5 ⟨rfl, rfl⟩
      go_wp2_with fail
      go_ret
      exact ⟨rfl, HB4.out⟩
    · obtain ⟨R, hRR⟩ : ∃ R, refC (pds ls) = R := ⟨_, rfl⟩
      obtain ⟨A2, c2, rfl⟩ := hno R hRR (by rw [← hRR]; exact hR)
      have HR := Lib.hid hR
      have HRR := Lib.hid hRR
      have HS := Lib.hid hS
      have s2 := fun W => str_nil A2 c2 W
      have s3 := fun W => str_nil none 0 W
      clear hyes hno hR hS hRR
      go_wp2_with fail
      refine (rlay_no A ls k c id R HL.out.1 HSM.out w2 (HP.out w2 HB2.out) HRR.out (by rw [← HRR.out]; exact HR.out)).mono ?_
      rintro e w3 ⟨rfl, hb3⟩
      have HB3 := Lib.hid (HB2.out.trans (hb3.mono HB2.out.size))
      clear hb3
      go_wp2_with fail
      refine (K.size A ls k c w3 HL.out.1 HSM.out (HP.out w3 HB3.out)).mono ?_
      rintro e w4 ⟨rfl, hb4⟩
      have HB4 := Lib.hid (HB3.out.trans (hb4.mono HB3.out.size))
      rw [HS.out]
      clear hb4 s2 s3
      go_wp2_with fail
      refine (rsize_any A ls k c HL.out.1 HSM.out w4 (HP.out w4 HB4.out)).mono ?_
      rintro e w5 ⟨rfl, rfl⟩
      rw [HS.out]
      go_wp2_with fail
      go_ret
      exact ⟨rfl, HB4.out⟩
  · have e : lightC ls = false := by simpa using hli
    rw [e] at CL
    clear hl hk hc hr hli hid e
    go_enter Try.func3, Try.ntmps3
    go_wp2_with fail
    refine C0.out.mono ?_
    rintro e w1 ⟨rfl, hb1⟩
    have HB1 := Lib.hid hb1
    clear hb1 C0
    go_wp2_with fail
    refine (CL.out _ HB1.out).mono ?_
    rintro e w1' ⟨rfl, rfl⟩
    clear CL
    go_wp2_with fail
    go_ret
    exact ⟨rfl, HB1.out⟩
set_option maxRecDepth 100000 in
set_option maxHeartbeats 4000000 in
theorem back_walk (K : ContsOk) (id : Nat) (hid : id < 4294967296) (A : Option Addr) (ls : List PieceT) (k c : Nat) (hl : ls.length = k) (hk : k ≤ c) (hc : c ≤ maxLen) (w : World) (hr : RdPc w w.heap.size A ls) :
    Calls Try.prog 5 #[.int .u32 id, .slice A k c] w fun e w' => e = .returned (.bool true) ∧ Below w.heap.size w w' := by
  have C0 := Lib.hid (shown_any K w)
  have CL := Lib.hid (light_at A ls k c hl hr)
  have HP := Lib.hid (fun W (hb : Below w.heap.size w W) => (hr.below hb).more hb.size)
  have HOK := Lib.hid (pds_ok hr)
  by_cases hli : lightC ls = true
  · rw [hli] at CL
    have HSM := Lib.hid (light_small hli)
    have HL := Lib.hid (And.intro hl (And.intro hk hc))
    have HI := Lib.hid hid
    clear hl hk hc hr hli hid
    go_enter Try.func5, Try.ntmps5
    go_wp2_with fail
    refine C0.out.mono ?_
    rintro e w1 ⟨rfl, hb1⟩
    have HB1 := Lib.hid hb1
    clear hb1 C0
    go_wp2_with fail
    refine (CL.out _ HB1.out).mono ?_
    rintro e w1' ⟨rfl, rfl⟩
    clear CL
    go_wp2_with fail
    refine (K.lay A ls k c id w1 HI.out HL.out.1 HL.out.2.1 HL.out.2.2 HSM.out (HP.out w1 HB1.out)).mono ?_
    rintro e w2 ⟨hyes, hno, hb2⟩
    have HB2 := Lib.hid (HB1.out.trans (hb2.mono HB1.out.size))
    clear hb2
    obtain ⟨S, hS⟩ : ∃ S, sizeC (pds ls) = S := ⟨_, rfl⟩
    by_cases hR : refC (pds ls) = 0
    · obtain ⟨A2, c2, t, rfl, ho2, _⟩ := hyes hR
      have hS2 : S ≤ 65536 := by rw [← hS]; exact (refC_zero hR).2.2.1
      have HCAP := Lib.hid (ownsRow_form ho2)
      have HTK := Lib.hid (take_lay HI.out HOK.out hR)
      have HLL := Lib.hid (show (layC id (pds ls)).length = S by rw [layC_length HOK.out, hS])
      have HRD := Lib.hid (Rd.of_own ho2)
      have HSS := Lib.hid hS
      rw [hS] at HCAP ⊢
      have hcap : S ≤ c2 ∧ c2 ≤ maxLen := by
        obtain ⟨_, _, e, q1, q2⟩ := HCAP.out
        injection e with _ _ e
        subst e
        exact ⟨q1, q2⟩
      have HC2 := Lib.hid hcap
      obtain ⟨Q, hQ⟩ : ∃ Q, layC id (pds ls) = Q := ⟨_, rfl⟩
      rw [hQ] at HTK HLL HRD
      clear hyes hno ho2 hR hS HCAP hcap hQ
      go_wp2_with fail
      refine (K.take A2 S c2 Q w2 HLL.out HC2.out.1 HC2.out.2 (by omega) HRD.out).mono ?_
      rintro e w3 ⟨_, hyes, hb3⟩
      obtain ⟨A3, c3, ms, hms, rfl, ho3, hc3, hc4, hap⟩ := hyes _ _ HTK.out
      have HB3 := Lib.hid (HB2.out.trans (hb3.mono HB2.out.size))
      have hml : ms.length = k := by
        have := congrArg List.length hms
        rw [pds_length, pds_length, HL.out.1] at this
        exact this
      have hpl : (pds ls).length = k := by rw [pds_length, HL.out.1]
      have hpo : ∀ x ∈ ms, x.p.Ok := fun x hx => HOK.out x.p (by rw [← hms]; exact List.mem_map_of_mem hx)
      rw [hpl] at ho3 ⊢
      have HM := Lib.hid (show RdPc w3 w3.heap.size A3 ms from by
        rw [← hml] at ho3
        exact OwnP.rd ho3 (hap.ok hpo))
      have HML := Lib.hid hml
      have HMS := Lib.hid hms
      have hk3 : k ≤ 3000 := by have := HSM.out.many; have := HL.out.1; omega
      clear hyes hb3 hms ho3 hc3 hc4 hap hml hpl hpo
      go_wp2_with fail
      refine (rsame_any A ls k c A3 ms k c3 HL.out.1 HML.out hk3 w3 (HP.out w3 HB3.out) HM.out).mono ?_
      rintro e w4 ⟨rfl, hb4⟩
      have HB4 := Lib.hid (HB3.out.trans (hb4.mono HB3.out.size))
      rw [decide_eq_true HMS.out.symm]
      clear hb4 HM HML HMS
      go_wp2_with fail
      refine (K.size A ls k c w4 HL.out.1 HSM.out (HP.out w4 HB4.out)).mono ?_
      rintro e w5 ⟨rfl, hb5⟩
      have HB5 := Lib.hid (HB4.out.trans (hb5.mono HB4.out.size))
      rw [HSS.out]
      clear hb5
      go_wp2_with fail
      go_ret
      exact ⟨rfl, HB5.out⟩
    · obtain ⟨R, hRR⟩ : ∃ R, refC (pds ls) = R := ⟨_, rfl⟩
      obtain ⟨A2, c2, rfl⟩ := hno R hRR (by rw [← hRR]; exact hR)
      have hR0 : ¬ (R : Int) = 0 := by rw [hRR] at hR; omega
      clear hyes hno hR hS hRR
      go_wp2_with fail
      go_ret
      exact ⟨rfl, HB2.out⟩
  · have e : lightC ls = false := by simpa using hli
    rw [e] at CL
    clear hl hk hc hr hli hid e
    go_enter Try.func5, Try.ntmps5
    go_wp2_with fail
    refine C0.out.mono ?_
    rintro e w1 ⟨rfl, hb1⟩
    have HB1 := Lib.hid hb1
    clear hb1 C0
    go_wp2_with fail
    refine (CL.out _ HB1.out).mono ?_
    rintro e w1' ⟨rfl, rfl⟩
    clear CL
    go_wp2_with fail
    go_ret
    exact ⟨rfl, HB1.out⟩
end Go.Proofs.Ytoiiiccichkgpaa
