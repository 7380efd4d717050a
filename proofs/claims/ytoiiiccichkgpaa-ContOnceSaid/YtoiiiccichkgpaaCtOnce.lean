/- The walk of ContOnce, told from what the package does. No statement of the seat is proved here. -/
import Derived.Test.YtoiiiccichkgpaaCtLays
namespace Go.Proofs.Ytoiiiccichkgpaa
open Go.RowKit
set_option linter.unusedVariables false
set_option linter.unusedSimpArgs false

/-- A container's pieces are few. -/
theorem small_ref {ls : List PieceT} (h : refC (pds ls) = 0) : SmallC ls := by
  obtain ⟨_, h1, h2, _⟩ := refC_zero h
  rw [pds_length] at h1
  exact ⟨by omega, by omega⟩
set_option maxRecDepth 100000 in
set_option maxHeartbeats 4000000 in
theorem once_walk (K : ContsOk) (A : Option Addr) (k c : Nat) (b : List UInt8) (hl : b.length = k) (hk : k ≤ c) (hc : c ≤ maxLen) (w : World) (hr : Rd w w.heap.size A b) :
    Calls Try.prog 6 #[.slice A k c] w fun e w' => e = .returned (.bool true) ∧ Below w.heap.size w w' := by
  have C0 := Lib.hid (shown_any K w)
  by_cases hbig : 100000 < k
  · have hbi : (100000 : Int) < (k : Int) := by omega
    clear hl hk hc hr hbig
    go_enter Try.func6, Try.ntmps6
    go_wp2_with fail
    refine C0.out.mono ?_
    rintro e w1 ⟨rfl, hb1⟩
    go_wp2_with fail
    go_ret
    exact ⟨rfl, hb1⟩
  · have hbi : ¬ (100000 : Int) < (k : Int) := by omega
    have HL := Lib.hid (And.intro hl (And.intro hk (And.intro hc (show k ≤ 100000 by omega))))
    have HR := Lib.hid hr
    clear hl hk hc hr hbig
    go_enter Try.func6, Try.ntmps6
    go_wp2_with fail
    refine C0.out.mono ?_
    rintro e w1 ⟨rfl, hb1⟩
    have HB1 := Lib.hid hb1
    clear hb1 C0
    go_wp2_with fail
    refine (K.take A k c b w1 HL.out.1 HL.out.2.1 HL.out.2.2.1 HL.out.2.2.2 ((HR.out.below HB1.out).more HB1.out.size)).mono ?_
    rintro e w2 ⟨hno, hyes, hb2⟩
    have HB2 := Lib.hid (HB1.out.trans (hb2.mono HB1.out.size))
    clear hb2 hbi
    rcases takeC_cases b with ⟨id, l, ht, hR, hlay⟩ | ht
    · obtain ⟨A3, c3, ms, hms, rfl, ho3, hc3, hc4, hap⟩ := hyes _ _ ht
      obtain ⟨hid, hok, _, _⟩ := takeC_ok ht
      have hml : ms.length = l.length := by rw [← hms, pds_length]
      have hpo : ∀ x ∈ ms, x.p.Ok := fun x hx => hok x.p (by rw [← hms]; exact List.mem_map_of_mem hx)
      have HM := Lib.hid (show RdPc w2 w2.heap.size A3 ms from by
        rw [← hml] at ho3
        exact OwnP.rd ho3 (hap.ok hpo))
      obtain ⟨m, hm⟩ : ∃ m, l.length = m := ⟨_, rfl⟩
      rw [hm] at hml hc3 ⊢
      rw [← hms] at hR
      have HSM := Lib.hid (small_ref hR)
      have HI := Lib.hid (And.intro hid (And.intro hml (And.intro hc3 (And.intro hc4 hR))))
      have HB := Lib.hid (show layC id (pds ms) = b by rw [hms]; exact hlay)
      have HOK := Lib.hid (show ∀ p ∈ pds ms, p.Ok by rw [hms]; exact hok)
      clear hno hyes ht hlay ho3 hc3 hc4 hap hid hok hml hpo hm hR hms
      go_wp2_with fail
      refine (K.lay A3 ms m c3 id w2 HI.out.1 HI.out.2.1 HI.out.2.2.1 HI.out.2.2.2.1 HSM.out HM.out).mono ?_
      rintro e w3 ⟨hy, _, hb3⟩
      obtain ⟨A4, c4, t, rfl, ho4, _⟩ := hy HI.out.2.2.2.2
      have HB3 := Lib.hid (HB2.out.trans (hb3.mono HB2.out.size))
      have s1 := str_row (layC_length (id := id) (l := pds ms) HOK.out) ho4 w3 (Below.refl _ _)
      have s2 := HR.out.str k c HL.out.1 w3 HB3.out
      obtain ⟨S, hS⟩ : ∃ S, sizeC (pds ms) = S := ⟨_, rfl⟩
      rw [hS, HB.out] at s1
      rw [hS]
      clear hy hb3 ho4 hS HM
      go_wp2_with fail
      go_ret
      exact ⟨rfl, HB3.out⟩
    · obtain ⟨A2, c2, rfl⟩ := hno ht
      clear hno hyes ht
      go_wp2_with fail
      go_ret
      exact ⟨rfl, HB2.out⟩
end Go.Proofs.Ytoiiiccichkgpaa
