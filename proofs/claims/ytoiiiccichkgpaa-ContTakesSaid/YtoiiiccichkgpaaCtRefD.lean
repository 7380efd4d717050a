/- The reference's Lay (cellarageref11). No statement of the seat is proved here. -/
import Derived.Test.YtoiiiccichkgpaaCtMF
import Derived.Test.YtoiiiccichkgpaaRefSealN
namespace Go.Proofs.Ytoiiiccichkgpaa
open Go.RowKit
set_option linter.unusedVariables false
set_option linter.unusedSimpArgs false

/-- What is laid when j rows of the table stand; when j pieces' bytes stand behind it. -/
def headC (id : Nat) (l : List PcD) (j : Nat) : List UInt8 := be 4 id ++ be 2 l.length ++ rowsC (l.take j)
def tailC (id : Nat) (l : List PcD) (j : Nat) : List UInt8 := be 4 id ++ be 2 l.length ++ rowsC l ++ datasC (l.take j)
theorem headC_zero (id : Nat) (l : List PcD) : headC id l 0 = be 4 id ++ be 2 l.length := by simp [headC, rowsC]
theorem rowsC_snoc (l : List PcD) (p : PcD) : rowsC (l ++ [p]) = rowsC l ++ rowC p := by simp [rowsC]
theorem datasC_snoc (l : List PcD) (p : PcD) : datasC (l ++ [p]) = datasC l ++ p.data := by simp [datasC]
theorem headC_step {id : Nat} {l : List PcD} {j : Nat} (hj : j < l.length) : headC id l (j + 1) = headC id l j ++ l[j].s ++ be 4 l[j].n ++ be 2 l[j].data.length := by
  unfold headC
  rw [List.take_succ_eq_append_getElem hj, rowsC_snoc]
  unfold rowC
  simp only [List.append_assoc]
theorem headC_end (id : Nat) (l : List PcD) : headC id l l.length = tailC id l 0 := by simp [headC, tailC, datasC]
theorem headC_length {id : Nat} {l : List PcD} {j : Nat} (h : ∀ p ∈ l, p.Ok) (hj : j ≤ l.length) : (headC id l j).length = 6 + 38 * j := by
  unfold headC
  rw [List.length_append, List.length_append, be_length, be_length, rowsC_length fun p hp => h p (List.mem_of_mem_take hp), List.length_take]
  omega
theorem tailC_step {id : Nat} {l : List PcD} {j : Nat} (hj : j < l.length) : tailC id l (j + 1) = tailC id l j ++ l[j].data := by
  unfold tailC
  rw [List.take_succ_eq_append_getElem hj, datasC_snoc]
  simp only [List.append_assoc]
theorem tailC_end (id : Nat) (l : List PcD) : tailC id l l.length = bodyC id l := by simp [tailC, bodyC]
theorem datasC_take_le (l : List PcD) (j : Nat) : (datasC (l.take j)).length ≤ (datasC l).length := by
  conv => rhs; rw [← List.take_append_drop j l]
  unfold datasC
  rw [List.flatMap_append, List.length_append]
  omega
theorem tailC_length {id : Nat} {l : List PcD} (j : Nat) (h : ∀ p ∈ l, p.Ok) : (tailC id l j).length + 4 ≤ sizeC l := by
  rw [← bodyC_length (id := id) h]
  have := datasC_take_le l j
  simp only [tailC, bodyC, List.length_append]
  omega
/-- The Sum's bytes of a piece, as they lie. -/
theorem RdPc.sum {w : World} {B : Nat} {A : Option Addr} {ls : List PieceT} (h : RdPc w B A ls) {j : Nat} (hj : j < ls.length) : ∃ g off, A = some ⟨g, off, none⟩ ∧ Rd w B (some ⟨g, off + j * 34, none⟩) ls[j].p.s ∧ w.cell? ⟨g, off + j * 34 + 32, none⟩ = some (.int .u32 ls[j].p.n) ∧ w.cell? ⟨g, off + j * 34 + 33, none⟩ = some (.slice ls[j].adr ls[j].p.data.length ls[j].cap) ∧ (ls[j]).Ok w B := by
  obtain ⟨g, off, e, hg, hr, ho⟩ := h.at_ hj
  exact ⟨g, off, e, fun _ => ⟨g, off + j * 34, rfl, hg, fun i hi => hr i _ (pcs_byte hi)⟩, hr 32 _ (pcs_num ho.ok), hr 33 _ (pcs_data ho.ok), ho⟩
theorem pds_ok {w : World} {B : Nat} {A : Option Addr} {ls : List PieceT} (h : RdPc w B A ls) : ∀ p ∈ pds ls, p.Ok := fun p hp => by
  obtain ⟨x, hx, rfl⟩ := List.mem_map.1 hp
  exact (h.each x hx).ok
set_option maxRecDepth 100000 in
set_option maxHeartbeats 2000000 in
theorem rlay_no (A : Option Addr) (ls : List PieceT) (k c id R : Nat) (hl : ls.length = k) (hs : SmallC ls) (w : World) (hr : RdPc w w.heap.size A ls) (hR : refC (pds ls) = R) (h0 : R ≠ 0) :
    Calls Try.prog 12 #[.int .u32 id, .slice A k c] w fun e w' => e = .returned (.tuple #[.slice none 0 0, .int .i64 R]) ∧ Below w.heap.size w w' := by
  have HRF := Lib.hid (rrefused_any A ls k c hl hs w hr)
  rw [hR] at HRF
  have hne : ((R : Int) != 0) = true := by simp; omega
  clear hr hs hl hR h0
  go_enter Try.func12, Try.ntmps12
  go_wp2_with (go_at_call 26; refine HRF.out.mono ?_; rintro e w' ⟨rfl, hb⟩)
  go_ret2
  exact ⟨rfl, hb⟩
set_option maxRecDepth 100000 in
set_option maxHeartbeats 2000000 in
theorem rlay_yes (A : Option Addr) (ls : List PieceT) (k c id : Nat) (hid : id < 4294967296) (hl : ls.length = k) (hs : SmallC ls) (w : World) (hr : RdPc w w.heap.size A ls) (hR : refC (pds ls) = 0) :
    Calls Try.prog 12 #[.int .u32 id, .slice A k c] w fun e w' => ∃ A' c', e = .returned (.tuple #[.slice A' (sizeC (pds ls)) c', .int .i64 0]) ∧ Own w' w.heap.size A' c' (sizeC (pds ls)) (layC id (pds ls)) ∧ Below w.heap.size w w' := by
  obtain ⟨i0, hi, hz0, hz1, hz2⟩ := info_parts info_u8
  have HI := Lib.hid (And.intro hi (And.intro hz0 (And.intro hz1 hz2)))
  obtain ⟨q1, q2, q3, _⟩ := refC_zero hR
  have HRF := Lib.hid (rrefused_any A ls k c hl hs w hr)
  rw [hR] at HRF
  obtain ⟨ps, hps⟩ : ∃ ps, pds ls = ps := ⟨_, rfl⟩
  have hpl : ps.length = k := by rw [← hps, pds_length, hl]
  have hk : k ≤ 1000 := by rw [pds_length, hl] at q2; exact q2
  have hok : ∀ p ∈ ps, p.Ok := hps ▸ pds_ok hr
  obtain ⟨fa, hfa⟩ : ∃ f : Nat → Option Addr, ∀ (j : Nat) (hj : j < ls.length), ls[j].adr = f j := ⟨fun j => (ls.getD j default).adr, fun j hj => by simp [hj]⟩
  obtain ⟨fc, hfc⟩ : ∃ f : Nat → Nat, ∀ (j : Nat) (hj : j < ls.length), ls[j].cap = f j := ⟨fun j => (ls.getD j default).cap, fun j hj => by simp [hj]⟩
  have HAT := Lib.hid (show ∀ W, Below w.heap.size w W → ∀ (j : Nat) (hj : j < ps.length), ∃ g off, A = some ⟨g, off, none⟩ ∧ ps[j].s.length = 32 ∧ ps[j].n < 4294967296 ∧ ps[j].data.length ≤ 4096 ∧ Rd W W.heap.size (some ⟨g, off + j * 34, none⟩) ps[j].s ∧ W.cell? ⟨g, off + j * 34 + 32, none⟩ = some (.int .u32 ps[j].n) ∧ W.cell? ⟨g, off + j * 34 + 33, none⟩ = some (.slice (fa j) ps[j].data.length (fc j)) ∧ Rd W W.heap.size (fa j) ps[j].data from fun W hb j hj => by
    have hj2 : j < ls.length := by rw [hl, ← hpl]; exact hj
    obtain ⟨g, off, e, h1, h2, h3, h4⟩ := (hr.below hb).sum hj2
    have e2 : ps[j] = ls[j].p := by subst hps; exact pds_get hj2
    have hm : ls[j].p ∈ pds ls := List.mem_map.2 ⟨_, List.getElem_mem hj2, rfl⟩
    rw [e2, ← hfa j hj2, ← hfc j hj2]
    exact ⟨g, off, e, h4.ok.s, h4.ok.n, (q1 _ hm).2, h1.more hb.size, h2, h3, h4.rd.more hb.size⟩)
  have HSZ := Lib.hid (show sizeC ps ≤ 65536 by rw [← hps]; exact q3)
  have HOK := Lib.hid hok
  have HPL := Lib.hid hpl
  have HP1 := Lib.hid (fun W => refput_any id 4 W (by omega) (by omega))
  have HP2 := Lib.hid (fun W => refput_any k 2 W (by omega) (by omega))
  rw [hps]
  have id64 : IntKind.u64.wrap (id : Int) = (id : Int) := by rw [IntKind.wrap_u64]; omega
  have k64 : IntKind.u64.wrap (k : Int) = (k : Int) := by rw [IntKind.wrap_u64]; omega
  clear hi hz0 hz1 hz2 hl hs hr hR q1 q2 q3 hps hpl hok hfa hfc
  go_enter Try.func12, Try.ntmps12
  go_wp2_with (go_at_call 26; refine HRF.out.mono ?_; rintro e w1 ⟨rfl, hb⟩; have HB1 := Lib.hid hb; clear hb)
  refine (HP1.out _).mono ?_
  rintro e w2 ⟨A1, k1, rfl, ho, hb⟩
  have H1 := Lib.hid (show Rw w w2 A1 k1 4 (be 4 id) from ⟨ownsRow_base ho HB1.out.size, HB1.out.trans (hb.mono HB1.out.size)⟩)
  clear ho hb HP1 HRF HB1
  go_wp2_with fail
  refine (HP2.out _).mono ?_
  rintro e w3 ⟨A2, k2, rfl, ho, hb⟩
  have H2 := Lib.hid (H1.out.on hb)
  have HR2 := Lib.hid (Rd.of_own ho)
  clear ho hb HP2 H1
  go_wp2_with (at_builtin; refine wpList_append_more _ rfl (.tmp 18) (.tmp 22) 26 rfl w.heap.size 5 i0 Try.underlying26 HI.out.1 HI.out.2.1 HI.out.2.2.1 HI.out.2.2.2 (.slice A1 4 k1) 4 (bv (be 4 id)) rfl H2.out.1 _ A2 k2 2 (be 2 k) rfl (be_length 2 _) HR2.out ?_ ?_ ?_)
  case _ => rw [be_length]; omega
  case _ => exact H2.out.2.size
  intro A3 k3 w4 ho hg
  have H3 := Lib.hid (H2.out.app (b := be 2 k) ho hg)
  clear ho hg HR2 H2
  go_wp2_with fail
  go_loopw [7, 8] (fun v i wr => ∃ (j n : Nat) (X : Option Addr) (z : Nat), j ≤ k ∧ i = .int .i64 j ∧ v = .slice X n z ∧ n ≤ 40000 ∧ Hid (n = 6 + 38 * j) ∧ Hid (Rw w wr X z n (headC id ps j))) (fun _ i _ => k - (intOf i).toNat)
  case atStart => exact ⟨0, 6, A3, k3, Nat.zero_le _, rfl, rfl, by omega, Lib.hid rfl, Lib.hid (by rw [headC_zero, HPL.out]; exact H3.out)⟩
  case round =>
    clear H3
    obtain ⟨j, n, X, z, hj, rfl, rfl, hn, HN, HW⟩ := hrel
    by_cases hlt : j < k
    · have hjl : j < ps.length := by rw [HPL.out]; exact hlt
      have HST := Lib.hid (headC_step (id := id) hjl)
      obtain ⟨g, off, hA, hs32, hnn, hd, hrd, hc32, hc33, _⟩ := HAT.out wr HW.out.2 j hjl
      have HCC := Lib.hid (show ∀ W, Below w.heap.size w W → W.cell? ⟨g, off + j * 34 + 32, none⟩ = some (.int .u32 ps[j].n) ∧ W.cell? ⟨g, off + j * 34 + 33, none⟩ = some (.slice (fa j) ps[j].data.length (fc j)) from fun W hW => by
        obtain ⟨g2, off2, hA2, _, _, _, _, h1, h2, _⟩ := HAT.out W hW j hjl
        rw [hA] at hA2
        injection hA2 with e
        injection e with e1 e2 _
        subst e1 e2
        exact ⟨h1, h2⟩)
      obtain ⟨S, hS⟩ : ∃ S, ps[j].s = S := ⟨_, rfl⟩
      obtain ⟨N, hN⟩ : ∃ N, ps[j].n = N := ⟨_, rfl⟩
      obtain ⟨D, hD⟩ : ∃ D, ps[j].data.length = D := ⟨_, rfl⟩
      rw [hS, hN, hD] at HST
      rw [hN, hD] at HCC
      rw [hS] at hs32 hrd
      rw [hN] at hnn
      rw [hD] at hd
      have HP3 := Lib.hid (fun W => refput_any N 4 W (by omega) (by omega))
      have HP4 := Lib.hid (fun W => refput_any D 2 W (by omega) (by omega))
      have N64 : IntKind.u64.wrap (N : Int) = (N : Int) := by rw [IntKind.wrap_u64]; omega
      have D64 : IntKind.u64.wrap (D : Int) = (D : Int) := by rw [IntKind.wrap_u64]; omega
      have HRD := Lib.hid hrd
      have HS32 := Lib.hid hs32
      clear hc32 hc33 hS hN hD hrd hs32
      have hi1 : (0 : Int) ≤ (j : Int) := by omega
      have hi2 : (j : Int) < (k : Int) := by omega
      subst hA
      go_wp2_with (at_builtin; refine wpList_append_more _ rfl (.tmp 30) (.tmp 36) 26 rfl w.heap.size 5 i0 Try.underlying26 HI.out.1 HI.out.2.1 HI.out.2.2.1 HI.out.2.2.2 (.slice X n z) n (bv (headC id ps j)) rfl HW.out.1 _ (some ⟨g, off + j * 34, none⟩) 32 32 S rfl HS32.out HRD.out ?_ ?_ ?_)
      case _ => rw [HS32.out]; omega
      case _ => exact HW.out.2.size
      intro A4 k4 w5 ho hg
      obtain ⟨L4, hL4⟩ : ∃ L, headC id ps j ++ S = L := ⟨_, rfl⟩
      have H4 := Lib.hid (HW.out.app (b := S) ho hg)
      rw [hL4] at H4 HST
      clear ho hg HRD HW hL4
      obtain ⟨c32, c33⟩ := HCC.out w5 H4.out.2
      go_wp2_with fail
      refine (HP3.out _).mono ?_
      rintro e w6 ⟨A5, k5, rfl, ho, hb⟩
      have H5 := Lib.hid (H4.out.on hb)
      have HR5 := Lib.hid (Rd.of_own ho)
      clear ho hb HP3 H4 c32 c33
      go_wp2_with (at_builtin; refine wpList_append_more _ rfl (.tmp 38) (.tmp 46) 26 rfl w.heap.size 5 i0 Try.underlying26 HI.out.1 HI.out.2.1 HI.out.2.2.1 HI.out.2.2.2 (.slice A4 (n + 32) k4) (n + 32) (bv (L4)) rfl H5.out.1 _ A5 k5 4 (be 4 N) rfl (be_length 4 _) HR5.out ?_ ?_ ?_)
      case _ => rw [be_length]; omega
      case _ => exact H5.out.2.size
      intro A6 k6 w7 ho hg
      obtain ⟨L6, hL6⟩ : ∃ L, L4 ++ be 4 N = L := ⟨_, rfl⟩
      have H6 := Lib.hid (H5.out.app (b := be 4 N) ho hg)
      rw [hL6] at H6 HST
      clear ho hg HR5 H5 hL6
      obtain ⟨c32, c33⟩ := HCC.out w7 H6.out.2
      go_wp2_with fail
      refine (HP4.out _).mono ?_
      rintro e w8 ⟨A7, k7, rfl, ho, hb⟩
      have H7 := Lib.hid (H6.out.on hb)
      have HR7 := Lib.hid (Rd.of_own ho)
      clear ho hb HP4 H6 c32 c33
      go_wp2_with (at_builtin; refine wpList_append_more _ rfl (.tmp 48) (.tmp 56) 26 rfl w.heap.size 5 i0 Try.underlying26 HI.out.1 HI.out.2.1 HI.out.2.2.1 HI.out.2.2.2 (.slice A6 (n + 32 + 4) k6) (n + 32 + 4) (bv (L6)) rfl H7.out.1 _ A7 k7 2 (be 2 D) rfl (be_length 2 _) HR7.out ?_ ?_ ?_)
      case _ => rw [be_length]; omega
      case _ => exact H7.out.2.size
      intro A8 k8 w9 ho hg
      have H8 := Lib.hid (H7.out.app (b := be 2 D) ho hg)
      rw [← HST.out] at H8
      clear ho hg HR7 H7 HCC
      go_wp2_with fail
      go_roundw
      case rel => exact ⟨j + 1, n + 32 + 4 + 2, A8, k8, by omega, by go_num, rfl, by have := HN.out; omega, Lib.hid (by have := HN.out; omega), H8⟩
      case measure => simp [intOf]; omega
    · obtain rfl : j = k := by omega
      have HW2 := Lib.hid (show Rw w wr X z n (tailC id ps 0) by rw [← headC_end, HPL.out]; exact HW.out)
      clear HW
      have HNN := Lib.hid (show n = (tailC id ps 0).length by have := HW2.out.1.1; rw [bv_length] at this; omega)
      go_wp2_with fail
      go_loopw [7, 9] (fun v i wq => ∃ (p m : Nat) (Y : Option Addr) (y : Nat), p ≤ j ∧ i = .int .i64 p ∧ v = .slice Y m y ∧ m ≤ 65536 ∧ Hid (m = (tailC id ps p).length) ∧ Hid (Rw w wq Y y m (tailC id ps p))) (fun _ i _ => j - (intOf i).toNat)
      case atStart => exact ⟨0, n, X, z, Nat.zero_le _, rfl, rfl, by omega, HNN, HW2⟩
      case round =>
        clear HNN HW2
        obtain ⟨p, m, Y, y, hp, rfl, rfl, hm, HM, HV⟩ := hrel
        by_cases hlp : p < j
        · have hpl : p < ps.length := by rw [HPL.out]; exact hlp
          have HST := Lib.hid (tailC_step (id := id) hpl)
          obtain ⟨g, off, hA, _, _, hd, _, _, hc33, hrd⟩ := HAT.out wr HV.out.2 p hpl
          have HBD := Lib.hid (show m + ps[p].data.length ≤ 65536 by
            have h1 := tailC_length (id := id) (p + 1) HOK.out
            rw [HST.out, List.length_append, ← HM.out] at h1
            have := HSZ.out
            omega)
          have HNX := Lib.hid (show m + ps[p].data.length = (tailC id ps (p + 1)).length by rw [HST.out, List.length_append, ← HM.out])
          obtain ⟨D, hD⟩ : ∃ D, ps[p].data = D := ⟨_, rfl⟩
          obtain ⟨d, hd2⟩ : ∃ d, D.length = d := ⟨_, rfl⟩
          rw [hD] at HST HBD HNX hrd hc33 hd
          rw [hd2] at HBD HNX hc33 hd
          have HD := Lib.hid hd2
          have HRD := Lib.hid hrd
          have hbd := HBD.out
          clear hrd hD hd2 HM HBD
          have hi1 : (0 : Int) ≤ (p : Int) := by omega
          have hi2 : (p : Int) < (j : Int) := by omega
          subst hA
          go_wp2_with (at_builtin; refine wpList_append_more _ rfl (.tmp 64) (.tmp 69) 26 rfl w.heap.size 5 i0 Try.underlying26 HI.out.1 HI.out.2.1 HI.out.2.2.1 HI.out.2.2.2 (.slice Y m y) m (bv (tailC id ps p)) rfl HV.out.1 _ (fa p) (fc p) d D rfl HD.out HRD.out ?_ ?_ ?_)
          case _ => rw [HD.out]; omega
          case _ => exact HV.out.2.size
          intro A4 k4 w5 ho hg
          have H4 := Lib.hid (HV.out.app (b := D) ho hg)
          rw [← HST.out] at H4
          clear ho hg HRD HV
          go_wp2_with fail
          go_roundw
          case rel => exact ⟨p + 1, m + d, A4, k4, by omega, by go_num, rfl, hbd, HNX, H4⟩
          case measure => simp [intOf]; omega
        · obtain rfl : p = j := by omega
          have HV2 := Lib.hid (show Rw w wr Y y m (bodyC id ps) by rw [← tailC_end, HPL.out]; exact HV.out)
          have HLN := Lib.hid (show (bodyC id ps).length = m ∧ m + 4 = sizeC ps by
            have h1 : (bodyC id ps).length = m := by rw [HM.out, ← HPL.out, tailC_end]
            exact ⟨h1, by rw [← h1]; exact bodyC_length HOK.out⟩)
          have HSL := Lib.hid (refseal_any Y (bodyC id ps) y m wr HLN.out.1 (Rd.of_own HV2.out.1) (by omega))
          clear HV HM HAT
          go_wp2_with fail
          refine HSL.out.mono ?_
          rintro e w5 ⟨A5, k5, rfl, ho, hb⟩
          have HF := Lib.hid (And.intro ho hb)
          clear ho hb
          go_wp2_with fail
          go_ret2
          refine ⟨A5, k5, by rw [← HLN.out.2]; rfl, ?_, HV2.out.2.trans (HF.out.2.mono HV2.out.2.size)⟩
          rw [← HLN.out.2]
          exact HF.out.1.base HV2.out.2.size
end Go.Proofs.Ytoiiiccichkgpaa
