/- The reference's Put of package vault's statements (cellarageref12). No statement of the seat is proved here. -/
import Derived.Test.YthbgcffnnholeaaVtRefA
import Derived.Test.YthbgcffnnholeaaVtKit
import Derived.Test.YthbgcffnnholeaaPutRow
import Derived.StillTailTactics
namespace Go.Proofs.Ythbgcffnnholeaa
open Go.RowKit
set_option linter.unusedVariables false
set_option linter.unusedSimpArgs false

section
variable {w0 w : World} {s : Addr} {N : Nat → Prop} {S : DS}
set_option maxRecDepth 100000 in
set_option maxHeartbeats 2000000 in
theorem rvput_arg (V : VS) (at_ : Int) (b : ByteArray) (ha : at_ < 0 ∨ (V.n : Int) ≤ at_) (w : World) :
    Calls Try.prog 17 #[rvv s V, .int .i64 at_, .string b] w fun x w' => x = .returned (.int .i64 1) ∧ Below w.heap.size w w' := by
  unfold rvv
  obtain ⟨V1, V2, V3⟩ := V
  simp only at *
  have hb : Below w.heap.size w (w.alloc (.cells #[.pointer (some s), .int .i64 V1, .int .i64 V2, .int .i64 V3] 37)) := (Below.refl _ _).alloc (Nat.le_refl _) _
  have HB := Lib.hid hb
  clear hb
  have ha : at_ < 0 ∨ ((¬ at_ < 0) ∧ (V3 : Int) ≤ at_) := by omega
  rcases ha with h1 | ⟨h1, h2⟩ <;>
    (go_enter Try.func17, Try.ntmps17
     go_wp2
     go_ret
     exact ⟨rfl, HB.out⟩)
set_option maxRecDepth 100000 in
set_option maxHeartbeats 2000000 in
theorem rvput_long (V : VS) (hV : 1 ≤ V.each ∧ V.each ≤ 16384) (t : Nat) (ht : t < V.n) (b : ByteArray) (n : Nat) (hl : b.size = n) (hn : V.room < n) (w : World) :
    Calls Try.prog 17 #[rvv s V, .int .i64 t, .string b] w fun x w' => x = .returned (.int .i64 4) ∧ Below w.heap.size w w' := by
  obtain ⟨wb, hwb⟩ : ∃ wb, w.alloc (.cells #[.pointer (some s), .int .i64 V.from_, .int .i64 V.each, .int .i64 V.n] 37) = wb := ⟨_, rfl⟩
  have hb0 : Below w.heap.size w wb := hwb ▸ (Below.refl w.heap.size w).alloc (Nat.le_refl _) _
  obtain ⟨rb, hrb⟩ : ∃ rb, w.heap.size = rb := ⟨_, rfl⟩
  have hbk : Blk wb rb 37 #[.pointer (some s), .int .i64 V.from_, .int .i64 V.each, .int .i64 V.n] := by rw [← hwb, ← hrb]; exact Blk.new w _ _
  have KR := rvroom_any s V hV.1 hV.2 wb
  unfold rvv at *
  have hm : ((V.room : Nat) : Int) < (n : Int) := by omega
  obtain ⟨V1, V2, V3⟩ := V
  simp only at *
  generalize VS.room _ = m at *
  have KR := Lib.hid KR
  have HB := Lib.hid hb0
  have HW := Lib.hid (And.intro hwb hrb)
  have hg0 := hbk.cell 0
  have hg1 := hbk.cell 1
  have hg2 := hbk.cell 2
  have hg3 := hbk.cell 3
  have h1 : ¬ (t : Int) < 0 := by omega
  have h2 : ¬ (V3 : Int) ≤ (t : Int) := by omega
  have hm2 : m < n := by omega
  clear hb0 hwb hrb hbk hn hV
  go_enter Try.func17, Try.ntmps17
  go_upto_region 1 with fail
  rw [HW.out.1, HW.out.2]
  go_wp2_with fail
  (with_reducible refine KR.out.mono ?_)
  rintro e w2 ⟨rfl, hb2⟩
  have H2 := Lib.hid (HB.out.trans (hb2.mono HB.out.size))
  clear hb2
  go_wp2_with fail
  go_ret
  exact ⟨rfl, H2.out⟩
set_option maxRecDepth 100000 in
set_option maxHeartbeats 2000000 in
theorem rvput_go (h : Turned Rst w0 s N w S) (V : VS) (hV : V.Fits S.n) (hs : S.n ≤ 16384) (t : Nat) (ht : t < V.n) (b : List UInt8) (n : Nat) (hl : b.length = n) (hn : n ≤ V.room) (hf : FewBy (nSec (n + 4)) S) :
    Calls Try.prog 17 #[rvv s V, .int .i64 t, .string ⟨b.toArray⟩] w fun x w' => x = .returned (.int .i64 ((putL (nSec (n + 4)) S (V.first t) (headB b)).2 : Nat)) ∧ Turned Rst w0 s N w' (putL (nSec (n + 4)) S (V.first t) (headB b)).1 := by
  obtain ⟨wb, hwb⟩ : ∃ wb, w.alloc (.cells #[.pointer (some s), .int .i64 V.from_, .int .i64 V.each, .int .i64 V.n] 37) = wb := ⟨_, rfl⟩
  have hb0 : Below w.heap.size w wb := hwb ▸ (Below.refl w.heap.size w).alloc (Nat.le_refl _) _
  obtain ⟨rb, hrb⟩ : ∃ rb, w.heap.size = rb := ⟨_, rfl⟩
  have hbk : Blk wb rb 37 #[.pointer (some s), .int .i64 V.from_, .int .i64 V.each, .int .i64 V.n] := by rw [← hwb, ← hrb]; exact Blk.new w _ _
  have KR := rvroom_any s V hV.each.1 hV.each.2 wb
  obtain ⟨F, hF1, hF2, hF3⟩ := h
  have hlt := rst_lt hF1
  have hFb := rst_keep hF1 fun g hg => hb0.block g (hlt g hg)
  have HEND := Lib.hid (show ∀ w' S', Turned Rst wb s F w' S' → Turned Rst w0 s N w' S' from fun w' S' ht => Turned.step hF2 (hF3.trans (Only.of_below (F := F) hb0) hF2) ht)
  have HRF := Lib.hid (show ∀ w', Only F wb w' → Blk w' rb 37 #[.pointer (some s), .int .i64 V.from_, .int .i64 V.each, .int .i64 V.n] from fun w' ho => hbk.same (ho.block rb hbk.lt fun hf => by have := hlt rb hf; omega))
  have HT := Lib.hid (show Turned Rst wb s F wb S from Turned.refl hFb)
  unfold rvv at *
  obtain ⟨k, hk⟩ : ∃ k, nSec (n + 4) = k := ⟨_, rfl⟩
  obtain ⟨a, ha⟩ : ∃ a, V.first t = a := ⟨_, rfl⟩
  have hroom : V.room ≤ 2097152 - 4 := by unfold VS.room; have := hV.each.2; omega
  have hak : ∀ j, j < k → a + j < S.n := fun j hj => by
    rw [← ha]
    refine hV.in_ ht ?_
    rw [← hk] at hj
    unfold nSec at hj
    unfold VS.room at hn
    have := hV.each.1
    omega
  obtain ⟨R, hR⟩ : ∃ R, putL k S a (headB b) = R := ⟨_, rfl⟩
  rw [hk] at hf
  rw [hk, ha, hR]
  have hP : ∃ P : Nat, (t : Int) * (V.each : Int) = (P : Int) ∧ V.from_ + P = a ∧ P ≤ a := ⟨t * V.each, by push_cast; rfl, by rw [← ha]; rfl, by rw [← ha]; unfold VS.first; omega⟩
  obtain ⟨P, hP1, hP2, hP3⟩ := hP
  have hk1 : 1 ≤ k := by rw [← hk]; unfold nSec; omega
  have ha1 : a ≤ 16384 := by have := hak 0 (by omega); omega
  obtain ⟨M, hM⟩ : ∃ M, n + 4 = M := ⟨_, rfl⟩
  have HX := Lib.hid (show (headB b).length = M ∧ ∀ o, (headB b).drop o = (be 4 n ++ b).drop o from ⟨by rw [headB_length, hl, hM], fun o => by unfold headB; rw [hl]⟩)
  have HK := Lib.hid (show ∀ j : Nat, 128 * j < M ↔ j < k from fun j => by rw [← hk, ← hM]; unfold nSec; omega)
  have HAK := Lib.hid hak
  have HR := Lib.hid hR
  have HFW := Lib.hid (And.intro hf (And.intro hs hV))
  have hnm : ¬ ((V.room : Nat) : Int) < (n : Int) := by omega
  obtain ⟨x, hx⟩ : ∃ x, headB b = x := ⟨_, rfl⟩
  have hcat : (⟨(be 4 n).toArray⟩ : ByteArray) ++ ⟨b.toArray⟩ = ⟨x.toArray⟩ := by
    rw [ByteArray.mk_append_mk, ← hx]; unfold headB; rw [hl]
  rw [hx] at HX HR
  have KP := Lib.hid (show ∀ W : World, Calls Try.prog 39 #[.int .u64 n, .int .i64 4] W fun e w' => ∃ A' c', e = .returned (.slice A' 4 c') ∧ w'.ownsRow W.heap.size 5 1 (.slice A' 4 c') 4 (bv (be 4 n)) ∧ Below W.heap.size W w' from fun W => refput_any n 4 W (by omega) (by omega))
  obtain ⟨X, hXX⟩ : ∃ X : ByteArray, (⟨x.toArray⟩ : ByteArray) = X := ⟨_, rfl⟩
  obtain ⟨y, hy⟩ : ∃ y : ByteArray, (⟨(be 4 n).toArray⟩ : ByteArray) = y := ⟨_, rfl⟩
  obtain ⟨z, hz⟩ : ∃ z : ByteArray, (⟨b.toArray⟩ : ByteArray) = z := ⟨_, rfl⟩
  have hzs : z.size = n := by rw [← hz]; exact hl
  have hXs : X.size = M := by rw [← hXX]; exact HX.out.1
  have HEX := Lib.hid (show ∀ p e : Nat, X.extract p e = ⟨((x.take e).drop p).toArray⟩ from fun p e => by rw [← hXX, str_extract])
  have HY := Lib.hid hy
  have hov : ¬ 9223372036854775807 < y.size + n := by rw [← hy]; show ¬ _ < (be 4 n).length + n; rw [be_length]; omega
  rw [hXX, hy, hz] at hcat
  rw [hz]
  obtain ⟨V1, V2, V3⟩ := V
  simp only at *
  generalize VS.room _ = m at *
  have KR := Lib.hid KR
  have HW := Lib.hid (And.intro hwb hrb)
  have hg0 := hbk.cell 0
  have hg1 := hbk.cell 1
  have hg2 := hbk.cell 2
  have hg3 := hbk.cell 3
  have h1 : ¬ (t : Int) < 0 := by omega
  have h2 : ¬ (V3 : Int) ≤ (t : Int) := by omega
  have hn3 : n ≤ 2097148 := by omega
  have hM3 : M ≤ 2097152 := by omega
  have hnm2 : ¬ m < n := by omega
  have hwn : IntKind.u64.wrap (n : Int) = (n : Int) := by rw [IntKind.wrap_u64]; omega
  clear hb0 hwb hrb hbk hn hF1 hF2 hF3 hFb hlt hak hR hf hV hx hXX hy hz hl
  go_enter Try.func17, Try.ntmps17
  go_upto_region 1 with fail
  rw [HW.out.1, HW.out.2]
  go_wp2_with fail
  (with_reducible refine KR.out.mono ?_)
  rintro e w2 ⟨rfl, hb2⟩
  have H2 := Lib.hid (rst_on HT.out hb2)
  clear hb2
  go_wp2_with fail
  (with_reducible refine (KP.out w2).mono ?_)
  rintro e w3 ⟨A3, c3, rfl, ho3, hb3⟩
  have H3 := Lib.hid (rst_on H2.out hb3)
  have hcv : (convert 42 9 (.slice A3 4 c3)).run Try.prog w3 = .ok (.string y) w3 := by
    rw [← HY.out]
    exact conv_own (be_length 4 n) (Rd.of_own ho3)
  clear hb3 ho3 KR H2 HT
  go_wp2_with fail
  clear hcat hcv
  go_loopw [8] (fun i wr => ∃ j : Nat, j ≤ k ∧ i = .int .i64 ((128 * j : Nat) : Int) ∧ Hid (∃ T, Turned Rst wb s F wr T ∧ putL (k - j) T (a + j) (x.drop (128 * j)) = R ∧ FewBy (k - j) T ∧ T.n = S.n)) (fun i _ => k * 128 - (intOf i).toNat)
  case atStart => exact ⟨0, Nat.zero_le _, rfl, Lib.hid ⟨S, H3.out, by simpa using HR.out, by simpa using HFW.out.1, rfl⟩⟩
  case round =>
    clear H3
    obtain ⟨j, hj, rfl, hst⟩ := hrel
    obtain ⟨p, hp⟩ : ∃ p, 128 * j = p := ⟨_, rfl⟩
    have hpk := HK.out j
    rw [hp] at hpk hst ⊢
    have HP := Lib.hid hp
    by_cases hlt : j < k
    · have hpm : p < M := hpk.2 hlt
      obtain ⟨T, hT, hTR, hTf, hTn⟩ := hst.out
      obtain ⟨p2, hp2⟩ : ∃ p2 : Nat, p + 128 = p2 := ⟨_, rfl⟩
      obtain ⟨e, he1, he2, he3, he4⟩ : ∃ e : Nat, (if p2 < M then (p2 : Int) else (M : Int)) = (e : Int) ∧ p ≤ e ∧ e ≤ M ∧ ((x.take e).drop p) = ((x.drop p).take 128) := by
        by_cases hx : p2 < M
        · refine ⟨p2, if_pos (by omega), by omega, by omega, ?_⟩
          rw [List.drop_take]; congr 1; omega
        · refine ⟨M, if_neg (by omega), by omega, Nat.le_refl _, ?_⟩
          rw [List.take_of_length_le (by rw [HX.out.1]; exact Nat.le_refl _), List.take_of_length_le (by rw [List.length_drop, HX.out.1]; omega)]
      have hel : ((x.drop p).take 128).length = e - p := by rw [← he4, List.length_drop, List.length_take, HX.out.1]; omega
      obtain ⟨y1, hy1⟩ : ∃ y1, (x.drop p).take 128 = y1 := ⟨_, rfl⟩
      obtain ⟨q, hq⟩ : ∃ q, a + j = q := ⟨_, rfl⟩
      rw [hq] at hTR
      obtain ⟨k', hk'⟩ : ∃ k', k - j = k' + 1 := ⟨k - j - 1, by omega⟩
      rw [hk'] at hTR hTf
      have hqn : q < S.n := by rw [← hq]; exact HAK.out j hlt
      have hbk := HRF.out wr hT.only
      have KW := rst_write (rst_on hT (show Below wr.heap.size wr wr.drew from ⟨rfl, rfl, rfl, Nat.le_refl _, fun _ _ => rfl⟩)) hTf.few (q : Int) y1 (e - p) (by rw [← hy1]; exact hel)
      rw [← hy1, ← he4, ← HEX.out, he4, hy1] at KW
      have hel2 : y1.length = e - p := by rw [← hy1]; exact hel
      have hd2 : (x.drop p).drop 128 = x.drop (128 * (j + 1)) := by rw [List.drop_drop]; congr 1; omega
      have HGO := Lib.hid (show writeE T q (e - p) = 0 → putL (k - (j + 1)) (writeS T q y1) (a + (j + 1)) (x.drop (128 * (j + 1))) = R from fun h0 => by
        rw [putL_go (by rw [hy1, hel2]; exact h0), hy1, hd2] at hTR
        rw [show k - (j + 1) = k' by omega, show a + (j + 1) = q + 1 by omega]
        exact hTR)
      have HST := Lib.hid (show writeE T q (e - p) ≠ 0 → R = (writeS T q y1, writeE T q (e - p)) from fun h0 => by
        rw [putL_stop (by rw [hy1, hel2]; exact h0), hy1, hel2] at hTR
        exact hTR.symm)
      have HGR := Lib.hid (show FewBy (k - (j + 1)) (writeS T q y1) ∧ (writeS T q y1).n = S.n from by
        have hg := write_grow T q y1
        exact ⟨⟨by have := hTf.1; omega, by have := hTf.2; omega⟩, hg.1.trans hTn⟩)
      obtain ⟨ew, hew⟩ : ∃ ew, writeE T q (e - p) = ew := ⟨_, rfl⟩
      rw [hew] at KW HGO HST
      have KW := Lib.hid KW
      have k0 : wr.drew.cell? ⟨rb, 0, none⟩ = some (.pointer (some s)) := hbk.cell 0
      have k1 : wr.drew.cell? ⟨rb, 1, none⟩ = some (.int .i64 V1) := hbk.cell 1
      have k2 : wr.drew.cell? ⟨rb, 2, none⟩ = some (.int .i64 V2) := hbk.cell 2
      have s1 : (V1 : Int) + (P : Int) = (a : Int) := by omega
      have s2 : (a : Int) + (j : Int) = (q : Int) := by omega
      have s3 : (p : Int) + 128 = (p2 : Int) := by omega
      have d1 : (p : Int).tdiv 128 = (j : Int) := by rw [Int.tdiv_eq_ediv_of_nonneg (by omega)]; omega
      have hj3 : j ≤ 16384 := by omega
      have hp3 : p2 ≤ 2097280 := by omega
      have hq3 : q ≤ 16384 := by omega
      have wP : IntKind.i64.wrap (P : Int) = (P : Int) := by rw [IntKind.wrap_i64]; omega
      have wa : IntKind.i64.wrap (a : Int) = (a : Int) := by rw [IntKind.wrap_i64]; omega
      have wj : IntKind.i64.wrap (j : Int) = (j : Int) := by rw [IntKind.wrap_i64]; omega
      have wq : IntKind.i64.wrap (q : Int) = (q : Int) := by rw [IntKind.wrap_i64]; omega
      have wp2 : IntKind.i64.wrap (p2 : Int) = (p2 : Int) := by rw [IntKind.wrap_i64]; omega
      have z1 : (0 : Int) ≤ (p : Int) := by omega
      have z2 : (p : Int) ≤ (e : Int) := by omega
      have z3 : (e : Int) ≤ (M : Int) := by omega
      have z4 : (p : Int) < (M : Int) := by omega
      clear hst hT hTR hTf hTn hbk he4 hel hy1 hq hk' hp hpk hp2 hel2 hd2 hew
      go_wp2_with fail
      refine wp_region_still_tail 20 (by kernel_rfl) (by kernel_rfl) ?_
      simp only [List.take_succ_cons, List.take_zero, List.drop_succ_cons, List.drop_zero]
      repeat still_step
      refine wpStill_nil ?_
      change wpList _ _ _ _ _ wr.drew
      go_wp2_with fail
      (with_reducible refine KW.out.mono ?_)
      rintro e' w5 ⟨rfl, ht5⟩
      have H5 := Lib.hid ht5
      clear ht5 k0 k1 k2
      by_cases h0 : ew = 0
      · subst h0
        go_wp2_with fail
        go_roundw
        case rel => exact ⟨j + 1, by omega, by rw [show ((128 * (j + 1) : Nat) : Int) = (p2 : Int) by have := HP.out; omega], Lib.hid ⟨_, H5.out, HGO.out trivial, HGR.out.1, HGR.out.2⟩⟩
        case measure => have h7 := HP.out; simp [intOf]; omega
      · have h0i : ¬ (ew : Int) = 0 := by omega
        have HRR := Lib.hid (HST.out h0)
        go_wp2_with fail
        go_ret
        rw [HRR.out]
        exact ⟨rfl, HEND.out _ _ H5.out⟩
    · obtain rfl : j = k := by omega
      obtain ⟨T, hT, hTR, hTf, hTn⟩ := hst.out
      rw [Nat.sub_self] at hTR
      have hpm : ¬ (p : Int) < (M : Int) := by omega
      have HRR := Lib.hid (show (T, 0) = R from hTR)
      have H5 := Lib.hid hT
      clear hst hT hTR hTf hTn
      go_wp2_with fail
      go_ret
      rw [← HRR.out]
      exact ⟨rfl, HEND.out _ _ H5.out⟩
end
end Go.Proofs.Ythbgcffnnholeaa
