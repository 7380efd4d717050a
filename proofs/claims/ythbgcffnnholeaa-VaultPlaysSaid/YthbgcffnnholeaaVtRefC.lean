/- The reference's Get of package vault's statements (cellarageref12). No statement of the seat is proved here. -/
import Derived.Test.YthbgcffnnholeaaVtRefB
import Derived.Test.YthbgcffnnholeaaRefGet
import Derived.Lib.ConvBytes
namespace Go.Proofs.Ythbgcffnnholeaa
open Go.RowKit
set_option linter.unusedVariables false
set_option linter.unusedSimpArgs false

/-- '[]byte(s)': bytes that read as the string's, in a block of their own. -/
theorem bytes_of (w : World) (l : List UInt8) : ∃ A c w', (convert 9 42 (.string ⟨l.toArray⟩)).run Try.prog w = .ok (.slice A l.length c) w' ∧ l.length ≤ c ∧ Rd w' w'.heap.size A l ∧ Below w.heap.size w w' := by
  have h := Lib.run_convert_string_bytes (P := Try.prog) w 9 42 5 ⟨l.toArray⟩ Try.underlying9 Try.underlying42 Try.underlying5
  refine ⟨_, _, _, h, ?_, fun h0 => ⟨w.heap.size, 0, rfl, by rw [Lib.bytesWorld_size]; omega, fun j hj => ?_⟩, ⟨rfl, rfl, rfl, by rw [Lib.bytesWorld_size]; omega, fun g hg => Lib.bytesWorld_at_old w _ _ g hg⟩⟩
  · exact grownCap_ge w l.length 0 _
  · rw [Nat.zero_add, Lib.bytesWorld_cell _ _ _ _ hj]
    simp [List.getD, hj]
section
variable {w0 w : World} {s : Addr} {N : Nat → Prop} {S : DS}
set_option maxRecDepth 100000 in
set_option maxHeartbeats 2000000 in
theorem rvget_arg (V : VS) (at_ : Int) (ha : at_ < 0 ∨ (V.n : Int) ≤ at_) (w : World) :
    Calls Try.prog 19 #[rvv s V, .int .i64 at_] w fun x w' => x = .returned (.tuple #[.string ⟨#[]⟩, .int .i64 1]) ∧ Below w.heap.size w w' := by
  unfold rvv
  obtain ⟨V1, V2, V3⟩ := V
  simp only at *
  have hb : Below w.heap.size w (w.alloc (.cells #[.pointer (some s), .int .i64 V1, .int .i64 V2, .int .i64 V3] 37)) := (Below.refl _ _).alloc (Nat.le_refl _) _
  have HB := Lib.hid hb
  clear hb
  have ha : at_ < 0 ∨ ((¬ at_ < 0) ∧ (V3 : Int) ≤ at_) := by omega
  rcases ha with h1 | ⟨h1, h2⟩ <;>
    (go_enter Try.func19, Try.ntmps19
     go_wp2
     go_ret2
     exact ⟨rfl, HB.out⟩)
set_option maxRecDepth 100000 in
set_option maxHeartbeats 2000000 in
theorem rvget_dead (h : Turned Rst w0 s N w S) (hs : S.n ≤ 16384) (hf : Few S) (ho : S.off = true) (V : VS) (hV : V.Fits S.n) (t : Nat) (ht : t < V.n) :
    Calls Try.prog 19 #[rvv s V, .int .i64 t] w fun x w' => x = .returned (.tuple #[.string ⟨#[]⟩, .int .i64 6]) ∧ Below w.heap.size w w' := by
  obtain ⟨wb, hwb⟩ : ∃ wb, w.alloc (.cells #[.pointer (some s), .int .i64 V.from_, .int .i64 V.each, .int .i64 V.n] 37) = wb := ⟨_, rfl⟩
  have hb0 : Below w.heap.size w wb := hwb ▸ (Below.refl w.heap.size w).alloc (Nat.le_refl _) _
  obtain ⟨rb, hrb⟩ : ∃ rb, w.heap.size = rb := ⟨_, rfl⟩
  have hbk : Blk wb rb 37 #[.pointer (some s), .int .i64 V.from_, .int .i64 V.each, .int .i64 V.n] := by rw [← hwb, ← hrb]; exact Blk.new w _ _
  have hT := rst_on h hb0
  obtain ⟨a, ha⟩ : ∃ a, V.first t = a := ⟨_, rfl⟩
  have hak := hV.in_ (j := 0) ht (by have := hV.each.1; omega)
  rw [ha, Nat.add_zero] at hak
  have KR := rst_read hT hf (a : Int)
  have e1 : readE S a = 6 := by rw [readE_in hak, if_pos ho]
  have e2 : readS S a = [] := by unfold readS; rw [if_neg (by rw [e1]; decide)]
  rw [e1, e2] at KR
  replace KR := Lib.hid KR
  have hP : ∃ P : Nat, (t : Int) * (V.each : Int) = (P : Int) ∧ V.from_ + P = a ∧ P ≤ a := ⟨t * V.each, by push_cast; rfl, by rw [← ha]; rfl, by rw [← ha]; unfold VS.first; omega⟩
  obtain ⟨P, hP1, hP2, hP3⟩ := hP
  have he := hV.each
  unfold rvv
  obtain ⟨V1, V2, V3⟩ := V
  simp only at *
  have HB := Lib.hid hb0
  have HW := Lib.hid (And.intro hwb hrb)
  have hg0 := hbk.cell 0
  have hg1 := hbk.cell 1
  have hg2 := hbk.cell 2
  have hg3 := hbk.cell 3
  have h1 : ¬ (t : Int) < 0 := by omega
  have h2 : ¬ (V3 : Int) ≤ (t : Int) := by omega
  have h3 : (0 : Int) < (V2 : Int) := by omega
  have s1 : (V1 : Int) + (P : Int) = (a : Int) := by omega
  have ha3 : a ≤ 16384 := by omega
  clear h hb0 hwb hrb hbk hT hV e1 e2
  go_enter Try.func19, Try.ntmps19
  go_upto_region 1 with fail
  rw [HW.out.1, HW.out.2]
  go_wp2_with fail
  go_loopw [6, 7] (fun x i wr => x = .string ⟨#[]⟩ ∧ i = .int .i64 0 ∧ wr = wb) (fun _ i _ => 0)
  case atStart => exact ⟨rfl, rfl, rfl⟩
  case round =>
    obtain ⟨rfl, rfl, rfl⟩ := hrel
    go_wp2_with fail
    (with_reducible refine KR.out.mono ?_)
    rintro e w2 ⟨rfl, rfl⟩
    go_wp2_with fail
    go_ret2
    exact ⟨rfl, HB.out⟩
set_option maxRecDepth 100000 in
set_option maxHeartbeats 2000000 in
theorem rvget_on (h : Turned Rst w0 s N w S) (hk : S.Ok) (hf : Few S) (ho : S.off = false) (V : VS) (hV : V.Fits S.n) (t : Nat) (ht : t < V.n) :
    Calls Try.prog 19 #[rvv s V, .int .i64 t] w fun x w' => x = .returned (.tuple #[.string ⟨(vgetB V S t).toArray⟩, .int .i64 (vgetE V S t : Nat)]) ∧ Below w.heap.size w w' := by
  obtain ⟨wb, hwb⟩ : ∃ wb, w.alloc (.cells #[.pointer (some s), .int .i64 V.from_, .int .i64 V.each, .int .i64 V.n] 37) = wb := ⟨_, rfl⟩
  have hb0 : Below w.heap.size w wb := hwb ▸ (Below.refl w.heap.size w).alloc (Nat.le_refl _) _
  obtain ⟨rb, hrb⟩ : ∃ rb, w.heap.size = rb := ⟨_, rfl⟩
  have hbk : Blk wb rb 37 #[.pointer (some s), .int .i64 V.from_, .int .i64 V.each, .int .i64 V.n] := by rw [← hwb, ← hrb]; exact Blk.new w _ _
  have hT := rst_on h hb0
  obtain ⟨a, ha⟩ : ∃ a, V.first t = a := ⟨_, rfl⟩
  have hs := hk.le
  have HAK := Lib.hid (show ∀ j, j < V.each → a + j < S.n from fun j hj => by rw [← ha]; exact hV.in_ ht hj)
  have KR := Lib.hid (show ∀ j, j < V.each → Calls Try.prog 31 #[.pointer (some s), .int .i64 ((a + j : Nat) : Int)] wb fun e w' => e = .returned (.tuple #[.string ⟨(nowS S (a + j)).toArray⟩, .int .i64 0]) ∧ wb = w' from fun j hj => by
    have hj := HAK.out j hj
    have hx := rst_read hT hf ((a + j : Nat) : Int)
    have e1 : readE S ((a + j : Nat) : Int) = 0 := by rw [readE_in hj, if_neg (by rw [ho]; decide)]
    rw [e1, read_ok e1] at hx
    exact hx)
  have hP : ∃ P : Nat, (t : Int) * (V.each : Int) = (P : Int) ∧ V.from_ + P = a ∧ P ≤ a := ⟨t * V.each, by push_cast; rfl, by rw [← ha]; rfl, by rw [← ha]; unfold VS.first; omega⟩
  obtain ⟨P, hP1, hP2, hP3⟩ := hP
  have he := hV.each
  obtain ⟨x, hx⟩ : ∃ x, V.row S t = x := ⟨_, rfl⟩
  have HX := Lib.hid (show rowS S a V.each = x from by rw [← hx, ← ha]; rfl)
  have hxl : x.length = V.each * 128 := by rw [← hx]; exact VS.row_length hk V t
  have HLL := Lib.hid (rowS_length hk a)
  have HNL := Lib.hid (nowS_length hk)
  obtain ⟨n, hn⟩ : ∃ n, val (x.take 4) = n := ⟨_, rfl⟩
  have hnl : n < 4294967296 := by have := val_lt (x.take 4); rw [List.length_take, hn, show min 4 x.length = 4 by omega] at this; exact this
  have hE : vgetE V S t = if V.room < n then 110 else 0 := by
    unfold vgetE
    rw [if_neg (by omega), if_neg (by rw [ho]; decide), Int.toNat_natCast, hx, hn]
  have hB : vgetB V S t = if V.room < n then [] else (x.drop 4).take n := by
    unfold vgetB
    rw [hE, Int.toNat_natCast, hx, hn]
    by_cases hr : V.room < n
    · rw [if_pos hr, if_pos hr, if_neg (by decide)]
    · rw [if_neg hr, if_neg hr, if_pos rfl]
  have HE := Lib.hid (And.intro hE hB)
  have KRM := Lib.hid (fun W => rvroom_any s V he.1 he.2 W)
  unfold rvv at *
  obtain ⟨r, hr⟩ : ∃ r, V.room = r := ⟨_, rfl⟩
  have hr3 : r + 4 = V.each * 128 := by rw [← hr]; unfold VS.room; omega
  rw [hr] at KRM HE
  have hN := Lib.hid hn
  obtain ⟨V1, V2, V3⟩ := V
  simp only at *
  have HB := Lib.hid (And.intro hb0 hbk)
  have HW := Lib.hid (And.intro hwb hrb)
  have hg0 := hbk.cell 0
  have hg1 := hbk.cell 1
  have hg2 := hbk.cell 2
  have hg3 := hbk.cell 3
  have h1 : ¬ (t : Int) < 0 := by omega
  have h2 : ¬ (V3 : Int) ≤ (t : Int) := by omega
  have s1 : (V1 : Int) + (P : Int) = (a : Int) := by omega
  have ha3 : a ≤ 16384 := by have := HAK.out 0 (by omega); omega
  have hr4 : r ≤ 2097152 := by omega
  obtain ⟨ev, hev⟩ : ∃ ev, vgetE ⟨V1, V2, V3⟩ S t = ev := ⟨_, rfl⟩
  obtain ⟨bv1, hbv⟩ : ∃ bv1 : ByteArray, (⟨(vgetB ⟨V1, V2, V3⟩ S t).toArray⟩ : ByteArray) = bv1 := ⟨_, rfl⟩
  have HEV := Lib.hid (And.intro hev hbv)
  rw [hev, hbv]
  clear h hb0 hwb hrb hbk hT hV hE hB hx hn hr hev hbv
  go_enter Try.func19, Try.ntmps19
  go_upto_region 1 with fail
  rw [HW.out.1, HW.out.2]
  go_wp2_with fail
  go_loopw [6, 7] (fun u i wr => ∃ j : Nat, j ≤ V2 ∧ u = .string ⟨(rowS S a j).toArray⟩ ∧ i = .int .i64 j ∧ wr = wb) (fun _ i _ => V2 - (intOf i).toNat)
  case atStart => exact ⟨0, Nat.zero_le _, rfl, rfl, rfl⟩
  case round =>
    obtain ⟨j, hj, rfl, rfl, rfl⟩ := hrel
    by_cases hlt : j < V2
    · have K := KR.out j hlt
      have hak := HAK.out j hlt
      obtain ⟨q, hq⟩ : ∃ q, a + j = q := ⟨_, rfl⟩
      have s2 : (a : Int) + (j : Int) = (q : Int) := by omega
      have hl1 := HLL.out j
      have hl2 := HNL.out q
      rw [hq] at K hak
      have hsum : (⟨(rowS S a j).toArray⟩ : ByteArray) ++ ⟨(nowS S q).toArray⟩ = ⟨(rowS S a (j + 1)).toArray⟩ := by
        rw [ByteArray.mk_append_mk, ← hq]; rfl
      have hz1 : (⟨(rowS S a j).toArray⟩ : ByteArray).size = j * 128 := hl1
      have hz2 : (⟨(nowS S q).toArray⟩ : ByteArray).size = 128 := hl2
      have HNX := Lib.hid hsum
      generalize (⟨(rowS S a j).toArray⟩ : ByteArray) = u1 at *
      generalize (⟨(nowS S q).toArray⟩ : ByteArray) = u2 at *
      have hov : ¬ 9223372036854775807 < u1.size + u2.size := by omega
      have hov2 : ¬ 9223372036854775807 < u1.size + 128 := by omega
      have hq3 : q ≤ 16384 := by omega
      have hl : (j : Int) < (V2 : Int) := by omega
      replace K := Lib.hid K
      clear hl1 hl2 hz1 hq hak hsum
      go_wp2_with fail
      (with_reducible refine K.out.mono ?_)
      rintro e w2 ⟨rfl, rfl⟩
      go_wp2_with fail
      go_roundw
      case rel => exact ⟨j + 1, by omega, by rw [HNX.out], by go_num, by first | rfl | trivial⟩
      case measure => simp [intOf]; omega
    · obtain rfl : j = V2 := by omega
      have hl : ¬ (j : Int) < (j : Int) := by omega
      rw [HX.out]
      obtain ⟨A, c, w6, hcv, hAc, hrd, hb6⟩ := bytes_of wr x
      obtain ⟨L, hL⟩ : ∃ L, x.length = L := ⟨_, rfl⟩
      have HLX := Lib.hid (And.intro hL (And.intro hAc (And.intro hrd hb6)))
      rw [hL] at hcv hxl
      obtain ⟨X, hX⟩ : ∃ X : ByteArray, (⟨x.toArray⟩ : ByteArray) = X := ⟨_, rfl⟩
      have HXX := Lib.hid hX
      have hXs : X.size = L := by rw [← hX]; exact hL
      rw [hX] at hcv ⊢
      obtain ⟨g, hg⟩ : ∃ g, w6.heap.size = g := ⟨_, rfl⟩
      obtain ⟨w7, hw7⟩ : ∃ w7, w6.alloc (.cells #[.slice A L c, .int .i64 0, .int .i64 0] 86) = w7 := ⟨_, rfl⟩
      have hb7 : Below w6.heap.size w6 w7 := hw7 ▸ (Below.refl _ _).alloc (Nat.le_refl _) _
      have hg7 : Blk w7 g 86 #[.slice A x.length c, .int .i64 0, .int .i64 0] := by rw [← hw7, ← hg, hL]; exact Blk.new w6 _ _
      have href : Ref w7 g A c x 0 0 := ⟨hg7, Nat.zero_le _, by omega, hAc, by rw [← hg]; exact hrd.below hb7⟩
      have K7 := Lib.hid (show Calls Try.prog 42 #[.pointer (some ⟨g, 0, none⟩), .int .i64 4] w7 fun e w' => e = .returned (.int .u64 n) ∧ Blk w' rb 37 #[.pointer (some s), .int .i64 V1, .int .i64 j, .int .i64 V3] ∧ Below w.heap.size w w' from
        (rget_any g c 0 A x 0 4 w7 href).mono fun e w' ⟨h1, _, h3⟩ => by
          have h4 : Below wr.heap.size wr w7 := hb6.trans (hb7.mono hb6.size)
          have h5 : Below wr.heap.size wr w' := h4.grown h3 h4.size (fun k e => by have e := Option.some.inj e; rw [← e, ← hg]; exact hb6.size)
          refine ⟨?_, HB.out.2.below h5 HB.out.2.lt, HB.out.1.trans (h5.mono HB.out.1.size)⟩
          rw [h1, getV, if_pos ⟨rfl, by omega, by omega, by rw [List.drop_zero]; omega⟩, List.drop_zero, show (4 : Int).toNat = 4 from rfl, hN.out])
      have HW7 := Lib.hid (And.intro hw7 hg)
      have HXL := Lib.hid hxl
      have hL3 : n ≤ r → 4 + n ≤ L := fun h => by omega
      have HL3 := Lib.hid hL3
      have hLL : L ≤ 2097152 := by omega
      have HEX := Lib.hid (show ∀ p e : Nat, X.extract p e = ⟨((x.take e).drop p).toArray⟩ from fun p e => by rw [← HXX.out, str_extract])
      have KM := Lib.hid (KRM.out)
      clear hAc hrd hb6 hL hX hg hw7 hb7 hg7 href hxl hL3 hr3
      go_upto_region 12 with fail
      rw [HW7.out.1, HW7.out.2]
      clear hg0 hg1 hg2 hg3
      go_wp2_with fail
      (with_reducible refine K7.out.mono ?_)
      rintro e w8 ⟨rfl, hbk8, hb8⟩
      have H8 := Lib.hid hb8
      have hg0 := hbk8.cell 0
      have hg1 := hbk8.cell 1
      have hg2 := hbk8.cell 2
      have hg3 := hbk8.cell 3
      clear hbk8 hb8
      go_wp2_with fail
      (with_reducible refine (KM.out w8).mono ?_)
      rintro e w9 ⟨rfl, hb9⟩
      have H9 := Lib.hid (H8.out.trans (hb9.mono H8.out.size))
      have wr1 : IntKind.u64.wrap (r : Int) = (r : Int) := by rw [IntKind.wrap_u64]; omega
      clear hb9
      by_cases hr : r < n
      · have hri : (r : Int) < (n : Int) := by omega
        rw [if_pos hr, if_pos hr] at HE
        have HFIN := Lib.hid (show ev = 110 ∧ (⟨#[]⟩ : ByteArray) = bv1 from ⟨by rw [← HEV.out.1]; exact HE.out.1, by rw [← HEV.out.2, HE.out.2]⟩)
        go_wp2_with fail
        go_ret2
        exact ⟨by rw [HFIN.out.1, ← HFIN.out.2]; rfl, H9.out⟩
      · have hri : ¬ (r : Int) < (n : Int) := by omega
        rw [if_neg hr, if_neg hr] at HE
        obtain ⟨e, he⟩ : ∃ e, 4 + n = e := ⟨_, rfl⟩
        have heL : e ≤ L := by rw [← he]; exact HL3.out (by omega)
        have s5 : (4 : Int) + (n : Int) = (e : Int) := by omega
        have z1 : (e : Int) ≤ (L : Int) := by omega
        have z2 : (4 : Int) ≤ (e : Int) := by omega
        have we : IntKind.u64.wrap (e : Int) = (e : Int) := by rw [IntKind.wrap_u64]; omega
        have HFIN := Lib.hid (show ev = 0 ∧ X.extract 4 e = bv1 from ⟨by rw [← HEV.out.1]; exact HE.out.1, by rw [← HEV.out.2, HE.out.2, HEX.out, List.drop_take, ← he, Nat.add_sub_cancel_left]⟩)
        clear he
        go_wp2_with fail
        go_ret2
        exact ⟨by rw [HFIN.out.1, ← HFIN.out.2]; rfl, H9.out⟩
end
end Go.Proofs.Ythbgcffnnholeaa
