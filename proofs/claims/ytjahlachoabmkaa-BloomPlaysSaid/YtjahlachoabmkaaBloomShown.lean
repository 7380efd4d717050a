/- The contract of shown: the document's examples. No statement of the seat is proved here. -/
import Derived.Test.YtjahlachoabmkaaBloomRest
import Derived.Test.YtjahlachoabmkaaBloomNilA
namespace Go.Proofs.Ytjahlachoabmkaa
open Go.RowKit

/-- A key with a Sum of bytes 0. -/
abbrev kz (N : Int) : Array Value := #[.int .u8 0, .int .u8 0, .int .u8 0, .int .u8 0, .int .u8 0, .int .u8 0, .int .u8 0, .int .u8 0, .int .u8 0, .int .u8 0, .int .u8 0, .int .u8 0, .int .u8 0, .int .u8 0, .int .u8 0, .int .u8 0, .int .u8 0, .int .u8 0, .int .u8 0, .int .u8 0, .int .u8 0, .int .u8 0, .int .u8 0, .int .u8 0, .int .u8 0, .int .u8 0, .int .u8 0, .int .u8 0, .int .u8 0, .int .u8 0, .int .u8 0, .int .u8 0, .int .u32 N]
theorem kz_ok (N : Nat) (h : N < 4294967296) : KeyOk (kz N) (List.replicate 32 0) N := by
  have e : (kz N).toList = bv (List.replicate 32 0) ++ [.int .u32 N] := rfl
  refine ⟨fun j hj => ?_, rfl, rfl, rfl, h⟩
  rw [← Array.getElem?_toList, e, List.getElem?_append_left (by rw [bv_length]; exact hj), bv_get hj]
theorem zero_spots (N : Nat) (h : N < 4294967296) : keyA (List.replicate 32 0) N = N ∧ keyB (List.replicate 32 0) = 1 := by
  refine ⟨?_, rfl⟩
  show (0 + N) % 4294967296 = N
  omega
theorem Vec.grown {w w' : World} {v g n p : Nat} {S : Nat → Bool} {x : Nat} (h : Vec w v g n p S) (hg : w.grownBy w' (some x)) (h1 : v ≠ x) (h2 : g ≠ x) : Vec w' v g n p S :=
  h.same (hg.block v h.vb.lt (fun e => h1 (by injection e))) (hg.block g h.gb.lt (fun e => h2 (by injection e)))
theorem str_of {w : World} {B n c : Nat} {A : Option Addr} {l : List UInt8} (h : w.ownsRow B 5 1 (.slice A n c) n (bv l)) (hl : l.length = n) : (convert 37 9 (.slice A n c)).run Try.prog w = .ok (.string ⟨l.toArray⟩) w := by
  have := run_str (P := Try.prog) 37 9 5 Try.underlying37 Try.underlying5 Try.underlying9 (Rd.of_own h) c
  rw [hl] at this
  exact this
theorem one_bit : pk 8 (putL (fun _ => false) [3]) = [8] := by decide +kernel
theorem sp3 : spotsN 8 1 3 1 = [3] ∧ spotsN 8 1 11 1 = [3] ∧ spotsN 8 1 4 1 = [4] := by decide +kernel

set_option maxRecDepth 100000 in
set_option maxHeartbeats 2000000 in
theorem shown_any (w : World) : Calls Try.prog 8 #[] w fun e w' => e = .returned (.bool true) ∧ Below w.heap.size w w' := by
  have k1 : ∀ W, Calls Try.prog 9 #[.int .i64 8, .int .i64 1] W _ := fun W => new_ok 8 1 (by omega) (by omega) W
  have k2 : ∀ W, Calls Try.prog 9 #[.int .i64 0, .int .i64 5] W _ := fun W => new_ok 0 5 (by omega) (by omega) W
  have K1 := Lib.hid k1
  have K2 := Lib.hid k2
  clear k1 k2
  go_enter Try.func8, Try.ntmps8
  go_wp2_with fail
  refine (K1.out _).mono ?_
  rintro e w1 ⟨v, g, rfl, hv1, hg1, h1, hb1⟩
  have H1 := Lib.hid (And.intro h1 (And.intro hb1 (And.intro hv1 hg1)))
  clear h1 hb1 hv1 hg1
  go_wp2_with fail
  refine (K2.out _).mono ?_
  rintro e w2 ⟨v2, g2, rfl, hv2, hg2, h2, hb2⟩
  have hvl := H1.out.1.vb.lt
  have hgl := H1.out.1.gb.lt
  have h1 := H1.out.1.on hb2
  have hx2 := H1.out.2.1.trans (hb2.mono H1.out.2.1.size)
  obtain ⟨hkA, hkB⟩ := zero_spots 3 (by omega)
  have k3 : ∀ W, Vec W v g 8 1 (fun _ => false) → Calls Try.prog 19 #[.pointer (some ⟨v, 0, none⟩), .agg (kz 3)] W fun e w' => (∃ x, e = .returned x) ∧ Vec w' v g 8 1 (putL (fun _ => false) [3]) ∧ W.grownBy w' (some g) := fun W h => by
    have := add_ok v g 8 1 _ (kz 3) _ 3 (kz_ok 3 (by omega)) W h
    rw [hkA, hkB, sp3.1] at this
    exact this
  have H2 := Lib.hid (And.intro h1 (And.intro h2 hx2))
  have K3 := Lib.hid k3
  clear k3 h1 h2 hx2 hb2 hkA hkB
  go_wp2_with fail
  refine (K3.out _ H2.out.1).mono ?_
  rintro e w3 ⟨⟨x3, rfl⟩, h3, hg3⟩
  have h3v : Vec w3 v2 g2 0 5 (fun _ => false) := H2.out.2.1.grown hg3 (by omega) (by omega)
  have hx3 : Below w.heap.size w w3 := H2.out.2.2.grown hg3 H2.out.2.2.size (fun k e => by injection e with e; have := H1.out.2.2.2; omega)
  have H3 := Lib.hid (And.intro h3 (And.intro h3v hx3))
  clear h3 h3v hx3 hg3
  go_wp2_with fail
  refine (bytes_ok v g 8 1 _ _ H3.out.1).mono ?_
  rintro e w4 ⟨A4, c4, rfl, ho4, hb4⟩
  rw [one_bit] at ho4
  have hs4 := str_of ho4 rfl
  have hx4 := H3.out.2.2.trans (hb4.mono H3.out.2.2.size)
  have H4 := Lib.hid (And.intro (H3.out.1.on hb4) (And.intro (H3.out.2.1.on hb4) hx4))
  have k5 : ∀ W, Vec W v g 8 1 (putL (fun _ => false) [3]) → Calls Try.prog 15 #[.pointer (some ⟨v, 0, none⟩), .agg (kz 11)] W fun e w' => e = .returned (.bool true) ∧ Below W.heap.size W w' := fun W h => by
    have := may_ok v g 8 1 _ (kz 11) _ 11 (kz_ok 11 (by omega)) W h
    rw [(zero_spots 11 (by omega)).1, (zero_spots 11 (by omega)).2, sp3.2.1] at this
    exact this
  have k6 : ∀ W, Vec W v g 8 1 (putL (fun _ => false) [3]) → Calls Try.prog 15 #[.pointer (some ⟨v, 0, none⟩), .agg (kz 4)] W fun e w' => e = .returned (.bool false) ∧ Below W.heap.size W w' := fun W h => by
    have := may_ok v g 8 1 _ (kz 4) _ 4 (kz_ok 4 (by omega)) W h
    rw [(zero_spots 4 (by omega)).1, (zero_spots 4 (by omega)).2, sp3.2.2] at this
    exact this
  have k7 : ∀ W, Vec W v2 g2 0 5 (fun _ => false) → Calls Try.prog 15 #[.pointer (some ⟨v2, 0, none⟩), .agg (kz 4)] W fun e w' => e = .returned (.bool true) ∧ Below W.heap.size W w' := fun W h => may_ok v2 g2 0 5 _ (kz 4) _ 4 (kz_ok 4 (by omega)) W h
  have K5 := Lib.hid k5
  have K6 := Lib.hid k6
  have K7 := Lib.hid k7
  clear ho4 hb4 hx4 k5 k6 k7
  go_wp2_with fail
  refine (K5.out _ H4.out.1).mono ?_
  rintro e w5 ⟨rfl, hb5⟩
  have H5 := Lib.hid (And.intro (H4.out.1.on hb5) (And.intro (H4.out.2.1.on hb5) (H4.out.2.2.trans (hb5.mono H4.out.2.2.size))))
  clear hb5
  go_wp2_with fail
  refine (K6.out _ H5.out.1).mono ?_
  rintro e w6 ⟨rfl, hb6⟩
  have H6 := Lib.hid (And.intro (H5.out.2.1.on hb6) (H5.out.2.2.trans (hb6.mono H5.out.2.2.size)))
  clear hb6
  go_wp2_with fail
  refine (K7.out _ H6.out.1).mono ?_
  rintro e w7 ⟨rfl, hb7⟩
  have H7 := Lib.hid (H6.out.2.trans (hb7.mono H6.out.2.size))
  clear hb7
  go_wp2_with fail
  go_ret
  exact ⟨rfl, H7.out⟩
end Go.Proofs.Ytjahlachoabmkaa
