/- CodecBack's walk, in parts. No statement of the seat is proved here. -/
import Derived.Test.YtcjhcapbmdiloaaShown
import Derived.Test.YtcjhcapbmdiloaaBackMath
import Derived.Test.YtcjhcapbmdiloaaArgs
import Derived.Deep.RegionHeld3
import Derived.Deep.DeepCutAuto
namespace Go.Proofs.Ytcjhcapbmdiloaa
open Go.RowKit

/-- A list of numbers, of strings, as cells. -/
def uv (xs : List Nat) : List Value := xs.map fun x => .int .u64 ((x : Nat) : Int)
def sv (ss : List ByteArray) : List Value := ss.map Value.string

theorem at_u {w w' : World} {B : Nat} {A : Option Addr} {xs : List Nat} (h : RdV w B A (uv xs)) (hb : Below B w w') {k : Nat} (hk : k < xs.length) :
    ∃ g off x, A = some ⟨g, off, none⟩ ∧ g < B ∧ Hid (x = xs[k]) ∧ w'.cell? ⟨g, off + k, none⟩ = some (.int .u64 ((x : Nat) : Int)) := by
  obtain ⟨g, off, e, hlt, hc⟩ := h.at_ hb (k := k) (by simpa [uv] using hk)
  exact ⟨g, off, xs[k], e, hlt, rfl, by rw [hc]; simp [uv]⟩
theorem at_s {w w' : World} {B : Nat} {A : Option Addr} {ss : List ByteArray} (h : RdV w B A (sv ss)) (hb : Below B w w') {k : Nat} (hk : k < ss.length) :
    ∃ g off s, A = some ⟨g, off, none⟩ ∧ g < B ∧ Hid (s = ss[k]) ∧ w'.cell? ⟨g, off + k, none⟩ = some (.string s) := by
  obtain ⟨g, off, e, hlt, hc⟩ := h.at_ hb (k := k) (by simpa [sv] using hk)
  exact ⟨g, off, ss[k], e, hlt, rfl, by rw [hc]; simp [sv]⟩

set_option maxRecDepth 100000 in
set_option maxHeartbeats 4000000 in
theorem back_walk (A0 B0 : Option Addr) (c0 d0 : Nat) (xs : List Nat) (ss : List ByteArray) (many : Nat) (w : World) (hmany : many ≤ 255) (hx : ∀ x ∈ xs, x < 2 ^ 64)
    (hA : RdV w w.heap.size A0 (uv xs)) (hB : RdV w w.heap.size B0 (sv ss)) (hc0 : xs.length ≤ c0) (hd0 : ss.length ≤ d0) (hc0m : c0 ≤ maxLen) (hd0m : d0 ≤ maxLen) :
    Calls Try.prog 4 #[.slice A0 xs.length c0, .slice B0 ss.length d0, .int .u8 many] w fun e w' => e = .returned (.bool true) ∧ Below w.heap.size w w' := by
  unfold maxLen at hc0m hd0m
  go_enter Try.func4, Try.ntmps4
  go_upto_region 2 with (go_at_call 8; refine (shown_any _).mono ?_; rintro e w1 ⟨rfl, hb1⟩)
  go_cut [8, 9] (fun s8 s9 wx => s8 = .slice A0 (xs.take 100).length c0 ∧ s9 = .slice B0 (ss.take 100).length d0 ∧ Below w.heap.size w wx)
  case first =>
    have HB := Lib.hid hb1
    clear hA hB hx hb1
    have i1 : (0 : Int) ≤ (xs.length : Int) := by omega
    have i2 : (0 : Int) ≤ (ss.length : Int) := by omega
    have i3 : (xs.length : Int) ≤ (c0 : Int) := by omega
    have i4 : (ss.length : Int) ≤ (d0 : Int) := by omega
    have fin : ∀ a b : Nat, min xs.length 100 = a → min ss.length 100 = b → ∀ q, Value.slice A0 a c0 = Value.slice A0 (xs.take 100).length c0 ∧ Value.slice B0 b d0 = Value.slice B0 (ss.take 100).length d0 ∧ Below w.heap.size w (w1.drewN q) := by
      intro a b ha hb q
      rw [List.length_take, List.length_take, Nat.min_comm 100, Nat.min_comm 100, ha, hb]
      exact ⟨rfl, rfl, ⟨HB.out.os, HB.out.tape, HB.out.output, HB.out.size, HB.out.block⟩⟩
    have FIN := fun a b ha hb q => Lib.hid (fin a b ha hb q)
    clear fin
    by_cases hn : (xs.length : Int) ≤ 100
    · by_cases hm : (ss.length : Int) ≤ 100
      · go_quiet (fail)
        go_wp2_with fail
        go_meet
        exact (FIN _ _ (by omega) (by omega) _).out
      · go_quiet (fail)
        go_wp2_with fail
        go_meet
        exact (FIN _ _ (by omega) (by omega) _).out
    · by_cases hm : (ss.length : Int) ≤ 100
      · go_quiet (fail)
        go_wp2_with fail
        go_meet
        exact (FIN _ _ (by omega) (by omega) _).out
      · go_quiet (fail)
        go_wp2_with fail
        go_meet
        exact (FIN _ _ (by omega) (by omega) _).out
  case rest =>
    obtain ⟨rfl, rfl, hbx⟩ := hcut
    have hX : ∀ x ∈ xs.take 100, x < 2 ^ 64 := fun x h => hx x (List.mem_of_mem_take h)
    have hA : RdV w w.heap.size A0 (uv (xs.take 100)) := by have := hA.take 100; simpa [uv, List.map_take] using this
    have hB : RdV w w.heap.size B0 (sv (ss.take 100)) := by have := hB.take 100; simpa [sv, List.map_take] using this
    have hX1 : (xs.take 100).length ≤ 100 := by rw [List.length_take]; omega
    have hS1 : (ss.take 100).length ≤ 100 := by rw [List.length_take]; omega
    clear hx hc0m hd0m hc0 hd0
    generalize xs.take 100 = X at hX hA hX1
    generalize ss.take 100 = S at hB hS1
    go_wp2_with fail
    go_loopw [10, 31] (fun b i wr => ∃ k : Nat, k ≤ X.length ∧ i = .int .i64 k ∧ (∃ A c, b = .slice A (8 * k) c ∧ Own wr w.heap.size A c (8 * k) (numsB (X.take k))) ∧ Below w.heap.size w wr)
      (fun _ i _ => X.length - (intOf i).toNat)
    case atStart => exact ⟨0, Nat.zero_le _, rfl, ⟨none, 0, rfl, rfl, World.ownsRow_nil _ _ _ _⟩, hbx⟩
    case round =>
      obtain ⟨k, hk, rfl, ⟨A, c, rfl, hown⟩, hbel⟩ := hrel
      by_cases hlt : k < X.length
      · obtain ⟨g, off, x, rfl, _, HX, hcell⟩ := at_u hA hbel hlt
        have hnl : (numsB (X.take k)).length = 8 * k := by rw [numsB_length, List.length_take]; omega
        have CP := Lib.hid (put_sl A (numsB (X.take k)) c (8 * k) x 8 (8 * (k + 1)) (numsB (X.take (k + 1))) wr hnl hown.rd (by omega) (by rw [hnl]; unfold kOf; omega) (by rw [numsB_succ X k hlt, HX.out]; rfl))
        clear hnl hown hA hB
        go_wp2_with (go_at_call 18; refine CP.out.mono ?_; rintro e w2 ⟨A2, c2, rfl, ho2, hb2⟩)
        go_roundw
        case rel => exact ⟨k + 1, by omega, by go_num, ⟨A2, c2, rfl, ho2.base hbel.size⟩, hbel.trans (hb2.mono hbel.size)⟩
        case measure => simp [intOf]; omega
      · obtain rfl : k = X.length := by omega
        rw [List.take_length] at hown
        clear hlt hk
        go_wp2_with fail
        go_loopw [10, 43] (fun b i wr => ∃ k : Nat, k ≤ S.length ∧ i = .int .i64 k ∧ (∃ T A c, b = .slice A T c ∧ Own wr w.heap.size A c T (numsB X ++ textsB (S.take k)) ∧ T ≤ 800 + 10004 * k) ∧ (∀ s ∈ S.take k, s.size ≤ 10000) ∧ Below w.heap.size w wr)
          (fun _ i _ => S.length - (intOf i).toNat)
        case atStart => exact ⟨0, Nat.zero_le _, rfl, ⟨8 * X.length, A, c, rfl, by simpa [textsB] using hown, by omega⟩, by simp, hbel⟩
        case round =>
          rename_i wr0
          clear hown hbel
          obtain ⟨k, hk, rfl, ⟨T, A, c, rfl, hown, hT⟩, hsmall, hbel⟩ := hrel
          by_cases hlt : k < S.length
          · obtain ⟨g, off, s, rfl, _, HS, hcell⟩ := at_s hB hbel hlt
            by_cases hbig : 10000 < s.size
            · have hbig' : (10000 : Int) < (s.size : Int) := by omega
              clear hown hA hB hsmall
              go_wp2_with fail
              go_ret
              exact ⟨rfl, hbel⟩
            · have hbig' : ¬ (10000 : Int) < (s.size : Int) := by omega
              have hTl := hown.1
              have CT := Lib.hid (text_sl A (numsB X ++ textsB (S.take k)) c T s (T + (4 + s.size)) (numsB X ++ textsB (S.take (k + 1))) wr hTl hown.rd (by omega) (by omega) (by rw [textsB_succ S k hlt, HS.out, textB]; simp only [List.append_assoc]))
              have hsmall2 := Lib.hid (show ∀ s ∈ S.take (k + 1), s.size ≤ 10000 by
                intro s' hs'
                rw [List.take_succ_eq_append_getElem hlt, List.mem_append] at hs'
                rcases hs' with hs' | hs'
                · exact hsmall s' hs'
                · rw [← HS.out, List.mem_singleton] at hs'; subst hs'; omega)
              clear hTl hown hA hB hsmall
              go_wp2_with (go_at_call 19; refine CT.out.mono ?_; rintro e w2 ⟨A2, c2, rfl, ho2, hb2⟩)
              go_roundw
              case rel => exact ⟨k + 1, by omega, by go_num, ⟨_, A2, c2, rfl, ho2.base hbel.size, by omega⟩, hsmall2.out, hbel.trans (hb2.mono hbel.size)⟩
              case measure => simp [intOf]; omega
          · obtain rfl : k = S.length := by omega
            rw [List.take_length] at hown hsmall
            clear hlt hk
            have hTl := hown.1
            have hkk : kOf ((many : Int) % 9) = many % 9 := by unfold kOf; omega
            have CP : Hid (Calls Try.prog 18 #[.slice A T c, .int .u64 9223372036854775813, .int .i64 ((many : Int) % 9)] wr fun e w' => ∃ A' c', e = .returned (.slice A' (T + many % 9) c') ∧ Own w' wr.heap.size A' c' (T + many % 9) (numsB X ++ (textsB S ++ (be (many % 9) 9223372036854775813 ++ []))) ∧ Below wr.heap.size wr w') :=
              Lib.hid (put_sl A (numsB X ++ textsB S) c T 9223372036854775813 ((many : Int) % 9) (T + many % 9) _ wr hTl hown.rd (by omega) (by rw [hkk]; omega) (by rw [hkk]; simp only [List.append_assoc, List.append_nil]))
            have HSM := Lib.hid hsmall
            clear hTl hkk hown hsmall
            go_wp2_with fail
            refine CP.out.mono ?_
            clear CP
            rintro e w3 ⟨A3, c3, rfl, ho3, hb3⟩
            have hbel3 := hbel.trans (hb3.mono hbel.size)
            have CN := Lib.hid (new_sl A3 _ c3 (T + many % 9) w3 ho3.1 ho3.rd (by rw [ho3.1]; omega))
            clear hb3 hbel ho3
            go_wp2_with fail
            refine CN.out.mono ?_
            clear CN
            rintro e w4 ⟨g, rfl, hg, hr, hb4⟩
            have hbel := hbel3.trans (hb4.mono hbel3.size)
            have hgw : w.heap.size ≤ g := Nat.le_trans hbel3.size hg
            clear hbel3 hb4 hg
            obtain ⟨R, hR⟩ : ∃ R, R = textsB S ++ (be (many % 9) 9223372036854775813 ++ []) := ⟨_, rfl⟩
            rw [← hR] at hr
            have HR := Lib.hid hR
            clear hR
            go_wp2_with fail
            go_loopw [72] (fun i wr => ∃ k : Nat, k ≤ X.length ∧ i = .int .i64 k ∧ Rdr wr g (numsB (X.drop k) ++ R) 0 ∧ Below w.heap.size w wr)
              (fun i _ => X.length - (intOf i).toNat)
            case atStart => exact ⟨0, Nat.zero_le _, rfl, by simpa using hr, hbel⟩
            case round =>
              clear hr hbel
              obtain ⟨k, hk, rfl, hr, hbel⟩ := hrel
              by_cases hlt : k < X.length
              · obtain ⟨gA, off, x, rfl, hgA, HX, hcell⟩ := at_u hA hbel hlt
                have hx64 : x < 2 ^ 64 := by rw [HX.out]; exact hX _ (List.getElem_mem hlt)
                have hr : Rdr wr g (be 8 x ++ (numsB (X.drop (k + 1)) ++ R)) 0 := by
                  rw [numsB_drop X k hlt, ← HX.out, List.append_assoc] at hr; exact hr
                obtain ⟨R2, hR2⟩ : ∃ R2, R2 = numsB (X.drop (k + 1)) ++ R := ⟨_, rfl⟩
                rw [← hR2] at hr
                have HR2 := Lib.hid hR2
                have HB := Lib.hid hbel
                have GB := get_back 8 x R2 (by omega)
                rw [Nat.mod_eq_of_lt (by omega)] at GB
                have hGB := Lib.hid GB
                have hik : (k : Int) < (X.length : Int) := by omega
                have hik0 : (0 : Int) ≤ (k : Int) := by omega
                have CG := Lib.hid (get_lit g (be 8 x ++ R2) 0 8 x R2 0 wr.drew (show Rdr wr.drew g _ 0 from hr) hGB.out.1 hGB.out.2.1 hGB.out.2.2)
                have KC := Lib.hid (show ∀ w5, wr.drew.grownBy w5 (some g) → w5.cell? ⟨gA, off + k, none⟩ = some (.int .u64 ((x : Nat) : Int)) from fun w5 hg5 => hg5.cell (show wr.drew.cell? _ = _ from hcell) (by simp; omega))
                clear hR2 GB hA hB hX hbel hx64 hr
                go_wp2_with fail
                go_region_with (go_at_call 12; refine CG.out.mono ?_; rintro e w5 ⟨rfl, hr5, hg5⟩; have hc5 := KC.out w5 hg5)
                all_goals go_wp2_with fail
                all_goals exact ⟨⟨k + 1, by omega, by go_num, by rw [← HR2.out]; exact hr5, HB.out.drew.grown hg5 HB.out.size (fun j hj => by injection hj with hj; omega)⟩, by simp [intOf]; omega⟩
              · obtain rfl : k = X.length := by omega
                have hr : Rdr wr g R 0 := by rw [List.drop_length] at hr; exact hr
                rw [HR.out] at hr
                clear hlt hk HR hA hX
                obtain ⟨R9, hR9⟩ : ∃ R9, R9 = be (many % 9) 9223372036854775813 ++ [] := ⟨_, rfl⟩
                rw [← hR9] at hr
                have HR9 := Lib.hid hR9
                clear hR9
                go_wp2_with fail
                go_loopw [85] (fun i wr => ∃ k : Nat, k ≤ S.length ∧ i = .int .i64 k ∧ Rdr wr g (textsB (S.drop k) ++ R9) 0 ∧ Below w.heap.size w wr)
                  (fun i _ => S.length - (intOf i).toNat)
                case atStart => exact ⟨0, Nat.zero_le _, rfl, by simpa using hr, hbel⟩
                case round =>
                  clear hr hbel
                  obtain ⟨k, hk, rfl, hr, hbel⟩ := hrel
                  by_cases hlt : k < S.length
                  · obtain ⟨gA, off, s, rfl, hgA, HX, hcell⟩ := at_s hB hbel hlt
                    have hs4 : s.size ≤ 10000 := by rw [HX.out]; exact HSM.out _ (List.getElem_mem hlt)
                    have hr : Rdr wr g (textB s ++ (textsB (S.drop (k + 1)) ++ R9)) 0 := by
                      rw [textsB_drop S k hlt, ← HX.out, List.append_assoc] at hr; exact hr
                    obtain ⟨R2, hR2⟩ : ∃ R2, R2 = textsB (S.drop (k + 1)) ++ R9 := ⟨_, rfl⟩
                    rw [← hR2] at hr
                    have HR2 := Lib.hid hR2
                    have HB := Lib.hid hbel
                    have GB := Lib.hid (text_back s R2 (by omega))
                    have hik : (k : Int) < (S.length : Int) := by omega
                    have hik0 : (0 : Int) ≤ (k : Int) := by omega
                    have CG := Lib.hid (rtext_lit g (textB s ++ R2) 0 (s.size : Int) s R2 0 wr.drew (show Rdr wr.drew g _ 0 from hr) (by omega) GB.out.1 GB.out.2.1 GB.out.2.2)
                    have KC := Lib.hid (show ∀ w5, wr.drew.grownBy w5 (some g) → w5.cell? ⟨gA, off + k, none⟩ = some (.string s) from fun w5 hg5 => hg5.cell (show wr.drew.cell? _ = _ from hcell) (by simp; omega))
                    clear hR2 hB hbel hr
                    go_wp2_with fail
                    go_region_with (go_at_call 10; refine CG.out.mono ?_; rintro e w5 ⟨rfl, hr5, hg5⟩; have hc5 := KC.out w5 hg5)
                    all_goals go_wp2_with fail
                    all_goals exact ⟨⟨k + 1, by omega, by go_num, by rw [← HR2.out]; exact hr5, HB.out.drew.grown hg5 HB.out.size (fun j hj => by injection hj with hj; omega)⟩, by simp [intOf]; omega⟩
                  · obtain rfl : k = S.length := by omega
                    have hr : Rdr wr g R9 0 := by rw [List.drop_length] at hr; exact hr
                    rw [HR9.out] at hr
                    clear hlt hk HR9 hB HSM
                    have GB := Lib.hid (get_back (many % 9) 9223372036854775813 [] (by omega))
                    have LB := Lib.hid (last_back (many % 9) (by omega))
                    have CG : Hid (Calls Try.prog 12 #[.pointer (some ⟨g, 0, none⟩), .int .i64 ((many : Int) % 9)] wr fun e w' => e = .returned (.int .u64 ((9223372036854775813 % 256 ^ (many % 9) : Nat) : Int)) ∧ Rdr w' g [] 0 ∧ wr.grownBy w' (some g)) :=
                      Lib.hid (get_lit g _ 0 ((many % 9 : Nat) : Int) _ [] 0 wr hr GB.out.1 GB.out.2.1 GB.out.2.2)
                    obtain ⟨V, hV⟩ : ∃ V, V = 9223372036854775813 % 256 ^ (many % 9) := ⟨_, rfl⟩
                    rw [← hV] at CG LB
                    clear hV GB hr
                    go_wp2_with fail
                    refine CG.out.mono ?_
                    clear CG
                    rintro e w5 ⟨rfl, hr5, hg5⟩
                    have hb5 := hbel.grown hg5 hbel.size (fun j hj => by injection hj with hj; omega)
                    clear hg5 hbel
                    go_wp2_with fail
                    refine (end_lit g [] 0 0 w5 hr5 (by decide)).mono ?_
                    rintro e wx ⟨rfl, rfl⟩
                    go_wp2_with fail
                    go_ret
                    refine ⟨?_, hb5⟩
                    show Ending.returned (Value.bool (((many : Int) % 9 == 0) == ((V : Int) == 0))) = _
                    have e : ((many : Int) % 9 == 0) = ((V : Int) == 0) := by
                      rw [Bool.eq_iff_iff, beq_iff_eq, beq_iff_eq]
                      have := LB.out
                      omega
                    rw [e, beq_self_eq_true]
end Go.Proofs.Ytcjhcapbmdiloaa
