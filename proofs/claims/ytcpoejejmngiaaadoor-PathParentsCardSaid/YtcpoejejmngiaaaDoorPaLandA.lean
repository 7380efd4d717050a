/- The landed paths: what the library does for them, as a hypothesis; Name; right. No statement of the seat is proved here. -/
import Derived.Test.YtcpoejejmngiaaaDoorPaRefT
import Derived.Test.YtcpoejejmngiaaaDoorPaStd
import Derived.Lib.Split
import Derived.Lib.Join
namespace Go.Proofs.YtcpoejejmngiaaaDoor
open Go.RowKit
set_option linter.unusedVariables false
set_option linter.unusedSimpArgs false
set_option maxRecDepth 100000

/-- strings.SplitN at "/" and 17. -/
def cutL (t : List UInt8) : List (List UInt8) := Lib.splitK [47] 0 (min 17 (t.length + 1) - 1) t
/-- What the calls of Go's library do in worlds in which G holds. -/
structure PaLib (G : World → Prop) : Prop where
  keep : ∀ w w' : World, G w → Below w.heap.size w w' → G w'
  valid : ∀ (s : List UInt8), s.length ≤ 1000 → ∀ w, G w → Calls Tryd.prog 26 #[.string (st s)] w fun e w' => e = .returned (.bool (Lib.validD s)) ∧ Below w.heap.size w w'
  cutYes : ∀ (t : List UInt8) (w : World), Calls Tryd.prog 23 #[.string (st (47 :: t)), .string { data := #[47] }] w fun e w' => e = .returned (.tuple #[.string (st t), .bool true]) ∧ w' = w
  cutNo : ∀ (s : List UInt8) (w : World), (∀ t, s ≠ 47 :: t) → Calls Tryd.prog 23 #[.string (st s), .string { data := #[47] }] w fun e w' => e = .returned (.tuple #[.string (st s), .bool false]) ∧ w' = w
  splitN : ∀ (t : List UInt8), t.length ≤ 100000 → ∀ w, G w → Calls Tryd.prog 24 #[.string (st t), .string { data := #[47] }, .int .i64 17] w fun e w' => ∃ A c, e = .returned (.slice A (cutL t).length c) ∧ (cutL t).length ≤ c ∧ c ≤ 17 ∧ RdT w' w'.heap.size A (cutL t) ∧ Below w.heap.size w w'
  join : ∀ (A : Option Addr) (ls : List (List UInt8)) (m c : Nat) (w : World), ls.length = m → m ≤ 16 → m ≤ c → (∀ x ∈ ls, x.length ≤ 100) → RdT w w.heap.size A ls → Calls Tryd.prog 27 #[.slice A m c, .string { data := #[47] }] w fun e w' => e = .returned (.string (st (Lib.join ls [47]))) ∧ Below w.heap.size w w'
  equal : ∀ (A B : Option Addr) (l1 l2 : List (List UInt8)) (n c d : Nat) (w : World), l1.length = n → l2.length = n → n ≤ 1000 → RdT w w.heap.size A l1 → RdT w w.heap.size B l2 → Calls Tryd.prog 35 #[.slice A n c, .slice B n d] w fun e w' => e = .returned (.bool (decide (l1 = l2))) ∧ Below w.heap.size w w'

set_option maxHeartbeats 4000000 in
theorem name_any {G : World → Prop} (K : PaLib G) (s : List UInt8) (hs : s.length ≤ maxLen) (w : World) (hG : G w) : Calls Tryd.prog 15 #[.string (st s)] w fun e w' => e = .returned (.bool (nameL s)) ∧ Below w.heap.size w w' := by
  obtain ⟨n, hn⟩ : ∃ n, s.length = n := ⟨_, rfl⟩
  obtain ⟨R, hR⟩ : ∃ R, nameL s = R := ⟨_, rfl⟩
  rw [hR]
  have HN := Lib.hid (show R = (decide (1 ≤ n ∧ n ≤ 100 ∧ s ≠ [46] ∧ s ≠ [46, 46]) && (Lib.validD s && scanP s 0)) by rw [← hR, ← hn]; exact name_valid s)
  have hsz : (st s).size = n := by rw [st_size, hn]
  have HL := Lib.hid hn
  clear hR hn
  rw [HL.out] at hs
  by_cases d0 : s = []
  · subst d0
    obtain rfl : n = 0 := HL.out.symm
    obtain rfl : R = false := by rw [HN.out]; rfl
    go_enter Tryd.func15, Tryd.ntmps15
    go_wp2_with fail
    go_ret
    exact ⟨rfl, Below.refl _ _⟩
  have e0 : (s == []) = false := by simpa using d0
  have hn1 : 1 ≤ n := by
    rw [← HL.out]
    exact List.length_pos_iff.2 d0
  by_cases d1 : 100 < n
  · obtain rfl : R = false := by rw [HN.out, decide_eq_false (by omega)]; rfl
    have h1 : (100 : Int) < (n : Int) := by omega
    go_enter Tryd.func15, Tryd.ntmps15
    go_wp2_with fail
    go_ret
    exact ⟨rfl, Below.refl _ _⟩
  have h1 : ¬ (100 : Int) < (n : Int) := by omega
  by_cases d2 : s = [46]
  · obtain rfl : R = false := by rw [HN.out, decide_eq_false (by simp [d2])]; rfl
    have e2 : (s == [46]) = true := by simpa using d2
    go_enter Tryd.func15, Tryd.ntmps15
    go_wp2_with fail
    go_ret
    exact ⟨rfl, Below.refl _ _⟩
  have e2 : (s == [46]) = false := by simpa using d2
  by_cases d3 : s = [46, 46]
  · obtain rfl : R = false := by rw [HN.out, decide_eq_false (by simp [d3])]; rfl
    have e3 : (s == [46, 46]) = true := by simpa using d3
    go_enter Tryd.func15, Tryd.ntmps15
    go_wp2_with fail
    go_ret
    exact ⟨rfl, Below.refl _ _⟩
  have e3 : (s == [46, 46]) = false := by simpa using d3
  have HS := Lib.hid (show R = (Lib.validD s && scanP s 0) by rw [HN.out, decide_eq_true ⟨hn1, by omega, d2, d3⟩]; rfl)
  have KV := Lib.hid (K.valid s (by rw [HL.out]; omega) w hG)
  clear d0 d1 d2 d3 HN
  go_enter Tryd.func15, Tryd.ntmps15
  go_wp2_with fail
  refine KV.out.mono ?_
  rintro e w2 ⟨rfl, hb⟩
  have HB := Lib.hid hb
  clear hb KV
  obtain ⟨V, hV⟩ : ∃ V, Lib.validD s = V := ⟨_, rfl⟩
  rw [hV] at HS ⊢
  clear hV
  cases V with
  | false =>
    obtain rfl : R = false := HS.out
    go_wp2_with fail
    go_ret
    exact ⟨rfl, HB.out⟩
  | true =>
    have HS2 := Lib.hid (show R = scanP s 0 from HS.out)
    clear HS
    have hnx := fun pos ty (h : pos < (st s).size) => run_next_any (P := Tryd.prog) w2 (st s) pos ty h
    have hne := fun pos ty (h : ¬ pos < (st s).size) => run_next_end (P := Tryd.prog) w2 (st s) pos ty h
    rw [hsz] at hnx hne
    go_wp2_with fail
    go_loopw [25] (fun u wr => ∃ pos : Nat, wr = w2.iter (st s) pos ∧ Hid (R = scanP s pos)) (fun _ wr => n - wr.iterPos w2.heap.size)
    case atStart => exact ⟨0, rfl, HS2⟩
    case round =>
      obtain ⟨pos, rfl, HP⟩ := hrel
      have HB9 := Lib.hid (fun q => HB.out.trans ((below_iter w2 (st s) q).mono HB.out.size))
      by_cases hlt : pos < n
      · have hx := fun ty => hnx pos ty hlt
        have HST := Lib.hid (scanP_step (s := s) (i := pos) (by rw [HL.out]; exact hlt))
        have hle := decode_le (st s) pos
        have HPO := Lib.hid (decode_pos (st s) pos)
        have HGD := Lib.hid (show plainR s pos = !(decide ((Utf8.decode (st s) pos).1 < 32) || decide ((Utf8.decode (st s) pos).1 = 127) || decide ((Utf8.decode (st s) pos).1 = 47)) from rfl)
        obtain ⟨r, hr⟩ : ∃ r, (Utf8.decode (st s) pos).1 = r := ⟨_, rfl⟩
        obtain ⟨wd, hwd⟩ : ∃ wd, (Utf8.decode (st s) pos).2 = wd := ⟨_, rfl⟩
        rw [hr] at hle HGD
        rw [hwd] at HST HPO
        simp only [hr, hwd] at hx
        have HF := Lib.hid (show plainR s pos = false → R = false from fun h => by rw [HP.out, HST.out, h]; rfl)
        have HT := Lib.hid (show plainR s pos = true → R = scanP s (pos + wd) from fun h => by rw [HP.out, HST.out, h]; rfl)
        clear hnx hne hr hwd
        by_cases c2 : r = 47
        · have f2 : ((r : Int) == 47) = true := by simp; omega
          obtain rfl : R = false := HF.out (by rw [HGD.out, decide_eq_true c2]; simp)
          go_wp2_with fail
          go_ret
          exact ⟨rfl, HB9.out _⟩
        have f2 : ((r : Int) == 47) = false := by simp; omega
        by_cases c0 : r < 32
        · have f0 : (r : Int) < 32 := by omega
          obtain rfl : R = false := HF.out (by rw [HGD.out, decide_eq_true c0]; rfl)
          go_wp2_with fail
          go_ret
          exact ⟨rfl, HB9.out _⟩
        have f0 : ¬ (r : Int) < 32 := by omega
        by_cases c1 : r = 127
        · have f1 : ((r : Int) == 127) = true := by simp; omega
          obtain rfl : R = false := HF.out (by rw [HGD.out, decide_eq_true c1]; simp)
          go_wp2_with fail
          go_ret
          exact ⟨rfl, HB9.out _⟩
        have f1 : ((r : Int) == 127) = false := by simp; omega
        have HN2 := Lib.hid (HT.out (by rw [HGD.out, decide_eq_false c0, decide_eq_false c1, decide_eq_false c2]; rfl))
        go_wp2_with fail
        go_roundw
        case rel => exact ⟨pos + wd, rfl, HN2⟩
        case measure => have := HPO.out; simp only [World.iterPos_iter]; omega
      · have hx := fun ty => hne pos ty hlt
        obtain rfl : R = true := by rw [HP.out, scanP_end (by rw [HL.out]; omega)]
        clear hnx hne
        go_wp2_with fail
        go_ret
        exact ⟨rfl, HB9.out _⟩
/-- l is the names of a path. -/
def rightL (l : List (List UInt8)) : Bool := decide (l.length ≤ 16 ∧ ∀ x ∈ l, nameL x = true)
theorem rightL_no {l : List (List UInt8)} (h : 16 < l.length ∨ ∃ x ∈ l, nameL x = false) : rightL l = false := by
  refine decide_eq_false fun ⟨q1, q2⟩ => ?_
  rcases h with h | ⟨x, hx, hn⟩
  · omega
  · rw [q2 x hx] at hn
    cases hn
set_option maxHeartbeats 4000000 in
theorem right_any {G : World → Prop} (K : PaLib G) (A : Option Addr) (ls : List (List UInt8)) (m c : Nat) (hl : ls.length = m) (hsz : ∀ x ∈ ls, x.length ≤ maxLen) (w : World) (hG : G w) (hr : RdT w w.heap.size A ls) : Calls Tryd.prog 25 #[.slice A m c] w fun e w' => e = .returned (.bool (rightL ls)) ∧ Below w.heap.size w w' := by
  obtain ⟨T, hT⟩ : ∃ T, rightL ls = T := ⟨_, rfl⟩
  rw [hT]
  have HNO := Lib.hid (fun h => hT ▸ rightL_no (l := ls) h)
  have HY := Lib.hid (show ls.length ≤ 16 → (∀ x ∈ ls, nameL x = true) → T = true from fun q1 q2 => hT ▸ decide_eq_true ⟨q1, q2⟩)
  have HL := Lib.hid hl
  have HR := Lib.hid (show ∀ W, Below w.heap.size w W → RdT W w.heap.size A ls from fun W hb => hr.below hb)
  have HZ := Lib.hid hsz
  have HG := Lib.hid (fun W hb => K.keep w W hG hb)
  clear hT hl hr hsz hG
  by_cases h16 : m > 16
  · have h1 : (m : Int) > 16 := by omega
    obtain rfl : T = false := HNO.out (.inl (by rw [HL.out]; exact h16))
    go_enter Tryd.func25, Tryd.ntmps25
    go_wp2_with fail
    go_ret
    exact ⟨rfl, Below.refl _ _⟩
  have h1 : ¬ (m : Int) > 16 := by omega
  go_enter Tryd.func25, Tryd.ntmps25
  go_wp2_with fail
  go_loopw [10] (fun i wr => ∃ k : Nat, k ≤ m ∧ i = .int .i64 (k : Nat) ∧ Hid (∀ x ∈ ls.take k, nameL x = true) ∧ Hid (Below w.heap.size w wr)) (fun i _ => m - (intOf i).toNat)
  case atStart => exact ⟨0, Nat.zero_le _, rfl, Lib.hid (by simp), Lib.hid (Below.refl _ _)⟩
  case round =>
    obtain ⟨k, hk, rfl, HA, HB⟩ := hrel
    by_cases hlt : k < m
    · have hjp : k < ls.length := by rw [HL.out]; exact hlt
      obtain ⟨g, off, rfl, hg, hcell⟩ := (HR.out _ HB.out).at_ hjp
      have HTK := Lib.hid (List.take_succ_eq_append_getElem hjp)
      have HM := Lib.hid (List.getElem_mem hjp)
      obtain ⟨nm, hnm⟩ : ∃ nm, ls[k] = nm := ⟨_, rfl⟩
      rw [hnm] at hcell HTK HM
      have KN := Lib.hid (name_any K nm (HZ.out nm HM.out) wr (HG.out wr HB.out))
      obtain ⟨N, hN⟩ : ∃ N, nameL nm = N := ⟨_, rfl⟩
      rw [hN] at KN
      have HN := Lib.hid hN
      have hi1 : (0 : Int) ≤ (k : Int) := by omega
      have hi2 : (k : Int) < (m : Int) := by omega
      clear hnm hN hjp hg
      go_wp2_with fail
      refine KN.out.mono ?_
      rintro e w3 ⟨rfl, hb⟩
      have HB3 := Lib.hid (HB.out.trans (hb.mono HB.out.size))
      clear hb KN
      cases N with
      | false =>
        obtain rfl : T = false := HNO.out (.inr ⟨nm, HM.out, HN.out⟩)
        go_wp2_with fail
        go_ret
        exact ⟨rfl, HB3.out⟩
      | true =>
        go_wp2_with fail
        go_roundw
        case rel =>
          refine ⟨k + 1, hlt, by simp, Lib.hid ?_, HB3⟩
          rw [HTK.out]
          intro x hx
          rcases List.mem_append.1 hx with h | h
          · exact HA.out x h
          · rw [List.mem_singleton.1 h]; exact HN.out
        case measure => simp [intOf]; omega
    · have h2 : ¬ (k : Int) < (m : Int) := by omega
      obtain rfl : k = m := by omega
      obtain rfl : T = true := HY.out (by rw [HL.out]; omega) fun x hx => HA.out x (by rw [List.take_of_length_le (by rw [HL.out]; omega)]; exact hx)
      go_wp2_with fail
      go_ret
      exact ⟨rfl, HB.out⟩
end Go.Proofs.YtcpoejejmngiaaaDoor
