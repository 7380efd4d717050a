/- What package extent does, told as contracts; the walks of ExtentSlices, ExtentTwice, ExtentRights from them. No statement of the seat is proved here. -/
import Derived.Test.YtgemjipbifgbgaaExRefS
import Derived.Test.YtgemjipbifgbgaaZXAF
import Derived.Test.YtgemjipbifgbgaaZXAA
import Derived.Test.YtgemjipbifgbgaaZXAD
import Derived.Deep.MidRow
import Derived.BigFrame
namespace Go.Proofs.Ytgemjipbifgbgaa
open Go.RowKit
set_option linter.unusedVariables false
set_option linter.unusedSimpArgs false

/-- What a call that returns extents leaves to read. -/
def ReadE (w : World) (L : List RowT) (e : Ending) (w' : World) : Prop :=
  ∃ A c, e = .returned (.slice A L.length c) ∧ L.length ≤ c ∧ c ≤ maxLen ∧ RdRw w' w'.heap.size A L ∧ Below w.heap.size w w'
theorem MadeE.read {w w' : World} {L : List RowT} {e : Ending} (h : MadeE w L e w') : ReadE w L e w' := by
  obtain ⟨A, c, h1, h2, h3, h4⟩ := h
  exact ⟨A, c, h1, h2.cap.1, h2.cap.2, ⟨h2.rd extE h3, h3⟩, h4⟩
theorem slice_len (l : List RowT) (off n : Int) : (sliceE l off n).length ≤ l.length := by
  unfold sliceE
  split
  · exact cutE_length _ _ _ _
  · simp
/-- A slice of extents that is handed over. -/
structure GivenE (w : World) (A : Option Addr) (ls : List RowT) (k c : Nat) : Prop where
  len : ls.length = k
  cap : k ≤ c
  most : c ≤ maxLen
  small : k ≤ 5000
  rd : RdRw w w.heap.size A ls
theorem GivenE.on {w w' : World} {A : Option Addr} {ls : List RowT} {k c : Nat} (h : GivenE w A ls k c) (hb : Below w.heap.size w w') : GivenE w' A ls k c := ⟨h.len, h.cap, h.most, h.small, h.rd.on hb⟩
/-- What is laid of extents, right or not. -/
def layX (l : List RowT) : List UInt8 := if rightE l = true then layE l else []
structure ExtentsOk : Prop where
  right : ∀ {A ls k c w}, GivenE w A ls k c → Calls Try.prog 12 #[.slice A k c] w fun e w' => e = .returned (.bool (rightE ls)) ∧ Below w.heap.size w w'
  total : ∀ {A ls k c w}, GivenE w A ls k c → Calls Try.prog 14 #[.slice A k c] w fun e w' => e = .returned (.int .i64 (totalE ls)) ∧ Below w.heap.size w w'
  slice : ∀ {A ls k c w}, GivenE w A ls k c → ∀ {off n : Int}, In64 off → In64 n → Calls Try.prog 20 #[.slice A k c, .int .i64 off, .int .i64 n] w fun e w' => ReadE w (sliceE ls off n) e w'
  keys : ∀ {A ls k c w}, GivenE w A ls k c → Calls Try.prog 17 #[.slice A k c] w fun e w' => ∃ A' c', e = .returned (.slice A' (keysE ls).length c') ∧ RdK w' w'.heap.size A' (keysE ls) ∧ Below w.heap.size w w'
  lay : ∀ {A ls k c w}, GivenE w A ls k c → Calls Try.prog 24 #[.slice A k c] w fun e w' => ∃ A' c', e = .returned (.tuple #[.slice A' (layX ls).length c', .int .i64 (if rightE ls = true then 0 else 1)]) ∧ (layX ls).length ≤ c' ∧ c' ≤ maxLen ∧ Rd w' w'.heap.size A' (layX ls) ∧ Below w.heap.size w w'
  take : ∀ {A} {b : List UInt8} {n c w}, b.length = n → n ≤ c → c ≤ maxLen → n ≤ 100000 → Rd w w.heap.size A b → Calls Try.prog 26 #[.slice A n c] w fun e w' => ∃ A' c', e = .returned (.tuple #[.slice A' (takeE b).length c', .int .i64 (if takeOk b = true then 0 else 160)]) ∧ (takeE b).length ≤ c' ∧ c' ≤ maxLen ∧ RdRw w' w'.heap.size A' (takeE b) ∧ Below w.heap.size w w'
  join : ∀ {A} {L : List LsT} {k c w}, L.length = k → k ≤ 10 → RdLs w w.heap.size A L → Calls Try.prog 22 #[.slice A k c] w fun e w' => ReadE w (joinE (L.map (·.2))) e w'
theorem few_any (A : Option Addr) (n c m : Nat) (w : World) (hm : m = min n 500) (hc : n ≤ c) (hc2 : c ≤ 9223372036854775807) :
    Calls Try.prog 10 #[.slice A n c] w fun e w' => e = .returned (.slice A m c) ∧ w = w' := by
  by_cases h : n ≤ 500
  · obtain rfl : m = n := by omega
    clear hm
    have h2 : (m : Int) ≤ 500 := by omega
    have h1 : ¬ (500 : Int) < (m : Int) := by omega
    go_enter Try.func10, Try.ntmps10
    go_wp2
    go_ret
    exact ⟨rfl, rfl⟩
  · obtain rfl : m = 500 := by omega
    clear hm
    have h2 : ¬ (n : Int) ≤ 500 := by omega
    have h1 : (500 : Int) < (n : Int) := by omega
    go_enter Try.func10, Try.ntmps10
    go_wp2
    go_ret
    exact ⟨rfl, rfl⟩
def ShownE : Prop := ∀ w, Calls Try.prog 11 #[] w fun e w' => e = .returned (.bool true) ∧ Below w.heap.size w w'
theorem same_true (Y X : Option Addr) (L : List RowT) (u z x : Nat) (hu : L.length = u) (hk : u ≤ 20000) (w : World) (h1 : RdRw w w.heap.size Y L) (h2 : RdRw w w.heap.size X L) :
    Calls Try.prog 19 #[.slice Y u z, .slice X u x] w fun e w' => e = .returned (.bool true) ∧ Below w.heap.size w w' := by
  have := rexsame_any Y L u z X L u x hu hu hk w h1 h2
  rwa [decide_eq_true rfl] at this
/-- The first 500. -/
theorem few_given {A : Option Addr} {n c : Nat} {ls : List RowT} (hl : ls.length = n) (hc : n ≤ c) (hm : c ≤ maxLen) {w : World} (hr : RdRw w w.heap.size A ls) : GivenE w A (ls.take 500) (min n 500) c :=
  ⟨by rw [List.length_take, hl]; omega, by omega, hm, by omega, hr.take 500⟩
set_option maxRecDepth 100000 in
set_option maxHeartbeats 4000000 in
theorem slices_walk (K : ExtentsOk) (SH : ShownE) (A : Option Addr) (n c : Nat) (ls : List RowT) (hl : ls.length = n) (hc : n ≤ c) (hm : c ≤ maxLen) (off q : Int) (ho : In64 off) (hq : In64 q) (w : World) (hr : RdRw w w.heap.size A ls) :
    Calls Try.prog 4 #[.slice A n c, .int .i64 off, .int .i64 q] w fun e w' => e = .returned (.bool true) ∧ Below w.heap.size w w' := by
  obtain ⟨m, hm'⟩ : ∃ m, m = min n 500 := ⟨_, rfl⟩
  have HG := Lib.hid (few_given hl hc hm hr)
  rw [← hm'] at HG
  obtain ⟨l, hle⟩ : ∃ l, ls.take 500 = l := ⟨_, rfl⟩
  rw [hle] at HG
  have KF := Lib.hid (fun W => few_any A n c m W hm' hc hm)
  have KS := Lib.hid (fun W (h : GivenE W A l m c) => K.slice h ho hq)
  have KR := Lib.hid (fun W (h : GivenE W A l m c) => rexslice_any A l m c h.len (by omega) off q ho hq W h.rd)
  have HSL := Lib.hid (show (sliceE l off q).length ≤ 20000 by
    have h1 := slice_len l off q
    rw [HG.out.len] at h1
    omega)
  generalize sliceE l off q = L at *
  obtain ⟨u, hu⟩ : ∃ u, L.length = u := ⟨_, rfl⟩
  have HU := Lib.hid hu
  have KSH := Lib.hid (SH w)
  clear SH hl hr hle hm' hu hm hc ho hq
  go_enter Try.func4, Try.ntmps4
  go_wp2_with fail
  refine KSH.out.mono ?_
  rintro e w1 ⟨rfl, hb1⟩
  have HG1 := Lib.hid (HG.out.on hb1)
  have HB1 := Lib.hid hb1
  clear hb1 KSH
  go_wp2_with fail
  refine (KF.out w1).mono ?_
  rintro e w1b ⟨rfl, rfl⟩
  go_wp2_with fail
  refine (KS.out w1 HG1.out).mono ?_
  rintro e w2 ⟨Y, z, rfl, _, _, hry, hb2⟩
  have HG2 := Lib.hid (HG1.out.on hb2)
  have HB2 := Lib.hid (HB1.out.trans (hb2.mono HB1.out.size))
  have HRY := Lib.hid hry
  rw [HU.out]
  clear hb2 hry HB1 HG1
  go_wp2_with fail
  refine (KF.out w2).mono ?_
  rintro e w2b ⟨rfl, rfl⟩
  go_wp2_with fail
  refine (KR.out w2 HG2.out).mono ?_
  rintro e w3 hmade
  obtain ⟨X, x, rfl, _, _, hrx, hb3⟩ := hmade.read
  have HB3 := Lib.hid (HB2.out.trans (hb3.mono HB2.out.size))
  have HSM := Lib.hid (same_true Y X L u z x HU.out (by rw [← HU.out]; exact HSL.out) w3 (HRY.out.on hb3) hrx)
  rw [HU.out]
  clear hb3 hrx hmade HB2
  go_wp2_with fail
  refine HSM.out.mono ?_
  rintro e w4 ⟨rfl, hb4⟩
  have HB4 := Lib.hid (HB3.out.trans (hb4.mono HB3.out.size))
  clear hb4 HSM HB3
  go_wp2_with fail
  go_ret
  exact ⟨rfl, HB4.out⟩
set_option maxRecDepth 100000 in
set_option maxHeartbeats 4000000 in
theorem rights_walk (K : ExtentsOk) (SH : ShownE) (A : Option Addr) (n c : Nat) (ls : List RowT) (hl : ls.length = n) (hc : n ≤ c) (hm : c ≤ maxLen) (w : World) (hr : RdRw w w.heap.size A ls) :
    Calls Try.prog 3 #[.slice A n c] w fun e w' => e = .returned (.bool true) ∧ Below w.heap.size w w' := by
  obtain ⟨m, hm'⟩ : ∃ m, m = min n 500 := ⟨_, rfl⟩
  have HG := Lib.hid (few_given hl hc hm hr)
  rw [← hm'] at HG
  obtain ⟨l, hle⟩ : ∃ l, ls.take 500 = l := ⟨_, rfl⟩
  rw [hle] at HG
  have KF := Lib.hid (fun W => few_any A n c m W hm' hc hm)
  have K1 := Lib.hid (fun W (h : GivenE W A l m c) => K.right h)
  have K2 := Lib.hid (fun W (h : GivenE W A l m c) => rexright_any A l m c h.len W h.rd)
  have K3 := Lib.hid (fun W (h : GivenE W A l m c) => K.total h)
  have K4 := Lib.hid (fun W (h : GivenE W A l m c) => rextotal_any A l m c h.len W h.rd)
  have K5 := Lib.hid (fun W (h : GivenE W A l m c) => K.keys h)
  have K6 := Lib.hid (fun W (h : GivenE W A l m c) => rexkeys_any A l m c h.len (by have := h.small; omega) W h.rd)
  have HKL := Lib.hid (show (keysE l).length ≤ 3000 by
    have h1 := keysE_length l
    rw [HG.out.len] at h1
    omega)
  generalize rightE l = R at *
  generalize totalE l = T at *
  generalize keysE l = L at *
  obtain ⟨u, hu⟩ : ∃ u, L.length = u := ⟨_, rfl⟩
  have HU := Lib.hid hu
  have KSH := Lib.hid (SH w)
  clear SH hl hr hle hm' hu hm hc
  go_enter Try.func3, Try.ntmps3
  go_wp2_with fail
  refine (KF.out w).mono ?_
  rintro e w1b ⟨rfl, rfl⟩
  go_wp2_with fail
  refine KSH.out.mono ?_
  rintro e w1 ⟨rfl, hb1⟩
  have HG1 := Lib.hid (HG.out.on hb1)
  have HB1 := Lib.hid hb1
  clear hb1 KSH
  go_wp2_with fail
  refine (K1.out w1 HG1.out).mono ?_
  rintro e w2 ⟨rfl, hb⟩
  have HG2 := Lib.hid (HG1.out.on hb)
  have HB2 := Lib.hid (HB1.out.trans (hb.mono HB1.out.size))
  clear hb HB1 HG1
  go_wp2_with fail
  refine (K2.out w2 HG2.out).mono ?_
  rintro e w3 ⟨rfl, hb⟩
  have HG3 := Lib.hid (HG2.out.on hb)
  have HB3 := Lib.hid (HB2.out.trans (hb.mono HB2.out.size))
  clear hb HB2 HG2
  go_wp2_with fail
  refine (K3.out w3 HG3.out).mono ?_
  rintro e w4 ⟨rfl, hb⟩
  have HG4 := Lib.hid (HG3.out.on hb)
  have HB4 := Lib.hid (HB3.out.trans (hb.mono HB3.out.size))
  clear hb HB3 HG3
  go_wp2_with fail
  refine (K4.out w4 HG4.out).mono ?_
  rintro e w5 ⟨rfl, hb⟩
  have HG5 := Lib.hid (HG4.out.on hb)
  have HB5 := Lib.hid (HB4.out.trans (hb.mono HB4.out.size))
  clear hb HB4 HG4
  go_wp2_with fail
  refine (K5.out w5 HG5.out).mono ?_
  rintro e w6 ⟨Y, y, rfl, hry, hb⟩
  have HG6 := Lib.hid (HG5.out.on hb)
  have HB6 := Lib.hid (HB5.out.trans (hb.mono HB5.out.size))
  have HRY := Lib.hid hry
  rw [HU.out]
  clear hb HB5 HG5 hry
  go_wp2_with fail
  refine (K6.out w6 HG6.out).mono ?_
  rintro e w7 ⟨X, x, rfl, hox, hkx, hb⟩
  have HB7 := Lib.hid (HB6.out.trans (hb.mono HB6.out.size))
  have HSM := Lib.hid (rsamekeys_any Y L u y X L u x HU.out HU.out (by have := HKL.out; rw [HU.out] at this; omega) w7 (HRY.out.on hb) ⟨hox.rd keyE hkx, hkx⟩)
  rw [HU.out]
  clear hb HB6 HG6 hox hkx
  rw [decide_eq_true rfl] at HSM
  go_wp2_with fail
  refine HSM.out.mono ?_
  rintro e w8 ⟨rfl, hb⟩
  have HB8 := Lib.hid (HB7.out.trans (hb.mono HB7.out.size))
  clear hb HSM HB7
  go_wp2_with fail
  go_ret
  exact ⟨rfl, HB8.out⟩
set_option maxRecDepth 100000 in
set_option maxHeartbeats 4000000 in
theorem twice_walk (K : ExtentsOk) (SH : ShownE) (A : Option Addr) (n c : Nat) (ls : List RowT) (hl : ls.length = n) (hc : n ≤ c) (hm : c ≤ maxLen) (a b d f : Nat) (ha : a < 65536) (hb : b < 65536) (hd : d < 65536) (hf : f < 65536) (w : World) (hr : RdRw w w.heap.size A ls) :
    Calls Try.prog 8 #[.slice A n c, .agg #[.int .u16 a, .int .u16 b, .int .u16 d, .int .u16 f]] w fun e w' => e = .returned (.bool true) ∧ Below w.heap.size w w' := by
  obtain ⟨m, hm'⟩ : ∃ m, m = min n 500 := ⟨_, rfl⟩
  have HG := Lib.hid (few_given hl hc hm hr)
  rw [← hm'] at HG
  obtain ⟨l, hle⟩ : ∃ l, ls.take 500 = l := ⟨_, rfl⟩
  rw [hle] at HG
  obtain ⟨mv, hmv⟩ : ∃ v, (if (b : Int) - (d : Int) < (f : Int) then (b : Int) - (d : Int) else (f : Int)) = v := ⟨_, rfl⟩
  obtain ⟨T, hT⟩ : ∃ T, totalE l = T := ⟨_, rfl⟩
  have hTb : 0 ≤ T ∧ T ≤ 67108864 := by
    rw [← hT]
    unfold totalE
    split
    · rename_i h
      exact right_sum h
    · omega
  obtain ⟨tv, htv⟩ : ∃ v, (if (0 : Int) < (if T - (a : Int) < (b : Int) then T - (a : Int) else (b : Int)) then (if T - (a : Int) < (b : Int) then T - (a : Int) else (b : Int)) else (0 : Int)) = v := ⟨_, rfl⟩
  have hmv2 : mv = min (f : Int) ((b : Int) - (d : Int)) := by rw [← hmv]; split <;> omega
  have htv2 : tv = max 0 (min (b : Int) (T - (a : Int))) := by rw [← htv]; split <;> (split at * <;> omega)
  have KF := Lib.hid (fun W => few_any A n c m W hm' hc hm)
  have KA := Lib.hid (fun W (h : GivenE W A l m c) => K.slice h (off := a) (n := b) ⟨by omega, by omega⟩ ⟨by omega, by omega⟩)
  have KC := Lib.hid (fun W (h : GivenE W A l m c) => K.slice h (off := (a : Int) + (d : Int)) (n := mv) ⟨by omega, by omega⟩ ⟨by omega, by omega⟩)
  have KT := Lib.hid (fun W (h : GivenE W A l m c) => K.total h)
  have e1 := slice_slice l (off := a) (n := b) (from_ := d) (m := f) (by omega) (by omega) (by omega) (by omega)
  rw [← hmv2] at e1
  have e2 := slice_total l (off := a) (n := b) (by omega) (by omega)
  rw [hT, ← htv2] at e2
  rw [hT] at KT
  have h1 := slice_len l a b
  have h2 := slice_len (sliceE l a b) d f
  rw [HG.out.len] at h1
  rw [← e1] at KC
  obtain ⟨P, hP⟩ : ∃ P, sliceE l a b = P := ⟨_, rfl⟩
  obtain ⟨Q, hQ⟩ : ∃ Q, sliceE P d f = Q := ⟨_, rfl⟩
  rw [hP] at KA e2 h1 h2 KC
  rw [hQ] at h2 KC
  obtain ⟨p, hp⟩ : ∃ p, P.length = p := ⟨_, rfl⟩
  obtain ⟨q, hq⟩ : ∃ q, Q.length = q := ⟨_, rfl⟩
  rw [hp] at h1 h2
  rw [hq] at h2
  have hg5 := HG.out.small
  have KB := Lib.hid (fun W Y y (h : GivenE W Y P p y) => by
    have := K.slice h (off := d) (n := f) ⟨by omega, by omega⟩ ⟨by omega, by omega⟩
    rwa [hQ] at this)
  have KU := Lib.hid (fun W Y y (h : GivenE W Y P p y) => by
    have := K.total h
    rwa [e2] at this)
  have HPQ := Lib.hid (show P.length = p ∧ Q.length = q ∧ p ≤ 5000 ∧ q ≤ 5000 from ⟨hp, hq, by omega, by omega⟩)
  have KSH := Lib.hid (fun W => SH W)
  have t1 := hTb.1
  have t2 := hTb.2
  have a64 : IntKind.i64.wrap (a : Int) = a := by rw [IntKind.wrap_i64]; omega
  have b64 : IntKind.i64.wrap (b : Int) = b := by rw [IntKind.wrap_i64]; omega
  have d64 : IntKind.i64.wrap (d : Int) = d := by rw [IntKind.wrap_i64]; omega
  have f64 : IntKind.i64.wrap (f : Int) = f := by rw [IntKind.wrap_i64]; omega
  obtain ⟨w1, hw1⟩ : ∃ w1, w.alloc (.cells #[.int .u16 a, .int .u16 b, .int .u16 d, .int .u16 f] 53) = w1 := ⟨_, rfl⟩
  obtain ⟨tb, htb⟩ : ∃ tb, w.heap.size = tb := ⟨_, rfl⟩
  have hb1 : Below w.heap.size w w1 := hw1 ▸ (Below.refl _ _).alloc (Nat.le_refl _) _
  have HTB := Lib.hid (show Blk w1 tb 53 #[.int .u16 a, .int .u16 b, .int .u16 d, .int .u16 f] by rw [← hw1, ← htb]; exact Blk.new w _ _)
  have HG1 := Lib.hid (HG.out.on hb1)
  have HB1 := Lib.hid hb1
  have HW := Lib.hid (And.intro hw1 htb)
  clear SH hl hr hle hm' hm hc hT hTb hmv2 htv2 e1 e2 h1 h2 hP hQ hp hq hg5 hw1 htb hb1 HG
  go_enter Try.func8, Try.ntmps8
  go_upto_region 1 with fail
  rw [HW.out.1, HW.out.2]
  clear HW
  go_wp2_with fail
  refine (KSH.out w1).mono ?_
  rintro e w2 ⟨rfl, hb⟩
  have HG2 := Lib.hid (HG1.out.on hb)
  have HB2 := Lib.hid (HB1.out.trans (hb.mono HB1.out.size))
  have HT2 := Lib.hid (HTB.out.below hb HTB.out.lt)
  clear hb KSH HB1 HG1 HTB
  go_wp2_with fail
  refine (KF.out w2).mono ?_
  rintro e w2b ⟨rfl, rfl⟩
  have c0 := HT2.out.cell 0
  have c1 := HT2.out.cell 1
  have c2 := HT2.out.cell 2
  have c3 := HT2.out.cell 3
  go_wp2_with fail
  go_quiet (fail)
  obtain ⟨w3, hw3⟩ : ∃ w3, w2.drewN nq = w3 := ⟨_, rfl⟩
  have hbq : Below w2.heap.size w2 w3 := hw3 ▸ below_drewN (Below.refl w2.heap.size w2) nq
  rw [hw3]
  have HG3 := Lib.hid (HG2.out.on hbq)
  have HB3 := Lib.hid (HB2.out.trans (hbq.mono HB2.out.size))
  clear hw3 hbq HG2 HB2 c0 c1 c2 c3 HT2
  go_wp2_with fail
  refine (KA.out w3 HG3.out).mono ?_
  rintro e w4 ⟨Y, y, rfl, hy1, hy2, hry, hb⟩
  rw [HPQ.out.1] at hy1
  have HY4 := Lib.hid (show GivenE w4 Y P p y from ⟨HPQ.out.1, hy1, hy2, HPQ.out.2.2.1, hry⟩)
  have HG4 := Lib.hid (HG3.out.on hb)
  have HB4 := Lib.hid (HB3.out.trans (hb.mono HB3.out.size))
  rw [HPQ.out.1]
  clear hb hry hy1 hy2 HB3 HG3
  go_wp2_with fail
  refine (KB.out w4 Y y HY4.out).mono ?_
  rintro e w5 ⟨Z, z, rfl, _, _, hrz, hb⟩
  have HZ5 := Lib.hid hrz
  have HY5 := Lib.hid (HY4.out.on hb)
  have HG5 := Lib.hid (HG4.out.on hb)
  have HB5 := Lib.hid (HB4.out.trans (hb.mono HB4.out.size))
  rw [HPQ.out.2.1]
  clear hb hrz HB4 HG4 HY4
  go_wp2_with fail
  refine (KC.out w5 HG5.out).mono ?_
  rintro e w6 ⟨X, x, rfl, _, _, hrx, hb⟩
  have HSM := Lib.hid (same_true Z X Q q z x HPQ.out.2.1 (by have := HPQ.out.2.2.2; omega) w6 (HZ5.out.on hb) hrx)
  have HY6 := Lib.hid (HY5.out.on hb)
  have HG6 := Lib.hid (HG5.out.on hb)
  have HB6 := Lib.hid (HB5.out.trans (hb.mono HB5.out.size))
  rw [HPQ.out.2.1]
  clear hb hrx HB5 HG5 HY5 HZ5
  go_wp2_with fail
  refine HSM.out.mono ?_
  rintro e w7 ⟨rfl, hb⟩
  have HY7 := Lib.hid (HY6.out.on hb)
  have HG7 := Lib.hid (HG6.out.on hb)
  have HB7 := Lib.hid (HB6.out.trans (hb.mono HB6.out.size))
  clear hb HB6 HG6 HY6 HSM
  go_wp2_with fail
  refine (KU.out w7 Y y HY7.out).mono ?_
  rintro e w8 ⟨rfl, hb⟩
  have HG8 := Lib.hid (HG7.out.on hb)
  have HB8 := Lib.hid (HB7.out.trans (hb.mono HB7.out.size))
  clear hb HB7 HG7 HY7
  go_wp2_with fail
  refine (KT.out w8 HG8.out).mono ?_
  rintro e w9 ⟨rfl, hb⟩
  have HB9 := Lib.hid (HB8.out.trans (hb.mono HB8.out.size))
  clear hb HB8 HG8
  go_wp2_with fail
  all_goals
    go_ret
    exact ⟨rfl, HB9.out⟩
end Go.Proofs.Ytgemjipbifgbgaa
/- A row of many cells loaded out of a block's middle, at an operation whose guard says yes. No statement of the seat is proved here. -/
namespace Go.Proofs.Ytgemjipbifgbgaa
open Go.RowKit

/-- A row out of the middle of a block, loaded by a guarded operation. -/
theorem wpList_mid_want {P : Program} {ops : Array Oper} {rest : List Oper} {o : Oper} {a : Act} {w : World} {Q : Exit → Act → World → Prop} (hgd : Region.wanted o (yielded ops a.tmps) = true) (ty : TypeId) (x : Operand) (ho : o.op = .load ty x)
    (b of : Nat) (hx : a.eval x = .pointer (some ⟨b, of, none⟩)) (cs : List Value) (d : TypeDesc) (hc : w.rangeAt b of cs) (hu : P.underlying ty = some d) (hd : d.isRow = true) (hi : (P.info? ty).map (·.size) = some cs.length)
    (h : wpList P ops Q rest (a.put o.dst (.agg cs.toArray)) w) : wpList P ops Q (o :: rest) a w :=
  BigFrame.wpList_want hgd fun _ hK => wp_load_mid ty x ho b of hx cs d hc hu hd hi (hK _ _ h)
end Go.Proofs.Ytgemjipbifgbgaa
/- Struct literals of two and three parts, slice literals of two elements, at operations whose guard says yes (or that have none). For every stage. No statement of the seat is proved here. -/
namespace Go.Proofs.Ytgemjipbifgbgaa
open Go.RowKit
set_option linter.unusedVariables false
set_option linter.unusedSimpArgs false

theorem wpList_built3 {P : Program} {ops : Array Oper} {rest : List Oper} {o : Oper} {a : Act} {w : World} {Q : Exit → Act → World → Prop} (hgd : Region.wanted o (yielded ops a.tmps) = true) (t : TypeId) (x y z : Operand) (ho : o.op = .build t #[(0, x), (1, y), (2, z)])
    (v1 v2 v3 : Value) (hx : a.eval x = v1) (hy : a.eval y = v2) (hz : a.eval z = v3) (cells : Array Value) (hc : P.built t [(0, v1), (1, v2), (2, v3)] = some cells) (h : wpList P ops Q rest (a.put o.dst (.agg cells)) w) : wpList P ops Q (o :: rest) a w :=
  BigFrame.wpList_want hgd fun K hK => by
    have := run_build w t #[(0, v1), (1, v2), (2, v3)] cells hc
    unfold Oper.wp execOp
    simp only [ho, List.map_toArray, List.map_cons, List.map_nil, hx, hy, hz, Sem.run_bind, this, Result.andThen_ok, Sem.run_pure]
    exact hK _ _ h
theorem wpList_built02 {P : Program} {ops : Array Oper} {rest : List Oper} {o : Oper} {a : Act} {w : World} {Q : Exit → Act → World → Prop} (hgd : Region.wanted o (yielded ops a.tmps) = true) (t : TypeId) (x z : Operand) (ho : o.op = .build t #[(0, x), (2, z)])
    (v1 v3 : Value) (hx : a.eval x = v1) (hz : a.eval z = v3) (cells : Array Value) (hc : P.built t [(0, v1), (2, v3)] = some cells) (h : wpList P ops Q rest (a.put o.dst (.agg cells)) w) : wpList P ops Q (o :: rest) a w :=
  BigFrame.wpList_want hgd fun K hK => by
    have := run_build w t #[(0, v1), (2, v3)] cells hc
    unfold Oper.wp execOp
    simp only [ho, List.map_toArray, List.map_cons, List.map_nil, hx, hz, Sem.run_bind, this, Result.andThen_ok, Sem.run_pure]
    exact hK _ _ h
theorem fold_at : ∀ (cs : List Value) (pre : List Value) (rest : List Value) (n : Nat), pre.length = n → rest.length = cs.length → ∀ tail : List Value, List.foldl (fun (z : Array Value) (x : Value × Nat) => z.setIfInBounds (n + x.2) x.1) (pre ++ rest ++ tail).toArray cs.zipIdx = (pre ++ cs ++ tail).toArray := by
  have key : ∀ (cs pre done rest tail : List Value), rest.length = cs.length → List.foldl (fun (z : Array Value) (x : Value × Nat) => z.setIfInBounds (pre.length + x.2) x.1) (pre ++ (done ++ rest) ++ tail).toArray (cs.zipIdx done.length) = (pre ++ (done ++ cs) ++ tail).toArray := by
    intro cs
    induction cs with
    | nil =>
      intro pre done rest tail h
      rw [List.eq_nil_of_length_eq_zero h]
      rfl
    | cons c cs ih =>
      intro pre done rest tail h
      cases rest with
      | nil => simp at h
      | cons r rest =>
        rw [List.zipIdx_cons, List.foldl_cons]
        have e : (pre ++ (done ++ r :: rest) ++ tail).toArray.setIfInBounds (pre.length + done.length) c = (pre ++ ((done ++ [c]) ++ rest) ++ tail).toArray := by
          rw [List.setIfInBounds_toArray]
          congr 1
          rw [List.append_assoc, List.append_assoc, List.append_assoc, List.append_assoc, List.set_append_right _ _ (by omega), show pre.length + done.length - pre.length = done.length by omega]
          congr 1
          rw [List.append_assoc, List.set_append_right _ _ (Nat.le_refl _), Nat.sub_self]
          simp
        show List.foldl _ ((pre ++ (done ++ r :: rest) ++ tail).toArray.setIfInBounds (pre.length + done.length) c) _ = _
        rw [e, show done.length + 1 = (done ++ [c]).length by simp, ih pre (done ++ [c]) rest tail (by simpa using h)]
        simp
  intro cs pre rest n hn hr tail
  subst hn
  have := key cs pre [] rest tail hr
  simpa using this
section
variable {P : Program} {α : Type} {t e : TypeId} {sz : Nat} {g : α → List Value} {Q : α → Prop}
theorem run_buildTwo (E : Elem P t e sz g Q) {x y : α} (hx : Q x) (hy : Q y) (W : World) : (Instr.buildSlice t 2 #[(0, .agg (g x).toArray), (1, .agg (g y).toArray)]).run P W = .ok (.slice (some ⟨W.heap.size, 0, none⟩) 2 2) (W.alloc (.cells (g x ++ g y).toArray e)) := by
  obtain ⟨i, z, hi, hz, hsize, hzs, hby⟩ := E.info
  have hl := E.len x hx
  have hl2 := E.len y hy
  have hp := E.pos
  have hm := E.most
  have h1 : ¬ (2 ^ 24 < sz) := by omega
  have h2 : ¬ (sz = 0) := by omega
  have hf1 : ∀ Z : Array Value, Z.size = 2 * sz → List.foldl (fun (cs : Array Value) (x : Value × Nat) => cs.setIfInBounds x.2 x.1) Z (g x).zipIdx = (g x ++ Z.toList.drop sz).toArray := fun Z hZ => by
    have h := fold_at (g x) [] (Z.toList.take sz) 0 rfl (by rw [List.length_take, hl]; simp; omega) (Z.toList.drop sz)
    simpa using h
  have hf2 : ∀ T : List Value, T.length = sz → List.foldl (fun (cs : Array Value) (x : Value × Nat) => cs.setIfInBounds (sz + x.2) x.1) (g x ++ T).toArray (g y).zipIdx = (g x ++ g y).toArray := fun T hT => by
    have h := fold_at (g y) (g x) T sz hl (by rw [hT, hl2]) []
    simpa using h
  have hd : ∀ Z : Array Value, Z.size = 2 * sz → (Z.toList.drop sz).length = sz := fun Z hZ => by rw [List.length_drop]; simp; omega
  simp [Instr.buildSlice, run_underlying E.slice, sizeOf, typeInfo, zeroValue, hi, hz, hsize, h2, go_sem]
  rw [if_neg (by omega), if_neg (by omega), if_neg (by omega), hf1 _ (by simp), hf2 _ (hd _ (by simp)), if_neg (by rw [List.size_toArray, List.length_append, hd _ (by simp)]; omega)]
  rfl
theorem wp_buildTwo (E : Elem P t e sz g Q) {o : Oper} {a : Act} {w : World} {K : Act → World → Prop} {R : Exit → Act → World → Prop} (x y : Operand) (ho : o.op = .buildSlice t 2 #[(0, x), (1, y)]) {p q : α} (hp : Q p) (hq : Q q) (hx : a.eval x = .agg (g p).toArray) (hy : a.eval y = .agg (g q).toArray)
    (h : K (a.put o.dst (.slice (some ⟨w.heap.size, 0, none⟩) 2 2)) (w.alloc (.cells (g p ++ g q).toArray e))) : Oper.wp P o a w K R := by
  unfold Oper.wp execOp
  simp only [ho, hx, hy, List.map_toArray, List.map_cons, List.map_nil, Sem.run_bind, run_buildTwo E hp hq, Result.andThen_ok, Sem.run_pure]
  exact h
theorem wpList_buildTwo (E : Elem P t e sz g Q) {ops : Array Oper} {rest : List Oper} {o : Oper} {a : Act} {w : World} {R : Exit → Act → World → Prop} (hgd : Region.wanted o (yielded ops a.tmps) = true) (x y : Operand) (ho : o.op = .buildSlice t 2 #[(0, x), (1, y)]) {p q : α} (hp : Q p) (hq : Q q) (hx : a.eval x = .agg (g p).toArray) (hy : a.eval y = .agg (g q).toArray)
    (h : wpList P ops R rest (a.put o.dst (.slice (some ⟨w.heap.size, 0, none⟩) 2 2)) (w.alloc (.cells (g p ++ g q).toArray e))) : wpList P ops R (o :: rest) a w :=
  BigFrame.wpList_want hgd fun _ hK => wp_buildTwo E x y ho hp hq hx hy (hK _ _ h)
/-- A block of a list's elements reads. -/
theorem rds_list (E : Elem P t e sz g Q) {w : World} {b c : Nat} {l : List α} (h : Blk w b e (l.flatMap g).toArray) (hq : ∀ x ∈ l, Q x) : RdS w w.heap.size sz (some ⟨b, 0, none⟩) (l.map g) := fun hn => by
  refine ⟨b, 0, rfl, h.lt, fun j hj i v hv => ?_⟩
  have hj' : j < l.length := by simpa using hj
  rw [List.getElem_map] at hv
  have hi : i < sz := by
    have := (List.getElem?_eq_some_iff.1 hv).1
    rw [E.len _ (hq _ (List.getElem_mem hj'))] at this; exact this
  have h2 := E.at_ hq hj' i hi
  rw [h.cell, Nat.zero_add, List.getElem?_toArray, h2]
  exact hv
end
end Go.Proofs.Ytgemjipbifgbgaa
/- A variable of many cells is made. No statement of the seat is proved here. -/
namespace Go.Proofs.Ytgemjipbifgbgaa
open Go.RowKit
set_option linter.unusedVariables false
set_option linter.unusedSimpArgs false

/-- A variable of its own, its zero cells by a letter. -/
theorem wpList_alloc_z {ops : Array Oper} {rest : List Oper} {o : Oper} {a : Act} {w : World} {Q : Exit → Act → World → Prop} (hgd : o.guard = none) (ty : TypeId) (ho : o.op = .alloc ty) (i : TypeInfo) (z : Array Value) (hi : Try.prog.info? ty = some i) (hz : i.zero = some (.agg z))
    (h : wpList Try.prog ops Q rest (a.put o.dst (.pointer (some ⟨w.heap.size, 0, none⟩))) (w.alloc (.cells z ty))) : wpList Try.prog ops Q (o :: rest) a w := by
  refine wpList_plain hgd fun K hK => ?_
  unfold Oper.wp execOp
  have hr : (Instr.alloc ty true (.tuple #[])).run Try.prog w = .ok (.pointer (some ⟨w.heap.size, 0, none⟩)) (w.alloc (.cells z ty)) := by
    simp [Instr.alloc, zeroValue, typeInfo, hi, hz, newVar, newRow, Value.cells]
  simp only [ho, Sem.run_bind, hr, Result.andThen_ok, Sem.run_pure]
  exact hK _ _ h
theorem zero_parts {x : Option TypeInfo} {n : Nat} {z : Array Value} (h : x.map (fun i => (i.zero, i.size)) = some (some (.agg z), n)) : ∃ i, x = some i ∧ i.zero = some (.agg z) ∧ i.size = n := by
  cases x with
  | none => cases h
  | some i =>
    refine ⟨i, rfl, ?_⟩
    simp only [Option.map_some, Option.some.injEq, Prod.mk.injEq] at h
    exact h
end Go.Proofs.Ytgemjipbifgbgaa
