/- The landed paths: Parse, Text. No statement of the seat is proved here. -/
import Derived.Test.YtcpoejejmngiaaaDoorPaLandA
namespace Go.Proofs.YtcpoejejmngiaaaDoor
open Go.RowKit
set_option linter.unusedVariables false
set_option linter.unusedSimpArgs false
set_option maxRecDepth 100000

theorem index_47 : ∀ t : List UInt8, (Lib.index t [47] = -1 ∧ (47 : UInt8) ∉ t) ∨ ∃ i : Nat, Lib.index t [47] = i ∧ t = t.take i ++ 47 :: t.drop (i + 1) ∧ (47 : UInt8) ∉ t.take i
  | [] => .inl ⟨by simp [Lib.index], by simp⟩
  | b :: l => by
    by_cases hb : b = 47
    · subst hb
      exact .inr ⟨0, by simp [Lib.index, List.isPrefixOf], by simp, by simp⟩
    · have hp : ([47] : List UInt8).isPrefixOf (b :: l) = false := by simp [List.isPrefixOf, Ne.symm hb]
      have hix : Lib.index (b :: l) [47] = if Lib.index l [47] == -1 then -1 else Lib.index l [47] + 1 := by rw [Lib.index, hp]; simp
      rcases index_47 l with ⟨h1, h2⟩ | ⟨i, h1, h2, h3⟩
      · refine .inl ⟨by rw [hix, if_pos (beq_iff_eq.2 h1)], ?_⟩
        simp [h2, Ne.symm hb]
      · refine .inr ⟨i + 1, ?_, ?_, ?_⟩
        · rw [hix, if_neg (fun e => by have := beq_iff_eq.1 e; omega), h1]
          omega
        · rw [List.take_succ_cons, List.drop_succ_cons, List.cons_append, ← h2]
        · rw [List.take_succ_cons]
          simp [h3, Ne.symm hb]
theorem splitL_pos (t : List UInt8) : 1 ≤ (splitL t).length := List.length_pos_iff.2 (splitL_ne t)
theorem splitK_few : ∀ (k : Nat) (t : List UInt8), (splitL t).length ≤ k + 1 → Lib.splitK [47] 0 k t = splitL t
  | 0, t, h => by
    rcases index_47 t with ⟨h1, h2⟩ | ⟨i, h1, h2, h3⟩
    · rw [split_one h2]; rfl
    · exfalso
      rw [h2, split_app h3, List.length_cons] at h
      have := splitL_pos (t.drop (i + 1))
      omega
  | k + 1, t, h => by
    rcases index_47 t with ⟨h1, h2⟩ | ⟨i, h1, h2, h3⟩
    · rw [split_one h2, Lib.splitK, if_pos (beq_iff_eq.2 h1)]
    · have hs : splitL t = t.take i :: splitL (t.drop (i + 1)) := by
        conv => lhs; rw [h2]
        exact split_app h3 _
      rw [hs, List.length_cons] at h
      rw [hs, Lib.splitK, if_neg (fun e => by have := beq_iff_eq.1 e; omega), h1]
      have e1 : ((i : Nat) : Int).toNat + 0 = i := by omega
      have e2 : ((i : Nat) : Int).toNat + ([47] : List UInt8).length = i + 1 := by simp
      rw [e1, e2, splitK_few k _ (by omega)]
theorem splitK_many : ∀ (k : Nat) (t : List UInt8), k + 1 < (splitL t).length → (Lib.splitK [47] 0 k t).length = k + 1
  | 0, t, h => rfl
  | k + 1, t, h => by
    rcases index_47 t with ⟨h1, h2⟩ | ⟨i, h1, h2, h3⟩
    · rw [split_one h2] at h
      simp at h
    · have hs : splitL t = t.take i :: splitL (t.drop (i + 1)) := by
        conv => lhs; rw [h2]
        exact split_app h3 _
      rw [hs, List.length_cons] at h
      rw [Lib.splitK, if_neg (fun e => by have := beq_iff_eq.1 e; omega), h1]
      have e1 : ((i : Nat) : Int).toNat + 0 = i := by omega
      have e2 : ((i : Nat) : Int).toNat + ([47] : List UInt8).length = i + 1 := by simp
      rw [e1, e2, List.length_cons, splitK_many k _ (by omega)]
theorem joinL_size : ∀ l : List (List UInt8), l.length ≤ (joinL l).length
  | [] => by simp
  | x :: l => by
    have := joinL_size l
    unfold joinL at this ⊢
    rw [List.flatMap_cons, List.length_append, List.length_cons, List.length_cons]
    omega
theorem splitL_le (t : List UInt8) : (splitL t).length ≤ t.length + 1 := by
  have h := joinL_size (splitL t)
  rw [join_split] at h
  simpa using h
/-- What SplitN gives is what Parse wants. -/
theorem cut_right (t : List UInt8) (h : t ≠ []) : (rightL (cutL t) = true → parseL (47 :: t) = some (cutL t)) ∧ (rightL (cutL t) = false → parseL (47 :: t) = none) := by
  have hle := splitL_le t
  rw [parse_slash h]
  by_cases hf : (splitL t).length ≤ 17
  · have hc : cutL t = splitL t := splitK_few _ _ (by omega)
    rw [hc]
    constructor
    · intro hr
      obtain ⟨q1, q2⟩ := of_decide_eq_true hr
      rw [if_pos ⟨q1, List.all_eq_true.2 q2⟩]
    · intro hr
      have hn := of_decide_eq_false hr
      rw [if_neg fun ⟨q1, q2⟩ => hn ⟨q1, fun x hx => List.all_eq_true.1 q2 x hx⟩]
  · have hc : (cutL t).length = 17 := by
      have := splitK_many (min 17 (t.length + 1) - 1) t (by omega)
      unfold cutL
      rw [this]
      omega
    constructor
    · intro hr
      have := (of_decide_eq_true hr).1
      omega
    · intro _
      rw [if_neg (by omega)]
theorem cut_len (t : List UInt8) : (cutL t).length ≤ 17 := by
  by_cases h : (splitL t).length ≤ 17
  · have hle := splitL_le t
    rw [show cutL t = splitL t from splitK_few _ _ (by omega)]
    exact h
  · have hle := splitL_le t
    have := splitK_many (min 17 (t.length + 1) - 1) t (by omega)
    unfold cutL
    omega
theorem splitK_size : ∀ (k : Nat) (t : List UInt8), ∀ x ∈ Lib.splitK [47] 0 k t, x.length ≤ t.length
  | 0, t, x, hx => by rw [List.mem_singleton.1 hx]; exact Nat.le_refl _
  | k + 1, t, x, hx => by
    rw [Lib.splitK] at hx
    split at hx
    · rw [List.mem_singleton.1 hx]; exact Nat.le_refl _
    · rcases List.mem_cons.1 hx with rfl | h
      · rw [List.length_take]; omega
      · have := splitK_size k _ x h
        rw [List.length_drop] at this
        omega
set_option maxHeartbeats 4000000 in
theorem parse_any {G : World → Prop} (K : PaLib G) (s : List UInt8) (hs : s.length ≤ 100000) (w : World) (hG : G w) : Calls Tryd.prog 10 #[.string (st s)] w fun e w' => ∃ A c, e = .returned (.tuple #[.slice A (parseD s).length c, .int .i64 (parseE s)]) ∧ (parseD s).length ≤ c ∧ c ≤ maxLen ∧ RdT w' w'.heap.size A (parseD s) ∧ Below w.heap.size w w' := by
  by_cases d0 : s = [47]
  · subst d0
    rw [show parseD [47] = [] by simp [parseD, parse_root], show parseE [47] = 0 by simp [parseE, parse_root]]
    go_enter Tryd.func10, Tryd.ntmps10
    go_wp2_with fail
    go_ret2
    exact ⟨none, 0, rfl, Nat.le_refl _, by decide, RdT.nil _ _ _, Below.refl _ _⟩
  have e0 : (s == [47]) = false := by simpa using d0
  by_cases d1 : ∃ t, s = 47 :: t
  · obtain ⟨t, rfl⟩ := d1
    have hne : t ≠ [] := fun h => d0 (by rw [h])
    obtain ⟨hY, hN⟩ := cut_right t hne
    have htl : t.length ≤ 100000 := by simp at hs; omega
    have hsz : ∀ x ∈ cutL t, x.length ≤ 100000 := fun x hx => Nat.le_trans (splitK_size _ t x hx) htl
    have HC1 := Lib.hid (K.cutYes t w)
    have HC2 := Lib.hid (K.splitN t htl w hG)
    have HY := Lib.hid hY
    have HN := Lib.hid hN
    have HZ := Lib.hid hsz
    have HG := Lib.hid hG
    obtain ⟨L, hL⟩ : ∃ L, cutL t = L := ⟨_, rfl⟩
    have hlen : L.length ≤ 17 := hL ▸ cut_len t
    rw [hL] at HC2 HY HN HZ
    have HF := Lib.hid (fun h => parse_yes (HY.out h))
    have HF2 := Lib.hid (fun h => parse_no (HN.out h))
    obtain ⟨D, hD⟩ : ∃ D, parseD (47 :: t) = D := ⟨_, rfl⟩
    obtain ⟨E, hE⟩ : ∃ E, parseE (47 :: t) = E := ⟨_, rfl⟩
    rw [hD, hE] at HF HF2
    rw [hD, hE]
    clear hs hY hN hsz hL hD hE hG hne HY HN d0
    go_enter Tryd.func10, Tryd.ntmps10
    go_wp2_with fail
    refine HC1.out.mono ?_
    rintro e w1 ⟨rfl, rfl⟩
    clear HC1
    go_wp2_with fail
    refine HC2.out.mono ?_
    rintro e w2 ⟨A, c, rfl, hc1, hc2, hr, hb⟩
    have HB := Lib.hid hb
    have HR := Lib.hid hr
    have HK := Lib.hid (right_any K A L L.length c rfl (fun x hx => Nat.le_trans (HZ.out x hx) (by decide)) w2 (K.keep w1 w2 HG.out hb) hr)
    clear hb hr HC2
    go_wp2_with fail
    refine HK.out.mono ?_
    rintro e w3 ⟨rfl, hb⟩
    have HB3 := Lib.hid (HB.out.trans (hb.mono HB.out.size))
    have HR3 := Lib.hid (HR.out.on hb)
    clear hb HK
    obtain ⟨T, hT⟩ : ∃ T, rightL L = T := ⟨_, rfl⟩
    rw [hT] at HF HF2 ⊢
    cases T with
    | false =>
      obtain ⟨q1, q2⟩ := HF2.out rfl
      subst q1 q2
      go_wp2_with fail
      go_ret2
      exact ⟨none, 0, rfl, Nat.le_refl _, by decide, RdT.nil _ _ _, HB3.out⟩
    | true =>
      obtain ⟨q1, q2⟩ := HF.out rfl
      subst q1 q2
      go_wp2_with fail
      go_ret2
      exact ⟨A, c, rfl, hc1, Nat.le_trans hc2 (by decide), HR3.out, HB3.out⟩
  · have hno : ∀ t, s ≠ 47 :: t := fun t h => d1 ⟨t, h⟩
    obtain ⟨q1, q2⟩ := parse_no (parse_other hno)
    rw [q1, q2]
    have HC1 := Lib.hid (K.cutNo s w hno)
    clear q1 q2 hno d1 d0
    go_enter Tryd.func10, Tryd.ntmps10
    go_wp2_with fail
    refine HC1.out.mono ?_
    rintro e w1 ⟨rfl, rfl⟩
    go_wp2_with fail
    go_ret2
    exact ⟨none, 0, rfl, Nat.le_refl _, by decide, RdT.nil _ _ _, Below.refl _ _⟩
theorem join_47 : ∀ (l : List (List UInt8)), l ≠ [] → (47 : UInt8) :: Lib.join l [47] = joinL l
  | [], h => absurd rfl h
  | x :: l, _ => by
    rw [Lib.join_cons]
    unfold Lib.joinTail joinL
    rw [List.flatMap_cons, List.cons_append, ← List.flatMap_def]
    rfl
set_option maxHeartbeats 4000000 in
theorem text_any {G : World → Prop} (K : PaLib G) {A : Option Addr} {ls : List (List UInt8)} {m c : Nat} {w : World} (hl : ls.length = m) (hc : m ≤ c) (hm : m ≤ 1000) (hsz : ∀ x ∈ ls, x.length ≤ maxLen) (hG : G w) (hr : RdT w w.heap.size A ls) : Calls Tryd.prog 17 #[.slice A m c] w fun e w' => e = .returned (.tuple #[.string (st (textD ls)), .int .i64 (textE ls)]) ∧ Below w.heap.size w w' := by
  have HK := Lib.hid (right_any K A ls m c hl hsz w hG hr)
  obtain ⟨T, hT⟩ : ∃ T, rightL ls = T := ⟨_, rfl⟩
  rw [hT] at HK
  cases T with
  | false =>
    have hn : textD ls = [] ∧ textE ls = 1 := by
      refine text_no ?_
      have hn := of_decide_eq_false hT
      by_cases h : 16 < ls.length
      · exact .inl h
      · refine .inr ?_
        apply Classical.byContradiction
        intro he
        refine hn ⟨by omega, fun x hx => ?_⟩
        cases h2 : nameL x with
        | true => rfl
        | false => exact absurd ⟨x, hx, h2⟩ he
    rw [hn.1, hn.2]
    clear hn hT hr hsz
    go_enter Tryd.func17, Tryd.ntmps17
    go_wp2_with fail
    refine HK.out.mono ?_
    rintro e w1 ⟨rfl, hb⟩
    have HB := Lib.hid hb
    clear hb
    go_wp2_with fail
    go_ret2
    exact ⟨rfl, HB.out⟩
  | true =>
    obtain ⟨q1, q2⟩ := of_decide_eq_true hT
    obtain ⟨t1, t2⟩ := text_yes q1 q2
    have hx : ∀ x ∈ ls, x.length ≤ 100 := fun x hx => (name_len (q2 x hx)).2
    have hjoin : textD ls = 47 :: Lib.join ls [47] := by
      rw [t1]
      by_cases h : ls = []
      · rw [if_pos h, h]; rfl
      · rw [if_neg h, join_47 ls h]
    have hjl : (Lib.join ls [47]).length ≤ 10000 := by
      by_cases h : ls = []
      · rw [h]; decide
      · have h1 := congrArg List.length (join_47 ls h)
        have h2 := joinL_len q2
        rw [List.length_cons] at h1
        omega
    have HJ := Lib.hid (fun W (hb : Below w.heap.size w W) => K.join A ls m c W hl (hl ▸ q1) hc hx (hr.on hb))
    rw [hjoin, t2]
    obtain ⟨X, hX⟩ : ∃ X, Lib.join ls [47] = X := ⟨_, rfl⟩
    rw [hX] at HJ hjl ⊢
    have hxs : (st X).size = X.length := st_size X
    have HXA := Lib.hid (show ({ data := #[47] } : ByteArray) ++ st X = st (47 :: X) from st_app [47] X)
    have hxo : (({ data := #[47] } : ByteArray) ++ st X).size = X.length + 1 := by rw [HXA.out, st_size]; simp
    clear hX hjoin t1 t2 hx q1 q2 hT hr hsz
    go_enter Tryd.func17, Tryd.ntmps17
    go_wp2_with fail
    refine HK.out.mono ?_
    rintro e w1 ⟨rfl, hb⟩
    have HB := Lib.hid hb
    clear hb
    go_wp2_with fail
    refine (HJ.out w1 HB.out).mono ?_
    rintro e w2 ⟨rfl, hb⟩
    have HB2 := Lib.hid (HB.out.trans (hb.mono HB.out.size))
    clear hb
    go_wp2_with fail
    go_ret2
    exact ⟨by rw [HXA.out]; rfl, HB2.out⟩
end Go.Proofs.YtcpoejejmngiaaaDoor
