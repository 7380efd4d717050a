/- Plain mathematics of paths: names, texts split at '/', paths of names. No statement of the seat is proved here; nothing of the program is imported. -/
import Derived.Laws.RangeAny
namespace Go.Proofs.Ytiomfkhblmmdoaa
set_option linter.unusedVariables false
set_option linter.unusedSimpArgs false

/-- Bytes as a text. -/
abbrev st (l : List UInt8) : ByteArray := ⟨l.toArray⟩
theorem st_size (l : List UInt8) : (st l).size = l.length := by simp [st, ByteArray.size]
theorem st_get {l : List UInt8} {k : Nat} (h : k < l.length) : (st l).get! k = l[k] := by
  unfold st ByteArray.get!
  simp [h]
theorem decode_pos (s : ByteArray) (i : Nat) : 1 ≤ (Utf8.decode s i).2 := by
  simp only [Utf8.decode]
  repeat' split
  all_goals simp
theorem decode_low (s : ByteArray) (i : Nat) (h : (s.get! (i + 0)).toNat < 128) : Utf8.decode s i = ((s.get! (i + 0)).toNat, 1) := by
  simp only [Utf8.decode, h, if_true]
theorem decode_span (s : ByteArray) (i j : Nat) (hj : 0 < j) (hw : j < (Utf8.decode s i).2) : i + j < s.size ∧ (s.get! (i + j)).toNat / 64 = 2 := by
  simp only [Utf8.decode] at hw
  repeat' split at hw
  all_goals simp only at hw
  all_goals try omega
  all_goals simp_all only [Bool.and_eq_true, decide_eq_true_eq, beq_iff_eq]
  · obtain rfl : j = 1 := by omega
    rename_i h _
    exact h.2
  · rename_i h _
    rcases (show j = 1 ∨ j = 2 by omega) with rfl | rfl
    · exact h.1.2
    · exact h.2
  · rename_i h _
    rcases (show j = 1 ∨ j = 2 ∨ j = 3 by omega) with rfl | rfl | rfl
    · exact h.1.1.2
    · exact h.1.2
    · exact h.2
/-- U+FFFD itself stands there. -/
def bomAt (s : List UInt8) (i : Nat) : Bool := decide ((s.drop i).take 3 = [239, 191, 189])
/-- The rune at i may stand in a name. -/
def goodR (s : List UInt8) (i : Nat) : Bool := !(decide ((Utf8.decode (st s) i).1 < 32) || decide ((Utf8.decode (st s) i).1 = 127) || decide ((Utf8.decode (st s) i).1 = 47) || (decide ((Utf8.decode (st s) i).1 = 65533) && !bomAt s i))
def scanR (s : List UInt8) : Nat → Nat → Bool
  | 0, i => decide (s.length ≤ i)
  | n + 1, i => if s.length ≤ i then true else goodR s i && scanR s n (i + (Utf8.decode (st s) i).2)
theorem scan_fuel (s : List UInt8) : ∀ (n m i : Nat), s.length - i ≤ n → s.length - i ≤ m → scanR s n i = scanR s m i
  | 0, 0, _, _, _ => rfl
  | 0, m + 1, i, h, _ => by rw [scanR, scanR, if_pos (by omega), decide_eq_true (by omega)]
  | n + 1, 0, i, _, h => by rw [scanR, scanR, if_pos (by omega), decide_eq_true (by omega)]
  | n + 1, m + 1, i, h1, h2 => by
    rw [scanR, scanR]
    split
    · rfl
    · have := decode_pos (st s) i
      rw [scan_fuel s n m _ (by omega) (by omega)]
/-- All runes from i on may stand in a name. -/
def scan (s : List UInt8) (i : Nat) : Bool := scanR s (s.length - i) i
theorem scan_end {s : List UInt8} {i : Nat} (h : s.length ≤ i) : scan s i = true := by
  unfold scan
  rw [show s.length - i = 0 by omega, scanR, decide_eq_true h]
theorem scan_step {s : List UInt8} {i : Nat} (h : i < s.length) : scan s i = (goodR s i && scan s (i + (Utf8.decode (st s) i).2)) := by
  unfold scan
  have := decode_pos (st s) i
  rw [show s.length - i = (s.length - i - 1) + 1 by omega, scanR, if_neg (by omega), scan_fuel s (s.length - i - 1) (s.length - (i + (Utf8.decode (st s) i).2)) _ (by omega) (by omega)]
theorem scan_no : ∀ (n : Nat) (s : List UInt8) (i : Nat), s.length - i ≤ n → scan s i = true → ∀ k (hk : k < s.length), i ≤ k → s[k] ≠ 47
  | 0, s, i, hn, _, k, hk, hi => by omega
  | n + 1, s, i, hn, h, k, hk, hi => by
    have hlt : i < s.length := by omega
    rw [scan_step hlt, Bool.and_eq_true] at h
    have hp := decode_pos (st s) i
    rcases Nat.lt_or_ge k (i + (Utf8.decode (st s) i).2) with h1 | h1
    · rcases Nat.eq_or_lt_of_le hi with rfl | h2
      · intro e
        have hg := h.1
        have hb : ((st s).get! (i + 0)).toNat = 47 := by rw [Nat.add_zero, st_get hk, e]; rfl
        unfold goodR at hg
        rw [decode_low (st s) i (by omega), hb] at hg
        simp at hg
      · obtain ⟨a1, a2⟩ := decode_span (st s) i (k - i) (by omega) (by omega)
        rw [show i + (k - i) = k by omega, st_get hk] at a2
        intro e
        rw [e] at a2
        cases a2
    · exact scan_no n s _ (by omega) h.2 k hk h1
def nameL (s : List UInt8) : Bool := decide (1 ≤ s.length ∧ s.length ≤ 100 ∧ s ≠ [46] ∧ s ≠ [46, 46]) && scan s 0
theorem name_len {s : List UInt8} (h : nameL s = true) : 1 ≤ s.length ∧ s.length ≤ 100 := by
  unfold nameL at h
  simp only [Bool.and_eq_true, decide_eq_true_eq] at h
  exact ⟨h.1.1, h.1.2.1⟩
theorem name_no {s : List UInt8} (h : nameL s = true) : (47 : UInt8) ∉ s := by
  unfold nameL at h
  simp only [Bool.and_eq_true, decide_eq_true_eq] at h
  intro hm
  obtain ⟨k, hk, e⟩ := List.getElem_of_mem hm
  exact scan_no s.length s 0 (by omega) h.2 k hk (Nat.zero_le _) e

/-- A text split at each '/'. -/
def splitL : List UInt8 → List (List UInt8)
  | [] => [[]]
  | c :: t => if c = 47 then [] :: splitL t else match splitL t with
    | [] => [[c]]
    | h :: r => (c :: h) :: r
def joinL (l : List (List UInt8)) : List UInt8 := l.flatMap fun n => 47 :: n
theorem splitL_ne (t : List UInt8) : splitL t ≠ [] := by
  cases t with
  | nil => simp [splitL]
  | cons c t =>
    unfold splitL
    split
    · simp
    · split <;> simp
theorem join_split : ∀ t : List UInt8, joinL (splitL t) = 47 :: t
  | [] => by simp [splitL, joinL]
  | c :: t => by
    have ih := join_split t
    unfold splitL
    split
    · rename_i h
      subst h
      simp only [joinL, List.flatMap_cons] at ih ⊢
      rw [ih]
      rfl
    · cases hs : splitL t with
      | nil => exact absurd hs (splitL_ne t)
      | cons h r =>
        rw [hs] at ih
        simp only [joinL, List.flatMap_cons, List.cons_append, List.cons.injEq, true_and] at ih ⊢
        rw [ih]
theorem split_app {n : List UInt8} (h : (47 : UInt8) ∉ n) : ∀ t : List UInt8, splitL (n ++ 47 :: t) = n :: splitL t := by
  intro t
  induction n with
  | nil => simp [splitL]
  | cons c n ih =>
    have h1 : c ≠ 47 := fun e => h (by simp [e])
    rw [List.cons_append, splitL, if_neg h1, ih fun hm => h (by simp [hm])]
theorem split_one {n : List UInt8} (h : (47 : UInt8) ∉ n) : splitL n = [n] := by
  induction n with
  | nil => rfl
  | cons c n ih =>
    have h1 : c ≠ 47 := fun e => h (by simp [e])
    rw [splitL, if_neg h1, ih fun hm => h (by simp [hm])]
theorem split_join : ∀ {l : List (List UInt8)} {t : List UInt8}, l ≠ [] → (∀ n ∈ l, (47 : UInt8) ∉ n) → joinL l = 47 :: t → splitL t = l
  | [], _, h, _, _ => absurd rfl h
  | [n], t, _, h, e => by
    simp only [joinL, List.flatMap_cons, List.flatMap_nil, List.append_nil, List.cons.injEq, true_and] at e
    rw [← e, split_one (h n (by simp))]
  | n :: m :: l, t, _, h, e => by
    simp only [joinL, List.flatMap_cons, List.cons_append, List.cons.injEq, true_and] at e
    rw [← e, split_app (h n (by simp)), split_join (l := m :: l) (by simp) (fun x hx => h x (by simp [hx])) (by simp [joinL])]
/-- The names of a path. -/
def parseL (s : List UInt8) : Option (List (List UInt8)) := if s = [47] then some [] else match s with
  | 47 :: t => if (splitL t).length ≤ 16 ∧ (splitL t).all nameL = true then some (splitL t) else none
  | _ => none
def textL (l : List (List UInt8)) : Option (List UInt8) := if l.length ≤ 16 ∧ l.all nameL = true then some (if l = [] then [47] else joinL l) else none
theorem parse_root : parseL [47] = some [] := by unfold parseL; rw [if_pos rfl]
theorem parse_slash {t : List UInt8} (h : t ≠ []) : parseL (47 :: t) = if (splitL t).length ≤ 16 ∧ (splitL t).all nameL = true then some (splitL t) else none := by
  unfold parseL
  rw [if_neg (by simpa using h)]
  rfl
theorem parse_other {s : List UInt8} (h : ∀ t, s ≠ 47 :: t) : parseL s = none := by
  unfold parseL
  rw [if_neg (h [])]
  split
  · exact absurd rfl (h _)
  · rfl
theorem parse_some {s : List UInt8} {l : List (List UInt8)} (h : parseL s = some l) : (s = [47] ∧ l = []) ∨ ∃ t, s = 47 :: t ∧ t ≠ [] ∧ l = splitL t ∧ l.length ≤ 16 ∧ ∀ n ∈ l, nameL n = true := by
  by_cases hr : s = [47]
  · subst hr
    rw [parse_root] at h
    exact .inl ⟨rfl, (Option.some.inj h).symm⟩
  · by_cases hs : ∃ t, s = 47 :: t
    · obtain ⟨t, rfl⟩ := hs
      have ht : t ≠ [] := fun e => hr (by rw [e])
      rw [parse_slash ht] at h
      split at h
      · rename_i hc
        have e := Option.some.inj h
        exact .inr ⟨t, rfl, ht, e.symm, by rw [← e]; exact hc.1, by rw [← e]; exact List.all_eq_true.1 hc.2⟩
      · cases h
    · rw [parse_other fun t e => hs ⟨t, e⟩] at h
      cases h
theorem parse_ok {s : List UInt8} {l : List (List UInt8)} (h : parseL s = some l) : l.length ≤ 16 ∧ ∀ n ∈ l, nameL n = true := by
  rcases parse_some h with ⟨_, rfl⟩ | ⟨t, _, _, _, h1, h2⟩
  · simp
  · exact ⟨h1, h2⟩
theorem text_some {l : List (List UInt8)} (h : l.length ≤ 16 ∧ ∀ n ∈ l, nameL n = true) : textL l = some (if l = [] then [47] else joinL l) := by
  unfold textL
  rw [if_pos ⟨h.1, List.all_eq_true.2 h.2⟩]
theorem text_ok {l : List (List UInt8)} {t : List UInt8} (h : textL l = some t) : (l.length ≤ 16 ∧ ∀ n ∈ l, nameL n = true) ∧ t = if l = [] then [47] else joinL l := by
  unfold textL at h
  split at h
  · rename_i hc
    exact ⟨⟨hc.1, List.all_eq_true.1 hc.2⟩, (Option.some.inj h).symm⟩
  · cases h
/-- A path's names' path is the path. -/
theorem text_parse {s : List UInt8} {l : List (List UInt8)} (h : parseL s = some l) : textL l = some s := by
  rw [text_some (parse_ok h)]
  rcases parse_some h with ⟨rfl, rfl⟩ | ⟨t, rfl, ht, rfl, _⟩
  · rfl
  · rw [if_neg (splitL_ne t), join_split]
theorem parse_text {l : List (List UInt8)} {t : List UInt8} (h : textL l = some t) : parseL t = some l := by
  obtain ⟨h1, rfl⟩ := text_ok h
  split
  · rename_i e
    rw [e, parse_root]
  · rename_i e
    obtain ⟨n, r, rfl⟩ := List.exists_cons_of_ne_nil e
    have hj : joinL (n :: r) = 47 :: (n ++ joinL r) := rfl
    have hs : splitL (n ++ joinL r) = n :: r := split_join e (fun x hx => name_no (h1.2 x hx)) hj
    have hn := (name_len (h1.2 n (by simp))).1
    rw [hj, parse_slash (by intro e2; rw [(List.append_eq_nil_iff.1 e2).1] at hn; cases hn), hs, if_pos ⟨h1.1, List.all_eq_true.2 h1.2⟩]
theorem parse_inj {a b : List UInt8} {l : List (List UInt8)} (ha : parseL a = some l) (hb : parseL b = some l) : a = b := by
  have h1 := text_parse ha
  rw [text_parse hb] at h1
  exact (Option.some.inj h1).symm
/-- Whether a path lies within another one; the name behind it; its parent, its last name. -/
def withinL (s d : List UInt8) : Bool := match parseL s, parseL d with
  | some l, some m => m.isPrefixOf l
  | _, _ => false
def childL (s d : List UInt8) : Option (List UInt8) := match parseL s, parseL d with
  | some l, some m => if m.isPrefixOf l = true then l[m.length]? else none
  | _, _ => none
theorem within_iff {s d : List UInt8} : withinL s d = true ↔ ∃ l m, parseL s = some l ∧ parseL d = some m ∧ m <+: l := by
  unfold withinL
  cases hs : parseL s with
  | none => simp
  | some l =>
    cases hd : parseL d with
    | none => simp
    | some m => simp [List.isPrefixOf_iff_prefix]
theorem within_self (s : List UInt8) : withinL s s = (parseL s).isSome := by
  cases h : parseL s with
  | none => simp [withinL, h]
  | some l =>
    rw [Option.isSome_some, within_iff]
    exact ⟨l, l, h, h, List.prefix_refl l⟩
theorem within_trans {a b c : List UInt8} (h1 : withinL a b = true) (h2 : withinL b c = true) : withinL a c = true := by
  obtain ⟨l, m, hl, hm, hp⟩ := within_iff.1 h1
  obtain ⟨m', k, hm', hk, hp'⟩ := within_iff.1 h2
  rw [hm] at hm'
  obtain rfl := Option.some.inj hm'
  exact within_iff.2 ⟨l, k, hl, hk, hp'.trans hp⟩
theorem within_both {a b : List UInt8} (h1 : withinL a b = true) (h2 : withinL b a = true) : a = b := by
  obtain ⟨l, m, hl, hm, hp⟩ := within_iff.1 h1
  obtain ⟨m', l', hm', hl', hp'⟩ := within_iff.1 h2
  rw [hm] at hm'
  rw [hl] at hl'
  obtain rfl := Option.some.inj hm'
  obtain rfl := Option.some.inj hl'
  have e : l = m := hp'.eq_of_length_le hp.length_le
  exact parse_inj hl (e ▸ hm)
/-- The parent of a path that has names. -/
theorem parent_text {s : List UInt8} {l : List (List UInt8)} {n : List UInt8} (h : parseL s = some (l ++ [n])) : ∃ t, textL l = some t ∧ parseL t = some l ∧ withinL s t = true ∧ withinL t s = false ∧ childL s t = some n ∧ nameL n = true ∧ textL (l ++ [n]) = some s := by
  have hok := parse_ok h
  have hl : l.length ≤ 16 ∧ ∀ x ∈ l, nameL x = true := ⟨by have := hok.1; rw [List.length_append] at this; omega, fun x hx => hok.2 x (by simp [hx])⟩
  refine ⟨_, text_some hl, parse_text (text_some hl), ?_, ?_, ?_, hok.2 n (by simp), text_parse h⟩
  · exact within_iff.2 ⟨_, _, h, parse_text (text_some hl), List.prefix_append l [n]⟩
  · rw [Bool.eq_false_iff]
    intro hw
    obtain ⟨a, b, ha, hb, hp⟩ := within_iff.1 hw
    rw [parse_text (text_some hl)] at ha
    rw [h] at hb
    obtain rfl := Option.some.inj ha
    obtain rfl := Option.some.inj hb
    have := hp.length_le
    rw [List.length_append, List.length_singleton] at this
    omega
  · unfold childL
    rw [h, parse_text (text_some hl)]
    simp only
    rw [if_pos (by rw [List.isPrefixOf_iff_prefix]; exact List.prefix_append l [n])]
    simp
/-- What Parse, Text, Parent, Child hand back. -/
def parseD (s : List UInt8) : List (List UInt8) := (parseL s).getD []
def parseE (s : List UInt8) : Int := if (parseL s).isSome then 0 else 170
def textD (l : List (List UInt8)) : List UInt8 := (textL l).getD []
def textE (l : List (List UInt8)) : Int := if (textL l).isSome then 0 else 1
def parentD (s : List UInt8) : List UInt8 × List UInt8 × Int := match parseL s with
  | none => ([], [], 170)
  | some [] => ([], [], 2)
  | some (a :: l) => (textD (a :: l).dropLast, (a :: l).getLast (by simp), 0)
theorem parent_none {s : List UInt8} (h : parseL s = none) : parentD s = ([], [], 170) := by unfold parentD; rw [h]
theorem parent_root {s : List UInt8} (h : parseL s = some []) : parentD s = ([], [], 2) := by unfold parentD; rw [h]
theorem parent_snoc {s : List UInt8} {l : List (List UInt8)} {n : List UInt8} (h : parseL s = some (l ++ [n])) : parentD s = (textD l, n, 0) := by
  unfold parentD
  rw [h]
  cases l with
  | nil => rfl
  | cons a l =>
    have e1 : (a :: (l ++ [n])).dropLast = a :: l := List.dropLast_concat (l₁ := a :: l)
    have e2 : ∀ h, (a :: (l ++ [n])).getLast h = n := fun h => List.getLast_concat (l := a :: l)
    show (textD (a :: (l ++ [n])).dropLast, (a :: (l ++ [n])).getLast _, (0 : Int)) = _
    rw [e1, e2]
theorem within_no {s d : List UInt8} (h : parseL s = none ∨ parseL d = none) : withinL s d = false := by
  unfold withinL
  rcases h with h | h
  · rw [h]
  · rw [h]; cases parseL s <;> rfl
theorem within_some {s d : List UInt8} {l m : List (List UInt8)} (hs : parseL s = some l) (hd : parseL d = some m) : withinL s d = decide (m.length ≤ l.length ∧ l.take m.length = m) := by
  unfold withinL
  rw [hs, hd]
  show m.isPrefixOf l = _
  rw [Bool.eq_iff_iff, List.isPrefixOf_iff_prefix, decide_eq_true_iff]
  constructor
  · intro h
    exact ⟨h.length_le, (List.prefix_iff_eq_take.1 h).symm⟩
  · rintro ⟨_, h⟩
    rw [← h]
    exact List.take_prefix _ _
def childD (s d : List UInt8) : List UInt8 × Bool := match childL s d with
  | some n => (n, true)
  | none => ([], false)
theorem child_no {s d : List UInt8} (h : withinL s d = false ∨ (parseD s).length = (parseD d).length) : childD s d = ([], false) := by
  unfold childD childL
  cases hs : parseL s with
  | none => rfl
  | some l =>
    cases hd : parseL d with
    | none => rfl
    | some m =>
      rcases h with h | h
      · unfold withinL at h
        rw [hs, hd] at h
        simp only at h
        simp [h]
      · simp only [parseD, hs, hd, Option.getD_some] at h
        have e : l[m.length]? = none := List.getElem?_eq_none (by omega)
        simp only [e, ite_self]
theorem child_yes {s d : List UInt8} {l m : List (List UInt8)} (hs : parseL s = some l) (hd : parseL d = some m) (h : withinL s d = true) (hlt : m.length < l.length) : childD s d = (l[m.length], true) := by
  unfold childD childL
  unfold withinL at h
  rw [hs, hd] at h ⊢
  simp only at h ⊢
  rw [if_pos h, List.getElem?_eq_getElem hlt]
theorem parse_yes {s : List UInt8} {l : List (List UInt8)} (h : parseL s = some l) : parseD s = l ∧ parseE s = 0 := by simp [parseD, parseE, h]
theorem parse_no {s : List UInt8} (h : parseL s = none) : parseD s = [] ∧ parseE s = 170 := by simp [parseD, parseE, h]
theorem parseD_ok (s : List UInt8) : (parseD s).length ≤ 16 ∧ ∀ n ∈ parseD s, nameL n = true := by
  unfold parseD
  cases h : parseL s with
  | none => simp
  | some l => exact parse_ok h
/-- A walk through a path: what was found, where the next name begins. -/
def PInv (s : List UInt8) (k fr : Nat) (ls : List (List UInt8)) : Prop := ((k ≤ s.length ∧ fr ≤ k ∧ splitL (s.drop 1) = ls ++ splitL (s.drop fr) ∧ (47 : UInt8) ∉ (s.drop fr).take (k - fr)) ∨ (k = s.length + 1 ∧ splitL (s.drop 1) = ls)) ∧ ls.length ≤ 16 ∧ ∀ x ∈ ls, nameL x = true
theorem PInv.start {s : List UInt8} (h : 1 ≤ s.length) : PInv s 1 1 [] := ⟨.inl ⟨h, Nat.le_refl _, rfl, by simp⟩, by simp⟩
theorem PInv.on {s : List UInt8} {k fr : Nat} {ls : List (List UInt8)} (h : PInv s k fr ls) (hk : k < s.length) (hc : s[k] ≠ 47) : PInv s (k + 1) fr ls := by
  obtain ⟨h1 | h1, h2⟩ := h
  · obtain ⟨a1, a2, a3, a4⟩ := h1
    refine ⟨.inl ⟨hk, by omega, a3, ?_⟩, h2⟩
    have e : (s.drop fr).take (k + 1 - fr) = (s.drop fr).take (k - fr) ++ [s[k]] := by
      rw [show k + 1 - fr = (k - fr) + 1 by omega, List.take_succ_eq_append_getElem (by rw [List.length_drop]; omega), List.getElem_drop]
      congr 2
      congr 1
      omega
    rw [e]
    intro hm
    rcases List.mem_append.1 hm with hm | hm
    · exact a4 hm
    · exact hc (List.mem_singleton.1 hm).symm
  · omega
/-- What is split at k. -/
theorem PInv.cut {s : List UInt8} {k fr : Nat} {ls : List (List UInt8)} (h : PInv s k fr ls) (hk : k ≤ s.length) (hc : ∀ h : k < s.length, s[k] = 47) : fr ≤ k ∧ splitL (s.drop 1) = ls ++ (s.drop fr).take (k - fr) :: (if k < s.length then splitL (s.drop (k + 1)) else []) := by
  obtain ⟨h1 | h1, h2⟩ := h
  · obtain ⟨a1, a2, a3, a4⟩ := h1
    refine ⟨a2, ?_⟩
    rw [a3]
    congr 1
    split
    · rename_i hlt
      have e : s.drop fr = (s.drop fr).take (k - fr) ++ 47 :: s.drop (k + 1) := by
        have e1 := (List.take_append_drop (k - fr) (s.drop fr)).symm
        rw [List.drop_drop, show fr + (k - fr) = k by omega, List.drop_eq_getElem_cons hlt, hc hlt] at e1
        exact e1
      exact (congrArg splitL e).trans (split_app a4 _)
    · rename_i hge
      have e : (s.drop fr).take (k - fr) = s.drop fr := List.take_of_length_le (by rw [List.length_drop]; omega)
      rw [e] at a4 ⊢
      exact split_one a4
  · omega
theorem PInv.next {s : List UInt8} {k fr : Nat} {ls : List (List UInt8)} (h : PInv s k fr ls) (hk : k ≤ s.length) (hc : ∀ h : k < s.length, s[k] = 47) (hn : nameL ((s.drop fr).take (k - fr)) = true) (hm : ls.length ≠ 16) : PInv s (k + 1) (k + 1) (ls ++ [(s.drop fr).take (k - fr)]) := by
  obtain ⟨h1, h2⟩ := h.cut hk hc
  have h3 := h.2.1
  refine ⟨?_, by rw [List.length_append, List.length_singleton]; omega, fun x hx => ?_⟩
  · by_cases hlt : k < s.length
    · rw [if_pos hlt] at h2
      exact .inl ⟨hlt, Nat.le_refl _, by rw [h2, List.append_assoc]; rfl, by simp⟩
    · rw [if_neg hlt] at h2
      exact .inr ⟨by omega, h2⟩
  · rcases List.mem_append.1 hx with hx | hx
    · exact h.2.2 x hx
    · rw [List.mem_singleton.1 hx]; exact hn
theorem PInv.bad {s : List UInt8} {k fr : Nat} {ls : List (List UInt8)} (h : PInv s k fr ls) (h1 : ∃ t, s = 47 :: t ∧ t ≠ []) (hk : k ≤ s.length) (hc : ∀ h : k < s.length, s[k] = 47) (hn : nameL ((s.drop fr).take (k - fr)) = false ∨ ls.length = 16) : parseL s = none := by
  obtain ⟨_, h2⟩ := h.cut hk hc
  obtain ⟨t, rfl, ht⟩ := h1
  rw [parse_slash ht, if_neg]
  have e : (47 :: t).drop 1 = t := rfl
  rw [e] at h2
  rw [h2]
  rintro ⟨q1, q2⟩
  rcases hn with hn | hn
  · rw [List.all_eq_true.1 q2 _ (by simp)] at hn
    cases hn
  · rw [List.length_append, List.length_cons] at q1
    omega
theorem PInv.done {s : List UInt8} {fr : Nat} {ls : List (List UInt8)} (h : PInv s (s.length + 1) fr ls) (h1 : ∃ t, s = 47 :: t ∧ t ≠ []) : parseL s = some ls := by
  obtain ⟨t, rfl, ht⟩ := h1
  obtain ⟨h2 | h2, h3, h4⟩ := h
  · exact absurd h2.1 (by omega)
  · have e : (47 :: t).drop 1 = t := rfl
    rw [e] at h2
    rw [parse_slash ht, h2.2, if_pos ⟨h3, List.all_eq_true.2 h4⟩]
end Go.Proofs.Ytiomfkhblmmdoaa
