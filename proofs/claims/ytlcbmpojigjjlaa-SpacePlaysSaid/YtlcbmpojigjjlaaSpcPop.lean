/- Plain mathematics for package space: how many bits of a word are 1, byte by byte. No statement of the seat is proved here; nothing of the program is imported. -/
import Derived.Test.YtlcbmpojigjjlaaSpcWord
namespace Go.Proofs.Ytlcbmpojigjjlaa
open Go.RowKit
set_option linter.unusedVariables false
set_option linter.unusedSimpArgs false

/-- The number whose bytes those are, the lowest first. -/
def vl : List Nat → Nat
  | [] => 0
  | a :: l => a + 256 * vl l
def msk (m : Nat) : Nat → Nat
  | 0 => 0
  | n + 1 => m + 256 * msk m n
def bytesN : Nat → Nat → List Nat
  | 0, _ => []
  | n + 1, x => x % 256 :: bytesN n (x / 256)
theorem bytesN_len : ∀ n x, (bytesN n x).length = n
  | 0, _ => rfl
  | n + 1, x => by rw [bytesN, List.length_cons, bytesN_len n]
theorem bytesN_lt : ∀ n x, ∀ a ∈ bytesN n x, a < 256
  | 0, _, _, h => by cases h
  | n + 1, x, a, h => by
    rw [bytesN, List.mem_cons] at h
    rcases h with rfl | h
    · exact Nat.mod_lt _ (by omega)
    · exact bytesN_lt n _ a h
theorem vl_bytes : ∀ n x, x < 256 ^ n → vl (bytesN n x) = x
  | 0, x, h => by simp at h; simp [bytesN, vl, h]
  | n + 1, x, h => by
    rw [Nat.pow_succ] at h
    rw [bytesN, vl, vl_bytes n (x / 256) (by omega)]
    omega
theorem vl_lt : ∀ l : List Nat, (∀ a ∈ l, a < 256) → vl l < 256 ^ l.length
  | [], _ => by simp [vl]
  | a :: l, h => by
    have h1 := h a (by simp)
    have h2 := vl_lt l fun b hb => h b (by simp [hb])
    rw [vl, List.length_cons, Nat.pow_succ]
    omega
theorem and_lane (k : Nat) {a b c d : Nat} (ha : a < 2 ^ k) (hc : c < 2 ^ k) : (a + 2 ^ k * b) &&& (c + 2 ^ k * d) = (a &&& c) + 2 ^ k * (b &&& d) := by
  have hac : a &&& c < 2 ^ k := Nat.and_lt_two_pow _ hc
  rw [Nat.add_comm a, Nat.add_comm c, Nat.add_comm (a &&& c)]
  apply Nat.eq_of_testBit_eq
  intro i
  rw [Nat.testBit_and, Nat.testBit_two_pow_mul_add _ ha, Nat.testBit_two_pow_mul_add _ hc, Nat.testBit_two_pow_mul_add _ hac]
  by_cases h : i < k
  · rw [if_pos h, if_pos h, if_pos h, Nat.testBit_and]
  · rw [if_neg h, if_neg h, if_neg h, Nat.testBit_and]
theorem and_byte {a b c d : Nat} (ha : a < 256) (hc : c < 256) : (a + 256 * b) &&& (c + 256 * d) = (a &&& c) + 256 * (b &&& d) := and_lane 8 ha hc
theorem and_low (k : Nat) {a b c : Nat} (ha : a < 2 ^ k) (hc : c < 2 ^ k) : (a + 2 ^ k * b) &&& c = a &&& c := by
  have := and_lane k (b := b) (d := 0) ha hc
  simpa using this
/-- Bytes shifted down by less than eight bits, and masked so that nothing of the next byte is left. -/
theorem lane (K L j m : Nat) (hL : L = 2 ^ j) (hm : m < L) (hm2 : m < 256) (hd : ∀ a v, a < 256 → (a + 256 * v) / K = (a / K + L * (v % K)) + 256 * (v / K)) (hs : ∀ a v, a < 256 → a / K < L ∧ a / K + L * (v % K) < 256) :
    ∀ l : List Nat, (∀ a ∈ l, a < 256) → (vl l / K) &&& msk m l.length = vl (l.map fun a => a / K &&& m)
  | [], _ => by simp [vl, msk]
  | a :: l, h => by
    have h1 := h a (by simp)
    have ih := lane K L j m hL hm hm2 hd hs l fun b hb => h b (by simp [hb])
    obtain ⟨s1, s2⟩ := hs a (vl l) h1
    rw [vl, List.length_cons, msk, hd a (vl l) h1, and_byte s2 hm2, ih, List.map_cons, vl]
    subst hL
    rw [and_low j s1 hm]
theorem vl_add (f g : Nat → Nat) : ∀ l : List Nat, vl (l.map f) + vl (l.map g) = vl (l.map fun a => f a + g a)
  | [] => rfl
  | a :: l => by
    have := vl_add f g l
    simp only [List.map_cons, vl]
    omega
def g1 (a : Nat) : Nat := (a / 2 &&& 0x55) + (a &&& 0x55)
def g2 (a : Nat) : Nat := (a / 4 &&& 0x33) + (a &&& 0x33)
def g3 (a : Nat) : Nat := (a / 16 + a) &&& 15
theorem step1 (l : List Nat) (h : ∀ a ∈ l, a < 256) : (vl l / 2 &&& msk 0x55 l.length) + (vl l &&& msk 0x55 l.length) = vl (l.map g1) := by
  have e1 := lane 2 128 7 0x55 (by decide) (by decide) (by decide) (fun a v h => by omega) (fun a v h => by omega) l h
  have e2 := lane 1 256 8 0x55 (by decide) (by decide) (by decide) (fun a v h => by omega) (fun a v h => by omega) l h
  simp only [Nat.div_one] at e2
  rw [e1, e2, vl_add]
  rfl
theorem step2 (l : List Nat) (h : ∀ a ∈ l, a < 256) : (vl l / 4 &&& msk 0x33 l.length) + (vl l &&& msk 0x33 l.length) = vl (l.map g2) := by
  have e1 := lane 4 64 6 0x33 (by decide) (by decide) (by decide) (fun a v h => by omega) (fun a v h => by omega) l h
  have e2 := lane 1 256 8 0x33 (by decide) (by decide) (by decide) (fun a v h => by omega) (fun a v h => by omega) l h
  simp only [Nat.div_one] at e2
  rw [e1, e2, vl_add]
  rfl
def Nib (a : Nat) : Prop := a ≤ 68 ∧ a % 16 ≤ 4
theorem vl_nib : ∀ l : List Nat, (∀ a ∈ l, Nib a) → vl l % 16 ≤ 4
  | [], _ => by simp [vl]
  | a :: l, h => by
    have := (h a (by simp)).2
    rw [vl]
    omega
theorem and15 (x : Nat) : x &&& 15 = x % 16 := Nat.and_two_pow_sub_one_eq_mod x 4
theorem step3 : ∀ l : List Nat, (∀ a ∈ l, Nib a) → (vl l / 16 + vl l) &&& msk 15 l.length = vl (l.map g3)
  | [], _ => by simp [vl, msk]
  | a :: l, h => by
    have h1 := h a (by simp)
    have hl : ∀ b ∈ l, Nib b := fun b hb => h b (by simp [hb])
    have ih := step3 l hl
    have hn := vl_nib l hl
    obtain ⟨b1, b2⟩ := h1
    rw [vl, List.length_cons, msk, List.map_cons, vl, ← ih]
    generalize vl l = v at hn ih ⊢
    have e : (a + 256 * v) / 16 + (a + 256 * v) = (a / 16 + a + 16 * (v % 16)) + 256 * (v / 16 + v) := by omega
    rw [e, and_byte (by omega) (by omega)]
    have e2 : (a / 16 + a + 16 * (v % 16)) &&& 15 = g3 a := by
      unfold g3
      rw [and15, and15]
      omega
    rw [e2]
theorem g1_lt : ∀ a : Fin 256, g1 a.val < 256 := by decide +kernel
theorem g2_nib : ∀ a : Fin 256, g2 (g1 a.val) ≤ 68 ∧ g2 (g1 a.val) % 16 ≤ 4 := by decide +kernel
theorem g3_cnt : ∀ a : Fin 256, g3 (g2 (g1 a.val)) = ((List.range 8).filter fun i => a.val.testBit i).length ∧ g3 (g2 (g1 a.val)) ≤ 8 := by decide +kernel
theorem vl_div {a : Nat} (h : a < 256) (l : List Nat) : vl (a :: l) / 256 = vl l := by rw [vl]; omega
theorem msk8 : msk 0x55 8 = 6148914691236517205 ∧ msk 0x33 8 = 3689348814741910323 ∧ msk 15 8 = 1085102592571150095 := by decide
/-- How many of the places from p on, k of them, are used. -/
def cntF (S : Nat → Bool) (p k : Nat) : Nat := ((List.range k).filter fun i => S (p + i)).length
theorem cntF_add (S : Nat → Bool) (p a b : Nat) : cntF S p (a + b) = cntF S p a + cntF S (p + a) b := by
  unfold cntF
  rw [List.range_add, List.filter_append, List.length_append, List.filter_map, List.length_map]
  congr 2
  apply List.filter_congr
  intro i _
  simp [Function.comp, Nat.add_assoc]
theorem cntF_all (S : Nat → Bool) (n : Nat) : cntF S 0 n = (allF S n).length := by
  unfold cntF allF
  simp
theorem cntF_zero {S : Nat → Bool} {p k : Nat} (h : ∀ i, i < k → S (p + i) = false) : cntF S p k = 0 := by
  unfold cntF
  rw [List.length_eq_zero_iff, List.filter_eq_nil_iff]
  intro i hi
  rw [h i (List.mem_range.1 hi)]
  decide
theorem cntF_le (S : Nat → Bool) (p k : Nat) : cntF S p k ≤ k := by
  have := List.length_filter_le (fun i => S (p + i)) (List.range k)
  rwa [List.length_range] at this
/-- The bytes' bits are the number's. -/
theorem cnt_bytes (x : Nat) : ∀ (n p : Nat), ((bytesN n (x / 2 ^ p)).map fun a => g3 (g2 (g1 a))).sum = cntF (fun i => x.testBit i) p (8 * n)
  | 0, p => by simp [bytesN, cntF]
  | n + 1, p => by
    rw [bytesN, List.map_cons, List.sum_cons, Nat.div_div_eq_div_mul, show 256 = 2 ^ 8 by decide, ← Nat.pow_add, cnt_bytes x n (p + 8), show 8 * (n + 1) = 8 + 8 * n by omega, cntF_add]
    congr 1
    have h1 := (g3_cnt ⟨x / 2 ^ p % 256, Nat.mod_lt _ (by omega)⟩).1
    simp only at h1
    rw [show (2 ^ 8 : Nat) = 256 by decide, h1]
    unfold cntF
    congr 1
    apply List.filter_congr
    intro i hi
    have hi : i < 8 := List.mem_range.1 hi
    rw [show (256 : Nat) = 2 ^ 8 by decide, Nat.testBit_mod_two_pow, Nat.testBit_div_two_pow, Nat.add_comm]
    simp [hi]
theorem vl8_lt {l : List Nat} (c : Nat) (hc : c ≤ 68) (h8 : l.length = 8) (h : ∀ a ∈ l, a ≤ c) : vl l < 4971973988617027584 := by
  match l, h8, h with
  | [a0, a1, a2, a3, a4, a5, a6, a7], _, h =>
    have b0 := h a0 (by simp)
    have b1 := h a1 (by simp)
    have b2 := h a2 (by simp)
    have b3 := h a3 (by simp)
    have b4 := h a4 (by simp)
    have b5 := h a5 (by simp)
    have b6 := h a6 (by simp)
    have b7 := h a7 (by simp)
    clear h
    simp only [vl]
    omega
theorem vl_t4 {a0 a1 a2 a3 a4 a5 a6 a7 : Nat} (b0 : a0 ≤ 8) (b1 : a1 ≤ 8) (b2 : a2 ≤ 8) (b3 : a3 ≤ 8) (b4 : a4 ≤ 8) (b5 : a5 ≤ 8) (b6 : a6 ≤ 8) (b7 : a7 ≤ 8) : vl [a0, a1, a2, a3, a4, a5, a6, a7] + vl [a0, a1, a2, a3, a4, a5, a6, a7] / 256 = vl [a0 + a1, a1 + a2, a2 + a3, a3 + a4, a4 + a5, a5 + a6, a6 + a7, a7] := by
  rw [vl_div (by omega)]
  simp only [vl]
  omega
theorem vl_t5 {a0 a1 a2 a3 a4 a5 a6 a7 : Nat} (b0 : a0 ≤ 8) (b1 : a1 ≤ 8) (b2 : a2 ≤ 8) (b3 : a3 ≤ 8) (b4 : a4 ≤ 8) (b5 : a5 ≤ 8) (b6 : a6 ≤ 8) (b7 : a7 ≤ 8) : vl [a0 + a1, a1 + a2, a2 + a3, a3 + a4, a4 + a5, a5 + a6, a6 + a7, a7] + vl [a0 + a1, a1 + a2, a2 + a3, a3 + a4, a4 + a5, a5 + a6, a6 + a7, a7] / 65536 = vl [a0 + a1 + (a2 + a3), a1 + a2 + (a3 + a4), a2 + a3 + (a4 + a5), a3 + a4 + (a5 + a6), a4 + a5 + (a6 + a7), a5 + a6 + a7, a6 + a7, a7] := by
  rw [show (65536 : Nat) = 256 * 256 by decide, ← Nat.div_div_eq_div_mul, vl_div (by omega), vl_div (by omega)]
  simp only [vl]
  omega
theorem vl_t6 {a0 a1 a2 a3 a4 a5 a6 a7 : Nat} (b0 : a0 ≤ 8) (b1 : a1 ≤ 8) (b2 : a2 ≤ 8) (b3 : a3 ≤ 8) (b4 : a4 ≤ 8) (b5 : a5 ≤ 8) (b6 : a6 ≤ 8) (b7 : a7 ≤ 8) : vl [a0 + a1 + (a2 + a3), a1 + a2 + (a3 + a4), a2 + a3 + (a4 + a5), a3 + a4 + (a5 + a6), a4 + a5 + (a6 + a7), a5 + a6 + a7, a6 + a7, a7] + vl [a0 + a1 + (a2 + a3), a1 + a2 + (a3 + a4), a2 + a3 + (a4 + a5), a3 + a4 + (a5 + a6), a4 + a5 + (a6 + a7), a5 + a6 + a7, a6 + a7, a7] / 4294967296 = vl [a0 + a1 + (a2 + a3) + (a4 + a5 + (a6 + a7)), a1 + a2 + (a3 + a4) + (a5 + a6 + a7), a2 + a3 + (a4 + a5) + (a6 + a7), a3 + a4 + (a5 + a6) + a7, a4 + a5 + (a6 + a7), a5 + a6 + a7, a6 + a7, a7] := by
  rw [show (4294967296 : Nat) = 256 * 256 * 256 * 256 by decide, ← Nat.div_div_eq_div_mul, ← Nat.div_div_eq_div_mul, ← Nat.div_div_eq_div_mul, vl_div (by omega), vl_div (by omega), vl_div (by omega), vl_div (by omega)]
  simp only [vl]
  omega
theorem vl_t7 {a0 a1 a2 a3 a4 a5 a6 a7 : Nat} (b0 : a0 ≤ 8) (b1 : a1 ≤ 8) (b2 : a2 ≤ 8) (b3 : a3 ≤ 8) (b4 : a4 ≤ 8) (b5 : a5 ≤ 8) (b6 : a6 ≤ 8) (b7 : a7 ≤ 8) : vl [a0 + a1 + (a2 + a3) + (a4 + a5 + (a6 + a7)), a1 + a2 + (a3 + a4) + (a5 + a6 + a7), a2 + a3 + (a4 + a5) + (a6 + a7), a3 + a4 + (a5 + a6) + a7, a4 + a5 + (a6 + a7), a5 + a6 + a7, a6 + a7, a7] % 128 = [a0, a1, a2, a3, a4, a5, a6, a7].sum := by
  rw [vl]
  simp only [List.sum_cons, List.sum_nil]
  generalize vl _ = v
  omega
theorem vl_t8 {a0 a1 a2 a3 a4 a5 a6 a7 : Nat} (b0 : a0 ≤ 8) (b1 : a1 ≤ 8) (b2 : a2 ≤ 8) (b3 : a3 ≤ 8) (b4 : a4 ≤ 8) (b5 : a5 ≤ 8) (b6 : a6 ≤ 8) (b7 : a7 ≤ 8) : vl [a0 + a1, a1 + a2, a2 + a3, a3 + a4, a4 + a5, a5 + a6, a6 + a7, a7] < 4971973988617027584 ∧ vl [a0 + a1 + (a2 + a3), a1 + a2 + (a3 + a4), a2 + a3 + (a4 + a5), a3 + a4 + (a5 + a6), a4 + a5 + (a6 + a7), a5 + a6 + a7, a6 + a7, a7] < 4971973988617027584 ∧ vl [a0 + a1 + (a2 + a3) + (a4 + a5 + (a6 + a7)), a1 + a2 + (a3 + a4) + (a5 + a6 + a7), a2 + a3 + (a4 + a5) + (a6 + a7), a3 + a4 + (a5 + a6) + a7, a4 + a5 + (a6 + a7), a5 + a6 + a7, a6 + a7, a7] < 4971973988617027584 := by
  refine ⟨vl8_lt 64 (by omega) rfl fun a ha => ?_, vl8_lt 64 (by omega) rfl fun a ha => ?_, vl8_lt 64 (by omega) rfl fun a ha => ?_⟩ <;> (simp at ha; omega)
/-- All that the sum of a word's bits goes through. -/
theorem pop_steps (x : Nat) (hx : x < 2 ^ 64) : ∃ p1 p2 x1 p3 p4 x2 s3 x3 x4 x5 x6 : Nat,
    (x / 2 &&& 6148914691236517205 = p1 ∧ x &&& 6148914691236517205 = p2 ∧ p1 + p2 = x1) ∧
    (x1 / 4 &&& 3689348814741910323 = p3 ∧ x1 &&& 3689348814741910323 = p4 ∧ p3 + p4 = x2) ∧
    (x2 / 16 + x2 = s3 ∧ s3 &&& 1085102592571150095 = x3) ∧
    (x3 + x3 / 256 = x4 ∧ x4 + x4 / 65536 = x5 ∧ x5 + x5 / 4294967296 = x6) ∧
    (x1 < 2 ^ 64 ∧ x2 < 2 ^ 64 ∧ s3 < 2 ^ 64 ∧ x4 < 2 ^ 63 ∧ x5 < 2 ^ 63 ∧ x6 < 2 ^ 63) ∧ x6 % 128 = cntF (fun i => x.testBit i) 0 64 := by
  have hx8 : x < 256 ^ 8 := by rw [show (256 : Nat) ^ 8 = 2 ^ 64 by decide]; exact hx
  have e0 := vl_bytes 8 x hx8
  have hb := bytesN_lt 8 x
  have hl := bytesN_len 8 x
  have hc := cnt_bytes x 8 0
  rw [Nat.pow_zero, Nat.div_one] at hc
  obtain ⟨l, hle⟩ : ∃ l, bytesN 8 x = l := ⟨_, rfl⟩
  rw [hle] at e0 hb hl hc
  have s1 := step1 l hb
  have hb1 : ∀ a ∈ l.map g1, a < 256 := fun a ha => by
    obtain ⟨b, hb2, rfl⟩ := List.mem_map.1 ha
    exact g1_lt ⟨b, hb b hb2⟩
  have s2 := step2 (l.map g1) hb1
  have hb2 : ∀ a ∈ (l.map g1).map g2, Nib a := fun a ha => by
    obtain ⟨b, hb2, rfl⟩ := List.mem_map.1 ha
    obtain ⟨b, hb3, rfl⟩ := List.mem_map.1 hb2
    exact g2_nib ⟨b, hb b hb3⟩
  have s3 := step3 ((l.map g1).map g2) hb2
  have hb3 : ∀ a ∈ ((l.map g1).map g2).map g3, a ≤ 8 := fun a ha => by
    obtain ⟨b, hb2, rfl⟩ := List.mem_map.1 ha
    obtain ⟨b, hb3, rfl⟩ := List.mem_map.1 hb2
    obtain ⟨b, hb4, rfl⟩ := List.mem_map.1 hb3
    exact (g3_cnt ⟨b, hb b hb4⟩).2
  have l1 := vl_lt _ hb1
  have l2 := vl_lt ((l.map g1).map g2) fun a ha => Nat.lt_of_le_of_lt (hb2 a ha).1 (by omega)
  have l2b : vl ((l.map g1).map g2) < 4971973988617027584 := vl8_lt 68 (by omega) (by simp [hl]) fun a ha => (hb2 a ha).1
  simp only [List.length_map, hl] at s1 s2 s3 l1 l2
  rw [e0, msk8.1] at s1
  rw [msk8.2.1] at s2
  rw [msk8.2.2] at s3
  have hc2 : (((l.map g1).map g2).map g3).sum = cntF (fun i => x.testBit i) 0 64 := by
    rw [← hc, List.map_map, List.map_map]
    rfl
  have h8 : (((l.map g1).map g2).map g3).length = 8 := by simp [hl]
  generalize vl ((l.map g1)) = x1 at s1 s2 l1
  generalize vl ((l.map g1).map g2) = x2 at s2 s3 l2 l2b
  generalize ((l.map g1).map g2).map g3 = r at s3 hb3 hc2 h8
  match r, h8, hb3, s3, hc2 with
  | [a0, a1, a2, a3, a4, a5, a6, a7], _, hb3, s3, hc2 =>
    have b0 := hb3 a0 (by simp)
    have b1 := hb3 a1 (by simp)
    have b2 := hb3 a2 (by simp)
    have b3 := hb3 a3 (by simp)
    have b4 := hb3 a4 (by simp)
    have b5 := hb3 a5 (by simp)
    have b6 := hb3 a6 (by simp)
    have b7 := hb3 a7 (by simp)
    have t4 := vl_t4 b0 b1 b2 b3 b4 b5 b6 b7
    have t5 := vl_t5 b0 b1 b2 b3 b4 b5 b6 b7
    have t6 := vl_t6 b0 b1 b2 b3 b4 b5 b6 b7
    have t7 := vl_t7 b0 b1 b2 b3 b4 b5 b6 b7
    obtain ⟨c4, c5, c6⟩ := vl_t8 b0 b1 b2 b3 b4 b5 b6 b7
    rw [hc2] at t7
    clear hb hb1 hb2 hb3 hc hc2 b0 b1 b2 b3 b4 b5 b6 b7
    exact ⟨_, _, x1, _, _, x2, _, _, _, _, _, ⟨rfl, rfl, s1⟩, ⟨rfl, rfl, s2⟩, ⟨rfl, s3⟩, ⟨t4, t5, t6⟩, ⟨Nat.lt_of_lt_of_le l1 (by decide), Nat.lt_of_lt_of_le l2 (by decide), by clear t4 t5 t6 t7 c4 c5 c6 s1 s2 s3 e0 hx hx8; omega, Nat.lt_trans c4 (by decide), Nat.lt_trans c5 (by decide), Nat.lt_trans c6 (by decide)⟩, t7⟩
end Go.Proofs.Ytlcbmpojigjjlaa
