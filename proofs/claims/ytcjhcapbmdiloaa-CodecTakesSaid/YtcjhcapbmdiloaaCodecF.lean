/- The contract of Text (decoding). No statement of the seat is proved here. -/
import Derived.Test.YtcjhcapbmdiloaaCodecE
import Derived.Deep.QuietTactic
import Derived.BigQuiet
namespace Go.Proofs.Ytcjhcapbmdiloaa
open Go.RowKit

theorem quiet_left {P : Program} {f : FuncId} {args : Array Value} {w : World} {n : Nat} {v : Value}
    (h : Calls P f args (w.drewN n) fun e w' => e = .returned v ∧ w.drewN n = w') : Calls P f args (w.drewN n) fun e w'' => e = .returned v ∧ ∃ m, w'' = w.drewN m :=
  h.mono fun _ _ ⟨he, hm⟩ => ⟨he, n, hm.symm⟩
theorem Rd.drewN {w : World} {B : Nat} {A : Option Addr} {l : List UInt8} (h : Rd w B A l) (n : Nat) : Rd (w.drewN n) B A l := h

/-- What Text returns, leaves, and its fault behind it. -/
def TextOk (l : List UInt8) (f most : Int) : Prop := f = 0 ∧ 4 ≤ l.length ∧ ((val (l.take 4) : Nat) : Int) ≤ max most 0 ∧ val (l.take 4) + 4 ≤ l.length
instance (l : List UInt8) (f most : Int) : Decidable (TextOk l f most) := by unfold TextOk; infer_instance
def textS (l : List UInt8) (f most : Int) : List UInt8 := if TextOk l f most then (l.drop 4).take (val (l.take 4)) else []
def textL (l : List UInt8) (f most : Int) : List UInt8 := if TextOk l f most then l.drop (4 + val (l.take 4)) else l
def textF (l : List UInt8) (f most : Int) : Int :=
  if f = 0 then (if l.length < 4 then 10 else if max most 0 < ((val (l.take 4) : Nat) : Int) then 4 else if l.length < val (l.take 4) + 4 then 10 else 0) else f

def TextPost (w : World) (g : Nat) (l : List UInt8) (f most : Int) (e : Ending) (w' : World) : Prop :=
  e = .returned (.string ⟨(textS l f most).toArray⟩) ∧ Rdr w' g (textL l f most) (textF l f most) ∧ w.grownBy w' (some g)

set_option maxHeartbeats 1000000 in
theorem rtext_nil (most : Int) (w : World) : Calls Try.prog 10 #[.pointer none, .int .i64 most] w fun e w' => e = .returned (.string ⟨#[]⟩) ∧ w = w' := by
  go_enter Try.func10, Try.ntmps10
  go_wp2
  go_ret
  exact ⟨rfl, rfl⟩

set_option maxHeartbeats 1000000 in
theorem rtext_bad (g : Nat) (l : List UInt8) (f most : Int) (w : World) (h : Rdr w g l f) (hf : ¬ f = 0) : Calls Try.prog 10 #[.pointer (some ⟨g, 0, none⟩), .int .i64 most] w (TextPost w g l f most) := by
  have fin : TextPost w g l f most (.returned (.string ⟨#[]⟩)) w := by
    refine ⟨by simp [textS, TextOk, hf], by simpa [textL, textF, TextOk, hf] using h, World.grownBy.refl _ _⟩
  have hf' : (f != 0) = true := by simpa using hf
  have FIN := Lib.hid fin
  obtain ⟨A, c, hb, _, _, _⟩ := h
  have hc0 := hb.cell 0
  have hc1 := hb.cell 1
  clear hb hf fin
  go_enter Try.func10, Try.ntmps10
  go_wp2
  go_ret
  exact FIN.out

set_option maxHeartbeats 1000000 in
theorem rtext_short (g : Nat) (l : List UInt8) (most : Int) (w : World) (h : Rdr w g l 0) (hs : l.length < 4) : Calls Try.prog 10 #[.pointer (some ⟨g, 0, none⟩), .int .i64 most] w (TextPost w g l 0 most) := by
  have fin : TextPost w g l 0 most (.returned (.string ⟨#[]⟩)) (w.setCell ⟨g, 1, none⟩ (.int .i64 10)) := by
    have hno : ¬ TextOk l 0 most := by unfold TextOk; omega
    refine ⟨?_, ?_, grownBy_set _ _ _ _⟩
    · rw [textS, if_neg hno]
    · rw [textL, if_neg hno, textF, if_pos rfl, if_pos hs]; exact rdr_fault h 10
  have FIN := Lib.hid fin
  obtain ⟨A, c, hb, _, _, _⟩ := h
  have hc0 := hb.cell 0
  have hc1 := hb.cell 1
  have hz1 := hb.frozen 1
  clear hb fin
  have hs' : (l.length : Int) < 4 := by omega
  go_enter Try.func10, Try.ntmps10
  go_wp2
  go_ret
  exact FIN.out

theorem grownBy_dset (w : World) (q g i : Nat) (u : Value) : w.grownBy ((w.drewN q).setCell ⟨g, i, none⟩ u) (some g) :=
  have h := grownBy_set (w.drewN q) g i u
  ⟨h.os, h.tape, h.output, h.size, h.block⟩

def RestFin (w : World) (g : Nat) (l : List UInt8) (most : Int) (n c gb off : Nat) : Prop :=
  (max most 0 < (n : Int) → ∀ q, TextPost w g l 0 most (.returned (.string ⟨#[]⟩)) ((w.drewN q).setCell ⟨g, 1, none⟩ (.int .i64 4))) ∧
  (¬ max most 0 < (n : Int) → l.length < n + 4 → ∀ q, TextPost w g l 0 most (.returned (.string ⟨#[]⟩)) ((w.drewN q).setCell ⟨g, 1, none⟩ (.int .i64 10))) ∧
  (¬ max most 0 < (n : Int) → n + 4 ≤ l.length → ∀ q A' n' c', (n + 4 < l.length → A' = some ⟨gb, off + (4 + n), none⟩) → n' = l.length - (4 + n) → c' = c - (4 + n) →
    TextPost w g l 0 most (.returned (.string ⟨((l.drop 4).take n).toArray⟩)) ((w.drewN q).setCell ⟨g, 0, none⟩ (.slice A' n' c')))

theorem rest_fin {w : World} {g : Nat} {l : List UInt8} {most : Int} {n c gb off : Nat} {cur : Array Value} (hs : 4 ≤ l.length) (hn : n = val (l.take 4))
    (hb : Blk w g 50 #[.slice (some ⟨gb, off, none⟩) l.length c, .int .i64 0]) (h2 : l.length ≤ c) (h3 : c ≤ maxLen) (hcur : Blk w gb 5 cur) (hr : ∀ j (_ : j < l.length), cur[off + j]? = some (.int .u8 l[j].toNat)) :
    RestFin w g l most n c gb off := by
  have h4 : 0 < l.length → ∃ gb' off' cur, some (⟨gb, off, none⟩ : Addr) = some ⟨gb', off', none⟩ ∧ Blk w gb' 5 cur ∧ ∀ j (_ : j < l.length), cur[off' + j]? = some (.int .u8 l[j].toNat) := fun _ => ⟨gb, off, cur, rfl, hcur, hr⟩
  have hR : ∀ q, Rdr (w.drewN q) g l 0 := fun _ => ⟨_, c, hb, h2, h3, h4⟩
  refine ⟨fun hM q => ?_, fun hM hL q => ?_, fun hM hL q A' n' c' hA hn' hc' => ?_⟩
  · have hno : ¬ TextOk l 0 most := by unfold TextOk; rw [← hn]; omega
    refine ⟨by rw [textS, if_neg hno], ?_, grownBy_dset w q _ _ _⟩
    rw [textL, if_neg hno, textF, if_pos rfl, if_neg (by omega), if_pos (by rw [← hn]; exact hM)]
    exact rdr_fault (hR q) 4
  · have hno : ¬ TextOk l 0 most := by unfold TextOk; rw [← hn]; omega
    refine ⟨by rw [textS, if_neg hno], ?_, grownBy_dset w q _ _ _⟩
    rw [textL, if_neg hno, textF, if_pos rfl, if_neg (by omega), if_neg (by rw [← hn]; exact hM), if_pos (by rw [← hn]; omega)]
    exact rdr_fault (hR q) 10
  · have hok : TextOk l 0 most := by unfold TextOk; rw [← hn]; omega
    refine ⟨by rw [textS, if_pos hok, ← hn], ?_, grownBy_dset w q _ _ _⟩
    rw [textL, if_pos hok, textF, if_pos rfl, if_neg (by omega), if_neg (by rw [← hn]; exact hM), if_neg (by rw [← hn]; omega), ← hn]
    exact rdr_cut (w := w.drewN q) hb h2 h3 h4 (by omega) (fun hlt => by rw [hA (by omega)]; simp [Addr.add_lit]) hn' hc'

structure RestCtx (w : World) (g : Nat) (l : List UInt8) (most : Int) (n c gb off : Nat) : Prop where
  hv : ∀ k, Hid (Calls Try.prog 21 #[.slice (some ⟨gb, off, none⟩) 4 c] (w.drewN k) fun e w' => e = .returned (.int .u64 n) ∧ w.drewN k = w')
  c0 : w.cell? ⟨g, 0, none⟩ = some (.slice (some ⟨gb, off, none⟩) l.length c)
  c1 : w.cell? ⟨g, 1, none⟩ = some (.int .i64 0)
  z0 : w.frozen? ⟨g, 0, none⟩ = false
  z1 : w.frozen? ⟨g, 1, none⟩ = false
  n32 : n < 4294967296
  l4 : 4 ≤ l.length
  lc : l.length ≤ c
  cm : c ≤ maxLen
  mm : most ≤ 9223372036854775807
  rd : ∀ q X, Rd ((w.drewN q).setCell ⟨g, 0, none⟩ X) w.heap.size (some ⟨gb, off, none⟩) l
  fin : RestFin w g l most n c gb off

theorem rest_ctx (g : Nat) (l : List UInt8) (most : Int) (w : World) (h : Rdr w g l 0) (hs : 4 ≤ l.length) (hmost : most ≤ 9223372036854775807) :
    ∃ n c gb off, RestCtx w g l most n c gb off := by
  obtain ⟨A, c, hb, h2, h3, h4⟩ := h
  obtain ⟨n, hn⟩ : ∃ n, n = val (l.take 4) := ⟨_, rfl⟩
  have hrd : Rd w w.heap.size A (l.take 4) := (Rdr.rd h4).take 4
  have hrd2 : ∀ q X, Rd ((w.drewN q).setCell ⟨g, 0, none⟩ X) w.heap.size A l := fun q X hn => by
    obtain ⟨gb, off, cur, e, hc, hr⟩ := h4 hn
    refine ⟨gb, off, e, hc.lt, fun j hj => ?_⟩
    have hne : gb ≠ g := by
      rintro rfl
      unfold Blk at hc hb
      rw [hc] at hb
      simp at hb
    have hc' : Blk ((w.drewN q).setCell ⟨g, 0, none⟩ X) gb 5 cur := hc.same (Below.heap_setCell (w.drewN q) _ _ _ hne)
    rw [hc'.cell]; exact hr j hj
  obtain ⟨gb, off, cur, rfl, hcur, hcells⟩ := h4 (by omega)
  have fin := rest_fin (most := most) hs hn hb h2 h3 hcur hcells
  have hlk : (l.take 4).length = 4 := by rw [List.length_take]; omega
  have hv := fun k => value_any (some ⟨gb, off, none⟩) (l.take 4) c w.heap.size (w.drewN k) (hrd.drewN k) (by omega)
  rw [hlk, ← hn] at hv
  have hn32 : n < 4294967296 := by
    have := val_lt (l.take 4); rw [hlk] at this; omega
  exact ⟨n, c, gb, off, fun k => Lib.hid (hv k), hb.cell 0, hb.cell 1, hb.frozen 0, hb.frozen 1, hn32, hs, h2, h3, hmost, hrd2, fin⟩

set_option maxHeartbeats 1000000 in
theorem rtext_4n {w : World} {g : Nat} {l : List UInt8} {most : Int} {n c gb off : Nat} (K : RestCtx w g l most n c gb off) (hneg : most < 0) (hM : (0 : Int) < (n : Int)) :
    Calls Try.prog 10 #[.pointer (some ⟨g, 0, none⟩), .int .i64 most] w (TextPost w g l 0 most) := by
  obtain ⟨HV, c0, c1, z0, z1, n32, l4, lc, cm, mm, rd, fin⟩ := K
  have hll : (l.length : Int) ≤ 9223372036854775807 := by unfold maxLen at cm; omega
  have hs' : ¬ (l.length : Int) < 4 := by omega
  have hs4 : (4 : Int) ≤ (l.length : Int) := by omega
  have hc4' : (4 : Int) ≤ (c : Int) := by omega
  have hwl : IntKind.u64.wrap ((l.length - 4 : Nat) : Int) = ((l.length - 4 : Nat) : Int) := by rw [IntKind.wrap_u64]; omega
  have hw0 : IntKind.u64.wrap 0 = 0 := by decide
  have f := fin.1 (by omega)
  have FIN := fun q => Lib.hid (f q)
  clear f
  clear rd fin
  by_cases hc4 : c = 4
  · subst hc4
    go_enter Try.func10, Try.ntmps10
    go_wp2_with fail
    go_quiet ((go_at_call 21; exact quiet_left (HV _).out))
    go_wp2_with fail
    go_ret
    exact (FIN _).out
  · go_enter Try.func10, Try.ntmps10
    go_wp2_with fail
    go_quiet ((go_at_call 21; exact quiet_left (HV _).out))
    go_wp2_with fail
    go_ret
    exact (FIN _).out

set_option maxHeartbeats 1000000 in
theorem rtext_4p {w : World} {g : Nat} {l : List UInt8} {most : Int} {n c gb off : Nat} (K : RestCtx w g l most n c gb off) (hneg : ¬ most < 0) (hM : most < (n : Int)) :
    Calls Try.prog 10 #[.pointer (some ⟨g, 0, none⟩), .int .i64 most] w (TextPost w g l 0 most) := by
  obtain ⟨HV, c0, c1, z0, z1, n32, l4, lc, cm, mm, rd, fin⟩ := K
  have hll : (l.length : Int) ≤ 9223372036854775807 := by unfold maxLen at cm; omega
  have hs' : ¬ (l.length : Int) < 4 := by omega
  have hs4 : (4 : Int) ≤ (l.length : Int) := by omega
  have hc4' : (4 : Int) ≤ (c : Int) := by omega
  have hwl : IntKind.u64.wrap ((l.length - 4 : Nat) : Int) = ((l.length - 4 : Nat) : Int) := by rw [IntKind.wrap_u64]; omega
  have hw0 : IntKind.u64.wrap most = most := by rw [IntKind.wrap_u64]; omega
  have f := fin.1 (by omega)
  have FIN := fun q => Lib.hid (f q)
  clear f
  clear rd fin
  by_cases hc4 : c = 4
  · subst hc4
    go_enter Try.func10, Try.ntmps10
    go_wp2_with fail
    go_quiet ((go_at_call 21; exact quiet_left (HV _).out))
    go_wp2_with fail
    go_ret
    exact (FIN _).out
  · go_enter Try.func10, Try.ntmps10
    go_wp2_with fail
    go_quiet ((go_at_call 21; exact quiet_left (HV _).out))
    go_wp2_with fail
    go_ret
    exact (FIN _).out

set_option maxHeartbeats 1000000 in
theorem rtext_10p {w : World} {g : Nat} {l : List UInt8} {most : Int} {n c gb off : Nat} (K : RestCtx w g l most n c gb off) (hneg : ¬ most < 0) (hM : ¬ most < (n : Int)) (hL : ((l.length - 4 : Nat) : Int) < (n : Int)) :
    Calls Try.prog 10 #[.pointer (some ⟨g, 0, none⟩), .int .i64 most] w (TextPost w g l 0 most) := by
  obtain ⟨HV, c0, c1, z0, z1, n32, l4, lc, cm, mm, rd, fin⟩ := K
  have hll : (l.length : Int) ≤ 9223372036854775807 := by unfold maxLen at cm; omega
  have hs' : ¬ (l.length : Int) < 4 := by omega
  have hs4 : (4 : Int) ≤ (l.length : Int) := by omega
  have hc4' : (4 : Int) ≤ (c : Int) := by omega
  have hwl : IntKind.u64.wrap ((l.length - 4 : Nat) : Int) = ((l.length - 4 : Nat) : Int) := by rw [IntKind.wrap_u64]; omega
  have hw0 : IntKind.u64.wrap most = most := by rw [IntKind.wrap_u64]; omega
  have f := fin.2.1 (by omega) (by omega)
  have FIN := fun q => Lib.hid (f q)
  clear f
  clear rd fin
  by_cases hc4 : c = 4
  · subst hc4
    go_enter Try.func10, Try.ntmps10
    go_wp2_with fail
    go_quiet ((go_at_call 21; exact quiet_left (HV _).out))
    go_wp2_with fail
    go_ret
    exact (FIN _).out
  · go_enter Try.func10, Try.ntmps10
    go_wp2_with fail
    go_quiet ((go_at_call 21; exact quiet_left (HV _).out))
    go_wp2_with fail
    go_ret
    exact (FIN _).out

set_option maxHeartbeats 1000000 in
theorem rtext_okn {w : World} {g : Nat} {l : List UInt8} {most : Int} {n c gb off : Nat} (K : RestCtx w g l most n c gb off) (hneg : most < 0) (hM : ¬ (0 : Int) < (n : Int)) (hL : ¬ ((l.length - 4 : Nat) : Int) < (n : Int)) :
    Calls Try.prog 10 #[.pointer (some ⟨g, 0, none⟩), .int .i64 most] w (TextPost w g l 0 most) := by
  obtain ⟨HV, c0, c1, z0, z1, n32, l4, lc, cm, mm, rd, fin⟩ := K
  have hll : (l.length : Int) ≤ 9223372036854775807 := by unfold maxLen at cm; omega
  have hs' : ¬ (l.length : Int) < 4 := by omega
  have hs4 : (4 : Int) ≤ (l.length : Int) := by omega
  have hc4' : (4 : Int) ≤ (c : Int) := by omega
  have hwl : IntKind.u64.wrap ((l.length - 4 : Nat) : Int) = ((l.length - 4 : Nat) : Int) := by rw [IntKind.wrap_u64]; omega
  have hw0 : IntKind.u64.wrap 0 = 0 := by decide
  have f := fin.2.2 (by omega) (by omega)
  have FIN := fun q A' n' c' hA hn' hc' => Lib.hid (f q A' n' c' hA hn' hc')
  clear f
  have hn1 : (n : Int) ≤ ((l.length - 4 : Nat) : Int) := by omega
  have hn2 : (n : Int) ≤ ((c - 4 : Nat) : Int) := by omega
  have hstr : ∀ q X, (convert 22 9 (.slice (if c = 4 then some ⟨gb, off, none⟩ else some ⟨gb, off + 4, none⟩) n (c - 4))).run Try.prog ((w.drewN q).setCell ⟨g, 0, none⟩ X) = .ok (.string ⟨((l.drop 4).take n).toArray⟩) ((w.drewN q).setCell ⟨g, 0, none⟩ X) := by
    intro q X
    have h1 := ((rd q X).drop (k := 4) lc).take n
    have h2 : ((l.drop 4).take n).length = n := by rw [List.length_take, List.length_drop]; omega
    have h3 := run_str (P := Try.prog) 22 9 5 Try.underlying22 Try.underlying5 Try.underlying9 h1 (c - 4)
    rw [h2] at h3
    simpa [Addr.add_lit] using h3
  clear rd fin
  by_cases hc4 : c = 4
  · simp only [hc4, if_true] at hstr
    subst hc4
    go_enter Try.func10, Try.ntmps10
    go_wp2_with fail
    go_quiet ((go_at_call 21; exact quiet_left (HV _).out))
    go_wp2_with fail
    all_goals go_ret
    all_goals exact (FIN _ _ _ _ (fun _ => by first | (exfalso; omega) | simp only [Nat.add_assoc]) (by omega) (by omega)).out
  · simp only [hc4, if_false] at hstr
    go_enter Try.func10, Try.ntmps10
    go_wp2_with fail
    go_quiet ((go_at_call 21; exact quiet_left (HV _).out))
    go_wp2_with fail
    all_goals go_ret
    all_goals exact (FIN _ _ _ _ (fun _ => by first | (exfalso; omega) | simp only [Nat.add_assoc]) (by omega) (by omega)).out

set_option maxHeartbeats 1000000 in
theorem rtext_okp {w : World} {g : Nat} {l : List UInt8} {most : Int} {n c gb off : Nat} (K : RestCtx w g l most n c gb off) (hneg : ¬ most < 0) (hM : ¬ most < (n : Int)) (hL : ¬ ((l.length - 4 : Nat) : Int) < (n : Int)) :
    Calls Try.prog 10 #[.pointer (some ⟨g, 0, none⟩), .int .i64 most] w (TextPost w g l 0 most) := by
  obtain ⟨HV, c0, c1, z0, z1, n32, l4, lc, cm, mm, rd, fin⟩ := K
  have hll : (l.length : Int) ≤ 9223372036854775807 := by unfold maxLen at cm; omega
  have hs' : ¬ (l.length : Int) < 4 := by omega
  have hs4 : (4 : Int) ≤ (l.length : Int) := by omega
  have hc4' : (4 : Int) ≤ (c : Int) := by omega
  have hwl : IntKind.u64.wrap ((l.length - 4 : Nat) : Int) = ((l.length - 4 : Nat) : Int) := by rw [IntKind.wrap_u64]; omega
  have hw0 : IntKind.u64.wrap most = most := by rw [IntKind.wrap_u64]; omega
  have f := fin.2.2 (by omega) (by omega)
  have FIN := fun q A' n' c' hA hn' hc' => Lib.hid (f q A' n' c' hA hn' hc')
  clear f
  have hn1 : (n : Int) ≤ ((l.length - 4 : Nat) : Int) := by omega
  have hn2 : (n : Int) ≤ ((c - 4 : Nat) : Int) := by omega
  have hstr : ∀ q X, (convert 22 9 (.slice (if c = 4 then some ⟨gb, off, none⟩ else some ⟨gb, off + 4, none⟩) n (c - 4))).run Try.prog ((w.drewN q).setCell ⟨g, 0, none⟩ X) = .ok (.string ⟨((l.drop 4).take n).toArray⟩) ((w.drewN q).setCell ⟨g, 0, none⟩ X) := by
    intro q X
    have h1 := ((rd q X).drop (k := 4) lc).take n
    have h2 : ((l.drop 4).take n).length = n := by rw [List.length_take, List.length_drop]; omega
    have h3 := run_str (P := Try.prog) 22 9 5 Try.underlying22 Try.underlying5 Try.underlying9 h1 (c - 4)
    rw [h2] at h3
    simpa [Addr.add_lit] using h3
  clear rd fin
  by_cases hc4 : c = 4
  · simp only [hc4, if_true] at hstr
    subst hc4
    go_enter Try.func10, Try.ntmps10
    go_wp2_with fail
    go_quiet ((go_at_call 21; exact quiet_left (HV _).out))
    go_wp2_with fail
    all_goals go_ret
    all_goals exact (FIN _ _ _ _ (fun _ => by first | (exfalso; omega) | simp only [Nat.add_assoc]) (by omega) (by omega)).out
  · simp only [hc4, if_false] at hstr
    go_enter Try.func10, Try.ntmps10
    go_wp2_with fail
    go_quiet ((go_at_call 21; exact quiet_left (HV _).out))
    go_wp2_with fail
    all_goals go_ret
    all_goals exact (FIN _ _ _ _ (fun _ => by first | (exfalso; omega) | simp only [Nat.add_assoc]) (by omega) (by omega)).out

theorem rtext_any (g : Nat) (l : List UInt8) (f most : Int) (w : World) (h : Rdr w g l f) (hmost : most ≤ 9223372036854775807) :
    Calls Try.prog 10 #[.pointer (some ⟨g, 0, none⟩), .int .i64 most] w (TextPost w g l f most) := by
  by_cases hf : f = 0
  · subst hf
    by_cases hs : l.length < 4
    · exact rtext_short g l most w h hs
    · obtain ⟨n, c, gb, off, K⟩ := rest_ctx g l most w h (by omega) hmost
      by_cases hneg : most < 0
      · by_cases hM : (0 : Int) < (n : Int)
        · exact rtext_4n K hneg hM
        · exact rtext_okn K hneg hM (by omega)
      · by_cases hM : most < (n : Int)
        · exact rtext_4p K hneg hM
        · by_cases hL : ((l.length - 4 : Nat) : Int) < (n : Int)
          · exact rtext_10p K hneg hM hL
          · exact rtext_okp K hneg hM hL
  · exact rtext_bad g l f most w h hf
end Go.Proofs.Ytcjhcapbmdiloaa
