/- The document's reader (the reference): Text, where there are at least four bytes left. No statement of the seat is proved here. -/
import Derived.Test.YtcjhcapbmdiloaaRefB
namespace Go.Proofs.Ytcjhcapbmdiloaa
open Go.RowKit

structure RRest (w : World) (g c i : Nat) (A : Option Addr) (l : List UInt8) (most : Int) (n gb off : Nat) : Prop where
  num : ∀ q, Hid (Calls Try.prog 22 #[.pointer (some ⟨g, 0, none⟩), .int .i64 i, .int .i64 4] (w.drewN q) fun e w' => e = .returned (.int .u64 n) ∧ w.drewN q = w')
  eA : A = some ⟨gb, off, none⟩
  c0 : w.cell? ⟨g, 0, none⟩ = some (.slice A l.length c)
  c1 : w.cell? ⟨g, 1, none⟩ = some (.int .i64 i)
  c2 : w.cell? ⟨g, 2, none⟩ = some (.int .i64 0)
  z1 : w.frozen? ⟨g, 1, none⟩ = false
  z2 : w.frozen? ⟨g, 2, none⟩ = false
  n32 : n < 4294967296
  l4 : i + 4 ≤ l.length
  lm : l.length ≤ 100000
  lc : l.length ≤ c
  mm : most ≤ 9223372036854775807
  rd : Rd w g A l
  f4 : max most 0 < (n : Int) → ∀ q, RTextPost w g c A l i 0 most (.returned (.string ⟨#[]⟩)) ((w.drewN q).setCell ⟨g, 2, none⟩ (.int .i64 4))
  f10 : ¬ max most 0 < (n : Int) → l.length < i + 4 + n → ∀ q, RTextPost w g c A l i 0 most (.returned (.string ⟨#[]⟩)) ((w.drewN q).setCell ⟨g, 2, none⟩ (.int .i64 10))
  fok : ¬ max most 0 < (n : Int) → i + 4 + n ≤ l.length → ∀ q I, I = ((i + 4 + n : Nat) : Int) → RTextPost w g c A l i 0 most (.returned (.string ⟨((l.drop (i + 4)).take n).toArray⟩)) ((w.drewN q).setCell ⟨g, 1, none⟩ (.int .i64 I))

theorem rrest (g c i : Nat) (A : Option Addr) (l : List UInt8) (most : Int) (w : World) (h : Ref w g A c l i 0) (hs : i + 4 ≤ l.length) (hmost : most ≤ 9223372036854775807) :
    ∃ n gb off, RRest w g c i A l most n gb off := by
  have hl := h.2.2.1
  have hdl : (l.drop i).length = l.length - i := List.length_drop
  obtain ⟨n, hn⟩ : ∃ n, n = val ((l.drop i).take 4) := ⟨_, rfl⟩
  obtain ⟨gb, off, eA, _, _⟩ := h.2.2.2.2 (by omega)
  have hn32 : n < 4294967296 := by
    have := val_lt ((l.drop i).take 4)
    rw [List.length_take, hdl, show min 4 (l.length - i) = 4 by omega] at this
    omega
  have num := fun q => ref_number g c i i 4 A l 0 (w.drewN q) (show Ref (w.drewN q) g A c l i 0 from h) (by omega) (by omega)
  rw [← hn] at num
  refine ⟨n, gb, off, fun q => Lib.hid (num q), eA, h.1.cell 0, h.1.cell 1, h.1.cell 2, h.1.frozen 1, h.1.frozen 2, hn32, hs, hl, h.2.2.2.1, hmost, h.2.2.2.2, ?_, ?_, ?_⟩
  · intro hM q
    have hno : ¬ TextOk (l.drop i) 0 most := by unfold TextOk; rw [← hn]; omega
    exact ⟨by rw [textS, if_neg hno], ⟨i, by rw [textF, if_pos rfl, if_neg (by omega), if_pos (by rw [← hn]; exact hM)]; exact (ref_fault h q 4).1, by rw [textL, if_neg hno]⟩, (ref_fault h q 4).2⟩
  · intro hM hL q
    have hno : ¬ TextOk (l.drop i) 0 most := by unfold TextOk; rw [← hn]; omega
    exact ⟨by rw [textS, if_neg hno], ⟨i, by rw [textF, if_pos rfl, if_neg (by omega), if_neg (by rw [← hn]; exact hM), if_pos (by rw [← hn]; omega)]; exact (ref_fault h q 10).1, by rw [textL, if_neg hno]⟩, (ref_fault h q 10).2⟩
  · intro hM hL q I hI
    have hok : TextOk (l.drop i) 0 most := by unfold TextOk; rw [← hn]; omega
    have R := ref_place h q (i + 4 + n) hL I hI
    refine ⟨by rw [textS, if_pos hok, ← hn, List.drop_drop], ⟨i + 4 + n, ?_, ?_⟩, R.2⟩
    · rw [textF, if_pos rfl, if_neg (by omega), if_neg (by rw [← hn]; exact hM), if_neg (by rw [← hn]; omega)]; exact R.1
    · rw [textL, if_pos hok, ← hn, List.drop_drop, Nat.add_assoc]

set_option maxRecDepth 100000 in
set_option maxHeartbeats 2000000 in
theorem rrtext_4n {w : World} {g c i : Nat} {A : Option Addr} {l : List UInt8} {most : Int} {n gb off : Nat} (K : RRest w g c i A l most n gb off) (hneg : most < 0) (hM : (0 : Int) < (n : Int)) :
    Calls Try.prog 11 #[.pointer (some ⟨g, 0, none⟩), .int .i64 most] w (RTextPost w g c A l i 0 most) := by
  obtain ⟨NUM, rfl, c0, c1, c2, z1, z2, n32, l4, lm, lc, mm, rd, f4, f10, fok⟩ := K
  have hl' : (l.length : Int) ≤ 100000 := by omega
  have hi' : (i : Int) + 4 ≤ (l.length : Int) := by omega
  have hwl : IntKind.u64.wrap ((l.length : Int) - (i : Int) - 4) = (l.length : Int) - (i : Int) - 4 := by rw [IntKind.wrap_u64]; omega
  have hnn : (0 : Int) ≤ (n : Int) := by omega
  have hw0 : IntKind.u64.wrap 0 = 0 := by decide
  have FIN := fun q => Lib.hid (f4 (by omega) q)
  clear rd f4 f10 fok
  go_enter Try.func11, Try.ntmps11
  go_wp2_with fail
  go_quiet (fail)
  go_wp2_with (go_at_call 22; refine (NUM _).out.mono ?_; rintro e w' ⟨rfl, rfl⟩)
  go_ret
  exact (FIN _).out

set_option maxRecDepth 100000 in
set_option maxHeartbeats 2000000 in
theorem rrtext_4p {w : World} {g c i : Nat} {A : Option Addr} {l : List UInt8} {most : Int} {n gb off : Nat} (K : RRest w g c i A l most n gb off) (hneg : ¬ most < 0) (hM : most < (n : Int)) :
    Calls Try.prog 11 #[.pointer (some ⟨g, 0, none⟩), .int .i64 most] w (RTextPost w g c A l i 0 most) := by
  obtain ⟨NUM, rfl, c0, c1, c2, z1, z2, n32, l4, lm, lc, mm, rd, f4, f10, fok⟩ := K
  have hl' : (l.length : Int) ≤ 100000 := by omega
  have hi' : (i : Int) + 4 ≤ (l.length : Int) := by omega
  have hwl : IntKind.u64.wrap ((l.length : Int) - (i : Int) - 4) = (l.length : Int) - (i : Int) - 4 := by rw [IntKind.wrap_u64]; omega
  have hnn : (0 : Int) ≤ (n : Int) := by omega
  have hw0 : IntKind.u64.wrap most = most := by rw [IntKind.wrap_u64]; omega
  have FIN := fun q => Lib.hid (f4 (by omega) q)
  clear rd f4 f10 fok
  go_enter Try.func11, Try.ntmps11
  go_wp2_with fail
  go_quiet (fail)
  go_wp2_with (go_at_call 22; refine (NUM _).out.mono ?_; rintro e w' ⟨rfl, rfl⟩)
  go_ret
  exact (FIN _).out

set_option maxRecDepth 100000 in
set_option maxHeartbeats 2000000 in
theorem rrtext_10p {w : World} {g c i : Nat} {A : Option Addr} {l : List UInt8} {most : Int} {n gb off : Nat} (K : RRest w g c i A l most n gb off) (hneg : ¬ most < 0) (hM : ¬ most < (n : Int)) (hL : (l.length : Int) - (i : Int) - 4 < (n : Int)) :
    Calls Try.prog 11 #[.pointer (some ⟨g, 0, none⟩), .int .i64 most] w (RTextPost w g c A l i 0 most) := by
  obtain ⟨NUM, rfl, c0, c1, c2, z1, z2, n32, l4, lm, lc, mm, rd, f4, f10, fok⟩ := K
  have hl' : (l.length : Int) ≤ 100000 := by omega
  have hi' : (i : Int) + 4 ≤ (l.length : Int) := by omega
  have hwl : IntKind.u64.wrap ((l.length : Int) - (i : Int) - 4) = (l.length : Int) - (i : Int) - 4 := by rw [IntKind.wrap_u64]; omega
  have hnn : (0 : Int) ≤ (n : Int) := by omega
  have hw0 : IntKind.u64.wrap most = most := by rw [IntKind.wrap_u64]; omega
  have FIN := fun q => Lib.hid (f10 (by omega) (by omega) q)
  clear rd f4 f10 fok
  go_enter Try.func11, Try.ntmps11
  go_wp2_with fail
  go_quiet (fail)
  go_wp2_with (go_at_call 22; refine (NUM _).out.mono ?_; rintro e w' ⟨rfl, rfl⟩)
  go_ret
  exact (FIN _).out

set_option maxRecDepth 100000 in
set_option maxHeartbeats 2000000 in
theorem rrtext_okn {w : World} {g c i : Nat} {A : Option Addr} {l : List UInt8} {most : Int} {n gb off : Nat} (K : RRest w g c i A l most n gb off) (hneg : most < 0) (hM : ¬ (0 : Int) < (n : Int)) (hL : ¬ (l.length : Int) - (i : Int) - 4 < (n : Int)) :
    Calls Try.prog 11 #[.pointer (some ⟨g, 0, none⟩), .int .i64 most] w (RTextPost w g c A l i 0 most) := by
  obtain ⟨NUM, rfl, c0, c1, c2, z1, z2, n32, l4, lm, lc, mm, rd, f4, f10, fok⟩ := K
  have hl' : (l.length : Int) ≤ 100000 := by omega
  have hi' : (i : Int) + 4 ≤ (l.length : Int) := by omega
  have hwl : IntKind.u64.wrap ((l.length : Int) - (i : Int) - 4) = (l.length : Int) - (i : Int) - 4 := by rw [IntKind.wrap_u64]; omega
  have hnn : (0 : Int) ≤ (n : Int) := by omega
  have hw0 : IntKind.u64.wrap 0 = 0 := by decide
  have FIN := fun q I hI => Lib.hid (fok (by omega) (by omega) q I hI)
  have hin : (i : Int) + 4 + (n : Int) ≤ (l.length : Int) := by omega
  have hlc : (l.length : Int) ≤ (c : Int) := by omega
  have hwn : IntKind.i64.wrap (n : Int) = (n : Int) := by rw [IntKind.wrap_i64]; omega
  have hstr0 : ∀ W : World, Rd W g (some ⟨gb, off, none⟩) l → (convert 22 9 (.slice (if c = i + 4 then some ⟨gb, off, none⟩ else some ⟨gb, off + (i + 4), none⟩) n (c - (i + 4)))).run Try.prog W = .ok (.string ⟨((l.drop (i + 4)).take n).toArray⟩) W := by
    intro W hW
    have h1 := (hW.drop (k := i + 4) lc).take n
    have h2 : ((l.drop (i + 4)).take n).length = n := by rw [List.length_take, List.length_drop]; omega
    have h3 := run_str (P := Try.prog) 22 9 5 Try.underlying22 Try.underlying5 Try.underlying9 h1 (c - (i + 4))
    rw [h2] at h3
    simpa [Addr.add_lit] using h3
  have hstr1 := fun q => hstr0 (w.drewN q) (rd.drewN q)
  have hstr2 := fun q r => hstr0 ((w.drewN q).drewN r) ((rd.drewN q).drewN r)
  clear hstr0
  clear rd f4 f10 fok
  go_enter Try.func11, Try.ntmps11
  go_wp2_with fail
  go_quiet (fail)
  go_wp2_with (go_at_call 22; refine (NUM _).out.mono ?_; rintro e w' ⟨rfl, rfl⟩)
  have s1 : IntKind.i64.wrap ((i : Int) + 4) = (i : Int) + 4 := by rw [IntKind.wrap_i64]; omega
  have s2 : IntKind.i64.wrap ((i : Int) + 4 + (n : Int)) = (i : Int) + 4 + (n : Int) := by rw [IntKind.wrap_i64]; omega
  have s3 : (0 : Int) ≤ (i : Int) + 4 := by omega
  have s4 : (i : Int) + 4 ≤ (i : Int) + 4 + (n : Int) := by omega
  have s5 : (i : Int) + 4 + (n : Int) ≤ (c : Int) := by omega
  have s6 : ((i : Int) + 4).toNat = i + 4 := by omega
  have s7 : ((i : Int) + 4 + (n : Int)).toNat = i + 4 + n := by omega
  go_quiet (fail)
  clear s1 s2 s3 s4 s5 s6 s7 hstr1 hstr2
  go_wp2_with fail
  all_goals go_ret
  all_goals (first | (refine (FIN _ _ ?_).out; omega) | (obtain rfl : c = i + 4 := ‹c = i + 4›; refine (FIN _ _ ?_).out; omega))

set_option maxRecDepth 100000 in
set_option maxHeartbeats 2000000 in
theorem rrtext_okp {w : World} {g c i : Nat} {A : Option Addr} {l : List UInt8} {most : Int} {n gb off : Nat} (K : RRest w g c i A l most n gb off) (hneg : ¬ most < 0) (hM : ¬ most < (n : Int)) (hL : ¬ (l.length : Int) - (i : Int) - 4 < (n : Int)) :
    Calls Try.prog 11 #[.pointer (some ⟨g, 0, none⟩), .int .i64 most] w (RTextPost w g c A l i 0 most) := by
  obtain ⟨NUM, rfl, c0, c1, c2, z1, z2, n32, l4, lm, lc, mm, rd, f4, f10, fok⟩ := K
  have hl' : (l.length : Int) ≤ 100000 := by omega
  have hi' : (i : Int) + 4 ≤ (l.length : Int) := by omega
  have hwl : IntKind.u64.wrap ((l.length : Int) - (i : Int) - 4) = (l.length : Int) - (i : Int) - 4 := by rw [IntKind.wrap_u64]; omega
  have hnn : (0 : Int) ≤ (n : Int) := by omega
  have hw0 : IntKind.u64.wrap most = most := by rw [IntKind.wrap_u64]; omega
  have FIN := fun q I hI => Lib.hid (fok (by omega) (by omega) q I hI)
  have hin : (i : Int) + 4 + (n : Int) ≤ (l.length : Int) := by omega
  have hlc : (l.length : Int) ≤ (c : Int) := by omega
  have hwn : IntKind.i64.wrap (n : Int) = (n : Int) := by rw [IntKind.wrap_i64]; omega
  have hstr0 : ∀ W : World, Rd W g (some ⟨gb, off, none⟩) l → (convert 22 9 (.slice (if c = i + 4 then some ⟨gb, off, none⟩ else some ⟨gb, off + (i + 4), none⟩) n (c - (i + 4)))).run Try.prog W = .ok (.string ⟨((l.drop (i + 4)).take n).toArray⟩) W := by
    intro W hW
    have h1 := (hW.drop (k := i + 4) lc).take n
    have h2 : ((l.drop (i + 4)).take n).length = n := by rw [List.length_take, List.length_drop]; omega
    have h3 := run_str (P := Try.prog) 22 9 5 Try.underlying22 Try.underlying5 Try.underlying9 h1 (c - (i + 4))
    rw [h2] at h3
    simpa [Addr.add_lit] using h3
  have hstr1 := fun q => hstr0 (w.drewN q) (rd.drewN q)
  have hstr2 := fun q r => hstr0 ((w.drewN q).drewN r) ((rd.drewN q).drewN r)
  clear hstr0
  clear rd f4 f10 fok
  go_enter Try.func11, Try.ntmps11
  go_wp2_with fail
  go_quiet (fail)
  go_wp2_with (go_at_call 22; refine (NUM _).out.mono ?_; rintro e w' ⟨rfl, rfl⟩)
  have s1 : IntKind.i64.wrap ((i : Int) + 4) = (i : Int) + 4 := by rw [IntKind.wrap_i64]; omega
  have s2 : IntKind.i64.wrap ((i : Int) + 4 + (n : Int)) = (i : Int) + 4 + (n : Int) := by rw [IntKind.wrap_i64]; omega
  have s3 : (0 : Int) ≤ (i : Int) + 4 := by omega
  have s4 : (i : Int) + 4 ≤ (i : Int) + 4 + (n : Int) := by omega
  have s5 : (i : Int) + 4 + (n : Int) ≤ (c : Int) := by omega
  have s6 : ((i : Int) + 4).toNat = i + 4 := by omega
  have s7 : ((i : Int) + 4 + (n : Int)).toNat = i + 4 + n := by omega
  go_quiet (fail)
  clear s1 s2 s3 s4 s5 s6 s7 hstr1 hstr2
  go_wp2_with fail
  all_goals go_ret
  all_goals (first | (refine (FIN _ _ ?_).out; omega) | (obtain rfl : c = i + 4 := ‹c = i + 4›; refine (FIN _ _ ?_).out; omega))

theorem rrtext_any (g c i : Nat) (A : Option Addr) (l : List UInt8) (f most : Int) (w : World) (h : Ref w g A c l i f) (hmost : most ≤ 9223372036854775807) :
    Calls Try.prog 11 #[.pointer (some ⟨g, 0, none⟩), .int .i64 most] w (RTextPost w g c A l i f most) := by
  by_cases hf : f = 0
  · subst hf
    by_cases hs : l.length - i < 4
    · exact rrtext_short g c i A l most w h hs
    · obtain ⟨n, gb, off, K⟩ := rrest g c i A l most w h (by omega) hmost
      by_cases hneg : most < 0
      · by_cases hM : (0 : Int) < (n : Int)
        · exact rrtext_4n K hneg hM
        · exact rrtext_okn K hneg hM (by have := h.2.1; omega)
      · by_cases hM : most < (n : Int)
        · exact rrtext_4p K hneg hM
        · by_cases hL : (l.length : Int) - (i : Int) - 4 < (n : Int)
          · exact rrtext_10p K hneg hM hL
          · exact rrtext_okp K hneg hM hL
  · exact rrtext_bad g c i A l f most w h hf
end Go.Proofs.Ytcjhcapbmdiloaa
