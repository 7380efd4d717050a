/- The contracts of a stream: New, Held, Write, Close. No statement of the seat is proved here. -/
import Derived.Test.YtmnbfmcgnddlaaaChunkJoin
import Derived.Test.YtmnbfmcgnddlaaaChunkAll
import Derived.Deep.RegionHeld3
namespace Go.Proofs.Ytmnbfmcgnddlaaa
open Go.RowKit

/-- In w the block s is a stream with the cutter C, which holds the bytes h in memory of its own, from block B on. -/
structure St (w : World) (B s : Nat) (C : Ctr) (A : Option Addr) (n c : Nat) (h : List UInt8) : Prop where
  blk : Blk w s 49 #[.int .i64 C.mn, .int .i64 C.mx, .int .u32 C.ma.toNat, .int .u32 C.ba.toNat, .slice A n c]
  own : w.ownsRow B 5 1 (.slice A n c) n (bv h)
  len : h.length = n
  le : B ≤ s
/-- Of what was there only the block s has turned. -/
structure Touch (s : Nat) (w w' : World) : Prop where
  os : w'.os = w.os
  tape : w'.tape = w.tape
  output : w'.output = w.output
  size : w.heap.size ≤ w'.heap.size
  block : ∀ g, g < w.heap.size → g ≠ s → w'.heap[g]? = w.heap[g]?
section
variable {w w' w'' : World} {B s : Nat} {C : Ctr} {A : Option Addr} {n c : Nat} {h : List UInt8}
theorem Touch.of_below (hb : Below w.heap.size w w') : Touch s w w' := ⟨hb.os, hb.tape, hb.output, hb.size, fun g hg _ => hb.block g hg⟩
theorem Touch.below {w0 : World} (ht : Touch s w w') (hb : Below B w0 w) (hs : B ≤ s) (hB : B ≤ w.heap.size) : Below B w0 w' :=
  hb.trans ⟨ht.os, ht.tape, ht.output, ht.size, fun g hg => ht.block g (by omega) (by omega)⟩
theorem St.on (hs : St w B s C A n c h) (hb : Below w.heap.size w w') : St w' B s C A n c h := ⟨hs.blk.below hb hs.blk.lt, ownsRow_below hs.own hb, hs.len, hs.le⟩
theorem St.base {B' : Nat} (hs : St w B s C A n c h) (hB : B' ≤ B) : St w B' s C A n c h := ⟨hs.blk, ownsRow_base hs.own hB, hs.len, Nat.le_trans hB hs.le⟩
theorem St.cells (hs : St w B s C A n c h) : w.cell? ⟨s, 0, none⟩ = some (.int .i64 C.mn) ∧ w.cell? ⟨s, 1, none⟩ = some (.int .i64 C.mx) ∧ w.cell? ⟨s, 2, none⟩ = some (.int .u32 C.ma.toNat) ∧ w.cell? ⟨s, 3, none⟩ = some (.int .u32 C.ba.toNat) ∧ w.cell? ⟨s, 4, none⟩ = some (.slice A n c) :=
  ⟨hs.blk.cell 0, hs.blk.cell 1, hs.blk.cell 2, hs.blk.cell 3, hs.blk.cell 4⟩
end

set_option maxHeartbeats 1000000 in
theorem new_bad (mn mx ma ba : Int) (hk : ¬ okI mn mx ma ba) (w : World) :
    Calls Try.prog 19 #[ctr mn mx ma ba] w fun e w' => e = .returned (.pointer none) ∧ Below w.heap.size w w' := by
  have hb1 := (Below.refl w.heap.size w).alloc (Nat.le_refl _) (.cells #[.int .i64 mn, .int .i64 mx, .int .u32 ma, .int .u32 ba] 24)
  go_enter Try.func19, Try.ntmps19
  go_wp2_with fail
  refine (right_any mn mx ma ba _).mono ?_
  rintro e w2 ⟨rfl, hb2⟩
  have hb2 := hb1.trans (hb2.mono hb1.size)
  rw [decide_eq_false hk]
  clear hb1
  go_wp2
  go_ret
  exact ⟨rfl, hb2⟩
set_option maxHeartbeats 1000000 in
theorem new_ok (C : Ctr) (K : C.Ok) (w : World) :
    Calls Try.prog 19 #[ctr C.mn C.mx C.ma.toNat C.ba.toNat] w fun e w' => ∃ s, e = .returned (.pointer (some ⟨s, 0, none⟩)) ∧ St w' w.heap.size s C none 0 0 [] ∧ Below w.heap.size w w' := by
  obtain ⟨g, hg⟩ : ∃ g, g = w.heap.size := ⟨_, rfl⟩
  have hb1 := (Below.refl w.heap.size w).alloc (Nat.le_refl _) (.cells #[.int .i64 C.mn, .int .i64 C.mx, .int .u32 C.ma.toNat, .int .u32 C.ba.toNat] 24)
  have hB1 := blk_at w 24 #[.int .i64 C.mn, .int .i64 C.mx, .int .u32 C.ma.toNat, .int .u32 C.ba.toNat] hg
  have hk := ok_true K
  have HG := Lib.hid hg
  go_enter Try.func19, Try.ntmps19
  go_wp2_with fail
  rw [← hg]
  generalize w.alloc (.cells #[.int .i64 C.mn, .int .i64 C.mx, .int .u32 C.ma.toNat, .int .u32 C.ba.toNat] 24) = w1 at *
  refine (right_any _ _ _ _ _).mono ?_
  rintro e w2 ⟨rfl, hb2⟩
  have hB2 := hB1.below hb2 hB1.lt
  have hb2 := hb1.trans (hb2.mono hb1.size)
  rw [hk]
  obtain ⟨hc0, hc1, hc2, hc3⟩ := ctr_cells hB2
  have hb3 := hb2.alloc hb2.size (.cells #[.int .i64 C.mn, .int .i64 C.mx, .int .u32 C.ma.toNat, .int .u32 C.ba.toNat, .slice none 0 0] 49)
  have hSt : St (w2.alloc (.cells #[.int .i64 C.mn, .int .i64 C.mx, .int .u32 C.ma.toNat, .int .u32 C.ba.toNat, .slice none 0 0] 49)) w.heap.size w2.heap.size C none 0 0 [] :=
    ⟨Blk.new _ _ _, World.ownsRow_nil _ _ _ _, rfl, hb2.size⟩
  have H := Lib.hid (And.intro hSt hb3)
  clear hSt hb3 hB1 hB2 hb1 hg hk
  go_wp2
  go_ret
  exact ⟨_, rfl, H.out⟩
theorem held_ok (B s : Nat) (C : Ctr) (A : Option Addr) (n c : Nat) (h : List UInt8) (w : World) (hs : St w B s C A n c h) :
    Calls Try.prog 22 #[.pointer (some ⟨s, 0, none⟩)] w fun e w' => e = .returned (.int .i64 n) ∧ w = w' := by
  obtain ⟨_, _, _, _, h4⟩ := hs.cells
  go_enter Try.func22, Try.ntmps22
  go_wp2
  go_ret
  exact ⟨rfl, rfl⟩
/-- A row of another type is no stream's block. -/
theorem row_not_blk {w : World} {b s : Nat} {e t : TypeId} {sz n : Nat} {v : Value} {xs : List Value} {cs : Array Value} (h : w.ownsRow b e sz v n xs) (hB : Blk w s t cs) (hne : e ≠ t) : v.ownBlock ≠ some s := by
  intro hv
  rcases h.2 with ⟨rfl, _⟩ | ⟨g, cap, cur, rfl, _, hh, _⟩
  · simp [Value.ownBlock] at hv
  · simp [Value.ownBlock] at hv
    subst hv
    unfold Blk at hB
    rw [hh] at hB
    injection hB with hB
    injection hB with _ hB _
    exact hne hB
theorem ownsRow_touch {w w' : World} {b s : Nat} {e t : TypeId} {sz n : Nat} {v : Value} {xs : List Value} {cs : Array Value} (h : w.ownsRow b e sz v n xs) (hB : Blk w s t cs) (hne : e ≠ t) (ht : Touch s w w') : w'.ownsRow b e sz v n xs :=
  ownsRow_same h fun g hv hl => ht.block g hl fun e => row_not_blk h hB hne (by rw [hv, e])
theorem ty_u8 : (5 : TypeId) ≠ 49 := by decide
theorem ty_bytes : (25 : TypeId) ≠ 49 := by decide
theorem Chunks.touch {w w' : World} {B s : Nat} {V : Value} {ps : List Part} {cs : Array Value} (h : Chunks w B V ps) (hB : Blk w s 49 cs) (ht : Touch s w w') : Chunks w' B V ps :=
  ⟨ownsRow_touch h.row hB ty_bytes ht, fun p hp => ownsRow_touch (h.each p hp) hB ty_u8 ht⟩
theorem Touch.set_ {w w' : World} {s i : Nat} {v : Value} (h : Below w.heap.size w w') : Touch s w (w'.setCell ⟨s, i, none⟩ v) :=
  ⟨h.os, h.tape, h.output, by simpa [World.setCell] using h.size, fun g hg hn => by
    rw [show (w'.setCell ⟨s, i, none⟩ v).heap[g]? = w'.heap[g]? by
      simp [World.setCell, Array.getElem?_modify]
      intro e; exact absurd e.symm hn]
    exact h.block g hg⟩
theorem Touch.own {w : World} {s i : Nat} {v : Value} : Touch s w (w.setCell ⟨s, i, none⟩ v) := Touch.set_ (Below.refl _ _)

theorem close_none (B s : Nat) (C : Ctr) (A : Option Addr) (c : Nat) (h : List UInt8) (w : World) (hs : St w B s C A 0 c h) :
    Calls Try.prog 23 #[.pointer (some ⟨s, 0, none⟩)] w fun e w' => e = .returned (.slice none 0 0) ∧ w = w' := by
  have HS := Lib.hid hs
  clear hs
  go_enter Try.func23, Try.ntmps23
  go_wp2_with fail
  refine (held_ok B s C A 0 c h w HS.out).mono ?_
  rintro e w' ⟨rfl, rfl⟩
  go_wp2
  go_ret
  exact ⟨rfl, rfl⟩
set_option maxHeartbeats 1000000 in
theorem close_more (B s : Nat) (C : Ctr) (A : Option Addr) (n c : Nat) (h : List UInt8) (w : World) (hs : St w B s C A n c h) (hn : ¬ n = 0) :
    Calls Try.prog 23 #[.pointer (some ⟨s, 0, none⟩)] w fun e w' => e = .returned (.slice (some ⟨w.heap.size, 0, none⟩) 1 1) ∧
      w' = (w.setCell ⟨s, 4, none⟩ (.slice none 0 0)).alloc (.cells #[.slice A n c] 25) := by
  obtain ⟨_, _, _, _, h4⟩ := hs.cells
  have hf := hs.blk.frozen 4
  have HS := Lib.hid hs
  clear hs
  go_enter Try.func23, Try.ntmps23
  go_wp2_with fail
  refine (held_ok B s C A n c h w HS.out).mono ?_
  rintro e w' ⟨rfl, rfl⟩
  go_wp2
  go_ret
  exact ⟨rfl, rfl⟩
theorem close_ok (B s : Nat) (C : Ctr) (A : Option Addr) (n c : Nat) (h : List UInt8) (w : World) (hs : St w B s C A n c h) :
    Calls Try.prog 23 #[.pointer (some ⟨s, 0, none⟩)] w fun e w' => ∃ V ps, e = .returned V ∧ Chunks w' B V ps ∧ psb ps = tailB h ∧ (∃ A' c', St w' B s C A' 0 c' []) ∧ Touch s w w' := by
  by_cases hn : n = 0
  · subst hn
    obtain rfl : h = [] := List.eq_nil_of_length_eq_zero hs.len
    refine (close_none B s C A c [] w hs).mono ?_
    rintro e w' ⟨rfl, rfl⟩
    exact ⟨_, [], rfl, Chunks.nil _ _, rfl, ⟨A, c, hs⟩, Touch.of_below (Below.refl _ _)⟩
  · refine (close_more B s C A n c h w hs hn).mono ?_
    rintro e w' ⟨rfl, rfl⟩
    have hB : B ≤ w.heap.size := by have := hs.blk.lt; have := hs.le; omega
    have ht := Touch.own (w := w) (s := s) (i := 4) (v := .slice none 0 0)
    have hsz : (w.setCell ⟨s, 4, none⟩ (.slice none 0 0)).heap.size = w.heap.size := by simp [World.setCell]
    have hb := (Below.refl (w.setCell ⟨s, 4, none⟩ (.slice none 0 0)).heap.size (w.setCell ⟨s, 4, none⟩ (.slice none 0 0))).alloc (Nat.le_refl _) (.cells #[.slice A n c] 25)
    have ho := ownsRow_below (ownsRow_touch hs.own hs.blk ty_u8 ht) hb
    have hblk : Blk (w.setCell ⟨s, 4, none⟩ (.slice none 0 0)) s 49 #[.int .i64 C.mn, .int .i64 C.mx, .int .u32 C.ma.toNat, .int .u32 C.ba.toNat, .slice none 0 0] := hs.blk.set_ 4 _
    have hpv : Part.val (A, c, h) = .slice A n c := by simp only [Part.val]; rw [hs.len]
    have hne : ¬ h = [] := fun e => hn (by rw [← hs.len, e]; rfl)
    refine ⟨_, [(A, c, h)], rfl, ⟨?_, ?_⟩, by simp [tailB, hne], ⟨none, 0, hblk.below hb hblk.lt, World.ownsRow_nil _ _ _ _, rfl, hs.le⟩, ?_⟩
    · rw [← hsz]
      have := World.ownsRow_lit (base := B) (size := 1) (e := 25) (w.setCell ⟨s, 4, none⟩ (.slice none 0 0)) #[.slice A n c] 1 (by rw [hsz]; exact hB) (by simp [maxLen]) rfl
      simpa [psv, hpv] using this
    · intro p hp
      rw [List.mem_singleton.1 hp, hpv, hs.len]
      exact ho
    · exact ⟨rfl, rfl, rfl, by simp [World.setCell], fun g hg hn => (hb.block g (by rw [hsz]; exact hg)).trans (ht.block g hg hn)⟩
end Go.Proofs.Ytmnbfmcgnddlaaa
