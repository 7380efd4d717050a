/- The contract of slices.Chunk of bytes, at 128: the iterator over the pieces of a slice. No statement of the seat is proved here. -/
import Derived.Test.YthbgcffnnholeaaMem
import Derived.Test.YthbgcffnnholeaaQuiet
import Derived.Test.YthbgcffnnholeaaVMA
import Derived.Test.YthbgcffnnholeaaMarkKit
import Derived.RangeFuncNested
import Derived.RangeFuncLeaves
import Derived.RangeFuncCalls
import Derived.Shelf.Abstract
import Derived.OwnWalkIn
import Derived.TacticsInMore
import Derived.LoopNIn
import Derived.LoopIn
import Derived.Deep.QuietTactic
import Derived.BigQuiet
import Derived.IntWalk
import Derived.Sort.QuietIn
namespace Go.Proofs.Ythbgcffnnholeaa
open Go.RowKit Go.Shelf
set_option linter.unusedVariables false
attribute [local go_sem] Oper.semAt_some

/-- The two boxes of the iterator lie as they lay. -/
def KX (bx bn : Nat) (W W' : World) : Prop := W'.heap[bx]? = W.heap[bx]? ∧ W'.heap[bn]? = W.heap[bn]?
theorem KX.refl (bx bn : Nat) (W : World) : KX bx bn W W := ⟨rfl, rfl⟩
theorem KX.trans {bx bn : Nat} {A B C : World} (h : KX bx bn A B) (k : KX bx bn B C) : KX bx bn A C := ⟨k.1.trans h.1, k.2.trans h.2⟩
theorem KX.putObj {w : World} {bx bn : Nat} (h1 : bx < w.heap.size) (h2 : bn < w.heap.size) (W : World) (l : Nat) (o o' : Obj) (hl : w.heap.size ≤ l) (_ : W.heap[l]? = some o) (_ : o.isCells = false) (_ : o.isWalk = false) : KX bx bn W (W.putObj l o') :=
  ⟨World.putObj_heap_other (by omega), World.putObj_heap_other (by omega)⟩
/-- The first so many numbers. -/
theorem fin_take (K k : Nat) (h : k < K) : (List.finRange K).take k ++ [⟨k, h⟩] = (List.finRange K).take (k + 1) := by
  rw [List.take_succ_eq_append_getElem (by simpa using h)]
  simp
/-- How long a piece is. -/
def pieceN (n k : Nat) : Nat := if n - 128 * k < 128 then n - 128 * k else 128
theorem piece_length (x : List UInt8) (k : Nat) : ((x.drop (128 * k)).take 128).length = pieceN x.length k := by
  unfold pieceN; rw [List.length_take, List.length_drop]; split <;> omega
abbrev pieceV (g n : Nat) (q : Fin (nSec n)) : Value := .slice (some ⟨g, 128 * q.val, none⟩) (pieceN n q.val) (pieceN n q.val)
theorem chunk_ok (A : Option Addr) (n c : Nat) (w : World) :
    Calls Try.prog 38 #[.slice A n c, .int .i64 128] w fun e w' => e = .returned (.func (.func 50) #[] #[.pointer (some ⟨w.heap.size, 0, none⟩), .pointer (some ⟨w.heap.size + 1, 0, none⟩)]) ∧
      w' = (w.alloc (.cells #[.slice A n c] 42)).alloc (.cells #[.int .i64 128] 3) := by
  go_enter Try.func38, Try.ntmps38
  go_wp2
  go_ret
  exact ⟨rfl, rfl⟩
set_option maxRecDepth 100000 in
set_option maxHeartbeats 2000000 in
theorem it_chunks (dp : Nat) (hd : 1 ≤ dp) (bx bn g n c : Nat) (w : World) (hx : Blk w bx 42 #[.slice (some ⟨g, 0, none⟩) n c]) (hb : Blk w bn 3 #[.int .i64 128]) (hnc : n ≤ c) (hcm : c ≤ maxLen) (hn0 : 0 < n) (hn : n ≤ 200000) :
    SeqStopsK Fence.wide dp Try.prog 50 #[.pointer (some ⟨bx, 0, none⟩), .pointer (some ⟨bn, 0, none⟩)] (fun q : Fin (nSec n) => #[pieceV g n q]) (KX bx bn) (fun xs => xs = List.finRange (nSec n)) (fun pre => pre <+: List.finRange (nSec n)) (nSec n) w := fun l J Jx W hW hJ hJx hY hJ0 => by
  have HX := Lib.hid (hx.below hW hx.lt)
  have HBN := Lib.hid (hb.below hW hb.lt)
  have HYY := Lib.hid hY
  have HJ := Lib.hid hJ
  unfold maxLen at hcm
  obtain ⟨K, hK⟩ : ∃ K, nSec n = K := ⟨_, rfl⟩
  have hKn : K = (n + 127) / 128 := hK.symm
  have HK := Lib.hid hK
  clear hx hb hW hY hJ hK
  refine callsIn_of_wp Try.func50 rfl trivial ?_ rfl
  simp only [Try.ntmps50, List.size_toArray, List.length_cons, List.length_nil, Nat.reduceAdd, Nat.reduceSub, Array.replicate_succ, Array.replicate_zero, List.push_toArray, List.append_toArray, List.nil_append, List.cons_append]
  gi_wp2
  gi_loopw [4] (fun i wr => ∃ k : Nat, k ≤ K ∧ i = .int .i64 ((128 * k : Nat) : Int) ∧ J ((List.finRange (nSec n)).take k) wr ∧ KX bx bn W wr) (fun i _ => 128 * K - (intOf i).toNat)
  case atStart => exact ⟨0, Nat.zero_le _, rfl, by simpa using hJ0, KX.refl _ _ _⟩
  case round =>
    obtain ⟨k, hk, rfl, hJk, hkx⟩ := hrel
    clear hJ0
    have hxc : wr.cell? ⟨bx, 0, none⟩ = some (.slice (some ⟨g, 0, none⟩) n c) := (HX.out.same hkx.1).cell 0
    have hnc2 : wr.cell? ⟨bn, 0, none⟩ = some (.int .i64 128) := (HBN.out.same hkx.2).cell 0
    obtain ⟨i, hi⟩ : ∃ i, 128 * k = i := ⟨_, rfl⟩
    rw [hi]
    by_cases hlt : i < n
    · have hci : ¬ c = i := by omega
      have hic : i ≤ c := by omega
      obtain ⟨pl, hpl⟩ : ∃ pl, pieceN n k = pl := ⟨_, rfl⟩
      have hpe : pl = if n - i < 128 then n - i else 128 := by rw [← hpl, ← hi]; rfl
      have hmin1 : (if (128 : Int) < ((n - i : Nat) : Int) then (128 : Int) else ((n - i : Nat) : Int)) = (pl : Int) := by rw [hpe]; repeat (first | omega | rfl | split)
      have hmin2 : (if 128 < n - i then (128 : Int) else ((n - i : Nat) : Int)) = (pl : Int) := by rw [hpe]; repeat (first | omega | rfl | split)
      have hmin3 : (if ((n - i : Nat) : Int) < (128 : Int) then ((n - i : Nat) : Int) else (128 : Int)) = (pl : Int) := by rw [hpe]; repeat (first | omega | rfl | split)
      have hmin4 : (if n - i < 128 then ((n - i : Nat) : Int) else (128 : Int)) = (pl : Int) := by rw [hpe]; repeat (first | omega | rfl | split)
      have hp1 : i + pl ≤ n := by rw [hpe]; split <;> omega
      obtain ⟨E, hE⟩ : ∃ E, i + pl = E := ⟨_, rfl⟩
      rw [hE] at hp1
      have hp2 : (i : Int) + (pl : Int) = (E : Int) := by omega
      have hp3 : E - i = pl := by omega
      have hp4 : i ≤ E := by omega
      have hp5 : E ≤ c := by omega
      have HP := Lib.hid (And.intro hpl (And.intro hpe hE))
      clear hpl hpe hE
      gi_wp2
      gi_quiet (fail)
      have hkx0 : KX bx bn W (wr.drewN nq) := hkx
      have hxc0 : (wr.drewN nq).cell? ⟨bx, 0, none⟩ = some (.slice (some ⟨g, 0, none⟩) n c) := hxc
      have hnc0 : (wr.drewN nq).cell? ⟨bn, 0, none⟩ = some (.int .i64 128) := hnc2
      have hJ1 := abides_drewN HJ.out nq hJk
      clear hJk hkx hxc hnc2
      generalize wr.drewN nq = W0 at *
      have hkK : k < nSec n := by unfold nSec; omega
      obtain ⟨fn, tmps, assign, body, hy, hR⟩ := HYY.out ((List.finRange (nSec n)).take k) ⟨k, hkK⟩ W0 hJ1 (by simp; omega)
      have hpv : pieceV g n ⟨k, hkK⟩ = .slice (some ⟨g, i, none⟩) pl pl := by simp only [pieceV, hi, HP.out.1]
      rw [hpv] at hy
      rw [fin_take] at hR
      clear hJ1 hpv
      gi_wp2
      refine hR.mono ?_
      rintro e W3 (⟨rfl, hJ3, hk3⟩ | ⟨rfl, hJx3⟩)
      · have hkx3 := hkx0.trans hk3
        have hnc3 : W3.cell? ⟨bn, 0, none⟩ = some (.int .i64 128) := (HBN.out.same hkx3.2).cell 0
        have hi128 : (i : Int) + 128 = ((128 * (k + 1) : Nat) : Int) := by omega
        gi_wp2
        go_roundw
        case rel => exact ⟨k + 1, by omega, by first | rfl | (rw [hi128]), hJ3, hkx3⟩
        case measure => simp [intOf]; omega
      · gi_wp2
        refine bodyPost_ret (results_none rfl _ _ _) rfl ?_
        exact ⟨⟨_, rfl⟩, .inr ⟨_, List.take_prefix _ _, hJx3⟩⟩
    · gi_wp2
      go_end0
      refine ⟨⟨_, rfl⟩, .inl ⟨_, rfl, ?_⟩⟩
      have hkK : k = K := by omega
      rw [hkK, ← HK.out, List.take_of_length_le (by simp)] at hJk
      exact hJk
end Go.Proofs.Ythbgcffnnholeaa
