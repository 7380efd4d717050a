/- The contract of a stream's Write. No statement of the seat is proved here. -/
import Derived.Test.YtmnbfmcgnddlaaaChunkStream
namespace Go.Proofs.Ytmnbfmcgnddlaaa
open Go.RowKit

theorem chunks_nil_left {C : Ctr} (K : C.Ok) {l : List UInt8} (h : chunksB C l = []) : leftB C l = l := by
  have := ends_flat K l
  rw [h] at this
  simpa using this
/-- What a Write leaves behind. -/
structure Wrote (C : Ctr) (l : List UInt8) (w w' : World) (B s : Nat) (V : Value) (ps : List Part) (A' : Option Addr) (n' c' : Nat) : Prop where
  chunks : Chunks w' w.heap.size V ps
  told : psb ps = chunksB C l
  st : St w' B s C A' n' c' (leftB C l)
  own : w'.ownsRow w.heap.size 5 1 (.slice A' n' c') n' (bv (leftB C l))
  far : ∀ p ∈ ps, ∀ g, p.val.ownBlock = some g → (Value.slice A' n' c').ownBlock ≠ some g
  touch : Touch s w w'

theorem wrote_of {C : Ctr} {l h : List UInt8} {w w4 : World} {B s n c : Nat} {A : Option Addr} {V : Value} {ps : List Part} {A' : Option Addr} {n' c' : Nat} (hs : St w B s C A n c h) (hx : Below w.heap.size w w4) (hch : Chunks w4 w.heap.size V ps) (hps : psb ps = chunksB C l)
    (ho : w4.ownsRow w.heap.size 5 1 (.slice A' n' c') n' (bv (leftB C l))) (hl : (leftB C l).length = n') (hf : ∀ p ∈ ps, ∀ g, p.val.ownBlock = some g → (Value.slice A' n' c').ownBlock ≠ some g) :
    Wrote C l w (w4.setCell ⟨s, 4, none⟩ (.slice A' n' c')) B s V ps A' n' c' := by
  have hB4 := (hs.on hx).blk
  have ht := Touch.own (w := w4) (s := s) (i := 4) (v := .slice A' n' c')
  have ho2 := ownsRow_touch ho hB4 ty_u8 ht
  exact ⟨hch.touch hB4 ht, hps, ⟨hB4.set_ 4 _, ownsRow_base ho2 (by have := hs.blk.lt; have := hs.le; omega), hl, hs.le⟩, ho2, hf, Touch.set_ hx⟩
set_option maxHeartbeats 2000000 in
theorem write_ok (B s : Nat) (C : Ctr) (K : C.Ok) (A : Option Addr) (n c : Nat) (h : List UInt8) (w : World) (hs : St w B s C A n c h) (Ab : Option Addr) (k cb : Nat) (b : List UInt8) (hb : b.length = k) (hrb : Rd w w.heap.size Ab b) (hn : n ≤ 1000000) (hk : k ≤ 1000000) :
    Calls Try.prog 20 #[.pointer (some ⟨s, 0, none⟩), .slice Ab k cb] w fun e w' => ∃ V ps A' n' c', e = .returned V ∧ Wrote C (h ++ b) w w' B s V ps A' n' c' := by
  have HKC := Lib.hid (show ∀ W, Below w.heap.size w W → W.cell? ⟨s, 0, none⟩ = some (.int .i64 C.mn) ∧ W.cell? ⟨s, 1, none⟩ = some (.int .i64 C.mx) ∧ W.cell? ⟨s, 2, none⟩ = some (.int .u32 C.ma.toNat) ∧ W.cell? ⟨s, 3, none⟩ = some (.int .u32 C.ba.toNat) ∧ W.cell? ⟨s, 4, none⟩ = some (.slice A n c) from fun W h => (hs.on h).cells)
  have HRA := Lib.hid (show ∀ W, Below w.heap.size w W → Rd W W.heap.size A h from fun W hb => ((Rd.of_own hs.own).below hb).more hb.size)
  have HRB := Lib.hid (show ∀ W, Below w.heap.size w W → Rd W W.heap.size Ab b from fun W hb => (hrb.below hb).more hb.size)
  have hx0 : Below w.heap.size w w.drew := ⟨rfl, rfl, rfl, Nat.le_refl _, fun _ _ => rfl⟩
  have hlen := Lib.hid (show (h ++ b).length = n + k by rw [List.length_append, hs.len, hb])
  have HL := Lib.hid hs.len
  have HLB := Lib.hid hb
  have HS := Lib.hid hs
  have HK := Lib.hid K
  have hnk : n + k ≤ 1000000000 := by omega
  have hnm : n + k ≤ 9223372036854775807 := by omega
  clear hs hrb hb K
  go_enter Try.func20, Try.ntmps20
  go_wp2_with fail
  go_region_held3 (fun W => W.cell? ⟨s, 0, none⟩ = some (.int .i64 C.mn) ∧ W.cell? ⟨s, 1, none⟩ = some (.int .i64 C.mx) ∧ W.cell? ⟨s, 2, none⟩ = some (.int .u32 C.ma.toNat) ∧ W.cell? ⟨s, 3, none⟩ = some (.int .u32 C.ba.toNat) ∧ W.cell? ⟨s, 4, none⟩ = some (.slice A n c)) (first | exact HKC.out _ (by assumption) | fail) (first
    | (go_at_call 30; (with_reducible refine (joined_any A Ab h b n k c cb _ HL.out HLB.out (HRA.out _ hx0) (HRB.out _ hx0) hn hk).mono ?_); rintro e w2 ⟨rfl, ho2', hb2⟩; have ho2 : w2.ownsRow w.heap.size 5 1 (.slice (some ⟨w.heap.size, 0, none⟩) (n + k) (n + k)) (n + k) (bv (h ++ b)) := ho2'; have hx2 := hx0.trans (hb2.mono hx0.size))
    | (go_at_call 28; (with_reducible refine (split_ok C HK.out (some ⟨w.heap.size, 0, none⟩) (h ++ b) (n + k) (n + k) hlen.out hnk (Nat.le_refl _) hnm w2 (Rd.of_own ho2)).mono ?_); rintro e w3 ⟨V, A3, k3, c3, rfl, hS, hb3⟩; have hx3 := hx2.trans (hb3.mono hx2.size)))
  obtain ⟨⟨ps, hch, hps⟩, hk3, hrd3, hle3, hmx3, hsame⟩ := hS
  obtain ⟨AV, cV, rfl, _, _⟩ := hch.form
  have ho3 := ownsRow_below ho2 hb3
  have hch3 := hch.base hx2.size
  have hk9 : k3 ≤ 1000000000 := by
    have h1 := congrArg List.length (ends_flat HK.out (h ++ b))
    rw [List.length_append, hlen.out, hk3] at h1
    omega
  by_cases h0 : ps.length = 0
  · have hp0 : ps = [] := List.eq_nil_of_length_eq_zero h0
    have hc0 : chunksB C (h ++ b) = [] := by rw [← hps, hp0]; rfl
    obtain ⟨rfl, rfl⟩ := hsame hc0
    have hlf := chunks_nil_left HK.out hc0
    rw [hlf, hlen.out] at hk3
    subst hk3
    have hW := Lib.hid (wrote_of (l := h ++ b) (A' := some ⟨w.heap.size, 0, none⟩) (n' := n + k) (c' := n + k) HS.out hx3 hch3 hps (by rw [hlf]; exact ho3) (by rw [hlf]; exact hlen.out) (by rw [hp0]; simp))
    rw [h0] at hW ⊢
    have hf := (HS.out.on hx3).blk.frozen 4
    obtain ⟨_, _, _, _, h4⟩ := HKC.out _ hx3
    clear hch hps hrd3 hsame ho3 hch3 ho2 hb2 hb3 hp0 hc0 hlf
    go_wp2
    go_ret
    exact ⟨_, ps, _, _, _, rfl, hW.out⟩
  · have h0i : (0 : Int) < (ps.length : Int) := by omega
    have HK3 := Lib.hid hk3
    have HR3 := Lib.hid (hrd3.more hb3.size)
    have HC3 := Lib.hid (And.intro hch3 hps)
    have HX3 := Lib.hid hx3
    clear hch hps hrd3 hsame ho3 hch3 ho2 hb2 hb3 hk3 hx3 hx2 hx0 ho2'
    generalize ps.length = z at *
    go_wp2_with fail
    with_reducible refine (clone_any A3 (leftB C (h ++ b)) k3 c3 HK3.out hk9 w3 HR3.out).mono ?_
    rintro e w4 ⟨A4, c4, rfl, ho4, hb4⟩
    have hx4 := HX3.out.trans (hb4.mono HX3.out.size)
    have hW := Lib.hid (wrote_of (l := h ++ b) (A' := A4) (n' := k3) (c' := c4) HS.out hx4 (HC3.out.1.on hb4) HC3.out.2 (ownsRow_base ho4 HX3.out.size) HK3.out (fun p hp g hg hg' => by
      have h1 := ((HC3.out.1.each p hp).lt g hg).2
      have h2 := (ho4.lt g hg').1
      omega))
    have hf := (HS.out.on hx4).blk.frozen 4
    obtain ⟨_, _, _, _, h4⟩ := HKC.out _ hx4
    clear ho4 hb4 hx4
    go_wp2
    go_ret
    exact ⟨_, ps, _, _, _, rfl, hW.out⟩
end Go.Proofs.Ytmnbfmcgnddlaaa
