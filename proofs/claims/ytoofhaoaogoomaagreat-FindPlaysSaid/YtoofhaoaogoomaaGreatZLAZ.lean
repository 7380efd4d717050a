/- What the walks of a range over a function lean on. No statement of the seat is proved here. -/
import Derived.Test.YtoofhaoaogoomaaGreatZLAA
import Derived.Test.YtoofhaoaogoomaaGreatZLAD
import Derived.RangeFuncNested
import Derived.RangeFuncLeaves
import Derived.RangeFuncCalls
import Derived.Shelf.Abstract
import Derived.OwnWalkIn
import Derived.TacticsInMore
import Derived.LoopNIn
import Derived.LoopIn
import Derived.Deep.QuietTactic
import Derived.BigQuiet
import Derived.IntWalk
namespace Go.Proofs.YtoofhaoaogoomaaGreat
open Go.RowKit
theorem abides_drewN {β : Type} {B : Nat} {J : β → World → Prop} (h : AbidesFrom B J) {s : β} {W : World} (q : Nat) (hs : J s W) : J s (W.drewN q) :=
  h s W _ none hs ⟨rfl, rfl, rfl, Nat.le_refl _, fun _ _ _ => rfl⟩ (fun r e => by cases e)
theorem leaves_mark {F : Fence} {n D : Nat} {P : Program} {fn : Func} {tmps : Array Value} {R : Ending → World → Prop} {W : World} (hK : W.heap[D]? = some (.deferred (some [])))
    (h : LeavesInM F n P fn tmps R [] .returning (W.putObj D (.deferred none))) : LeavesInM F n P fn tmps R [{ target := .collected D, args := #[] }] .returning W :=
  ⟨by simp, .inl ⟨_, _, rfl, run_takeDeferred hK, h⟩⟩
theorem own_post {α : Type} {Kp : World → World → Prop} {I : List α → World → Prop} {Ix : Code → List α → World → Prop} {xs : List α} {W W' : World} {a : Act} (h1 : KeepsOthers W W') (h2 : Kp W W') (h3 : I xs W') : ownPostK Kp I Ix xs W .normal a W' := ⟨h1, h2, h3⟩
theorem own_ret {α : Type} {Kp : World → World → Prop} {I : List α → World → Prop} {Ix : Code → List α → World → Prop} {xs : List α} {W W' : World} {a : Act} (h1 : KeepsOthers W W') (h3 : Ix .ret xs W') : ownPostK Kp I Ix xs W .ret a W' := ⟨h1, h3⟩
end Go.Proofs.YtoofhaoaogoomaaGreat
/- The contract of the iterator over a key's bits. No statement of the seat is proved here. -/
namespace Go.Proofs.YtoofhaoaogoomaaGreat
open Go.RowKit Go.Shelf
attribute [local go_sem] Oper.semAt_some

/-- The cells of a key with these bytes and this number. -/
structure BKeyOk (kc : Array Value) (s : List UInt8) (N : Nat) : Prop where
  sum : ∀ j (_ : j < s.length), kc[j]? = some (.int .u8 s[j].toNat)
  num : kc[32]? = some (.int .u32 N)
  len : s.length = 32
  size : kc.size = 33
  lt : N < 4294967296
theorem BKeyOk.rd {kc : Array Value} {s : List UInt8} {N : Nat} (h : BKeyOk kc s N) {w : World} {bk : Nat} (hk : Blk w bk 29 kc) (i : Nat) (hi : i ≤ 28) : Rd w w.heap.size (some ⟨bk, i, none⟩) ((s.drop i).take 4) := fun _ => by
  refine ⟨bk, i, rfl, hk.lt, fun j hj => ?_⟩
  rw [List.length_take, List.length_drop, h.len] at hj
  rw [hk.cell, h.sum (i + j) (by rw [h.len]; omega), List.getElem_take, List.getElem_drop]
/-- Whatever lay below n₀ lies as it lay, but block g. -/
def KB (n₀ g : Nat) (W W' : World) : Prop := ∀ k, k < n₀ → k ≠ g → W'.heap[k]? = W.heap[k]?
theorem KB.refl (n₀ g : Nat) (W : World) : KB n₀ g W W := fun _ _ _ => rfl
theorem KB.trans {n₀ g : Nat} {A B C : World} (h : KB n₀ g A B) (k : KB n₀ g B C) : KB n₀ g A C := fun i h1 h2 => (k i h1 h2).trans (h i h1 h2)
theorem KB.cell {n₀ g : Nat} {W W' : World} (h : KB n₀ g W W') {b i : Nat} {v : Value} (h1 : b < n₀) (h2 : b ≠ g) (hc : W.cell? ⟨b, i, none⟩ = some v) : W'.cell? ⟨b, i, none⟩ = some v := by
  rw [World.cell?_of_block (h b h1 h2)]; exact hc
theorem KB.putObj {w : World} {n₀ g : Nat} (hn : n₀ ≤ w.heap.size) (W : World) (l : Nat) (o o' : Obj) (hl : w.heap.size ≤ l) (_ : W.heap[l]? = some o) (_ : o.isCells = false) (_ : o.isWalk = false) : KB n₀ g W (W.putObj l o') :=
  fun k h1 _ => World.putObj_heap_other (by omega)
theorem or_one (B : Nat) (h : B < 4294967296) : bits BinOp.or IntKind.u32 (B : Int) 1 = ((B ||| 1 : Nat) : Int) := u32_or_nat B 1 h (by omega)

set_option maxRecDepth 100000 in
set_option maxHeartbeats 2000000 in
/-- No bits: nothing comes. -/
theorem it_none (d : Nat) (bx bk : Nat) (v : Option Addr) (Kp : World → World → Prop) (p : Nat) (w : World) (hx : Blk w bx 70 #[.pointer v]) (hv : ∀ A, v = some A → ∃ b, A = ⟨b, 0, none⟩ ∧ w.cell? ⟨b, 0, none⟩ = some (.int .u32 0)) :
    SeqStopsK Fence.wide d Tryz.prog 77 #[.pointer (some ⟨bx, 0, none⟩), .pointer (some ⟨bk, 0, none⟩)] (fun q : Fin 0 => #[Value.int .u32 (q.val : Nat)]) Kp (fun xs => xs = []) (fun pre => pre <+: []) p w := fun l J Jx W hW hJ hJx hY h0 => by
  have hxc := (hx.below hW hx.lt).cell 0
  have HX := Lib.hid hx
  clear hx
  refine callsIn_of_wp Tryz.func77 rfl trivial ?_ rfl
  simp only [Tryz.ntmps77, List.size_toArray, List.length_cons, List.length_nil, Nat.reduceAdd, Nat.reduceSub, Array.replicate_succ, Array.replicate_zero, List.push_toArray, List.append_toArray, List.nil_append, List.cons_append]
  refine wpIn_wide.2 ?_
  rcases v with _ | A
  · go_wp2
    refine bodyPost_ret (results_none rfl _ _ _) rfl ?_
    exact ⟨⟨_, rfl⟩, .inl h0⟩
  · obtain ⟨b, rfl, hb⟩ := hv A rfl
    have hb2 := (hW.cell (p := ⟨b, 0, none⟩) (World.block_lt_of_cell? w _ hb)).trans hb
    clear hv hb
    go_wp2
    refine bodyPost_ret (results_none rfl _ _ _) rfl ?_
    exact ⟨⟨_, rfl⟩, .inl h0⟩

set_option maxRecDepth 100000 in
set_option maxHeartbeats 2000000 in
theorem it_stops (d : Nat) (hd : 1 ≤ d) (bx bk n₀ v g n p : Nat) (kc : Array Value) (s : List UInt8) (N : Nat) (K : BKeyOk kc s N) (w : World) (hx : Blk w bx 70 #[.pointer (some ⟨v, 0, none⟩)]) (hk : Blk w bk 29 kc)
    (hv0 : w.cell? ⟨v, 0, none⟩ = some (.int .u32 n)) (hv1 : w.cell? ⟨v, 1, none⟩ = some (.int .i64 p)) (hn0 : 0 < n) (hn : n ≤ 1048576) (hp : p ≤ 30) (h0 : n₀ ≤ w.heap.size)
    (hbx : bx < n₀) (hvn : v < n₀) (hgx : bx ≠ g) (hgv : v ≠ g) :
    SeqStopsK Fence.wide d Tryz.prog 77 #[.pointer (some ⟨bx, 0, none⟩), .pointer (some ⟨bk, 0, none⟩)] (fun q : Fin n => #[Value.int .u32 (q.val : Nat)]) (KB n₀ g) (fun xs => xs = spots n p (keyA s N) (keyB s)) (fun pre => pre <+: spots n p (keyA s N) (keyB s)) p w := fun l J Jx W hW hJ hJx hY hJ0 => by
  have hxc := (hx.below hW hx.lt).cell 0
  have hkb := hk.below hW hk.lt
  have hkn := hkb.cell 32
  rw [K.num] at hkn
  have hc0 := (hW.cell (p := ⟨v, 0, none⟩) (by simp; omega)).trans hv0
  have hc1 := (hW.cell (p := ⟨v, 1, none⟩) (by simp; omega)).trans hv1
  have HR1 := Lib.hid (show Rd W W.heap.size (some ⟨bk, 0, none⟩) (s.take 4) from K.rd hkb 0 (by omega))
  have HR2 := Lib.hid (K.rd hkb 4 (by omega))
  have HL1 := Lib.hid (show (s.take 4).length = 4 by rw [List.length_take, K.len]; rfl)
  have HL2 := Lib.hid (show ((s.drop 4).take 4).length = 4 by rw [List.length_take, List.length_drop, K.len]; rfl)
  obtain ⟨a, ha⟩ : ∃ a, keyA s N = a := ⟨_, rfl⟩
  obtain ⟨b, hb⟩ : ∃ b, keyB s = b := ⟨_, rfl⟩
  obtain ⟨V1, hV1⟩ : ∃ V1, val (s.take 4) = V1 := ⟨_, rfl⟩
  obtain ⟨V2, hV2⟩ : ∃ V2, val ((s.drop 4).take 4) = V2 := ⟨_, rfl⟩
  have hV1l : V1 < 4294967296 := by rw [← hV1]; have := val_lt (s.take 4); rw [HL1.out] at this; exact this
  have hV2l : V2 < 4294967296 := by rw [← hV2]; have := val_lt ((s.drop 4).take 4); rw [HL2.out] at this; exact this
  have hal : a < 4294967296 := by rw [← ha]; exact Nat.mod_lt _ (by omega)
  have hbl : b < 4294967296 := by
    rw [← hb, keyB, hV2]
    exact Nat.or_lt_two_pow (n := 32) hV2l (by decide)
  have e1 : ((V1 : Int) + (N : Int)) % 4294967296 = (a : Int) := by
    rw [← ha, keyA, hV1]; omega
  have e2 : bits BinOp.or IntKind.u32 (V2 : Int) 1 = (b : Int) := by rw [← hb, keyB, hV2]; exact or_one V2 hV2l
  rw [ha, hb]
  have E1 := Lib.hid (show (((val (s.take 4) : Nat) : Int) + (N : Int)) % 4294967296 = (a : Int) by rw [hV1]; exact e1)
  have E2 := Lib.hid (show bits BinOp.or IntKind.u32 ((val ((s.drop 4).take 4) : Nat) : Int) 1 = (b : Int) by rw [hV2]; exact e2)
  have HV1 := Lib.hid hV1
  have HV2 := Lib.hid hV2
  have HX := Lib.hid hxc
  have HW := Lib.hid hW
  have HYY := Lib.hid hY
  clear hx hk ha hb hV1 hV2 hY hv0 hv1 hkb e1 e2 hW K
  refine callsIn_of_wp Tryz.func77 rfl trivial ?_ rfl
  simp only [Tryz.ntmps77, List.size_toArray, List.length_cons, List.length_nil, Nat.reduceAdd, Nat.reduceSub, Array.replicate_succ, Array.replicate_zero, List.push_toArray, List.append_toArray, List.nil_append, List.cons_append]
  refine wpIn_wide.2 ?_
  go_wp2_with fail
  go_quiet ((go_at_call 78; exact quiet_left (number_ok _ _ 4 32 HL1.out (by omega) _ (HR1.out.drewN _))))
  rw [E1.out]
  go_wp2_with fail
  refine (number_ok _ _ 4 28 HL2.out (by omega) _ (HR2.out.drewN _)).mono ?_
  rintro e w' ⟨rfl, rfl⟩
  have hc0 : (W.drewN nq).cell? ⟨v, 0, none⟩ = some (.int .u32 n) := hc0
  have hc1 : (W.drewN nq).cell? ⟨v, 1, none⟩ = some (.int .i64 p) := hc1
  have hxc : (W.drewN nq).cell? ⟨bx, 0, none⟩ = some (.pointer (some ⟨v, 0, none⟩)) := HX.out
  have hJ1 := abides_drewN hJ nq hJ0
  clear hJ0
  generalize W.drewN nq = W0 at *
  go_wp2_with fail
  rw [E2.out]
  refine (wpIn_wide (n := d)).1 ?_
  have HC := Lib.hid (And.intro hxc (And.intro hc0 hc1))
  clear hxc hc0 hc1 hkn
  gi_loopw [4, 29] (fun x i wr => ∃ k : Nat, k ≤ p ∧ i = .int .i64 k ∧ x = .int .u32 (sumAt a b k : Nat) ∧ J (spots n k a b) wr ∧ KB n₀ g W0 wr) (fun _ i _ => p - (intOf i).toNat)
  case atStart => exact ⟨0, Nat.zero_le _, rfl, by rw [sumAt_zero b hal], by simpa [spots] using hJ1, KB.refl _ _ _⟩
  case round =>
    obtain ⟨k, hk, rfl, rfl, hJk, hkb⟩ := hrel
    obtain ⟨hxc, hc0, hc1⟩ := HC.out
    have hc0 := hkb.cell hvn hgv hc0
    have hc1 := hkb.cell hvn hgv hc1
    have hxc := hkb.cell hbx hgx hxc
    clear hJ1
    have hlen := spots_length hn0 k a b
    have hpre := spots_pre hn0 p a b k hk
    have hss := sumAt_succ a b k
    have hsl := sumAt_lt a b k
    by_cases hlt : k < p
    · have hsn := spots_snoc hn0 k a b
      have hpre2 := spots_pre hn0 p a b (k + 1) hlt
      obtain ⟨V, hV⟩ : ∃ V, sumAt a b k = V := ⟨_, rfl⟩
      obtain ⟨q, hq⟩ : ∃ q : Fin n, q = ⟨sumAt a b k % n, Nat.mod_lt _ hn0⟩ := ⟨_, rfl⟩
      rw [← hq] at hsn
      have hqv : ((q.val : Nat) : Int) = (V : Int) % (n : Int) := by rw [hq, ← hV]; simp
      obtain ⟨fn, tmps, assign, body, hy, hR⟩ := HYY.out (spots n k a b) q wr hJk (by rw [hlen]; exact hlt)
      rw [hqv] at hy
      rw [hV] at hss hsl ⊢
      rw [← hsn] at hR
      have HS := Lib.hid (And.intro hss hpre2)
      clear hpre hss hpre2 hq hqv hV hsn hlen
      gi_wp2
      refine hR.mono ?_
      rintro e W3 (⟨rfl, hJ3, hk3⟩ | ⟨rfl, hJx3⟩)
      · have hkb3 := hkb.trans hk3
        gi_wp2
        go_roundw
        case rel => exact ⟨k + 1, hlt, by go_num, congrArg (Value.int .u32) (by rw [← HS.out.1]; omega), hJ3, hkb3⟩
        case measure => simp [intOf]; omega
      · gi_wp2
        refine bodyPost_ret (results_none rfl _ _ _) rfl ?_
        exact ⟨⟨_, rfl⟩, .inr ⟨_, HS.out.2, hJx3⟩⟩
    · obtain rfl : p = k := by omega
      clear hpre hss hlen
      gi_wp2
      go_end0
      exact ⟨⟨_, rfl⟩, .inl ⟨_, rfl, hJk⟩⟩
/-- Both. -/
theorem it_all (d : Nat) (hd : 1 ≤ d) (bx bk n₀ v g n p : Nat) (kc : Array Value) (s : List UInt8) (N : Nat) (K : BKeyOk kc s N) (w : World) (hx : Blk w bx 70 #[.pointer (some ⟨v, 0, none⟩)]) (hk : Blk w bk 29 kc)
    (hv0 : w.cell? ⟨v, 0, none⟩ = some (.int .u32 n)) (hv1 : w.cell? ⟨v, 1, none⟩ = some (.int .i64 p)) (hn : n ≤ 1048576) (hp : p ≤ 30) (h0 : n₀ ≤ w.heap.size)
    (hbx : bx < n₀) (hvn : v < n₀) (hgx : bx ≠ g) (hgv : v ≠ g) :
    SeqStopsK Fence.wide d Tryz.prog 77 #[.pointer (some ⟨bx, 0, none⟩), .pointer (some ⟨bk, 0, none⟩)] (fun q : Fin n => #[Value.int .u32 (q.val : Nat)]) (KB n₀ g) (fun xs => xs = spots n p (keyA s N) (keyB s)) (fun pre => pre <+: spots n p (keyA s N) (keyB s)) p w := by
  rcases Nat.eq_zero_or_pos n with rfl | hn0
  · exact it_none d bx bk (some ⟨v, 0, none⟩) (KB n₀ g) p w hx (fun A e => ⟨v, by injection e with e; exact e.symm, hv0⟩)
  · exact it_stops d hd bx bk n₀ v g n p kc s N K w hx hk hv0 hv1 hn0 hn hp h0 hbx hvn hgx hgv
end Go.Proofs.YtoofhaoaogoomaaGreat
/- The contract of Add of a filter. No statement of the seat is proved here. -/
namespace Go.Proofs.YtoofhaoaogoomaaGreat
open Go.RowKit Go.Shelf
attribute [local go_sem] Oper.semAt_some

theorem bkey_desc : ∃ fs, Tryz.prog.underlying 29 = some (.struct fs) := ⟨_, Tryz.underlying29⟩
theorem bkey_size : (Tryz.prog.info? 29).map (·.size) = some 33 := by kernel_rfl
/-- Block g is a row of bytes, and of what w had all else lies as it lay. -/
def Row1 (g : Nat) (w : World) (l : List UInt8) (W : World) : Prop := Blk W g 5 (bv l).toArray ∧ w.grownBy W (some g)
theorem row1_own {β : Type} {g : Nat} {w : World} (hg : g < w.heap.size) (f : β → List UInt8) : OwnFrom w.heap.size (fun s W => Row1 g w (f s) W) := fun s W W' row ⟨h1, h2⟩ hgr hr => by
  have hne : ∀ k, k < w.heap.size → some k ≠ row := fun k hk e => by have := (hr k e.symm).1; omega
  exact ⟨h1.same (hgr.block g h1.lt (hne g hg)), ⟨hgr.os.trans h2.os, hgr.tape.trans h2.tape, hgr.output.trans h2.output, Nat.le_trans h2.size hgr.size, fun k hk hn => (hgr.block k (Nat.lt_of_lt_of_le hk h2.size) (hne k hk)).trans (h2.block k hk hn)⟩⟩
theorem grownBy_kb {w W : World} {g : Nat} (h : w.grownBy W (some g)) : KB w.heap.size g w W := fun k h1 h2 => h.block k h1 (fun e => h2 (by injection e))

theorem grownBy_cell (W : World) (b i : Nat) (v : Value) : W.grownBy (W.setCell ⟨b, i, none⟩ v) (some b) :=
  ⟨rfl, rfl, rfl, (KeepsWalks.setCell W _ v).size, fun k _ hk => Below.heap_setCell _ _ _ k (fun e => hk (by rw [e]))⟩
theorem grownBy_kb' {W W' : World} {n₀ g : Nat} (h : W.grownBy W' (some g)) (hn : n₀ ≤ W.heap.size) : KB n₀ g W W' := fun k h1 h2 => h.block k (by omega) (fun e => h2 (by injection e))
/-- Behind the loop: the block of the deferred calls has turned besides, which is a new one. -/
theorem behind_loop {w W : World} {g D : Nat} (h : w.grownBy W (some g)) (hD : w.heap.size ≤ D) (o : Obj) : w.grownBy (W.putObj D o) (some g) :=
  ⟨h.os, h.tape, h.output, by simpa using h.size, fun k hk hn => (World.putObj_heap_other (by omega)).trans (h.block k hk hn)⟩
theorem below_grown {w W : World} (h : Below w.heap.size w W) (g : Nat) : w.grownBy W (some g) := ⟨h.os, h.tape, h.output, h.size, fun k hk _ => h.block k hk⟩
theorem gby_trans {a b c : World} {row : Option Nat} (h : a.grownBy b row) (k : b.grownBy c row) : a.grownBy c row :=
  ⟨k.os.trans h.os, k.tape.trans h.tape, k.output.trans h.output, Nat.le_trans h.size k.size, fun i hi hn => (k.block i (Nat.lt_of_lt_of_le hi h.size) hn).trans (h.block i hi hn)⟩
theorem four_blocks (w : World) (s t : TypeId) (cs ds : Array Value) : ((((w.alloc (.cells cs s)).alloc (.cells ds t)).alloc (.cells cs s)).alloc (.cells ds t)).heap.size = w.heap.size + 4 ∧
    Below w.heap.size w ((((w.alloc (.cells cs s)).alloc (.cells ds t)).alloc (.cells cs s)).alloc (.cells ds t)) ∧ Blk ((((w.alloc (.cells cs s)).alloc (.cells ds t)).alloc (.cells cs s)).alloc (.cells ds t)) w.heap.size s cs ∧
    Blk ((((w.alloc (.cells cs s)).alloc (.cells ds t)).alloc (.cells cs s)).alloc (.cells ds t)) (w.heap.size + 1 + 1) s cs ∧ Blk ((((w.alloc (.cells cs s)).alloc (.cells ds t)).alloc (.cells cs s)).alloc (.cells ds t)) (w.heap.size + 1 + 1 + 1) t ds := by
  have n0 := Blk.new w s cs
  have n2 := blk_at ((w.alloc (.cells cs s)).alloc (.cells ds t)) s cs (g := w.heap.size + 1 + 1) (by simp)
  have n3 := blk_at (((w.alloc (.cells cs s)).alloc (.cells ds t)).alloc (.cells cs s)) t ds (g := w.heap.size + 1 + 1 + 1) (by simp)
  have b1 := (Below.refl w.heap.size w).alloc (Nat.le_refl _) (.cells cs s)
  have b2 := b1.alloc b1.size (.cells ds t)
  have b3 := b2.alloc b2.size (.cells cs s)
  have b4 := b3.alloc b3.size (.cells ds t)
  have up := fun (W : World) (o : Obj) => (Below.refl W.heap.size W).alloc (Nat.le_refl _) o
  refine ⟨by simp, b4, ?_, n2.below (up _ _) n2.lt, n3⟩
  have m1 := n0.below (up _ (.cells ds t)) n0.lt
  have m2 := m1.below (up _ (.cells cs s)) m1.lt
  exact m2.below (up _ (.cells ds t)) m2.lt
theorem bv_set (l : List UInt8) (j : Nat) (b : UInt8) {X : Nat} (hb : b.toNat = X) : (bv (l.set j b)).toArray = (bv l).toArray.setIfInBounds j (.int .u8 (X : Nat)) := by
  subst hb
  simp [bv, List.map_set]
set_option maxRecDepth 100000 in
set_option maxHeartbeats 1000000 in
theorem add_ok (v g n p : Nat) (S : Nat → Bool) (kc : Array Value) (s : List UInt8) (N : Nat) (K : BKeyOk kc s N) (w : World) (h : Vec w v g n p S) :
    Calls Tryz.prog 33 #[.pointer (some ⟨v, 0, none⟩), .agg kc] w fun e w' => (∃ x, e = .returned x) ∧ Vec w' v g n p (putL S (spotsN n p (keyA s N) (keyB s))) ∧ w.grownBy w' (some g) := by
  obtain ⟨fs, hfs⟩ := bkey_desc
  have hksz : (Tryz.prog.info? 29).map (·.size) = some kc.size := by rw [K.size]; exact bkey_size
  have hkb : Blk ((w.alloc (.cells #[.pointer (some ⟨v, 0, none⟩)] 70)).alloc (.cells kc 29)) (w.heap.size + 1) 29 kc := blk_at _ _ _ (by rw [World.size_alloc])
  obtain ⟨a, ha⟩ : ∃ a, keyA s N = a := ⟨_, rfl⟩
  obtain ⟨b, hb⟩ : ∃ b, keyB s = b := ⟨_, rfl⟩
  rw [ha, hb]
  have HA := Lib.hid ha
  have HBB := Lib.hid hb
  have HF := Lib.hid hfs
  have HK := Lib.hid hksz
  have HB := Lib.hid hkb
  clear hfs hksz hkb ha hb
  refine (callsIn_wide (n := 3)).1 ?_
  refine callsIn_of_wp_marks Tryz.func33 rfl trivial ?_ rfl
  simp only [Tryz.ntmps33, List.size_toArray, List.length_cons, List.length_nil, Nat.reduceAdd, Nat.reduceSub, Array.replicate_succ, Array.replicate_zero, List.push_toArray, List.append_toArray, List.nil_append, List.cons_append]
  refine wpIn_wide.2 ?_
  go_wp2_with (refine wpList_load_row rfl 29 (.tmp 3) rfl (w.heap.size + 1) rfl 29 kc (0, 0) (.struct fs) HB.out HF.out rfl HK.out ?_)
  refine (bits_ok kc _ _).mono ?_
  rintro e w' ⟨rfl, rfl⟩
  go_wp2_with fail
  obtain ⟨hsz4, hb4, hx0, hx4, hk4⟩ := four_blocks w 70 29 #[.pointer (some ⟨v, 0, none⟩)] kc
  generalize ((((w.alloc (.cells #[.pointer (some ⟨v, 0, none⟩)] 70)).alloc (.cells kc 29)).alloc (.cells #[.pointer (some ⟨v, 0, none⟩)] 70)).alloc (.cells kc 29)) = w1 at *
  have hv := h.below hb4 h.vb.lt h.gb.lt
  have hgl := h.gb.lt
  have hvl := h.vb.lt
  obtain ⟨hc0, hc1, hc2, hc3⟩ := hv.cells
  have hit := it_all 2 (by omega) (w.heap.size + 1 + 1) (w.heap.size + 1 + 1 + 1) w1.heap.size v g n p kc s N K w1 hx4 hk4 hc0 hc1 h.hn h.hp (Nat.le_refl _) (by omega) (by omega) (by omega) h.ne
  rw [HA.out, HBB.out] at hit
  refine (wpIn_wide (n := 3)).1 ?_
  have hown := row1_own (g := g) (w := w1) (by omega) (fun pre : List (Fin n) => pk n (putL S (pre.map (·.val))))
  have hst : Row1 g w1 (pk n (putL S (([] : List (Fin n)).map (·.val)))) w1 := ⟨by simpa [putL] using hv.gb, World.grownBy.refl _ _⟩
  have hent := enters_of Tryz.func77 (by kernel_rfl) rfl
  have hkp := fun W l o o' => KB.putObj (w := w1) (n₀ := w1.heap.size) (g := g) (Nat.le_refl _) W l o o'
  refine wpIn_rangeFunc_ownF (F := Fence.wide) (n := 3) (P := Tryz.prog) rfl (by decide) (gf := 77) (lb := #[.pointer (some ⟨w.heap.size + 1 + 1, 0, none⟩), .pointer (some ⟨w.heap.size + 1 + 1 + 1, 0, none⟩)]) rfl trivial hent
    hit KB.trans hkp (Below.refl _ _) (fun _ => rfl)
    (fun pre W => Row1 g w1 (pk n (putL S (pre.map (·.val)))) W) (fun _ _ _ => False)
    ?hown ?hix ?hst
    (fun x => { tmps := #[.pointer (some ⟨v, 0, none⟩), .agg kc, .pointer (some ⟨w.heap.size, 0, none⟩), .pointer (some ⟨w.heap.size + 1, 0, none⟩), .int .u32 (x.val : Nat), undef, undef, .pointer (some ⟨v, 0, none⟩), .agg kc,
      .func (.func 77) #[] #[.pointer (some ⟨w.heap.size + 1 + 1, 0, none⟩), .pointer (some ⟨w.heap.size + 1 + 1 + 1, 0, none⟩)], .int .u32 (x.val : Nat), undef, undef, undef, undef, undef, undef, undef, undef, undef, undef, undef, undef, undef, undef, undef], defers := [] }) ?assign ?body ?done ?stop
  case hown => exact hown
  case hix => exact fun _ _ _ _ _ hs _ _ => hs
  case hst => exact hst
  case assign =>
    intro l x W K hK
    gi_wp2
    exact hK
  case body =>
    rintro l pre x W ⟨hgb, hgr⟩ _
    have hkb := grownBy_kb hgr
    have hx0' := (hx0.same (hkb _ (by omega) (by omega))).cell 0
    obtain ⟨_, _, _, hc3⟩ := (show Vec W v g n p (putL S (pre.map (·.val))) from ⟨hv.vb.same (hkb _ (by omega) h.ne), hgb, h.hn, h.hp⟩).cells
    have hxn := x.2
    have hpl := pk_length n (putL S (pre.map (·.val)))
    have hq8 : x.val / 8 < (n + 7) / 8 := by omega
    have hq9 : x.val / 8 < (pk n (putL S (pre.map (·.val)))).length := by rw [hpl]; exact hq8
    have hcg := hgb.cell (x.val / 8)
    rw [List.getElem?_toArray, bv_get hq9] at hcg
    have hfg := hgb.frozen (x.val / 8)
    have hput := pk_put (putL S (pre.map (·.val))) hxn hq9
    have hd : 1 ≤ 3 - 1 - 1 := by omega
    have hm8 : (n + 7) / 8 ≤ 131072 := by have := h.hn; omega
    have hcell := fun W' => CallsIn.inRound l ((callsIn_wide (n := 3 - 1 - 1 - 1)).2 (cell_ok g ((n + 7) / 8) x.val hq8 hm8 W'))
    gi_wp2_with ((with_reducible refine And.intro ?_ ?_); exact trivial; gi_at_call 56; (with_reducible refine (hcell _).mono ?_); rintro e w' ⟨rfl, rfl⟩)
    have hp8 := pow8_lt x.val
    have hbo : bits BinOp.or IntKind.u8 ((pk n (putL S (pre.map (·.val))))[x.val / 8].toNat : Int) (2 ^ (x.val % 8)) = (((pk n (putL S (pre.map (·.val))))[x.val / 8].toNat ||| 2 ^ (x.val % 8) : Nat) : Int) := by
      rw [← u8_or_nat _ _ (UInt8.toNat_lt _) hp8]; simp
    have hlt8 : ((pk n (putL S (pre.map (·.val))))[x.val / 8].toNat ||| 2 ^ (x.val % 8)) < 256 := Nat.or_lt_two_pow (n := 8) (UInt8.toNat_lt _) hp8
    rw [hbo]
    generalize ((pk n (putL S (pre.map (·.val))))[x.val / 8].toNat ||| 2 ^ (x.val % 8)) = X at *
    have hset := hgb.set_ (x.val / 8) (.int .u8 (X : Nat))
    have hb1 : (UInt8.ofNat X).toNat = X := by simp only [UInt8.toNat_ofNat']; omega
    have hgrow := grownBy_cell W g (x.val / 8) (.int .u8 (X : Nat))
    have hput := hput (UInt8.ofNat X) hb1
    rw [← putL_snoc] at hput
    have hmm : (pre ++ [x]).map (·.val) = pre.map (·.val) ++ [x.val] := by simp
    refine own_post (KeepsOthers.setCell _ _ _) (grownBy_kb' hgrow hgr.size) ⟨?_, gby_trans hgr hgrow⟩
    rw [hmm, ← hput]
    have hbv : (bv ((pk n (putL S (pre.map (·.val)))).set (x.val / 8) (UInt8.ofNat X))).toArray = (bv (pk n (putL S (pre.map (·.val))))).toArray.setIfInBounds (x.val / 8) (.int .u8 (X : Nat)) := bv_set _ _ _ hb1
    rw [hbv]
    exact hset
  case done =>
    rintro D ys W hD rfl ⟨hgb, hgr⟩ hK
    go_wp2
    refine leaves_mark hK ?_
    have hgf := behind_loop hgr hD (.deferred none)
    have hgw := gby_trans (below_grown hb4 g) hgf
    have hne := h.ne
    exact ⟨_, results_none rfl _ _ _, ⟨_, rfl⟩, ⟨h.vb.same (hgw.block v hvl (fun e => hne (by injection e))), hgb.same (World.putObj_heap_other (by omega)), h.hn, h.hp⟩, hgw⟩
  case stop =>
    rintro D c pre W _ _ h _
    exact h.elim
end Go.Proofs.YtoofhaoaogoomaaGreat
