/- The contracts of number, cell, New, bits of package bloom. No statement of the seat is proved here. -/
import Derived.Test.YtoofhaoaogoomaaZMAC
import Derived.Test.YtoofhaoaogoomaaZMAB
import Derived.Lib.Hide
import Derived.Laws.BitsAllLaws
import Derived.Laws.MakeOwn
import Derived.RangeFuncNested
import Derived.RangeFuncLeaves
import Derived.RangeFuncCalls
import Derived.Shelf.Abstract
import Derived.OwnWalkIn
import Derived.TacticsInMore
import Derived.LoopNIn
import Derived.LoopIn
import Derived.Deep.QuietTactic
import Derived.BigQuiet
import Derived.IntWalk
namespace Go.Proofs.Ytoofhaoaogoomaa
set_option maxRecDepth 100000
open Go.RowKit

theorem bl_ret {k : IntKind} {a b : Int} (h : a = b) : Ending.returned (.int k a) = .returned (.int k b) := by rw [h]
theorem bl_byte : (Try.prog.info? 5).map (fun i => (i.zero, i.size, i.bytes)) = some (some (.int .u8 0), 1, 1) := by kernel_rfl

theorem val_take_snoc (l : List UInt8) (k : Nat) (h : k < l.length) : val (l.take (k + 1)) = val (l.take k) * 256 + l[k].toNat := by
  rw [List.take_succ_eq_append_getElem h, val_snoc]
theorem val_take_lt (l : List UInt8) (k : Nat) (h : k ≤ 3) : val (l.take k) < 16777216 := by
  refine Nat.lt_of_lt_of_le (val_lt _) ?_
  refine Nat.le_trans (Nat.pow_le_pow_right (by omega) (show (l.take k).length ≤ 3 by rw [List.length_take]; omega)) (by decide)
set_option maxHeartbeats 1000000 in
theorem number_ok (A : Option Addr) (l : List UInt8) (n c : Nat) (hl : l.length = n) (hn : n ≤ 4) (w : World) (hr : Rd w w.heap.size A l) :
    Calls Try.prog 65 #[.slice A n c] w fun e w' => e = .returned (.int .u32 (val l)) ∧ w = w' := by
  have HL := Lib.hid hl
  have HR := Lib.hid hr
  clear hl hr
  go_enter Try.func65, Try.ntmps65
  go_wp2
  go_loop [3, 8] (fun v i => ∃ k : Nat, k ≤ n ∧ i = .int .i64 k ∧ v = .int .u32 (val (l.take k))) (fun _ i => n - (intOf i).toNat)
  case atStart => exact ⟨0, Nat.zero_le _, rfl, rfl⟩
  case round =>
    obtain ⟨k, hk, rfl, rfl⟩ := hrel
    by_cases hlt : k < n
    · obtain ⟨g, off, hA, hg, hc⟩ := HR.out (by rw [HL.out]; omega)
      have hck := hc k (by rw [HL.out]; exact hlt)
      have hs := Lib.hid (val_take_snoc l k (by rw [HL.out]; exact hlt))
      have hb := val_take_lt l k (by omega)
      have hkl : k < l.length := by rw [HL.out]; exact hlt
      have ht := (l[k]'hkl).toNat_lt
      have hV : ∃ V, V = val (l.take k) := ⟨_, rfl⟩
      obtain ⟨V, hV⟩ := hV
      rw [← hV] at hb hs ⊢
      subst hA
      generalize hx : l[k]'hkl = x at *
      clear hc hV hx
      go_wp2
      go_round
      case rel => exact ⟨k + 1, by omega, by go_num, by
          rw [hs.out, ← shl_or V _ ht, Nat.shiftLeft_eq]
          have := u32_or_nat (V * 2 ^ 8) x.toNat (by omega) (by omega)
          rw [← this]; rfl⟩
      case measure => simp [intOf]; omega
    · obtain rfl : k = n := by omega
      go_wp2
      go_ret
      exact ⟨bl_ret (by rw [List.take_of_length_le (by rw [HL.out]; exact Nat.le_refl _)]), rfl⟩

theorem pow8_lt (q : Nat) : 2 ^ (q % 8) < 256 := Nat.pow_lt_pow_right (show 1 < 2 by omega) (show q % 8 < 8 by omega)
theorem cell_ok (g m q : Nat) (hq : q / 8 < m) (hm : m ≤ 131072) (w : World) :
    Calls Try.prog 50 #[.slice (some ⟨g, 0, none⟩) m m, .int .u32 q] w fun e w' => e = .returned (.tuple #[.pointer (some ⟨g, q / 8, none⟩), .int .u8 ((2 ^ (q % 8) : Nat))]) ∧ w = w' := by
  have hp2 : ((2 ^ (q % 8) : Nat) : Int) = 2 ^ (q % 8) % 256 := by
    have h := pow8_lt q
    rw [show (2 : Int) ^ (q % 8) = ((2 ^ (q % 8) : Nat) : Int) by simp]
    generalize 2 ^ (q % 8) = x at h ⊢
    omega
  go_enter Try.func50, Try.ntmps50
  go_wp2
  go_ret2
  exact ⟨by rw [hp2]; rfl, rfl⟩
theorem bits_ok (kc : Array Value) (v : Option Addr) (w : World) :
    Calls Try.prog 51 #[.pointer v, .agg kc] w fun e w' => e = .returned (.func (.func 64) #[] #[.pointer (some ⟨w.heap.size, 0, none⟩), .pointer (some ⟨w.heap.size + 1, 0, none⟩)]) ∧ w' = (w.alloc (.cells #[.pointer v] 69)).alloc (.cells kc 38) := by
  go_enter Try.func51, Try.ntmps51
  go_wp2
  go_ret
  exact ⟨rfl, rfl⟩
theorem new_bad (bits probes : Int) (h : bits < 0 ∨ 1048576 < bits ∨ probes < 0 ∨ 30 < probes) (w : World) :
    Calls Try.prog 29 #[.int .i64 bits, .int .i64 probes] w fun e w' => e = .returned (.tuple #[.pointer none, .int .i64 1]) ∧ w = w' := by
  by_cases h1 : bits < 0
  · go_enter Try.func29, Try.ntmps29
    go_wp2
    go_ret2
    exact ⟨rfl, rfl⟩
  by_cases h2 : 1048576 < bits
  · go_enter Try.func29, Try.ntmps29
    go_wp2
    go_ret2
    exact ⟨rfl, rfl⟩
  by_cases h3 : probes < 0
  · go_enter Try.func29, Try.ntmps29
    go_wp2
    go_ret2
    exact ⟨rfl, rfl⟩
  have h4 : 30 < probes := by omega
  go_enter Try.func29, Try.ntmps29
  go_wp2
  go_ret2
  exact ⟨rfl, rfl⟩
/-- In w the block v is a filter with n bits, of which those of S are 1, and p probes; its bytes lie in block g. -/
structure Vec (w : World) (v g n p : Nat) (S : Nat → Bool) : Prop where
  vb : Blk w v 95 #[.int .u32 n, .int .i64 p, .slice (some ⟨g, 0, none⟩) ((n + 7) / 8) ((n + 7) / 8), .func (.func 50) #[.slice (some ⟨g, 0, none⟩) ((n + 7) / 8) ((n + 7) / 8)] #[]]
  gb : Blk w g 5 (bv (pk n S)).toArray
  hn : n ≤ 1048576
  hp : p ≤ 30
theorem made_zero (m : Nat) : madeCells #[Value.int .u8 0] m = (bv (List.replicate m 0)).toArray := by
  rw [← Array.toList_inj, toList_madeCells_one]
  simp [bv]
section
variable {w w' : World} {v g n p : Nat} {S T : Nat → Bool}
theorem Blk.other {a b : Nat} {s t : TypeId} {cs ds : Array Value} (h : Blk w a s cs) (k : Blk w b t ds) (hne : s ≠ t) : a ≠ b := by
  rintro rfl
  unfold Blk at h k
  rw [h] at k
  injection k with k
  injection k with _ k _
  exact hne k
theorem Vec.ne (h : Vec w v g n p S) : v ≠ g := h.vb.other h.gb (by decide)
theorem Vec.congr (h : Vec w v g n p S) (he : ∀ q, q < n → S q = T q) : Vec w v g n p T := ⟨h.vb, pk_congr he ▸ h.gb, h.hn, h.hp⟩
theorem Vec.same (h : Vec w v g n p S) (h1 : w'.heap[v]? = w.heap[v]?) (h2 : w'.heap[g]? = w.heap[g]?) : Vec w' v g n p S := ⟨h.vb.same h1, h.gb.same h2, h.hn, h.hp⟩
theorem Vec.below {B : Nat} (h : Vec w v g n p S) (hb : Below B w w') (hv : v < B) (hg : g < B) : Vec w' v g n p S := h.same (hb.block v hv) (hb.block g hg)
theorem Vec.on (h : Vec w v g n p S) (hb : Below w.heap.size w w') : Vec w' v g n p S := h.below hb h.vb.lt h.gb.lt
theorem Vec.cells (h : Vec w v g n p S) : w.cell? ⟨v, 0, none⟩ = some (.int .u32 n) ∧ w.cell? ⟨v, 1, none⟩ = some (.int .i64 p) ∧ w.cell? ⟨v, 2, none⟩ = some (.slice (some ⟨g, 0, none⟩) ((n + 7) / 8) ((n + 7) / 8)) ∧
    w.cell? ⟨v, 3, none⟩ = some (.func (.func 50) #[.slice (some ⟨g, 0, none⟩) ((n + 7) / 8) ((n + 7) / 8)] #[]) := ⟨h.vb.cell 0, h.vb.cell 1, h.vb.cell 2, h.vb.cell 3⟩
theorem Vec.byte (h : Vec w v g n p S) {j : Nat} (hj : j < (pk n S).length) : w.cell? ⟨g, j, none⟩ = some (.int .u8 (pk n S)[j].toNat) := by
  rw [h.gb.cell, List.getElem?_toArray, bv_get hj]
end
theorem new_ok (n p : Nat) (hn : n ≤ 1048576) (hp : p ≤ 30) (w : World) :
    Calls Try.prog 29 #[.int .i64 n, .int .i64 p] w fun e w' => ∃ v g, e = .returned (.tuple #[.pointer (some ⟨v, 0, none⟩), .int .i64 0]) ∧ w.heap.size ≤ v ∧ w.heap.size ≤ g ∧ Vec w' v g n p (fun _ => false) ∧ Below w.heap.size w w' := by
  obtain ⟨i0, hi, hz0, hz1, hz2⟩ := info_parts bl_byte
  obtain ⟨m, hm⟩ : ∃ m, (n + 7) / 8 = m := ⟨_, rfl⟩
  have hmi : ((n : Int) + 7) / 8 = (m : Int) := by omega
  have hmk := run_make (P := Try.prog) w 92 5 i0 (.int .u8 0) Try.underlying92 hi hz0 .i64 .i64 (m : Int) (m : Int) (by omega) (by omega) (by rw [hz2]; omega) (by omega)
  have HM := Lib.hid hm
  clear hm
  go_enter Try.func29, Try.ntmps29
  go_wp2
  go_ret2
  have hb1 := (Below.refl w.heap.size w).alloc (Nat.le_refl _) (.cells (madeCells #[Value.int .u8 0] m) 5)
  have hgb := Blk.new w 5 (madeCells #[Value.int .u8 0] m)
  rw [made_zero] at hb1 hgb ⊢
  refine ⟨w.heap.size + 1, w.heap.size, rfl, by omega, Nat.le_refl _, ⟨?_, ?_, hn, hp⟩, ?_⟩
  · rw [HM.out]
    exact blk_at _ _ _ (by simp)
  · rw [pk_none, HM.out]
    exact hgb.below (B := w.heap.size + 1) ((Below.refl _ _).alloc (by rw [World.size_alloc]; exact Nat.le_refl _) _) (by omega)
  · exact hb1.alloc hb1.size _
end Go.Proofs.Ytoofhaoaogoomaa
/- What the walks of a range over a function lean on. No statement of the seat is proved here. -/
namespace Go.Proofs.Ytoofhaoaogoomaa
open Go.RowKit
theorem abides_drewN {β : Type} {B : Nat} {J : β → World → Prop} (h : AbidesFrom B J) {s : β} {W : World} (q : Nat) (hs : J s W) : J s (W.drewN q) :=
  h s W _ none hs ⟨rfl, rfl, rfl, Nat.le_refl _, fun _ _ _ => rfl⟩ (fun r e => by cases e)
theorem leaves_mark {F : Fence} {n D : Nat} {P : Program} {fn : Func} {tmps : Array Value} {R : Ending → World → Prop} {W : World} (hK : W.heap[D]? = some (.deferred (some [])))
    (h : LeavesInM F n P fn tmps R [] .returning (W.putObj D (.deferred none))) : LeavesInM F n P fn tmps R [{ target := .collected D, args := #[] }] .returning W :=
  ⟨by simp, .inl ⟨_, _, rfl, run_takeDeferred hK, h⟩⟩
theorem own_post {α : Type} {Kp : World → World → Prop} {I : List α → World → Prop} {Ix : Code → List α → World → Prop} {xs : List α} {W W' : World} {a : Act} (h1 : KeepsOthers W W') (h2 : Kp W W') (h3 : I xs W') : ownPostK Kp I Ix xs W .normal a W' := ⟨h1, h2, h3⟩
theorem own_ret {α : Type} {Kp : World → World → Prop} {I : List α → World → Prop} {Ix : Code → List α → World → Prop} {xs : List α} {W W' : World} {a : Act} (h1 : KeepsOthers W W') (h3 : Ix .ret xs W') : ownPostK Kp I Ix xs W .ret a W' := ⟨h1, h3⟩
end Go.Proofs.Ytoofhaoaogoomaa
/- The contract of the iterator over a key's bits. No statement of the seat is proved here. -/
namespace Go.Proofs.Ytoofhaoaogoomaa
open Go.RowKit Go.Shelf
attribute [local go_sem] Oper.semAt_some

/-- The cells of a key with these bytes and this number. -/
structure BKeyOk (kc : Array Value) (s : List UInt8) (N : Nat) : Prop where
  sum : ∀ j (_ : j < s.length), kc[j]? = some (.int .u8 s[j].toNat)
  num : kc[32]? = some (.int .u32 N)
  len : s.length = 32
  size : kc.size = 33
  lt : N < 4294967296
theorem BKeyOk.rd {kc : Array Value} {s : List UInt8} {N : Nat} (h : BKeyOk kc s N) {w : World} {bk : Nat} (hk : Blk w bk 38 kc) (i : Nat) (hi : i ≤ 28) : Rd w w.heap.size (some ⟨bk, i, none⟩) ((s.drop i).take 4) := fun _ => by
  refine ⟨bk, i, rfl, hk.lt, fun j hj => ?_⟩
  rw [List.length_take, List.length_drop, h.len] at hj
  rw [hk.cell, h.sum (i + j) (by rw [h.len]; omega), List.getElem_take, List.getElem_drop]
/-- Whatever lay below n₀ lies as it lay, but block g. -/
def KB (n₀ g : Nat) (W W' : World) : Prop := ∀ k, k < n₀ → k ≠ g → W'.heap[k]? = W.heap[k]?
theorem KB.refl (n₀ g : Nat) (W : World) : KB n₀ g W W := fun _ _ _ => rfl
theorem KB.trans {n₀ g : Nat} {A B C : World} (h : KB n₀ g A B) (k : KB n₀ g B C) : KB n₀ g A C := fun i h1 h2 => (k i h1 h2).trans (h i h1 h2)
theorem KB.cell {n₀ g : Nat} {W W' : World} (h : KB n₀ g W W') {b i : Nat} {v : Value} (h1 : b < n₀) (h2 : b ≠ g) (hc : W.cell? ⟨b, i, none⟩ = some v) : W'.cell? ⟨b, i, none⟩ = some v := by
  rw [World.cell?_of_block (h b h1 h2)]; exact hc
theorem KB.putObj {w : World} {n₀ g : Nat} (hn : n₀ ≤ w.heap.size) (W : World) (l : Nat) (o o' : Obj) (hl : w.heap.size ≤ l) (_ : W.heap[l]? = some o) (_ : o.isCells = false) (_ : o.isWalk = false) : KB n₀ g W (W.putObj l o') :=
  fun k h1 _ => World.putObj_heap_other (by omega)
theorem or_one (B : Nat) (h : B < 4294967296) : bits BinOp.or IntKind.u32 (B : Int) 1 = ((B ||| 1 : Nat) : Int) := u32_or_nat B 1 h (by omega)

set_option maxRecDepth 100000 in
set_option maxHeartbeats 2000000 in
/-- No bits: nothing comes. -/
theorem it_none (d : Nat) (bx bk : Nat) (v : Option Addr) (Kp : World → World → Prop) (p : Nat) (w : World) (hx : Blk w bx 69 #[.pointer v]) (hv : ∀ A, v = some A → ∃ b, A = ⟨b, 0, none⟩ ∧ w.cell? ⟨b, 0, none⟩ = some (.int .u32 0)) :
    SeqStopsK Fence.wide d Try.prog 64 #[.pointer (some ⟨bx, 0, none⟩), .pointer (some ⟨bk, 0, none⟩)] (fun q : Fin 0 => #[Value.int .u32 (q.val : Nat)]) Kp (fun xs => xs = []) (fun pre => pre <+: []) p w := fun l J Jx W hW hJ hJx hY h0 => by
  have hxc := (hx.below hW hx.lt).cell 0
  have HX := Lib.hid hx
  clear hx
  refine callsIn_of_wp Try.func64 rfl trivial ?_ rfl
  simp only [Try.ntmps64, List.size_toArray, List.length_cons, List.length_nil, Nat.reduceAdd, Nat.reduceSub, Array.replicate_succ, Array.replicate_zero, List.push_toArray, List.append_toArray, List.nil_append, List.cons_append]
  refine wpIn_wide.2 ?_
  rcases v with _ | A
  · go_wp2
    refine bodyPost_ret (results_none rfl _ _ _) rfl ?_
    exact ⟨⟨_, rfl⟩, .inl h0⟩
  · obtain ⟨b, rfl, hb⟩ := hv A rfl
    have hb2 := (hW.cell (p := ⟨b, 0, none⟩) (World.block_lt_of_cell? w _ hb)).trans hb
    clear hv hb
    go_wp2
    refine bodyPost_ret (results_none rfl _ _ _) rfl ?_
    exact ⟨⟨_, rfl⟩, .inl h0⟩

set_option maxRecDepth 100000 in
set_option maxHeartbeats 2000000 in
theorem it_stops (d : Nat) (hd : 1 ≤ d) (bx bk n₀ v g n p : Nat) (kc : Array Value) (s : List UInt8) (N : Nat) (K : BKeyOk kc s N) (w : World) (hx : Blk w bx 69 #[.pointer (some ⟨v, 0, none⟩)]) (hk : Blk w bk 38 kc)
    (hv0 : w.cell? ⟨v, 0, none⟩ = some (.int .u32 n)) (hv1 : w.cell? ⟨v, 1, none⟩ = some (.int .i64 p)) (hn0 : 0 < n) (hn : n ≤ 1048576) (hp : p ≤ 30) (h0 : n₀ ≤ w.heap.size)
    (hbx : bx < n₀) (hvn : v < n₀) (hgx : bx ≠ g) (hgv : v ≠ g) :
    SeqStopsK Fence.wide d Try.prog 64 #[.pointer (some ⟨bx, 0, none⟩), .pointer (some ⟨bk, 0, none⟩)] (fun q : Fin n => #[Value.int .u32 (q.val : Nat)]) (KB n₀ g) (fun xs => xs = spots n p (keyA s N) (keyB s)) (fun pre => pre <+: spots n p (keyA s N) (keyB s)) p w := fun l J Jx W hW hJ hJx hY hJ0 => by
  have hxc := (hx.below hW hx.lt).cell 0
  have hkb := hk.below hW hk.lt
  have hkn := hkb.cell 32
  rw [K.num] at hkn
  have hc0 := (hW.cell (p := ⟨v, 0, none⟩) (by simp; omega)).trans hv0
  have hc1 := (hW.cell (p := ⟨v, 1, none⟩) (by simp; omega)).trans hv1
  have HR1 := Lib.hid (show Rd W W.heap.size (some ⟨bk, 0, none⟩) (s.take 4) from K.rd hkb 0 (by omega))
  have HR2 := Lib.hid (K.rd hkb 4 (by omega))
  have HL1 := Lib.hid (show (s.take 4).length = 4 by rw [List.length_take, K.len]; rfl)
  have HL2 := Lib.hid (show ((s.drop 4).take 4).length = 4 by rw [List.length_take, List.length_drop, K.len]; rfl)
  obtain ⟨a, ha⟩ : ∃ a, keyA s N = a := ⟨_, rfl⟩
  obtain ⟨b, hb⟩ : ∃ b, keyB s = b := ⟨_, rfl⟩
  obtain ⟨V1, hV1⟩ : ∃ V1, val (s.take 4) = V1 := ⟨_, rfl⟩
  obtain ⟨V2, hV2⟩ : ∃ V2, val ((s.drop 4).take 4) = V2 := ⟨_, rfl⟩
  have hV1l : V1 < 4294967296 := by rw [← hV1]; have := val_lt (s.take 4); rw [HL1.out] at this; exact this
  have hV2l : V2 < 4294967296 := by rw [← hV2]; have := val_lt ((s.drop 4).take 4); rw [HL2.out] at this; exact this
  have hal : a < 4294967296 := by rw [← ha]; exact Nat.mod_lt _ (by omega)
  have hbl : b < 4294967296 := by
    rw [← hb, keyB, hV2]
    exact Nat.or_lt_two_pow (n := 32) hV2l (by decide)
  have e1 : ((V1 : Int) + (N : Int)) % 4294967296 = (a : Int) := by
    rw [← ha, keyA, hV1]; omega
  have e2 : bits BinOp.or IntKind.u32 (V2 : Int) 1 = (b : Int) := by rw [← hb, keyB, hV2]; exact or_one V2 hV2l
  rw [ha, hb]
  have E1 := Lib.hid (show (((val (s.take 4) : Nat) : Int) + (N : Int)) % 4294967296 = (a : Int) by rw [hV1]; exact e1)
  have E2 := Lib.hid (show bits BinOp.or IntKind.u32 ((val ((s.drop 4).take 4) : Nat) : Int) 1 = (b : Int) by rw [hV2]; exact e2)
  have HV1 := Lib.hid hV1
  have HV2 := Lib.hid hV2
  have HX := Lib.hid hxc
  have HW := Lib.hid hW
  have HYY := Lib.hid hY
  clear hx hk ha hb hV1 hV2 hY hv0 hv1 hkb e1 e2 hW K
  refine callsIn_of_wp Try.func64 rfl trivial ?_ rfl
  simp only [Try.ntmps64, List.size_toArray, List.length_cons, List.length_nil, Nat.reduceAdd, Nat.reduceSub, Array.replicate_succ, Array.replicate_zero, List.push_toArray, List.append_toArray, List.nil_append, List.cons_append]
  refine wpIn_wide.2 ?_
  go_wp2_with fail
  go_quiet ((go_at_call 65; exact quiet_left (number_ok _ _ 4 32 HL1.out (by omega) _ (HR1.out.drewN _))))
  rw [E1.out]
  go_wp2_with fail
  refine (number_ok _ _ 4 28 HL2.out (by omega) _ (HR2.out.drewN _)).mono ?_
  rintro e w' ⟨rfl, rfl⟩
  have hc0 : (W.drewN nq).cell? ⟨v, 0, none⟩ = some (.int .u32 n) := hc0
  have hc1 : (W.drewN nq).cell? ⟨v, 1, none⟩ = some (.int .i64 p) := hc1
  have hxc : (W.drewN nq).cell? ⟨bx, 0, none⟩ = some (.pointer (some ⟨v, 0, none⟩)) := HX.out
  have hJ1 := abides_drewN hJ nq hJ0
  clear hJ0
  generalize W.drewN nq = W0 at *
  go_wp2_with fail
  rw [E2.out]
  refine (wpIn_wide (n := d)).1 ?_
  have HC := Lib.hid (And.intro hxc (And.intro hc0 hc1))
  clear hxc hc0 hc1 hkn
  gi_loopw [4, 29] (fun x i wr => ∃ k : Nat, k ≤ p ∧ i = .int .i64 k ∧ x = .int .u32 (sumAt a b k : Nat) ∧ J (spots n k a b) wr ∧ KB n₀ g W0 wr) (fun _ i _ => p - (intOf i).toNat)
  case atStart => exact ⟨0, Nat.zero_le _, rfl, by rw [sumAt_zero b hal], by simpa [spots] using hJ1, KB.refl _ _ _⟩
  case round =>
    obtain ⟨k, hk, rfl, rfl, hJk, hkb⟩ := hrel
    obtain ⟨hxc, hc0, hc1⟩ := HC.out
    have hc0 := hkb.cell hvn hgv hc0
    have hc1 := hkb.cell hvn hgv hc1
    have hxc := hkb.cell hbx hgx hxc
    clear hJ1
    have hlen := spots_length hn0 k a b
    have hpre := spots_pre hn0 p a b k hk
    have hss := sumAt_succ a b k
    have hsl := sumAt_lt a b k
    by_cases hlt : k < p
    · have hsn := spots_snoc hn0 k a b
      have hpre2 := spots_pre hn0 p a b (k + 1) hlt
      obtain ⟨V, hV⟩ : ∃ V, sumAt a b k = V := ⟨_, rfl⟩
      obtain ⟨q, hq⟩ : ∃ q : Fin n, q = ⟨sumAt a b k % n, Nat.mod_lt _ hn0⟩ := ⟨_, rfl⟩
      rw [← hq] at hsn
      have hqv : ((q.val : Nat) : Int) = (V : Int) % (n : Int) := by rw [hq, ← hV]; simp
      obtain ⟨fn, tmps, assign, body, hy, hR⟩ := HYY.out (spots n k a b) q wr hJk (by rw [hlen]; exact hlt)
      rw [hqv] at hy
      rw [hV] at hss hsl ⊢
      rw [← hsn] at hR
      have HS := Lib.hid (And.intro hss hpre2)
      clear hpre hss hpre2 hq hqv hV hsn hlen
      gi_wp2
      refine hR.mono ?_
      rintro e W3 (⟨rfl, hJ3, hk3⟩ | ⟨rfl, hJx3⟩)
      · have hkb3 := hkb.trans hk3
        gi_wp2
        go_roundw
        case rel => exact ⟨k + 1, hlt, by go_num, congrArg (Value.int .u32) (by rw [← HS.out.1]; omega), hJ3, hkb3⟩
        case measure => simp [intOf]; omega
      · gi_wp2
        refine bodyPost_ret (results_none rfl _ _ _) rfl ?_
        exact ⟨⟨_, rfl⟩, .inr ⟨_, HS.out.2, hJx3⟩⟩
    · obtain rfl : p = k := by omega
      clear hpre hss hlen
      gi_wp2
      go_end0
      exact ⟨⟨_, rfl⟩, .inl ⟨_, rfl, hJk⟩⟩
/-- Both. -/
theorem it_all (d : Nat) (hd : 1 ≤ d) (bx bk n₀ v g n p : Nat) (kc : Array Value) (s : List UInt8) (N : Nat) (K : BKeyOk kc s N) (w : World) (hx : Blk w bx 69 #[.pointer (some ⟨v, 0, none⟩)]) (hk : Blk w bk 38 kc)
    (hv0 : w.cell? ⟨v, 0, none⟩ = some (.int .u32 n)) (hv1 : w.cell? ⟨v, 1, none⟩ = some (.int .i64 p)) (hn : n ≤ 1048576) (hp : p ≤ 30) (h0 : n₀ ≤ w.heap.size)
    (hbx : bx < n₀) (hvn : v < n₀) (hgx : bx ≠ g) (hgv : v ≠ g) :
    SeqStopsK Fence.wide d Try.prog 64 #[.pointer (some ⟨bx, 0, none⟩), .pointer (some ⟨bk, 0, none⟩)] (fun q : Fin n => #[Value.int .u32 (q.val : Nat)]) (KB n₀ g) (fun xs => xs = spots n p (keyA s N) (keyB s)) (fun pre => pre <+: spots n p (keyA s N) (keyB s)) p w := by
  rcases Nat.eq_zero_or_pos n with rfl | hn0
  · exact it_none d bx bk (some ⟨v, 0, none⟩) (KB n₀ g) p w hx (fun A e => ⟨v, by injection e with e; exact e.symm, hv0⟩)
  · exact it_stops d hd bx bk n₀ v g n p kc s N K w hx hk hv0 hv1 hn0 hn hp h0 hbx hvn hgx hgv
end Go.Proofs.Ytoofhaoaogoomaa
