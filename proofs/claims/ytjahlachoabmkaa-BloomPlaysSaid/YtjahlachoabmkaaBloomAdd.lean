/- The contract of Add of a filter. No statement of the seat is proved here. -/
import Derived.Test.YtjahlachoabmkaaBloomIt
namespace Go.Proofs.Ytjahlachoabmkaa
open Go.RowKit Go.Shelf
attribute [local go_sem] Oper.semAt_some

theorem key_desc : ∃ fs, Try.prog.underlying 27 = some (.struct fs) := ⟨_, Try.underlying27⟩
theorem key_size : (Try.prog.info? 27).map (·.size) = some 33 := by kernel_rfl
/-- Block g is a row of bytes, and of what w had all else lies as it lay. -/
def Row1 (g : Nat) (w : World) (l : List UInt8) (W : World) : Prop := Blk W g 5 (bv l).toArray ∧ w.grownBy W (some g)
theorem row1_own {β : Type} {g : Nat} {w : World} (hg : g < w.heap.size) (f : β → List UInt8) : OwnFrom w.heap.size (fun s W => Row1 g w (f s) W) := fun s W W' row ⟨h1, h2⟩ hgr hr => by
  have hne : ∀ k, k < w.heap.size → some k ≠ row := fun k hk e => by have := (hr k e.symm).1; omega
  exact ⟨h1.same (hgr.block g h1.lt (hne g hg)), ⟨hgr.os.trans h2.os, hgr.tape.trans h2.tape, hgr.output.trans h2.output, Nat.le_trans h2.size hgr.size, fun k hk hn => (hgr.block k (Nat.lt_of_lt_of_le hk h2.size) (hne k hk)).trans (h2.block k hk hn)⟩⟩
theorem grownBy_kb {w W : World} {g : Nat} (h : w.grownBy W (some g)) : KB w.heap.size g w W := fun k h1 h2 => h.block k h1 (fun e => h2 (by injection e))

theorem leaves_mark {F : Fence} {n D : Nat} {P : Program} {fn : Func} {tmps : Array Value} {R : Ending → World → Prop} {W : World} (hK : W.heap[D]? = some (.deferred (some [])))
    (h : LeavesInM F n P fn tmps R [] .returning (W.putObj D (.deferred none))) : LeavesInM F n P fn tmps R [{ target := .collected D, args := #[] }] .returning W :=
  ⟨by simp, .inl ⟨_, _, rfl, run_takeDeferred hK, h⟩⟩
theorem grownBy_cell (W : World) (b i : Nat) (v : Value) : W.grownBy (W.setCell ⟨b, i, none⟩ v) (some b) :=
  ⟨rfl, rfl, rfl, (KeepsWalks.setCell W _ v).size, fun k _ hk => Below.heap_setCell _ _ _ k (fun e => hk (by rw [e]))⟩
theorem grownBy_kb' {W W' : World} {n₀ g : Nat} (h : W.grownBy W' (some g)) (hn : n₀ ≤ W.heap.size) : KB n₀ g W W' := fun k h1 h2 => h.block k (by omega) (fun e => h2 (by injection e))
/-- Behind the loop: the block of the deferred calls has turned besides, which is a new one. -/
theorem behind_loop {w W : World} {g D : Nat} (h : w.grownBy W (some g)) (hD : w.heap.size ≤ D) (o : Obj) : w.grownBy (W.putObj D o) (some g) :=
  ⟨h.os, h.tape, h.output, by simpa using h.size, fun k hk hn => (World.putObj_heap_other (by omega)).trans (h.block k hk hn)⟩
theorem below_grown {w W : World} (h : Below w.heap.size w W) (g : Nat) : w.grownBy W (some g) := ⟨h.os, h.tape, h.output, h.size, fun k hk _ => h.block k hk⟩
theorem gby_trans {a b c : World} {row : Option Nat} (h : a.grownBy b row) (k : b.grownBy c row) : a.grownBy c row :=
  ⟨k.os.trans h.os, k.tape.trans h.tape, k.output.trans h.output, Nat.le_trans h.size k.size, fun i hi hn => (k.block i (Nat.lt_of_lt_of_le hi h.size) hn).trans (h.block i hi hn)⟩
theorem own_post {α : Type} {Kp : World → World → Prop} {I : List α → World → Prop} {Ix : Code → List α → World → Prop} {xs : List α} {W W' : World} {a : Act} (h1 : KeepsOthers W W') (h2 : Kp W W') (h3 : I xs W') : ownPostK Kp I Ix xs W .normal a W' := ⟨h1, h2, h3⟩
theorem four_blocks (w : World) (s t : TypeId) (cs ds : Array Value) : ((((w.alloc (.cells cs s)).alloc (.cells ds t)).alloc (.cells cs s)).alloc (.cells ds t)).heap.size = w.heap.size + 4 ∧
    Below w.heap.size w ((((w.alloc (.cells cs s)).alloc (.cells ds t)).alloc (.cells cs s)).alloc (.cells ds t)) ∧ Blk ((((w.alloc (.cells cs s)).alloc (.cells ds t)).alloc (.cells cs s)).alloc (.cells ds t)) w.heap.size s cs ∧
    Blk ((((w.alloc (.cells cs s)).alloc (.cells ds t)).alloc (.cells cs s)).alloc (.cells ds t)) (w.heap.size + 1 + 1) s cs ∧ Blk ((((w.alloc (.cells cs s)).alloc (.cells ds t)).alloc (.cells cs s)).alloc (.cells ds t)) (w.heap.size + 1 + 1 + 1) t ds := by
  have n0 := Blk.new w s cs
  have n2 := blk_at ((w.alloc (.cells cs s)).alloc (.cells ds t)) s cs (g := w.heap.size + 1 + 1) (by simp)
  have n3 := blk_at (((w.alloc (.cells cs s)).alloc (.cells ds t)).alloc (.cells cs s)) t ds (g := w.heap.size + 1 + 1 + 1) (by simp)
  have b1 := (Below.refl w.heap.size w).alloc (Nat.le_refl _) (.cells cs s)
  have b2 := b1.alloc b1.size (.cells ds t)
  have b3 := b2.alloc b2.size (.cells cs s)
  have b4 := b3.alloc b3.size (.cells ds t)
  have up := fun (W : World) (o : Obj) => (Below.refl W.heap.size W).alloc (Nat.le_refl _) o
  refine ⟨by simp, b4, ?_, n2.below (up _ _) n2.lt, n3⟩
  have m1 := n0.below (up _ (.cells ds t)) n0.lt
  have m2 := m1.below (up _ (.cells cs s)) m1.lt
  exact m2.below (up _ (.cells ds t)) m2.lt
theorem bv_set (l : List UInt8) (j : Nat) (b : UInt8) {X : Nat} (hb : b.toNat = X) : (bv (l.set j b)).toArray = (bv l).toArray.setIfInBounds j (.int .u8 (X : Nat)) := by
  subst hb
  simp [bv, List.map_set]
set_option maxRecDepth 100000 in
set_option maxHeartbeats 1000000 in
theorem add_ok (v g n p : Nat) (S : Nat → Bool) (kc : Array Value) (s : List UInt8) (N : Nat) (K : KeyOk kc s N) (w : World) (h : Vec w v g n p S) :
    Calls Try.prog 19 #[.pointer (some ⟨v, 0, none⟩), .agg kc] w fun e w' => (∃ x, e = .returned x) ∧ Vec w' v g n p (putL S (spotsN n p (keyA s N) (keyB s))) ∧ w.grownBy w' (some g) := by
  obtain ⟨fs, hfs⟩ := key_desc
  have hksz : (Try.prog.info? 27).map (·.size) = some kc.size := by rw [K.size]; exact key_size
  have hkb : Blk ((w.alloc (.cells #[.pointer (some ⟨v, 0, none⟩)] 29)).alloc (.cells kc 27)) (w.heap.size + 1) 27 kc := blk_at _ _ _ (by rw [World.size_alloc])
  obtain ⟨a, ha⟩ : ∃ a, keyA s N = a := ⟨_, rfl⟩
  obtain ⟨b, hb⟩ : ∃ b, keyB s = b := ⟨_, rfl⟩
  rw [ha, hb]
  have HA := Lib.hid ha
  have HBB := Lib.hid hb
  have HF := Lib.hid hfs
  have HK := Lib.hid hksz
  have HB := Lib.hid hkb
  clear hfs hksz hkb ha hb
  refine (callsIn_wide (n := 3)).1 ?_
  refine callsIn_of_wp_marks Try.func19 rfl trivial ?_ rfl
  simp only [Try.ntmps19, List.size_toArray, List.length_cons, List.length_nil, Nat.reduceAdd, Nat.reduceSub, Array.replicate_succ, Array.replicate_zero, List.push_toArray, List.append_toArray, List.nil_append, List.cons_append]
  refine wpIn_wide.2 ?_
  go_wp2_with (refine wpList_load_row rfl 27 (.tmp 3) rfl (w.heap.size + 1) rfl 27 kc (0, 0) (.struct fs) HB.out HF.out rfl HK.out ?_)
  refine (bits_ok kc _ _).mono ?_
  rintro e w' ⟨rfl, rfl⟩
  go_wp2_with fail
  obtain ⟨hsz4, hb4, hx0, hx4, hk4⟩ := four_blocks w 29 27 #[.pointer (some ⟨v, 0, none⟩)] kc
  generalize ((((w.alloc (.cells #[.pointer (some ⟨v, 0, none⟩)] 29)).alloc (.cells kc 27)).alloc (.cells #[.pointer (some ⟨v, 0, none⟩)] 29)).alloc (.cells kc 27)) = w1 at *
  have hv := h.below hb4 h.vb.lt h.gb.lt
  have hgl := h.gb.lt
  have hvl := h.vb.lt
  obtain ⟨hc0, hc1, hc2, hc3⟩ := hv.cells
  have hit := it_all 2 (by omega) (w.heap.size + 1 + 1) (w.heap.size + 1 + 1 + 1) w1.heap.size v g n p kc s N K w1 hx4 hk4 hc0 hc1 h.hn h.hp (Nat.le_refl _) (by omega) (by omega) (by omega) h.ne
  rw [HA.out, HBB.out] at hit
  refine (wpIn_wide (n := 3)).1 ?_
  have hown := row1_own (g := g) (w := w1) (by omega) (fun pre : List (Fin n) => pk n (putL S (pre.map (·.val))))
  have hst : Row1 g w1 (pk n (putL S (([] : List (Fin n)).map (·.val)))) w1 := ⟨by simpa [putL] using hv.gb, World.grownBy.refl _ _⟩
  have hent := enters_of Try.func27 (by kernel_rfl) rfl
  have hkp := fun W l o o' => KB.putObj (w := w1) (n₀ := w1.heap.size) (g := g) (Nat.le_refl _) W l o o'
  refine wpIn_rangeFunc_ownF (F := Fence.wide) (n := 3) (P := Try.prog) rfl (by decide) (gf := 27) (lb := #[.pointer (some ⟨w.heap.size + 1 + 1, 0, none⟩), .pointer (some ⟨w.heap.size + 1 + 1 + 1, 0, none⟩)]) rfl trivial hent
    hit KB.trans hkp (Below.refl _ _) (fun _ => rfl)
    (fun pre W => Row1 g w1 (pk n (putL S (pre.map (·.val)))) W) (fun _ _ _ => False)
    ?hown ?hix ?hst
    (fun x => { tmps := #[.pointer (some ⟨v, 0, none⟩), .agg kc, .pointer (some ⟨w.heap.size, 0, none⟩), .pointer (some ⟨w.heap.size + 1, 0, none⟩), .int .u32 (x.val : Nat), undef, undef, .pointer (some ⟨v, 0, none⟩), .agg kc,
      .func (.func 27) #[] #[.pointer (some ⟨w.heap.size + 1 + 1, 0, none⟩), .pointer (some ⟨w.heap.size + 1 + 1 + 1, 0, none⟩)], .int .u32 (x.val : Nat), undef, undef, undef, undef, undef, undef, undef, undef, undef, undef, undef, undef, undef, undef, undef], defers := [] }) ?assign ?body ?done ?stop
  case hown => exact hown
  case hix => exact fun _ _ _ _ _ hs _ _ => hs
  case hst => exact hst
  case assign =>
    intro l x W K hK
    gi_wp2
    exact hK
  case body =>
    rintro l pre x W ⟨hgb, hgr⟩ _
    have hkb := grownBy_kb hgr
    have hx0' := (hx0.same (hkb _ (by omega) (by omega))).cell 0
    obtain ⟨_, _, _, hc3⟩ := (show Vec W v g n p (putL S (pre.map (·.val))) from ⟨hv.vb.same (hkb _ (by omega) h.ne), hgb, h.hn, h.hp⟩).cells
    have hxn := x.2
    have hpl := pk_length n (putL S (pre.map (·.val)))
    have hq8 : x.val / 8 < (n + 7) / 8 := by omega
    have hq9 : x.val / 8 < (pk n (putL S (pre.map (·.val)))).length := by rw [hpl]; exact hq8
    have hcg := hgb.cell (x.val / 8)
    rw [List.getElem?_toArray, bv_get hq9] at hcg
    have hfg := hgb.frozen (x.val / 8)
    have hput := pk_put (putL S (pre.map (·.val))) hxn hq9
    have hd : 1 ≤ 3 - 1 - 1 := by omega
    have hm8 : (n + 7) / 8 ≤ 131072 := by have := h.hn; omega
    have hcell := fun W' => CallsIn.inRound l ((callsIn_wide (n := 3 - 1 - 1 - 1)).2 (cell_ok g ((n + 7) / 8) x.val hq8 hm8 W'))
    gi_wp2_with ((with_reducible refine And.intro ?_ ?_); exact trivial; gi_at_call 22; (with_reducible refine (hcell _).mono ?_); rintro e w' ⟨rfl, rfl⟩)
    have hp8 := pow8_lt x.val
    have hbo : bits BinOp.or IntKind.u8 ((pk n (putL S (pre.map (·.val))))[x.val / 8].toNat : Int) (2 ^ (x.val % 8)) = (((pk n (putL S (pre.map (·.val))))[x.val / 8].toNat ||| 2 ^ (x.val % 8) : Nat) : Int) := by
      rw [← u8_or_nat _ _ (UInt8.toNat_lt _) hp8]; simp
    have hlt8 : ((pk n (putL S (pre.map (·.val))))[x.val / 8].toNat ||| 2 ^ (x.val % 8)) < 256 := Nat.or_lt_two_pow (n := 8) (UInt8.toNat_lt _) hp8
    rw [hbo]
    generalize ((pk n (putL S (pre.map (·.val))))[x.val / 8].toNat ||| 2 ^ (x.val % 8)) = X at *
    have hset := hgb.set_ (x.val / 8) (.int .u8 (X : Nat))
    have hb1 : (UInt8.ofNat X).toNat = X := by simp only [UInt8.toNat_ofNat']; omega
    have hgrow := grownBy_cell W g (x.val / 8) (.int .u8 (X : Nat))
    have hput := hput (UInt8.ofNat X) hb1
    rw [← putL_snoc] at hput
    have hmm : (pre ++ [x]).map (·.val) = pre.map (·.val) ++ [x.val] := by simp
    refine own_post (KeepsOthers.setCell _ _ _) (grownBy_kb' hgrow hgr.size) ⟨?_, gby_trans hgr hgrow⟩
    rw [hmm, ← hput]
    have hbv : (bv ((pk n (putL S (pre.map (·.val)))).set (x.val / 8) (UInt8.ofNat X))).toArray = (bv (pk n (putL S (pre.map (·.val))))).toArray.setIfInBounds (x.val / 8) (.int .u8 (X : Nat)) := bv_set _ _ _ hb1
    rw [hbv]
    exact hset
  case done =>
    rintro D ys W hD rfl ⟨hgb, hgr⟩ hK
    go_wp2
    refine leaves_mark hK ?_
    have hgf := behind_loop hgr hD (.deferred none)
    have hgw := gby_trans (below_grown hb4 g) hgf
    have hne := h.ne
    exact ⟨_, results_none rfl _ _ _, ⟨_, rfl⟩, ⟨h.vb.same (hgw.block v hvl (fun e => hne (by injection e))), hgb.same (World.putObj_heap_other (by omega)), h.hn, h.hp⟩, hgw⟩
  case stop =>
    rintro D c pre W _ _ h _
    exact h.elim
end Go.Proofs.Ytjahlachoabmkaa
