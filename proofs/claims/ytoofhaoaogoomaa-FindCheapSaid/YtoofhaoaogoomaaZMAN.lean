/- The contract of Add of a filter. No statement of the seat is proved here. -/
import Derived.Test.YtoofhaoaogoomaaZMAM
import Derived.RegionTactic
import Derived.ChangeAlike
import Derived.BigRegion
import Derived.Lib.SliceRun
namespace Go.Proofs.Ytoofhaoaogoomaa
open Go.RowKit Go.Shelf
attribute [local go_sem] Oper.semAt_some

theorem bkey_desc : ∃ fs, Try.prog.underlying 38 = some (.struct fs) := ⟨_, Try.underlying38⟩
theorem bkey_size : (Try.prog.info? 38).map (·.size) = some 33 := by kernel_rfl
/-- Block g is a row of bytes, and of what w had all else lies as it lay. -/
def Row1 (g : Nat) (w : World) (l : List UInt8) (W : World) : Prop := Blk W g 5 (bv l).toArray ∧ w.grownBy W (some g)
theorem row1_own {β : Type} {g : Nat} {w : World} (hg : g < w.heap.size) (f : β → List UInt8) : OwnFrom w.heap.size (fun s W => Row1 g w (f s) W) := fun s W W' row ⟨h1, h2⟩ hgr hr => by
  have hne : ∀ k, k < w.heap.size → some k ≠ row := fun k hk e => by have := (hr k e.symm).1; omega
  exact ⟨h1.same (hgr.block g h1.lt (hne g hg)), ⟨hgr.os.trans h2.os, hgr.tape.trans h2.tape, hgr.output.trans h2.output, Nat.le_trans h2.size hgr.size, fun k hk hn => (hgr.block k (Nat.lt_of_lt_of_le hk h2.size) (hne k hk)).trans (h2.block k hk hn)⟩⟩
theorem grownBy_kb {w W : World} {g : Nat} (h : w.grownBy W (some g)) : KB w.heap.size g w W := fun k h1 h2 => h.block k h1 (fun e => h2 (by injection e))

theorem grownBy_cell (W : World) (b i : Nat) (v : Value) : W.grownBy (W.setCell ⟨b, i, none⟩ v) (some b) :=
  ⟨rfl, rfl, rfl, (KeepsWalks.setCell W _ v).size, fun k _ hk => Below.heap_setCell _ _ _ k (fun e => hk (by rw [e]))⟩
theorem grownBy_kb' {W W' : World} {n₀ g : Nat} (h : W.grownBy W' (some g)) (hn : n₀ ≤ W.heap.size) : KB n₀ g W W' := fun k h1 h2 => h.block k (by omega) (fun e => h2 (by injection e))
/-- Behind the loop: the block of the deferred calls has turned besides, which is a new one. -/
theorem behind_loop {w W : World} {g D : Nat} (h : w.grownBy W (some g)) (hD : w.heap.size ≤ D) (o : Obj) : w.grownBy (W.putObj D o) (some g) :=
  ⟨h.os, h.tape, h.output, by simpa using h.size, fun k hk hn => (World.putObj_heap_other (by omega)).trans (h.block k hk hn)⟩
theorem below_grown {w W : World} (h : Below w.heap.size w W) (g : Nat) : w.grownBy W (some g) := ⟨h.os, h.tape, h.output, h.size, fun k hk _ => h.block k hk⟩
theorem gby_trans {a b c : World} {row : Option Nat} (h : a.grownBy b row) (k : b.grownBy c row) : a.grownBy c row :=
  ⟨k.os.trans h.os, k.tape.trans h.tape, k.output.trans h.output, Nat.le_trans h.size k.size, fun i hi hn => (k.block i (Nat.lt_of_lt_of_le hi h.size) hn).trans (h.block i hi hn)⟩
theorem four_blocks (w : World) (s t : TypeId) (cs ds : Array Value) : ((((w.alloc (.cells cs s)).alloc (.cells ds t)).alloc (.cells cs s)).alloc (.cells ds t)).heap.size = w.heap.size + 4 ∧
    Below w.heap.size w ((((w.alloc (.cells cs s)).alloc (.cells ds t)).alloc (.cells cs s)).alloc (.cells ds t)) ∧ Blk ((((w.alloc (.cells cs s)).alloc (.cells ds t)).alloc (.cells cs s)).alloc (.cells ds t)) w.heap.size s cs ∧
    Blk ((((w.alloc (.cells cs s)).alloc (.cells ds t)).alloc (.cells cs s)).alloc (.cells ds t)) (w.heap.size + 1 + 1) s cs ∧ Blk ((((w.alloc (.cells cs s)).alloc (.cells ds t)).alloc (.cells cs s)).alloc (.cells ds t)) (w.heap.size + 1 + 1 + 1) t ds := by
  have n0 := Blk.new w s cs
  have n2 := blk_at ((w.alloc (.cells cs s)).alloc (.cells ds t)) s cs (g := w.heap.size + 1 + 1) (by simp)
  have n3 := blk_at (((w.alloc (.cells cs s)).alloc (.cells ds t)).alloc (.cells cs s)) t ds (g := w.heap.size + 1 + 1 + 1) (by simp)
  have b1 := (Below.refl w.heap.size w).alloc (Nat.le_refl _) (.cells cs s)
  have b2 := b1.alloc b1.size (.cells ds t)
  have b3 := b2.alloc b2.size (.cells cs s)
  have b4 := b3.alloc b3.size (.cells ds t)
  have up := fun (W : World) (o : Obj) => (Below.refl W.heap.size W).alloc (Nat.le_refl _) o
  refine ⟨by simp, b4, ?_, n2.below (up _ _) n2.lt, n3⟩
  have m1 := n0.below (up _ (.cells ds t)) n0.lt
  have m2 := m1.below (up _ (.cells cs s)) m1.lt
  exact m2.below (up _ (.cells ds t)) m2.lt
theorem bv_set (l : List UInt8) (j : Nat) (b : UInt8) {X : Nat} (hb : b.toNat = X) : (bv (l.set j b)).toArray = (bv l).toArray.setIfInBounds j (.int .u8 (X : Nat)) := by
  subst hb
  simp [bv, List.map_set]
set_option maxRecDepth 100000 in
set_option maxHeartbeats 1000000 in
theorem add_ok (v g n p : Nat) (S : Nat → Bool) (kc : Array Value) (s : List UInt8) (N : Nat) (K : BKeyOk kc s N) (w : World) (h : Vec w v g n p S) :
    Calls Try.prog 44 #[.pointer (some ⟨v, 0, none⟩), .agg kc] w fun e w' => (∃ x, e = .returned x) ∧ Vec w' v g n p (putL S (spotsN n p (keyA s N) (keyB s))) ∧ w.grownBy w' (some g) := by
  obtain ⟨fs, hfs⟩ := bkey_desc
  have hksz : (Try.prog.info? 38).map (·.size) = some kc.size := by rw [K.size]; exact bkey_size
  have hkb : Blk ((w.alloc (.cells #[.pointer (some ⟨v, 0, none⟩)] 69)).alloc (.cells kc 38)) (w.heap.size + 1) 38 kc := blk_at _ _ _ (by rw [World.size_alloc])
  obtain ⟨a, ha⟩ : ∃ a, keyA s N = a := ⟨_, rfl⟩
  obtain ⟨b, hb⟩ : ∃ b, keyB s = b := ⟨_, rfl⟩
  rw [ha, hb]
  have HA := Lib.hid ha
  have HBB := Lib.hid hb
  have HF := Lib.hid hfs
  have HK := Lib.hid hksz
  have HB := Lib.hid hkb
  clear hfs hksz hkb ha hb
  refine (callsIn_wide (n := 3)).1 ?_
  refine callsIn_of_wp_marks Try.func44 rfl trivial ?_ rfl
  simp only [Try.ntmps44, List.size_toArray, List.length_cons, List.length_nil, Nat.reduceAdd, Nat.reduceSub, Array.replicate_succ, Array.replicate_zero, List.push_toArray, List.append_toArray, List.nil_append, List.cons_append]
  refine wpIn_wide.2 ?_
  go_wp2_with (refine wpList_load_row rfl 38 (.tmp 3) rfl (w.heap.size + 1) rfl 38 kc (0, 0) (.struct fs) HB.out HF.out rfl HK.out ?_)
  refine (bits_ok kc _ _).mono ?_
  rintro e w' ⟨rfl, rfl⟩
  go_wp2_with fail
  obtain ⟨hsz4, hb4, hx0, hx4, hk4⟩ := four_blocks w 69 38 #[.pointer (some ⟨v, 0, none⟩)] kc
  generalize ((((w.alloc (.cells #[.pointer (some ⟨v, 0, none⟩)] 69)).alloc (.cells kc 38)).alloc (.cells #[.pointer (some ⟨v, 0, none⟩)] 69)).alloc (.cells kc 38)) = w1 at *
  have hv := h.below hb4 h.vb.lt h.gb.lt
  have hgl := h.gb.lt
  have hvl := h.vb.lt
  obtain ⟨hc0, hc1, hc2, hc3⟩ := hv.cells
  have hit := it_all 2 (by omega) (w.heap.size + 1 + 1) (w.heap.size + 1 + 1 + 1) w1.heap.size v g n p kc s N K w1 hx4 hk4 hc0 hc1 h.hn h.hp (Nat.le_refl _) (by omega) (by omega) (by omega) h.ne
  rw [HA.out, HBB.out] at hit
  refine (wpIn_wide (n := 3)).1 ?_
  have hown := row1_own (g := g) (w := w1) (by omega) (fun pre : List (Fin n) => pk n (putL S (pre.map (·.val))))
  have hst : Row1 g w1 (pk n (putL S (([] : List (Fin n)).map (·.val)))) w1 := ⟨by simpa [putL] using hv.gb, World.grownBy.refl _ _⟩
  have hent := enters_of Try.func64 (by kernel_rfl) rfl
  have hkp := fun W l o o' => KB.putObj (w := w1) (n₀ := w1.heap.size) (g := g) (Nat.le_refl _) W l o o'
  refine wpIn_rangeFunc_ownF (F := Fence.wide) (n := 3) (P := Try.prog) rfl (by decide) (gf := 64) (lb := #[.pointer (some ⟨w.heap.size + 1 + 1, 0, none⟩), .pointer (some ⟨w.heap.size + 1 + 1 + 1, 0, none⟩)]) rfl trivial hent
    hit KB.trans hkp (Below.refl _ _) (fun _ => rfl)
    (fun pre W => Row1 g w1 (pk n (putL S (pre.map (·.val)))) W) (fun _ _ _ => False)
    ?hown ?hix ?hst
    (fun x => { tmps := #[.pointer (some ⟨v, 0, none⟩), .agg kc, .pointer (some ⟨w.heap.size, 0, none⟩), .pointer (some ⟨w.heap.size + 1, 0, none⟩), .int .u32 (x.val : Nat), undef, undef, .pointer (some ⟨v, 0, none⟩), .agg kc,
      .func (.func 64) #[] #[.pointer (some ⟨w.heap.size + 1 + 1, 0, none⟩), .pointer (some ⟨w.heap.size + 1 + 1 + 1, 0, none⟩)], .int .u32 (x.val : Nat), undef, undef, undef, undef, undef, undef, undef, undef, undef, undef, undef, undef, undef, undef, undef], defers := [] }) ?assign ?body ?done ?stop
  case hown => exact hown
  case hix => exact fun _ _ _ _ _ hs _ _ => hs
  case hst => exact hst
  case assign =>
    intro l x W K hK
    gi_wp2
    exact hK
  case body =>
    rintro l pre x W ⟨hgb, hgr⟩ _
    have hkb := grownBy_kb hgr
    have hx0' := (hx0.same (hkb _ (by omega) (by omega))).cell 0
    obtain ⟨_, _, _, hc3⟩ := (show Vec W v g n p (putL S (pre.map (·.val))) from ⟨hv.vb.same (hkb _ (by omega) h.ne), hgb, h.hn, h.hp⟩).cells
    have hxn := x.2
    have hpl := pk_length n (putL S (pre.map (·.val)))
    have hq8 : x.val / 8 < (n + 7) / 8 := by omega
    have hq9 : x.val / 8 < (pk n (putL S (pre.map (·.val)))).length := by rw [hpl]; exact hq8
    have hcg := hgb.cell (x.val / 8)
    rw [List.getElem?_toArray, bv_get hq9] at hcg
    have hfg := hgb.frozen (x.val / 8)
    have hput := pk_put (putL S (pre.map (·.val))) hxn hq9
    have hd : 1 ≤ 3 - 1 - 1 := by omega
    have hm8 : (n + 7) / 8 ≤ 131072 := by have := h.hn; omega
    have hcell := fun W' => CallsIn.inRound l ((callsIn_wide (n := 3 - 1 - 1 - 1)).2 (cell_ok g ((n + 7) / 8) x.val hq8 hm8 W'))
    gi_wp2_with ((with_reducible refine And.intro ?_ ?_); exact trivial; gi_at_call 50; (with_reducible refine (hcell _).mono ?_); rintro e w' ⟨rfl, rfl⟩)
    have hp8 := pow8_lt x.val
    have hbo : bits BinOp.or IntKind.u8 ((pk n (putL S (pre.map (·.val))))[x.val / 8].toNat : Int) (2 ^ (x.val % 8)) = (((pk n (putL S (pre.map (·.val))))[x.val / 8].toNat ||| 2 ^ (x.val % 8) : Nat) : Int) := by
      rw [← u8_or_nat _ _ (UInt8.toNat_lt _) hp8]; simp
    have hlt8 : ((pk n (putL S (pre.map (·.val))))[x.val / 8].toNat ||| 2 ^ (x.val % 8)) < 256 := Nat.or_lt_two_pow (n := 8) (UInt8.toNat_lt _) hp8
    rw [hbo]
    generalize ((pk n (putL S (pre.map (·.val))))[x.val / 8].toNat ||| 2 ^ (x.val % 8)) = X at *
    have hset := hgb.set_ (x.val / 8) (.int .u8 (X : Nat))
    have hb1 : (UInt8.ofNat X).toNat = X := by simp only [UInt8.toNat_ofNat']; omega
    have hgrow := grownBy_cell W g (x.val / 8) (.int .u8 (X : Nat))
    have hput := hput (UInt8.ofNat X) hb1
    rw [← putL_snoc] at hput
    have hmm : (pre ++ [x]).map (·.val) = pre.map (·.val) ++ [x.val] := by simp
    refine own_post (KeepsOthers.setCell _ _ _) (grownBy_kb' hgrow hgr.size) ⟨?_, gby_trans hgr hgrow⟩
    rw [hmm, ← hput]
    have hbv : (bv ((pk n (putL S (pre.map (·.val)))).set (x.val / 8) (UInt8.ofNat X))).toArray = (bv (pk n (putL S (pre.map (·.val))))).toArray.setIfInBounds (x.val / 8) (.int .u8 (X : Nat)) := bv_set _ _ _ hb1
    rw [hbv]
    exact hset
  case done =>
    rintro D ys W hD rfl ⟨hgb, hgr⟩ hK
    go_wp2
    refine leaves_mark hK ?_
    have hgf := behind_loop hgr hD (.deferred none)
    have hgw := gby_trans (below_grown hb4 g) hgf
    have hne := h.ne
    exact ⟨_, results_none rfl _ _ _, ⟨_, rfl⟩, ⟨h.vb.same (hgw.block v hvl (fun e => hne (by injection e))), hgb.same (World.putObj_heap_other (by omega)), h.hn, h.hp⟩, hgw⟩
  case stop =>
    rintro D c pre W _ _ h _
    exact h.elim
end Go.Proofs.Ytoofhaoaogoomaa
/- The contracts of Or, Bytes, Clear of a filter. No statement of the seat is proved here. -/
namespace Go.Proofs.Ytoofhaoaogoomaa
open Go.RowKit

theorem gby_drew {w W : World} {row : Option Nat} (h : w.grownBy W row) : w.grownBy W.drew row := ⟨h.os, h.tape, h.output, h.size, h.block⟩
theorem shl8 (U : Nat) (h : U < 8) : (2 : Int) ^ U % 256 = 2 ^ U := by
  have h1 : 2 ^ U < 256 := Nat.pow_lt_pow_right (show 1 < 2 by omega) h
  rw [show (2 : Int) ^ U = ((2 ^ U : Nat) : Int) by simp]
  generalize 2 ^ U = x at h1 ⊢
  omega
set_option maxRecDepth 100000 in
set_option maxHeartbeats 2000000 in
theorem or_ok (v g n p : Nat) (S : Nat → Bool) (w : World) (h : Vec w v g n p S) (A : Option Addr) (b : List UInt8) (nb c : Nat) (hl : b.length = nb) (hm9 : nb ≤ 9223372036854775807) (hr : ∀ W, w.grownBy W (some g) → Rd W W.heap.size A b) :
    Calls Try.prog 47 #[.pointer (some ⟨v, 0, none⟩), .slice A nb c] w fun e w' => (∃ x, e = .returned x) ∧ Vec w' v g n p (orS S b) ∧ w.grownBy w' (some g) := by
  obtain ⟨m, hm⟩ : ∃ m, (n + 7) / 8 = m := ⟨_, rfl⟩
  obtain ⟨k0, hk0⟩ : ∃ k0, k0 = min b.length m := ⟨_, rfl⟩
  have hmin : (if m < nb then (m : Int) else (nb : Int)) = (k0 : Int) := by
    rw [hl] at hk0; split <;> omega
  have hvc := Lib.hid (show ∀ W, w.grownBy W (some g) → W.cell? ⟨v, 0, none⟩ = some (.int .u32 n) ∧ W.cell? ⟨v, 2, none⟩ = some (.slice (some ⟨g, 0, none⟩) m m) from fun W hW => by
    have := h.vb.same (hW.block v h.vb.lt (fun e => h.ne (by injection e)))
    rw [hm] at this
    exact ⟨this.cell 0, this.cell 2⟩)
  have hgb := h.gb
  have hnn := h.hn
  have HV := Lib.hid h
  have HM := Lib.hid hm
  have HK := Lib.hid hk0
  have HL := Lib.hid hl
  have HR := Lib.hid hr
  obtain ⟨hc0, hc2⟩ := hvc.out w (World.grownBy.refl _ _)
  have hmm : m ≤ 131072 := by omega
  have hkm : k0 ≤ m := by omega
  have hkn : k0 ≤ nb := by omega
  clear h hm hk0 hl hr
  go_enter Try.func47, Try.ntmps47
  go_wp2
  go_loopw [16] (fun i wr => ∃ k : Nat, k ≤ k0 ∧ i = .int .i64 k ∧ Blk wr g 5 (bv (orTo (pk n S) b k)).toArray ∧ w.grownBy wr (some g))
    (fun i _ => k0 - (intOf i).toNat)
  case atStart => exact ⟨0, Nat.zero_le _, rfl, by rw [orTo_zero]; exact hgb, World.grownBy.refl _ _⟩
  case round =>
    clear hc0 hc2 hgb
    obtain ⟨k, hk, rfl, hblk, hgr⟩ := hrel
    obtain ⟨hc0, hc2⟩ := hvc.out wr hgr
    by_cases hlt : k < k0
    · have hkl : k < (orTo (pk n S) b k).length := by rw [orTo_length, pk_length, HM.out]; omega
      have hkb : k < b.length := by rw [HL.out]; omega
      have hcg := hblk.cell k
      rw [List.getElem?_toArray, bv_get hkl] at hcg
      have hfg := hblk.frozen k
      obtain ⟨gb, ob, rfl, hgbl, hcb0⟩ := HR.out wr hgr (by omega)
      have hcb := hcb0 k hkb
      clear hcb0
      have hi1 : (0 : Int) ≤ (k : Int) := by omega
      have hi2 : (k : Int) < (m : Int) := by omega
      have hi3 : (k : Int) < (nb : Int) := by omega
      have hor := u8_or_nat (orTo (pk n S) b k)[k].toNat b[k].toNat (UInt8.toNat_lt _) (UInt8.toNat_lt _)
      have hbd : b.getD k 0 = b[k] := by simp [List.getD, List.getElem?_eq_getElem hkb]
      have hnx := fun x hx => orTo_next hkl x (by rw [hbd]; exact hx)
      have hlt8 : ((orTo (pk n S) b k)[k].toNat ||| b[k].toNat) < 256 := Nat.or_lt_two_pow (n := 8) (UInt8.toNat_lt _) (UInt8.toNat_lt _)
      generalize ((orTo (pk n S) b k)[k].toNat ||| b[k].toNat) = X at *
      have HN := Lib.hid (hnx (UInt8.ofNat X) (by simp only [UInt8.toNat_ofNat']; omega))
      have HX := Lib.hid (show (UInt8.ofNat X).toNat = X by simp only [UInt8.toNat_ofNat']; omega)
      have HOR := Lib.hid hor
      have HBLK := Lib.hid hblk
      have HGR := Lib.hid hgr
      generalize (orTo (pk n S) b k)[k].toNat = Y at *
      generalize b[k].toNat = Z at *
      clear hnx hblk hgr hbd hor hlt8
      go_wp2_with fail
      go_region
      go_wp2_with fail
      go_roundw
      case rel =>
        rw [HOR.out]
        refine ⟨k + 1, by omega, by go_num, ?_, gby_drew (gby_trans HGR.out (grownBy_cell _ _ _ _))⟩
        have h1 := HBLK.out.set_ k (.int .u8 (X : Nat))
        rw [← bv_set _ _ _ HX.out, HN.out] at h1
        exact h1
      case measure => simp [intOf]; omega
    · obtain rfl : k0 = k := by omega
      obtain ⟨U, hU⟩ : ∃ U, n % 8 = U := ⟨_, rfl⟩
      have hUi : (n : Int) % 8 = (U : Int) := by omega
      by_cases hU0 : U = 0
      · subst hU0
        have hpk := pk_or0 (S := S) (k := k0) (by rw [HM.out]; exact HK.out) hU
        have hUi : (n : Int) % 8 = 0 := by omega
        have HP := Lib.hid (show Vec wr v g n p (orS S b) from ⟨HV.out.vb.same (hgr.block v HV.out.vb.lt (fun e => HV.out.ne (by injection e))), by rw [← hpk]; exact hblk, HV.out.hn, HV.out.hp⟩)
        have HG := Lib.hid hgr
        clear hU hpk hblk hgr
        go_wp2
        go_end0
        exact ⟨⟨_, rfl⟩, HP.out, HG.out⟩
      · have hU1 : (0 : Int) < (U : Int) := by omega
        have hU8 : U < 8 := by omega
        have hU2 : 0 < n % 8 := by omega
        obtain ⟨M, rfl⟩ : ∃ M, m = M + 1 := ⟨m - 1, by have := HM.out; omega⟩
        have hML : M < (orTo (pk n S) b k0).length := by rw [orTo_length, pk_length, HM.out]; omega
        have hpk := pk_or1 (S := S) (k := k0) (m := M) (by rw [HM.out]; exact HK.out) hU2 HM.out.symm hML
        have hcg := hblk.cell M
        rw [List.getElem?_toArray, bv_get hML] at hcg
        have hfg := hblk.frozen M
        have hsh := shl8 U hU8
        have hpw : 2 ^ U < 256 := Nat.pow_lt_pow_right (show 1 < 2 by omega) hU8
        have hpp : 0 < 2 ^ U := Nat.pow_pos (by omega)
        obtain ⟨Q, hQ⟩ : ∃ Q : Nat, 2 ^ U - 1 = Q := ⟨_, rfl⟩
        rw [hU, hQ] at hpk
        have hsb : ((2 : Int) ^ U - 1) % 256 = (Q : Int) := by
          rw [show (2 : Int) ^ U = ((2 ^ U : Nat) : Int) by simp]
          generalize 2 ^ U = x at hpw hpp hQ ⊢
          omega
        have hand := u8_and_nat (orTo (pk n S) b k0)[M].toNat Q (UInt8.toNat_lt _) (by omega)
        have hq8 : ((orTo (pk n S) b k0)[M].toNat &&& Q) < 256 := Nat.lt_of_le_of_lt Nat.and_le_left (UInt8.toNat_lt _)
        generalize ((orTo (pk n S) b k0)[M].toNat &&& Q) = X at *
        have HN := Lib.hid (hpk (UInt8.ofNat X) (by simp only [UInt8.toNat_ofNat']; omega))
        have HX := Lib.hid (show (UInt8.ofNat X).toNat = X by simp only [UInt8.toNat_ofNat']; omega)
        have HAND := Lib.hid hand
        have HU := Lib.hid hU
        have HBLK := Lib.hid hblk
        have HGR := Lib.hid hgr
        generalize (orTo (pk n S) b k0)[M].toNat = Y at *
        clear hU hpk hand hblk hgr hQ hpw hpp hq8
        go_wp2_with fail
        rw [hUi]
        go_region
        go_wp2
        go_end0
        rw [HAND.out]
        have h1 := HBLK.out.set_ M (.int .u8 (X : Nat))
        rw [← bv_set _ _ _ HX.out, HN.out] at h1
        have h2 := gby_drew (gby_trans HGR.out (grownBy_cell wr g M (.int .u8 (X : Nat))))
        exact ⟨⟨_, rfl⟩, ⟨HV.out.vb.same (h2.block v HV.out.vb.lt (fun e => HV.out.ne (by injection e))), h1, HV.out.hn, HV.out.hp⟩, h2⟩
end Go.Proofs.Ytoofhaoaogoomaa
/- The contracts of Clear of a filter, of Or and Clear of a nil one. No statement of the seat is proved here. -/
namespace Go.Proofs.Ytoofhaoaogoomaa
open Go.RowKit Go.Shelf
attribute [local go_sem] Oper.semAt_some

theorem or_nil (A : Option Addr) (n c : Nat) (w : World) : Calls Try.prog 47 #[.pointer none, .slice A n c] w fun e w' => (∃ x, e = .returned x) ∧ w = w' := by
  go_enter Try.func47, Try.ntmps47
  go_wp2
  refine bodyPost_ret (results_none rfl _ _ _) rfl ?_
  exact ⟨⟨_, rfl⟩, rfl⟩
theorem clear_nil (w : World) : Calls Try.prog 46 #[.pointer none] w fun e w' => (∃ x, e = .returned x) ∧ w = w' := by
  go_enter Try.func46, Try.ntmps46
  go_wp2
  refine bodyPost_ret (results_none rfl _ _ _) rfl ?_
  exact ⟨⟨_, rfl⟩, rfl⟩
theorem setCells_grown (g : Nat) : ∀ (vs : List Value) (o : Nat) (w : World), w.grownBy (w.setCells g o vs) (some g)
  | [], _, w => World.grownBy.refl w _
  | u :: r, o, w => gby_trans (grownBy_cell w g o u) (setCells_grown g r (o + 1) (w.setCell ⟨g, o, none⟩ u))
theorem setCells_blk (g : Nat) (t : TypeId) (z : Value) : ∀ (k o : Nat) (w : World) (cs : Array Value), Blk w g t cs → ∃ cs' : Array Value, Blk (w.setCells g o (List.replicate k z)) g t cs' ∧ cs'.size = cs.size ∧ ∀ j, j < cs.size → cs'[j]? = if o ≤ j ∧ j < o + k then some z else cs[j]?
  | 0, o, w, cs, h => ⟨cs, h, rfl, fun j _ => by rw [if_neg (by omega)]⟩
  | k + 1, o, w, cs, h => by
    obtain ⟨cs', h1, h2, h3⟩ := setCells_blk g t z k (o + 1) (w.setCell ⟨g, o, none⟩ z) (cs.setIfInBounds o z) (h.set_ o z)
    refine ⟨cs', h1, by rw [h2]; simp, fun j hj => ?_⟩
    rw [h3 j (by simpa using hj)]
    by_cases e : o = j
    · subst e
      rw [if_neg (by omega), if_pos (by omega)]; simp [hj]
    · rw [Array.getElem?_setIfInBounds_ne e]
      by_cases h4 : o + 1 ≤ j ∧ j < o + 1 + k
      · rw [if_pos h4, if_pos (by omega)]
      · rw [if_neg h4, if_neg (by omega)]
theorem clear_ok (v g n p : Nat) (S : Nat → Bool) (w : World) (h : Vec w v g n p S) :
    Calls Try.prog 46 #[.pointer (some ⟨v, 0, none⟩)] w fun e w' => (∃ x, e = .returned x) ∧ Vec w' v g n p (fun _ => false) ∧ w.grownBy w' (some g) := by
  obtain ⟨m, hm⟩ : ∃ m, (n + 7) / 8 = m := ⟨_, rfl⟩
  have hsz : (bv (pk n S)).toArray.size = m := by simp [bv_length, pk_length, hm]
  have hcl : ∀ ty, (Builtin.clear_ #[92] ty #[.slice (some ⟨g, 0, none⟩) m m]).run Try.prog w = .ok (.tuple #[]) (w.setCells g 0 (List.replicate m (.int .u8 0))) := fun ty => by
    rcases Nat.eq_zero_or_pos m with h0 | h0
    · subst h0
      simp [Builtin.clear_, run_underlying Try.underlying92]
      rfl
    · exact Lib.run_clear_slice w _ 5 ty (.int .u8 0) Try.underlying92 (Try.zeroValue5) rfl rfl g 0 m m h0 (fun j hj => by
        rw [Nat.zero_add, h.gb.cell, Array.getElem?_eq_getElem (by rw [hsz]; exact hj)]; rfl) (fun j _ => by rw [Nat.zero_add]; exact h.gb.frozen j)
  obtain ⟨cs', hb1, hb2, hb3⟩ := setCells_blk g 5 (.int .u8 0) m 0 w _ h.gb
  have hcs : cs' = (bv (pk n fun _ => false)).toArray := by
    rw [pk_none, hm]
    apply Array.ext_getElem?
    intro j
    by_cases hj : j < m
    · rw [hb3 j (by rw [hsz]; exact hj), if_pos (by omega)]
      simp [bv, hj]
    · rw [Array.getElem?_eq_none (by rw [hb2, hsz]; omega), Array.getElem?_eq_none (by simp [bv]; omega)]
  rw [hcs] at hb1
  have hgr := setCells_grown g (List.replicate m (.int .u8 0)) 0 w
  obtain ⟨_, _, hc2, _⟩ := h.cells
  rw [hm] at hc2
  have H := Lib.hid (show Vec (w.setCells g 0 (List.replicate m (.int .u8 0))) v g n p (fun _ => false) ∧ w.grownBy (w.setCells g 0 (List.replicate m (.int .u8 0))) (some g) from
    ⟨⟨h.vb.same (hgr.block v h.vb.lt (fun e => h.ne (by injection e))), hb1, h.hn, h.hp⟩, hgr⟩)
  clear h hm hsz hb1 hb2 hb3 hcs hgr
  go_enter Try.func46, Try.ntmps46
  go_wp2
  go_end0
  exact ⟨⟨_, rfl⟩, H.out⟩
end Go.Proofs.Ytoofhaoaogoomaa
