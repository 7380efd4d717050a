/- The contract of May of a filter. No statement of the seat is proved here. -/
import Derived.Test.YtjahlachoabmkaaBloomAdd
namespace Go.Proofs.Ytjahlachoabmkaa
open Go.RowKit Go.Shelf
attribute [local go_sem] Oper.semAt_some

theorem own_ret {α : Type} {Kp : World → World → Prop} {I : List α → World → Prop} {Ix : Code → List α → World → Prop} {xs : List α} {W W' : World} {a : Act} (h1 : KeepsOthers W W') (h3 : Ix .ret xs W') : ownPostK Kp I Ix xs W .ret a W' := ⟨h1, h3⟩
/-- Block b is a box that holds u, and of what w had all else lies as it lay. -/
def Row2 (b : Nat) (w : World) (u : Value) (W : World) : Prop := Blk W b 4 #[u] ∧ w.grownBy W (some b)
theorem row2_own {β : Type} {b : Nat} {w : World} (hg : b < w.heap.size) (u : Value) : OwnFrom w.heap.size (fun (_ : β) W => Row2 b w u W) := fun s W W' row ⟨h1, h2⟩ hgr hr => by
  have hne : ∀ k, k < w.heap.size → some k ≠ row := fun k hk e => by have := (hr k e.symm).1; omega
  exact ⟨h1.same (hgr.block b h1.lt (hne b hg)), ⟨hgr.os.trans h2.os, hgr.tape.trans h2.tape, hgr.output.trans h2.output, Nat.le_trans h2.size hgr.size, fun k hk hn => (hgr.block k (Nat.lt_of_lt_of_le hk h2.size) (hne k hk)).trans (h2.block k hk hn)⟩⟩
theorem five_blocks (w : World) (s t u : TypeId) (cs ds es : Array Value) : (((((w.alloc (.cells cs s)).alloc (.cells ds t)).alloc (.cells es u)).alloc (.cells cs s)).alloc (.cells ds t)).heap.size = w.heap.size + 5 ∧
    Below w.heap.size w (((((w.alloc (.cells cs s)).alloc (.cells ds t)).alloc (.cells es u)).alloc (.cells cs s)).alloc (.cells ds t)) ∧ Blk (((((w.alloc (.cells cs s)).alloc (.cells ds t)).alloc (.cells es u)).alloc (.cells cs s)).alloc (.cells ds t)) w.heap.size s cs ∧
    Blk (((((w.alloc (.cells cs s)).alloc (.cells ds t)).alloc (.cells es u)).alloc (.cells cs s)).alloc (.cells ds t)) (w.heap.size + 1 + 1) u es ∧
    Blk (((((w.alloc (.cells cs s)).alloc (.cells ds t)).alloc (.cells es u)).alloc (.cells cs s)).alloc (.cells ds t)) (w.heap.size + 1 + 1 + 1) s cs ∧ Blk (((((w.alloc (.cells cs s)).alloc (.cells ds t)).alloc (.cells es u)).alloc (.cells cs s)).alloc (.cells ds t)) (w.heap.size + 1 + 1 + 1 + 1) t ds := by
  have n0 := Blk.new w s cs
  have n2 := blk_at ((w.alloc (.cells cs s)).alloc (.cells ds t)) u es (g := w.heap.size + 1 + 1) (by simp)
  have n3 := blk_at (((w.alloc (.cells cs s)).alloc (.cells ds t)).alloc (.cells es u)) s cs (g := w.heap.size + 1 + 1 + 1) (by simp)
  have n4 := blk_at ((((w.alloc (.cells cs s)).alloc (.cells ds t)).alloc (.cells es u)).alloc (.cells cs s)) t ds (g := w.heap.size + 1 + 1 + 1 + 1) (by simp)
  have b1 := (Below.refl w.heap.size w).alloc (Nat.le_refl _) (.cells cs s)
  have b2 := b1.alloc b1.size (.cells ds t)
  have b3 := b2.alloc b2.size (.cells es u)
  have b4 := b3.alloc b3.size (.cells cs s)
  have b5 := b4.alloc b4.size (.cells ds t)
  have up := fun (W : World) (o : Obj) => (Below.refl W.heap.size W).alloc (Nat.le_refl _) o
  have m1 := n0.below (up _ (.cells ds t)) n0.lt
  have m2 := m1.below (up _ (.cells es u)) m1.lt
  have m3 := m2.below (up _ (.cells cs s)) m2.lt
  have k3 := n2.below (up _ (.cells cs s)) n2.lt
  exact ⟨by simp, b5, m3.below (up _ (.cells ds t)) m3.lt, k3.below (up _ (.cells ds t)) k3.lt, n3.below (up _ (.cells ds t)) n3.lt, n4⟩

set_option maxRecDepth 100000 in
set_option maxHeartbeats 2000000 in
theorem may_ok (v g n p : Nat) (S : Nat → Bool) (kc : Array Value) (s : List UInt8) (N : Nat) (K : KeyOk kc s N) (w : World) (h : Vec w v g n p S) :
    Calls Try.prog 15 #[.pointer (some ⟨v, 0, none⟩), .agg kc] w fun e w' => e = .returned (.bool ((spotsN n p (keyA s N) (keyB s)).all S)) ∧ Below w.heap.size w w' := by
  obtain ⟨fs, hfs⟩ := key_desc
  have hksz : (Try.prog.info? 27).map (·.size) = some kc.size := by rw [K.size]; exact key_size
  have hkb : Blk ((w.alloc (.cells #[.pointer (some ⟨v, 0, none⟩)] 29)).alloc (.cells kc 27)) (w.heap.size + 1) 27 kc := blk_at _ _ _ (by rw [World.size_alloc])
  have hkb2 : Blk (((w.alloc (.cells #[.pointer (some ⟨v, 0, none⟩)] 29)).alloc (.cells kc 27)).alloc (.cells #[.bool false] 4)) (w.heap.size + 1) 27 kc := hkb.below ((Below.refl _ _).alloc (Nat.le_refl _) _) hkb.lt
  obtain ⟨a, ha⟩ : ∃ a, keyA s N = a := ⟨_, rfl⟩
  obtain ⟨b, hb⟩ : ∃ b, keyB s = b := ⟨_, rfl⟩
  rw [ha, hb]
  have HA := Lib.hid ha
  have HBB := Lib.hid hb
  have HF := Lib.hid hfs
  have HK := Lib.hid hksz
  have HB := Lib.hid hkb2
  clear hfs hksz hkb hkb2 ha hb
  refine (callsIn_wide (n := 3)).1 ?_
  refine callsIn_of_wp_marks Try.func15 rfl trivial ?_ rfl
  simp only [Try.ntmps15, List.size_toArray, List.length_cons, List.length_nil, Nat.reduceAdd, Nat.reduceSub, Array.replicate_succ, Array.replicate_zero, List.push_toArray, List.append_toArray, List.nil_append, List.cons_append]
  refine wpIn_wide.2 ?_
  go_wp2_with (refine wpList_load_row rfl 27 (.tmp 3) rfl (w.heap.size + 1) rfl 27 kc (0, 0) (.struct fs) HB.out HF.out rfl HK.out ?_)
  refine (bits_ok kc _ _).mono ?_
  rintro e w' ⟨rfl, rfl⟩
  go_wp2_with fail
  obtain ⟨hsz5, hb5, hx0, hr2, hx4, hk4⟩ := five_blocks w 29 27 4 #[.pointer (some ⟨v, 0, none⟩)] kc #[.bool false]
  generalize (((((w.alloc (.cells #[.pointer (some ⟨v, 0, none⟩)] 29)).alloc (.cells kc 27)).alloc (.cells #[.bool false] 4)).alloc (.cells #[.pointer (some ⟨v, 0, none⟩)] 29)).alloc (.cells kc 27)) = w1 at *
  have hv := h.below hb5 h.vb.lt h.gb.lt
  have hgl := h.gb.lt
  have hvl := h.vb.lt
  obtain ⟨hc0, hc1, hc2, hc3⟩ := hv.cells
  have hit := it_all 2 (by omega) (w.heap.size + 1 + 1 + 1) (w.heap.size + 1 + 1 + 1 + 1) w1.heap.size v (w.heap.size + 1 + 1) n p kc s N K w1 hx4 hk4 hc0 hc1 h.hn h.hp (Nat.le_refl _) (by omega) (by omega) (by omega) (by omega)
  rw [HA.out, HBB.out] at hit
  refine (wpIn_wide (n := 3)).1 ?_
  have hent := enters_of Try.func27 (by kernel_rfl) rfl
  have hkp := fun W l o o' => KB.putObj (w := w1) (n₀ := w1.heap.size) (g := w.heap.size + 1 + 1) (Nat.le_refl _) W l o o'
  refine wpIn_rangeFunc_ownF (F := Fence.wide) (n := 3) (P := Try.prog) rfl (by decide) (gf := 27) (lb := #[.pointer (some ⟨w.heap.size + 1 + 1 + 1, 0, none⟩), .pointer (some ⟨w.heap.size + 1 + 1 + 1 + 1, 0, none⟩)]) rfl trivial hent
    hit KB.trans hkp (Below.refl _ _) (fun _ => rfl)
    (fun pre W => (∀ q ∈ pre, S q.val = true) ∧ Below w1.heap.size w1 W) (fun c pre W => (c = .ret ∧ ∃ q ∈ pre, S q.val = false) ∧ Row2 (w.heap.size + 1 + 1) w1 (.bool false) W)
    ?hown ?hix ?hst
    (fun x => { tmps := #[.pointer (some ⟨v, 0, none⟩), .agg kc, .pointer (some ⟨w.heap.size, 0, none⟩), .pointer (some ⟨w.heap.size + 1, 0, none⟩), .pointer (some ⟨w.heap.size + 1 + 1, 0, none⟩), .int .u32 (x.val : Nat), undef, undef, .pointer (some ⟨v, 0, none⟩), .agg kc,
      .func (.func 27) #[] #[.pointer (some ⟨w.heap.size + 1 + 1 + 1, 0, none⟩), .pointer (some ⟨w.heap.size + 1 + 1 + 1 + 1, 0, none⟩)], .int .u32 (x.val : Nat), undef, undef, undef, undef, undef, undef, undef, undef, undef, undef, undef, undef, undef, undef, undef], defers := [] }) ?assign ?body ?done ?stop
  case hown => exact OwnFrom.and (ownFrom_pure _ _) (ownFrom_below (Nat.le_refl _) (Nat.le_refl _))
  case hix => exact fun c => OwnFrom.and (ownFrom_pure _ (fun pre : List (Fin n) => c = .ret ∧ ∃ q ∈ pre, S q.val = false)) (row2_own (by omega) _)
  case hst => exact ⟨by simp, Below.refl _ _⟩
  case assign =>
    intro l x W K hK
    gi_wp2
    exact hK
  case body =>
    rintro l pre x W ⟨hall, hbl⟩ _
    have hx0' := (hx0.below hbl hx0.lt).cell 0
    have hv' := hv.on hbl
    obtain ⟨_, _, _, hc3⟩ := hv'.cells
    have hxn := x.2
    have hpl := pk_length n S
    have hq8 : x.val / 8 < (n + 7) / 8 := by omega
    have hq9 : x.val / 8 < (pk n S).length := by rw [hpl]; exact hq8
    have hcg := hv'.byte hq9
    have hm8 : (n + 7) / 8 ≤ 131072 := by have := h.hn; omega
    have hrb := hr2.below hbl hr2.lt
    have hrc := hrb.cell 0
    have hrf := hrb.frozen 0
    have hhas := pk_has S hxn hq9
    have hp8 := pow8_lt x.val
    have hband : bits BinOp.and IntKind.u8 ((pk n S)[x.val / 8].toNat : Int) (2 ^ (x.val % 8)) = ((if S x.val = true then 2 ^ (x.val % 8) else 0 : Nat) : Int) := by
      have := u8_and_nat (pk n S)[x.val / 8].toNat (2 ^ (x.val % 8)) (UInt8.toNat_lt _) hp8
      rw [hhas] at this
      rw [← this]; simp
    have hcell := fun W' => CallsIn.inRound l ((callsIn_wide (n := 3 - 1 - 1 - 1)).2 (cell_ok g ((n + 7) / 8) x.val hq8 hm8 W'))
    have HBA := Lib.hid hall
    clear hall hhas
    by_cases hS : S x.val = true
    · have hne : (bits BinOp.and IntKind.u8 ((pk n S)[x.val / 8].toNat : Int) (2 ^ (x.val % 8)) == 0) = false := by
        rw [hband, if_pos hS]
        have : 0 < 2 ^ (x.val % 8) := Nat.pow_pos (by omega)
        generalize 2 ^ (x.val % 8) = X at this
        simp; omega
      have HS := Lib.hid hS
      clear hband hS
      gi_wp2_with ((with_reducible refine And.intro ?_ ?_); exact trivial; gi_at_call 22; (with_reducible refine (hcell _).mono ?_); rintro e w' ⟨rfl, rfl⟩)
      refine own_post (KeepsOthers.refl _) (KB.refl _ _ _) ⟨?_, hbl⟩
      intro q hq
      rcases List.mem_append.1 hq with hq | hq
      · exact HBA.out q hq
      · rw [List.mem_singleton.1 hq]; exact HS.out
    · have hne : (bits BinOp.and IntKind.u8 ((pk n S)[x.val / 8].toNat : Int) (2 ^ (x.val % 8)) == 0) = true := by
        rw [hband, if_neg hS]; rfl
      have HS := Lib.hid hS
      clear hband hS
      gi_wp2_with ((with_reducible refine And.intro ?_ ?_); exact trivial; gi_at_call 22; (with_reducible refine (hcell _).mono ?_); rintro e w' ⟨rfl, rfl⟩)
      exact own_ret (KeepsOthers.setCell _ _ _) ⟨⟨rfl, x, List.mem_append.2 (.inr (by simp)), by simpa using HS.out⟩, by simpa using hrb.set_ 0 (.bool false), gby_trans (below_grown hbl _) (grownBy_cell _ _ _ _)⟩
  case done =>
    rintro D ys W hD rfl ⟨hall, hbl⟩ hK
    have hrb := hr2.below hbl hr2.lt
    have hrc := hrb.cell 0
    have hrf := hrb.frozen 0
    have HBA := Lib.hid hall
    clear hall
    go_wp2
    have hK2 := (KeepsOthers.setCell W ⟨w.heap.size + 1 + 1, 0, none⟩ (.bool true)).same D _ hK rfl
    refine leaves_mark hK2 ?_
    have hc5 := (Blk.same (hrb.set_ 0 (.bool true)) (World.putObj_heap_other (o := .deferred none) (show w.heap.size + 1 + 1 ≠ D by omega))).cell 0
    have hgr := behind_loop (gby_trans (below_grown hbl _) (grownBy_cell W (w.heap.size + 1 + 1) 0 (.bool true))) hD (.deferred none)
    refine ⟨.bool true, ?_, congrArg (fun b => Ending.returned (Value.bool b)) (Eq.symm (List.all_eq_true.2 fun q hq => ?_)), hb5.grown hgr hb5.size (fun k e => by injection e with e; omega)⟩
    · simp [results, Try.f15, go_sem, hc5]
    · obtain ⟨q', hq', rfl⟩ := List.mem_map.1 hq
      exact HBA.out q' hq'
  case stop =>
    rintro D c pre W hD hpre ⟨⟨rfl, hex⟩, hrow⟩ hK
    have HE := Lib.hid hex
    clear hex
    gi_wp2
    refine leaves_mark hK ?_
    have hc5 := (Blk.same hrow.1 (World.putObj_heap_other (o := .deferred none) (show w.heap.size + 1 + 1 ≠ D by omega))).cell 0
    have hgr := behind_loop hrow.2 hD (.deferred none)
    refine ⟨.bool false, ?_, congrArg (fun b => Ending.returned (Value.bool b)) (Eq.symm (List.all_eq_false.2 ?_)), hb5.grown hgr hb5.size (fun k e => by injection e with e; omega)⟩
    · simp [results, Try.f15, go_sem, hc5]
    · obtain ⟨q, hq, hs⟩ := HE.out
      exact ⟨q.val, List.mem_map.2 ⟨q, hpre.subset hq, rfl⟩, by simp [hs]⟩
end Go.Proofs.Ytjahlachoabmkaa
