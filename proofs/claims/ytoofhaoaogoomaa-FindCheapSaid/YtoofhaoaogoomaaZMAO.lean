/- The contract of May of a filter. No statement of the seat is proved here. -/
import Derived.Test.YtoofhaoaogoomaaZMAN
import Derived.Test.YtoofhaoaogoomaaZMAE
import Derived.Test.YtoofhaoaogoomaaZMAB
import Derived.WalkKit
namespace Go.Proofs.Ytoofhaoaogoomaa
open Go.RowKit Go.Shelf
attribute [local go_sem] Oper.semAt_some

/-- Block b is a box that holds u, and of what w had all else lies as it lay. -/
def Row2 (b : Nat) (w : World) (u : Value) (W : World) : Prop := Blk W b 4 #[u] ∧ w.grownBy W (some b)
theorem row2_own {β : Type} {b : Nat} {w : World} (hg : b < w.heap.size) (u : Value) : OwnFrom w.heap.size (fun (_ : β) W => Row2 b w u W) := fun s W W' row ⟨h1, h2⟩ hgr hr => by
  have hne : ∀ k, k < w.heap.size → some k ≠ row := fun k hk e => by have := (hr k e.symm).1; omega
  exact ⟨h1.same (hgr.block b h1.lt (hne b hg)), ⟨hgr.os.trans h2.os, hgr.tape.trans h2.tape, hgr.output.trans h2.output, Nat.le_trans h2.size hgr.size, fun k hk hn => (hgr.block k (Nat.lt_of_lt_of_le hk h2.size) (hne k hk)).trans (h2.block k hk hn)⟩⟩
theorem five_blocks (w : World) (s t u : TypeId) (cs ds es : Array Value) : (((((w.alloc (.cells cs s)).alloc (.cells ds t)).alloc (.cells es u)).alloc (.cells cs s)).alloc (.cells ds t)).heap.size = w.heap.size + 5 ∧
    Below w.heap.size w (((((w.alloc (.cells cs s)).alloc (.cells ds t)).alloc (.cells es u)).alloc (.cells cs s)).alloc (.cells ds t)) ∧ Blk (((((w.alloc (.cells cs s)).alloc (.cells ds t)).alloc (.cells es u)).alloc (.cells cs s)).alloc (.cells ds t)) w.heap.size s cs ∧
    Blk (((((w.alloc (.cells cs s)).alloc (.cells ds t)).alloc (.cells es u)).alloc (.cells cs s)).alloc (.cells ds t)) (w.heap.size + 1 + 1) u es ∧
    Blk (((((w.alloc (.cells cs s)).alloc (.cells ds t)).alloc (.cells es u)).alloc (.cells cs s)).alloc (.cells ds t)) (w.heap.size + 1 + 1 + 1) s cs ∧ Blk (((((w.alloc (.cells cs s)).alloc (.cells ds t)).alloc (.cells es u)).alloc (.cells cs s)).alloc (.cells ds t)) (w.heap.size + 1 + 1 + 1 + 1) t ds := by
  have n0 := Blk.new w s cs
  have n2 := blk_at ((w.alloc (.cells cs s)).alloc (.cells ds t)) u es (g := w.heap.size + 1 + 1) (by simp)
  have n3 := blk_at (((w.alloc (.cells cs s)).alloc (.cells ds t)).alloc (.cells es u)) s cs (g := w.heap.size + 1 + 1 + 1) (by simp)
  have n4 := blk_at ((((w.alloc (.cells cs s)).alloc (.cells ds t)).alloc (.cells es u)).alloc (.cells cs s)) t ds (g := w.heap.size + 1 + 1 + 1 + 1) (by simp)
  have b1 := (Below.refl w.heap.size w).alloc (Nat.le_refl _) (.cells cs s)
  have b2 := b1.alloc b1.size (.cells ds t)
  have b3 := b2.alloc b2.size (.cells es u)
  have b4 := b3.alloc b3.size (.cells cs s)
  have b5 := b4.alloc b4.size (.cells ds t)
  have up := fun (W : World) (o : Obj) => (Below.refl W.heap.size W).alloc (Nat.le_refl _) o
  have m1 := n0.below (up _ (.cells ds t)) n0.lt
  have m2 := m1.below (up _ (.cells es u)) m1.lt
  have m3 := m2.below (up _ (.cells cs s)) m2.lt
  have k3 := n2.below (up _ (.cells cs s)) n2.lt
  exact ⟨by simp, b5, m3.below (up _ (.cells ds t)) m3.lt, k3.below (up _ (.cells ds t)) k3.lt, n3.below (up _ (.cells ds t)) n3.lt, n4⟩

set_option maxRecDepth 100000 in
set_option maxHeartbeats 2000000 in
theorem may_ok (v g n p : Nat) (S : Nat → Bool) (kc : Array Value) (s : List UInt8) (N : Nat) (K : BKeyOk kc s N) (w : World) (h : Vec w v g n p S) :
    Calls Try.prog 35 #[.pointer (some ⟨v, 0, none⟩), .agg kc] w fun e w' => e = .returned (.bool ((spotsN n p (keyA s N) (keyB s)).all S)) ∧ Below w.heap.size w w' := by
  obtain ⟨fs, hfs⟩ := bkey_desc
  have hksz : (Try.prog.info? 38).map (·.size) = some kc.size := by rw [K.size]; exact bkey_size
  have hkb : Blk ((w.alloc (.cells #[.pointer (some ⟨v, 0, none⟩)] 69)).alloc (.cells kc 38)) (w.heap.size + 1) 38 kc := blk_at _ _ _ (by rw [World.size_alloc])
  have hkb2 : Blk (((w.alloc (.cells #[.pointer (some ⟨v, 0, none⟩)] 69)).alloc (.cells kc 38)).alloc (.cells #[.bool false] 4)) (w.heap.size + 1) 38 kc := hkb.below ((Below.refl _ _).alloc (Nat.le_refl _) _) hkb.lt
  obtain ⟨a, ha⟩ : ∃ a, keyA s N = a := ⟨_, rfl⟩
  obtain ⟨b, hb⟩ : ∃ b, keyB s = b := ⟨_, rfl⟩
  rw [ha, hb]
  have HA := Lib.hid ha
  have HBB := Lib.hid hb
  have HF := Lib.hid hfs
  have HK := Lib.hid hksz
  have HB := Lib.hid hkb2
  clear hfs hksz hkb hkb2 ha hb
  refine (callsIn_wide (n := 3)).1 ?_
  refine callsIn_of_wp_marks Try.func35 rfl trivial ?_ rfl
  simp only [Try.ntmps35, List.size_toArray, List.length_cons, List.length_nil, Nat.reduceAdd, Nat.reduceSub, Array.replicate_succ, Array.replicate_zero, List.push_toArray, List.append_toArray, List.nil_append, List.cons_append]
  refine wpIn_wide.2 ?_
  go_wp2_with (refine wpList_load_row rfl 38 (.tmp 3) rfl (w.heap.size + 1) rfl 38 kc (0, 0) (.struct fs) HB.out HF.out rfl HK.out ?_)
  refine (bits_ok kc _ _).mono ?_
  rintro e w' ⟨rfl, rfl⟩
  go_wp2_with fail
  obtain ⟨hsz5, hb5, hx0, hr2, hx4, hk4⟩ := five_blocks w 69 38 4 #[.pointer (some ⟨v, 0, none⟩)] kc #[.bool false]
  generalize (((((w.alloc (.cells #[.pointer (some ⟨v, 0, none⟩)] 69)).alloc (.cells kc 38)).alloc (.cells #[.bool false] 4)).alloc (.cells #[.pointer (some ⟨v, 0, none⟩)] 69)).alloc (.cells kc 38)) = w1 at *
  have hv := h.below hb5 h.vb.lt h.gb.lt
  have hgl := h.gb.lt
  have hvl := h.vb.lt
  obtain ⟨hc0, hc1, hc2, hc3⟩ := hv.cells
  have hit := it_all 2 (by omega) (w.heap.size + 1 + 1 + 1) (w.heap.size + 1 + 1 + 1 + 1) w1.heap.size v (w.heap.size + 1 + 1) n p kc s N K w1 hx4 hk4 hc0 hc1 h.hn h.hp (Nat.le_refl _) (by omega) (by omega) (by omega) (by omega)
  rw [HA.out, HBB.out] at hit
  refine (wpIn_wide (n := 3)).1 ?_
  have hent := enters_of Try.func64 (by kernel_rfl) rfl
  have hkp := fun W l o o' => KB.putObj (w := w1) (n₀ := w1.heap.size) (g := w.heap.size + 1 + 1) (Nat.le_refl _) W l o o'
  refine wpIn_rangeFunc_ownF (F := Fence.wide) (n := 3) (P := Try.prog) rfl (by decide) (gf := 64) (lb := #[.pointer (some ⟨w.heap.size + 1 + 1 + 1, 0, none⟩), .pointer (some ⟨w.heap.size + 1 + 1 + 1 + 1, 0, none⟩)]) rfl trivial hent
    hit KB.trans hkp (Below.refl _ _) (fun _ => rfl)
    (fun pre W => (∀ q ∈ pre, S q.val = true) ∧ Below w1.heap.size w1 W) (fun c pre W => (c = .ret ∧ ∃ q ∈ pre, S q.val = false) ∧ Row2 (w.heap.size + 1 + 1) w1 (.bool false) W)
    ?hown ?hix ?hst
    (fun x => { tmps := #[.pointer (some ⟨v, 0, none⟩), .agg kc, .pointer (some ⟨w.heap.size, 0, none⟩), .pointer (some ⟨w.heap.size + 1, 0, none⟩), .pointer (some ⟨w.heap.size + 1 + 1, 0, none⟩), .int .u32 (x.val : Nat), undef, undef, .pointer (some ⟨v, 0, none⟩), .agg kc,
      .func (.func 64) #[] #[.pointer (some ⟨w.heap.size + 1 + 1 + 1, 0, none⟩), .pointer (some ⟨w.heap.size + 1 + 1 + 1 + 1, 0, none⟩)], .int .u32 (x.val : Nat), undef, undef, undef, undef, undef, undef, undef, undef, undef, undef, undef, undef, undef, undef, undef], defers := [] }) ?assign ?body ?done ?stop
  case hown => exact OwnFrom.and (ownFrom_pure _ _) (ownFrom_below (Nat.le_refl _) (Nat.le_refl _))
  case hix => exact fun c => OwnFrom.and (ownFrom_pure _ (fun pre : List (Fin n) => c = .ret ∧ ∃ q ∈ pre, S q.val = false)) (row2_own (by omega) _)
  case hst => exact ⟨by simp, Below.refl _ _⟩
  case assign =>
    intro l x W K hK
    gi_wp2
    exact hK
  case body =>
    rintro l pre x W ⟨hall, hbl⟩ _
    have hx0' := (hx0.below hbl hx0.lt).cell 0
    have hv' := hv.on hbl
    obtain ⟨_, _, _, hc3⟩ := hv'.cells
    have hxn := x.2
    have hpl := pk_length n S
    have hq8 : x.val / 8 < (n + 7) / 8 := by omega
    have hq9 : x.val / 8 < (pk n S).length := by rw [hpl]; exact hq8
    have hcg := hv'.byte hq9
    have hm8 : (n + 7) / 8 ≤ 131072 := by have := h.hn; omega
    have hrb := hr2.below hbl hr2.lt
    have hrc := hrb.cell 0
    have hrf := hrb.frozen 0
    have hhas := pk_has S hxn hq9
    have hp8 := pow8_lt x.val
    have hband : bits BinOp.and IntKind.u8 ((pk n S)[x.val / 8].toNat : Int) (2 ^ (x.val % 8)) = ((if S x.val = true then 2 ^ (x.val % 8) else 0 : Nat) : Int) := by
      have := u8_and_nat (pk n S)[x.val / 8].toNat (2 ^ (x.val % 8)) (UInt8.toNat_lt _) hp8
      rw [hhas] at this
      rw [← this]; simp
    have hcell := fun W' => CallsIn.inRound l ((callsIn_wide (n := 3 - 1 - 1 - 1)).2 (cell_ok g ((n + 7) / 8) x.val hq8 hm8 W'))
    have HBA := Lib.hid hall
    clear hall hhas
    by_cases hS : S x.val = true
    · have hne : (bits BinOp.and IntKind.u8 ((pk n S)[x.val / 8].toNat : Int) (2 ^ (x.val % 8)) == 0) = false := by
        rw [hband, if_pos hS]
        have : 0 < 2 ^ (x.val % 8) := Nat.pow_pos (by omega)
        generalize 2 ^ (x.val % 8) = X at this
        simp; omega
      have HS := Lib.hid hS
      clear hband hS
      gi_wp2_with ((with_reducible refine And.intro ?_ ?_); exact trivial; gi_at_call 50; (with_reducible refine (hcell _).mono ?_); rintro e w' ⟨rfl, rfl⟩)
      refine own_post (KeepsOthers.refl _) (KB.refl _ _ _) ⟨?_, hbl⟩
      intro q hq
      rcases List.mem_append.1 hq with hq | hq
      · exact HBA.out q hq
      · rw [List.mem_singleton.1 hq]; exact HS.out
    · have hne : (bits BinOp.and IntKind.u8 ((pk n S)[x.val / 8].toNat : Int) (2 ^ (x.val % 8)) == 0) = true := by
        rw [hband, if_neg hS]; rfl
      have HS := Lib.hid hS
      clear hband hS
      gi_wp2_with ((with_reducible refine And.intro ?_ ?_); exact trivial; gi_at_call 50; (with_reducible refine (hcell _).mono ?_); rintro e w' ⟨rfl, rfl⟩)
      exact own_ret (KeepsOthers.setCell _ _ _) ⟨⟨rfl, x, List.mem_append.2 (.inr (by simp)), by simpa using HS.out⟩, by simpa using hrb.set_ 0 (.bool false), gby_trans (below_grown hbl _) (grownBy_cell _ _ _ _)⟩
  case done =>
    rintro D ys W hD rfl ⟨hall, hbl⟩ hK
    have hrb := hr2.below hbl hr2.lt
    have hrc := hrb.cell 0
    have hrf := hrb.frozen 0
    have HBA := Lib.hid hall
    clear hall
    go_wp2
    have hK2 := (KeepsOthers.setCell W ⟨w.heap.size + 1 + 1, 0, none⟩ (.bool true)).same D _ hK rfl
    refine leaves_mark hK2 ?_
    have hc5 := (Blk.same (hrb.set_ 0 (.bool true)) (World.putObj_heap_other (o := .deferred none) (show w.heap.size + 1 + 1 ≠ D by omega))).cell 0
    have hgr := behind_loop (gby_trans (below_grown hbl _) (grownBy_cell W (w.heap.size + 1 + 1) 0 (.bool true))) hD (.deferred none)
    refine ⟨.bool true, ?_, congrArg (fun b => Ending.returned (Value.bool b)) (Eq.symm (List.all_eq_true.2 fun q hq => ?_)), hb5.grown hgr hb5.size (fun k e => by injection e with e; omega)⟩
    · simp [results, Try.f35, go_sem, hc5]
    · obtain ⟨q', hq', rfl⟩ := List.mem_map.1 hq
      exact HBA.out q' hq'
  case stop =>
    rintro D c pre W hD hpre ⟨⟨rfl, hex⟩, hrow⟩ hK
    have HE := Lib.hid hex
    clear hex
    gi_wp2
    refine leaves_mark hK ?_
    have hc5 := (Blk.same hrow.1 (World.putObj_heap_other (o := .deferred none) (show w.heap.size + 1 + 1 ≠ D by omega))).cell 0
    have hgr := behind_loop hrow.2 hD (.deferred none)
    refine ⟨.bool false, ?_, congrArg (fun b => Ending.returned (Value.bool b)) (Eq.symm (List.all_eq_false.2 ?_)), hb5.grown hgr hb5.size (fun k e => by injection e with e; omega)⟩
    · simp [results, Try.f35, go_sem, hc5]
    · obtain ⟨q, hq, hs⟩ := HE.out
      exact ⟨q.val, List.mem_map.2 ⟨q, hpre.subset hq, rfl⟩, by simp [hs]⟩
end Go.Proofs.Ytoofhaoaogoomaa
/- States as blocks that stay: small laws (names no program). No statement of the seat is proved here. -/
namespace Go.Proofs.Ytoofhaoaogoomaa
open Go.RowKit
set_option linter.unusedVariables false

theorem still_lt {w w' : World} {F : Nat → Prop} (hl : ∀ g, F g → g < w.heap.size) (hk : ∀ g, F g → w'.heap[g]? = w.heap[g]?) : ∀ g, F g → g < w'.heap.size := fun g hg => by
  have h1 : w.heap[g]? = some (w.heap[g]'(hl g hg)) := Array.getElem?_eq_getElem (hl g hg)
  rw [← hk g hg] at h1
  exact (Array.getElem?_eq_some_iff.1 h1).1
theorem grown_only {w w' : World} {g : Nat} {F : Nat → Prop} (h : w.grownBy w' (some g)) (hF : F g) : Only F w w' :=
  ⟨h.os, h.tape, h.output, h.size, fun k hk hn => h.block k hk fun e => hn (by injection e with e; exact e ▸ hF)⟩
theorem drew_below (w : World) : Below w.heap.size w w.drew := ⟨rfl, rfl, rfl, Nat.le_refl _, fun _ _ => rfl⟩
end Go.Proofs.Ytoofhaoaogoomaa
/- The landed filter as a state with a footprint. No statement of the seat is proved here. -/
namespace Go.Proofs.Ytoofhaoaogoomaa
open Go.RowKit
set_option linter.unusedVariables false
set_option linter.unusedSimpArgs false
set_option maxRecDepth 100000

def Rv (w : World) (s : Addr) (F : Nat → Prop) (V : BS) : Prop := ∃ v g, s = ⟨v, 0, none⟩ ∧ Vec w v g V.n V.p V.S ∧ F v ∧ F g ∧ ∀ k, F k → k < w.heap.size
theorem Rv.firm : Firm Rv where
  lt := fun ⟨_, _, _, _, _, _, h⟩ => h
  keep := fun {w w'} {s F V} ⟨r, g, hs, h, hr, hg, hl⟩ hk => ⟨r, g, hs, h.same (hk r hr) (hk g hg), hr, hg, still_lt hl hk⟩
theorem bkey_of {k : KeyT} (hk : k.Ok) : BKeyOk (kcs k).toArray k.1 k.2 where
  sum j hj := by
    rw [List.getElem?_toArray]
    unfold kcs
    rw [List.getElem?_append_left (by rw [bv_length]; exact hj), bv_get hj]
  num := by
    rw [List.getElem?_toArray]
    unfold kcs
    rw [List.getElem?_append_right (by rw [bv_length, hk.1]; exact Nat.le_refl _), bv_length, hk.1]
    rfl
  len := hk.1
  size := by rw [List.size_toArray]; exact kcs_length hk
  lt := hk.2
theorem rv_grown {w w' : World} {F : Nat → Prop} {r g : Nat} {V V' : BS} (hR : Vec w' r g V'.n V'.p V'.S) (hr : F r) (hg : F g) (hl : ∀ k, F k → k < w.heap.size) (h : w.grownBy w' (some g)) : Turned Rv w ⟨r, 0, none⟩ F w' V' :=
  ⟨F, ⟨r, g, rfl, hR, hr, hg, fun k hk => Nat.lt_of_lt_of_le (hl k hk) h.size⟩, fun k hk => .inl hk, grown_only h hg⟩
section
variable {w : World} {s : Addr} {F : Nat → Prop} {V : BS}
theorem rv_add (h : Rv w s F V) (x : KeyT) (hx : x.Ok) :
    Calls Try.prog 44 #[.pointer (some s), .agg (kcs x).toArray] w fun e w' => (∃ y, e = .returned y) ∧ Turned Rv w s F w' ⟨V.n, V.p, putL V.S (spotsK V.n V.p x)⟩ := by
  obtain ⟨r, g, rfl, hR, hr, hg, hl⟩ := h
  exact (add_ok r g V.n V.p V.S _ x.1 x.2 (bkey_of hx) w hR).mono fun e w' ⟨h1, h2, h3⟩ => ⟨h1, rv_grown (V := V) (V' := ⟨V.n, V.p, putL V.S (spotsK V.n V.p x)⟩) h2 hr hg hl h3⟩
theorem rv_may (h : Rv w s F V) (x : KeyT) (hx : x.Ok) :
    Calls Try.prog 35 #[.pointer (some s), .agg (kcs x).toArray] w fun e w' => e = .returned (.bool ((spotsK V.n V.p x).all V.S)) ∧ Below w.heap.size w w' := by
  obtain ⟨r, g, rfl, hR, hr, hg, hl⟩ := h
  exact may_ok r g V.n V.p V.S _ x.1 x.2 (bkey_of hx) w hR
theorem rv_clear (h : Rv w s F V) :
    Calls Try.prog 46 #[.pointer (some s)] w fun e w' => (∃ y, e = .returned y) ∧ Turned Rv w s F w' ⟨V.n, V.p, fun _ => false⟩ := by
  obtain ⟨r, g, rfl, hR, hr, hg, hl⟩ := h
  exact (clear_ok r g V.n V.p V.S w hR).mono fun e w' ⟨h1, h2, h3⟩ => ⟨h1, rv_grown (V := V) (V' := ⟨V.n, V.p, fun _ => false⟩) h2 hr hg hl h3⟩
theorem rv_or (h : Rv w s F V) (A : Option Addr) (b : List UInt8) (nb c : Nat) (hb : b.length = nb) (hm : nb ≤ 9223372036854775807) (hr : Rd w w.heap.size A b) (hF : ∀ ad, A = some ad → 0 < nb → ¬ F ad.block) :
    Calls Try.prog 47 #[.pointer (some s), .slice A nb c] w fun e w' => (∃ y, e = .returned y) ∧ Turned Rv w s F w' ⟨V.n, V.p, orS V.S b⟩ := by
  obtain ⟨r, g, rfl, hR, h1, h2, hl⟩ := h
  refine (or_ok r g V.n V.p V.S w hR A b nb c hb hm fun W hW => ?_).mono fun e w' ⟨h3, h4, h6⟩ => ⟨h3, rv_grown (V := V) (V' := ⟨V.n, V.p, orS V.S b⟩) h4 h1 h2 hl h6⟩
  exact (rd_only (N := fun k => k = g) (grown_only hW rfl) hr fun ad e h0 e2 => hF ad e (by rw [← hb]; exact h0) (e2 ▸ h2)).more hW.size
theorem rv_new (n p : Nat) (hn : n ≤ 1048576) (hp : p ≤ 30) (w : World) :
    Calls Try.prog 29 #[.int .i64 n, .int .i64 p] w fun e w' => ∃ s F, e = .returned (.tuple #[.pointer (some s), .int .i64 0]) ∧ Rv w' s F ⟨n, p, fun _ => false⟩ ∧ (∀ g, F g → w.heap.size ≤ g) ∧ Below w.heap.size w w' :=
  (new_ok n p hn hp w).mono fun e w' ⟨v, g, h1, h2, h3, h4, h5⟩ => ⟨⟨v, 0, none⟩, fun x => x = v ∨ x = g, h1, ⟨v, g, rfl, h4, .inl rfl, .inr rfl, by
    rintro x (rfl | rfl)
    · exact h4.vb.lt
    · exact h4.gb.lt⟩, by rintro x (rfl | rfl) <;> assumption, h5⟩
end
end Go.Proofs.Ytoofhaoaogoomaa
/- Three states with footprints and one block beside them, as one state (names no program). No statement of the seat is proved here. -/
namespace Go.Proofs.Ytoofhaoaogoomaa
open Go.RowKit
set_option linter.unusedVariables false

/-- The footprints lie apart, and within F. -/
structure TriF (d : Nat) (F Fa Fb Fc : Nat → Prop) : Prop where
  ab : ∀ g, Fa g → ¬ Fb g
  ac : ∀ g, Fa g → ¬ Fc g
  bc : ∀ g, Fb g → ¬ Fc g
  da : ¬ Fa d
  db : ¬ Fb d
  dc : ¬ Fc d
  own : F d
  a : ∀ g, Fa g → F g
  b : ∀ g, Fb g → F g
  c : ∀ g, Fc g → F g
theorem TriF.rot {d : Nat} {F Fa Fb Fc : Nat → Prop} (h : TriF d F Fa Fb Fc) : TriF d F Fb Fc Fa :=
  ⟨h.bc, fun g hb ha => h.ab g ha hb, fun g hc ha => h.ac g ha hc, h.db, h.dc, h.da, h.own, h.b, h.c, h.a⟩
def Tri {α β γ : Type} (Sa : World → Addr → (Nat → Prop) → α → Prop) (Sb : World → Addr → (Nat → Prop) → β → Prop) (Sc : World → Addr → (Nat → Prop) → γ → Prop)
    (w : World) (d : Nat) (F : Nat → Prop) (a b c : Addr) (x : α) (y : β) (z : γ) : Prop :=
  ∃ Fa Fb Fc, TriF d F Fa Fb Fc ∧ Sa w a Fa x ∧ Sb w b Fb y ∧ Sc w c Fc z ∧ ∀ g, F g → g < w.heap.size
/-- The same, since a base world: of what was there only blocks of F0 have turned. -/
def TriT {α β γ : Type} (Sa : World → Addr → (Nat → Prop) → α → Prop) (Sb : World → Addr → (Nat → Prop) → β → Prop) (Sc : World → Addr → (Nat → Prop) → γ → Prop)
    (w0 : World) (F0 : Nat → Prop) (d : Nat) (w : World) (a b c : Addr) (x : α) (y : β) (z : γ) : Prop :=
  ∃ F, Tri Sa Sb Sc w d F a b c x y z ∧ (∀ g, F g → F0 g ∨ w0.heap.size ≤ g) ∧ Only F0 w0 w
section
variable {α β γ : Type} {Sa : World → Addr → (Nat → Prop) → α → Prop} {Sb : World → Addr → (Nat → Prop) → β → Prop} {Sc : World → Addr → (Nat → Prop) → γ → Prop}
  {w0 w w' : World} {d : Nat} {F F0 : Nat → Prop} {a b c : Addr} {x : α} {y : β} {z : γ}
theorem Tri.rot (h : Tri Sa Sb Sc w d F a b c x y z) : Tri Sb Sc Sa w d F b c a y z x := by
  obtain ⟨Fa, Fb, Fc, h1, h2, h3, h4, h5⟩ := h
  exact ⟨Fb, Fc, Fa, h1.rot, h3, h4, h2, h5⟩
theorem Tri.lt (h : Tri Sa Sb Sc w d F a b c x y z) : ∀ g, F g → g < w.heap.size := by
  obtain ⟨Fa, Fb, Fc, h1, h2, h3, h4, h5⟩ := h
  exact h5
theorem Tri.own (h : Tri Sa Sb Sc w d F a b c x y z) : F d := by
  obtain ⟨Fa, Fb, Fc, h1, h2, h3, h4, h5⟩ := h
  exact h1.own
theorem Tri.keep (hA : Firm Sa) (hB : Firm Sb) (hC : Firm Sc) (h : Tri Sa Sb Sc w d F a b c x y z) (hk : ∀ g, F g → g ≠ d → w'.heap[g]? = w.heap[g]?) (hs : w.heap.size ≤ w'.heap.size) : Tri Sa Sb Sc w' d F a b c x y z := by
  obtain ⟨Fa, Fb, Fc, h1, h2, h3, h4, h5⟩ := h
  exact ⟨Fa, Fb, Fc, h1, hA.keep h2 fun g hg => hk g (h1.a g hg) fun e => h1.da (e ▸ hg), hB.keep h3 fun g hg => hk g (h1.b g hg) fun e => h1.db (e ▸ hg),
    hC.keep h4 fun g hg => hk g (h1.c g hg) fun e => h1.dc (e ▸ hg), fun g hg => Nat.lt_of_lt_of_le (h5 g hg) hs⟩
theorem Tri.first (hA : Firm Sa) (hB : Firm Sb) (hC : Firm Sc) (h : Tri Sa Sb Sc w d F a b c x y z) : ∃ Fa, Sa w a Fa x ∧ (∀ g, Fa g → F g ∧ g ≠ d) ∧ ∀ {w' : World} {x' : α}, Turned Sa w a Fa w' x' →
    Tri Sa Sb Sc w' d (fun g => F g ∨ (w.heap.size ≤ g ∧ g < w'.heap.size)) a b c x' y z ∧ w'.heap[d]? = w.heap[d]? ∧ Only F w w' := by
  obtain ⟨Fa, Fb, Fc, h1, h2, h3, h4, h5⟩ := h
  refine ⟨Fa, h2, fun g hg => ⟨h1.a g hg, fun e => h1.da (e ▸ hg)⟩, fun {w' x'} ht => ?_⟩
  obtain ⟨Fa', t1, t2, t3⟩ := ht
  have hb := fun g (hg : Fb g) => t3.block g (h5 g (h1.b g hg)) fun ha => h1.ab g ha hg
  have hc := fun g (hg : Fc g) => t3.block g (h5 g (h1.c g hg)) fun ha => h1.ac g ha hg
  refine ⟨⟨Fa', Fb, Fc, ⟨fun g ha hb => ?_, fun g ha hc => ?_, h1.bc, fun hd => ?_, h1.db, h1.dc, .inl h1.own, fun g hg => ?_, fun g hg => .inl (h1.b g hg), fun g hg => .inl (h1.c g hg)⟩, t1, hB.keep h3 hb, hC.keep h4 hc, fun g hg => ?_⟩, t3.block d (h5 d h1.own) h1.da, ?_⟩
  · rcases t2 g ha with h | h
    · exact h1.ab g h hb
    · have := h5 g (h1.b g hb); omega
  · rcases t2 g ha with h | h
    · exact h1.ac g h hc
    · have := h5 g (h1.c g hc); omega
  · rcases t2 d hd with h | h
    · exact h1.da h
    · have := h5 d h1.own; omega
  · rcases t2 g hg with h | h
    · exact .inl (h1.a g h)
    · exact .inr ⟨h, hA.lt t1 g hg⟩
  · rcases hg with h | h
    · have := h5 g h; have := t3.size; omega
    · exact h.2
  · exact ⟨t3.os, t3.tape, t3.output, t3.size, fun g hg hn => t3.block g hg fun ha => hn (h1.a g ha)⟩
theorem TriT.start (h : Tri Sa Sb Sc w d F a b c x y z) : TriT Sa Sb Sc w F d w a b c x y z := ⟨F, h, fun g hg => .inl hg, Only.of_below (Below.refl _ _)⟩
theorem TriT.rot (h : TriT Sa Sb Sc w0 F0 d w a b c x y z) : TriT Sb Sc Sa w0 F0 d w b c a y z x := by
  obtain ⟨F, h1, h2, h3⟩ := h
  exact ⟨F, h1.rot, h2, h3⟩
theorem TriT.only (h : TriT Sa Sb Sc w0 F0 d w a b c x y z) : Only F0 w0 w := by
  obtain ⟨F, h1, h2, h3⟩ := h
  exact h3
theorem TriT.on (hA : Firm Sa) (hB : Firm Sb) (hC : Firm Sc) (h : TriT Sa Sb Sc w0 F0 d w a b c x y z) (hb : Below w.heap.size w w') : TriT Sa Sb Sc w0 F0 d w' a b c x y z ∧ w'.heap[d]? = w.heap[d]? := by
  obtain ⟨F, h1, h2, h3⟩ := h
  exact ⟨⟨F, h1.keep hA hB hC (fun g hg _ => hb.block g (h1.lt g hg)) hb.size, h2, h3.trans (Only.of_below (F := F) hb) h2⟩, hb.block d (h1.lt d h1.own)⟩
/-- What a call does to the first of the three. -/
theorem TriT.first (hA : Firm Sa) (hB : Firm Sb) (hC : Firm Sc) (h : TriT Sa Sb Sc w0 F0 d w a b c x y z) : ∃ Fa, Sa w a Fa x ∧ (∀ g, Fa g → g ≠ d ∧ (F0 g ∨ w0.heap.size ≤ g)) ∧ ∀ {w' : World} {x' : α}, Turned Sa w a Fa w' x' →
    TriT Sa Sb Sc w0 F0 d w' a b c x' y z ∧ w'.heap[d]? = w.heap[d]? := by
  obtain ⟨F, h1, h2, h3⟩ := h
  obtain ⟨Fa, s1, s2, s3⟩ := h1.first hA hB hC
  refine ⟨Fa, s1, fun g hg => ⟨(s2 g hg).2, h2 g (s2 g hg).1⟩, fun {w' x'} ht => ?_⟩
  obtain ⟨t1, t2, t3⟩ := s3 ht
  refine ⟨⟨_, t1, fun g hg => ?_, h3.trans t3 h2⟩, t2⟩
  rcases hg with h | h
  · exact h2 g h
  · have := h3.size; exact .inr (by omega)
/-- The block beside them is written. -/
theorem TriT.set (hA : Firm Sa) (hB : Firm Sb) (hC : Firm Sc) (h : TriT Sa Sb Sc w0 F0 d w a b c x y z) (ho : Only (fun g => g = d) w w') : TriT Sa Sb Sc w0 F0 d w' a b c x y z := by
  obtain ⟨F, h1, h2, h3⟩ := h
  exact ⟨F, h1.keep hA hB hC (fun g hg hn => ho.block g (h1.lt g hg) hn) ho.size, h2, h3.trans ho fun g hg => hg ▸ h2 d h1.own⟩
end
end Go.Proofs.Ytoofhaoaogoomaa
/- Calls on one of three states (names no program). No statement of the seat is proved here. -/
namespace Go.Proofs.Ytoofhaoaogoomaa
open Go.RowKit
set_option linter.unusedVariables false

section
variable {P : Program} {α β γ : Type} {Sa : World → Addr → (Nat → Prop) → α → Prop} {Sb : World → Addr → (Nat → Prop) → β → Prop} {Sc : World → Addr → (Nat → Prop) → γ → Prop}
  {w0 w : World} {d : Nat} {F0 : Nat → Prop} {a b c : Addr} {x x' : α} {y y' : β} {z z' : γ} {f : Nat} {args : Array Value} {E : Ending → Prop} {R : Ending → World → Prop}
theorem TriT.call1 (hA : Firm Sa) (hB : Firm Sb) (hC : Firm Sc) (h : TriT Sa Sb Sc w0 F0 d w a b c x y z)
    (hc : ∀ F, Sa w a F x → (∀ g, F g → g ≠ d ∧ (F0 g ∨ w0.heap.size ≤ g)) → Calls P f args w fun e w' => E e ∧ Turned Sa w a F w' x') :
    Calls P f args w fun e w' => E e ∧ TriT Sa Sb Sc w0 F0 d w' a b c x' y z ∧ w'.heap[d]? = w.heap[d]? := by
  obtain ⟨F, h1, h2, h3⟩ := h.first hA hB hC
  exact (hc F h1 h2).mono fun e w' ⟨he, ht⟩ => ⟨he, h3 ht⟩
theorem TriT.call2 (hA : Firm Sa) (hB : Firm Sb) (hC : Firm Sc) (h : TriT Sa Sb Sc w0 F0 d w a b c x y z)
    (hc : ∀ F, Sb w b F y → (∀ g, F g → g ≠ d ∧ (F0 g ∨ w0.heap.size ≤ g)) → Calls P f args w fun e w' => E e ∧ Turned Sb w b F w' y') :
    Calls P f args w fun e w' => E e ∧ TriT Sa Sb Sc w0 F0 d w' a b c x y' z ∧ w'.heap[d]? = w.heap[d]? :=
  (h.rot.call1 hB hC hA hc).mono fun e w' ⟨he, ht, hd⟩ => ⟨he, ht.rot.rot, hd⟩
theorem TriT.call3 (hA : Firm Sa) (hB : Firm Sb) (hC : Firm Sc) (h : TriT Sa Sb Sc w0 F0 d w a b c x y z)
    (hc : ∀ F, Sc w c F z → (∀ g, F g → g ≠ d ∧ (F0 g ∨ w0.heap.size ≤ g)) → Calls P f args w fun e w' => E e ∧ Turned Sc w c F w' z') :
    Calls P f args w fun e w' => E e ∧ TriT Sa Sb Sc w0 F0 d w' a b c x y z' ∧ w'.heap[d]? = w.heap[d]? :=
  (h.rot.rot.call1 hC hA hB hc).mono fun e w' ⟨he, ht, hd⟩ => ⟨he, ht.rot, hd⟩
/-- .. that only read. -/
theorem TriT.read (hA : Firm Sa) (hB : Firm Sb) (hC : Firm Sc) (h : TriT Sa Sb Sc w0 F0 d w a b c x y z) (hc : Calls P f args w fun e w' => R e w' ∧ Below w.heap.size w w') :
    Calls P f args w fun e w' => R e w' ∧ TriT Sa Sb Sc w0 F0 d w' a b c x y z ∧ w'.heap[d]? = w.heap[d]? ∧ Below w.heap.size w w' :=
  hc.mono fun e w' ⟨he, hb⟩ => ⟨he, (h.on hA hB hC hb).1, (h.on hA hB hC hb).2, hb⟩
theorem TriT.get1 (h : TriT Sa Sb Sc w0 F0 d w a b c x y z) : ∃ F, Sa w a F x := by
  obtain ⟨F, ⟨Fa, Fb, Fc, _, h1, h2, h3, _⟩, _⟩ := h
  exact ⟨Fa, h1⟩
theorem TriT.get2 (h : TriT Sa Sb Sc w0 F0 d w a b c x y z) : ∃ F, Sb w b F y := h.rot.get1
theorem TriT.get3 (h : TriT Sa Sb Sc w0 F0 d w a b c x y z) : ∃ F, Sc w c F z := h.rot.rot.get1
end
end Go.Proofs.Ytoofhaoaogoomaa
