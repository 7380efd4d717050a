/- The landed tree: Fresh. No statement of the seat is proved here. -/
import Derived.Test.YtiomfkhblmmdoaaTrLandF
import Derived.Deep.QuietTactic
import Derived.BigQuiet
import Derived.LaidEqlPtr
namespace Go.Proofs.Ytiomfkhblmmdoaa
open Go.RowKit
set_option linter.unusedVariables false
set_option linter.unusedSimpArgs false
set_option maxRecDepth 100000

/-- Two pointers compared, in a region that draws its order. -/
theorem quiet_eql_ptr {P : Program} {C : World → Prop} {next : Act → Prop} {o : Oper} {a a' : Act} (ty u : TypeId) (x y : Operand) (ho : o.op = .binOp .eql ty x y u) (X Y : Option Addr) (hx : a.eval x = .pointer X) (hy : a.eval y = .pointer Y)
    (r : Bool) (h : ∀ w, C w → (binOp .eql ty (.pointer X) (.pointer Y)).run P w = .ok (.bool r) w) (ha : a.put o.dst (.bool r) = a') (hn : next a') : o.quiet P a C next := by
  subst ha
  refine ⟨.bool r, fun w hw => ?_, hn⟩
  unfold Oper.quietAt execOp
  simp [ho, hx, hy, eqGuard, h w hw]
  exact ⟨rfl, rfl⟩
theorem run_eql_ptr_none {P : Program} (w : World) {tp te : TypeId} (a : Addr) (hp : P.underlying tp = some (.pointer te)) :
    (binOp .eql tp (.pointer none) (.pointer (some a))).run P w = .ok (.bool false) w := by
  have h : ∀ d : Nat, (Op.equalIn (d + 1) tp (.pointer none) (.pointer (some a))).run P w = .ok false w := fun d => by
    simp [Op.equalIn, run_underlying hp]
  simp only [binOp]
  simp [Op.equal, Op.maxDepth, h 9999]
theorem node_ptr : Try.prog.underlying 53 = some (.pointer 61) := Try.underlying53
theorem node_info : ∃ j, Try.prog.info? 61 = some j ∧ j.size ≠ 0 := by
  have h : (Try.prog.info? 61).map (·.size) = some 6 := by kernel_rfl
  cases hi : Try.prog.info? 61 with
  | none => rw [hi] at h; cases h
  | some j =>
    rw [hi] at h
    injection h with h
    have h : j.size = 6 := h
    exact ⟨j, rfl, by rw [h]; decide⟩
theorem seek_blk {w : World} {k : List UInt8} {b : Nat} : ∀ {s : T18} {v : Value}, Lies18 w v s → s.seek k = some b → ∃ cs, Blk w b 61 cs
  | .nil, _, _, h => by cases h
  | .node a l p r, v, ⟨_, vl, vr, hb, hl, hr⟩, h => by
    rw [T18.seek] at h
    split at h
    · injection h with h
      subst h
      exact ⟨_, hb⟩
    · split at h
      · exact seek_blk hl h
      · exact seek_blk hr h
/-- A node's key is one of the tree's. -/
theorem has_key {w : World} {a : Nat} {p : PT} {A B : Option Addr} {C D : Int} (hk : Blk w a 61 #[.string (st p.1), .string (st p.2), .pointer A, .pointer B, .int .i64 C, .int .i64 D]) : ∀ {s : T18} {v : Value}, Lies18 w v s → s.has a → ∃ x ∈ s.flat, x.1 = p.1
  | .nil, _, _, h => h.elim
  | .node b l q r, v, ⟨_, vl, vr, hb, hl, hr⟩, h => by
    rcases h with rfl | h | h
    · exact ⟨q, by simp [T18.flat], st_inj18 (Option.some.inj ((hb.cell 0).symm.trans (hk.cell 0)))⟩
    · obtain ⟨x, h1, h2⟩ := has_key hk hl h
      exact ⟨x, by simp [T18.flat, h1], h2⟩
    · obtain ⟨x, h1, h2⟩ := has_key hk hr h
      exact ⟨x, by simp [T18.flat, h1], h2⟩
theorem seek_has {w : World} {a : Nat} {p : PT} {A B : Option Addr} {C D : Int} (hk : Blk w a 61 #[.string (st p.1), .string (st p.2), .pointer A, .pointer B, .int .i64 C, .int .i64 D]) : ∀ {s : T18} {v : Value}, Lies18 w v s → OrdL s.flat → s.has a → s.seek p.1 = some a
  | .nil, _, _, _, h => h.elim
  | .node b l q r, v, ⟨_, vl, vr, hb, hl, hr⟩, ho, h => by
    have ho' : OrdL (l.flat ++ q :: r.flat) := ho
    obtain ⟨o1, o2, o3, o4⟩ := ho'.parts
    rcases h with rfl | h | h
    · rw [T18.seek, if_pos (st_inj18 (Option.some.inj ((hb.cell 0).symm.trans (hk.cell 0))))]
    · obtain ⟨x, h1, h2⟩ := has_key hk hl h
      have hlt := o3 x h1
      rw [h2] at hlt
      rw [T18.seek, if_neg fun e => tx_ne hlt e.symm, if_pos hlt]
      exact seek_has hk hl o1 h
    · obtain ⟨x, h1, h2⟩ := has_key hk hr h
      have hlt := o4 x h1
      rw [h2] at hlt
      rw [T18.seek, if_neg fun e => tx_ne hlt e, if_neg (tx_asymm hlt)]
      exact seek_has hk hr o2 h
/-- What the visitor of Fresh has: the other map's root at tb, the number so far at fb. -/
structure Cnt18 (w W : World) (tb fb : Nat) (Y : Option Addr) (c : Int) : Prop where
  lo : w.heap.size ≤ tb
  lt : tb < fb
  old : Below w.heap.size w W
  root : Blk W tb 53 #[.pointer Y]
  num : Blk W fb 3 #[.int .i64 c]
theorem Cnt18.drew {w W : World} {tb fb : Nat} {Y : Option Addr} {c : Int} (h : Cnt18 w W tb fb Y c) (q : Nat) : Cnt18 w (W.drewN q) tb fb Y c := ⟨h.lo, h.lt, below_drewN h.old q, h.root, h.num⟩
theorem Cnt18.more {w W : World} {tb fb : Nat} {Y : Option Addr} {c : Int} (h : Cnt18 w W tb fb Y c) : Cnt18 w (W.setCell ⟨fb, 0, none⟩ (.int .i64 (c + 1))) tb fb Y (c + 1) := by
  have hg := grownBy_cellF W fb 0 (.int .i64 (c + 1))
  have h1 := h.lo
  have h2 := h.lt
  have h3 := h.num.set_ 0 (.int .i64 (c + 1))
  exact ⟨h1, h2, ⟨hg.os.trans h.old.os, hg.tape.trans h.old.tape, hg.output.trans h.old.output, Nat.le_trans h.old.size hg.size, fun k hk => (hg.block k (Nat.lt_of_lt_of_le hk h.old.size) fun e => by injection e with e; omega).trans (h.old.block k hk)⟩, h.root.same (hg.block tb h.root.lt fun e => by injection e with e; omega), by simpa using h3⟩
set_option maxHeartbeats 4000000 in
theorem count18 (w W : World) (tb fb : Nat) (Y : Option Addr) (c : Int) (s : T18) (h : Cnt18 w W tb fb Y c) (hs : Lies18 w (.pointer Y) s) (a : Nat) (p : PT) (A B : Option Addr) (C D : Int) (hk : ∀ V, Below w.heap.size w V → Blk V a 61 #[.string (st p.1), .string (st p.2), .pointer A, .pointer B, .int .i64 C, .int .i64 D]) (c0 : 0 ≤ c) (c1 : c ≤ 1000) :
    Calls Try.prog 37 #[.pointer (some ⟨a, 0, none⟩), .pointer (some ⟨tb, 0, none⟩), .pointer (some ⟨fb, 0, none⟩)] W fun e w' => (s.seek p.1 = some a ∧ e = .returned (.bool false) ∧ Cnt18 w w' tb fb Y c) ∨ (s.seek p.1 ≠ some a ∧ e = .returned (.bool true) ∧ Cnt18 w w' tb fb Y (c + 1)) := by
  have t0 : W.cell? ⟨tb, 0, none⟩ = some (.pointer Y) := h.root.cell 0
  have p0 : W.cell? ⟨a, 0, none⟩ = some (.string (st p.1)) := (hk W h.old).cell 0
  have f0 : W.cell? ⟨fb, 0, none⟩ = some (.int .i64 c) := h.num.cell 0
  have f1 : W.frozen? ⟨fb, 0, none⟩ = false := h.num.frozen 0
  have KF := Lib.hid (fun q => find18 Y s p.1 (W.drewN q) (hs.below (below_drewN h.old q)))
  have H := Lib.hid h
  have hw : IntKind.i64.wrap (c + 1) = c + 1 := IntWalk.i64_in _ (by omega)
  obtain ⟨G, hG⟩ : ∃ G, s.seek p.1 = G := ⟨_, rfl⟩
  have HE := Lib.hid (show ∀ b, G = some b → ¬ b = a → ∀ n, (binOp .eql 53 (.pointer (some ⟨b, 0, none⟩)) (.pointer (some ⟨a, 0, none⟩))).run Try.prog (W.drewN n) = .ok (.bool false) (W.drewN n) from fun b hb hba n => by
    obtain ⟨j, hj, hjz⟩ := node_info
    obtain ⟨cs, hcs⟩ := seek_blk (hs.below (below_drewN h.old n)) (hG.trans hb)
    exact run_eql_ptr_other (W.drewN n) node_ptr hj hjz (fun e => hba (by injection e)) hcs (hk _ (below_drewN h.old n)))
  rw [hG] at KF
  rw [hG]
  clear h hs hk hG
  by_cases hGa : G = some a
  · subst hGa
    obtain ⟨j, hj, hjz⟩ := node_info
    have EQ := Lib.hid (fun n => run_eql_ptr_same (W.drewN n) (tp := 53) ⟨a, 0, none⟩ node_ptr hj)
    clear hj hjz
    rw [show ptr18 (some a) = .pointer (some ⟨a, 0, none⟩) from rfl] at KF
    go_enter Try.func37, Try.ntmps37
    go_wp2_with fail
    refine wp_region_quiet_lit (by kernel_rfl) (by kernel_rfl) ?_
    repeat (go_big_quiet_step ((go_at_call 27; exact Calls.quiet_of_same (KF.out _))))
    go_big_quiet_want
    refine quiet_eql_ptr 53 53 (.tmp 11) (.tmp 12) rfl _ _ rfl rfl true (fun V hV => by obtain ⟨n, rfl⟩ := hV; exact EQ.out n) rfl ?_
    go_big_quiet_on
    simp only [Act.put, List.setIfInBounds_toArray, List.set_cons_zero, List.set_cons_succ]
    refine wpQuiet_nil ?_
    rintro _ ⟨nq, rfl⟩
    have HQ := Lib.hid (H.out.drew nq)
    go_wp2_with fail
    go_ret
    exact .inl ⟨trivial, rfl, HQ.out⟩
  · have HN := Lib.hid hGa
    cases G with
    | none =>
      have EQ := Lib.hid (fun n => run_eql_ptr_none (W.drewN n) (tp := 53) ⟨a, 0, none⟩ node_ptr)
      rw [show ptr18 none = .pointer none from rfl] at KF
      go_enter Try.func37, Try.ntmps37
      go_wp2_with fail
      refine wp_region_quiet_lit (by kernel_rfl) (by kernel_rfl) ?_
      repeat (go_big_quiet_step ((go_at_call 27; exact Calls.quiet_of_same (KF.out _))))
      go_big_quiet_want
      refine quiet_eql_ptr 53 53 (.tmp 11) (.tmp 12) rfl _ _ rfl rfl false (fun V hV => by obtain ⟨n, rfl⟩ := hV; exact EQ.out n) rfl ?_
      go_big_quiet_on
      simp only [Act.put, List.setIfInBounds_toArray, List.set_cons_zero, List.set_cons_succ]
      refine wpQuiet_nil ?_
      rintro _ ⟨nq, rfl⟩
      have HQ := Lib.hid (H.out.drew nq).more
      go_wp2_with fail
      go_ret
      exact .inr ⟨HN.out, rfl, HQ.out⟩
    | some b =>
      have hba : ¬ b = a := fun e => hGa (by rw [e])
      clear hGa
      have EQ := Lib.hid (HE.out b rfl hba)
      rw [show ptr18 (some b) = .pointer (some ⟨b, 0, none⟩) from rfl] at KF
      go_enter Try.func37, Try.ntmps37
      go_wp2_with fail
      refine wp_region_quiet_lit (by kernel_rfl) (by kernel_rfl) ?_
      repeat (go_big_quiet_step ((go_at_call 27; exact Calls.quiet_of_same (KF.out _))))
      go_big_quiet_want
      refine quiet_eql_ptr 53 53 (.tmp 11) (.tmp 12) rfl _ _ rfl rfl false (fun V hV => by obtain ⟨n, rfl⟩ := hV; exact EQ.out n) rfl ?_
      go_big_quiet_on
      simp only [Act.put, List.setIfInBounds_toArray, List.set_cons_zero, List.set_cons_succ]
      refine wpQuiet_nil ?_
      rintro _ ⟨nq, rfl⟩
      have HQ := Lib.hid (H.out.drew nq).more
      go_wp2_with fail
      go_ret
      exact .inr ⟨HN.out, rfl, HQ.out⟩
set_option maxHeartbeats 4000000 in
theorem walk18 (tb fb : Nat) (Y : Option Addr) (s : T18) (w : World) (hs : Lies18 w (.pointer Y) s) (hso : OrdL s.flat) : ∀ (t : T18) (X : Option Addr) (W : World) (c : Int), Lies18 w (.pointer X) t → Cnt18 w W tb fb Y c → 0 ≤ c → c + t.flat.length ≤ 1000 →
    Calls Try.prog 36 #[.pointer X, .func (.func 37) #[] #[.pointer (some ⟨tb, 0, none⟩), .pointer (some ⟨fb, 0, none⟩)]] W fun e w' => e = .returned (.tuple #[]) ∧ ∃ f : Nat, f ≤ t.fr s.has ∧ f ≤ t.flat.length ∧ Cnt18 w w' tb fb Y (c + f) := by
  intro t
  induction t with
  | nil =>
    intro X W c h hc c0 c1
    obtain rfl : X = none := by injection h
    have HC := Lib.hid hc
    clear h hc
    go_enter Try.func36, Try.ntmps36
    go_wp2_with fail
    go_end0
    exact ⟨rfl, 0, Nat.zero_le _, Nat.zero_le _, by simpa using HC.out⟩
  | node a l p r ihl ihr =>
    intro X W c h hc c0 c1
    have HH := Lib.hid h
    obtain ⟨Xl, Xr, hX, hO⟩ := h.open
    injection hX with hX
    subst hX
    obtain ⟨hbl, hl, hr⟩ := hO w (Below.refl _ _)
    have hlen : c + (l.flat.length + (r.flat.length + 1)) ≤ 1000 := by
      simp only [T18.flat, List.length_append, List.length_cons] at c1
      omega
    have HK := Lib.hid (fun V hV => (hO V hV).1)
    have KC := Lib.hid (count18 w W tb fb Y c s hc hs a p Xl Xr _ _ HK.out c0 (by omega))
    have IHL := Lib.hid (fun V c (hV : Cnt18 w V tb fb Y c) h0 h1 => ihl Xl V c hl hV h0 h1)
    have IHR := Lib.hid (fun V c (hV : Cnt18 w V tb fb Y c) h0 h1 => ihr Xr V c hr hV h0 h1)
    have HSK := Lib.hid (fun hin : s.has a => seek_has hbl hs hso hin)
    have HC0 := Lib.hid (And.intro c0 hlen)
    clear h hO hbl hl hr ihl ihr hc c0 c1 hlen
    go_enter Try.func36, Try.ntmps36
    go_wp2_with fail
    refine KC.out.mono ?_
    rintro e w1 (⟨hin, rfl, hc1⟩ | ⟨hout, rfl, hc1⟩)
    · have HC1 := Lib.hid hc1
      clear hc1 hin
      go_wp2_with fail
      go_end0
      exact ⟨rfl, 0, Nat.zero_le _, Nat.zero_le _, by simpa using HC1.out⟩
    · have hna : ¬ s.has a := fun h => hout (HSK.out h)
      have h1 : out18 s.has a = 1 := by unfold out18; exact if_neg hna
      have H1 := Lib.hid h1
      have KL := Lib.hid (IHL.out w1 (c + 1) hc1 (by have := HC0.out.1; omega) (by have := HC0.out.2; omega))
      have k1 := HK.out w1 hc1.old
      have c2 : w1.cell? ⟨a, 2, none⟩ = some (.pointer Xl) := k1.cell 2
      clear hc1 hout hna h1 k1
      go_wp2_with fail
      refine KL.out.mono ?_
      rintro e w2 ⟨rfl, f1, hf1, hf1', hc2⟩
      have KR := Lib.hid (IHR.out w2 (c + 1 + f1) hc2 (by have := HC0.out.1; omega) (by have := HC0.out.2; omega))
      have k2 := HK.out w2 hc2.old
      have c3 : w2.cell? ⟨a, 3, none⟩ = some (.pointer Xr) := k2.cell 3
      have HF1 := Lib.hid (And.intro hf1 hf1')
      clear hc2 k2 hf1 hf1'
      go_wp2_with fail
      refine KR.out.mono ?_
      rintro e w3 ⟨rfl, f2, hf2, hf2', hc3⟩
      have HF2 := Lib.hid (And.intro hf2 (And.intro hf2' hc3))
      clear hf2 hf2' hc3
      go_wp2_with fail
      go_end0
      refine ⟨rfl, 1 + f1 + f2, ?_, ?_, ?_⟩
      · have := HF1.out.1
        have := HF2.out.1
        have := H1.out
        simp only [T18.fr]
        omega
      · have := HF1.out.2
        have := HF2.out.2.1
        simp only [T18.flat, List.length_append, List.length_cons]
        omega
      · have := HF2.out.2.2
        rw [show c + ((1 + f1 + f2 : Nat) : Int) = c + 1 + f1 + f2 by omega]
        exact this
theorem alloc_size18 (w : World) (o : Obj) : (w.alloc o).heap.size = w.heap.size + 1 := by simp
set_option maxHeartbeats 4000000 in
theorem fresh18 (u v : Value) (t s : T18) (w : World) (hu : Root18 w u t) (hv : Root18 w v s) (hso : OrdL s.flat) (hl : t.flat.length ≤ 1000) :
    Calls Try.prog 24 #[u, v] w fun e w' => ∃ f : Nat, e = .returned (.int .i64 f) ∧ f ≤ t.fr s.has ∧ Below w.heap.size w w' := by
  obtain ⟨X, hX, hTX⟩ := root_top hu
  obtain ⟨Y, hY, hTY⟩ := root_top hv
  obtain ⟨w1, hw1, hb1, hk1⟩ : ∃ w1, w.alloc (.cells #[.pointer Y] 53) = w1 ∧ Below w.heap.size w w1 ∧ Blk w1 w.heap.size 53 #[.pointer Y] := ⟨_, rfl, (Below.refl w.heap.size w).alloc (Nat.le_refl _) _, Blk.new w _ _⟩
  obtain ⟨w2, hw2, hb2, hk2⟩ : ∃ w2, w1.alloc (.cells #[.int .i64 0] 3) = w2 ∧ Below w1.heap.size w1 w2 ∧ Blk w2 w1.heap.size 3 #[.int .i64 0] := ⟨_, rfl, (Below.refl w1.heap.size w1).alloc (Nat.le_refl _) _, Blk.new w1 _ _⟩
  have hb12 : Below w.heap.size w w2 := hb1.trans (hb2.mono hb1.size)
  have hC : Cnt18 w w2 w.heap.size w1.heap.size Y 0 := ⟨Nat.le_refl _, hk1.lt, hb12, hk1.below hb2 hk1.lt, hk2⟩
  obtain ⟨tb, htb⟩ : ∃ tb, w.heap.size = tb := ⟨_, rfl⟩
  obtain ⟨fb, hfb⟩ : ∃ fb, w1.heap.size = fb := ⟨_, rfl⟩
  rw [htb, hfb] at hC
  have HTY := Lib.hid (hTY w (Below.refl _ _))
  have HTX := Lib.hid (hTX w2 hb12)
  have KW := Lib.hid (walk18 tb fb Y s w hY hso t X w2 0 hX hC (Int.le_refl _) (by omega))
  have hmf : ∀ (fn : Fn) (first cap : Array Value) (w : World), (Instr.makeFunc fn first cap).run Try.prog w = .ok (.func fn first cap) w := fun _ _ _ _ => rfl
  have hfb2 : tb + 1 = fb := by rw [← htb, ← hfb, ← hw1, alloc_size18]
  have HW := Lib.hid (And.intro (And.intro hw1 hw2) (And.intro htb hfb2))
  clear hfb2 hu hv hso hl hX hY hTX hTY hw1 hb1 hk1 hw2 hb2 hk2 hb12 hC htb hfb
  go_enter Try.func24, Try.ntmps24
  go_wp2_with fail
  refine HTY.out.mono ?_
  rintro e w3 ⟨rfl, hw3⟩
  obtain rfl : w = w3 := hw3.symm
  go_upto_region 2 with fail
  rw [HW.out.1.1, HW.out.2.1, HW.out.2.2, HW.out.1.2]
  go_wp2_with fail
  refine HTX.out.mono ?_
  rintro e w4 ⟨rfl, hw4⟩
  obtain rfl : w2 = w4 := hw4.symm
  go_wp2_with fail
  refine KW.out.mono ?_
  rintro e w5 ⟨rfl, f, hf, -, hc⟩
  rw [Int.zero_add] at hc
  have f0 : w5.cell? ⟨fb, 0, none⟩ = some (.int .i64 f) := hc.num.cell 0
  have HF := Lib.hid (And.intro hf hc.old)
  clear hf hc
  go_wp2_with fail
  go_ret
  exact ⟨f, rfl, HF.out.1, HF.out.2⟩
end Go.Proofs.Ytiomfkhblmmdoaa
