/- The reference's Newer (cellarageref10). No statement of the seat is proved here. -/
import Derived.Test.YtmfbidohmkoeeaaSlRefB
namespace Go.Proofs.Ytmfbidohmkoeeaa
open Go.RowKit
set_option linter.unusedVariables false
set_option linter.unusedSimpArgs false

theorem results_cell_tmp2 {fn : Func} {p u v : Tmp} {ty : TypeId} (h : fn.results = #[.cell p ty, .tmp u, .tmp v]) (tmps : Array Value) (P : Program) (w : World) :
    (results fn tmps).run P w = ((asAddr (tmps.getD p undef)).run P w).andThen fun a w₁ => ((loadVar ty a).run P w₁).andThen fun x w₂ => .ok (.tuple #[x, tmps.getD u undef, tmps.getD v undef]) w₂ := by
  simp only [results, h]
  simp [Sem.run_bind, Result.andThen]
theorem results_slot_tmp2 {P : Program} {fn : Func} {p u v : Tmp} {ty : TypeId} (h : fn.results = #[.cell p ty, .tmp u, .tmp v]) (tmps : Array Value) (w : World) (g : Nat) (t : TypeId) (cs : Array Value) (fr : Nat × Nat) (d : TypeDesc)
    (hp : tmps.getD p undef = .pointer (some ⟨g, 0, none⟩)) (hg : w.heap[g]? = some (.cells cs t fr))
    (hu : P.underlying ty = some d) (hd : (match d with | .struct _ | .array _ _ => true | _ => false) = true) (hi : (P.info? ty).map (·.size) = some cs.size) (x y : Value) (hx : tmps.getD u undef = x) (hy : tmps.getD v undef = y) :
    (results fn tmps).run P w = .ok (.tuple #[.agg cs, x, y]) w := by
  rw [results_cell_tmp2 h, hp, hx, hy]
  simp [asAddr, Result.andThen, run_loadVar_row w g t ty cs fr d hg hu hd hi]
theorem rtake_at (A : Option Addr) (k c : Nat) (b : List UInt8) (hl : b.length = k) (hk : k ≤ c) (hc : c ≤ maxLen ∧ k ≤ 140737488351232) (w0 : World) (hr : Rd w0 w0.heap.size A b) (s : SlT) (e : Nat) (h : takeS b = (s, e)) :
    ∀ W, Below w0.heap.size w0 W → Calls Try.prog 13 #[.slice A k c] W fun e' w' => e' = .returned (.tuple #[.agg #[.int .u64 s.g, .int .u8 s.a, .int .u32 s.z, .int .u32 s.u], .int .i64 e]) ∧ Below w0.heap.size w0 w' ∧ Below W.heap.size W w' := fun W hb =>
  (rtake_any A k c b hl hk hc W ((hr.below hb).more hb.size)).mono fun e' w' ⟨h1, h2⟩ => ⟨by rw [h1, h]; rfl, hb.trans (h2.mono hb.size), h2⟩
set_option maxRecDepth 100000 in
set_option maxHeartbeats 2000000 in
theorem rnewer_nn (A : Option Addr) (k c : Nat) (a : List UInt8) (B : Option Addr) (l m : Nat) (b : List UInt8) (w : World) (x y : SlT)
    (TA : ∀ W, Below w.heap.size w W → Calls Try.prog 13 #[.slice A k c] W fun e' w' => e' = .returned (.tuple #[.agg #[.int .u64 x.g, .int .u8 x.a, .int .u32 x.z, .int .u32 x.u], .int .i64 100]) ∧ Below w.heap.size w w' ∧ Below W.heap.size W w')
    (TB : ∀ W, Below w.heap.size w W → Calls Try.prog 13 #[.slice B l m] W fun e' w' => e' = .returned (.tuple #[.agg #[.int .u64 y.g, .int .u8 y.a, .int .u32 y.z, .int .u32 y.u], .int .i64 100]) ∧ Below w.heap.size w w' ∧ Below W.heap.size W w') :
    Calls Try.prog 15 #[.slice A k c, .slice B l m] w fun e' w' => e' = .returned (.tuple #[slZ.v, .int .i64 0, .int .i64 100]) ∧ Below w.heap.size w w' := by
  obtain ⟨xg, xa, xz, xu⟩ := x
  obtain ⟨yg, ya, yz, yu⟩ := y
  simp only at *
  have TA := Lib.hid TA
  have TB := Lib.hid TB
  obtain ⟨d, hd⟩ : ∃ d, w.heap.size = d := ⟨_, rfl⟩
  obtain ⟨w1, hw1⟩ : ∃ w1, w.alloc (.cells #[.int .u64 0, .int .u8 0, .int .u32 0, .int .u32 0] 25) = w1 := ⟨_, rfl⟩
  have H1 := Lib.hid (show Blk w1 d 25 #[.int .u64 0, .int .u8 0, .int .u32 0, .int .u32 0] ∧ Below w.heap.size w w1 from ⟨by rw [← hw1, ← hd]; exact Blk.new w _ _, hw1 ▸ (Below.refl _ _).alloc (Nat.le_refl _) _⟩)
  have HW := Lib.hid (And.intro hw1 hd)
  clear hw1 hd
  go_enter Try.func15, Try.ntmps15
  go_upto_region 1 with fail
  rw [HW.out.1, HW.out.2]
  go_wp2_with fail
  refine (TA.out _ H1.out.2).mono ?_
  rintro e' w2 ⟨rfl, hb, hb2⟩
  obtain ⟨p, hp⟩ : ∃ p, w2.heap.size = p := ⟨_, rfl⟩
  obtain ⟨w3, hw3⟩ : ∃ w3, w2.alloc (.cells #[.int .u64 xg, .int .u8 xa, .int .u32 xz, .int .u32 xu] 25) = w3 := ⟨_, rfl⟩
  have hb3 : Below w2.heap.size w2 w3 := hw3 ▸ (Below.refl _ _).alloc (Nat.le_refl _) _
  have H3 := Lib.hid (show Blk w3 d 25 #[.int .u64 0, .int .u8 0, .int .u32 0, .int .u32 0] ∧ Blk w3 p 25 #[.int .u64 xg, .int .u8 xa, .int .u32 xz, .int .u32 xu] ∧ Below w.heap.size w w3 ∧ d < p from by
    have k1 := H1.out.1.below hb2 H1.out.1.lt
    exact ⟨k1.below hb3 k1.lt, by rw [← hw3, ← hp]; exact Blk.new w2 _ _, hb.trans (hb3.mono hb.size), by rw [← hp]; exact k1.lt⟩)
  have HW3 := Lib.hid (And.intro hw3 hp)
  clear hb hb2 hp hw3 hb3 H1
  go_upto_region 2 with fail
  rw [HW3.out.1, HW3.out.2]
  go_wp2_with fail
  refine (TB.out _ H3.out.2.2.1).mono ?_
  rintro e' w4 ⟨rfl, hb, hb2⟩
  obtain ⟨q, hp⟩ : ∃ p, w4.heap.size = p := ⟨_, rfl⟩
  obtain ⟨w5, hw3⟩ : ∃ w3, w4.alloc (.cells #[.int .u64 yg, .int .u8 ya, .int .u32 yz, .int .u32 yu] 25) = w3 := ⟨_, rfl⟩
  have hb3 : Below w4.heap.size w4 w5 := hw3 ▸ (Below.refl _ _).alloc (Nat.le_refl _) _
  have H5 := Lib.hid (show Blk w5 d 25 #[.int .u64 0, .int .u8 0, .int .u32 0, .int .u32 0] ∧ Blk w5 p 25 #[.int .u64 xg, .int .u8 xa, .int .u32 xz, .int .u32 xu] ∧ Blk w5 q 25 #[.int .u64 yg, .int .u8 ya, .int .u32 yz, .int .u32 yu] ∧ Below w.heap.size w w5 from by
    have k1 := H3.out.1.below hb2 H3.out.1.lt
    have k2 := H3.out.2.1.below hb2 H3.out.2.1.lt
    exact ⟨k1.below hb3 k1.lt, k2.below hb3 k2.lt, by rw [← hw3, ← hp]; exact Blk.new w4 _ _, hb.trans (hb3.mono hb.size)⟩)
  have HW5 := Lib.hid (And.intro hw3 hp)
  have hdd := HW.out.2
  clear hb hb2 hp hw3 hb3 H3 TA TB
  go_upto_region 3 with fail
  rw [HW5.out.1, HW5.out.2]
  have c0 := H5.out.2.1.cell 0
  have c1 := H5.out.2.1.cell 1
  have c2 := H5.out.2.1.cell 2
  have c3 := H5.out.2.1.cell 3
  have e0 := H5.out.2.2.1.cell 0
  have e1 := H5.out.2.2.1.cell 1
  have e2 := H5.out.2.2.1.cell 2
  have e3 := H5.out.2.2.1.cell 3
  have hc0 := H5.out.1.cell 0
  have hc1 := H5.out.1.cell 1
  have hc2 := H5.out.1.cell 2
  have hc3 := H5.out.1.cell 3
  have hf0 := H5.out.1.frozen 0
  have hf1 := H5.out.1.frozen 1
  have hf2 := H5.out.1.frozen 2
  have hf3 := H5.out.1.frozen 3
  have HD := Lib.hid hdd
  clear hdd
  go_wp2_with fail
  have hx : Blk _ d 25 (slcs slZ).toArray := set4 H5.out.1
  have hy := H5.out.2.2.2.grown (gby4 w5 d (.int .u64 slZ.g) (.int .u8 slZ.a) (.int .u32 slZ.z) (.int .u32 slZ.u)) H5.out.2.2.2.size fun k hk => by injection hk with hk; have := HD.out; omega
  clear c0 c1 c2 c3 e0 e1 e2 e3 hc0 hc1 hc2 hc3 hf0 hf1 hf2 hf3
  obtain ⟨fs, hfs⟩ := slot_desc
  (try simp only [Exit.inBlock, Exit.then])
  refine bodyPost_ret (v := .tuple #[slZ.v, .int .i64 0, .int .i64 100]) ?_ rfl ⟨rfl, hy⟩
  exact results_slot_tmp2 rfl _ _ d 25 _ (0, 0) _ rfl hx hfs rfl slot_size4 _ _ rfl rfl
set_option maxRecDepth 100000 in
set_option maxHeartbeats 2000000 in
theorem rnewer_ny (A : Option Addr) (k c : Nat) (a : List UInt8) (B : Option Addr) (l m : Nat) (b : List UInt8) (w : World) (x y : SlT)
    (TA : ∀ W, Below w.heap.size w W → Calls Try.prog 13 #[.slice A k c] W fun e' w' => e' = .returned (.tuple #[.agg #[.int .u64 x.g, .int .u8 x.a, .int .u32 x.z, .int .u32 x.u], .int .i64 100]) ∧ Below w.heap.size w w' ∧ Below W.heap.size W w')
    (TB : ∀ W, Below w.heap.size w W → Calls Try.prog 13 #[.slice B l m] W fun e' w' => e' = .returned (.tuple #[.agg #[.int .u64 y.g, .int .u8 y.a, .int .u32 y.z, .int .u32 y.u], .int .i64 0]) ∧ Below w.heap.size w w' ∧ Below W.heap.size W w') :
    Calls Try.prog 15 #[.slice A k c, .slice B l m] w fun e' w' => e' = .returned (.tuple #[y.v, .int .i64 1, .int .i64 0]) ∧ Below w.heap.size w w' := by
  obtain ⟨xg, xa, xz, xu⟩ := x
  obtain ⟨yg, ya, yz, yu⟩ := y
  simp only at *
  have TA := Lib.hid TA
  have TB := Lib.hid TB
  obtain ⟨d, hd⟩ : ∃ d, w.heap.size = d := ⟨_, rfl⟩
  obtain ⟨w1, hw1⟩ : ∃ w1, w.alloc (.cells #[.int .u64 0, .int .u8 0, .int .u32 0, .int .u32 0] 25) = w1 := ⟨_, rfl⟩
  have H1 := Lib.hid (show Blk w1 d 25 #[.int .u64 0, .int .u8 0, .int .u32 0, .int .u32 0] ∧ Below w.heap.size w w1 from ⟨by rw [← hw1, ← hd]; exact Blk.new w _ _, hw1 ▸ (Below.refl _ _).alloc (Nat.le_refl _) _⟩)
  have HW := Lib.hid (And.intro hw1 hd)
  clear hw1 hd
  go_enter Try.func15, Try.ntmps15
  go_upto_region 1 with fail
  rw [HW.out.1, HW.out.2]
  go_wp2_with fail
  refine (TA.out _ H1.out.2).mono ?_
  rintro e' w2 ⟨rfl, hb, hb2⟩
  obtain ⟨p, hp⟩ : ∃ p, w2.heap.size = p := ⟨_, rfl⟩
  obtain ⟨w3, hw3⟩ : ∃ w3, w2.alloc (.cells #[.int .u64 xg, .int .u8 xa, .int .u32 xz, .int .u32 xu] 25) = w3 := ⟨_, rfl⟩
  have hb3 : Below w2.heap.size w2 w3 := hw3 ▸ (Below.refl _ _).alloc (Nat.le_refl _) _
  have H3 := Lib.hid (show Blk w3 d 25 #[.int .u64 0, .int .u8 0, .int .u32 0, .int .u32 0] ∧ Blk w3 p 25 #[.int .u64 xg, .int .u8 xa, .int .u32 xz, .int .u32 xu] ∧ Below w.heap.size w w3 ∧ d < p from by
    have k1 := H1.out.1.below hb2 H1.out.1.lt
    exact ⟨k1.below hb3 k1.lt, by rw [← hw3, ← hp]; exact Blk.new w2 _ _, hb.trans (hb3.mono hb.size), by rw [← hp]; exact k1.lt⟩)
  have HW3 := Lib.hid (And.intro hw3 hp)
  clear hb hb2 hp hw3 hb3 H1
  go_upto_region 2 with fail
  rw [HW3.out.1, HW3.out.2]
  go_wp2_with fail
  refine (TB.out _ H3.out.2.2.1).mono ?_
  rintro e' w4 ⟨rfl, hb, hb2⟩
  obtain ⟨q, hp⟩ : ∃ p, w4.heap.size = p := ⟨_, rfl⟩
  obtain ⟨w5, hw3⟩ : ∃ w3, w4.alloc (.cells #[.int .u64 yg, .int .u8 ya, .int .u32 yz, .int .u32 yu] 25) = w3 := ⟨_, rfl⟩
  have hb3 : Below w4.heap.size w4 w5 := hw3 ▸ (Below.refl _ _).alloc (Nat.le_refl _) _
  have H5 := Lib.hid (show Blk w5 d 25 #[.int .u64 0, .int .u8 0, .int .u32 0, .int .u32 0] ∧ Blk w5 p 25 #[.int .u64 xg, .int .u8 xa, .int .u32 xz, .int .u32 xu] ∧ Blk w5 q 25 #[.int .u64 yg, .int .u8 ya, .int .u32 yz, .int .u32 yu] ∧ Below w.heap.size w w5 from by
    have k1 := H3.out.1.below hb2 H3.out.1.lt
    have k2 := H3.out.2.1.below hb2 H3.out.2.1.lt
    exact ⟨k1.below hb3 k1.lt, k2.below hb3 k2.lt, by rw [← hw3, ← hp]; exact Blk.new w4 _ _, hb.trans (hb3.mono hb.size)⟩)
  have HW5 := Lib.hid (And.intro hw3 hp)
  have hdd := HW.out.2
  clear hb hb2 hp hw3 hb3 H3 TA TB
  go_upto_region 3 with fail
  rw [HW5.out.1, HW5.out.2]
  have c0 := H5.out.2.1.cell 0
  have c1 := H5.out.2.1.cell 1
  have c2 := H5.out.2.1.cell 2
  have c3 := H5.out.2.1.cell 3
  have e0 := H5.out.2.2.1.cell 0
  have e1 := H5.out.2.2.1.cell 1
  have e2 := H5.out.2.2.1.cell 2
  have e3 := H5.out.2.2.1.cell 3
  have hc0 := H5.out.1.cell 0
  have hc1 := H5.out.1.cell 1
  have hc2 := H5.out.1.cell 2
  have hc3 := H5.out.1.cell 3
  have hf0 := H5.out.1.frozen 0
  have hf1 := H5.out.1.frozen 1
  have hf2 := H5.out.1.frozen 2
  have hf3 := H5.out.1.frozen 3
  have HD := Lib.hid hdd
  clear hdd
  go_wp2_with fail
  have hx : Blk _ d 25 (slcs (⟨yg, ya, yz, yu⟩ : SlT)).toArray := set4 H5.out.1
  have hy := H5.out.2.2.2.grown (gby4 w5 d (.int .u64 (⟨yg, ya, yz, yu⟩ : SlT).g) (.int .u8 (⟨yg, ya, yz, yu⟩ : SlT).a) (.int .u32 (⟨yg, ya, yz, yu⟩ : SlT).z) (.int .u32 (⟨yg, ya, yz, yu⟩ : SlT).u)) H5.out.2.2.2.size fun k hk => by injection hk with hk; have := HD.out; omega
  clear c0 c1 c2 c3 e0 e1 e2 e3 hc0 hc1 hc2 hc3 hf0 hf1 hf2 hf3
  obtain ⟨fs, hfs⟩ := slot_desc
  (try simp only [Exit.inBlock, Exit.then])
  refine bodyPost_ret (v := .tuple #[(⟨yg, ya, yz, yu⟩ : SlT).v, .int .i64 1, .int .i64 0]) ?_ rfl ⟨rfl, hy⟩
  exact results_slot_tmp2 rfl _ _ d 25 _ (0, 0) _ rfl hx hfs rfl slot_size4 _ _ rfl rfl
set_option maxRecDepth 100000 in
set_option maxHeartbeats 2000000 in
theorem rnewer_yn (A : Option Addr) (k c : Nat) (a : List UInt8) (B : Option Addr) (l m : Nat) (b : List UInt8) (w : World) (x y : SlT)
    (TA : ∀ W, Below w.heap.size w W → Calls Try.prog 13 #[.slice A k c] W fun e' w' => e' = .returned (.tuple #[.agg #[.int .u64 x.g, .int .u8 x.a, .int .u32 x.z, .int .u32 x.u], .int .i64 0]) ∧ Below w.heap.size w w' ∧ Below W.heap.size W w')
    (TB : ∀ W, Below w.heap.size w W → Calls Try.prog 13 #[.slice B l m] W fun e' w' => e' = .returned (.tuple #[.agg #[.int .u64 y.g, .int .u8 y.a, .int .u32 y.z, .int .u32 y.u], .int .i64 100]) ∧ Below w.heap.size w w' ∧ Below W.heap.size W w') :
    Calls Try.prog 15 #[.slice A k c, .slice B l m] w fun e' w' => e' = .returned (.tuple #[x.v, .int .i64 0, .int .i64 0]) ∧ Below w.heap.size w w' := by
  obtain ⟨xg, xa, xz, xu⟩ := x
  obtain ⟨yg, ya, yz, yu⟩ := y
  simp only at *
  have TA := Lib.hid TA
  have TB := Lib.hid TB
  obtain ⟨d, hd⟩ : ∃ d, w.heap.size = d := ⟨_, rfl⟩
  obtain ⟨w1, hw1⟩ : ∃ w1, w.alloc (.cells #[.int .u64 0, .int .u8 0, .int .u32 0, .int .u32 0] 25) = w1 := ⟨_, rfl⟩
  have H1 := Lib.hid (show Blk w1 d 25 #[.int .u64 0, .int .u8 0, .int .u32 0, .int .u32 0] ∧ Below w.heap.size w w1 from ⟨by rw [← hw1, ← hd]; exact Blk.new w _ _, hw1 ▸ (Below.refl _ _).alloc (Nat.le_refl _) _⟩)
  have HW := Lib.hid (And.intro hw1 hd)
  clear hw1 hd
  go_enter Try.func15, Try.ntmps15
  go_upto_region 1 with fail
  rw [HW.out.1, HW.out.2]
  go_wp2_with fail
  refine (TA.out _ H1.out.2).mono ?_
  rintro e' w2 ⟨rfl, hb, hb2⟩
  obtain ⟨p, hp⟩ : ∃ p, w2.heap.size = p := ⟨_, rfl⟩
  obtain ⟨w3, hw3⟩ : ∃ w3, w2.alloc (.cells #[.int .u64 xg, .int .u8 xa, .int .u32 xz, .int .u32 xu] 25) = w3 := ⟨_, rfl⟩
  have hb3 : Below w2.heap.size w2 w3 := hw3 ▸ (Below.refl _ _).alloc (Nat.le_refl _) _
  have H3 := Lib.hid (show Blk w3 d 25 #[.int .u64 0, .int .u8 0, .int .u32 0, .int .u32 0] ∧ Blk w3 p 25 #[.int .u64 xg, .int .u8 xa, .int .u32 xz, .int .u32 xu] ∧ Below w.heap.size w w3 ∧ d < p from by
    have k1 := H1.out.1.below hb2 H1.out.1.lt
    exact ⟨k1.below hb3 k1.lt, by rw [← hw3, ← hp]; exact Blk.new w2 _ _, hb.trans (hb3.mono hb.size), by rw [← hp]; exact k1.lt⟩)
  have HW3 := Lib.hid (And.intro hw3 hp)
  clear hb hb2 hp hw3 hb3 H1
  go_upto_region 2 with fail
  rw [HW3.out.1, HW3.out.2]
  go_wp2_with fail
  refine (TB.out _ H3.out.2.2.1).mono ?_
  rintro e' w4 ⟨rfl, hb, hb2⟩
  obtain ⟨q, hp⟩ : ∃ p, w4.heap.size = p := ⟨_, rfl⟩
  obtain ⟨w5, hw3⟩ : ∃ w3, w4.alloc (.cells #[.int .u64 yg, .int .u8 ya, .int .u32 yz, .int .u32 yu] 25) = w3 := ⟨_, rfl⟩
  have hb3 : Below w4.heap.size w4 w5 := hw3 ▸ (Below.refl _ _).alloc (Nat.le_refl _) _
  have H5 := Lib.hid (show Blk w5 d 25 #[.int .u64 0, .int .u8 0, .int .u32 0, .int .u32 0] ∧ Blk w5 p 25 #[.int .u64 xg, .int .u8 xa, .int .u32 xz, .int .u32 xu] ∧ Blk w5 q 25 #[.int .u64 yg, .int .u8 ya, .int .u32 yz, .int .u32 yu] ∧ Below w.heap.size w w5 from by
    have k1 := H3.out.1.below hb2 H3.out.1.lt
    have k2 := H3.out.2.1.below hb2 H3.out.2.1.lt
    exact ⟨k1.below hb3 k1.lt, k2.below hb3 k2.lt, by rw [← hw3, ← hp]; exact Blk.new w4 _ _, hb.trans (hb3.mono hb.size)⟩)
  have HW5 := Lib.hid (And.intro hw3 hp)
  have hdd := HW.out.2
  clear hb hb2 hp hw3 hb3 H3 TA TB
  go_upto_region 3 with fail
  rw [HW5.out.1, HW5.out.2]
  have c0 := H5.out.2.1.cell 0
  have c1 := H5.out.2.1.cell 1
  have c2 := H5.out.2.1.cell 2
  have c3 := H5.out.2.1.cell 3
  have e0 := H5.out.2.2.1.cell 0
  have e1 := H5.out.2.2.1.cell 1
  have e2 := H5.out.2.2.1.cell 2
  have e3 := H5.out.2.2.1.cell 3
  have hc0 := H5.out.1.cell 0
  have hc1 := H5.out.1.cell 1
  have hc2 := H5.out.1.cell 2
  have hc3 := H5.out.1.cell 3
  have hf0 := H5.out.1.frozen 0
  have hf1 := H5.out.1.frozen 1
  have hf2 := H5.out.1.frozen 2
  have hf3 := H5.out.1.frozen 3
  have HD := Lib.hid hdd
  clear hdd
  go_wp2_with fail
  have hx : Blk _ d 25 (slcs (⟨xg, xa, xz, xu⟩ : SlT)).toArray := set4 H5.out.1
  have hy := H5.out.2.2.2.grown (gby4 w5 d (.int .u64 (⟨xg, xa, xz, xu⟩ : SlT).g) (.int .u8 (⟨xg, xa, xz, xu⟩ : SlT).a) (.int .u32 (⟨xg, xa, xz, xu⟩ : SlT).z) (.int .u32 (⟨xg, xa, xz, xu⟩ : SlT).u)) H5.out.2.2.2.size fun k hk => by injection hk with hk; have := HD.out; omega
  clear c0 c1 c2 c3 e0 e1 e2 e3 hc0 hc1 hc2 hc3 hf0 hf1 hf2 hf3
  obtain ⟨fs, hfs⟩ := slot_desc
  (try simp only [Exit.inBlock, Exit.then])
  refine bodyPost_ret (v := .tuple #[(⟨xg, xa, xz, xu⟩ : SlT).v, .int .i64 0, .int .i64 0]) ?_ rfl ⟨rfl, hy⟩
  exact results_slot_tmp2 rfl _ _ d 25 _ (0, 0) _ rfl hx hfs rfl slot_size4 _ _ rfl rfl
set_option maxRecDepth 100000 in
set_option maxHeartbeats 2000000 in
theorem rnewer_lt (A : Option Addr) (k c : Nat) (a : List UInt8) (B : Option Addr) (l m : Nat) (b : List UInt8) (w : World) (x y : SlT)
    (TA : ∀ W, Below w.heap.size w W → Calls Try.prog 13 #[.slice A k c] W fun e' w' => e' = .returned (.tuple #[.agg #[.int .u64 x.g, .int .u8 x.a, .int .u32 x.z, .int .u32 x.u], .int .i64 0]) ∧ Below w.heap.size w w' ∧ Below W.heap.size W w')
    (TB : ∀ W, Below w.heap.size w W → Calls Try.prog 13 #[.slice B l m] W fun e' w' => e' = .returned (.tuple #[.agg #[.int .u64 y.g, .int .u8 y.a, .int .u32 y.z, .int .u32 y.u], .int .i64 0]) ∧ Below w.heap.size w w' ∧ Below W.heap.size W w') (hg : x.g < y.g) :
    Calls Try.prog 15 #[.slice A k c, .slice B l m] w fun e' w' => e' = .returned (.tuple #[y.v, .int .i64 1, .int .i64 0]) ∧ Below w.heap.size w w' := by
  obtain ⟨xg, xa, xz, xu⟩ := x
  obtain ⟨yg, ya, yz, yu⟩ := y
  simp only at *
  have TA := Lib.hid TA
  have TB := Lib.hid TB
  obtain ⟨d, hd⟩ : ∃ d, w.heap.size = d := ⟨_, rfl⟩
  obtain ⟨w1, hw1⟩ : ∃ w1, w.alloc (.cells #[.int .u64 0, .int .u8 0, .int .u32 0, .int .u32 0] 25) = w1 := ⟨_, rfl⟩
  have H1 := Lib.hid (show Blk w1 d 25 #[.int .u64 0, .int .u8 0, .int .u32 0, .int .u32 0] ∧ Below w.heap.size w w1 from ⟨by rw [← hw1, ← hd]; exact Blk.new w _ _, hw1 ▸ (Below.refl _ _).alloc (Nat.le_refl _) _⟩)
  have HW := Lib.hid (And.intro hw1 hd)
  clear hw1 hd
  go_enter Try.func15, Try.ntmps15
  go_upto_region 1 with fail
  rw [HW.out.1, HW.out.2]
  go_wp2_with fail
  refine (TA.out _ H1.out.2).mono ?_
  rintro e' w2 ⟨rfl, hb, hb2⟩
  obtain ⟨p, hp⟩ : ∃ p, w2.heap.size = p := ⟨_, rfl⟩
  obtain ⟨w3, hw3⟩ : ∃ w3, w2.alloc (.cells #[.int .u64 xg, .int .u8 xa, .int .u32 xz, .int .u32 xu] 25) = w3 := ⟨_, rfl⟩
  have hb3 : Below w2.heap.size w2 w3 := hw3 ▸ (Below.refl _ _).alloc (Nat.le_refl _) _
  have H3 := Lib.hid (show Blk w3 d 25 #[.int .u64 0, .int .u8 0, .int .u32 0, .int .u32 0] ∧ Blk w3 p 25 #[.int .u64 xg, .int .u8 xa, .int .u32 xz, .int .u32 xu] ∧ Below w.heap.size w w3 ∧ d < p from by
    have k1 := H1.out.1.below hb2 H1.out.1.lt
    exact ⟨k1.below hb3 k1.lt, by rw [← hw3, ← hp]; exact Blk.new w2 _ _, hb.trans (hb3.mono hb.size), by rw [← hp]; exact k1.lt⟩)
  have HW3 := Lib.hid (And.intro hw3 hp)
  clear hb hb2 hp hw3 hb3 H1
  go_upto_region 2 with fail
  rw [HW3.out.1, HW3.out.2]
  go_wp2_with fail
  refine (TB.out _ H3.out.2.2.1).mono ?_
  rintro e' w4 ⟨rfl, hb, hb2⟩
  obtain ⟨q, hp⟩ : ∃ p, w4.heap.size = p := ⟨_, rfl⟩
  obtain ⟨w5, hw3⟩ : ∃ w3, w4.alloc (.cells #[.int .u64 yg, .int .u8 ya, .int .u32 yz, .int .u32 yu] 25) = w3 := ⟨_, rfl⟩
  have hb3 : Below w4.heap.size w4 w5 := hw3 ▸ (Below.refl _ _).alloc (Nat.le_refl _) _
  have H5 := Lib.hid (show Blk w5 d 25 #[.int .u64 0, .int .u8 0, .int .u32 0, .int .u32 0] ∧ Blk w5 p 25 #[.int .u64 xg, .int .u8 xa, .int .u32 xz, .int .u32 xu] ∧ Blk w5 q 25 #[.int .u64 yg, .int .u8 ya, .int .u32 yz, .int .u32 yu] ∧ Below w.heap.size w w5 from by
    have k1 := H3.out.1.below hb2 H3.out.1.lt
    have k2 := H3.out.2.1.below hb2 H3.out.2.1.lt
    exact ⟨k1.below hb3 k1.lt, k2.below hb3 k2.lt, by rw [← hw3, ← hp]; exact Blk.new w4 _ _, hb.trans (hb3.mono hb.size)⟩)
  have HW5 := Lib.hid (And.intro hw3 hp)
  have hdd := HW.out.2
  clear hb hb2 hp hw3 hb3 H3 TA TB
  go_upto_region 3 with fail
  rw [HW5.out.1, HW5.out.2]
  have c0 := H5.out.2.1.cell 0
  have c1 := H5.out.2.1.cell 1
  have c2 := H5.out.2.1.cell 2
  have c3 := H5.out.2.1.cell 3
  have e0 := H5.out.2.2.1.cell 0
  have e1 := H5.out.2.2.1.cell 1
  have e2 := H5.out.2.2.1.cell 2
  have e3 := H5.out.2.2.1.cell 3
  have hc0 := H5.out.1.cell 0
  have hc1 := H5.out.1.cell 1
  have hc2 := H5.out.1.cell 2
  have hc3 := H5.out.1.cell 3
  have hf0 := H5.out.1.frozen 0
  have hf1 := H5.out.1.frozen 1
  have hf2 := H5.out.1.frozen 2
  have hf3 := H5.out.1.frozen 3
  have HD := Lib.hid hdd
  clear hdd
  have hgi : (xg : Int) < (yg : Int) := by omega
  clear hg
  go_wp2_with fail
  have hx : Blk _ d 25 (slcs (⟨yg, ya, yz, yu⟩ : SlT)).toArray := set4 H5.out.1
  have hy := H5.out.2.2.2.grown (gby4 w5 d (.int .u64 (⟨yg, ya, yz, yu⟩ : SlT).g) (.int .u8 (⟨yg, ya, yz, yu⟩ : SlT).a) (.int .u32 (⟨yg, ya, yz, yu⟩ : SlT).z) (.int .u32 (⟨yg, ya, yz, yu⟩ : SlT).u)) H5.out.2.2.2.size fun k hk => by injection hk with hk; have := HD.out; omega
  clear c0 c1 c2 c3 e0 e1 e2 e3 hc0 hc1 hc2 hc3 hf0 hf1 hf2 hf3
  obtain ⟨fs, hfs⟩ := slot_desc
  (try simp only [Exit.inBlock, Exit.then])
  refine bodyPost_ret (v := .tuple #[(⟨yg, ya, yz, yu⟩ : SlT).v, .int .i64 1, .int .i64 0]) ?_ rfl ⟨rfl, hy⟩
  exact results_slot_tmp2 rfl _ _ d 25 _ (0, 0) _ rfl hx hfs rfl slot_size4 _ _ rfl rfl
set_option maxRecDepth 100000 in
set_option maxHeartbeats 2000000 in
theorem rnewer_ge (A : Option Addr) (k c : Nat) (a : List UInt8) (B : Option Addr) (l m : Nat) (b : List UInt8) (w : World) (x y : SlT)
    (TA : ∀ W, Below w.heap.size w W → Calls Try.prog 13 #[.slice A k c] W fun e' w' => e' = .returned (.tuple #[.agg #[.int .u64 x.g, .int .u8 x.a, .int .u32 x.z, .int .u32 x.u], .int .i64 0]) ∧ Below w.heap.size w w' ∧ Below W.heap.size W w')
    (TB : ∀ W, Below w.heap.size w W → Calls Try.prog 13 #[.slice B l m] W fun e' w' => e' = .returned (.tuple #[.agg #[.int .u64 y.g, .int .u8 y.a, .int .u32 y.z, .int .u32 y.u], .int .i64 0]) ∧ Below w.heap.size w w' ∧ Below W.heap.size W w') (hg : ¬ x.g < y.g) :
    Calls Try.prog 15 #[.slice A k c, .slice B l m] w fun e' w' => e' = .returned (.tuple #[x.v, .int .i64 0, .int .i64 0]) ∧ Below w.heap.size w w' := by
  obtain ⟨xg, xa, xz, xu⟩ := x
  obtain ⟨yg, ya, yz, yu⟩ := y
  simp only at *
  have TA := Lib.hid TA
  have TB := Lib.hid TB
  obtain ⟨d, hd⟩ : ∃ d, w.heap.size = d := ⟨_, rfl⟩
  obtain ⟨w1, hw1⟩ : ∃ w1, w.alloc (.cells #[.int .u64 0, .int .u8 0, .int .u32 0, .int .u32 0] 25) = w1 := ⟨_, rfl⟩
  have H1 := Lib.hid (show Blk w1 d 25 #[.int .u64 0, .int .u8 0, .int .u32 0, .int .u32 0] ∧ Below w.heap.size w w1 from ⟨by rw [← hw1, ← hd]; exact Blk.new w _ _, hw1 ▸ (Below.refl _ _).alloc (Nat.le_refl _) _⟩)
  have HW := Lib.hid (And.intro hw1 hd)
  clear hw1 hd
  go_enter Try.func15, Try.ntmps15
  go_upto_region 1 with fail
  rw [HW.out.1, HW.out.2]
  go_wp2_with fail
  refine (TA.out _ H1.out.2).mono ?_
  rintro e' w2 ⟨rfl, hb, hb2⟩
  obtain ⟨p, hp⟩ : ∃ p, w2.heap.size = p := ⟨_, rfl⟩
  obtain ⟨w3, hw3⟩ : ∃ w3, w2.alloc (.cells #[.int .u64 xg, .int .u8 xa, .int .u32 xz, .int .u32 xu] 25) = w3 := ⟨_, rfl⟩
  have hb3 : Below w2.heap.size w2 w3 := hw3 ▸ (Below.refl _ _).alloc (Nat.le_refl _) _
  have H3 := Lib.hid (show Blk w3 d 25 #[.int .u64 0, .int .u8 0, .int .u32 0, .int .u32 0] ∧ Blk w3 p 25 #[.int .u64 xg, .int .u8 xa, .int .u32 xz, .int .u32 xu] ∧ Below w.heap.size w w3 ∧ d < p from by
    have k1 := H1.out.1.below hb2 H1.out.1.lt
    exact ⟨k1.below hb3 k1.lt, by rw [← hw3, ← hp]; exact Blk.new w2 _ _, hb.trans (hb3.mono hb.size), by rw [← hp]; exact k1.lt⟩)
  have HW3 := Lib.hid (And.intro hw3 hp)
  clear hb hb2 hp hw3 hb3 H1
  go_upto_region 2 with fail
  rw [HW3.out.1, HW3.out.2]
  go_wp2_with fail
  refine (TB.out _ H3.out.2.2.1).mono ?_
  rintro e' w4 ⟨rfl, hb, hb2⟩
  obtain ⟨q, hp⟩ : ∃ p, w4.heap.size = p := ⟨_, rfl⟩
  obtain ⟨w5, hw3⟩ : ∃ w3, w4.alloc (.cells #[.int .u64 yg, .int .u8 ya, .int .u32 yz, .int .u32 yu] 25) = w3 := ⟨_, rfl⟩
  have hb3 : Below w4.heap.size w4 w5 := hw3 ▸ (Below.refl _ _).alloc (Nat.le_refl _) _
  have H5 := Lib.hid (show Blk w5 d 25 #[.int .u64 0, .int .u8 0, .int .u32 0, .int .u32 0] ∧ Blk w5 p 25 #[.int .u64 xg, .int .u8 xa, .int .u32 xz, .int .u32 xu] ∧ Blk w5 q 25 #[.int .u64 yg, .int .u8 ya, .int .u32 yz, .int .u32 yu] ∧ Below w.heap.size w w5 from by
    have k1 := H3.out.1.below hb2 H3.out.1.lt
    have k2 := H3.out.2.1.below hb2 H3.out.2.1.lt
    exact ⟨k1.below hb3 k1.lt, k2.below hb3 k2.lt, by rw [← hw3, ← hp]; exact Blk.new w4 _ _, hb.trans (hb3.mono hb.size)⟩)
  have HW5 := Lib.hid (And.intro hw3 hp)
  have hdd := HW.out.2
  clear hb hb2 hp hw3 hb3 H3 TA TB
  go_upto_region 3 with fail
  rw [HW5.out.1, HW5.out.2]
  have c0 := H5.out.2.1.cell 0
  have c1 := H5.out.2.1.cell 1
  have c2 := H5.out.2.1.cell 2
  have c3 := H5.out.2.1.cell 3
  have e0 := H5.out.2.2.1.cell 0
  have e1 := H5.out.2.2.1.cell 1
  have e2 := H5.out.2.2.1.cell 2
  have e3 := H5.out.2.2.1.cell 3
  have hc0 := H5.out.1.cell 0
  have hc1 := H5.out.1.cell 1
  have hc2 := H5.out.1.cell 2
  have hc3 := H5.out.1.cell 3
  have hf0 := H5.out.1.frozen 0
  have hf1 := H5.out.1.frozen 1
  have hf2 := H5.out.1.frozen 2
  have hf3 := H5.out.1.frozen 3
  have HD := Lib.hid hdd
  clear hdd
  have hgi : ¬ (xg : Int) < (yg : Int) := by omega
  clear hg
  go_wp2_with fail
  have hx : Blk _ d 25 (slcs (⟨xg, xa, xz, xu⟩ : SlT)).toArray := set4 H5.out.1
  have hy := H5.out.2.2.2.grown (gby4 w5 d (.int .u64 (⟨xg, xa, xz, xu⟩ : SlT).g) (.int .u8 (⟨xg, xa, xz, xu⟩ : SlT).a) (.int .u32 (⟨xg, xa, xz, xu⟩ : SlT).z) (.int .u32 (⟨xg, xa, xz, xu⟩ : SlT).u)) H5.out.2.2.2.size fun k hk => by injection hk with hk; have := HD.out; omega
  clear c0 c1 c2 c3 e0 e1 e2 e3 hc0 hc1 hc2 hc3 hf0 hf1 hf2 hf3
  obtain ⟨fs, hfs⟩ := slot_desc
  (try simp only [Exit.inBlock, Exit.then])
  refine bodyPost_ret (v := .tuple #[(⟨xg, xa, xz, xu⟩ : SlT).v, .int .i64 0, .int .i64 0]) ?_ rfl ⟨rfl, hy⟩
  exact results_slot_tmp2 rfl _ _ d 25 _ (0, 0) _ rfl hx hfs rfl slot_size4 _ _ rfl rfl
theorem rnewer_any (A : Option Addr) (k c : Nat) (a : List UInt8) (B : Option Addr) (l m : Nat) (b : List UInt8) (w : World) (hl : a.length = k) (hk : k ≤ c) (hc : c ≤ maxLen ∧ k ≤ 140737488351232) (hr : Rd w w.heap.size A a) (hl2 : b.length = l) (hk2 : l ≤ m) (hc2 : m ≤ maxLen ∧ l ≤ 140737488351232) (hr2 : Rd w w.heap.size B b) :
    Calls Try.prog 15 #[.slice A k c, .slice B l m] w fun e w' => e = .returned (.tuple #[(newerS a b).1.v, .int .i64 (newerS a b).2.1, .int .i64 (newerS a b).2.2]) ∧ Below w.heap.size w w' := by
  have ta : ∀ s e, takeS a = (s, e) → _ := rtake_at A k c a hl hk hc w hr
  have tb : ∀ s e, takeS b = (s, e) → _ := rtake_at B l m b hl2 hk2 hc2 w hr2
  rcases takeS_cases a with ⟨ha, _, _⟩ | ha <;> rcases takeS_cases b with ⟨hb, _, _⟩ | hb
  · have ha2 : takeS a = ((takeS a).1, 0) := by rw [← ha]
    have hb2 : takeS b = ((takeS b).1, 0) := by rw [← hb]
    by_cases hg : (takeS a).1.g < (takeS b).1.g
    · have e : newerS a b = ((takeS b).1, 1, 0) := by unfold newerS; rw [if_neg (by rw [ha]; simp), if_pos (.inr ⟨hb, hg⟩)]
      rw [e]
      exact rnewer_lt A k c a B l m b w _ _ (ta _ _ ha2) (tb _ _ hb2) hg
    · have e : newerS a b = ((takeS a).1, 0, 0) := by unfold newerS; rw [if_neg (by rw [ha]; simp), if_neg (by rw [ha]; rintro (h | ⟨_, h⟩); exact h rfl; exact hg h)]
      rw [e]
      exact rnewer_ge A k c a B l m b w _ _ (ta _ _ ha2) (tb _ _ hb2) hg
  · have ha2 : takeS a = ((takeS a).1, 0) := by rw [← ha]
    have e : newerS a b = ((takeS a).1, 0, 0) := by unfold newerS; rw [if_neg (by rw [ha]; simp), if_neg (by rw [ha, hb]; simp)]
    rw [e]
    exact rnewer_yn A k c a B l m b w _ _ (ta _ _ ha2) (tb _ _ hb)
  · have hb2 : takeS b = ((takeS b).1, 0) := by rw [← hb]
    have e : newerS a b = ((takeS b).1, 1, 0) := by unfold newerS; rw [if_neg (by rw [hb]; simp), if_pos (.inl (by rw [ha]; simp))]
    rw [e]
    exact rnewer_ny A k c a B l m b w _ _ (ta _ _ ha) (tb _ _ hb2)
  · have e : newerS a b = (slZ, 0, 100) := by unfold newerS; rw [if_pos (by rw [ha, hb]; simp)]
    rw [e]
    exact rnewer_nn A k c a B l m b w _ _ (ta _ _ ha) (tb _ _ hb)
end Go.Proofs.Ytmfbidohmkoeeaa
