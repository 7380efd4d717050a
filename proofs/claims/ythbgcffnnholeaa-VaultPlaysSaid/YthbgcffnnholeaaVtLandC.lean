/- The contract of the package's vault: Put. No statement of the seat is proved here. -/
import Derived.Test.YthbgcffnnholeaaVtLandA
import Derived.Test.YthbgcffnnholeaaChunkIt
import Derived.Test.YthbgcffnnholeaaCodecO
import Derived.Test.YthbgcffnnholeaaAppRd
import Derived.Test.YthbgcffnnholeaaLaidTo
import Derived.Shelf.RegionOpen
namespace Go.Proofs.Ythbgcffnnholeaa
open Go.RowKit Go.Shelf
set_option linter.unusedVariables false
set_option linter.unusedSimpArgs false
attribute [local go_sem] Oper.semAt_some

/-! ### Plain mathematics -/
/-- Pieces are written one after the other, as long as it goes. -/
def putP : DS → Nat → List (List UInt8) → DS × Nat
  | S, _, [] => (S, 0)
  | S, a, p :: ps => if writeE S a p.length = 0 then putP (writeS S a p) (a + 1) ps else (writeS S a p, writeE S a p.length)
theorem putP_go {S : DS} {a : Nat} {p : List UInt8} {ps : List (List UInt8)} (h : writeE S a p.length = 0) : putP S a (p :: ps) = putP (writeS S a p) (a + 1) ps := by
  show (if _ then _ else _) = _
  rw [if_pos h]
theorem putP_stop {S : DS} {a : Nat} {p : List UInt8} {ps : List (List UInt8)} (h : writeE S a p.length ≠ 0) : putP S a (p :: ps) = (writeS S a p, writeE S a p.length) := by
  show (if _ then _ else _) = _
  rw [if_neg h]
theorem putP_snoc : ∀ (ps : List (List UInt8)) (S : DS) (a : Nat) (p : List UInt8), (putP S a ps).2 = 0 →
    putP S a (ps ++ [p]) = (writeS (putP S a ps).1 ((a + ps.length : Nat) : Int) p, writeE (putP S a ps).1 ((a + ps.length : Nat) : Int) p.length)
  | [], S, a, p, _ => by
    show putP S a (p :: []) = (writeS S ((a + 0 : Nat) : Int) p, writeE S ((a + 0 : Nat) : Int) p.length)
    by_cases h : writeE S a p.length = 0
    · rw [putP_go h]
      simp only [Nat.add_zero, h]
      rfl
    · rw [putP_stop h]
      simp only [Nat.add_zero]
  | q :: ps, S, a, p, h0 => by
    show putP S a (q :: (ps ++ [p])) = _
    by_cases h : writeE S a q.length = 0
    · rw [putP_go h] at h0 ⊢
      rw [putP_snoc ps _ _ _ h0, putP_go h, List.length_cons, show a + 1 + ps.length = a + (ps.length + 1) by omega]
    · rw [putP_stop h] at h0
      exact absurd h0 h
theorem putP_stay : ∀ (ps qs : List (List UInt8)) (S : DS) (a : Nat), (putP S a ps).2 ≠ 0 → putP S a (ps ++ qs) = putP S a ps
  | [], qs, S, a, h => absurd rfl h
  | p :: ps, qs, S, a, h0 => by
    show putP S a (p :: (ps ++ qs)) = _
    by_cases h : writeE S a p.length = 0
    · rw [putP_go h] at h0
      rw [putP_go h, putP_go h]
      exact putP_stay ps qs _ _ h0
    · rw [putP_stop h, putP_stop h]
theorem putP_grow : ∀ (ps : List (List UInt8)) (S : DS) (a : Nat), (putP S a ps).1.put.length ≤ S.put.length + ps.length ∧ (putP S a ps).1.cnt ≤ S.cnt + ps.length ∧ (putP S a ps).1.n = S.n
  | [], S, a => ⟨Nat.le_refl _, Nat.le_refl _, rfl⟩
  | p :: ps, S, a => by
    have h1 : (writeS S a p).put.length ≤ S.put.length + 1 ∧ (writeS S a p).cnt ≤ S.cnt + 1 ∧ (writeS S a p).n = S.n := by
      unfold writeS
      split
      · exact ⟨by omega, by omega, rfl⟩
      · split
        · exact ⟨by rw [tickS_put]; omega, by rw [tickS_cnt]; omega, tickS_n⟩
        · simp only [doneS]
          exact ⟨by rw [List.length_append]; simp, by rw [tickS_cnt]; omega, tickS_n⟩
    rw [List.length_cons]
    by_cases h : writeE S a p.length = 0
    · rw [putP_go h]
      have h2 := putP_grow ps (writeS S a p) (a + 1)
      exact ⟨by omega, by omega, h2.2.2.trans h1.2.2⟩
    · rw [putP_stop h]
      exact ⟨Nat.le_trans h1.1 (by omega), Nat.le_trans h1.2.1 (by omega), h1.2.2⟩
theorem putP_putL : ∀ (K : Nat) (S : DS) (a : Nat) (x : List UInt8), putP S a ((List.range K).map fun q => (x.drop (128 * q)).take 128) = putL K S a x
  | 0, S, a, x => rfl
  | K + 1, S, a, x => by
    have e : (List.range (K + 1)).map (fun q => (x.drop (128 * q)).take 128) = x.take 128 :: (List.range K).map fun q => ((x.drop 128).drop (128 * q)).take 128 := by
      rw [List.range_succ_eq_map, List.map_cons, List.map_map]
      refine congr (congrArg _ (by simp)) (List.map_congr_left fun q _ => ?_)
      simp only [Function.comp, List.drop_drop, Nat.mul_succ]
      rw [Nat.add_comm]
    rw [e]
    by_cases h : writeE S a (x.take 128).length = 0
    · rw [putP_go h, putL_go h, putP_putL K]
    · rw [putP_stop h, putL_stop h]
theorem pieces_fin (x : List UInt8) (K : Nat) : (List.finRange K).map (fun q => (x.drop (128 * q.val)).take 128) = (List.range K).map fun q => (x.drop (128 * q)).take 128 := by
  apply List.ext_getElem
  · simp
  · intro i h1 h2
    simp
/-! ### Cells -/
theorem lst_cells {w : World} {s : Addr} {F : Nat → Prop} {S : DS} (h : Lst w s F S) : ∀ g, F g → ∃ o : Obj, w.heap[g]? = some o ∧ o.isCells = true := by
  obtain ⟨d, An, cn, As, cs, Ap, cp, fl, _, hd, _, _, hF⟩ := h
  intro g hg
  rcases (hF g).1 hg with rfl | hg | hg | hg
  · exact ⟨_, hd.blk, rfl⟩
  · obtain ⟨_, cur, hb, _⟩ := row_blk hd.now g hg
    exact ⟨_, hb, rfl⟩
  · obtain ⟨_, cur, hb, _⟩ := row_blk hd.safe g hg
    exact ⟨_, hb, rfl⟩
  · obtain ⟨_, cur, hb, _⟩ := row_blk hd.put g hg
    exact ⟨_, hb, rfl⟩
/-- A write keeps what is no cells. -/
theorem others_of_only {w w' : World} {s : Addr} {F : Nat → Prop} {S : DS} (h : Lst w s F S) (ho : Only F w w') : KeepsOthers w w' :=
  ⟨ho.size, fun k o hk hc => by
    refine (ho.block k (Array.getElem?_eq_some_iff.1 hk).1 fun hf => ?_).trans hk
    obtain ⟨o', h1, h2⟩ := lst_cells h k hf
    rw [hk] at h1
    injection h1 with h1
    rw [h1, h2] at hc
    cases hc⟩
abbrev pcsV {K : Nat} (x : List UInt8) (pre : List (Fin K)) : List (List UInt8) := pre.map fun q => (x.drop (128 * q.val)).take 128
/-- The state of Put's loop: these pieces were written. -/
structure PutS (w1 : World) (d : Nat) (F : Nat → Prop) (nb : Nat) (S : DS) (a : Nat) (ps : List (List UInt8)) (W : World) : Prop where
  st : ∃ F', Lst W ⟨d, 0, none⟩ F' (putP S a ps).1 ∧ ∀ g, F' g → F g ∨ w1.heap.size ≤ g
  on : Only (fun g => F g ∨ g = nb) w1 W
  ok : (putP S a ps).2 = 0
  nx : Blk W nb 3 #[.int .i64 ((a + ps.length : Nat) : Int)]
/-- A write was refused. -/
structure PutX (w1 : World) (d : Nat) (F : Nat → Prop) (nb rb : Nat) (S : DS) (a : Nat) (ps : List (List UInt8)) (W : World) : Prop where
  st : ∃ F', Lst W ⟨d, 0, none⟩ F' (putP S a ps).1 ∧ ∀ g, F' g → F g ∨ w1.heap.size ≤ g
  on : Only (fun g => F g ∨ g = nb ∨ g = rb) w1 W
  bad : (putP S a ps).2 ≠ 0
  rx : Blk W rb 27 #[.int .i64 ((putP S a ps).2 : Nat)]
theorem lst_on {W W' : World} {s : Addr} {F : Nat → Prop} {S : DS} {row : Option Nat} (h : Lst W s F S) (hg : W.grownBy W' row) (hr : ∀ r, row = some r → ∃ o : Obj, W.heap[r]? = some o ∧ o.isCells = false) : Lst W' s F S :=
  disksOk.keep h fun k hk => hg.block k (disksOk.lt h k hk) fun e => by
    obtain ⟨o, ho, hc⟩ := hr k e.symm
    obtain ⟨o', ho', hc'⟩ := lst_cells h k hk
    rw [ho] at ho'
    injection ho' with ho'
    rw [ho', hc'] at hc
    cases hc
theorem only_on {G : Nat → Prop} {w1 W W' : World} {row : Option Nat} (h : Only G w1 W) (hg : W.grownBy W' row) (hr : ∀ r, row = some r → w1.heap.size ≤ r) : Only G w1 W' :=
  ⟨hg.os.trans h.os, hg.tape.trans h.tape, hg.output.trans h.output, Nat.le_trans h.size hg.size, fun k hk hn => (hg.block k (Nat.lt_of_lt_of_le hk h.size) fun e => by have := hr k e.symm; omega).trans (h.block k hk hn)⟩
theorem puts_own {K : Nat} {w1 : World} {d : Nat} {F : Nat → Prop} {nb : Nat} {S : DS} {a : Nat} {x : List UInt8} (hnb : nb < w1.heap.size) : OwnFrom w1.heap.size (fun (pre : List (Fin K)) W => PutS w1 d F nb S a (pcsV x pre) W) := fun pre W W' row h hg hr => by
  obtain ⟨⟨F', h1, h2⟩, h3, h4, h5⟩ := h
  exact ⟨⟨F', lst_on h1 hg fun r e => (hr r e).2, h2⟩, only_on h3 hg fun r e => (hr r e).1, h4, h5.same (hg.block nb h5.lt fun e => by have := (hr nb e.symm).1; omega)⟩
theorem putx_own {K : Nat} {w1 : World} {d : Nat} {F : Nat → Prop} {nb rb : Nat} {S : DS} {a : Nat} {x : List UInt8} (hrb : rb < w1.heap.size) (c : Code) : OwnFrom w1.heap.size (fun (pre : List (Fin K)) W => c = .ret ∧ PutX w1 d F nb rb S a (pcsV x pre) W) := fun pre W W' row h hg hr => by
  obtain ⟨hc, ⟨F', h1, h2⟩, h3, h4, h5⟩ := h
  exact ⟨hc, ⟨F', lst_on h1 hg fun r e => (hr r e).2, h2⟩, only_on h3 hg fun r e => (hr r e).1, h4, h5.same (hg.block rb h5.lt fun e => by have := (hr rb e.symm).1; omega)⟩
theorem three_blocks (w : World) (s t u : TypeId) (cs ds es : Array Value) : (((w.alloc (.cells cs s)).alloc (.cells ds t)).alloc (.cells es u)).heap.size = w.heap.size + 3 ∧
    Below w.heap.size w (((w.alloc (.cells cs s)).alloc (.cells ds t)).alloc (.cells es u)) ∧ Blk (((w.alloc (.cells cs s)).alloc (.cells ds t)).alloc (.cells es u)) w.heap.size s cs ∧
    Blk (((w.alloc (.cells cs s)).alloc (.cells ds t)).alloc (.cells es u)) (w.heap.size + 1) t ds ∧ Blk (((w.alloc (.cells cs s)).alloc (.cells ds t)).alloc (.cells es u)) (w.heap.size + 1 + 1) u es := by
  have n0 := Blk.new w s cs
  have n1 := blk_at (w.alloc (.cells cs s)) t ds (g := w.heap.size + 1) (by simp)
  have n2 := blk_at ((w.alloc (.cells cs s)).alloc (.cells ds t)) u es (g := w.heap.size + 1 + 1) (by simp)
  have up := fun (W : World) (o : Obj) => (Below.refl W.heap.size W).alloc (Nat.le_refl _) o
  have b1 := (Below.refl w.heap.size w).alloc (Nat.le_refl _) (.cells cs s)
  have b2 := b1.alloc b1.size (.cells ds t)
  have b3 := b2.alloc b2.size (.cells es u)
  have m1 := n0.below (up _ (.cells ds t)) n0.lt
  exact ⟨by simp, b3, m1.below (up _ (.cells es u)) m1.lt, n1.below (up _ (.cells es u)) n1.lt, n2⟩
set_option maxHeartbeats 1000000 in
theorem vput_nil (at_ : Int) (A : Option Addr) (n c : Nat) (w : World) : Calls Try.prog 16 #[.pointer none, .int .i64 at_, .slice A n c] w fun x w' => x = .returned (.int .i64 2) ∧ Below w.heap.size w w' := by
  have KF := Lib.hid (fun W => fault_nil at_ W)
  go_enter Try.func16, Try.ntmps16
  go_wp2_with fail
  (with_reducible refine (KF.out _).mono ?_)
  rintro x w' ⟨rfl, rfl⟩
  go_wp2_with fail
  refine bodyPost_ret (v := .int .i64 2) ?_ rfl ?_
  · simp [results, Try.f16, go_sem]
  · exact ⟨rfl, ((Below.refl _ _).alloc (Nat.le_refl _) _).alloc (by simp) _⟩
/-! ### What stands behind the loop -/
theorem st_set {W : World} {s : Addr} {F : Nat → Prop} {S : DS} (h : Lst W s F S) {rb : Nat} (hrb : ¬ F rb) (v : Value) : Lst (W.setCell ⟨rb, 0, none⟩ v) s F S :=
  disksOk.keep h fun g hg => setCell_block fun e => hrb (by rw [← e]; exact hg)
theorem st_mark {W : World} {s : Addr} {F : Nat → Prop} {S : DS} (h : Lst W s F S) {D : Nat} {o : Obj} (o' : Obj) (hD : W.heap[D]? = some o) (ho : o.isCells = false) : Lst (W.putObj D o') s F S :=
  lst_on h (grownBy_putObj' W D o') fun r e => by cases e; exact ⟨o, hD, ho⟩
theorem on_set {G : Nat → Prop} {w1 W : World} (h : Only G w1 W) {rb : Nat} (hrb : G rb) (v : Value) : Only G w1 (W.setCell ⟨rb, 0, none⟩ v) :=
  ⟨h.os, h.tape, h.output, by rw [setCell_size]; exact h.size, fun k hk hn => (setCell_block fun e => hn (by rw [e]; exact hrb)).trans (h.block k hk hn)⟩
theorem on_mark {G : Nat → Prop} {w1 W : World} (h : Only G w1 W) {D : Nat} (hD : w1.heap.size ≤ D) (o : Obj) : Only G w1 (W.putObj D o) :=
  only_on h (grownBy_putObj' W D o) fun r e => by cases e; exact hD
/-- All is as it was but for the disk's blocks. -/
theorem put_end {w w1 W : World} {s : Addr} {F : Nat → Prop} {S : DS} {nb rb : Nat} (h : ∃ F', Lst W s F' S ∧ ∀ g, F' g → F g ∨ w1.heap.size ≤ g) (hon : Only (fun g => F g ∨ g = nb ∨ g = rb) w1 W) (hb : Below w.heap.size w w1) (hnb : w.heap.size ≤ nb) (hrb : w.heap.size ≤ rb) : Turned Lst w s F W S := by
  obtain ⟨F', h1, h2⟩ := h
  refine ⟨F', h1, fun g hg => (h2 g hg).imp id fun h => Nat.le_trans hb.size h, ⟨hon.os.trans hb.os, hon.tape.trans hb.tape, hon.output.trans hb.output, Nat.le_trans hb.size hon.size, fun g hg hn => (hon.block g (Nat.lt_of_lt_of_le hg hb.size) ?_).trans (hb.block g hg)⟩⟩
  rintro (h | h | h)
  · exact hn h
  · omega
  · omega
section
variable {w : World} {vb d : Nat} {V : VS}
set_option maxHeartbeats 1000000 in
theorem put_bad (h : Blk w vb 73 (vcs d V)) (hn : V.n ≤ 16384) (at_ : Int) (ha : at_ < 0 ∨ (V.n : Int) ≤ at_) (A : Option Addr) (n c : Nat) :
    Calls Try.prog 16 #[.pointer (some ⟨vb, 0, none⟩), .int .i64 at_, .slice A n c] w fun x w' => x = .returned (.int .i64 1) ∧ Below w.heap.size w w' := by
  have KF := Lib.hid (fun W (hb : Below w.heap.size w W) => fault_bad (h.below hb h.lt) hn at_ ha)
  have HA := Lib.hid (((Below.refl w.heap.size w).alloc (Nat.le_refl _) (.cells #[.pointer (some ⟨vb, 0, none⟩)] 33)).alloc (by simp) (.cells #[.int .i64 0] 27))
  clear h ha hn
  go_enter Try.func16, Try.ntmps16
  go_wp2_with fail
  (with_reducible refine (KF.out _ HA.out).mono ?_)
  rintro x w' ⟨rfl, rfl⟩
  go_wp2_with fail
  refine bodyPost_ret (v := .int .i64 1) ?_ rfl ?_
  · simp [results, Try.f16, go_sem]
  · exact ⟨rfl, ((Below.refl _ _).alloc (Nat.le_refl _) _).alloc (by simp) _⟩
set_option maxHeartbeats 1000000 in
theorem put_long (h : Blk w vb 73 (vcs d V)) (hn : V.n ≤ 16384) (h1 : 1 ≤ V.each) (h2 : V.each ≤ 16384) (t : Nat) (ht : t < V.n) (A : Option Addr) (n c : Nat) (hl : V.room < n) :
    Calls Try.prog 16 #[.pointer (some ⟨vb, 0, none⟩), .int .i64 (t : Nat), .slice A n c] w fun x w' => x = .returned (.int .i64 4) ∧ Below w.heap.size w w' := by
  have KF := Lib.hid (fun W (hb : Below w.heap.size w W) => fault_ok (h.below hb h.lt) hn t ht)
  have KR := Lib.hid (fun W (hb : Below w.heap.size w W) => room_ok (h.below hb h.lt) h1 h2)
  have HA := Lib.hid (((Below.refl w.heap.size w).alloc (Nat.le_refl _) (.cells #[.pointer (some ⟨vb, 0, none⟩)] 33)).alloc (by simp) (.cells #[.int .i64 0] 27))
  obtain ⟨r, hr⟩ : ∃ r, V.room = r := ⟨_, rfl⟩
  rw [hr] at KR hl
  clear h ht hn h1 h2 hr
  go_enter Try.func16, Try.ntmps16
  go_wp2_with fail
  (with_reducible refine (KF.out _ HA.out).mono ?_)
  rintro x w' ⟨rfl, rfl⟩
  go_wp2_with fail
  (with_reducible refine (KR.out _ HA.out).mono ?_)
  rintro x w' ⟨rfl, rfl⟩
  go_wp2_with fail
  refine bodyPost_ret (v := .int .i64 4) ?_ rfl ?_
  · simp [results, Try.f16, go_sem]
  · exact ⟨rfl, ((Below.refl _ _).alloc (Nat.le_refl _) _).alloc (by simp) _⟩
set_option maxRecDepth 100000 in
set_option maxHeartbeats 4000000 in
theorem put_main (h : Blk w vb 73 (vcs d V)) {F : Nat → Prop} {S : DS} (hst : Lst w ⟨d, 0, none⟩ F S) (hF : ¬ F vb) (hf : V.Fits S.n) (t : Nat) (ht : t < V.n) (A : Option Addr) (n c : Nat) (b : List UInt8) (hl : n ≤ V.room) (hw : FewBy (nSec (n + 4)) S) (hb : b.length = n) (hnc : n ≤ c) (hcm : c ≤ maxLen) (hn : n ≤ 100000) (hr : Rd w w.heap.size A b) :
    Calls Try.prog 16 #[.pointer (some ⟨vb, 0, none⟩), .int .i64 (t : Nat), .slice A n c] w fun x w' => x = .returned (.int .i64 ((putL (nSec (n + 4)) S (V.first t) (headB b)).2 : Nat)) ∧ Turned Lst w ⟨d, 0, none⟩ F w' (putL (nSec (n + 4)) S (V.first t) (headB b)).1 := by
  have hle := (disksOk.ok hst).le
  have hvn : V.n ≤ 16384 := by
    have h1 := hf.all
    have h2 := Nat.mul_le_mul_left V.n hf.each.1
    omega
  have KF := Lib.hid (fun W (hb : Below w.heap.size w W) => fault_ok (h.below hb h.lt) hvn t ht)
  have KR := Lib.hid (fun W (hb : Below w.heap.size w W) => room_ok (h.below hb h.lt) hf.each.1 hf.each.2)
  have K1 := Lib.hid (fun W (hb : Below w.heap.size w W) => first_any (h.below hb h.lt) hf hle t ht)
  have KP := Lib.hid (fun W => put_sl none [] 0 0 n 4 4 (be 4 n) W rfl (Rd.nil _ _ _) (by simp) rfl rfl)
  obtain ⟨i0, hi, hi2⟩ := Option.map_eq_some_iff.1 info_u8
  have hz0 : i0.zero = some (.int .u8 0) := congrArg (·.1) hi2
  have hz1 : i0.size = 1 := congrArg (·.2.1) hi2
  have hz2 : i0.bytes = 1 := congrArg (·.2.2) hi2
  have HI := Lib.hid (And.intro hi (And.intro hz0 (And.intro hz1 hz2)))
  have hba := ((Below.refl w.heap.size w).alloc (Nat.le_refl _) (.cells #[.pointer (some ⟨vb, 0, none⟩)] 33)).alloc (by simp) (.cells #[.int .i64 0] 27)
  have hk1 : Blk ((w.alloc (.cells #[.pointer (some ⟨vb, 0, none⟩)] 33)).alloc (.cells #[.int .i64 0] 27)) w.heap.size 33 #[.pointer (some ⟨vb, 0, none⟩)] := (Blk.new w _ _).below ((Below.refl _ _).alloc (Nat.le_refl _) _) (by simp)
  have hk2 : Blk ((w.alloc (.cells #[.pointer (some ⟨vb, 0, none⟩)] 33)).alloc (.cells #[.int .i64 0] 27)) (w.heap.size + 1) 27 #[.int .i64 0] := blk_at _ _ _ (by simp)
  have hsa : ((w.alloc (.cells #[.pointer (some ⟨vb, 0, none⟩)] 33)).alloc (.cells #[.int .i64 0] 27)).heap.size = w.heap.size + 2 := by simp
  obtain ⟨wa, hwa⟩ : ∃ wa, (w.alloc (.cells #[.pointer (some ⟨vb, 0, none⟩)] 33)).alloc (.cells #[.int .i64 0] 27) = wa := ⟨_, rfl⟩
  obtain ⟨q0, hq0⟩ : ∃ q0, w.heap.size = q0 := ⟨_, rfl⟩
  obtain ⟨r, hr'⟩ : ∃ r, V.room = r := ⟨_, rfl⟩
  obtain ⟨a, ha⟩ : ∃ a, V.first t = a := ⟨_, rfl⟩
  obtain ⟨N, hN⟩ : ∃ N, 4 + n = N := ⟨_, rfl⟩
  obtain ⟨xb, hxb⟩ : ∃ xb, headB b = xb := ⟨_, rfl⟩
  rw [hxb]
  have HXB := Lib.hid hxb
  have HAL := Lib.hid (show a ≤ 20000 by have := hf.in_ (j := 0) ht hf.each.1; omega)
  rw [hr'] at KR hl
  rw [ha] at K1 ⊢
  rw [hwa] at hba hk1 hk2 hsa
  rw [hq0] at hk1 hk2 hsa
  rw [show n + 4 = N by omega] at hw ⊢
  have HWA := Lib.hid hwa
  have HQ := Lib.hid hq0
  have HBA := Lib.hid (show Below w.heap.size w wa ∧ Blk wa q0 33 #[.pointer (some ⟨vb, 0, none⟩)] ∧ Blk wa (q0 + 1) 27 #[.int .i64 0] ∧ wa.heap.size = q0 + 2 from ⟨hba, hk1, hk2, hsa⟩)
  have HH := Lib.hid h
  have HST := Lib.hid hst
  have HFV := Lib.hid hF
  have HR := Lib.hid (fun W (hb' : Below w.heap.size w W) => (hr.below hb').more hb'.size)
  have HB := Lib.hid hb
  have HN := Lib.hid hN
  have HW := Lib.hid hw
  have HC := Lib.hid (show Hid (n ≤ c ∧ c ≤ maxLen) from Lib.hid ⟨hnc, hcm⟩)
  unfold maxLen at hcm
  clear h hst hF hf ht hw hb hr hi hi2 hz0 hz1 hz2 hle hvn hwa hq0 hr' ha hba hk1 hk2 hsa hN hxb
  refine (callsIn_wide (n := 3)).1 ?_
  refine callsIn_of_wp_marks Try.func16 rfl trivial ?_ rfl
  simp only [Try.ntmps16, List.size_toArray, List.length_cons, List.length_nil, Nat.reduceAdd, Nat.reduceSub, Array.replicate_succ, Array.replicate_zero, List.push_toArray, List.append_toArray, List.nil_append, List.cons_append]
  refine wpIn_wide.2 ?_
  go_wp2_with fail
  rw [HWA.out, HQ.out]
  have hcv : wa.cell? ⟨q0, 0, none⟩ = some (.pointer (some ⟨vb, 0, none⟩)) := HBA.out.2.1.cell 0
  (with_reducible refine (KF.out _ HBA.out.1).mono ?_)
  rintro x w' ⟨rfl, rfl⟩
  go_wp2_with fail
  (with_reducible refine (KR.out _ HBA.out.1).mono ?_)
  rintro x w' ⟨rfl, rfl⟩
  go_wp2_with fail
  (with_reducible refine (KP.out _).mono ?_)
  rintro x w2 ⟨A2, c2, rfl, ho2, hb2⟩
  have hbw2 := HBA.out.1.trans (hb2.mono HBA.out.1.size)
  have H2 := Lib.hid (And.intro ho2 (And.intro hb2 hbw2))
  have HRA := Lib.hid (HR.out _ hbw2)
  have HOW := Lib.hid ho2.2
  clear ho2 hb2 hbw2 hcv
  go_wp2_with (at_builtin; refine wpList_append_more _ rfl (.tmp 26) (.tmp 27) 42 rfl wa.heap.size 5 i0 Try.underlying42 HI.out.1 HI.out.2.1 HI.out.2.2.1 HI.out.2.2.2 _ 4 (bv (be 4 n)) rfl HOW.out _ A c n b rfl HB.out HRA.out (by rw [HB.out]; omega) H2.out.2.1.size ?_)
  intro A3 c3 w3 ho3 hg3
  rw [HN.out] at ho3 ⊢
  have H3 := Lib.hid (show Own w3 wa.heap.size A3 c3 N xb ∧ Below wa.heap.size wa w3 from by
    rw [← HXB.out]
    refine ⟨⟨by rw [headB_length, HB.out, ← HN.out]; omega, ?_⟩, H2.out.2.1.grown hg3 H2.out.2.1.size fun g hg => (H2.out.1.2.lt g hg).1⟩
    rw [headB, HB.out, bv_append]
    exact ho3)
  clear ho3 hg3
  have hcv : w3.cell? ⟨q0, 0, none⟩ = some (.pointer (some ⟨vb, 0, none⟩)) := (HBA.out.2.1.below H3.out.2 HBA.out.2.1.lt).cell 0
  go_wp2_with fail
  (with_reducible refine (K1.out _ (HBA.out.1.trans (H3.out.2.mono HBA.out.1.size))).mono ?_)
  rintro x w4 ⟨rfl, q, hq⟩
  have H4 := Lib.hid (show Own w4 wa.heap.size A3 c3 N xb ∧ Below wa.heap.size wa w4 from by
    rw [← hq]
    exact ⟨H3.out.1.below (below_drewN (Below.refl _ _) q), below_drewN H3.out.2 q⟩)
  clear hq hcv H3
  go_wp2_with fail
  (with_reducible refine (chunk_ok _ _ _ _).mono ?_)
  rintro x w5 ⟨rfl, rfl⟩
  go_wp2_with fail
  obtain ⟨hs1, hb1, hkn, hkx, hkb⟩ := three_blocks w4 3 42 3 #[.int .i64 (a : Nat)] #[.slice A3 N c3] #[.int .i64 128]
  obtain ⟨nb, hnb⟩ : ∃ nb, w4.heap.size = nb := ⟨_, rfl⟩
  rw [hnb] at hs1 hkn hkx hkb ⊢
  generalize hw1 : ((w4.alloc (.cells #[.int .i64 (a : Nat)] 3)).alloc (.cells #[.slice A3 N c3] 42)).alloc (.cells #[.int .i64 128] 3) = w1 at *
  clear hw1
  have hbw4 : Below w.heap.size w w4 := HBA.out.1.trans (H4.out.2.mono HBA.out.1.size)
  have hbw1 : Below w.heap.size w w1 := hbw4.trans (hb1.mono hbw4.size)
  have hq01 : q0 + 2 ≤ nb := by have := H4.out.2.size; have := HBA.out.2.2.2; omega
  have hwq := HQ.out
  have hO1 := H4.out.1.below hb1
  have hN0 : 0 < N := by have := HN.out; omega
  obtain ⟨g, hA3, hgo, hgl, _⟩ := row_at hO1.2 hN0
  have hgb := (World.ownsRow.lt hO1.2 g hgo).1
  have hgn := (World.ownsRow.lt H4.out.1.2 g hgo).2
  rw [hnb] at hgn
  have hcap := hO1.cap
  subst hA3
  have hN2 : N ≤ 200000 := by have := HN.out; omega
  have hit := it_chunks 2 (by omega) (nb + 1) (nb + 1 + 1) g N c3 w1 hkx hkb hcap.1 hcap.2 hN0 hN2
  have hst1 : Lst w1 ⟨d, 0, none⟩ F S := disksOk.below HST.out hbw1
  have hST2 := Lib.hid (show a ≤ 20000 from HAL.out)
  have hFl := disksOk.lt HST.out
  have hgF : ¬ F g := fun h => by have := hFl g h; have := HBA.out.2.2.2; omega
  have hxl : xb.length = N := hO1.1
  have hrd1 : Rd w1 w1.heap.size (some ⟨g, 0, none⟩) xb := hO1.rd
  have hkv1 : Blk w1 q0 33 #[.pointer (some ⟨vb, 0, none⟩)] := by
    have := HBA.out.2.1.below H4.out.2 HBA.out.2.1.lt
    exact this.below hb1 this.lt
  have hkr1 : Blk w1 (q0 + 1) 27 #[.int .i64 0] := by
    have := HBA.out.2.2.1.below H4.out.2 HBA.out.2.2.1.lt
    exact this.below hb1 this.lt
  have hkh1 : Blk w1 vb 73 (vcs d V) := HH.out.below hbw1 HH.out.lt
  have hvl := HH.out.lt
  refine (wpIn_wide (n := 3)).1 ?_
  have hent := enters_of Try.func50 (by kernel_rfl) rfl
  have hkp := fun W l o o' => KX.putObj (w := w1) (bx := nb + 1) (bn := nb + 1 + 1) (by omega) (by omega) W l o o'
  have hown := puts_own (K := nSec N) (w1 := w1) (d := d) (F := F) (nb := nb) (S := S) (a := a) (x := xb) (by omega)
  have hix := putx_own (K := nSec N) (w1 := w1) (d := d) (F := F) (nb := nb) (rb := q0 + 1) (S := S) (a := a) (x := xb) (by omega)
  have hst0 : PutS w1 d F nb S a (pcsV (K := nSec N) xb []) w1 := ⟨⟨F, hst1, fun g hg => .inl hg⟩, only_refl _ _, rfl, by simpa using hkn⟩
  refine wpIn_rangeFunc_ownF (F := Fence.wide) (n := 3) (P := Try.prog) rfl (by decide) (gf := 50) (lb := #[.pointer (some ⟨nb + 1, 0, none⟩), .pointer (some ⟨nb + 1 + 1, 0, none⟩)]) rfl trivial hent
    hit KX.trans hkp (Below.refl _ _) (fun _ => rfl)
    (fun pre W => PutS w1 d F nb S a (pcsV xb pre) W) (fun c pre W => c = .ret ∧ PutX w1 d F nb (q0 + 1) S a (pcsV xb pre) W)
    ?hown ?hix ?hst
    (fun y => { tmps := #[.pointer (some ⟨vb, 0, none⟩), .int .i64 (t : Nat), .slice A n c, .pointer (some ⟨q0, 0, none⟩), undef, undef, .pointer (some ⟨q0 + 1, 0, none⟩), .int .i64 0, .slice (some ⟨g, 0, none⟩) N c3, .pointer (some ⟨nb, 0, none⟩), pieceV g N y, undef,
      .pointer (some ⟨vb, 0, none⟩), .int .i64 (t : Nat), .int .i64 0, .int .i64 0, .bool false, undef, .slice A n c, .int .i64 (n : Nat), .pointer (some ⟨vb, 0, none⟩), .int .i64 (r : Nat), .bool false, .slice A n c, .int .i64 (n : Nat), .int .u64 (n : Nat), .slice A2 4 c2, .slice A n c,
      .slice (some ⟨g, 0, none⟩) N c3, .pointer (some ⟨vb, 0, none⟩), .int .i64 (t : Nat), .int .i64 (a : Nat), .slice (some ⟨g, 0, none⟩) N c3, .func (.func 50) #[] #[.pointer (some ⟨nb + 1, 0, none⟩), .pointer (some ⟨nb + 1 + 1, 0, none⟩)],
      pieceV g N y, undef, undef, undef, undef, undef, undef, undef, undef, undef, undef, undef, undef], defers := [] }) ?assign ?body ?done ?stop
  case hown => exact hown
  case hix => exact hix
  case hst => exact hst0
  case assign =>
    intro l y W K hK
    gi_wp2
    exact hK
  case body =>
    rintro l pre y W ⟨⟨F', h1, h2⟩, hon, hok, hnx⟩ hlen
    obtain ⟨ps, hps⟩ : ∃ ps, pcsV xb pre = ps := ⟨_, rfl⟩
    have hpl : ps.length = pre.length := by rw [← hps]; simp
    have hpp : pcsV xb (pre ++ [y]) = ps ++ [(xb.drop (128 * y.val)).take 128] := by rw [← hps]; simp
    rw [hps] at h1 hok hnx
    obtain ⟨p, hp⟩ : ∃ p, (xb.drop (128 * y.val)).take 128 = p := ⟨_, rfl⟩
    have hplen : p.length = pieceN N y.val := by rw [← hp, piece_length, hxl]
    rw [hp] at hpp
    have hsn := putP_snoc ps S a p hok
    have hgr := putP_grow ps S a
    have hq0F : ¬ F q0 := fun h => by have := hFl q0 h; omega
    have hr0F : ¬ F (q0 + 1) := fun h => by have := hFl (q0 + 1) h; omega
    have hnbF : ¬ F nb := fun h => by have := hFl nb h; omega
    have hF1 : ∀ k, k < w1.heap.size → ¬ F k → ¬ F' k := fun k hk hn h => (h2 k h).elim hn (by omega)
    have hcv : W.drew.cell? ⟨q0, 0, none⟩ = some (.pointer (some ⟨vb, 0, none⟩)) := (hkv1.same (hon.block q0 (by omega) (by rintro (h | h) <;> first | exact hq0F h | omega))).cell 0
    have hcd : W.drew.cell? ⟨vb, 0, none⟩ = some (.pointer (some ⟨d, 0, none⟩)) := (hkh1.same (hon.block vb (by omega) (by rintro (h | h) <;> first | exact HFV.out h | omega))).cell 0
    have hcn : W.drew.cell? ⟨nb, 0, none⟩ = some (.int .i64 ((a + ps.length : Nat) : Int)) := hnx.cell 0
    have hkr : Blk W (q0 + 1) 27 #[.int .i64 0] := hkr1.same (hon.block (q0 + 1) (by omega) (by rintro (h | h) <;> first | exact hr0F h | omega))
    have hrd : Rd W.drew W.drew.heap.size (some ⟨g, 128 * y.val, none⟩) p := by
      rw [← hp]
      intro hpos
      obtain ⟨g', off, e, _, hc⟩ := hrd1 (by omega)
      injection e with e
      injection e with e1 e2 _
      subst e1 e2
      refine ⟨g, 128 * y.val, rfl, Nat.lt_of_lt_of_le hgl hon.size, fun j hj => ?_⟩
      rw [List.length_take, List.length_drop] at hj
      have h3 := hc (128 * y.val + j) (by omega)
      rw [Nat.zero_add] at h3
      have h4 : W.drew.cell? ⟨g, 128 * y.val + j, none⟩ = w1.cell? ⟨g, 128 * y.val + j, none⟩ := World.cell?_of_block (hon.block g hgl (by rintro (h | h) <;> first | exact hgF h | omega))
      rw [h4, h3, List.getElem_take, List.getElem_drop]
    have hK2 : nSec N ≤ 1600 := by unfold nSec; omega
    have hwr := CallsIn.inRound l ((callsIn_wide (n := 3 - 1 - 1 - 1)).2 (disksOk.write ⟨d, 0, none⟩ F' (putP S a ps).1 ((a + ps.length : Nat) : Int) (some ⟨g, 128 * y.val, none⟩) (pieceN N y.val) (pieceN N y.val) p W.drew
      (disksOk.keep h1 fun _ _ => rfl) ⟨by have := HW.out.1; omega, by have := HW.out.2; omega⟩ ⟨by omega, by have := hST2.out; omega⟩ hplen (Nat.le_refl _) (by unfold pieceN maxLen; split <;> omega) hrd (fun ad e _ hf => by
        injection e with e
        subst e
        exact hF1 g hgl hgF hf)))
    obtain ⟨S1, hS1⟩ : ∃ S1, (putP S a ps).1 = S1 := ⟨_, rfl⟩
    obtain ⟨e1, he1⟩ : ∃ e1, writeE S1 ((a + ps.length : Nat) : Int) (pieceN N y.val) = e1 := ⟨_, rfl⟩
    rw [hS1] at hwr hsn h1
    rw [he1] at hwr
    rw [hplen, he1] at hsn
    obtain ⟨z, hz⟩ : ∃ z, a + ps.length = z := ⟨_, rfl⟩
    rw [hz] at hwr hcn hnx
    have hz2 : z ≤ 200000 := by have := hST2.out; omega
    have hwx : ∀ (W2 : World), Turned Lst W.drew ⟨d, 0, none⟩ F' W2 (writeS S1 (z : Int) p) → (W2.cell? ⟨nb, 0, none⟩ = some (.int .i64 (z : Nat)) ∧ W2.frozen? ⟨nb, 0, none⟩ = false) ∧ (W2.cell? ⟨q0 + 1, 0, none⟩ = some (.int .i64 0) ∧ W2.frozen? ⟨q0 + 1, 0, none⟩ = false) := by
      rintro W2 ⟨F2, _, _, ho⟩
      have k1 : Blk W2 nb 3 #[.int .i64 (z : Nat)] := hnx.same (ho.block nb hnx.lt (hF1 nb (by omega) hnbF))
      have k2 : Blk W2 (q0 + 1) 27 #[.int .i64 0] := hkr.same (ho.block (q0 + 1) hkr.lt (hF1 (q0 + 1) (by omega) hr0F))
      exact ⟨⟨k1.cell 0, k1.frozen 0⟩, k2.cell 0, k2.frozen 0⟩
    have HWX := Lib.hid hwx
    have HWR : Hid (CallsIn (Fence.wide.inRound l) (3 - 1 - 1 - 1) Try.prog 20 #[.pointer (some ⟨d, 0, none⟩), .int .i64 (z : Nat), pieceV g N y] W.drew fun e w' => e = .returned (.int .i64 (e1 : Nat)) ∧ Turned Lst W.drew ⟨d, 0, none⟩ F' w' (writeS S1 (z : Nat) p)) := Lib.hid hwr
    have hmx : Try.prog.follows .mixedOrders = true := by kernel_rfl
    clear hwr hwx
    rw [hz] at hsn
    gi_wp2
    refine wpIn_mono (Q := fun e a' W2 => e = .normal ∧ a' = { tmps := #[.pointer (some ⟨vb, 0, none⟩), .int .i64 (t : Nat), .slice A n c, .pointer (some ⟨q0, 0, none⟩), undef, undef, .pointer (some ⟨q0 + 1, 0, none⟩), .int .i64 0, .slice (some ⟨g, 0, none⟩) N c3, .pointer (some ⟨nb, 0, none⟩), pieceV g N y, .int .i64 (e1 : Nat),
      .pointer (some ⟨vb, 0, none⟩), .int .i64 (t : Nat), .int .i64 0, .int .i64 0, .bool false, undef, .slice A n c, .int .i64 (n : Nat), .pointer (some ⟨vb, 0, none⟩), .int .i64 (r : Nat), .bool false, .slice A n c, .int .i64 (n : Nat), .int .u64 (n : Nat), .slice A2 4 c2, .slice A n c,
      .slice (some ⟨g, 0, none⟩) N c3, .pointer (some ⟨vb, 0, none⟩), .int .i64 (t : Nat), .int .i64 (a : Nat), .slice (some ⟨g, 0, none⟩) N c3, .func (.func 50) #[] #[.pointer (some ⟨nb + 1, 0, none⟩), .pointer (some ⟨nb + 1 + 1, 0, none⟩)],
      pieceV g N y, .pointer (some ⟨vb, 0, none⟩), .pointer (some ⟨vb, 0, none⟩), .pointer (some ⟨vb, 0, none⟩), .pointer (some ⟨d, 0, none⟩), .int .i64 (z : Nat), pieceV g N y, .int .i64 (e1 : Nat), undef, undef, undef, undef, undef], defers := [] } ∧ Turned Lst W.drew ⟨d, 0, none⟩ F' W2 (writeS S1 (z : Nat) p)) ?_ ?_
    · gi_region_with_o ((with_reducible refine And.intro ?_ ?_); exact trivial; gi_at_call 20; (with_reducible refine HWR.out.mono ?_); rintro x W2 ⟨rfl, ht⟩)
      all_goals exact ⟨rfl, rfl, ht⟩
    · rintro e a' W2 ⟨rfl, rfl, ht⟩
      obtain ⟨⟨hn1, hn2⟩, hr1, hr2⟩ := HWX.out W2 ht
      obtain ⟨F2, t1, t2, t3⟩ := ht
      have hko : KeepsOthers W W2 := (KeepsOthers.drew W).trans (others_of_only (disksOk.keep h1 fun _ _ => rfl) t3)
      have ht2 : ∀ k, F2 k → F k ∨ w1.heap.size ≤ k := fun k hk => by
        rcases t2 k hk with h | h
        · exact h2 k h
        · exact .inr (Nat.le_trans hon.size h)
      have hF2 : ∀ k, k < w1.heap.size → ¬ F k → ¬ F2 k := fun k hk hn h => (ht2 k h).elim hn (by omega)
      have hon2 : Only (fun k => F k ∨ k = nb) w1 W2 := hon.trans (show Only F' W W2 from ⟨t3.os, t3.tape, t3.output, t3.size, t3.block⟩) fun k hk => (h2 k hk).imp .inl id
      have hnx2 : Blk W2 nb 3 #[.int .i64 (z : Nat)] := hnx.same (t3.block nb hnx.lt (hF1 nb (by omega) hnbF))
      have hkr2 : Blk W2 (q0 + 1) 27 #[.int .i64 0] := hkr.same (t3.block (q0 + 1) hkr.lt (hF1 (q0 + 1) (by omega) hr0F))
      by_cases hE : e1 = 0
      · subst hE
        have HKX := Lib.hid (show KX (nb + 1) (nb + 1 + 1) W (W2.setCell ⟨nb, 0, none⟩ (.int .i64 ((z : Int) + 1))) from
          ⟨(setCell_block (by omega)).trans (t3.block (nb + 1) (Nat.lt_of_lt_of_le (by omega) hon.size) (hF1 (nb + 1) (by omega) fun h => by have := hFl _ h; omega)),
           (setCell_block (by omega)).trans (t3.block (nb + 1 + 1) (Nat.lt_of_lt_of_le (by omega) hon.size) (hF1 (nb + 1 + 1) (by omega) fun h => by have := hFl _ h; omega))⟩)
        have HPS := Lib.hid (show PutS w1 d F nb S a (pcsV xb (pre ++ [y])) (W2.setCell ⟨nb, 0, none⟩ (.int .i64 ((z : Int) + 1))) from by
          rw [hpp]
          refine ⟨⟨F2, ?_, ht2⟩, on_set hon2 (.inr rfl) _, by rw [hsn], ?_⟩
          · rw [hsn]
            exact st_set t1 (hF2 nb (by omega) hnbF) _
          · have h3 := hnx2.set_ 0 (.int .i64 ((z : Int) + 1))
            rw [List.length_append, List.length_singleton, show ((a + (ps.length + 1) : Nat) : Int) = (z : Int) + 1 by omega]
            exact h3)
        have HKO := Lib.hid (hko.trans (KeepsOthers.setCell W2 ⟨nb, 0, none⟩ (.int .i64 ((z : Int) + 1))))
        clear hko hon2 hnx2 hkr2 t1 t2 t3 hsn hpp hgr hok hnx hon hkr hrd hcv hcd hcn
        gi_wp2
        exact own_post HKO.out HKX.out HPS.out
      · have HPX := Lib.hid (show PutX w1 d F nb (q0 + 1) S a (pcsV xb (pre ++ [y])) (W2.setCell ⟨q0 + 1, 0, none⟩ (.int .i64 (e1 : Nat))) from by
          rw [hpp]
          refine ⟨⟨F2, ?_, ht2⟩, on_set ⟨hon2.os, hon2.tape, hon2.output, hon2.size, fun k hk hn => hon2.block k hk fun h => hn (h.imp id .inl)⟩ (.inr (.inr rfl)) _, by rw [hsn]; exact hE, ?_⟩
          · rw [hsn]
            exact st_set t1 (hF2 (q0 + 1) (by omega) hr0F) _
          · rw [hsn]
            exact hkr2.set_ 0 (.int .i64 (e1 : Nat)))
        have HKO := Lib.hid (hko.trans (KeepsOthers.setCell W2 ⟨q0 + 1, 0, none⟩ (.int .i64 (e1 : Nat))))
        have hE2 : ¬ (e1 : Int) = 0 := by omega
        clear hko hon2 hnx2 hkr2 t1 t2 t3 hsn hpp hgr hok hnx hon hkr hrd hcv hcd hcn
        gi_wp2
        exact own_ret HKO.out ⟨rfl, HPX.out⟩
  case done =>
    rintro D ys W hD rfl ⟨⟨F', h1, h2⟩, hon, hok, hnx⟩ hK
    have hr0F : ¬ F (q0 + 1) := fun h => by have := hFl (q0 + 1) h; omega
    have hkr : Blk W (q0 + 1) 27 #[.int .i64 0] := hkr1.same (hon.block (q0 + 1) (by omega) (by rintro (h | h) <;> first | exact hr0F h | omega))
    have hps : putP S a (pcsV xb (List.finRange (nSec N))) = putL (nSec N) S a xb := by rw [← putP_putL, ← pieces_fin]
    rw [hps] at h1 hok
    have hon2 : Only (fun g => F g ∨ g = nb ∨ g = q0 + 1) w1 W := ⟨hon.os, hon.tape, hon.output, hon.size, fun k hk hn => hon.block k hk fun h => hn (h.imp id .inl)⟩
    have hF1 : ¬ F' (q0 + 1) := fun h => (h2 _ h).elim hr0F (by omega)
    have hK2 : (W.setCell ⟨q0 + 1, 0, none⟩ (.int .i64 0)).heap[D]? = some (.deferred (some [])) := (KeepsOthers.setCell W ⟨q0 + 1, 0, none⟩ (.int .i64 0)).same D _ hK rfl
    have HE := Lib.hid (put_end (w := w) ⟨F', st_mark (st_set h1 hF1 (.int .i64 0)) (.deferred none) hK2 rfl, h2⟩ (on_mark (on_set hon2 (.inr (.inr rfl)) (.int .i64 0)) hD (.deferred none)) hbw1 (by omega) (by omega))
    have hrc := hkr.cell 0
    have hrf := hkr.frozen 0
    have hc5 := (Blk.same (hkr.set_ 0 (.int .i64 0)) (World.putObj_heap_other (o := .deferred none) (show q0 + 1 ≠ D by omega))).cell 0
    have HOK := Lib.hid hok
    clear h1 hon hok hnx hps hon2 hkr
    go_wp2
    refine leaves_mark hK2 ?_
    refine ⟨.int .i64 0, ?_, ?_, HE.out⟩
    · simp [results, Try.f16, go_sem, hc5]
    · rw [HOK.out]; rfl
  case stop =>
    rintro D cd pre W hD hpre ⟨rfl, ⟨F', h1, h2⟩, hon, hbad, hrx⟩ hK
    obtain ⟨qs, hqs⟩ := hpre
    have hps : putP S a (pcsV xb pre) = putL (nSec N) S a xb := by
      rw [← putP_putL, ← pieces_fin, ← hqs, List.map_append, putP_stay _ _ _ _ hbad]
    rw [hps] at h1 hrx
    have HE := Lib.hid (put_end (w := w) ⟨F', st_mark h1 (.deferred none) hK rfl, h2⟩ (on_mark hon hD (.deferred none)) hbw1 (by omega) (by omega))
    have hc5 := (Blk.same hrx (World.putObj_heap_other (o := .deferred none) (show q0 + 1 ≠ D by omega))).cell 0
    obtain ⟨E, hE⟩ : ∃ E, (putL (nSec N) S a xb).2 = E := ⟨_, rfl⟩
    rw [hE] at hc5
    have HEE := Lib.hid hE
    clear h1 hon hbad hrx hps hqs hE
    gi_wp2
    refine leaves_mark hK ?_
    refine ⟨.int .i64 (E : Nat), ?_, by rw [HEE.out], HE.out⟩
    simp [results, Try.f16, go_sem, hc5]
end
end Go.Proofs.Ythbgcffnnholeaa
