/- The contracts of the package's New and of Clone at sectors and at writes. No statement of the seat is proved here. -/
import Derived.Test.YtdnconakpajdgaaDskLandB
import Derived.Deep.AppendLies
import Derived.Lib.SliceRun
namespace Go.Proofs.Ytdnconakpajdgaa
open Go.RowKit
set_option linter.unusedVariables false
set_option linter.unusedSimpArgs false

theorem made_at (z : Array Value) (n j : Nat) (hj : j < n) (h : j < (madeCells z n).size) : (madeCells z n)[j] = z[j % z.size]! := by
  simp [madeCells]
theorem made_secs (n : Nat) : madeCells (bv (List.replicate 128 0)).toArray (n * 128) = (secs n fun _ => padS []).toArray := by
  have e0 : padS [] = List.replicate 128 0 := by simp [padS]
  rw [e0]
  have hl : (secs n fun _ => List.replicate 128 0).length = n * 128 := secs_length fun _ => by simp
  have h5 : (bv (List.replicate 128 (0 : UInt8))).toArray.size = 128 := by simp [bv_length]
  apply Array.ext
  · rw [size_madeCells, List.size_toArray, hl]
  · intro j hj hj2
    rw [size_madeCells] at hj
    have h1 : j / 128 < n := by omega
    have h2 : j % 128 < 128 := by omega
    have h3 := secs_at (n := n) (i := j / 128) (j := j % 128) (f := fun _ => List.replicate 128 0) (fun _ => by simp) h1 h2
    rw [show j / 128 * 128 + j % 128 = j by omega, List.getElem?_eq_getElem (by omega), List.getElem?_eq_getElem (by rw [bv_length, List.length_replicate]; exact h2)] at h3
    have h3 := Option.some.inj h3
    rw [made_at _ _ _ hj, h5, List.getElem_toArray, h3, getElem!_pos _ _ (by rw [h5]; exact h2), List.getElem_toArray]
theorem sector_parts : ∃ i, Try.prog.info? 64 = some i ∧ i.zero = some (.agg (bv (List.replicate 128 0)).toArray) ∧ i.size = 128 ∧ i.bytes = 128 := by
  obtain ⟨i, h1, h2, h3⟩ := sector_zero
  have h4 : (Try.prog.info? 64).map (·.bytes) = some 128 := by kernel_rfl
  rw [h1] at h4
  exact ⟨i, h1, h2, h3, by simpa using h4⟩
theorem write_parts : ∃ i, Try.prog.info? 67 = some i ∧ i.zero = some (.agg (wc (0, List.replicate 128 0)).toArray) ∧ i.size = 129 ∧ i.bytes = 136 := by
  obtain ⟨i, h1, h2, h3⟩ := write_zero
  have h4 : (Try.prog.info? 67).map (·.bytes) = some 136 := by kernel_rfl
  rw [h1] at h4
  exact ⟨i, h1, h2, h3, by simpa using h4⟩
theorem new_bad (x : Int) (hx : x < 0 ∨ 16384 < x) (w : World) : Calls Try.prog 10 #[.int .i64 x] w fun e w' => e = .returned (.tuple #[.pointer none, .int .i64 1]) ∧ w = w' := by
  by_cases h1 : x < 0
  · clear hx
    go_enter Try.func10, Try.ntmps10
    go_wp2_with fail
    go_ret2
    exact ⟨rfl, rfl⟩
  · have h2 : 16384 < x := by omega
    clear hx
    go_enter Try.func10, Try.ntmps10
    go_wp2_with fail
    go_ret2
    exact ⟨rfl, rfl⟩
/-- The rows of a new disk, whichever was made first. -/
theorem new_ld (n : Nat) (hn : n ≤ 16384) (w : World) (A B : Nat) (hAB : (A = w.heap.size ∧ B = w.heap.size + 1) ∨ (A = w.heap.size + 1 ∧ B = w.heap.size)) {w3 : World}
    (h3 : w3 = ((w.alloc (.cells (secs n fun _ => padS []).toArray 64)).alloc (.cells (secs n fun _ => padS []).toArray 64)).alloc (.cells (lcells (some ⟨A, 0, none⟩) n (some ⟨B, 0, none⟩) n none 0 n 0 ⟨false, false, 0, 0⟩) 57)) :
    LD w3 (w.heap.size + 2) (some ⟨A, 0, none⟩) n (some ⟨B, 0, none⟩) n none 0 n (fun _ => padS []) (fun _ => padS []) [] ⟨false, false, 0, 0⟩ ∧ Below w.heap.size w w3 := by
  have hs : (secs n fun _ => padS []).length = n * 128 := secs_length fun _ => padS_length (by simp)
  obtain ⟨M, hM⟩ : ∃ M, (secs n fun _ => padS []) = M := ⟨_, rfl⟩
  rw [hM] at h3 hs
  obtain ⟨w1, hw1⟩ : ∃ w1, w.alloc (.cells M.toArray 64) = w1 := ⟨_, rfl⟩
  obtain ⟨w2, hw2⟩ : ∃ w2, w1.alloc (.cells M.toArray 64) = w2 := ⟨_, rfl⟩
  rw [hw1, hw2] at h3
  have z1 : w1.heap.size = w.heap.size + 1 := by rw [← hw1]; exact Array.size_push ..
  have z2 : w2.heap.size = w.heap.size + 2 := by
    rw [← hw2]
    have : (w1.alloc (.cells M.toArray 64)).heap.size = w1.heap.size + 1 := Array.size_push ..
    omega
  have b1 : Below w.heap.size w w1 := hw1 ▸ (Below.refl _ _).alloc (Nat.le_refl _) _
  have b2 : Below w1.heap.size w1 w2 := hw2 ▸ (Below.refl _ _).alloc (Nat.le_refl _) _
  have b3 : Below w2.heap.size w2 w3 := h3 ▸ (Below.refl _ _).alloc (Nat.le_refl _) _
  have k1 : Blk w3 w.heap.size 64 M.toArray := ((show Blk w1 w.heap.size 64 M.toArray by rw [← hw1]; exact Blk.new w _ _).below b2 (by omega)).below b3 (by omega)
  have k2 : Blk w3 (w.heap.size + 1) 64 M.toArray := (show Blk w2 (w.heap.size + 1) 64 M.toArray by rw [← hw2, ← z1]; exact Blk.new w1 _ _).below b3 (by omega)
  have k3 : Blk w3 (w.heap.size + 2) 57 (lcells (some ⟨A, 0, none⟩) n (some ⟨B, 0, none⟩) n none 0 n 0 ⟨false, false, 0, 0⟩) := by rw [h3, ← z2]; exact Blk.new w2 _ _
  have row : ∀ g, Blk w3 g 64 M.toArray → w3.ownsRow 0 64 128 (.slice (some ⟨g, 0, none⟩) n n) n M := fun g hg =>
    ⟨hs, .inr ⟨g, n, M.toArray, rfl, Nat.zero_le _, hg, Nat.le_refl _, by unfold maxLen; omega, by rw [List.size_toArray, hs], by rw [List.toList_toArray, List.take_of_length_le (by omega)]⟩⟩
  refine ⟨⟨k3, ?_, ?_, World.ownsRow_nil _ _ _ _, ?_⟩, b1.trans ((b2.mono b1.size).trans (b3.mono (Nat.le_trans b1.size b2.size)))⟩
  · rw [hM]
    rcases hAB with ⟨rfl, rfl⟩ | ⟨rfl, rfl⟩
    · exact row _ k1
    · exact row _ k2
  · rw [hM]
    rcases hAB with ⟨rfl, rfl⟩ | ⟨rfl, rfl⟩
    · exact row _ k2
    · exact row _ k1
  · intro g hg e
    have e1 : A = g := by simpa [Value.ownBlock] using hg
    have e2 : B = g := by simpa [Value.ownBlock] using e
    omega
set_option maxHeartbeats 1000000 in
theorem new_good (n : Nat) (hn : n ≤ 16384) (w : World) : Calls Try.prog 10 #[.int .i64 (n : Nat)] w fun e w' => ∃ A B, e = .returned (.tuple #[.pointer (some ⟨w.heap.size + 2, 0, none⟩), .int .i64 0]) ∧
    LD w' (w.heap.size + 2) (some ⟨A, 0, none⟩) n (some ⟨B, 0, none⟩) n none 0 n (fun _ => padS []) (fun _ => padS []) [] ⟨false, false, 0, 0⟩ ∧ w.heap.size ≤ A ∧ w.heap.size ≤ B ∧ Below w.heap.size w w' := by
  obtain ⟨iz, hiz, hzz, hzs, hzb⟩ := sector_parts
  have hmk : ∀ W, (Instr.makeSlice 54 (.int .i64 (n : Int)) (.int .i64 (n : Int))).run Try.prog W = .ok (.slice (some ⟨W.heap.size, 0, none⟩) n n) (W.alloc (.cells (secs n fun _ => padS []).toArray 64)) := fun W => by
    have := run_make (P := Try.prog) W 54 64 iz _ Try.underlying54 hiz hzz .i64 .i64 (n : Int) (n : Int) (by omega) (by omega) (by rw [hzb]; omega) (by omega)
    rw [hzs, Int.toNat_natCast] at this
    rw [this, Value.cells, made_secs]
  have HL := Lib.hid (fun A B hAB w3 h3 => new_ld n hn w A B hAB (w3 := w3) h3)
  obtain ⟨M, hM⟩ : ∃ M, (secs n fun _ => padS []) = M := ⟨_, rfl⟩
  rw [hM] at hmk HL
  have h1 : ¬ (n : Int) < 0 := by omega
  have h2 : ¬ (16384 : Int) < (n : Int) := by omega
  clear hiz hzz hzs hzb hM
  go_enter Try.func10, Try.ntmps10
  go_wp2_with fail
  go_region
  · go_wp2_with fail
    go_ret2
    obtain ⟨k1, k2⟩ := HL.out _ _ (.inl ⟨rfl, rfl⟩) _ rfl
    exact ⟨w.heap.size, w.heap.size + 1, rfl, k1.keep fun g _ => rfl, Nat.le_refl _, Nat.le_succ _, ⟨k2.os, k2.tape, k2.output, k2.size, k2.block⟩⟩
  · go_wp2_with fail
    go_ret2
    obtain ⟨k1, k2⟩ := HL.out _ _ (.inr ⟨rfl, rfl⟩) _ rfl
    exact ⟨w.heap.size + 1, w.heap.size, rfl, k1.keep fun g _ => rfl, Nat.le_succ _, Nat.le_refl _, ⟨k2.os, k2.tape, k2.output, k2.size, k2.block⟩⟩
theorem form_any {w : World} {base : Nat} {e : TypeId} {sz n : Nat} {v : Value} {xs : List Value} (h : w.ownsRow base e sz v n xs) : ∃ A c, v = .slice A n c := by
  rcases h.2 with ⟨rfl, rfl⟩ | ⟨g, cap, cur, rfl, _⟩
  · exact ⟨_, _, rfl⟩
  · exact ⟨_, _, rfl⟩
/-- 'append(v, ys...)', v the call's own, ys a row of elements of many cells. -/
theorem wpList_append_src {P : Program} {w : World} {ops : Array Oper} {rest : List Oper} {o : Oper} {a : Act} {Q : Exit → Act → World → Prop} (hgd : o.guard = none) (s x : Operand) (t : TypeId)
    (ho : o.op = .call { callee := .builtin .append, args := #[s, x], argTypes := #[t, t] })
    (base : Nat) (e : TypeId) (i : TypeInfo) (z : Value) (size bytes : Nat) (ht : P.underlying t = some (.slice e)) (hi : P.info? e = some i) (hz : i.zero = some z) (hsize : i.size = size) (hby : i.bytes = bytes) (hzs : z.cells.size = size) (hsz : 0 < size)
    (v : Value) (n : Nat) (xs : List Value) (hs : a.eval s = v) (hown : w.ownsRow base e size v n xs)
    (ad : Addr) (m c : Nat) (news : List Value) (hx : a.eval x = .slice (some ad) m c) (hl : news.length = m * size) (hnews : ∀ j u, news[j]? = some u → w.cell? (ad.add j) = some u) (h1 : ∀ u ∈ news, u.oneCell' = true)
    (h63 : n + m ≤ maxLen) (hbytes : (n + m) * bytes ≤ 140737488355328) (hbase : base ≤ w.heap.size)
    (h : ∀ A' c' w', w'.ownsRow base e size (.slice A' (n + m) c') (n + m) (xs ++ news) → w.grownBy w' v.ownBlock → wpList P ops Q rest (a.put o.dst (.slice A' (n + m) c')) w') : wpList P ops Q (o :: rest) a w := by
  obtain ⟨v', w', hr, h2, h3, _⟩ := run_append_own (P := P) w base t o.type e i z size bytes ht hi hz hsize hby hzs hsz v n xs hown ad m c news hl hnews h1 h63 hbytes hbase
  obtain ⟨A', c', rfl⟩ := form_any h2
  refine wpList_plain hgd fun K hK => ?_
  unfold Oper.wp execOp
  simp only [ho, resolve, invoke, builtin, Sem.run_bind, Sem.run_pure, Result.andThen_ok, List.map_toArray, List.map_cons, List.map_nil, hs, hx, hr]
  exact hK _ _ (h A' c' w' h2 h3)
set_option maxHeartbeats 1000000 in
theorem clone_secs (A : Option Addr) (n c : Nat) (f : Nat → List UInt8) (hn : n ≤ 16384) (w : World) (h : w.ownsRow 0 64 128 (.slice A n c) n (secs n f)) :
    Calls Try.prog 27 #[.slice A n c] w fun e w' => ∃ A' c', e = .returned (.slice A' n c') ∧ w'.ownsRow w.heap.size 64 128 (.slice A' n c') n (secs n f) ∧ Below w.heap.size w w' := by
  have qT : ∀ (w : World) (a : Option Addr) (n c n' c' : Nat), (binOp .eql 54 (.slice a n c) (.slice none n' c')).run Try.prog w = .ok (.bool a.isNone) w := fun w a n c n' c' => Lib.run_eql_slice_nil w _ _ a n c n' c' Try.underlying54
  have hlen : (secs n f).length = n * 128 := h.1
  have hone : ∀ u ∈ secs n f, u.oneCell' = true := fun u hu => by
    simp only [secs, List.mem_flatMap] at hu
    obtain ⟨i, _, hu⟩ := hu
    exact bv_one _ u hu
  obtain ⟨M, hM⟩ : ∃ M, secs n f = M := ⟨_, rfl⟩
  rw [hM] at h hlen hone ⊢
  rcases A with _ | ad
  · obtain ⟨rfl, rfl⟩ : n = 0 ∧ c = 0 := by
      rcases h.2 with ⟨e, e2⟩ | ⟨g, cap, cur, e, _⟩
      · injection e with _ _ e3; exact ⟨e2, e3⟩
      · injection e with e _ _; cases e
    have hm0 : M = [] := List.eq_nil_of_length_eq_zero (by omega)
    rw [hm0]
    clear h hlen hone hM
    go_enter Try.func27, Try.ntmps27
    go_wp2_with fail
    go_ret
    exact ⟨_, _, rfl, World.ownsRow_nil _ _ _ _, Below.refl _ _⟩
  · obtain ⟨iz, hiz, hzz, hzs, hzb⟩ := sector_parts
    have hzc : (Value.agg (bv (List.replicate 128 (0 : UInt8))).toArray).cells.size = 128 := by simp [Value.cells, wc, bv_length]
    have hown : (w.alloc (.cells #[] 64)).ownsRow w.heap.size 64 128 (.slice (some ⟨w.heap.size, 0, none⟩) 0 0) 0 [] := World.ownsRow_lit w #[] 0 (Nat.le_refl _) (by simp [maxLen]) rfl
    have hb := (Below.refl w.heap.size w).alloc (Nat.le_refl _) (.cells #[] 64)
    have hsrc : ∀ j u, M[j]? = some u → (w.alloc (.cells #[] 64)).cell? (ad.add j) = some u := fun j u hu => by
      have h1 : w.cell? (ad.add j) = some u := by
        rcases h.2 with ⟨e, _⟩ | ⟨g, cap, cur, e, _⟩
        · injection e with e _ _; cases e
        · injection e with e _ _
          injection e with e
          subst e
          exact h.cells rfl j u hu
      exact (hb.cell (World.block_lt_of_cell? w _ h1)).trans h1
    go_enter Try.func27, Try.ntmps27
    go_wp2_with (at_builtin; refine wpList_append_src rfl (.tmp 5) (.tmp 6) 54 rfl w.heap.size 64 iz _ 128 128 Try.underlying54 hiz hzz hzs hzb hzc (by omega) _ 0 [] rfl hown ad n c M rfl hlen hsrc hone (by simp [maxLen]; omega) (by omega) hb.size ?_)
    intro A' c' w' ho hg
    have hb2 : Below w.heap.size w w' := hb.grown hg hb.size (fun g hg => (hown.lt g hg).1)
    clear hg hown hb hsrc hone qT h
    go_wp2_with fail
    go_ret
    exact ⟨_, _, rfl, ho, hb2⟩
set_option maxHeartbeats 1000000 in
theorem clone_wcs (A : Option Addr) (n c : Nat) (l : List (Nat × List UInt8)) (hn : n ≤ 100000) (w : World) (h : w.ownsRow 0 67 129 (.slice A n c) n (wcs l)) :
    Calls Try.prog 28 #[.slice A n c] w fun e w' => ∃ A' c', e = .returned (.slice A' n c') ∧ w'.ownsRow w.heap.size 67 129 (.slice A' n c') n (wcs l) ∧ Below w.heap.size w w' := by
  have qT : ∀ (w : World) (a : Option Addr) (n c n' c' : Nat), (binOp .eql 55 (.slice a n c) (.slice none n' c')).run Try.prog w = .ok (.bool a.isNone) w := fun w a n c n' c' => Lib.run_eql_slice_nil w _ _ a n c n' c' Try.underlying55
  have hlen : (wcs l).length = n * 129 := h.1
  have hone : ∀ u ∈ wcs l, u.oneCell' = true := fun u hu => by
    simp only [wcs, List.mem_flatMap] at hu
    obtain ⟨i, _, hu⟩ := hu
    exact wc_one _ u hu
  obtain ⟨M, hM⟩ : ∃ M, wcs l = M := ⟨_, rfl⟩
  rw [hM] at h hlen hone ⊢
  rcases A with _ | ad
  · obtain ⟨rfl, rfl⟩ : n = 0 ∧ c = 0 := by
      rcases h.2 with ⟨e, e2⟩ | ⟨g, cap, cur, e, _⟩
      · injection e with _ _ e3; exact ⟨e2, e3⟩
      · injection e with e _ _; cases e
    have hm0 : M = [] := List.eq_nil_of_length_eq_zero (by omega)
    rw [hm0]
    clear h hlen hone hM
    go_enter Try.func28, Try.ntmps28
    go_wp2_with fail
    go_ret
    exact ⟨_, _, rfl, World.ownsRow_nil _ _ _ _, Below.refl _ _⟩
  · obtain ⟨iz, hiz, hzz, hzs, hzb⟩ := write_parts
    have hzc : (Value.agg (wc (0, List.replicate 128 (0 : UInt8))).toArray).cells.size = 129 := by simp [Value.cells, wc, bv_length]
    have hown : (w.alloc (.cells #[] 67)).ownsRow w.heap.size 67 129 (.slice (some ⟨w.heap.size, 0, none⟩) 0 0) 0 [] := World.ownsRow_lit w #[] 0 (Nat.le_refl _) (by simp [maxLen]) rfl
    have hb := (Below.refl w.heap.size w).alloc (Nat.le_refl _) (.cells #[] 67)
    have hsrc : ∀ j u, M[j]? = some u → (w.alloc (.cells #[] 67)).cell? (ad.add j) = some u := fun j u hu => by
      have h1 : w.cell? (ad.add j) = some u := by
        rcases h.2 with ⟨e, _⟩ | ⟨g, cap, cur, e, _⟩
        · injection e with e _ _; cases e
        · injection e with e _ _
          injection e with e
          subst e
          exact h.cells rfl j u hu
      exact (hb.cell (World.block_lt_of_cell? w _ h1)).trans h1
    go_enter Try.func28, Try.ntmps28
    go_wp2_with (at_builtin; refine wpList_append_src rfl (.tmp 5) (.tmp 6) 55 rfl w.heap.size 67 iz _ 129 136 Try.underlying55 hiz hzz hzs hzb hzc (by omega) _ 0 [] rfl hown ad n c M rfl hlen hsrc hone (by simp [maxLen]; omega) (by omega) hb.size ?_)
    intro A' c' w' ho hg
    have hb2 : Below w.heap.size w w' := hb.grown hg hb.size (fun g hg => (hown.lt g hg).1)
    clear hg hown hb hsrc hone qT h
    go_wp2_with fail
    go_ret
    exact ⟨_, _, rfl, ho, hb2⟩
end Go.Proofs.Ytdnconakpajdgaa
