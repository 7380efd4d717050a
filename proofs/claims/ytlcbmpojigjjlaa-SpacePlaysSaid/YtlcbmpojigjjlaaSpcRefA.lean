/- The reference's space (cellarageref09): what it is in memory; New, Take, Hold, Free. No statement of the seat is proved here. -/
import Derived.Test.YtlcbmpojigjjlaaSpcTwo
import Derived.Laws.MakeOwn
namespace Go.Proofs.Ytlcbmpojigjjlaa
open Go.RowKit
set_option linter.unusedVariables false
set_option linter.unusedSimpArgs false

def bls (n : Nat) (f : Nat → Bool) : List Value := (List.range n).map fun i => .bool (f i)
theorem bls_length (n : Nat) (f : Nat → Bool) : (bls n f).length = n := by simp [bls]
theorem bls_get {n i : Nat} (f : Nat → Bool) (h : i < n) : (bls n f)[i]? = some (.bool (f i)) := by simp [bls, h]
theorem bls_set {n i : Nat} (f g : Nat → Bool) (b : Bool) (hi : g i = b) (ho : ∀ x, x ≠ i → g x = f x) : (bls n f).set i (.bool b) = bls n g := by
  apply List.ext_getElem?
  intro j
  rw [List.getElem?_set]
  by_cases hj : j < n
  · rw [bls_get g hj]
    by_cases e : i = j
    · subst e
      rw [if_pos rfl, if_pos (by rw [bls_length]; exact hj), hi]
    · rw [if_neg e, bls_get f hj, ho j fun h => e h.symm]
  · have h1 : (bls n g)[j]? = none := List.getElem?_eq_none (by rw [bls_length]; omega)
    have h2 : (bls n f)[j]? = none := List.getElem?_eq_none (by rw [bls_length]; omega)
    rw [h1, h2]
    split
    · rename_i e; subst e; rw [if_neg (by rw [bls_length]; omega)]
    · rfl
theorem bls_congr {n : Nat} {f g : Nat → Bool} (h : ∀ i, i < n → f i = g i) : bls n f = bls n g := by
  unfold bls
  exact List.map_congr_left fun i hi => by rw [h i (List.mem_range.1 hi)]
theorem bls_made (n : Nat) : madeCells #[.bool false] n = (bls n fun _ => false).toArray := by
  apply Array.ext_getElem?
  intro j
  rw [← Array.getElem?_toList, toList_madeCells_one, List.getElem?_replicate]
  by_cases hj : j < n
  · rw [if_pos hj]
    show _ = (bls n fun _ => false).toArray[j]?
    rw [List.getElem?_toArray, bls_get _ hj]
  · rw [if_neg hj]
    show _ = (bls n fun _ => false).toArray[j]?
    rw [List.getElem?_toArray, List.getElem?_eq_none (by rw [bls_length]; omega)]
/-- In w the block d is the reference's space. -/
structure RSp (w : World) (d : Nat) (A : Option Addr) (c n : Nat) (f : Nat → Bool) : Prop where
  blk : Blk w d 40 #[.slice A n c]
  row : w.ownsRow 0 4 1 (.slice A n c) n (bls n f)
def RSF (d : Nat) (A : Option Addr) (c n : Nat) (g : Nat) : Prop := g = d ∨ (Value.slice A n c).ownBlock = some g
def Rsp (w : World) (s : Addr) (F : Nat → Prop) (S : PS) : Prop := ∃ d A c, s = ⟨d, 0, none⟩ ∧ RSp w d A c S.n S.S ∧ S.Ok ∧ ∀ g, F g ↔ RSF d A c S.n g
section
variable {w w' : World} {d : Nat} {A : Option Addr} {c n : Nat} {f : Nat → Bool} {S : PS}
theorem RSp.ne (h : RSp w d A c n f) : ∀ g, (Value.slice A n c).ownBlock = some g → g ≠ d := fun g hv => by
  obtain ⟨_, cur, hb, _⟩ := row_blk h.row g hv
  exact blk_other hb h.blk (by decide)
theorem RSp.lt (h : RSp w d A c n f) : ∀ g, RSF d A c n g → g < w.heap.size := fun g hg => by
  rcases hg with rfl | hg
  · exact h.blk.lt
  · exact (World.ownsRow.lt h.row g hg).2
theorem RSp.keep (h : RSp w d A c n f) (hk : ∀ g, RSF d A c n g → w'.heap[g]? = w.heap[g]?) : RSp w' d A c n f :=
  ⟨h.blk.same (hk d (.inl rfl)), ownsRow_same h.row fun g hv _ => hk g (.inr hv)⟩
theorem RSp.below (h : RSp w d A c n f) (hb : Below w.heap.size w w') : RSp w' d A c n f := h.keep fun g hg => hb.block g (h.lt g hg)
theorem RSp.at_ (h : RSp w d A c n f) {i : Nat} (hi : i < n) : ∃ g, A = some ⟨g, 0, none⟩ ∧ (Value.slice A n c).ownBlock = some g ∧ w.cell? ⟨g, i, none⟩ = some (.bool (f i)) ∧ w.frozen? ⟨g, i, none⟩ = false := by
  obtain ⟨g, hA, ho, _, hr⟩ := row_at h.row (by omega)
  have := hr i _ (bls_get f hi)
  exact ⟨g, hA, ho, this.1, this.2⟩
theorem RSp.set (h : RSp w d A c n f) {i g : Nat} (ho : (Value.slice A n c).ownBlock = some g) {f' : Nat → Bool} (b : Bool) (hi : f' i = b) (hx : ∀ x, x ≠ i → f' x = f x) : RSp (w.setCell ⟨g, i, none⟩ (.bool b)) d A c n f' := by
  refine ⟨h.blk.same (setCell_block (Ne.symm (h.ne g ho))), ?_⟩
  have := row_set h.row ho (.bool b) (i := i)
  rwa [bls_set f f' b hi hx] at this
theorem rsp_lt {s : Addr} {F : Nat → Prop} (h : Rsp w s F S) : ∀ g, F g → g < w.heap.size := by
  obtain ⟨d, A, c, _, hd, _, hF⟩ := h
  exact fun g hg => hd.lt g ((hF g).1 hg)
theorem rsp_keep {s : Addr} {F : Nat → Prop} (h : Rsp w s F S) (hk : ∀ g, F g → w'.heap[g]? = w.heap[g]?) : Rsp w' s F S := by
  obtain ⟨d, A, c, e, hd, ho, hF⟩ := h
  exact ⟨d, A, c, e, hd.keep fun g hg => hk g ((hF g).2 hg), ho, hF⟩
theorem rsp_firm : Firm Rsp := ⟨fun h => rsp_lt h, fun h hk => rsp_keep h hk⟩
theorem info_bool : (Try.prog.info? 4).map (fun i => (i.zero, i.size, i.bytes)) = some (some (.bool false), 1, 1) := by kernel_rfl
theorem rnew_bad (x : Int) (hx : x < 0 ∨ 16384 < x) (w : World) : Calls Try.prog 11 #[.int .i64 x] w fun e w' => e = .returned (.tuple #[.pointer none, .int .i64 1]) ∧ w = w' := by
  by_cases h1 : x < 0
  · clear hx
    go_enter Try.func11, Try.ntmps11
    go_wp2_with fail
    go_ret2
    exact ⟨rfl, rfl⟩
  · have h2 : 16384 < x := by omega
    clear hx
    go_enter Try.func11, Try.ntmps11
    go_wp2_with fail
    go_ret2
    exact ⟨rfl, rfl⟩
theorem rnew_good (n : Nat) (hn : n ≤ 16384) (w : World) : Calls Try.prog 11 #[.int .i64 (n : Nat)] w fun e w' => ∃ s F, e = .returned (.tuple #[.pointer (some s), .int .i64 0]) ∧ Rsp w' s F (newP n) ∧ (∀ g, F g → w.heap.size ≤ g) ∧ Below w.heap.size w w' := by
  obtain ⟨ib, hib, hy0, hy1, hy2⟩ := info_parts info_bool
  have hmk : ∀ W, (Instr.makeSlice 38 (.int .i64 (n : Int)) (.int .i64 (n : Int))).run Try.prog W = .ok (.slice (some ⟨W.heap.size, 0, none⟩) n n) (W.alloc (.cells (madeCells #[.bool false] n) 4)) := fun W => by
    have := run_make (P := Try.prog) W 38 4 ib _ Try.underlying38 hib hy0 .i64 .i64 (n : Int) (n : Int) (by omega) (by omega) (by rw [hy2]; omega) (by omega)
    rw [hy1, Int.toNat_natCast, Nat.mul_one] at this
    exact this
  obtain ⟨w1, hw1⟩ : ∃ w1, w.alloc (.cells (madeCells #[.bool false] n) 4) = w1 := ⟨_, rfl⟩
  obtain ⟨g, hg⟩ : ∃ g, w.heap.size = g := ⟨_, rfl⟩
  obtain ⟨w2, hw2⟩ : ∃ w2, w1.alloc (.cells #[.slice (some ⟨g, 0, none⟩) n n] 40) = w2 := ⟨_, rfl⟩
  have hz : w1.heap.size = g + 1 := by rw [← hw1, ← hg]; exact Array.size_push ..
  have hb1 : Below w.heap.size w w1 := hw1 ▸ (Below.refl _ _).alloc (Nat.le_refl _) _
  have hb2 : Below w1.heap.size w1 w2 := hw2 ▸ (Below.refl _ _).alloc (Nat.le_refl _) _
  have k1 : Blk w2 g 4 (bls n fun _ => false).toArray := (show Blk w1 g 4 (bls n fun _ => false).toArray by rw [← hw1, ← hg, ← bls_made]; exact Blk.new w _ _).below hb2 (by omega)
  have k2 : Blk w2 (g + 1) 40 #[.slice (some ⟨g, 0, none⟩) n n] := by rw [← hw2, ← hz]; exact Blk.new w1 _ _
  have HE := Lib.hid (show (∃ F, Rsp w2 ⟨g + 1, 0, none⟩ F (newP n) ∧ (∀ k, F k → w.heap.size ≤ k)) ∧ Below w.heap.size w w2 from
    ⟨⟨RSF (g + 1) (some ⟨g, 0, none⟩) n n, ⟨g + 1, some ⟨g, 0, none⟩, n, rfl, ⟨k2, ⟨by rw [bls_length]; exact (Nat.mul_one n).symm, .inr ⟨g, n, _, rfl, Nat.zero_le _, k1, Nat.le_refl _, by unfold maxLen; omega, by rw [List.size_toArray, bls_length, Nat.mul_one], by
      rw [List.toList_toArray, List.take_of_length_le (by rw [bls_length, Nat.mul_one]; exact Nat.le_refl _)]
      rfl⟩⟩⟩, newP_ok hn, fun k => Iff.rfl⟩, fun k hk => by
        rcases hk with rfl | hk
        · omega
        · have : g = k := by simpa [Value.ownBlock] using hk
          omega⟩, hb1.trans (hb2.mono hb1.size)⟩)
  have HW1 := Lib.hid hw1
  have HW2 := Lib.hid hw2
  have HG := Lib.hid hg
  have HZ := Lib.hid hz
  clear hib hy0 hy1 hy2 hw1 hw2 hg hz hb1 hb2 k1 k2
  go_enter Try.func11, Try.ntmps11
  go_wp2_with fail
  rw [HW1.out, HG.out]
  go_wp2_with fail
  rw [HW2.out]
  go_ret2
  have HE := HE.out
  rw [HG.out] at HE
  obtain ⟨⟨F, h1, h2⟩, h3⟩ := HE
  exact ⟨_, F, rfl, h1, h2, h3⟩
set_option maxHeartbeats 1000000 in
theorem rtake_any {s : Addr} {F : Nat → Prop} (h : Rsp w s F S) : Calls Try.prog 28 #[.pointer (some s)] w fun e w' => e = .returned (.tuple #[.int .i64 (takeV S), .int .i64 (takeE S)]) ∧ Turned Rsp w s F w' (takeP S) := by
  obtain ⟨d, A, c, rfl, hd, hok, hF⟩ := h
  have HF := Lib.hid hF
  have HD := Lib.hid hd
  have HOK := Lib.hid hok
  have hc0 : w.cell? ⟨d, 0, none⟩ = some (.slice A S.n c) := hd.blk.cell 0
  have hn16 : S.n ≤ 16384 := hok.le
  obtain ⟨TV, hTV⟩ : ∃ TV, takeV S = TV := ⟨_, rfl⟩
  obtain ⟨TE, hTE⟩ : ∃ TE, takeE S = TE := ⟨_, rfl⟩
  have HTV := Lib.hid (And.intro hTV hTE)
  rw [hTV, hTE]
  obtain ⟨n, hn⟩ : ∃ n, S.n = n := ⟨_, rfl⟩
  rw [hn] at hc0 hn16
  have HN := Lib.hid hn
  clear hd hF hok hTV hTE hn
  go_enter Try.func28, Try.ntmps28
  go_wp2_with fail
  go_loopw [4] (fun i wr => ∃ j : Nat, j ≤ n ∧ i = .int .i64 j ∧ Hid (∀ x, x < j → S.S x = true) ∧ w = wr) (fun i _ => n - (intOf i).toNat)
  case atStart => exact ⟨0, Nat.zero_le _, rfl, Lib.hid (fun x hx => by omega), rfl⟩
  case round =>
    obtain ⟨j, hj, rfl, hst, rfl⟩ := hrel
    by_cases hlt : j < n
    · obtain ⟨g, rfl, ho, hcj, hfj⟩ := HD.out.at_ (i := j) (by rw [HN.out]; exact hlt)
      have hi1 : (0 : Int) ≤ (j : Int) := by omega
      have hi2 : (j : Int) < (n : Int) := by omega
      cases hs : S.S j with
      | true =>
        rw [hs] at hcj
        have HNX := Lib.hid (show ∀ x, x < j + 1 → S.S x = true from fun x hx => by
          by_cases e : x = j
          · rw [e]; exact hs
          · exact hst.out x (by omega))
        clear hst hs ho
        go_wp2_with fail
        go_roundw
        case rel => exact ⟨j + 1, by omega, by go_num, HNX, trivial⟩
        case measure => simp [intOf]; omega
      | false =>
        rw [hs] at hcj
        have hle : leastF S.S S.n = j := leastF_eq (by rw [HN.out]; omega) hst.out fun _ => hs
        have hlt2 : leastF S.S S.n < S.n := by rw [hle, HN.out]; exact hlt
        obtain rfl : TV = j := by rw [← HTV.out.1, takeV, if_pos hlt2, hle]
        obtain rfl : TE = 0 := by rw [← HTV.out.2, takeE, if_pos hlt2]
        have HEND := Lib.hid (show Turned Rsp w ⟨d, 0, none⟩ F (w.setCell ⟨g, TV, none⟩ (.bool true)) (takeP S) from by
          have e : takeP S = ⟨S.n, put1 S.S TV⟩ := by rw [takeP, if_pos hlt2, hle]
          have hP := takeP_ok HOK.out
          rw [e] at hP ⊢
          refine ⟨F, ⟨d, some ⟨g, 0, none⟩, c, rfl, HD.out.set ho true (by simp [put1]) (fun x hx => ?_), hP, HF.out⟩, fun k hk => .inl hk, only_grown (grown_cell w g TV (.bool true)) ((HF.out g).2 (.inr ho))⟩
          have : (x == TV) = false := by simpa using hx
          simp [put1, this])
        clear hst hs ho hle hlt2
        go_wp2_with fail
        go_ret2
        exact ⟨rfl, HEND.out⟩
    · obtain rfl : n = j := by omega
      have hle : leastF S.S S.n = S.n := leastF_eq (Nat.le_refl _) (by rw [HN.out]; exact hst.out) fun h => by omega
      have hlt2 : ¬ leastF S.S S.n < S.n := by omega
      obtain rfl : TV = 0 := by rw [← HTV.out.1, takeV, if_neg hlt2]
      obtain rfl : TE = 5 := by rw [← HTV.out.2, takeE, if_neg hlt2]
      have HEND := Lib.hid (show Turned Rsp w ⟨d, 0, none⟩ F w (takeP S) from by
        rw [takeP, if_neg hlt2]
        exact Turned.refl ⟨d, A, c, rfl, HD.out, HOK.out, HF.out⟩)
      clear hst hle hlt2
      go_wp2_with fail
      go_ret2
      exact ⟨rfl, HEND.out⟩
set_option maxHeartbeats 1000000 in
theorem rhold_any {s : Addr} {F : Nat → Prop} (h : Rsp w s F S) (at_ : Int) : Calls Try.prog 29 #[.pointer (some s), .int .i64 at_] w fun e w' => e = .returned (.int .i64 (holdE S at_)) ∧ Turned Rsp w s F w' (holdP S at_) := by
  have HH := Lib.hid (Turned.refl h)
  obtain ⟨d, A, c, rfl, hd, hok, hF⟩ := h
  have hc0 : w.cell? ⟨d, 0, none⟩ = some (.slice A S.n c) := hd.blk.cell 0
  by_cases hb : at_ < 0 ∨ (S.n : Int) ≤ at_
  · have e1 : holdE S at_ = 1 := by unfold holdE; rw [if_pos hb]
    have e2 : holdP S at_ = S := by unfold holdP; rw [e1, if_neg (by decide)]
    rw [e1, e2]
    clear hd hok hF e1 e2
    generalize S.n = n at *
    by_cases hz : at_ < 0
    · go_enter Try.func29, Try.ntmps29
      go_wp2_with fail
      go_ret
      exact ⟨rfl, HH.out⟩
    · have hz2 : (n : Int) ≤ at_ := by omega
      go_enter Try.func29, Try.ntmps29
      go_wp2_with fail
      go_ret
      exact ⟨rfl, HH.out⟩
  · obtain ⟨t, rfl⟩ : ∃ t : Nat, at_ = t := ⟨at_.toNat, by omega⟩
    obtain ⟨g, rfl, ho, hcj, hfj⟩ := hd.at_ (i := t) (by omega)
    have ht : (t : Int) < (S.n : Int) := by omega
    have ht0 : ¬ (t : Int) < 0 := by omega
    have ht1 : ¬ (S.n : Int) ≤ (t : Int) := by omega
    cases hs : S.S t with
    | true =>
      have e1 : holdE S t = 3 := by unfold holdE; rw [if_neg hb, Int.toNat_natCast, if_pos hs]
      have e2 : holdP S t = S := by unfold holdP; rw [e1, if_neg (by decide)]
      rw [e1, e2]
      rw [hs] at hcj
      clear hd hok hF e1 e2 ho hb
      generalize S.n = n at *
      go_enter Try.func29, Try.ntmps29
      go_wp2_with fail
      go_ret
      exact ⟨rfl, HH.out⟩
    | false =>
      have e1 : holdE S t = 0 := by unfold holdE; rw [if_neg hb, Int.toNat_natCast, if_neg (by rw [hs]; decide)]
      have e2 : holdP S t = ⟨S.n, put1 S.S t⟩ := by unfold holdP; rw [if_pos e1, Int.toNat_natCast]
      have hP := holdP_ok hok t
      rw [e1]
      rw [hs] at hcj
      have HEND := Lib.hid (show Turned Rsp w ⟨d, 0, none⟩ F (w.setCell ⟨g, t, none⟩ (.bool true)) (holdP S t) from by
        rw [e2] at hP ⊢
        refine ⟨F, ⟨d, some ⟨g, 0, none⟩, c, rfl, hd.set ho true (by simp [put1]) (fun x hx => ?_), hP, hF⟩, fun k hk => .inl hk, only_grown (grown_cell w g t (.bool true)) ((hF g).2 (.inr ho))⟩
        have : (x == t) = false := by simpa using hx
        simp [put1, this])
      clear hd hok hF e1 e2 ho hb hP
      generalize holdP S t = T at *
      generalize S.n = n at *
      go_enter Try.func29, Try.ntmps29
      go_wp2_with fail
      go_ret
      exact ⟨rfl, HEND.out⟩
set_option maxHeartbeats 1000000 in
theorem rfree_any {s : Addr} {F : Nat → Prop} (h : Rsp w s F S) (at_ : Int) : Calls Try.prog 30 #[.pointer (some s), .int .i64 at_] w fun e w' => e = .returned (.int .i64 (freeE S at_)) ∧ Turned Rsp w s F w' (freeP S at_) := by
  have HH := Lib.hid (Turned.refl h)
  obtain ⟨d, A, c, rfl, hd, hok, hF⟩ := h
  have hc0 : w.cell? ⟨d, 0, none⟩ = some (.slice A S.n c) := hd.blk.cell 0
  by_cases hb : at_ < 0 ∨ (S.n : Int) ≤ at_
  · have e1 : freeE S at_ = 1 := by unfold freeE; rw [if_pos hb]
    have e2 : freeP S at_ = S := by unfold freeP; rw [e1, if_neg (by decide)]
    rw [e1, e2]
    clear hd hok hF e1 e2
    generalize S.n = n at *
    by_cases hz : at_ < 0
    · go_enter Try.func30, Try.ntmps30
      go_wp2_with fail
      go_ret
      exact ⟨rfl, HH.out⟩
    · have hz2 : (n : Int) ≤ at_ := by omega
      go_enter Try.func30, Try.ntmps30
      go_wp2_with fail
      go_ret
      exact ⟨rfl, HH.out⟩
  · obtain ⟨t, rfl⟩ : ∃ t : Nat, at_ = t := ⟨at_.toNat, by omega⟩
    obtain ⟨g, rfl, ho, hcj, hfj⟩ := hd.at_ (i := t) (by omega)
    have ht : (t : Int) < (S.n : Int) := by omega
    have ht0 : ¬ (t : Int) < 0 := by omega
    have ht1 : ¬ (S.n : Int) ≤ (t : Int) := by omega
    cases hs : S.S t with
    | false =>
      have e1 : freeE S t = 2 := by unfold freeE; rw [if_neg hb, Int.toNat_natCast, if_neg (by rw [hs]; decide)]
      have e2 : freeP S t = S := by unfold freeP; rw [e1, if_neg (by decide)]
      rw [e1, e2]
      rw [hs] at hcj
      clear hd hok hF e1 e2 ho hb
      generalize S.n = n at *
      go_enter Try.func30, Try.ntmps30
      go_wp2_with fail
      go_ret
      exact ⟨rfl, HH.out⟩
    | true =>
      have e1 : freeE S t = 0 := by unfold freeE; rw [if_neg hb, Int.toNat_natCast, if_pos hs]
      have e2 : freeP S t = ⟨S.n, del1 S.S t⟩ := by unfold freeP; rw [if_pos e1, Int.toNat_natCast]
      have hP := freeP_ok hok t
      rw [e1]
      rw [hs] at hcj
      have HEND := Lib.hid (show Turned Rsp w ⟨d, 0, none⟩ F (w.setCell ⟨g, t, none⟩ (.bool false)) (freeP S t) from by
        rw [e2] at hP ⊢
        refine ⟨F, ⟨d, some ⟨g, 0, none⟩, c, rfl, hd.set ho false (by simp [del1]) (fun x hx => ?_), hP, hF⟩, fun k hk => .inl hk, only_grown (grown_cell w g t (.bool false)) ((hF g).2 (.inr ho))⟩
        have : (x != t) = true := by simpa using hx
        simp [del1, this])
      clear hd hok hF e1 e2 ho hb hP
      generalize freeP S t = T at *
      generalize S.n = n at *
      go_enter Try.func30, Try.ntmps30
      go_wp2_with fail
      go_ret
      exact ⟨rfl, HEND.out⟩
end
end Go.Proofs.Ytlcbmpojigjjlaa
