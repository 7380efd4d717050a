/- The contract of the reference's New of package disk's statements. No statement of the seat is proved here. -/
import Derived.Test.YthbgcffnnholeaaVMB
import Derived.Test.YthbgcffnnholeaaDskRefE
import Derived.Laws.MakeOwn
namespace Go.Proofs.Ythbgcffnnholeaa
open Go.RowKit
set_option linter.unusedVariables false

theorem info_str : (Try.prog.info? 9).map (fun i => (i.zero, i.size, i.bytes)) = some (some (.string ⟨#[]⟩), 1, 16) := by kernel_rfl
/-- The first j sectors are full. -/
def ff (j : Nat) : Nat → List UInt8 := fun i => if i < j then padS [] else []
theorem ff_step (j : Nat) : updS (ff j) j (padS []) = ff (j + 1) := by
  funext i
  unfold updS ff
  by_cases h : i = j
  · subst h; rw [if_pos rfl, if_pos (by omega)]
  · rw [if_neg h]
    by_cases h2 : i < j
    · rw [if_pos h2, if_pos (by omega)]
    · rw [if_neg h2, if_neg (by omega)]
theorem sts_made (n : Nat) : madeCells #[.string ⟨#[]⟩] n = (sts n (ff 0)).toArray := by
  rw [← Array.toList_inj, toList_madeCells_one]
  apply List.ext_getElem?
  intro j
  by_cases h : j < n
  · rw [List.getElem?_replicate, if_pos h, show ((sts n (ff 0)).toArray).toList = sts n (ff 0) from rfl, sts_get (ff 0) h]
    rfl
  · rw [List.getElem?_eq_none (by simp; omega), List.getElem?_eq_none (by simp [sts]; omega)]
theorem sts_full (n : Nat) : sts n (ff n) = sts n (newS n).safe := by
  apply List.ext_getElem?
  intro j
  by_cases h : j < n
  · rw [sts_get _ h, sts_get _ h]
    show some (st (if j < n then padS [] else [])) = some (st (padS []))
    rw [if_pos h]
  · rw [List.getElem?_eq_none (by rw [sts_length]; omega), List.getElem?_eq_none (by rw [sts_length]; omega)]
theorem sts_put {n j : Nat} (f : Nat → List UInt8) (v : List UInt8) : (sts n f).toArray.setIfInBounds j (st v) = (sts n (updS f j v)).toArray := by
  rw [List.setIfInBounds_toArray, sts_set]
set_option maxRecDepth 100000 in
set_option maxHeartbeats 1000000 in
theorem rnew_bad (n : Int) (hn : n < 0 ∨ 16384 < n) (w : World) :
    Calls Try.prog 9 #[.int .i64 n] w fun e w' => e = .returned (.tuple #[.pointer none, .int .i64 1]) ∧ w' = w := by
  by_cases h : n < 0
  · clear hn
    go_enter Try.func9, Try.ntmps9
    go_wp2_with fail
    go_ret2
    exact ⟨rfl, rfl⟩
  · have h2 : 16384 < n := by omega
    clear hn
    go_enter Try.func9, Try.ntmps9
    go_wp2_with fail
    go_ret2
    exact ⟨rfl, rfl⟩
set_option maxRecDepth 100000 in
set_option maxHeartbeats 2000000 in
theorem rnew_any (n : Nat) (hn : n ≤ 16384) (w : World) :
    Calls Try.prog 9 #[.int .i64 n] w fun e w' => ∃ d As cs, e = .returned (.tuple #[.pointer (some ⟨d, 0, none⟩), .int .i64 0]) ∧
      RD w' d As cs none 0 (newS n) ∧ (∀ g, RF d As cs none 0 (newS n) g → w.heap.size ≤ g) ∧ Below w.heap.size w w' := by
  obtain ⟨ib, hib, hy0, hy1, hy2⟩ := info_parts info_str
  have hmk : ∀ W, (Instr.makeSlice 55 (.int .i64 (n : Int)) (.int .i64 (n : Int))).run Try.prog W = .ok (.slice (some ⟨W.heap.size, 0, none⟩) n n) (W.alloc (.cells (madeCells #[.string ⟨#[]⟩] n) 9)) := fun W => by
    have := run_make (P := Try.prog) W 55 9 ib _ Try.underlying55 hib hy0 .i64 .i64 (n : Int) (n : Int) (by omega) (by omega) (by rw [hy2]; omega) (by omega)
    rw [hy1, Int.toNat_natCast, Nat.mul_one] at this
    exact this
  obtain ⟨g, hg⟩ : ∃ g, w.heap.size = g := ⟨_, rfl⟩
  obtain ⟨w1, hw1⟩ : ∃ w1, w.alloc (.cells (madeCells #[.string ⟨#[]⟩] n) 9) = w1 := ⟨_, rfl⟩
  obtain ⟨d, hd⟩ : ∃ d, w1.heap.size = d := ⟨_, rfl⟩
  obtain ⟨w2, hw2⟩ : ∃ w2, w1.alloc (.cells #[.slice (some ⟨g, 0, none⟩) n n, .slice none 0 0, .bool false, .int .i64 (-1), .int .i64 0] 58) = w2 := ⟨_, rfl⟩
  have hb1 : Below w.heap.size w w1 := hw1 ▸ (Below.refl _ _).alloc (Nat.le_refl _) _
  have hb2 : Below w.heap.size w w2 := hw2 ▸ hb1.alloc hb1.size _
  have hbk1 : Blk w1 g 9 (sts n (ff 0)).toArray := by rw [← hw1, ← hg, ← sts_made]; exact Blk.new w _ _
  have hbk2 : Blk w2 g 9 (sts n (ff 0)).toArray := hbk1.same (by rw [← hw2]; exact ((Below.refl w1.heap.size w1).alloc (Nat.le_refl _) _).block g hbk1.lt)
  have hbd : Blk w2 d 58 (dcells (some ⟨g, 0, none⟩) n none 0 (newS n)) := by rw [← hw2, ← hd]; exact Blk.new w1 _ _
  have hgd : d = g + 1 := by rw [← hd, ← hw1, ← hg]; exact Array.size_push ..
  subst hgd
  have H0 := Lib.hid (And.intro hbk2 (And.intro hbd hb2))
  have HW1 := Lib.hid hw1
  have HG := Lib.hid hg
  have HD := Lib.hid hd
  have HW2 := Lib.hid hw2
  have KP := Lib.hid (fun W => rpad_any [] 0 rfl (by omega) W)
  unfold st at KP
  obtain ⟨sp, hsp⟩ : ∃ sp : ByteArray, (⟨(padS []).toArray⟩ : ByteArray) = sp := ⟨_, rfl⟩
  rw [hsp] at KP
  have HSP := Lib.hid hsp
  clear hib hy0 hy1 hy2 hw1 hg hd hw2 hb1 hb2 hbk1 hbk2 hbd hsp
  go_enter Try.func9, Try.ntmps9
  go_wp2_with fail
  rw [HW1.out, HG.out]
  try rw [HW2.out]
  clear hmk
  go_loopw [5] (fun i wr => ∃ j : Nat, j ≤ n ∧ i = .int .i64 j ∧ Hid (Blk wr g 9 (sts n (ff j)).toArray ∧ Blk wr (g + 1) 58 (dcells (some ⟨g, 0, none⟩) n none 0 (newS n)) ∧ Below w.heap.size w wr)) (fun i _ => n - (intOf i).toNat)
  case atStart => exact ⟨0, Nat.zero_le _, rfl, Lib.hid H0.out⟩
  case round =>
    clear H0
    obtain ⟨j, hj, rfl, hst⟩ := hrel
    by_cases hlt : j < n
    · have PK := Lib.hid (show ∀ w5, Below wr.drew.heap.size wr.drew w5 → w5.cell? ⟨g + 1, 0, none⟩ = some (.slice (some ⟨g, 0, none⟩) n n) ∧ w5.cell? ⟨g, j, none⟩ = some (.string ⟨#[]⟩) ∧ w5.frozen? ⟨g, j, none⟩ = false ∧
          (Blk (w5.setCell ⟨g, j, none⟩ (.string sp)) g 9 (sts n (ff (j + 1))).toArray ∧ Blk (w5.setCell ⟨g, j, none⟩ (.string sp)) (g + 1) 58 (dcells (some ⟨g, 0, none⟩) n none 0 (newS n)) ∧ Below w.heap.size w (w5.setCell ⟨g, j, none⟩ (.string sp))) from fun w5 hb0 => by
        have hb : Below wr.heap.size wr w5 := ⟨hb0.os, hb0.tape, hb0.output, hb0.size, hb0.block⟩
        have k1 := hst.out.1.below hb hst.out.1.lt
        have k2 := hst.out.2.1.below hb hst.out.2.1.lt
        have k3 : Below w.heap.size w w5 := hst.out.2.2.trans (hb.mono hst.out.2.2.size)
        refine ⟨k2.cell 0, ?_, k1.frozen j, ?_, ?_, k3.setCell (by rw [HG.out]; exact Nat.le_refl _) _⟩
        · rw [k1.cell, List.getElem?_toArray, sts_get _ hlt]
          show some (st (if j < j then padS [] else [])) = _
          rw [if_neg (by omega)]
          rfl
        · have := k1.set_ j (.string sp)
          rw [← HSP.out] at this ⊢
          rw [← ff_step, ← sts_put]
          exact this
        · exact k2.same ((grown_cell w5 g j (.string sp)).block (g + 1) k2.lt (by intro e; injection e with e; omega)))
      have hs1 := (PK.out _ (Below.refl _ _)).1
      have hi1 : (0 : Int) ≤ (j : Int) := by omega
      have hi2 : (j : Int) < (n : Int) := by omega
      clear hst
      go_wp2_with fail
      (go_region_held (fun W => W.cell? ⟨g + 1, 0, none⟩ = some (.slice (some ⟨g, 0, none⟩) n n)) (first | exact hs1 | exact hs5 | exact hs6) (first
        | (go_at_call 33; (with_reducible refine (KP.out _).mono ?_); rintro e w5 ⟨rfl, hb5⟩; obtain ⟨hs5, hv5, hf5, hn5⟩ := PK.out _ hb5; have hs6 := hn5.2.1.cell 0)))
      have HN := Lib.hid hn5
      clear hs1 hs5 hs6 hv5 hf5 hn5 hb5
      go_wp2_with fail
      go_roundw
      case rel => exact ⟨j + 1, by omega, by go_num, Lib.hid HN.out⟩
      case measure => simp [intOf]; omega
    · obtain rfl : n = j := by omega
      have HE := Lib.hid (show RD wr (g + 1) (some ⟨g, 0, none⟩) n none 0 (newS n) ∧ (∀ k, RF (g + 1) (some ⟨g, 0, none⟩) n none 0 (newS n) k → w.heap.size ≤ k) ∧ Below w.heap.size w wr from by
        refine ⟨⟨hst.out.2.1, ⟨by rw [sts_length]; exact (Nat.mul_one _).symm, .inr ⟨g, n, _, rfl, Nat.zero_le _, hst.out.1, Nat.le_refl _, by unfold maxLen; omega, by simp [sts], ?_⟩⟩, ⟨rfl, .inl ⟨rfl, rfl⟩⟩⟩, fun k hk => ?_, hst.out.2.2⟩
        · show (sts n (ff n)).take (n * 1) = sts n (newS n).safe
          rw [Nat.mul_one, List.take_of_length_le (by rw [sts_length]; exact Nat.le_refl _), sts_full]
        · rw [HG.out]
          rcases hk with h | h | h
          · omega
          · injection h with h
            have h : g = k := h
            omega
          · cases h)
      clear hst
      go_wp2_with fail
      go_ret2
      exact ⟨_, _, _, rfl, HE.out⟩
end Go.Proofs.Ythbgcffnnholeaa
/- The reference's disk told as the package's disks are: what turns from a world on. No statement of the seat is proved here. -/
namespace Go.Proofs.Ythbgcffnnholeaa
open Go.RowKit
set_option linter.unusedVariables false

theorem own_n {A : Option Addr} {n c m k : Nat} : (Value.slice A n c).ownBlock = (Value.slice A m k).ownBlock := by cases A <;> rfl
section
variable {w0 w w' : World} {d : Nat} {As Ap A3 : Option Addr} {cs cp c3 : Nat} {s : Addr} {F N : Nat → Prop} {S S' : DS}
theorem rst_on (h : Turned Rst w0 s N w S) (hb : Below w.heap.size w w') : Turned Rst w0 s N w' S := by
  obtain ⟨F, h1, h2, h3⟩ := h
  exact ⟨F, rst_keep h1 fun g hg => hb.block g (rst_lt h1 g hg), h2, h3.trans (Only.of_below (F := F) hb) h2⟩
theorem rst_turn (hF : ∀ g, F g ↔ RF d As cs Ap cp S g) (h2 : ∀ g, F g → N g ∨ w0.heap.size ≤ g) (h3 : Only N w0 w) (hn : S'.n = S.n) (hR : RD w' d As cs A3 c3 S') (hk : S'.Ok) (ho : Only (RF d As cs Ap cp S) w w')
    (hA : ∀ g, (Value.slice A3 S'.put.length c3).ownBlock = some g → RF d As cs Ap cp S g ∨ w.heap.size ≤ g) : Turned Rst w0 ⟨d, 0, none⟩ N w' S' := by
  refine Turned.step (F := F) h2 h3 ⟨RF d As cs A3 c3 S', ⟨d, As, cs, A3, c3, rfl, hR, hk, fun _ => Iff.rfl⟩, fun g hg => ?_, ⟨ho.os, ho.tape, ho.output, ho.size, fun g hg hn => ho.block g hg fun h => hn ((hF g).2 h)⟩⟩
  rcases hg with h | h | h
  · exact .inl ((hF g).2 (.inl h))
  · exact .inl ((hF g).2 (.inr (.inl (by rw [own_n (m := S'.n) (k := cs)]; exact h))))
  · exact (hA g h).imp (hF g).2 id
theorem writeS_n (S : DS) (at_ : Int) (b : List UInt8) : (writeS S at_ b).n = S.n := by
  unfold writeS doneS
  split
  · rfl
  · split
    · exact tickS_n
    · exact tickS_n
theorem flushS_n (S : DS) : (flushS S).n = S.n := by
  unfold flushS doneS
  split
  · exact tickS_n
  · exact tickS_n
theorem cutS_n (S : DS) (x : Int) : (cutS S x).n = S.n := by unfold cutS; split <;> rfl
theorem cutS_put (S : DS) (x : Int) : (cutS S x).put = S.put := by unfold cutS; split <;> rfl
theorem rst_write (h : Turned Rst w0 s N w S) (hf : Few S) (at_ : Int) (b : List UInt8) (m : Nat) (hm : b.length = m) :
    Calls Try.prog 21 #[.pointer (some s), .int .i64 at_, .string ⟨b.toArray⟩] w fun e w' => e = .returned (.int .i64 (writeE S at_ m : Nat)) ∧ Turned Rst w0 s N w' (writeS S at_ b) := by
  obtain ⟨F, ⟨d, As, cs, Ap, cp, rfl, hR, hk, hF⟩, h2, h3⟩ := h
  by_cases hb : badW S at_ m
  · refine (rwrite_bad hR at_ b m hm hb).mono ?_
    rintro e w' ⟨rfl, rfl⟩
    refine ⟨by unfold writeE; rw [if_pos hb]; rfl, ?_⟩
    have e2 : writeS S at_ b = S := by unfold writeS; rw [if_pos (by rw [hm]; exact hb)]
    rw [e2]
    exact ⟨F, ⟨d, As, cs, Ap, cp, rfl, hR, hk, hF⟩, h2, h3⟩
  · obtain ⟨t, rfl⟩ : ∃ t : Nat, at_ = t := ⟨at_.toNat, by unfold badW at hb; omega⟩
    refine (rwrite_good hR hk hf.1 hf.2 t b m hm hb).mono ?_
    rintro e w' ⟨rfl, ho, A3, c3, hR', hA⟩
    exact ⟨rfl, rst_turn hF h2 h3 (writeS_n S t b) hR' (hk.write t b) ho fun g hg => (hA g hg).imp (fun h => .inr (.inr h)) id⟩
theorem rst_flush (h : Turned Rst w0 s N w S) (hf : Few S) :
    Calls Try.prog 23 #[.pointer (some s)] w fun e w' => e = .returned (.int .i64 (flushE S : Nat)) ∧ Turned Rst w0 s N w' (flushS S) := by
  obtain ⟨F, ⟨d, As, cs, Ap, cp, rfl, hR, hk, hF⟩, h2, h3⟩ := h
  refine (rflush_any hR hk hf.1 hf.2).mono ?_
  rintro e w' ⟨rfl, ho, hR'⟩
  refine ⟨rfl, ?_⟩
  rcases hR' with ⟨_, hR'⟩ | ⟨he, hR'⟩
  · exact rst_turn hF h2 h3 (flushS_n S) hR' hk.flush ho fun g hg => by cases hg
  · exact rst_turn hF h2 h3 (flushS_n S) hR' hk.flush ho fun g hg => .inl (.inr (.inr (by rw [own_n (m := (flushS S).put.length) (k := cp)]; exact hg)))
theorem rst_cut (h : Turned Rst w0 s N w S) (x : Int) (hx : In64 x) :
    Calls Try.prog 25 #[.pointer (some s), .int .i64 x] w fun e w' => e = .returned (.tuple #[]) ∧ Turned Rst w0 s N w' (cutS S x) := by
  obtain ⟨F, ⟨d, As, cs, Ap, cp, rfl, hR, hk, hF⟩, h2, h3⟩ := h
  refine (rcut_any hR x).mono ?_
  rintro e w' ⟨rfl, hR', hg⟩
  exact ⟨rfl, rst_turn hF h2 h3 (cutS_n S x) hR' (hk.cut (by unfold In64 at hx; omega)) (only_grown hg (.inl rfl)) fun g hg => .inl (.inr (.inr (by rw [own_n (m := (cutS S x).put.length) (k := cp)]; exact hg)))⟩
theorem rst_crash (h : Turned Rst w0 s N w S) (hf : Few S) (A : Option Addr) (n c : Nat) (l : List Int) (hl : l.length = n) (hc : n ≤ c) (hm : c ≤ maxLen) (hr : RdV w0 w0.heap.size A (iv l)) (hi : ∀ x ∈ l, In64 x) (hout : Out N A n) :
    Calls Try.prog 27 #[.pointer (some s), .slice A n c] w fun e w' => e = .returned (.tuple #[]) ∧ Turned Rst w0 s N w' (crashS S l) := by
  have hrw := rdv_only h.only hr (by rw [iv_length, hl]; exact hout)
  obtain ⟨F, ⟨d, As, cs, Ap, cp, rfl, hR, hk, hF⟩, h2, h3⟩ := h
  have hlt : ∀ ad, A = some ad → 0 < n → ad.block < w0.heap.size := fun ad ha h0 => by
    obtain ⟨g, off, e, hg, _⟩ := hr (by rw [iv_length, hl]; exact h0)
    rw [ha] at e
    injection e with e
    rw [e]; exact hg
  refine (rcrash_any hR hk hf.1 A n c l hl hc hm hi (hrw.more h3.size) fun ad ha h0 hfa => ?_).mono ?_
  · rcases h2 _ ((hF _).2 hfa) with h | h
    · exact hout ad ha h0 h
    · have := hlt ad ha h0; omega
  · rintro e w' ⟨rfl, ho, hR'⟩
    exact ⟨rfl, rst_turn hF h2 h3 rfl hR' (hk.crash l) ho fun g hg => by cases hg⟩
theorem rst_read (h : Turned Rst w0 s N w S) (hf : Few S) (at_ : Int) :
    Calls Try.prog 31 #[.pointer (some s), .int .i64 at_] w fun e w' => e = .returned (.tuple #[.string ⟨(readS S at_).toArray⟩, .int .i64 (readE S at_ : Nat)]) ∧ w = w' := by
  obtain ⟨F, ⟨d, As, cs, Ap, cp, rfl, hR, hk, hF⟩, h2, h3⟩ := h
  exact rread_any hR hf.1 at_
end
end Go.Proofs.Ythbgcffnnholeaa
