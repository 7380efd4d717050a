/- The contract of the reference's Write of package disk's statements. No statement of the seat is proved here. -/
import Derived.Test.YtdnconakpajdgaaDskRefB
import Derived.Deep.AppendLies
namespace Go.Proofs.Ytdnconakpajdgaa
open Go.RowKit
set_option linter.unusedVariables false
set_option linter.unusedSimpArgs false

theorem info_put : (Try.prog.info? 73).map (fun i => (i.zero, i.size, i.bytes)) = some (some (.agg #[.int .i64 0, .string ⟨#[]⟩]), 2, 24) := by kernel_rfl
section
variable {w : World} {d : Nat} {As : Option Addr} {cs : Nat} {Ap : Option Addr} {cp : Nat} {S : DS}
/-- A write more. -/
theorem rd_push (h : RD w d As cs Ap cp S) {w3 : World} {A3 : Option Addr} {c3 : Nat} {q : Nat × List UInt8} (hg : w.grownBy w3 (Value.slice Ap S.put.length cp).ownBlock) (ho : w3.ownsRow 0 73 2 (.slice A3 (S.put.length + 1) c3) (S.put.length + 1) (pcs (S.put ++ [q]))) :
    (w3.cell? ⟨d, 1, none⟩ = some (.slice Ap S.put.length cp) ∧ w3.frozen? ⟨d, 1, none⟩ = false) ∧ RD (w3.setCell ⟨d, 1, none⟩ (.slice A3 (S.put.length + 1) c3)) d As cs A3 c3 { S with put := S.put ++ [q] } := by
  have hne : ∀ g, (Value.slice Ap S.put.length cp).ownBlock = some g → g ≠ d := fun g hv => by
    obtain ⟨_, cur, hb, _⟩ := row_blk h.put g hv
    exact blk_other hb h.blk (by decide)
  have hd3 : Blk w3 d 61 (dcells As cs Ap cp S) := h.blk.same (hg.block d h.blk.lt fun e => hne d e.symm rfl)
  have h1 : ∀ g, (Value.slice As S.n cs).ownBlock = some g → g ≠ d := fun g hv => by
    obtain ⟨_, cur, hb, _⟩ := row_blk h.safe g hv
    exact blk_other hb h.blk (by decide)
  have hs3 : w3.ownsRow 0 9 1 (.slice As S.n cs) S.n (sts S.n S.safe) := ownsRow_same h.safe fun g hv hl => hg.block g hl fun e => by
    obtain ⟨_, cur, hb, _⟩ := row_blk h.safe g hv
    obtain ⟨_, cur2, hb2, _⟩ := row_blk h.put g e.symm
    exact blk_other hb hb2 (by decide) rfl
  have h3 : ∀ g, (Value.slice A3 (S.put.length + 1) c3).ownBlock = some g → g ≠ d := fun g hv => by
    obtain ⟨_, cur, hb, _⟩ := row_blk ho g hv
    exact blk_other hb hd3 (by decide)
  refine ⟨⟨hd3.cell 1, hd3.frozen 1⟩, ?_, ownsRow_same hs3 fun g hv _ => setCell_block (h1 g hv), ?_⟩
  · have := hd3.set_ 1 (.slice A3 (S.put.length + 1) c3)
    have e : dcells As cs A3 c3 { S with put := S.put ++ [q] } = (dcells As cs Ap cp S).setIfInBounds 1 (.slice A3 (S.put.length + 1) c3) := by simp [dcells]
    rw [e]
    exact this
  · have e : (S.put ++ [q]).length = S.put.length + 1 := by simp
    show World.ownsRow _ _ _ _ (.slice A3 (S.put ++ [q]).length c3) (S.put ++ [q]).length _
    rw [e]
    exact ownsRow_same ho fun g hv _ => setCell_block (h3 g hv)
set_option maxRecDepth 100000 in
set_option maxHeartbeats 2000000 in
theorem rwrite_bad (h : RD w d As cs Ap cp S) (at_ : Int) (b : List UInt8) (m : Nat) (hm : b.length = m) (hb : badW S at_ m) :
    Calls Try.prog 31 #[.pointer (some ⟨d, 0, none⟩), .int .i64 at_, st b] w fun e w' => e = .returned (.int .i64 1) ∧ w = w' := by
  have hc0 : w.cell? ⟨d, 0, none⟩ = some (.slice As S.n cs) := h.blk.cell 0
  have hbs : (⟨b.toArray⟩ : ByteArray).size = m := hm
  unfold badW at hb
  show Calls _ _ #[_, _, .string ⟨b.toArray⟩] _ _
  generalize (⟨b.toArray⟩ : ByteArray) = sb at *
  generalize S.n = sn at *
  clear h hm
  by_cases h1 : at_ < 0
  · go_enter Try.func31, Try.ntmps31
    go_wp2_with fail
    go_ret
    exact ⟨rfl, rfl⟩
  · by_cases h2 : (sn : Int) ≤ at_
    · go_enter Try.func31, Try.ntmps31
      go_wp2_with fail
      go_ret
      exact ⟨rfl, rfl⟩
    · have h3 : (128 : Int) < (m : Int) := by omega
      have h4 : at_ < (sn : Int) := by omega
      go_enter Try.func31, Try.ntmps31
      go_wp2_with fail
      go_ret
      exact ⟨rfl, rfl⟩
set_option maxRecDepth 100000 in
set_option maxHeartbeats 2000000 in
theorem rwrite_good (h : RD w d As cs Ap cp S) (hk : S.Ok) (hn : S.put.length ≤ 100000) (hc : S.cnt ≤ 100000) (t : Nat) (b : List UInt8) (m : Nat) (hm : b.length = m) (hb : ¬ badW S t m) :
    Calls Try.prog 31 #[.pointer (some ⟨d, 0, none⟩), .int .i64 t, st b] w fun e w' => e = .returned (.int .i64 (writeE S t m : Nat)) ∧ Only (RF d As cs Ap cp S) w w' ∧
      ∃ A3 c3, RD w' d As cs A3 c3 (writeS S t b) ∧ ∀ g, (Value.slice A3 (writeS S t b).put.length c3).ownBlock = some g → (Value.slice Ap S.put.length cp).ownBlock = some g ∨ w.heap.size ≤ g := by
  have hc0 : w.cell? ⟨d, 0, none⟩ = some (.slice As S.n cs) := h.blk.cell 0
  have hbs : (⟨b.toArray⟩ : ByteArray).size = m := hm
  have KO := Lib.hid (roff_any h)
  have hb2 : ¬ badW S t b.length := by rw [hm]; exact hb
  have h1 : ¬ (t : Int) < 0 := by omega
  have h2 : (t : Int) < (S.n : Int) := by unfold badW at hb; omega
  have h3 : ¬ (128 : Int) < (m : Int) := by unfold badW at hb; omega
  have hm1 : m ≤ 128 := by omega
  by_cases ht : (tickS S).off = true
  · have e1 : writeE S t m = 6 := by unfold writeE; rw [if_neg hb, if_pos ht]
    have e2 : writeS S t b = tickS S := by unfold writeS; rw [if_neg hb2, if_pos ht]
    rw [e1, e2]
    rw [ht] at KO
    show Calls _ _ #[_, _, .string ⟨b.toArray⟩] _ _
    generalize (⟨b.toArray⟩ : ByteArray) = sb at *
    obtain ⟨sn, hsn⟩ : ∃ sn, S.n = sn := ⟨_, rfl⟩
    rw [hsn] at hc0 h2
    clear h ht e1 e2 hb hb2 hsn
    go_enter Try.func31, Try.ntmps31
    go_wp2_with fail
    (with_reducible refine KO.out.mono ?_)
    rintro e w1 ⟨rfl, h1, hg1⟩
    have H := Lib.hid (show Only (RF d As cs Ap cp S) w w1 ∧ RD w1 d As cs Ap cp (tickS S) from ⟨only_grown hg1 (.inl rfl), h1⟩)
    clear h1 hg1
    go_wp2_with fail
    go_ret
    exact ⟨rfl, H.out.1, Ap, cp, H.out.2, fun g hg => .inl (by rw [← tickS_put (S := S)]; exact hg)⟩
  · have ht' : (tickS S).off = false := by simpa using ht
    have e1 : writeE S t m = 0 := by unfold writeE; rw [if_neg hb, if_neg ht]
    have e2 : writeS S t b = doneS { tickS S with put := S.put ++ [(t, padS b)] } := by unfold writeS; rw [if_neg hb2, if_neg ht]; rfl
    rw [e1, e2]
    rw [ht'] at KO
    have hke : (tickS S).Ok := hk.tick
    have hTp : (tickS S).put = S.put := tickS_put
    have hTc : (tickS S).cnt = S.cnt := tickS_cnt
    obtain ⟨T, hT⟩ : ∃ T, tickS S = T := ⟨_, rfl⟩
    have hTn : T.n = S.n := by rw [← hT, tickS_n]
    rw [hT] at KO hke hTp hTc ⊢
    obtain ⟨p, hp⟩ : ∃ p, S.put.length = p := ⟨_, rfl⟩
    have HKE := Lib.hid hke
    have HP := Lib.hid (show T.put.length = p by rw [hTp, hp])
    have HTP := Lib.hid hTp
    have HTC := Lib.hid (show T.cnt ≤ 100000 by rw [hTc]; exact hc)
    have hp1 : p ≤ 100000 := by omega
    have HRF := Lib.hid (show ∀ g, RF d As cs Ap cp T g ↔ RF d As cs Ap cp S g from fun g => by unfold RF; rw [hTn, hTp])
    have KP := Lib.hid (fun W => rpad_any b m hm hm1 W)
    show Calls _ _ #[_, _, .string ⟨b.toArray⟩] _ _
    unfold st at KP
    obtain ⟨sp, hsp⟩ : ∃ sp : ByteArray, (⟨(padS b).toArray⟩ : ByteArray) = sp := ⟨_, rfl⟩
    rw [hsp] at KP
    have HSP := Lib.hid hsp
    have HX := Lib.hid (show writeE S t m = 0 ∧ S.put.length = p from ⟨e1, hp⟩)
    generalize (⟨b.toArray⟩ : ByteArray) = sb at *
    obtain ⟨sn, hsn⟩ : ∃ sn, S.n = sn := ⟨_, rfl⟩
    rw [hsn] at hc0 h2
    obtain ⟨ip, hip, hy0, hy1, hy2⟩ := info_parts info_put
    have HIP := Lib.hid (And.intro hip (And.intro hy0 (And.intro hy1 hy2)))
    clear h ht ht' e1 e2 hb hb2 hsn hT hTn hTp hTc hke hp hn hc hk hsp hip hy0 hy1 hy2
    go_enter Try.func31, Try.ntmps31
    go_wp2_with fail
    (with_reducible refine KO.out.mono ?_)
    rintro e w1 ⟨rfl, hd1, hg1⟩
    have H1 := Lib.hid (show Only (RF d As cs Ap cp S) w w1 ∧ RD w1 d As cs Ap cp T from ⟨only_grown hg1 (.inl rfl), hd1⟩)
    have hc1 : w1.drew.cell? ⟨d, 1, none⟩ = some (.slice Ap p cp) := by rw [← HP.out]; exact hd1.blk.cell 1
    clear hd1 hg1 KO
    go_wp2_with fail
    have hone : ∀ u ∈ ([.int .i64 t, .string sp] : List Value), u.oneCell' = true := fun u hu => by
      rcases List.mem_cons.1 hu with h | h
      · rw [h]; rfl
      · rw [List.mem_singleton.1 h]; rfl
    have HONE := Lib.hid hone
    have HLE := Lib.hid (show p + 1 ≤ maxLen ∧ (p + 1) * 24 ≤ 140737488355328 from ⟨by unfold maxLen; omega, by omega⟩)
    have PK := Lib.hid (show ∀ w2, Below w1.drew.heap.size w1.drew w2 → w2.cell? ⟨d, 1, none⟩ = some (.slice Ap p cp) ∧ (w2.alloc (.cells #[.int .i64 t, .string sp] 73)).cell? ⟨d, 1, none⟩ = some (.slice Ap p cp) ∧
        (w2.alloc (.cells #[.int .i64 t, .string sp] 73)).ownsRow 0 73 2 (.slice Ap p cp) p (pcs T.put) ∧
        (∀ (j : Nat) (u : Value), ([.int .i64 t, .string sp] : List Value)[j]? = some u → (w2.alloc (.cells #[.int .i64 t, .string sp] 73)).cell? ((⟨w2.heap.size, 0, none⟩ : Addr).add j) = some u) ∧
        RD (w2.alloc (.cells #[.int .i64 t, .string sp] 73)) d As cs Ap cp T from fun w2 hb0 => by
      have hb : Below w1.heap.size w1 w2 := ⟨hb0.os, hb0.tape, hb0.output, hb0.size, hb0.block⟩
      have hal : Below w2.heap.size w2 (w2.alloc (.cells #[.int .i64 t, .string sp] 73)) := (Below.refl _ _).alloc (Nat.le_refl _) _
      have hd2 : RD w2 d As cs Ap cp T := rd_keep H1.out.2 fun g hg => hb.block g (rf_lt H1.out.2 g hg)
      have hd3 := rd_keep hd2 fun g hg => hal.block g (rf_lt hd2 g hg)
      have hput := hd3.put
      rw [HP.out] at hput
      refine ⟨by rw [← HP.out]; exact hd2.blk.cell 1, by rw [← HP.out]; exact hd3.blk.cell 1, hput, fun j u hu => ?_, hd3⟩
      rw [Addr.add_lit, (Blk.new w2 73 #[.int .i64 t, .string sp]).cell, Nat.zero_add]
      simpa using hu)
    have PS := Lib.hid (show ∀ w2 gg cap w3, Below w1.drew.heap.size w1.drew w2 → w3.ownsRow 0 73 2 (.slice (some ⟨gg, 0, none⟩) (p + 1) cap) (p + 1) (pcs T.put ++ [.int .i64 t, .string sp]) →
        (w2.alloc (.cells #[.int .i64 t, .string sp] 73)).grownBy w3 (Value.slice Ap p cp).ownBlock → ((Value.slice Ap p cp).ownBlock = some gg ∨ gg = (w2.alloc (.cells #[.int .i64 t, .string sp] 73)).heap.size) →
        (w3.cell? ⟨d, 1, none⟩ = some (.slice Ap p cp) ∧ w3.frozen? ⟨d, 1, none⟩ = false) ∧ RD (w3.setCell ⟨d, 1, none⟩ (.slice (some ⟨gg, 0, none⟩) (p + 1) cap)) d As cs (some ⟨gg, 0, none⟩) cap { T with put := S.put ++ [(t, padS b)] } ∧
        Only (RF d As cs Ap cp S) w (w3.setCell ⟨d, 1, none⟩ (.slice (some ⟨gg, 0, none⟩) (p + 1) cap)) ∧ ((Value.slice Ap p cp).ownBlock = some gg ∨ w.heap.size ≤ gg) from fun w2 gg cap w3 hb0 ho hg hat => by
      have hpk := PK.out w2 hb0
      have hb : Below w1.heap.size w1 w2 := ⟨hb0.os, hb0.tape, hb0.output, hb0.size, hb0.block⟩
      have hal : Below w2.heap.size w2 (w2.alloc (.cells #[.int .i64 t, .string sp] 73)) := (Below.refl _ _).alloc (Nat.le_refl _) _
      have hg' : (w2.alloc (.cells #[.int .i64 t, .string sp] 73)).grownBy w3 (Value.slice Ap T.put.length cp).ownBlock := by rw [HP.out]; exact hg
      have ho' : w3.ownsRow 0 73 2 (.slice (some ⟨gg, 0, none⟩) (T.put.length + 1) cap) (T.put.length + 1) (pcs (T.put ++ [(t, padS b)])) := by
        rw [HP.out, pcs_snoc]
        show w3.ownsRow _ _ _ _ _ (pcs T.put ++ [.int .i64 (t : Nat), st (padS b)])
        unfold st
        rw [HSP.out]
        exact ho
      have hpu := rd_push hpk.2.2.2.2 (q := (t, padS b)) hg' ho'
      rw [HP.out, HTP.out] at hpu
      have ho1 : Only (RF d As cs Ap cp S) w (w2.alloc (.cells #[.int .i64 t, .string sp] 73)) := H1.out.1.trans (Only.of_below (F := RF d As cs Ap cp S) (hb.trans (hal.mono hb.size))) fun g hg => .inl hg
      have ho2 : Only (RF d As cs Ap cp S) (w2.alloc (.cells #[.int .i64 t, .string sp] 73)) w3 := ⟨hg.os, hg.tape, hg.output, hg.size, fun k hk hn => hg.block k hk fun e => hn (.inr (.inr (by rw [HX.out.2]; exact e.symm)))⟩
      refine ⟨hpu.1, hpu.2, only_trans (only_trans ho1 ho2) (only_grown (grown_cell w3 d 1 _) (.inl rfl)), hat.imp id fun e => ?_⟩
      rw [e]
      exact ho1.size)
    clear hone
    refine wp_region_held_drew (S := fun _ => True) (by kernel_rfl) trivial (fun hHeld => ?_)
    refine wpAnyH_take (i := 0) (oi := _) (v := .pointer (some ⟨d, 0, none⟩)) rfl (by kernel_rfl) (by kernel_rfl) (by kernel_rfl) (fun _ _ _ h => h) (Or.inl ⟨by rfl, by intro w hSw; go_simp⟩) trivial ?_
    simp only [List.getElem_toArray, List.getElem_cons_zero, List.getElem_cons_succ, Act.put, List.setIfInBounds_toArray, List.set_cons_zero, List.set_cons_succ]
    refine wpAnyH_take (i := 1) (oi := _) (v := .pointer (some ⟨d, 0, none⟩)) rfl (by kernel_rfl) (by kernel_rfl) (by kernel_rfl) (fun _ _ _ h => h) (Or.inl ⟨by rfl, by intro w hSw; go_simp⟩) trivial ?_
    simp only [List.getElem_toArray, List.getElem_cons_zero, List.getElem_cons_succ, Act.put, List.setIfInBounds_toArray, List.set_cons_zero, List.set_cons_succ]
    refine wpAnyH_take (i := 2) (oi := _) (v := .pointer (some ⟨d, 0, none⟩)) rfl (by kernel_rfl) (by kernel_rfl) (by kernel_rfl) (fun _ _ _ h => h) (Or.inl ⟨by rfl, by intro w hSw; go_simp⟩) trivial ?_
    simp only [List.getElem_toArray, List.getElem_cons_zero, List.getElem_cons_succ, Act.put, List.setIfInBounds_toArray, List.set_cons_zero, List.set_cons_succ]
    refine wpAnyH_take (i := 3) (oi := _) (v := .pointer (some ⟨d, 1, none⟩)) rfl (by kernel_rfl) (by kernel_rfl) (by kernel_rfl) (fun _ _ _ h => h) (Or.inl ⟨by rfl, by intro w hSw; go_simp⟩) trivial ?_
    simp only [List.getElem_toArray, List.getElem_cons_zero, List.getElem_cons_succ, Act.put, List.setIfInBounds_toArray, List.set_cons_zero, List.set_cons_succ]
    refine wpAnyH_take (i := 5) (oi := _) (v := .int .i64 t) rfl (by kernel_rfl) (by kernel_rfl) (by kernel_rfl) (fun _ _ _ h => h) (Or.inl ⟨by rfl, by intro w hSw; go_simp⟩) trivial ?_
    simp only [List.getElem_toArray, List.getElem_cons_zero, List.getElem_cons_succ, Act.put, List.setIfInBounds_toArray, List.set_cons_zero, List.set_cons_succ]
    refine wpAnyH_take (i := 6) (oi := _) (v := .string sb) rfl (by kernel_rfl) (by kernel_rfl) (by kernel_rfl) (fun _ _ _ h => h) (Or.inl ⟨by rfl, by intro w hSw; go_simp⟩) trivial ?_
    simp only [List.getElem_toArray, List.getElem_cons_zero, List.getElem_cons_succ, Act.put, List.setIfInBounds_toArray, List.set_cons_zero, List.set_cons_succ]
    refine wpAnyH_ready (rs := [4, 7]) (by kernel_rfl) (by simp) ?_
    refine AllReadyH.cons rfl (fun K hK => ?_) (AllReadyH.cons rfl (fun K hK => ?_) AllReadyH.nil)
    focus
      go_simp
      refine hK.out _ _ trivial (fun _ => ?_)
      clear hK K
      try simp only [List.getElem_toArray, List.getElem_cons_zero, List.getElem_cons_succ, Act.put, List.setIfInBounds_toArray, List.set_cons_zero, List.set_cons_succ]
      refine wpAnyH_ready (rs := [7]) (by kernel_rfl) (by simp) ?_
      refine AllReadyH.cons rfl (fun K hK => ?_) AllReadyH.nil
      go_simp
      (go_at_call 26; (with_reducible refine (KP.out _).mono ?_))
      rintro e w2 ⟨rfl, hb2⟩
      have hpk := PK.out w2 hb2
      have hc2 := hpk.1
      have hc3 := hpk.2.1
      go_wp2_with fail
      refine hK.out _ _ trivial (fun _ => ?_)
      clear hK K
      try simp only [List.getElem_toArray, List.getElem_cons_zero, List.getElem_cons_succ, Act.put, List.setIfInBounds_toArray, List.set_cons_zero, List.set_cons_succ]
      refine wpAnyH_take (i := 8) (oi := _) (v := .agg #[.int .i64 t, .string sp]) rfl (by kernel_rfl) (by kernel_rfl) (by kernel_rfl) (fun _ _ _ h => h) (Or.inl ⟨by rfl, by intro w hSw; go_simp⟩) trivial ?_
      simp only [List.getElem_toArray, List.getElem_cons_zero, List.getElem_cons_succ, Act.put, List.setIfInBounds_toArray, List.set_cons_zero, List.set_cons_succ]
      refine wpAnyH_ready (rs := [9]) (by kernel_rfl) (by simp) ?_
      refine AllReadyH.cons rfl (fun K hK => ?_) AllReadyH.nil
      go_simp
      refine hK.out _ _ trivial (fun _ => ?_)
      clear hK K
      try simp only [List.getElem_toArray, List.getElem_cons_zero, List.getElem_cons_succ, Act.put, List.setIfInBounds_toArray, List.set_cons_zero, List.set_cons_succ]
    rotate_left
    focus
      go_simp
      (go_at_call 26; (with_reducible refine (KP.out _).mono ?_))
      rintro e w2 ⟨rfl, hb2⟩
      have hpk := PK.out w2 hb2
      have hc2 := hpk.1
      have hc3 := hpk.2.1
      go_wp2_with fail
      refine hK.out _ _ trivial (fun _ => ?_)
      clear hK K
      try simp only [List.getElem_toArray, List.getElem_cons_zero, List.getElem_cons_succ, Act.put, List.setIfInBounds_toArray, List.set_cons_zero, List.set_cons_succ]
      refine wpAnyH_take (i := 8) (oi := _) (v := .agg #[.int .i64 t, .string sp]) rfl (by kernel_rfl) (by kernel_rfl) (by kernel_rfl) (fun _ _ _ h => h) (Or.inl ⟨by rfl, by intro w hSw; go_simp⟩) trivial ?_
      simp only [List.getElem_toArray, List.getElem_cons_zero, List.getElem_cons_succ, Act.put, List.setIfInBounds_toArray, List.set_cons_zero, List.set_cons_succ]
      refine wpAnyH_ready (rs := [4, 9]) (by kernel_rfl) (by simp) ?_
      refine AllReadyH.cons rfl (fun K hK => ?_) (AllReadyH.cons rfl (fun K hK => ?_) AllReadyH.nil)
      focus
        go_simp
        refine hK.out _ _ trivial (fun _ => ?_)
        clear hK K
        try simp only [List.getElem_toArray, List.getElem_cons_zero, List.getElem_cons_succ, Act.put, List.setIfInBounds_toArray, List.set_cons_zero, List.set_cons_succ]
        refine wpAnyH_ready (rs := [9]) (by kernel_rfl) (by simp) ?_
        refine AllReadyH.cons rfl (fun K hK => ?_) AllReadyH.nil
        go_simp
        refine hK.out _ _ trivial (fun _ => ?_)
        clear hK K
        try simp only [List.getElem_toArray, List.getElem_cons_zero, List.getElem_cons_succ, Act.put, List.setIfInBounds_toArray, List.set_cons_zero, List.set_cons_succ]
      rotate_left
      focus
        go_simp
        refine hK.out _ _ trivial (fun _ => ?_)
        clear hK K
        try simp only [List.getElem_toArray, List.getElem_cons_zero, List.getElem_cons_succ, Act.put, List.setIfInBounds_toArray, List.set_cons_zero, List.set_cons_succ]
        refine wpAnyH_ready (rs := [4]) (by kernel_rfl) (by simp) ?_
        refine AllReadyH.cons rfl (fun K hK => ?_) AllReadyH.nil
        go_simp
        refine hK.out _ _ trivial (fun _ => ?_)
        clear hK K
        try simp only [List.getElem_toArray, List.getElem_cons_zero, List.getElem_cons_succ, Act.put, List.setIfInBounds_toArray, List.set_cons_zero, List.set_cons_succ]
    all_goals
      refine wpAnyH_ready (rs := [10]) (by kernel_rfl) (by simp) ?_
      refine AllReadyH.cons rfl (fun K hK => ?_) AllReadyH.nil
      refine step_append_lies _ (by rfl) (.tmp 29) (.tmp 34) 59 (by rfl) 0 73 ip _ 2 24 Try.underlying59 HIP.out.1 HIP.out.2.1 HIP.out.2.2.1 HIP.out.2.2.2 rfl (by omega) (.slice Ap p cp) p (pcs T.put) (by rfl) hpk.2.2.1 ⟨w2.heap.size, 0, none⟩ 1 1 [.int .i64 t, .string sp] (by rfl) rfl hpk.2.2.2.1 HONE.out (by omega) HLE.out.1 HLE.out.2 (Nat.zero_le _) _ rfl ?_
      intro gg cap w3 hown3 hgrow3 hat3 hlt3
      have hps := PS.out w2 gg cap w3 hb2 hown3 hgrow3 hat3
      have hc4 := hps.1.1
      have hf4 := hps.1.2
      refine hK.out _ _ trivial (fun _ => ?_)
      clear hK K
      try simp only [List.getElem_toArray, List.getElem_cons_zero, List.getElem_cons_succ, Act.put, List.setIfInBounds_toArray, List.set_cons_zero, List.set_cons_succ]
      refine wpAnyH_ready (rs := [11]) (by kernel_rfl) (by simp) ?_
      refine AllReadyH.cons rfl (fun K hK => ?_) AllReadyH.nil
      go_simp
      refine hK.out _ _ trivial (fun _ => ?_)
      clear hK K
      try simp only [List.getElem_toArray, List.getElem_cons_zero, List.getElem_cons_succ, Act.put, List.setIfInBounds_toArray, List.set_cons_zero, List.set_cons_succ]
      refine wpAnyH_ready (rs := [12]) (by kernel_rfl) (by simp) ?_
      refine AllReadyH.cons rfl (fun K hK => ?_) AllReadyH.nil
      go_simp
      refine hK.out _ _ trivial (fun _ => ?_)
      clear hK K
      try simp only [List.getElem_toArray, List.getElem_cons_zero, List.getElem_cons_succ, Act.put, List.setIfInBounds_toArray, List.set_cons_zero, List.set_cons_succ]
      refine wpAnyH_ready (rs := [13]) (by kernel_rfl) (by simp) ?_
      refine AllReadyH.cons rfl (fun K hK => ?_) AllReadyH.nil
      go_simp
      refine hK.out _ _ trivial (fun _ => ?_)
      clear hK K
      try simp only [List.getElem_toArray, List.getElem_cons_zero, List.getElem_cons_succ, Act.put, List.setIfInBounds_toArray, List.set_cons_zero, List.set_cons_succ]
      refine wpAnyH_done (by kernel_rfl) ?_ _
    all_goals
      have H3 := Lib.hid (And.intro hps.2.1 (And.intro hps.2.2.1 hps.2.2.2))
      have KD := Lib.hid (rdone_any (S := { T with put := S.put ++ [(t, padS b)] }) H3.out.1 HTC.out HKE.out.left.1 HKE.out.left.2)
      clear hc2 hc3 hc4 hf4 hps hpk hown3 hgrow3 hat3 hlt3 hb2
      go_wp2_with fail
      (with_reducible refine KD.out.mono ?_)
      rintro e w5 ⟨rfl, h5, hg5⟩
      have H5 := Lib.hid (show Only (RF d As cs Ap cp S) w w5 ∧ RD w5 d As cs (some ⟨gg, 0, none⟩) cap (doneS { T with put := S.put ++ [(t, padS b)] }) from ⟨only_trans H3.out.2.1 (only_grown hg5 (.inl rfl)), h5⟩)
      clear h5 hg5 KD
      go_wp2_with fail
      go_ret
      exact ⟨rfl, H5.out.1, some ⟨gg, 0, none⟩, cap, H5.out.2, fun g hg => by
        have e : gg = g := by simpa [Value.ownBlock] using hg
        rw [HX.out.2, ← e]
        exact H3.out.2.2⟩
end
end Go.Proofs.Ytdnconakpajdgaa
