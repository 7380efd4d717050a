/- The package's disks do what the walks of the statements ask of them. No statement of the seat is proved here. -/
import Derived.Test.YtdnconakpajdgaaDskLandH
namespace Go.Proofs.Ytdnconakpajdgaa
open Go.RowKit
set_option linter.unusedVariables false
set_option linter.unusedSimpArgs false

theorem only_lf {w w' : World} {F : Nat → Prop} {d : Nat} {An : Option Addr} {cn : Nat} {As : Option Addr} {cs : Nat} {Ap : Option Addr} {cp n p : Nat} (hF : ∀ g, F g ↔ LF d An cn As cs Ap cp n p g) (h : Only (LF d An cn As cs Ap cp n p) w w') : Only F w w' :=
  ⟨h.os, h.tape, h.output, h.size, fun g hg hn => h.block g hg fun hf => hn ((hF g).2 hf)⟩
theorem writeE_bad {S : DS} {at_ : Int} {k : Nat} (h : badW S at_ k) : writeE S at_ k = 1 := by unfold writeE; rw [if_pos h]
theorem flushL_snoc_fun (ps : List (Nat × List UInt8)) (s : Nat → List UInt8) (p : Nat × List UInt8) : flushL (ps ++ [p]) s = updS (flushL ps s) p.1 p.2 := flushL_snoc ps s p
theorem doneS_off {S : DS} : (doneS S).off = S.off := rfl
set_option maxHeartbeats 1000000 in
theorem disksOk : DisksOk Lst where
  lt h := lst_lt h
  keep h hk := lst_keep h hk
  ok h := by
    obtain ⟨_, _, _, _, _, _, _, _, _, _, ho, _⟩ := h
    exact ho
  new n w hn := (new_good n hn w).mono fun e w' ⟨A, B, he, h1, h2, h3, h4⟩ => by
    refine ⟨_, _, he, ⟨_, _, _, _, _, _, _, _, rfl, h1, DS.Ok.new hn, ⟨rfl, rfl, ⟨by decide, by decide⟩, fun _ => rfl, fun h => by cases h⟩, fun g => Iff.rfl⟩, fun g hg => ?_, h4⟩
    rcases hg with rfl | hg | hg | hg
    · omega
    · have : A = g := by simpa [Value.ownBlock] using hg
      omega
    · have : B = g := by simpa [Value.ownBlock] using hg
      omega
    · cases hg
  bad n w hn := (new_bad n hn w).mono fun e w' ⟨he, hw⟩ => ⟨he, hw ▸ Below.refl _ _⟩
  write s F S at_ A n c b w h hf ha hl hnc hcm hr ho := by
    obtain ⟨d, An, cn, As, cs, Ap, cp, fl, rfl, hd, hk, hfl, hF⟩ := h
    have hn64 : n ≤ 9223372036854775807 := by unfold maxLen at hcm; omega
    by_cases hb : badW S at_ n
    · have e1 : writeS S at_ b = S := by unfold writeS; rw [hl, if_pos hb]
      rw [writeE_bad hb, e1]
      refine (write_bad hd hk.le at_ A n c hn64 hb).mono fun e w' ⟨he, hw⟩ => ⟨he, ?_⟩
      subst hw
      exact Turned.refl ⟨d, An, cn, As, cs, Ap, cp, fl, rfl, hd, hk, hfl, hF⟩
    · have hb' := hb
      unfold badW at hb'
      obtain ⟨t, rfl⟩ : ∃ t : Nat, at_ = t := ⟨at_.toNat, by omega⟩
      obtain ⟨hb1, hb2, hb3⟩ := hfl.begin hk
      cases hoff : (tickS S).off with
      | true =>
        have e0 : writeE S t n = 6 := by unfold writeE; rw [if_neg hb, if_pos hoff]
        have e1 : writeS S t b = tickS S := by unfold writeS; rw [hl, if_neg hb, if_pos hoff]
        rw [e0, e1]
        rw [hoff] at hb1
        refine (write_dead hd hk.le (by rw [hfl.cnt]; exact hf.2) hfl.i64 hfl.pos hb1 t (by omega) A n c (by omega)).mono fun e w' ⟨he, h1, hg⟩ => ⟨he, F, ?_, fun g hg => .inl hg, only_grown hg ((hF d).2 (.inl rfl))⟩
        refine ⟨d, An, cn, As, cs, Ap, cp, _, rfl, ?_, hk.tick, hb2 hoff, fun g => by rw [tickS_n, tickS_put]; exact hF g⟩
        have e2 : nowS (tickS S) = nowS S := by funext k; unfold nowS; rw [tickS_put, tickS_safe]
        rw [tickS_n, tickS_safe, tickS_put, e2]
        exact h1
      | false =>
        have hoff' : ¬ (tickS S).off = true := by rw [hoff]; decide
        have e0 : writeE S t n = 0 := by unfold writeE; rw [if_neg hb, if_neg hoff']
        have e1 : writeS S t b = doneS { tickS S with put := S.put ++ [(t, padS b)] } := by unfold writeS; rw [hl, if_neg hb, if_neg hoff']; rfl
        have hkw : (writeS S t b).Ok := hk.write t b
        rw [e0]
        rw [hoff] at hb1
        refine (write_good hd hk.le hk.now hf.1 (by rw [hfl.cnt]; exact hf.2) hfl.i64 hfl.pos hb1 t (by omega) A n c b hl (by omega) hnc hcm hr (fun ad e h0 hg => ho ad e h0 ((hF _).2 hg))).mono fun e w' ⟨he, hon, Ap', cp', h1, hat⟩ => ⟨he, ?_⟩
        refine ⟨LF d An cn As cs Ap' cp' S.n (S.put.length + 1), ⟨d, An, cn, As, cs, Ap', cp', _, rfl, ?_, hkw, hb3 hoff _ (by rw [e1]; exact hoff) (by rw [e1]; rfl) (by rw [e1]; rfl), fun g => ?_⟩, fun g hg => ?_, only_lf hF hon⟩
        · rw [e1]
          show LD w' d An cn As cs Ap' cp' (tickS S).n (flushL (S.put ++ [(t, padS b)]) (tickS S).safe) (tickS S).safe (S.put ++ [(t, padS b)]) _
          rw [tickS_n, tickS_safe, flushL_snoc_fun]
          exact h1
        · rw [e1]
          show _ ↔ LF d An cn As cs Ap' cp' (tickS S).n (S.put ++ [(t, padS b)]).length g
          rw [tickS_n, List.length_append]
          exact Iff.rfl
        · rcases hg with rfl | hg | hg | hg
          · exact .inl ((hF _).2 (.inl rfl))
          · exact .inl ((hF _).2 (.inr (.inl hg)))
          · exact .inl ((hF _).2 (.inr (.inr (.inl hg))))
          · exact (hat g hg).imp (fun h => (hF _).2 (.inr (.inr (.inr h)))) id
  flush s F S w h hf := by
    obtain ⟨d, An, cn, As, cs, Ap, cp, fl, rfl, hd, hk, hfl, hF⟩ := h
    obtain ⟨hb1, hb2, hb3⟩ := hfl.begin hk
    cases hoff : (tickS S).off with
    | true =>
      have e0 : flushE S = 6 := by unfold flushE; rw [if_pos hoff]
      have e1 : flushS S = tickS S := by unfold flushS; rw [if_pos hoff]
      rw [e0, e1]
      rw [hoff] at hb1
      refine (lflush_dead hd (by rw [hfl.cnt]; exact hf.2) hfl.i64 hfl.pos hb1).mono fun e w' ⟨he, h1, hg⟩ => ⟨he, F, ?_, fun g hg => .inl hg, only_grown hg ((hF d).2 (.inl rfl))⟩
      refine ⟨d, An, cn, As, cs, Ap, cp, _, rfl, ?_, hk.tick, hb2 hoff, fun g => by rw [tickS_n, tickS_put]; exact hF g⟩
      have e2 : nowS (tickS S) = nowS S := by funext k; unfold nowS; rw [tickS_put, tickS_safe]
      rw [tickS_n, tickS_safe, tickS_put, e2]
      exact h1
    | false =>
      have hoff' : ¬ (tickS S).off = true := by rw [hoff]; decide
      have e0 : flushE S = 0 := by unfold flushE; rw [if_neg hoff']
      have e1 : flushS S = doneS { tickS S with safe := flushL S.put S.safe, put := [] } := by unfold flushS; rw [if_neg hoff']
      have hkw : (flushS S).Ok := hk.flush
      rw [e0]
      rw [hoff] at hb1
      refine (lflush_good hd hk.le hk.safe (fun q hq => ⟨hk.at_ q hq, hk.put q hq⟩) hf.1 (by rw [hfl.cnt]; exact hf.2) hfl.i64 hfl.pos hb1).mono fun e w' ⟨he, hon, h1⟩ => ⟨he, ?_⟩
      refine ⟨LF d An cn As cs none 0 S.n 0, ⟨d, An, cn, As, cs, none, 0, _, rfl, ?_, hkw, hb3 hoff _ (by rw [e1]; exact hoff) (by rw [e1]; rfl) (by rw [e1]; rfl), fun g => ?_⟩, fun g hg => ?_, only_lf hF hon⟩
      · rw [e1]
        show LD w' d An cn As cs none 0 (tickS S).n (flushL [] (flushL S.put S.safe)) (flushL S.put S.safe) [] _
        rw [tickS_n]
        exact h1
      · rw [e1]
        show _ ↔ LF d An cn As cs none 0 (tickS S).n 0 g
        rw [tickS_n]
      · rcases hg with rfl | hg | hg | hg
        · exact .inl ((hF _).2 (.inl rfl))
        · exact .inl ((hF _).2 (.inr (.inl hg)))
        · exact .inl ((hF _).2 (.inr (.inr (.inl hg))))
        · cases hg
  read s F S at_ w h hf ha := by
    obtain ⟨d, An, cn, As, cs, Ap, cp, fl, rfl, hd, hk, hfl, hF⟩ := h
    by_cases hb : at_ < 0 ∨ (S.n : Int) ≤ at_
    · have e1 : readE S at_ = 1 := by unfold readE; rw [if_pos hb]
      have e2 : readS S at_ = [] := by unfold readS; rw [if_neg (by rw [e1]; decide)]
      rw [e1, e2]
      refine (read_bad hd hk.le at_ hb).mono fun e w' ⟨he, hw⟩ => ⟨none, 0, he, ?_, hw ▸ Below.refl _ _⟩
      exact World.ownsRow_nil _ _ _ _
    · obtain ⟨t, rfl⟩ : ∃ t : Nat, at_ = t := ⟨at_.toNat, by omega⟩
      cases ho : S.off with
      | true =>
        have e1 : readE S t = 6 := by unfold readE; rw [if_neg hb, if_pos ho]
        have e2 : readS S t = [] := by unfold readS; rw [if_neg (by rw [e1]; decide)]
        rw [e1, e2]
        refine (read_dead hd hk.le (by rw [hfl.dead, ho]) t (by omega)).mono fun e w' ⟨he, hw⟩ => ⟨none, 0, he, ?_, hw ▸ Below.refl _ _⟩
        exact World.ownsRow_nil _ _ _ _
      | false =>
        have e1 : readE S t = 0 := by unfold readE; rw [if_neg hb, if_neg (by rw [ho]; decide)]
        have e2 : readS S t = nowS S t := by unfold readS; rw [if_pos e1]; rfl
        have hl := hk.now t
        rw [e1, e2, hl]
        refine (read_good hd hk.le hk.now (by rw [hfl.dead, ho]) t (by omega)).mono fun e w' ⟨he, hw⟩ => ⟨some ⟨w.heap.size, 0, none⟩, 128, he, ?_, ?_⟩
        · subst hw
          have := World.ownsRow_lit (base := w.heap.size) (size := 1) (e := 64) w (bv (nowS S t)).toArray 128 (Nat.le_refl _) (by simp [maxLen]) (by rw [List.size_toArray, bv_length, hl])
          rwa [List.toList_toArray] at this
        · subst hw
          exact (Below.refl _ _).alloc (Nat.le_refl _) _
  cut s F S n w h hn := by
    obtain ⟨d, An, cn, As, cs, Ap, cp, fl, rfl, hd, hk, hfl, hF⟩ := h
    refine (cut_any hd n).mono fun e w' ⟨he, h1, hg⟩ => ⟨he, F, ?_, fun g hg => .inl hg, only_grown hg ((hF d).2 (.inl rfl))⟩
    have hkc : (cutS S n).Ok := hk.cut hn.2
    cases ho : S.off with
    | true =>
      have e1 : cutS S n = S := by unfold cutS; rw [if_pos ho]
      rw [e1]
      rw [hfl.dead, if_pos ho] at h1
      exact ⟨d, An, cn, As, cs, Ap, cp, fl, rfl, h1, hk, hfl, hF⟩
    | false =>
      have e1 : cutS S n = { S with left := max n (-1) } := by unfold cutS; rw [if_neg (by rw [ho]; decide)]
      rw [e1] at hkc ⊢
      rw [hfl.dead, if_neg (by rw [ho]; decide)] at h1
      refine ⟨d, An, cn, As, cs, Ap, cp, _, rfl, h1, hkc, ⟨rfl, hfl.cnt, hn, fun _ => ?_, fun h => by simpa using h⟩, hF⟩
      show max n (-1) = if decide (0 ≤ n) = true then n else -1
      by_cases h0 : 0 ≤ n
      · rw [if_pos (by simpa using h0)]; omega
      · rw [if_neg (by simpa using h0)]; omega
  crash s F S A n c l w h hf hl hnc hcm hr hi ho := by
    obtain ⟨d, An, cn, As, cs, Ap, cp, fl, rfl, hd, hk, hfl, hF⟩ := h
    refine (crash_any hd hk.le hk.now hk.safe (fun q hq => ⟨hk.at_ q hq, hk.put q hq⟩) hf.1 A n c l hl hnc hcm hi hr (fun ad e h0 hg => ho ad e h0 ((hF _).2 hg))).mono fun e w' ⟨he, hon, h1⟩ => ⟨he, LF d An cn As cs none 0 S.n 0, ?_, fun g hg => ?_, only_lf hF hon⟩
    · refine ⟨d, An, cn, As, cs, none, 0, ⟨false, false, 0, fl.cnt⟩, rfl, ?_, hk.crash l, ⟨rfl, hfl.cnt, (show -9223372036854775808 ≤ (0 : Int) ∧ (0 : Int) ≤ 9223372036854775807 by decide), fun _ => rfl, fun h => by cases h⟩, fun g => Iff.rfl⟩
      exact h1.as (fun i _ => crashN_now (fateL l) i) (fun i _ => rfl)
    · rcases hg with rfl | hg | hg | hg
      · exact .inl ((hF _).2 (.inl rfl))
      · exact .inl ((hF _).2 (.inr (.inl hg)))
      · exact .inl ((hF _).2 (.inr (.inr (.inl hg))))
      · cases hg
  size s F S w h := by
    obtain ⟨d, An, cn, As, cs, Ap, cp, fl, rfl, hd, hk, hfl, hF⟩ := h
    exact (size_any hd).mono fun e w' ⟨he, hw⟩ => ⟨he, hw ▸ Below.refl _ _⟩
  pending s F S w h := by
    obtain ⟨d, An, cn, As, cs, Ap, cp, fl, rfl, hd, hk, hfl, hF⟩ := h
    exact (pending_any hd).mono fun e w' ⟨he, hw⟩ => ⟨he, hw ▸ Below.refl _ _⟩
  dead s F S w h := by
    obtain ⟨d, An, cn, As, cs, Ap, cp, fl, rfl, hd, hk, hfl, hF⟩ := h
    exact (dead_any hd).mono fun e w' ⟨he, hw⟩ => ⟨by rw [he, hfl.dead], hw ▸ Below.refl _ _⟩
  count s F S w h := by
    obtain ⟨d, An, cn, As, cs, Ap, cp, fl, rfl, hd, hk, hfl, hF⟩ := h
    exact (done_any hd).mono fun e w' ⟨he, hw⟩ => ⟨by rw [he, hfl.cnt], hw ▸ Below.refl _ _⟩
  copy s F S w h hf := by
    obtain ⟨d, An, cn, As, cs, Ap, cp, fl, rfl, hd, hk, hfl, hF⟩ := h
    exact (copy_any hd hk.le hf.1).mono fun e w' ⟨d', An', cn', As', cs', Ap', cp', he, h1, hb, hF'⟩ => ⟨_, _, he, ⟨d', An', cn', As', cs', Ap', cp', fl, rfl, h1, hk, hfl, fun g => Iff.rfl⟩, hF', hb⟩
end Go.Proofs.Ytdnconakpajdgaa
