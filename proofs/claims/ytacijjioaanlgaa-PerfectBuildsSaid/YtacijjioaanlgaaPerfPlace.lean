/- The contracts of Len, Spilled and Place of package perfect. No statement of the seat is proved here. -/
import Derived.Test.YtacijjioaanlgaaPerfSpill
import Derived.Lib.QuietBelow
import Derived.BigQuiet
import Derived.Sort.Grow
namespace Go.Proofs.Ytacijjioaanlgaa
open Go.RowKit Go.Maps Go.Sort
set_option linter.unusedVariables false

/-- In w the block mb is a Map of n keys: the tries of its groups, the places of its spilled keys. -/
structure PM (w : World) (mb sb pm n : Nat) (sd : List Nat) (al : List (KeyT × Nat)) : Prop where
  mb : Blk w mb 56 #[.int .i64 n, .slice (some ⟨sb, 0, none⟩) sd.length sd.length, .map (some pm)]
  sb : Blk w sb 61 (sd.map fun d => Value.int .u16 (d : Nat)).toArray
  pm : Held w pm al
section
variable {w w' : World} {mb sb pm n : Nat} {sd : List Nat} {al : List (KeyT × Nat)}
theorem PM.on (h : PM w mb sb pm n sd al) (hb : Below w.heap.size w w') : PM w' mb sb pm n sd al := ⟨h.mb.below hb h.mb.lt, h.sb.below hb h.sb.lt, map_below h.pm hb⟩
theorem told_base {P : Program} {f : FuncId} {args : Array Value} {w : World} {v : Value} (h : ∀ W, Below w.heap.size w W → Calls P f args W fun e w' => e = .returned v ∧ Below W.heap.size W w') (d : Nat) (os : Array Obj) :
    Calls P f args (grow (redrawn w d) os) fun e w'' => e = .returned v ∧ ∃ p : Regrown, w'' = grow (redrawn w p.d) p.os :=
  (h _ (below_regrown w d os)).mono fun _ _ ⟨he, hb⟩ => ⟨he, regrown_of_below ((below_regrown w d os).trans (hb.mono (below_regrown w d os).size))⟩
theorem range_base {w : World} {b off : Nat} {cs : List Value} (h : ∀ W, Below w.heap.size w W → W.rangeAt b off cs) (W : World) (hW : ∃ p : Regrown, W = grow (redrawn w p.d) p.os) : W.rangeAt b off cs := by
  obtain ⟨p, rfl⟩ := hW
  exact h _ (below_regrown w p.d p.os)
set_option maxRecDepth 100000 in
theorem look_found (h : Held w pm al) (ho : ∀ x ∈ al, x.1.Ok) (hn : (al.map (·.1)).Nodup) {k : KeyT} {p : Nat} (hk : (k, p) ∈ al) :
    (Instr.lookup 54 (.map (some pm)) (.agg (kcs k).toArray) true).run Try.prog w = .ok (.tuple #[.int .i64 p, .bool true]) w := by
  have hok := ho _ hk
  obtain ⟨v, ps, hrun, hv⟩ := World.ownsMap.look_ok h keyLaw Try.underlying54 (zeroInt w) (zd := .lit (.int .i64 0)) (zp := []) (plainElem_int Try.underlying3 (by decide)) (kl_is hok)
  rw [kmap_at al ho hn hk] at hv
  obtain ⟨a, rfl, hz, _⟩ := plainElem_int_inv Try.underlying3 hv
  have : a = (p : Int) := by
    have := congrArg Prod.fst hz
    simp only at this
    injection this with this
    injection this with _ this
    exact this.symm
  subst this
  have hh : Maps.has (kmap al) (kl k) = true := by rw [kmap_has al ho hok]; simp only [decide_eq_true_eq]; exact List.mem_map.2 ⟨_, hk, rfl⟩
  rw [hh] at hrun
  exact hrun
set_option maxRecDepth 100000 in
theorem look_none (h : Held w pm al) (ho : ∀ x ∈ al, x.1.Ok) {k : KeyT} (hk : k ∉ al.map (·.1)) (hok : k.Ok) :
    (Instr.lookup 54 (.map (some pm)) (.agg (kcs k).toArray) true).run Try.prog w = .ok (.tuple #[.int .i64 0, .bool false]) w := by
  obtain ⟨v, ps, hrun, hv⟩ := World.ownsMap.look_ok h keyLaw Try.underlying54 (zeroInt w) (zd := .lit (.int .i64 0)) (zp := []) (plainElem_int Try.underlying3 (by decide)) (kl_is hok)
  have hh : Maps.has (kmap al) (kl k) = false := by rw [kmap_has al ho hok]; simpa using hk
  rw [atKey_of_not_has hh] at hv
  obtain ⟨a, rfl, hz, _⟩ := plainElem_int_inv Try.underlying3 hv
  have : a = 0 := by
    have := congrArg Prod.fst hz
    simp only at this
    injection this with this
    injection this with _ this
    exact this.symm
  subst this
  rw [hh] at hrun
  exact hrun
end
theorem len_nil (w : World) : Calls Try.prog 16 #[.pointer none] w fun e w' => e = .returned (.int .i64 0) ∧ w = w' := by
  go_enter Try.func16, Try.ntmps16
  go_wp2
  go_ret
  exact ⟨rfl, rfl⟩
theorem spilled_nil (w : World) : Calls Try.prog 17 #[.pointer none] w fun e w' => e = .returned (.int .i64 0) ∧ w = w' := by
  go_enter Try.func17, Try.ntmps17
  go_wp2
  go_ret
  exact ⟨rfl, rfl⟩
theorem len_any (mb n : Nat) (cs : Array Value) (w : World) (h : w.cell? ⟨mb, 0, none⟩ = some (.int .i64 n)) : Calls Try.prog 16 #[.pointer (some ⟨mb, 0, none⟩)] w fun e w' => e = .returned (.int .i64 n) ∧ w = w' := by
  go_enter Try.func16, Try.ntmps16
  go_wp2
  go_ret
  exact ⟨rfl, rfl⟩
theorem spilled_any (mb sb pm n : Nat) (sd : List Nat) (al : List (KeyT × Nat)) (ho : ∀ x ∈ al, x.1.Ok) (hn : (al.map (·.1)).Nodup) (w : World) (h : PM w mb sb pm n sd al) :
    Calls Try.prog 17 #[.pointer (some ⟨mb, 0, none⟩)] w fun e w' => e = .returned (.int .i64 al.length) ∧ w = w' := by
  have h2 := h.mb.cell 2
  have HP := Lib.hid h.pm
  have HSZ := Lib.hid (kmap_size al ho hn)
  clear h ho hn
  go_enter Try.func17, Try.ntmps17
  go_wp2_with (at_len; refine wpList_len_own _ rfl _ 54 rfl 27 3 Try.underlying54 _ pm al.length _ rfl HP.out ?_)
  go_ret
  exact ⟨pf_ret (by rw [HSZ.out]), rfl⟩
theorem place_nil (k : KeyT) (w : World) : Calls Try.prog 14 #[.pointer none, .agg (kcs k).toArray] w fun e w' => e = .returned (.int .i64 (-1)) ∧ Below w.heap.size w w' := by
  have hbx := (Below.refl w.heap.size w).alloc (Nat.le_refl _) (.cells (kcs k).toArray 27)
  have HB := Lib.hid hbx
  clear hbx
  go_enter Try.func14, Try.ntmps14
  go_wp2_with fail
  (with_reducible refine (len_nil _).mono ?_)
  rintro e w2 ⟨rfl, rfl⟩
  go_wp2_with fail
  go_ret
  exact ⟨rfl, HB.out⟩
theorem place_zero (mb : Nat) (k : KeyT) (w : World) (h : w.cell? ⟨mb, 0, none⟩ = some (.int .i64 0)) : Calls Try.prog 14 #[.pointer (some ⟨mb, 0, none⟩), .agg (kcs k).toArray] w fun e w' => e = .returned (.int .i64 (-1)) ∧ Below w.heap.size w w' := by
  have hbx := (Below.refl w.heap.size w).alloc (Nat.le_refl _) (.cells (kcs k).toArray 27)
  have K := Lib.hid (len_any mb 0 #[] _ ((hbx.cell (p := ⟨mb, 0, none⟩) (World.block_lt_of_cell? w _ h)).trans h))
  have HB := Lib.hid hbx
  clear hbx h
  go_enter Try.func14, Try.ntmps14
  go_wp2_with fail
  (with_reducible refine K.out.mono ?_)
  rintro e w2 ⟨rfl, rfl⟩
  go_wp2_with fail
  go_ret
  exact ⟨rfl, HB.out⟩
set_option maxRecDepth 100000 in
set_option maxHeartbeats 2000000 in
theorem place_some (mb sb pm n G : Nat) (sd : List Nat) (al : List (KeyT × Nat)) (hG : sd.length = G) (hn0 : 0 < n) (hn : n ≤ 16384) (hG0 : 0 < G) (hG1 : G ≤ 16384) (hsd : ∀ d ∈ sd, d < 65536) (k : KeyT) (hk : k.Ok) (d : Nat) (hd : sd[HH 0 k % G]? = some d) (w : World) (h : PM w mb sb pm n sd al) (r : Int)
    (hc : (0 < d ∧ r = ((HH d k % n : Nat) : Int)) ∨ (d = 0 ∧ ∃ c b, (∀ W, Held W pm al → (Instr.lookup 54 (.map (some pm)) (.agg (kcs k).toArray) true).run Try.prog W = .ok (.tuple #[.int .i64 c, .bool b]) W) ∧ r = if b = true then c else -1)) :
    Calls Try.prog 14 #[.pointer (some ⟨mb, 0, none⟩), .agg (kcs k).toArray] w fun e w' => e = .returned (.int .i64 r) ∧ Below w.heap.size w w' := by
  have hbx := (Below.refl w.heap.size w).alloc (Nat.le_refl _) (.cells (kcs k).toArray 27)
  have hkb := Blk.new w 27 (kcs k).toArray
  have h1 := h.on hbx
  have hdl : d < 65536 := hsd d (List.mem_of_getElem? hd)
  obtain ⟨w1, hw1⟩ : ∃ w1, w.alloc (.cells (kcs k).toArray 27) = w1 := ⟨_, rfl⟩
  obtain ⟨kb, hkbe⟩ : ∃ kb, w.heap.size = kb := ⟨_, rfl⟩
  rw [hw1] at hbx hkb h1
  rw [hkbe] at hkb
  have hm0 := h1.mb.cell 0
  have hm1 := h1.mb.cell 1
  have hm2 := h1.mb.cell 2
  have hs := h1.sb.cell (HH 0 k % G)
  rw [List.getElem?_toArray, List.getElem?_map, hd] at hs
  have KL := Lib.hid (len_any mb n #[] w1 hm0)
  have HW1 := Lib.hid hw1
  have HKB := Lib.hid hkbe
  have hpG : HH 0 k % G < G := Nat.mod_lt _ hG0
  have K0 := fun dd os => Lib.hid (told_base (w := w1) (fun W _ => index_zero G hG0 (by omega) k hk W) dd os)
  have HKD := Lib.hid (show ∀ W, Calls Try.prog 28 #[.int .u64 d, .agg (kcs k).toArray, .int .i64 n] W fun e w' => e = .returned (.int .i64 ((HH d k % n : Nat))) ∧ Below W.heap.size W w' from fun W => index_any d n (by omega) hn0 (by omega) k hk W)
  have HKK := Lib.hid hkb
  have R1 := Lib.hid (range_base (w := w1) (b := kb) (off := 0) (cs := kcs k) fun W hW => range_of_blk (hkb.below hW hkb.lt))
  have HKS := Lib.hid (show (Try.prog.info? 27).map (·.size) = some (kcs k).length by rw [kcs_length hk]; exact key_size)
  obtain ⟨fs, hfs⟩ := key_desc
  have HF := Lib.hid hfs
  have HC := Lib.hid hc
  have HBX := Lib.hid hbx
  have HH1 := Lib.hid h1
  have d1 : ∀ q os, (grow (redrawn w1 q) os).cell? ⟨mb, 1, none⟩ = some (.slice (some ⟨sb, 0, none⟩) G G) := fun q os => cell_regrown (hG ▸ hm1) q os
  have ds : ∀ q os, (grow (redrawn w1 q) os).cell? ⟨sb, HH 0 k % G, none⟩ = some (.int .u16 (d : Nat)) := fun q os => cell_regrown hs q os
  clear hbx hkb h1 hw1 hkbe hs hfs hc hk h hm0 hm1 hm2 hd hsd hG
  generalize HH 0 k % G = p at *
  have hp1 : (0 : Int) ≤ (p : Int) := by omega
  have hp2 : (p : Int) < (G : Int) := by omega
  go_enter Try.func14, Try.ntmps14
  go_wp2_with fail
  rw [HW1.out, HKB.out]
  (with_reducible refine KL.out.mono ?_)
  rintro e w2 ⟨rfl, rfl⟩
  go_wp2_with fail
  refine wp_region_quiet_below (by kernel_rfl) (by kernel_rfl) ?_
  repeat (first
    | (go_big_quiet_want; refine quiet_load_mid 27 (.tmp 3) rfl kb 0 rfl (kcs k) (.struct fs) R1.out HF.out rfl HKS.out (by simp only [Act.put, List.setIfInBounds_toArray, List.set_cons_succ, List.set_cons_zero]; rfl) ?_; go_big_quiet_on)
    | go_big_quiet_step (first | (go_at_call 28; with_reducible exact (K0 _ _).out)))
  refine wpQuiet_nil ?_
  intro _ hw'
  obtain ⟨⟨dq, osq⟩, hw''⟩ := hw'
  subst hw''
  have hbq := below_regrown w1 dq osq
  clear d1 ds K0 R1
  generalize grow (redrawn w1 dq) osq = wq at *
  have h1q := HH1.out.on hbq
  have hkq := HKK.out.below hbq HKK.out.lt
  have hbw := HBX.out.trans (hbq.mono HBX.out.size)
  have R1 := Lib.hid (range_base (w := wq) (b := kb) (off := 0) (cs := kcs k) fun W hW => range_of_blk (hkq.below hW hkq.lt))
  have HBW := Lib.hid hbw
  have hm0 := h1q.mb.cell 0
  have hm2 := h1q.mb.cell 2
  have hd63 : (0 : Int) ≤ (d : Int) := by omega
  rcases HC.out with ⟨hd0, hr⟩ | ⟨hd0, c, b, hlk, hr⟩
  · have hdi : (0 : Int) < (d : Int) := by omega
    have KD := fun dd os => Lib.hid (told_base (w := wq) (fun W _ => HKD.out W) dd os)
    have D0 : ∀ q os, (grow (redrawn wq q) os).cell? ⟨mb, 0, none⟩ = some (.int .i64 n) := fun q os => cell_regrown hm0 q os
    have HR := Lib.hid hr
    clear hr h1q hkq hbw hm0 hm2 hbq KL
    go_wp2_with fail
    refine wp_region_quiet_below (by kernel_rfl) (by kernel_rfl) ?_
    repeat (first
      | (go_big_quiet_want; refine quiet_load_mid 27 (.tmp 3) rfl kb 0 rfl (kcs k) (.struct fs) R1.out HF.out rfl HKS.out (by simp only [Act.put, List.setIfInBounds_toArray, List.set_cons_succ, List.set_cons_zero]; rfl) ?_; go_big_quiet_on)
      | go_big_quiet_step (first | (go_at_call 28; with_reducible exact (KD _ _).out)))
    refine wpQuiet_nil ?_
    intro _ hw'
    obtain ⟨⟨dq2, osq2⟩, hw''⟩ := hw'
    subst hw''
    go_wp2_with fail
    go_ret
    exact ⟨pf_ret HR.out.symm, HBW.out.trans ((below_regrown wq dq2 osq2).mono HBW.out.size)⟩
  · subst hd0
    have D2 : ∀ q os, (grow (redrawn wq q) os).cell? ⟨mb, 2, none⟩ = some (.map (some pm)) := fun q os => cell_regrown hm2 q os
    have DL : ∀ q os, (Instr.lookup 54 (.map (some pm)) (.agg (kcs k).toArray) true).run Try.prog (grow (redrawn wq q) os) = .ok (.tuple #[.int .i64 c, .bool b]) (grow (redrawn wq q) os) := fun q os => hlk _ (h1q.on (below_regrown wq q os)).pm
    have HR := Lib.hid hr
    clear hr h1q hkq hbw hm0 hm2 hbq KL hlk
    cases b
    · go_wp2_with fail
      refine wp_region_quiet_below (by kernel_rfl) (by kernel_rfl) ?_
      repeat (first
        | (go_big_quiet_want; refine quiet_load_mid 27 (.tmp 3) rfl kb 0 rfl (kcs k) (.struct fs) R1.out HF.out rfl HKS.out (by simp only [Act.put, List.setIfInBounds_toArray, List.set_cons_succ, List.set_cons_zero]; rfl) ?_; go_big_quiet_on)
        | go_big_quiet_step (fail))
      refine wpQuiet_nil ?_
      intro _ hw'
      obtain ⟨⟨dq2, osq2⟩, hw''⟩ := hw'
      subst hw''
      go_wp2_with fail
      go_ret
      exact ⟨pf_ret (by rw [HR.out]; rfl), HBW.out.trans ((below_regrown wq dq2 osq2).mono HBW.out.size)⟩
    · go_wp2_with fail
      refine wp_region_quiet_below (by kernel_rfl) (by kernel_rfl) ?_
      repeat (first
        | (go_big_quiet_want; refine quiet_load_mid 27 (.tmp 3) rfl kb 0 rfl (kcs k) (.struct fs) R1.out HF.out rfl HKS.out (by simp only [Act.put, List.setIfInBounds_toArray, List.set_cons_succ, List.set_cons_zero]; rfl) ?_; go_big_quiet_on)
        | go_big_quiet_step (fail))
      refine wpQuiet_nil ?_
      intro _ hw'
      obtain ⟨⟨dq2, osq2⟩, hw''⟩ := hw'
      subst hw''
      go_wp2_with fail
      go_ret
      exact ⟨pf_ret (by rw [HR.out]; rfl), HBW.out.trans ((below_regrown wq dq2 osq2).mono HBW.out.size)⟩
end Go.Proofs.Ytacijjioaanlgaa
