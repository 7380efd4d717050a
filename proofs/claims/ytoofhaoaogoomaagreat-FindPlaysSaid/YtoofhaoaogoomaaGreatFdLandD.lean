/- The landed finder: New, All, Len, Shelf, Twins, Cost, Blur, Anew (written by gen/gen_fdlandd.py). No statement of the seat is proved here. -/
import Derived.Test.YtoofhaoaogoomaaGreatFdLandC
import Derived.Test.YtoofhaoaogoomaaGreatZLAF
namespace Go.Proofs.YtoofhaoaogoomaaGreat
open Go.RowKit
set_option linter.unusedVariables false
set_option linter.unusedSimpArgs false
set_option maxRecDepth 100000

/-- A new finder's parts in one world. -/
theorem fst_new {w w1 w2 w3 w4 : World} {sa sb sc : Addr} {Fa Fb Fc : Nat → Prop} {n p room d : Nat} (hr : room ≤ 4096) (ha : Rv w1 sa Fa ⟨n, p, fun _ => false⟩) (hFa : ∀ g, Fa g → w.heap.size ≤ g) (b1 : Below w.heap.size w w1)
    (hb : Cst w2 sb Fb ⟨room, []⟩) (hFb : ∀ g, Fb g → w1.heap.size ≤ g) (b2 : Below w1.heap.size w1 w2) (hc : Ist w3 sc Fc []) (hFc : ∀ g, Fc g → w2.heap.size ≤ g) (b3 : Below w2.heap.size w2 w3) (hd : w3.heap.size = d)
    (hw : w3.alloc (.cells #[.pointer (some sc), .pointer (some sa), .pointer (some sb), .int .i64 0, .int .i64 0] 79) = w4) : Fst w4 ⟨d, 0, none⟩ (fun g => g = d ∨ Fa g ∨ Fb g ∨ Fc g) (newF n p room) ∧ (∀ g, (g = d ∨ Fa g ∨ Fb g ∨ Fc g) → w.heap.size ≤ g) ∧ Below w.heap.size w w4 := by
  have b4 : Below w3.heap.size w3 w4 := hw ▸ (Below.refl _ _).alloc (Nat.le_refl _) _
  have kd : Blk w4 d 79 #[.pointer (some sc), .pointer (some sa), .pointer (some sb), .int .i64 0, .int .i64 0] := by rw [← hw, ← hd]; exact Blk.new w3 _ _
  have la := Rv.firm.lt ha
  have lb := Cst.firm.lt hb
  have lc := Ist.firm.lt hc
  have s1 := b1.size
  have s2 := b2.size
  have s3 := b3.size
  have b24 := b3.trans (b4.mono b3.size)
  have b14 := b2.trans (b24.mono b2.size)
  have hdl := kd.lt
  refine ⟨⟨d, sa, sb, sc, rfl, kd, ⟨Fa, Fb, Fc, ⟨fun g h1 h2 => ?_, fun g h1 h2 => ?_, fun g h1 h2 => ?_, fun h1 => ?_, fun h1 => ?_, fun h1 => ?_, .inl rfl, fun g hg => .inr (.inl hg), fun g hg => .inr (.inr (.inl hg)), fun g hg => .inr (.inr (.inr hg))⟩,
    Rv.firm.keep ha fun g hg => b14.block g (la g hg), Cst.firm.keep hb fun g hg => b24.block g (lb g hg), Ist.firm.keep hc fun g hg => b4.block g (lc g hg), fun g hg => ?_⟩, FS.Ok.new hr⟩, fun g hg => ?_, b1.trans (b14.mono b1.size)⟩
  · have := la g h1; have := hFb g h2; omega
  · have := la g h1; have := hFc g h2; omega
  · have := lb g h1; have := hFc g h2; omega
  · have := la d h1; omega
  · have := lb d h1; omega
  · have := lc d h1; omega
  · rcases hg with rfl | h | h | h
    · exact hdl
    · have := la g h; omega
    · have := lb g h; omega
    · have := lc g h; omega
  · rcases hg with rfl | h | h | h
    · omega
    · exact hFa g h
    · have := hFb g h; omega
    · have := hFc g h; omega
set_option maxHeartbeats 4000000 in
theorem lnew_any (n p room : Nat) (w : World) (hn : n ≤ 1048576) (hp : p ≤ 30) (hr : room ≤ 4096) :
    Calls Tryz.prog 5 #[.int .i64 n, .int .i64 p, .int .i64 room] w fun e w' => ∃ s F, e = .returned (.tuple #[.pointer (some s), .int .i64 0]) ∧ Fst w' s F (newF n p room) ∧ (∀ g, F g → w.heap.size ≤ g) ∧ Below w.heap.size w w' := by
  have KV := Lib.hid (rv_new n p hn hp w)
  have KC := Lib.hid (fun W => cachesOk.new room W hr)
  have KI := Lib.hid (fun W => indexesOk.new W)
  have HR := Lib.hid hr
  clear hn hp hr
  go_enter Tryz.func5, Tryz.ntmps5
  go_wp2_with fail
  refine KV.out.mono ?_
  rintro e w1 ⟨sa, Fa, rfl, a1, a2, a3⟩
  have H1 := Lib.hid (And.intro a1 (And.intro a2 a3))
  clear a1 a2 a3 KV
  go_wp2_with fail
  refine (KC.out w1).mono ?_
  rintro e w2 ⟨sb, Fb, rfl, a1, a2, a3⟩
  have H2 := Lib.hid (And.intro a1 (And.intro a2 a3))
  clear a1 a2 a3 KC
  go_wp2_with fail
  refine (KI.out w2).mono ?_
  rintro e w3 ⟨sc, Fc, rfl, a1, a2, a3⟩
  have H3 := Lib.hid (And.intro a1 (And.intro a2 a3))
  clear a1 a2 a3 KI
  obtain ⟨w4, hw4⟩ : ∃ w4, w3.alloc (.cells #[.pointer (some sc), .pointer (some sa), .pointer (some sb), .int .i64 0, .int .i64 0] 79) = w4 := ⟨_, rfl⟩
  obtain ⟨d, hd⟩ : ∃ d, w3.heap.size = d := ⟨_, rfl⟩
  have HW := Lib.hid (And.intro hw4 hd)
  have HX := Lib.hid (fst_new HR.out H1.out.1 H1.out.2.1 H1.out.2.2 H2.out.1 H2.out.2.1 H2.out.2.2 H3.out.1 H3.out.2.1 H3.out.2.2 hd hw4)
  clear hw4 hd
  go_wp2_with fail
  (try simp only [Exit.inBlock, Exit.then])
  rw [HW.out.1, HW.out.2]
  refine bodyPost_ret (results_tmp2 rfl _ _ _) rfl ?_
  exact ⟨⟨d, 0, none⟩, _, rfl, HX.out.1, HX.out.2.1, HX.out.2.2⟩
set_option maxHeartbeats 4000000 in
theorem lnew_no (n p room : Int) (w : World) (hn : In64 n) (hp : In64 p) (hr : In64 room) (h : ¬ ((0 ≤ n ∧ n ≤ 1048576) ∧ (0 ≤ p ∧ p ≤ 30) ∧ (0 ≤ room ∧ room ≤ 4096))) :
    Calls Tryz.prog 5 #[.int .i64 n, .int .i64 p, .int .i64 room] w fun e w' => e = .returned (.tuple #[.pointer none, .int .i64 1]) ∧ Below w.heap.size w w' := by
  by_cases hbad : n < 0 ∨ 1048576 < n ∨ p < 0 ∨ 30 < p
  · have KN := Lib.hid (new_bad n p hbad w)
    clear h hbad hn hp hr
    go_enter Tryz.func5, Tryz.ntmps5
    go_wp2_with (go_at_call 27; (with_reducible refine KN.out.mono ?_); rintro e w1 ⟨rfl, rfl⟩)
    (try simp only [Exit.inBlock, Exit.then])
    refine bodyPost_ret (results_tmp2 rfl _ _ _) rfl ?_
    exact ⟨rfl, Below.refl _ _⟩
  · obtain ⟨n, rfl⟩ : ∃ m : Nat, n = m := ⟨n.toNat, by omega⟩
    obtain ⟨p, rfl⟩ : ∃ m : Nat, p = m := ⟨p.toNat, by omega⟩
    have KV := Lib.hid (rv_new n p (by omega) (by omega) w)
    have KC := Lib.hid (fun W => cachesOk.newNo room W hr (by omega))
    clear h hbad hn hp hr
    go_enter Tryz.func5, Tryz.ntmps5
    go_wp2_with fail
    refine KV.out.mono ?_
    rintro e w1 ⟨sa, Fa, rfl, a1, a2, a3⟩
    have H1 := Lib.hid a3
    clear a1 a2 a3 KV
    go_wp2_with fail
    refine (KC.out w1).mono ?_
    rintro e w2 ⟨rfl, a3⟩
    have H2 := Lib.hid (H1.out.trans (a3.mono H1.out.size))
    clear a3 KC
    go_wp2_with fail
    (try simp only [Exit.inBlock, Exit.then])
    refine bodyPost_ret (results_tmp2 rfl _ _ _) rfl ?_
    exact ⟨rfl, H2.out⟩
section
variable {w0 w : World} {F0 : Nat → Prop} {d : Nat} {a b c : Addr} {f : FS}
set_option maxHeartbeats 4000000 in
theorem ltwins_lt (h : LfT w0 F0 d a b c w f) (hl : f.L.length ≤ 900) (D : List UInt8) (hD : D.length = 32) : Calls Tryz.prog 23 #[.pointer (some ⟨d, 0, none⟩), .agg (bv D).toArray] w fun e w' => ∃ A' c', e = .returned (.slice A' (twinsX f.L D).length c') ∧ RdK w' w'.heap.size A' (twinsX f.L D) ∧ (twinsX f.L D).length ≤ c' ∧ c' ≤ maxLen ∧ (∀ ad, A' = some ad → w.heap.size ≤ ad.block) ∧ Below w.heap.size w w' := by
  obtain ⟨X, hX⟩ : ∃ X, bv D = X := ⟨_, rfl⟩
  have hXl : X.length = 32 := by rw [← hX, bv_length]; exact hD
  obtain ⟨w1, hw1⟩ : ∃ w1, w.alloc (.cells X.toArray 26) = w1 := ⟨_, rfl⟩
  obtain ⟨kb, hkb⟩ : ∃ kb, w.heap.size = kb := ⟨_, rfl⟩
  have hb1 : Below w.heap.size w w1 := hw1 ▸ (Below.refl _ _).alloc (Nat.le_refl _) _
  have hk1 : Blk w1 kb 26 X.toArray := by rw [← hw1, ← hkb]; exact Blk.new w _ _
  have HXS := Lib.hid (show (Tryz.prog.info? 26).map (·.size) = some X.length from by rw [hXl]; exact sum_size)
  obtain ⟨an, ae, hsd⟩ := sum_desc
  have HF := Lib.hid hsd
  obtain ⟨na, hna⟩ : ∃ n, f.asked = n := ⟨_, rfl⟩
  obtain ⟨nl, hnl⟩ : ∃ n, f.loads = n := ⟨_, rfl⟩
  have hz := (h.on hb1).on (drew_below w1)
  have hbd := hz.blk
  rw [hna, hnl] at hbd
  have HS := Lib.hid (And.intro hbd (hk1.below (drew_below w1) hk1.lt))
  have HBZ := Lib.hid (hb1.trans ((drew_below w1).mono hb1.size))
  have KH := Lib.hid (lheld_lt hz)
  have KA := lt_xtwins hz (by omega) D hD
  rw [hX] at KA
  replace KA := Lib.hid KA
  have HW := Lib.hid (And.intro hw1 hkb)
  rw [hX]
  clear h hX hXl hw1 hkb hb1 hk1 hsd hna hnl hz hbd
  go_enter Tryz.func23, Tryz.ntmps23
  go_upto_region 3 with fail
  rw [HW.out.1, HW.out.2]
  refine wp_region_held_drew (S := fun W => Blk W d 79 #[.pointer (some c), .pointer (some a), .pointer (some b), .int .i64 (na : Nat), .int .i64 (nl : Nat)] ∧ Blk W kb 26 X.toArray) (by kernel_rfl) HS.out (fun hHeld => ?_)
  clear hHeld
  generalize w1.drew = wz at *
  refine wpAnyH_take (i := 0) (oi := _) (v := .pointer (some ⟨d, 0, none⟩)) rfl (by kernel_rfl) (by kernel_rfl) (by kernel_rfl) (fun _ _ _ h => h) (Or.inl ⟨by rfl, by intro w hSw; go_simp⟩) HS.out ?_
  simp only [List.getElem_toArray, List.getElem_cons_zero, List.getElem_cons_succ, Act.put, List.setIfInBounds_toArray, List.set_cons_zero, List.set_cons_succ]
  refine wpAnyH_take (i := 2) (oi := _) (v := .agg X.toArray) rfl (by kernel_rfl) (by kernel_rfl) (by kernel_rfl) (fun _ _ _ h => h) (yields_mid (by rfl) 26 (.tmp 3) rfl kb 0 rfl X (.array an ae) (fun W hW => range_of_blk hW.2) HF.out rfl HXS.out) HS.out ?_
  simp only [List.getElem_toArray, List.getElem_cons_zero, List.getElem_cons_succ, Act.put, List.setIfInBounds_toArray, List.set_cons_zero, List.set_cons_succ]
  refine wpAnyH_ready (rs := [1]) (by kernel_rfl) (by simp) ?_
  refine AllReadyH.cons rfl (fun K hK => ?_) AllReadyH.nil
  go_simp
  (with_reducible refine KH.out.mono ?_)
  rintro e wy ⟨rfl, hwy⟩
  obtain rfl : wz = wy := hwy.symm
  clear KH
  go_wp2_with fail
  refine hK.out _ _ HS.out (fun _ => ?_)
  clear hK K
  try simp only [List.getElem_toArray, List.getElem_cons_zero, List.getElem_cons_succ, Act.put, List.setIfInBounds_toArray, List.set_cons_zero, List.set_cons_succ]
  refine wpAnyH_ready (rs := [3]) (by kernel_rfl) (by simp) ?_
  refine AllReadyH.cons rfl (fun K hK => ?_) AllReadyH.nil
  go_simp
  (with_reducible refine KA.out.mono ?_)
  rintro e w2 ⟨A2, c2, rfl, q1, q2, q3, q4, q5⟩
  have hs2 := And.intro (HS.out.1.below q5 HS.out.1.lt) (HS.out.2.below q5 HS.out.2.lt)
  have HQ := Lib.hid (And.intro q1 (And.intro q2 (And.intro q3 (And.intro (show ∀ ad, A2 = some ad → w.heap.size ≤ ad.block from fun ad e => Nat.le_trans HBZ.out.size (q4 ad e)) (HBZ.out.trans (q5.mono HBZ.out.size))))))
  clear q1 q2 q3 q4 q5
  go_wp2_with fail
  refine hK.out _ _ hs2 (fun _ => ?_)
  clear hK K
  try simp only [List.getElem_toArray, List.getElem_cons_zero, List.getElem_cons_succ, Act.put, List.setIfInBounds_toArray, List.set_cons_zero, List.set_cons_succ]
  refine wpAnyH_take (i := 4) (oi := _) (v := .slice A2 (twinsX f.L D).length c2) rfl (by kernel_rfl) (by kernel_rfl) (by kernel_rfl) (fun _ _ _ h => h) (Or.inl ⟨by rfl, by intro w hSw; go_simp⟩) hs2 ?_
  simp only [List.getElem_toArray, List.getElem_cons_zero, List.getElem_cons_succ, Act.put, List.setIfInBounds_toArray, List.set_cons_zero, List.set_cons_succ]
  refine wpAnyH_done (by kernel_rfl) ?_ _
  go_wp2_with fail
  go_ret
  exact ⟨A2, c2, rfl, HQ.out⟩
end
set_option maxHeartbeats 4000000 in
theorem lcost_any (s : Addr) (F : Nat → Prop) (f : FS) (w : World) (h : Fst w s F f) : Calls Tryz.prog 18 #[.pointer (some s)] w fun e w' => e = .returned (.tuple #[.int .i64 (f.asked : Nat), .int .i64 (f.loads : Nat)]) ∧ Below w.heap.size w w' := by
  obtain ⟨d, a, b, c, rfl, hR, hok⟩ := LfT.start h
  obtain ⟨na, hna⟩ : ∃ n, f.asked = n := ⟨_, rfl⟩
  obtain ⟨nl, hnl⟩ : ∃ n, f.loads = n := ⟨_, rfl⟩
  have hbd := (hR.on (drew_below w)).blk
  rw [hna, hnl] at hbd ⊢
  have HS := Lib.hid hbd
  clear h hR hok hna hnl hbd
  go_enter Tryz.func18, Tryz.ntmps18
  go_upto_region 3 with fail
  refine wp_region_held_drew (S := fun W => Blk W d 79 #[.pointer (some c), .pointer (some a), .pointer (some b), .int .i64 (na : Nat), .int .i64 (nl : Nat)]) (by kernel_rfl) HS.out (fun hHeld => ?_)
  clear hHeld
  refine wpAnyH_take (i := 0) (oi := _) (v := .pointer (some ⟨d, 0, none⟩)) rfl (by kernel_rfl) (by kernel_rfl) (by kernel_rfl) (fun _ _ _ h => h) (Or.inl ⟨by rfl, by intro w hSw; go_simp⟩) HS.out ?_
  simp only [List.getElem_toArray, List.getElem_cons_zero, List.getElem_cons_succ, Act.put, List.setIfInBounds_toArray, List.set_cons_zero, List.set_cons_succ]
  refine wpAnyH_take (i := 1) (oi := _) (v := .pointer (some ⟨d, 0, none⟩)) rfl (by kernel_rfl) (by kernel_rfl) (by kernel_rfl) (fun _ _ _ h => h) (Or.inl ⟨by rfl, by intro w hSw; go_simp⟩) HS.out ?_
  simp only [List.getElem_toArray, List.getElem_cons_zero, List.getElem_cons_succ, Act.put, List.setIfInBounds_toArray, List.set_cons_zero, List.set_cons_succ]
  refine wpAnyH_take (i := 2) (oi := _) (v := .pointer (some ⟨d, 3, none⟩)) rfl (by kernel_rfl) (by kernel_rfl) (by kernel_rfl) (fun _ _ _ h => h) (Or.inl ⟨by rfl, by intro w hSw; go_simp⟩) HS.out ?_
  simp only [List.getElem_toArray, List.getElem_cons_zero, List.getElem_cons_succ, Act.put, List.setIfInBounds_toArray, List.set_cons_zero, List.set_cons_succ]
  refine wpAnyH_take (i := 3) (oi := _) (v := .int .i64 (na : Nat)) rfl (by kernel_rfl) (by kernel_rfl) (by kernel_rfl) (fun _ _ _ h => h) (Or.inl ⟨by rfl, by intro w hSw; have hcc : w.cell? ⟨d, 3, none⟩ = some (.int .i64 (na : Nat)) := (hSw).cell 3; go_simp⟩) HS.out ?_
  simp only [List.getElem_toArray, List.getElem_cons_zero, List.getElem_cons_succ, Act.put, List.setIfInBounds_toArray, List.set_cons_zero, List.set_cons_succ]
  refine wpAnyH_take (i := 4) (oi := _) (v := .pointer (some ⟨d, 0, none⟩)) rfl (by kernel_rfl) (by kernel_rfl) (by kernel_rfl) (fun _ _ _ h => h) (Or.inl ⟨by rfl, by intro w hSw; go_simp⟩) HS.out ?_
  simp only [List.getElem_toArray, List.getElem_cons_zero, List.getElem_cons_succ, Act.put, List.setIfInBounds_toArray, List.set_cons_zero, List.set_cons_succ]
  refine wpAnyH_take (i := 5) (oi := _) (v := .pointer (some ⟨d, 0, none⟩)) rfl (by kernel_rfl) (by kernel_rfl) (by kernel_rfl) (fun _ _ _ h => h) (Or.inl ⟨by rfl, by intro w hSw; go_simp⟩) HS.out ?_
  simp only [List.getElem_toArray, List.getElem_cons_zero, List.getElem_cons_succ, Act.put, List.setIfInBounds_toArray, List.set_cons_zero, List.set_cons_succ]
  refine wpAnyH_take (i := 6) (oi := _) (v := .pointer (some ⟨d, 4, none⟩)) rfl (by kernel_rfl) (by kernel_rfl) (by kernel_rfl) (fun _ _ _ h => h) (Or.inl ⟨by rfl, by intro w hSw; go_simp⟩) HS.out ?_
  simp only [List.getElem_toArray, List.getElem_cons_zero, List.getElem_cons_succ, Act.put, List.setIfInBounds_toArray, List.set_cons_zero, List.set_cons_succ]
  refine wpAnyH_take (i := 7) (oi := _) (v := .int .i64 (nl : Nat)) rfl (by kernel_rfl) (by kernel_rfl) (by kernel_rfl) (fun _ _ _ h => h) (Or.inl ⟨by rfl, by intro w hSw; have hcc : w.cell? ⟨d, 4, none⟩ = some (.int .i64 (nl : Nat)) := (hSw).cell 4; go_simp⟩) HS.out ?_
  simp only [List.getElem_toArray, List.getElem_cons_zero, List.getElem_cons_succ, Act.put, List.setIfInBounds_toArray, List.set_cons_zero, List.set_cons_succ]
  refine wpAnyH_take (i := 8) (oi := _) (v := .int .i64 (na : Nat)) rfl (by kernel_rfl) (by kernel_rfl) (by kernel_rfl) (fun _ _ _ h => h) (Or.inl ⟨by rfl, by intro w hSw; go_simp⟩) HS.out ?_
  simp only [List.getElem_toArray, List.getElem_cons_zero, List.getElem_cons_succ, Act.put, List.setIfInBounds_toArray, List.set_cons_zero, List.set_cons_succ]
  refine wpAnyH_take (i := 9) (oi := _) (v := .int .i64 (nl : Nat)) rfl (by kernel_rfl) (by kernel_rfl) (by kernel_rfl) (fun _ _ _ h => h) (Or.inl ⟨by rfl, by intro w hSw; go_simp⟩) HS.out ?_
  simp only [List.getElem_toArray, List.getElem_cons_zero, List.getElem_cons_succ, Act.put, List.setIfInBounds_toArray, List.set_cons_zero, List.set_cons_succ]
  refine wpAnyH_done (by kernel_rfl) ?_ _
  go_wp2_with fail
  (try simp only [Exit.inBlock, Exit.then])
  refine bodyPost_ret (results_tmp2 rfl _ _ _) rfl ?_
  exact ⟨rfl, drew_below w⟩
set_option maxHeartbeats 4000000 in
theorem lblur_any (s : Addr) (F : Nat → Prop) (f : FS) (A : Option Addr) (l : List UInt8) (n cp : Nat) (w : World) (h : Fst w s F f) (hl : l.length = n) (hc : n ≤ cp) (hm : cp ≤ maxLen) (hr : Rd w w.heap.size A l) (hF : ∀ ad, A = some ad → 0 < n → ¬ F ad.block) :
    Calls Tryz.prog 16 #[.pointer (some s), .slice A n cp] w fun e w' => e = .returned (.tuple #[]) ∧ Turned Fst w s F w' (blurF f l) := by
  obtain ⟨d, a, b, c, rfl, hR, hok⟩ := LfT.start h
  have dc : w.cell? ⟨d, 1, none⟩ = some (.pointer (some a)) := hR.blk.cell 1
  have KB := Lib.hid (lt_bor hR A l n cp hl (by unfold maxLen at hm; omega) hr fun ad e h0 => ⟨by
    obtain ⟨g, off, e2, hg, _⟩ := hr (by rw [hl]; exact h0)
    rw [e] at e2
    injection e2 with e2
    rw [e2]
    exact hg, hF ad e h0⟩)
  have HOK := Lib.hid (hok.blur l)
  clear h hR hok hr hF
  go_enter Tryz.func16, Tryz.ntmps16
  go_wp2_with fail
  refine KB.out.mono ?_
  rintro e w1 ⟨⟨y, rfl⟩, h1⟩
  have H1 := Lib.hid h1
  clear h1 KB
  go_wp2_with fail
  (try simp only [Exit.inBlock, Exit.then])
  refine bodyPost_end (results_none rfl _ _ _) rfl ?_
  exact ⟨rfl, H1.out.fin HOK.out⟩
theorem allS_stepL {n p : Nat} {L : List RowT} {S : Nat → Bool} {j : Nat} (hj : j < L.length) : allS n p (L.take (j + 1)) S = putL (allS n p (L.take j) S) (spotsK n p L[j].1) := by
  unfold allS
  rw [List.take_succ_eq_append_getElem hj, List.foldl_append]
  rfl
set_option maxHeartbeats 8000000 in
theorem lanew_any (s : Addr) (F : Nat → Prop) (f : FS) (w : World) (h : Fst w s F f) (hl : f.L.length ≤ 900) :
    Calls Tryz.prog 14 #[.pointer (some s)] w fun e w' => e = .returned (.tuple #[]) ∧ Turned Fst w s F w' (anewF f) := by
  obtain ⟨d, a, b, c, rfl, hR, hok⟩ := LfT.start h
  obtain ⟨n, hn⟩ : ∃ n, f.L.length = n := ⟨_, rfl⟩
  obtain ⟨na, hna⟩ : ∃ n, f.asked = n := ⟨_, rfl⟩
  obtain ⟨nl, hnl⟩ : ∃ n, f.loads = n := ⟨_, rfl⟩
  have dc : w.cell? ⟨d, 1, none⟩ = some (.pointer (some a)) := hR.blk.cell 1
  have KC := Lib.hid (lt_bclear hR)
  have HOK := Lib.hid (show (anewF f).Ok from hok.anew)
  have HN := Lib.hid (And.intro hn (And.intro hna (And.intro hnl hl)))
  obtain ⟨fr, hfr⟩ := row_desc
  obtain ⟨fk, hfk⟩ := key_desc
  have HF := Lib.hid (And.intro hfr hfk)
  obtain ⟨iz, hiz, hzz, _⟩ := zero_parts info_rowz
  have HZ := Lib.hid (And.intro hiz hzz)
  clear h hR hok hn hna hnl hl hfr hfk hiz hzz
  go_enter Tryz.func14, Tryz.ntmps14
  go_wp2_with fail
  refine KC.out.mono ?_
  rintro e w1 ⟨⟨y1, rfl⟩, h1⟩
  obtain ⟨G, hGl, hGd, again, back⟩ := h1.again
  have KA := lall_lt h1 (by rw [HN.out.1]; have := HN.out.2.2.2; rw [HN.out.1] at this; exact this)
  simp only [HN.out.1] at KA
  replace KA := Lib.hid KA
  have HAG := Lib.hid (And.intro again (And.intro back (And.intro hGl hGd)))
  clear h1 again back hGl hGd KC dc
  go_wp2_with fail
  refine KA.out.mono ?_
  rintro e w2 ⟨A2, c2, rfl, q1, q2, q3, q4, q5⟩
  have H2 := Lib.hid (HAG.out.1 w2 q5)
  have HB2 := Lib.hid q5
  have HRW := Lib.hid (show ∀ W, Only G w2 W → RdRw W w2.heap.size A2 f.L from fun W hW => rdrw_onlyC hW q1 fun ad e _ hg => by have := q4 ad e; have := HAG.out.2.2.1 _ hg; omega)
  clear q1 q3 q4 q5 KA
  have hn9 : n ≤ 900 := by rw [← HN.out.1]; exact HN.out.2.2.2
  go_wp2_with fail
  go_loopw [14] (fun iv wr => ∃ j : Nat, j ≤ n ∧ iv = .int .i64 j ∧ Hid (LfT w2 G d a b c wr ⟨f.n, f.p, allS f.n f.p (f.L.take j) fun _ => false, f.C, f.L, f.asked, f.loads⟩)) (fun iv _ => n - (intOf iv).toNat)
  case atStart => exact ⟨0, Nat.zero_le _, rfl, Lib.hid H2.out⟩
  case round =>
    clear H2
    obtain ⟨j, hj, rfl, hst⟩ := hrel
    by_cases hlt : j < n
    · have hjl : j < f.L.length := by rw [HN.out.1]; exact hlt
      obtain ⟨g, off, rfl, hg, hra, hko⟩ := (HRW.out wr hst.out.tri.only).at_ hjl
      obtain ⟨x, hx⟩ : ∃ x, f.L[j] = x := ⟨_, rfl⟩
      rw [hx] at hra hko
      obtain ⟨Z, hZ⟩ : ∃ Z, rcs x = Z := ⟨_, rfl⟩
      have hZl : Z.length = 35 := by rw [← hZ]; exact rcs_length hko
      rw [hZ] at hra
      obtain ⟨Y, hY⟩ : ∃ Y, kcs x.1 = Y := ⟨_, rfl⟩
      obtain ⟨w8, hw8⟩ : ∃ w8, wr.alloc (.cells Z.toArray 42) = w8 := ⟨_, rfl⟩
      obtain ⟨ab, hab⟩ : ∃ ab, wr.heap.size = ab := ⟨_, rfl⟩
      have hb8 : Below wr.heap.size wr w8 := hw8 ▸ (Below.refl _ _).alloc (Nat.le_refl _) _
      have hk8 : Blk w8 ab 42 Z.toArray := by rw [← hab, ← hw8]; exact Blk.new wr _ _
      have hz8 := drew_below w8
      have hbz := hb8.trans (hz8.mono hb8.size)
      obtain ⟨G2, hG2l, hG2d, again2, back2⟩ := hst.out.again
      have h8 := again2 _ hbz
      have hbd := h8.blk
      simp only [HN.out.2.1, HN.out.2.2.1] at hbd
      have HS := Lib.hid (show Blk w8.drew d 79 #[.pointer (some c), .pointer (some a), .pointer (some b), .int .i64 (na : Nat), .int .i64 (nl : Nat)] ∧ Blk w8.drew ab 42 Z.toArray from ⟨hbd, hk8.below hz8 hk8.lt⟩)
      have KB := lt_badd h8 x.1 hko.key
      rw [hY] at KB
      replace KB := Lib.hid KB
      have HBK := Lib.hid (And.intro (back2 _ hbz) (show ¬ G2 ab from fun h => by have := hG2l _ h; omega))
      have HRA := Lib.hid hra
      have HKS := Lib.hid (show (Tryz.prog.info? 42).map (·.size) = some Z.length from by rw [hZl]; exact row_size)
      have HKS2 := Lib.hid (show (Tryz.prog.info? 42).map (·.size) = some Z.toArray.size from by rw [List.size_toArray, hZl]; exact row_size)
      have HOLD := Lib.hid (show rz.size = Z.toArray.size from rz_size.trans (by rw [List.size_toArray, hZl]))
      have HNB := Lib.hid (Blk.new wr 42 rz)
      have HONE := Lib.hid (show Z.toArray.all (·.oneCell') = true from by rw [← hZ]; exact rcs_one)
      have HYS := Lib.hid (show (Tryz.prog.info? 29).map (·.size) = some Y.length from by rw [← hY, kcs_length hko.key]; exact key_size)
      have HRK := Lib.hid (show ∀ W, Blk W ab 42 Z.toArray → W.rangeAt ab 0 Y from fun W hW => by
        have h0 := range_of_blk hW
        rw [← hZ] at h0
        exact hY ▸ range_key h0)
      have HST := Lib.hid (show allS f.n f.p (f.L.take (j + 1)) (fun _ => false) = putL (allS f.n f.p (f.L.take j) fun _ => false) (spotsK f.n f.p x.1) from by rw [← hx]; exact allS_stepL hjl)
      have HW8 := Lib.hid (And.intro hw8 hab)
      have hi1 : (0 : Int) ≤ (j : Int) := by omega
      have hi2 : (j : Int) < (n : Int) := by omega
      clear hst hra hko hx hZ hZl hY hw8 hab hb8 hk8 hz8 hbz hG2l hG2d again2 back2 h8 hbd hg hjl
      go_upto_region 5 with (first
        | (refine wpList_load_mid rfl 42 (.tmp 16) rfl g (off + j * 35) rfl Z (.struct fr) HRA.out HF.out.1 rfl HKS.out ?_)
        | (refine wpList_alloc_z rfl 42 rfl iz _ HZ.out.1 HZ.out.2 ?_)
        | (refine wpList_store_row rfl 42 (.tmp 3) (.tmp 17) rfl wr.heap.size Z.toArray rfl rfl 42 rz HNB.out HKS2.out HOLD.out HONE.out ?_; rw [setRow_alloc, HW8.out.1, HW8.out.2]))
      refine wp_region_held_drew (S := fun W => Blk W d 79 #[.pointer (some c), .pointer (some a), .pointer (some b), .int .i64 (na : Nat), .int .i64 (nl : Nat)] ∧ Blk W ab 42 Z.toArray) (by kernel_rfl) HS.out (fun hHeld => ?_)
      clear hHeld
      generalize w8.drew = wz at *
      refine wpAnyH_take (i := 0) (oi := _) (v := .pointer (some ⟨d, 0, none⟩)) rfl (by kernel_rfl) (by kernel_rfl) (by kernel_rfl) (fun _ _ _ h => h) (Or.inl ⟨by rfl, by intro w hSw; go_simp⟩) HS.out ?_
      simp only [List.getElem_toArray, List.getElem_cons_zero, List.getElem_cons_succ, Act.put, List.setIfInBounds_toArray, List.set_cons_zero, List.set_cons_succ]
      refine wpAnyH_take (i := 1) (oi := _) (v := .pointer (some ⟨d, 0, none⟩)) rfl (by kernel_rfl) (by kernel_rfl) (by kernel_rfl) (fun _ _ _ h => h) (Or.inl ⟨by rfl, by intro w hSw; go_simp⟩) HS.out ?_
      simp only [List.getElem_toArray, List.getElem_cons_zero, List.getElem_cons_succ, Act.put, List.setIfInBounds_toArray, List.set_cons_zero, List.set_cons_succ]
      refine wpAnyH_take (i := 2) (oi := _) (v := .pointer (some ⟨d, 1, none⟩)) rfl (by kernel_rfl) (by kernel_rfl) (by kernel_rfl) (fun _ _ _ h => h) (Or.inl ⟨by rfl, by intro w hSw; go_simp⟩) HS.out ?_
      simp only [List.getElem_toArray, List.getElem_cons_zero, List.getElem_cons_succ, Act.put, List.setIfInBounds_toArray, List.set_cons_zero, List.set_cons_succ]
      refine wpAnyH_take (i := 3) (oi := _) (v := .pointer (some a)) rfl (by kernel_rfl) (by kernel_rfl) (by kernel_rfl) (fun _ _ _ h => h) (Or.inl ⟨by rfl, by intro w hSw; have hcc : w.cell? ⟨d, 1, none⟩ = some (.pointer (some a)) := (hSw.1).cell 1; go_simp⟩) HS.out ?_
      simp only [List.getElem_toArray, List.getElem_cons_zero, List.getElem_cons_succ, Act.put, List.setIfInBounds_toArray, List.set_cons_zero, List.set_cons_succ]
      refine wpAnyH_take (i := 4) (oi := _) (v := .pointer (some ⟨ab, 0, none⟩)) rfl (by kernel_rfl) (by kernel_rfl) (by kernel_rfl) (fun _ _ _ h => h) (Or.inl ⟨by rfl, by intro w hSw; go_simp⟩) HS.out ?_
      simp only [List.getElem_toArray, List.getElem_cons_zero, List.getElem_cons_succ, Act.put, List.setIfInBounds_toArray, List.set_cons_zero, List.set_cons_succ]
      refine wpAnyH_take (i := 5) (oi := _) (v := .agg Y.toArray) rfl (by kernel_rfl) (by kernel_rfl) (by kernel_rfl) (fun _ _ _ h => h) (yields_mid (by rfl) 29 (.tmp 22) rfl ab 0 rfl Y (.struct fk) (fun W hW => HRK.out W hW.2) HF.out.2 rfl HYS.out) HS.out ?_
      simp only [List.getElem_toArray, List.getElem_cons_zero, List.getElem_cons_succ, Act.put, List.setIfInBounds_toArray, List.set_cons_zero, List.set_cons_succ]
      refine wpAnyH_ready (rs := [6]) (by kernel_rfl) (by simp) ?_
      refine AllReadyH.cons rfl (fun K hK => ?_) AllReadyH.nil
      go_simp
      (with_reducible refine KB.out.mono ?_)
      rintro e w9 ⟨⟨yy, rfl⟩, h9⟩
      have hs9 : Blk w9 d 79 #[.pointer (some c), .pointer (some a), .pointer (some b), .int .i64 (na : Nat), .int .i64 (nl : Nat)] ∧ Blk w9 ab 42 Z.toArray := ⟨by have := h9.blk; simp only [HN.out.2.1, HN.out.2.2.1] at this; exact this, h9.old HS.out.2 HBK.out.2⟩
      have H9 := Lib.hid (HBK.out.1 _ _ h9)
      clear h9
      go_wp2_with fail
      refine hK.out _ _ hs9 (fun _ => ?_)
      clear hK K
      try simp only [List.getElem_toArray, List.getElem_cons_zero, List.getElem_cons_succ, Act.put, List.setIfInBounds_toArray, List.set_cons_zero, List.set_cons_succ]
      refine wpAnyH_done (by kernel_rfl) ?_ _
      clear hs9 KB HS
      go_wp2_with fail
      go_roundw
      case rel => exact ⟨j + 1, by omega, by go_num, Lib.hid (by rw [HST.out]; exact H9.out)⟩
      case measure => simp [intOf]; omega
    · obtain rfl : j = n := by omega
      have HSTT := hst
      clear hst
      go_wp2_with fail
      (try simp only [Exit.inBlock, Exit.then])
      refine bodyPost_end (results_none rfl _ _ _) rfl ?_
      have h9 := HSTT.out
      rw [List.take_of_length_le (by rw [HN.out.1]; exact Nat.le_refl _)] at h9
      exact ⟨rfl, (HAG.out.2.1 w2 HB2.out _ _ h9).fin (f' := anewF f) HOK.out⟩
end Go.Proofs.YtoofhaoaogoomaaGreat
