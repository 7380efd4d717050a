/- The reference's finder (cellarageref15): forget, Put, Drop (written by gen/gen_fdref.py). No statement of the seat is proved here. -/
import Derived.Test.YtoofhaoaogoomaaGreatZLAO
import Derived.Test.YtoofhaoaogoomaaGreatIxRefG
import Derived.Test.YtoofhaoaogoomaaGreatZLAI
import Derived.Deep.RegionHeld
namespace Go.Proofs.YtoofhaoaogoomaaGreat
open Go.RowKit
set_option linter.unusedVariables false
set_option linter.unusedSimpArgs false
set_option maxRecDepth 100000

theorem rx_get {w : World} {s : Addr} {F : Nat → Prop} {L : List RowT} (h : Rx w s F L) (hl : L.length ≤ 9000) (k : KeyT) (hk : k.Ok) :
    Calls Tryz.prog 47 #[.pointer (some s), .agg (kcs k).toArray] w fun e w' => e = .returned (.tuple #[pv (getX L k), .bool (hasX L k)]) ∧ Below w.heap.size w w' := by
  obtain ⟨d, A, c, rfl, hR, _⟩ := h
  exact rget_any w d A c L hR (by omega) k hk
/-- The three and the finder's block. -/
structure RfT (w0 : World) (F0 : Nat → Prop) (d : Nat) (a b c : Addr) (w : World) (f : FS) : Prop where
  tri : TriT Rb Rc Rx w0 F0 d w a b c ⟨f.n, f.p, f.S⟩ f.C f.L
  blk : Blk w d 56 #[.pointer (some a), .pointer (some b), .pointer (some c), .int .i64 (f.asked : Nat), .int .i64 (f.loads : Nat)]
section
variable {w0 w w' : World} {F0 : Nat → Prop} {d : Nat} {a b c : Addr} {f : FS}
theorem RfT.on (h : RfT w0 F0 d a b c w f) (hb : Below w.heap.size w w') : RfT w0 F0 d a b c w' f :=
  ⟨(h.tri.on Rb.firm Rc.firm Rx.firm hb).1, h.blk.below hb h.blk.lt⟩
/-- Anew from here: blocks that are made meanwhile lie outside. -/
theorem RfT.again (h : RfT w0 F0 d a b c w f) : ∃ F, (∀ g, F g → g < w.heap.size) ∧ F d ∧ (∀ W, Below w.heap.size w W → RfT W F d a b c W f) ∧ ∀ W, Below w.heap.size w W → ∀ w' f', RfT W F d a b c w' f' → RfT w0 F0 d a b c w' f' := by
  obtain ⟨F, h1, h2, h3⟩ := h.tri
  refine ⟨F, h1.lt, h1.own, fun W hb => ⟨TriT.start (Tri.keep Rb.firm Rc.firm Rx.firm h1 (fun g hg _ => hb.block g (h1.lt g hg)) hb.size), h.blk.below hb h.blk.lt⟩, fun W hb w' f' h' => ⟨?_, h'.blk⟩⟩
  obtain ⟨F', t1, t2, t3⟩ := h'.tri
  exact ⟨F', t1, fun g hg => (t2 g hg).elim (fun h => h2 g h) fun h => .inr (Nat.le_trans h3.size (Nat.le_trans hb.size h)), (h3.trans (Only.of_below (F := F) hb) h2).trans t3 h2⟩
theorem RfT.start {F : Nat → Prop} {s : Addr} (h : Rfd w s F f) : ∃ d a b c, s = ⟨d, 0, none⟩ ∧ RfT w F d a b c w f := by
  obtain ⟨d, a, b, c, hs, hb, ht⟩ := h
  exact ⟨d, a, b, c, hs, TriT.start ht, hb⟩
theorem RfT.fin {f' : FS} (h : RfT w0 F0 d a b c w' f') : Turned Rfd w0 ⟨d, 0, none⟩ F0 w' f' := by
  obtain ⟨F, h1, h2, h3⟩ := h.tri
  exact ⟨F, ⟨d, a, b, c, rfl, h.blk, h1⟩, h2, h3⟩
theorem RfT.same {f' : FS} (ht : TriT Rb Rc Rx w0 F0 d w' a b c ⟨f'.n, f'.p, f'.S⟩ f'.C f'.L) (h : RfT w0 F0 d a b c w f) (hd : w'.heap[d]? = w.heap[d]?) (h1 : f'.asked = f.asked) (h2 : f'.loads = f.loads) : RfT w0 F0 d a b c w' f' :=
  ⟨ht, by rw [h1, h2]; exact h.blk.same hd⟩
/-- A box that stood at the base stays. -/
theorem RfT.old {g : Nat} {t : TypeId} {cs : Array Value} (h : RfT w0 F0 d a b c w f) (hg : Blk w0 g t cs) (hF : ¬ F0 g) : Blk w g t cs := hg.same (h.tri.only.block g hg.lt hF)
theorem rt_xput (h : RfT w0 F0 d a b c w f) (hl : f.L.length ≤ 9000) (k : KeyT) (hk : k.Ok) (q : Int × Int) (hq : PlOk q) :
    Calls Tryz.prog 36 #[.pointer (some c), .agg (kcs k).toArray, pv q] w fun e w' => e = .returned (.bool (hasX f.L k)) ∧ RfT w0 F0 d a b c w' ⟨f.n, f.p, f.S, f.C, putX f.L k q, f.asked, f.loads⟩ :=
  (h.tri.call3 Rb.firm Rc.firm Rx.firm fun F hF _ => rput_any c F f.L k q w hF hl hk hq).mono fun e w' ⟨he, ht, hd⟩ => ⟨he, RfT.same ht h hd rfl rfl⟩
theorem rt_xdrop (h : RfT w0 F0 d a b c w f) (hl : f.L.length ≤ 9000) (k : KeyT) (hk : k.Ok) :
    Calls Tryz.prog 40 #[.pointer (some c), .agg (kcs k).toArray] w fun e w' => e = .returned (.bool (hasX f.L k)) ∧ RfT w0 F0 d a b c w' ⟨f.n, f.p, f.S, f.C, dropX f.L k, f.asked, f.loads⟩ :=
  (h.tri.call3 Rb.firm Rc.firm Rx.firm fun F hF _ => rdrop_any c F f.L k w hF hl hk).mono fun e w' ⟨he, ht, hd⟩ => ⟨he, RfT.same ht h hd rfl rfl⟩
theorem rt_cdrop (h : RfT w0 F0 d a b c w f) (hok : f.C.Ok) (sh : Int) :
    Calls Tryz.prog 38 #[.pointer (some b), .int .i64 sh] w fun e w' => e = .returned (.bool (hasC f.C sh)) ∧ RfT w0 F0 d a b c w' ⟨f.n, f.p, f.S, dropC f.C sh, f.L, f.asked, f.loads⟩ :=
  (h.tri.call2 Rb.firm Rc.firm Rx.firm fun F hF _ => rcdrop_any b F f.C sh w hF hok).mono fun e w' ⟨he, ht, hd⟩ => ⟨he, RfT.same ht h hd rfl rfl⟩
theorem rt_badd (h : RfT w0 F0 d a b c w f) (k : KeyT) (hk : k.Ok) :
    Calls Tryz.prog 37 #[.pointer (some a), .agg (kcs k).toArray] w fun e w' => (∃ y, e = .returned y) ∧ RfT w0 F0 d a b c w' ⟨f.n, f.p, putL f.S (spotsK f.n f.p k), f.C, f.L, f.asked, f.loads⟩ :=
  (h.tri.call1 Rb.firm Rc.firm Rx.firm fun F hF _ => rb_add hF k hk).mono fun e w' ⟨he, ht, hd⟩ => ⟨he, RfT.same ht h hd rfl rfl⟩
theorem rt_xget (h : RfT w0 F0 d a b c w f) (hl : f.L.length ≤ 9000) (k : KeyT) (hk : k.Ok) :
    Calls Tryz.prog 47 #[.pointer (some c), .agg (kcs k).toArray] w fun e w' => e = .returned (.tuple #[pv (getX f.L k), .bool (hasX f.L k)]) ∧ Below w.heap.size w w' := by
  obtain ⟨F, hF⟩ := h.tri.get3
  exact rx_get hF hl k hk
end
set_option maxHeartbeats 8000000 in
theorem rforget_any {w0 w : World} {F0 : Nat → Prop} {d : Nat} {a b c : Addr} {f : FS} (h : RfT w0 F0 d a b c w f) (hok : f.C.Ok) (hl : f.L.length ≤ 9000) (k : KeyT) (hk : k.Ok) :
    Calls Tryz.prog 35 #[.pointer (some ⟨d, 0, none⟩), .agg (kcs k).toArray] w fun e w' => e = .returned (.tuple #[]) ∧ RfT w0 F0 d a b c w' ⟨f.n, f.p, f.S, forgetF f.L f.C k, f.L, f.asked, f.loads⟩ := by
  obtain ⟨X, hX⟩ : ∃ X, kcs k = X := ⟨_, rfl⟩
  have hXl : X.length = 33 := by rw [← hX]; exact kcs_length hk
  obtain ⟨w1, hw1⟩ : ∃ w1, w.alloc (.cells X.toArray 29) = w1 := ⟨_, rfl⟩
  obtain ⟨kb, hkb⟩ : ∃ kb, w.heap.size = kb := ⟨_, rfl⟩
  have hb1 : Below w.heap.size w w1 := hw1 ▸ (Below.refl _ _).alloc (Nat.le_refl _) _
  have hk1 : Blk w1 kb 29 X.toArray := by rw [← hw1, ← hkb]; exact Blk.new w _ _
  obtain ⟨F, hFl, hFd, again, back⟩ := h.again
  have HXS := Lib.hid (show (Tryz.prog.info? 29).map (·.size) = some X.length from by rw [hXl]; exact key_size)
  obtain ⟨fk, hfk⟩ := key_desc
  obtain ⟨fp, hfp⟩ := place_desc
  have HF := Lib.hid (And.intro hfk hfp)
  have HW := Lib.hid (And.intro hw1 hkb)
  obtain ⟨⟨p1, p2⟩, hp⟩ : ∃ p, getX f.L k = p := ⟨_, rfl⟩
  obtain ⟨r, hr⟩ : ∃ r, hasX f.L k = r := ⟨_, rfl⟩
  obtain ⟨na, hna⟩ : ∃ n, f.asked = n := ⟨_, rfl⟩
  obtain ⟨nl, hnl⟩ : ∃ n, f.loads = n := ⟨_, rfl⟩
  have hbz : Below w.heap.size w w1.drew := hb1.trans ((drew_below w1).mono hb1.size)
  have hz := again _ hbz
  have hkd : Blk w1.drew kb 29 X.toArray := hk1.below (drew_below w1) hk1.lt
  have hbd := hz.blk
  rw [hna, hnl] at hbd
  have KG := Lib.hid (show ∀ W, Below w.heap.size w W → Calls Tryz.prog 47 #[.pointer (some c), .agg X.toArray] W (fun e w' => e = .returned (.tuple #[.agg #[.int .i64 p1, .int .i64 p2], .bool r]) ∧ Below W.heap.size W w') from fun W hW => by
    have := rt_xget (again W hW) hl k hk
    rw [hX, hp, hr] at this
    exact this)
  have HS := Lib.hid (And.intro hbd hkd)
  have HFO := Lib.hid (show forgetF f.L f.C k = if r = true then dropC f.C p1 else f.C from by unfold forgetF; rw [hr, hp])
  have HN := Lib.hid (And.intro hna hnl)
  have HOK := Lib.hid hok
  have HAG := Lib.hid (And.intro again (And.intro back hFl))
  have HBZ := Lib.hid hbz
  rw [hX]
  clear h hz hX hXl hw1 hkb hb1 hk1 hfk hfp hk hp hr hna hnl hbd hkd hok again back hFl hFd hbz
  go_enter Tryz.func35, Tryz.ntmps35
  go_upto_region 1 with fail
  rw [HW.out.1, HW.out.2]
  refine wp_region_held_drew (S := fun W => Blk W d 56 #[.pointer (some a), .pointer (some b), .pointer (some c), .int .i64 (na : Nat), .int .i64 (nl : Nat)] ∧ Blk W kb 29 X.toArray) (by kernel_rfl) HS.out (fun hHeld => ?_)
  clear hHeld
  generalize w1.drew = wz at *
  refine wpAnyH_take (i := 0) (oi := _) (v := .pointer (some ⟨d, 0, none⟩)) rfl (by kernel_rfl) (by kernel_rfl) (by kernel_rfl) (fun _ _ _ h => h) (Or.inl ⟨by rfl, by intro w hSw; go_simp⟩) HS.out ?_
  simp only [List.getElem_toArray, List.getElem_cons_zero, List.getElem_cons_succ, Act.put, List.setIfInBounds_toArray, List.set_cons_zero, List.set_cons_succ]
  refine wpAnyH_take (i := 1) (oi := _) (v := .pointer (some ⟨d, 0, none⟩)) rfl (by kernel_rfl) (by kernel_rfl) (by kernel_rfl) (fun _ _ _ h => h) (Or.inl ⟨by rfl, by intro w hSw; go_simp⟩) HS.out ?_
  simp only [List.getElem_toArray, List.getElem_cons_zero, List.getElem_cons_succ, Act.put, List.setIfInBounds_toArray, List.set_cons_zero, List.set_cons_succ]
  refine wpAnyH_take (i := 2) (oi := _) (v := .pointer (some ⟨d, 2, none⟩)) rfl (by kernel_rfl) (by kernel_rfl) (by kernel_rfl) (fun _ _ _ h => h) (Or.inl ⟨by rfl, by intro w hSw; go_simp⟩) HS.out ?_
  simp only [List.getElem_toArray, List.getElem_cons_zero, List.getElem_cons_succ, Act.put, List.setIfInBounds_toArray, List.set_cons_zero, List.set_cons_succ]
  refine wpAnyH_take (i := 3) (oi := _) (v := .pointer (some c)) rfl (by kernel_rfl) (by kernel_rfl) (by kernel_rfl) (fun _ _ _ h => h) (Or.inl ⟨by rfl, by intro w hSw; have hcc : w.cell? ⟨d, 2, none⟩ = some (.pointer (some c)) := (hSw.1).cell 2; go_simp⟩) HS.out ?_
  simp only [List.getElem_toArray, List.getElem_cons_zero, List.getElem_cons_succ, Act.put, List.setIfInBounds_toArray, List.set_cons_zero, List.set_cons_succ]
  refine wpAnyH_take (i := 4) (oi := _) (v := .agg X.toArray) rfl (by kernel_rfl) (by kernel_rfl) (by kernel_rfl) (fun _ _ _ h => h) (yields_mid (by rfl) 29 (.tmp 3) rfl kb 0 rfl X (.struct fk) (fun W hW => range_of_blk (hW.2)) HF.out.1 rfl HXS.out) HS.out ?_
  simp only [List.getElem_toArray, List.getElem_cons_zero, List.getElem_cons_succ, Act.put, List.setIfInBounds_toArray, List.set_cons_zero, List.set_cons_succ]
  refine wpAnyH_ready (rs := [5, 9]) (by kernel_rfl) (by simp) ?_
  refine AllReadyH.cons rfl (fun K hK => ?_) (AllReadyH.cons rfl (fun K hK => ?_) AllReadyH.nil)
  · go_simp
    (with_reducible refine (KG.out _ HBZ.out).mono ?_)
    rintro e w2 ⟨rfl, hb2⟩
    have hs2 : Blk w2 d 56 #[.pointer (some a), .pointer (some b), .pointer (some c), .int .i64 (na : Nat), .int .i64 (nl : Nat)] ∧ Blk w2 kb 29 X.toArray := ⟨(HS.out.1).below hb2 (HS.out.1).lt, (HS.out.2).below hb2 (HS.out.2).lt⟩
    have hw2b := HBZ.out.trans (hb2.mono HBZ.out.size)
    clear hb2
    go_wp2_with fail
    refine hK.out _ _ hs2 (fun _ => ?_)
    clear hK K
    try simp only [List.getElem_toArray, List.getElem_cons_zero, List.getElem_cons_succ, Act.put, List.setIfInBounds_toArray, List.set_cons_zero, List.set_cons_succ]
    refine wpAnyH_take (i := 6) (oi := _) (v := .tuple #[.agg #[.int .i64 p1, .int .i64 p2], .bool r]) rfl (by kernel_rfl) (by kernel_rfl) (by kernel_rfl) (fun _ _ _ h => h) (Or.inl ⟨by rfl, by intro w hSw; go_simp⟩) hs2 ?_
    simp only [List.getElem_toArray, List.getElem_cons_zero, List.getElem_cons_succ, Act.put, List.setIfInBounds_toArray, List.set_cons_zero, List.set_cons_succ]
    refine wpAnyH_take (i := 7) (oi := _) (v := .agg #[.int .i64 p1, .int .i64 p2]) rfl (by kernel_rfl) (by kernel_rfl) (by kernel_rfl) (fun _ _ _ h => h) (Or.inl ⟨by rfl, by intro w hSw; go_simp⟩) hs2 ?_
    simp only [List.getElem_toArray, List.getElem_cons_zero, List.getElem_cons_succ, Act.put, List.setIfInBounds_toArray, List.set_cons_zero, List.set_cons_succ]
    refine wpAnyH_take (i := 8) (oi := _) (v := .bool r) rfl (by kernel_rfl) (by kernel_rfl) (by kernel_rfl) (fun _ _ _ h => h) (Or.inl ⟨by rfl, by intro w hSw; go_simp⟩) hs2 ?_
    simp only [List.getElem_toArray, List.getElem_cons_zero, List.getElem_cons_succ, Act.put, List.setIfInBounds_toArray, List.set_cons_zero, List.set_cons_succ]
    refine wpAnyH_ready (rs := [9]) (by kernel_rfl) (by simp) ?_
    refine AllReadyH.cons rfl (fun K hK => ?_) AllReadyH.nil
    go_simp
    have hal : Below w2.heap.size w2 (w2.alloc (.cells #[.int .i64 0, .int .i64 0] 40)) := (Below.refl _ _).alloc (Nat.le_refl _) _
    refine hK.out _ _ ⟨(hs2.1).below hal (hs2.1).lt, (hs2.2).below hal (hs2.2).lt⟩ (fun _ => ?_)
    clear hK K
    try simp only [List.getElem_toArray, List.getElem_cons_zero, List.getElem_cons_succ, Act.put, List.setIfInBounds_toArray, List.set_cons_zero, List.set_cons_succ]
    refine wpAnyH_ready (rs := [10]) (by kernel_rfl) (by simp) ?_
    refine AllReadyH.cons rfl (fun K hK => ?_) AllReadyH.nil
    go_simp
    obtain ⟨w3, hw3⟩ : ∃ w3, w2.alloc (.cells #[.int .i64 p1, .int .i64 p2] 40) = w3 := ⟨_, rfl⟩
    have hb3 : Below w2.heap.size w2 w3 := hw3 ▸ (Below.refl _ _).alloc (Nat.le_refl _) _
    have hq : Blk w3 w2.heap.size 40 #[.int .i64 p1, .int .i64 p2] := hw3 ▸ Blk.new w2 _ _
    rw [hw3]
    have hs3 : Blk w3 d 56 #[.pointer (some a), .pointer (some b), .pointer (some c), .int .i64 (na : Nat), .int .i64 (nl : Nat)] ∧ Blk w3 kb 29 X.toArray := ⟨(hs2.1).below hb3 (hs2.1).lt, (hs2.2).below hb3 (hs2.2).lt⟩
    have hw3b := hw2b.trans (hb3.mono hw2b.size)
    have hpb := hw2b.size
    refine hK.out _ _ hs3 (fun _ => ?_)
    clear hK K
    try simp only [List.getElem_toArray, List.getElem_cons_zero, List.getElem_cons_succ, Act.put, List.setIfInBounds_toArray, List.set_cons_zero, List.set_cons_succ]
    refine wpAnyH_take (i := 11) (oi := _) (v := .bool r) rfl (by kernel_rfl) (by kernel_rfl) (by kernel_rfl) (fun _ _ _ h => h) (Or.inl ⟨by rfl, by intro w hSw; go_simp⟩) hs3 ?_
    simp only [List.getElem_toArray, List.getElem_cons_zero, List.getElem_cons_succ, Act.put, List.setIfInBounds_toArray, List.set_cons_zero, List.set_cons_succ]
    refine wpAnyH_done (by kernel_rfl) ?_ _
    clear hs2 hb3 hw3 hal hw2b
    have HQ := Lib.hid hq
    have HS3 := Lib.hid hs3
    have HB3 := Lib.hid hw3b
    clear hq hs3 hw3b
    generalize w2.heap.size = pb at *
    have HPB := Lib.hid hpb
    clear hpb
    cases r with
    | true =>
      have hby : Below w.heap.size w w3.drew := HB3.out.trans ((drew_below w3).mono HB3.out.size)
      have HY := Lib.hid (HAG.out.1 _ hby)
      have HBY := Lib.hid hby
      have KD := Lib.hid (rt_cdrop HY.out HOK.out p1)
      have HS4 := Lib.hid (show Blk w3.drew d 56 #[.pointer (some a), .pointer (some b), .pointer (some c), .int .i64 (na : Nat), .int .i64 (nl : Nat)] ∧ Blk w3.drew pb 40 #[.int .i64 p1, .int .i64 p2] from ⟨HS3.out.1.below (drew_below w3) HS3.out.1.lt, HQ.out.below (drew_below w3) HQ.out.lt⟩)
      clear hby
      go_upto_region 3 with fail
      refine wp_region_held_drew (S := fun W => Blk W d 56 #[.pointer (some a), .pointer (some b), .pointer (some c), .int .i64 (na : Nat), .int .i64 (nl : Nat)] ∧ Blk W pb 40 #[.int .i64 p1, .int .i64 p2]) (by kernel_rfl) HS4.out (fun hHeld => ?_)
      clear hHeld
      generalize w3.drew = wy at *
      refine wpAnyH_take (i := 0) (oi := _) (v := .pointer (some ⟨d, 0, none⟩)) rfl (by kernel_rfl) (by kernel_rfl) (by kernel_rfl) (fun _ _ _ h => h) (Or.inl ⟨by rfl, by intro w hSw; go_simp⟩) HS4.out ?_
      simp only [List.getElem_toArray, List.getElem_cons_zero, List.getElem_cons_succ, Act.put, List.setIfInBounds_toArray, List.set_cons_zero, List.set_cons_succ]
      refine wpAnyH_take (i := 1) (oi := _) (v := .pointer (some ⟨d, 0, none⟩)) rfl (by kernel_rfl) (by kernel_rfl) (by kernel_rfl) (fun _ _ _ h => h) (Or.inl ⟨by rfl, by intro w hSw; go_simp⟩) HS4.out ?_
      simp only [List.getElem_toArray, List.getElem_cons_zero, List.getElem_cons_succ, Act.put, List.setIfInBounds_toArray, List.set_cons_zero, List.set_cons_succ]
      refine wpAnyH_take (i := 2) (oi := _) (v := .pointer (some ⟨d, 1, none⟩)) rfl (by kernel_rfl) (by kernel_rfl) (by kernel_rfl) (fun _ _ _ h => h) (Or.inl ⟨by rfl, by intro w hSw; go_simp⟩) HS4.out ?_
      simp only [List.getElem_toArray, List.getElem_cons_zero, List.getElem_cons_succ, Act.put, List.setIfInBounds_toArray, List.set_cons_zero, List.set_cons_succ]
      refine wpAnyH_take (i := 3) (oi := _) (v := .pointer (some b)) rfl (by kernel_rfl) (by kernel_rfl) (by kernel_rfl) (fun _ _ _ h => h) (Or.inl ⟨by rfl, by intro w hSw; have hcc : w.cell? ⟨d, 1, none⟩ = some (.pointer (some b)) := (hSw.1).cell 1; go_simp⟩) HS4.out ?_
      simp only [List.getElem_toArray, List.getElem_cons_zero, List.getElem_cons_succ, Act.put, List.setIfInBounds_toArray, List.set_cons_zero, List.set_cons_succ]
      refine wpAnyH_take (i := 4) (oi := _) (v := .pointer (some ⟨pb, 0, none⟩)) rfl (by kernel_rfl) (by kernel_rfl) (by kernel_rfl) (fun _ _ _ h => h) (Or.inl ⟨by rfl, by intro w hSw; go_simp⟩) HS4.out ?_
      simp only [List.getElem_toArray, List.getElem_cons_zero, List.getElem_cons_succ, Act.put, List.setIfInBounds_toArray, List.set_cons_zero, List.set_cons_succ]
      refine wpAnyH_take (i := 5) (oi := _) (v := .int .i64 p1) rfl (by kernel_rfl) (by kernel_rfl) (by kernel_rfl) (fun _ _ _ h => h) (Or.inl ⟨by rfl, by intro w hSw; have hcc : w.cell? ⟨pb, 0, none⟩ = some (.int .i64 p1) := (hSw.2).cell 0; go_simp⟩) HS4.out ?_
      simp only [List.getElem_toArray, List.getElem_cons_zero, List.getElem_cons_succ, Act.put, List.setIfInBounds_toArray, List.set_cons_zero, List.set_cons_succ]
      refine wpAnyH_ready (rs := [6]) (by kernel_rfl) (by simp) ?_
      refine AllReadyH.cons rfl (fun K hK => ?_) AllReadyH.nil
      go_simp
      (with_reducible refine KD.out.mono ?_)
      rintro e w4 ⟨rfl, h4⟩
      have hs5 : Blk w4 d 56 #[.pointer (some a), .pointer (some b), .pointer (some c), .int .i64 (na : Nat), .int .i64 (nl : Nat)] ∧ Blk w4 pb 40 #[.int .i64 p1, .int .i64 p2] := ⟨by have := h4.blk; rw [HN.out.1, HN.out.2] at this; exact this, h4.old HS4.out.2 fun hf => by have := HAG.out.2.2 _ hf; have := HPB.out; omega⟩
      have H4 := Lib.hid h4
      clear h4
      go_wp2_with fail
      refine hK.out _ _ hs5 (fun _ => ?_)
      clear hK K
      try simp only [List.getElem_toArray, List.getElem_cons_zero, List.getElem_cons_succ, Act.put, List.setIfInBounds_toArray, List.set_cons_zero, List.set_cons_succ]
      refine wpAnyH_done (by kernel_rfl) ?_ _
      (try simp only [Exit.inBlock, Exit.then])
      refine bodyPost_end (results_none rfl _ _ _) rfl ?_
      exact ⟨rfl, by rw [HFO.out]; exact HAG.out.2.1 _ HBY.out _ _ H4.out⟩
    | false =>
      go_wp2_with fail
      (try simp only [Exit.inBlock, Exit.then])
      refine bodyPost_end (results_none rfl _ _ _) rfl ?_
      exact ⟨rfl, by rw [HFO.out]; exact HAG.out.2.1 _ HB3.out _ _ (HAG.out.1 _ HB3.out)⟩
  · go_simp
    obtain ⟨wA, hwA⟩ : ∃ wA, wz.alloc (.cells #[.int .i64 0, .int .i64 0] 40) = wA := ⟨_, rfl⟩
    have hal : Below wz.heap.size wz wA := hwA ▸ (Below.refl _ _).alloc (Nat.le_refl _) _
    have hqA : Blk wA wz.heap.size 40 #[.int .i64 0, .int .i64 0] := hwA ▸ Blk.new wz _ _
    rw [hwA]
    have hsA : Blk wA d 56 #[.pointer (some a), .pointer (some b), .pointer (some c), .int .i64 (na : Nat), .int .i64 (nl : Nat)] ∧ Blk wA kb 29 X.toArray := ⟨(HS.out.1).below hal (HS.out.1).lt, (HS.out.2).below hal (HS.out.2).lt⟩
    have hwAb := HBZ.out.trans (hal.mono HBZ.out.size)
    clear hwA
    refine hK.out _ _ hsA (fun _ => ?_)
    clear hK K
    try simp only [List.getElem_toArray, List.getElem_cons_zero, List.getElem_cons_succ, Act.put, List.setIfInBounds_toArray, List.set_cons_zero, List.set_cons_succ]
    refine wpAnyH_ready (rs := [5]) (by kernel_rfl) (by simp) ?_
    refine AllReadyH.cons rfl (fun K hK => ?_) AllReadyH.nil
    go_simp
    (with_reducible refine (KG.out _ hwAb).mono ?_)
    rintro e w2 ⟨rfl, hb2⟩
    have hs2 : Blk w2 d 56 #[.pointer (some a), .pointer (some b), .pointer (some c), .int .i64 (na : Nat), .int .i64 (nl : Nat)] ∧ Blk w2 kb 29 X.toArray := ⟨(hsA.1).below hb2 (hsA.1).lt, (hsA.2).below hb2 (hsA.2).lt⟩
    have hw2b := hwAb.trans (hb2.mono hwAb.size)
    have hq2 := hqA.below hb2 hqA.lt
    have hpb := HBZ.out.size
    have c0 : w2.cell? ⟨wz.heap.size, 0, none⟩ = some (.int .i64 0) := hq2.cell 0
    have c1 : w2.cell? ⟨wz.heap.size, 1, none⟩ = some (.int .i64 0) := hq2.cell 1
    have f0 : w2.frozen? ⟨wz.heap.size, 0, none⟩ = false := hq2.frozen 0
    have f1 : w2.frozen? ⟨wz.heap.size, 1, none⟩ = false := hq2.frozen 1
    clear hb2
    go_wp2_with fail
    refine hK.out _ _ hs2 (fun _ => ?_)
    clear hK K
    try simp only [List.getElem_toArray, List.getElem_cons_zero, List.getElem_cons_succ, Act.put, List.setIfInBounds_toArray, List.set_cons_zero, List.set_cons_succ]
    refine wpAnyH_take (i := 6) (oi := _) (v := .tuple #[.agg #[.int .i64 p1, .int .i64 p2], .bool r]) rfl (by kernel_rfl) (by kernel_rfl) (by kernel_rfl) (fun _ _ _ h => h) (Or.inl ⟨by rfl, by intro w hSw; go_simp⟩) hs2 ?_
    simp only [List.getElem_toArray, List.getElem_cons_zero, List.getElem_cons_succ, Act.put, List.setIfInBounds_toArray, List.set_cons_zero, List.set_cons_succ]
    refine wpAnyH_take (i := 7) (oi := _) (v := .agg #[.int .i64 p1, .int .i64 p2]) rfl (by kernel_rfl) (by kernel_rfl) (by kernel_rfl) (fun _ _ _ h => h) (Or.inl ⟨by rfl, by intro w hSw; go_simp⟩) hs2 ?_
    simp only [List.getElem_toArray, List.getElem_cons_zero, List.getElem_cons_succ, Act.put, List.setIfInBounds_toArray, List.set_cons_zero, List.set_cons_succ]
    refine wpAnyH_take (i := 8) (oi := _) (v := .bool r) rfl (by kernel_rfl) (by kernel_rfl) (by kernel_rfl) (fun _ _ _ h => h) (Or.inl ⟨by rfl, by intro w hSw; go_simp⟩) hs2 ?_
    simp only [List.getElem_toArray, List.getElem_cons_zero, List.getElem_cons_succ, Act.put, List.setIfInBounds_toArray, List.set_cons_zero, List.set_cons_succ]
    refine wpAnyH_ready (rs := [10]) (by kernel_rfl) (by simp) ?_
    refine AllReadyH.cons rfl (fun K hK => ?_) AllReadyH.nil
    go_simp
    obtain ⟨w3, hw3⟩ : ∃ w3, (w2.setCell ⟨wz.heap.size, 0, none⟩ (.int .i64 p1)).setCell ⟨wz.heap.size, 1, none⟩ (.int .i64 p2) = w3 := ⟨_, rfl⟩
    have hq : Blk w3 wz.heap.size 40 #[.int .i64 p1, .int .i64 p2] := hw3 ▸ (hq2.set_ 0 (.int .i64 p1)).set_ 1 (.int .i64 p2)
    have hgr : w2.grownBy w3 (some wz.heap.size) := hw3 ▸ grown_trans (grown_cell w2 _ 0 _) (grown_cell _ _ 1 _)
    have hnd : d ≠ wz.heap.size := fun e => by have := (HS.out.1).lt; omega
    have hnk : kb ≠ wz.heap.size := fun e => by have := (HS.out.2).lt; omega
    skip
    rw [hw3]
    have hs3 : Blk w3 d 56 #[.pointer (some a), .pointer (some b), .pointer (some c), .int .i64 (na : Nat), .int .i64 (nl : Nat)] ∧ Blk w3 kb 29 X.toArray := ⟨((hs2.1).same (hgr.block _ (hs2.1).lt fun e => by injection e with e; exact absurd e (hnd))), ((hs2.2).same (hgr.block _ (hs2.2).lt fun e => by injection e with e; exact absurd e (hnk)))⟩
    have hw3b := hw2b.grown hgr hw2b.size fun r hr => by injection hr with hr; omega
    refine hK.out _ _ hs3 (fun _ => ?_)
    clear hK K
    try simp only [List.getElem_toArray, List.getElem_cons_zero, List.getElem_cons_succ, Act.put, List.setIfInBounds_toArray, List.set_cons_zero, List.set_cons_succ]
    refine wpAnyH_take (i := 11) (oi := _) (v := .bool r) rfl (by kernel_rfl) (by kernel_rfl) (by kernel_rfl) (fun _ _ _ h => h) (Or.inl ⟨by rfl, by intro w hSw; go_simp⟩) hs3 ?_
    simp only [List.getElem_toArray, List.getElem_cons_zero, List.getElem_cons_succ, Act.put, List.setIfInBounds_toArray, List.set_cons_zero, List.set_cons_succ]
    refine wpAnyH_done (by kernel_rfl) ?_ _
    clear hs2 hw3 hal hw2b hgr hq2 c0 c1 f0 f1 hnd hnk hqA hsA hwAb
    have HQ := Lib.hid hq
    have HS3 := Lib.hid hs3
    have HB3 := Lib.hid hw3b
    clear hq hs3 hw3b HS HBZ
    generalize wz.heap.size = pb at *
    have HPB := Lib.hid hpb
    clear hpb
    cases r with
    | true =>
      have hby : Below w.heap.size w w3.drew := HB3.out.trans ((drew_below w3).mono HB3.out.size)
      have HY := Lib.hid (HAG.out.1 _ hby)
      have HBY := Lib.hid hby
      have KD := Lib.hid (rt_cdrop HY.out HOK.out p1)
      have HS4 := Lib.hid (show Blk w3.drew d 56 #[.pointer (some a), .pointer (some b), .pointer (some c), .int .i64 (na : Nat), .int .i64 (nl : Nat)] ∧ Blk w3.drew pb 40 #[.int .i64 p1, .int .i64 p2] from ⟨HS3.out.1.below (drew_below w3) HS3.out.1.lt, HQ.out.below (drew_below w3) HQ.out.lt⟩)
      clear hby
      go_upto_region 3 with fail
      refine wp_region_held_drew (S := fun W => Blk W d 56 #[.pointer (some a), .pointer (some b), .pointer (some c), .int .i64 (na : Nat), .int .i64 (nl : Nat)] ∧ Blk W pb 40 #[.int .i64 p1, .int .i64 p2]) (by kernel_rfl) HS4.out (fun hHeld => ?_)
      clear hHeld
      generalize w3.drew = wy at *
      refine wpAnyH_take (i := 0) (oi := _) (v := .pointer (some ⟨d, 0, none⟩)) rfl (by kernel_rfl) (by kernel_rfl) (by kernel_rfl) (fun _ _ _ h => h) (Or.inl ⟨by rfl, by intro w hSw; go_simp⟩) HS4.out ?_
      simp only [List.getElem_toArray, List.getElem_cons_zero, List.getElem_cons_succ, Act.put, List.setIfInBounds_toArray, List.set_cons_zero, List.set_cons_succ]
      refine wpAnyH_take (i := 1) (oi := _) (v := .pointer (some ⟨d, 0, none⟩)) rfl (by kernel_rfl) (by kernel_rfl) (by kernel_rfl) (fun _ _ _ h => h) (Or.inl ⟨by rfl, by intro w hSw; go_simp⟩) HS4.out ?_
      simp only [List.getElem_toArray, List.getElem_cons_zero, List.getElem_cons_succ, Act.put, List.setIfInBounds_toArray, List.set_cons_zero, List.set_cons_succ]
      refine wpAnyH_take (i := 2) (oi := _) (v := .pointer (some ⟨d, 1, none⟩)) rfl (by kernel_rfl) (by kernel_rfl) (by kernel_rfl) (fun _ _ _ h => h) (Or.inl ⟨by rfl, by intro w hSw; go_simp⟩) HS4.out ?_
      simp only [List.getElem_toArray, List.getElem_cons_zero, List.getElem_cons_succ, Act.put, List.setIfInBounds_toArray, List.set_cons_zero, List.set_cons_succ]
      refine wpAnyH_take (i := 3) (oi := _) (v := .pointer (some b)) rfl (by kernel_rfl) (by kernel_rfl) (by kernel_rfl) (fun _ _ _ h => h) (Or.inl ⟨by rfl, by intro w hSw; have hcc : w.cell? ⟨d, 1, none⟩ = some (.pointer (some b)) := (hSw.1).cell 1; go_simp⟩) HS4.out ?_
      simp only [List.getElem_toArray, List.getElem_cons_zero, List.getElem_cons_succ, Act.put, List.setIfInBounds_toArray, List.set_cons_zero, List.set_cons_succ]
      refine wpAnyH_take (i := 4) (oi := _) (v := .pointer (some ⟨pb, 0, none⟩)) rfl (by kernel_rfl) (by kernel_rfl) (by kernel_rfl) (fun _ _ _ h => h) (Or.inl ⟨by rfl, by intro w hSw; go_simp⟩) HS4.out ?_
      simp only [List.getElem_toArray, List.getElem_cons_zero, List.getElem_cons_succ, Act.put, List.setIfInBounds_toArray, List.set_cons_zero, List.set_cons_succ]
      refine wpAnyH_take (i := 5) (oi := _) (v := .int .i64 p1) rfl (by kernel_rfl) (by kernel_rfl) (by kernel_rfl) (fun _ _ _ h => h) (Or.inl ⟨by rfl, by intro w hSw; have hcc : w.cell? ⟨pb, 0, none⟩ = some (.int .i64 p1) := (hSw.2).cell 0; go_simp⟩) HS4.out ?_
      simp only [List.getElem_toArray, List.getElem_cons_zero, List.getElem_cons_succ, Act.put, List.setIfInBounds_toArray, List.set_cons_zero, List.set_cons_succ]
      refine wpAnyH_ready (rs := [6]) (by kernel_rfl) (by simp) ?_
      refine AllReadyH.cons rfl (fun K hK => ?_) AllReadyH.nil
      go_simp
      (with_reducible refine KD.out.mono ?_)
      rintro e w4 ⟨rfl, h4⟩
      have hs5 : Blk w4 d 56 #[.pointer (some a), .pointer (some b), .pointer (some c), .int .i64 (na : Nat), .int .i64 (nl : Nat)] ∧ Blk w4 pb 40 #[.int .i64 p1, .int .i64 p2] := ⟨by have := h4.blk; rw [HN.out.1, HN.out.2] at this; exact this, h4.old HS4.out.2 fun hf => by have := HAG.out.2.2 _ hf; have := HPB.out; omega⟩
      have H4 := Lib.hid h4
      clear h4
      go_wp2_with fail
      refine hK.out _ _ hs5 (fun _ => ?_)
      clear hK K
      try simp only [List.getElem_toArray, List.getElem_cons_zero, List.getElem_cons_succ, Act.put, List.setIfInBounds_toArray, List.set_cons_zero, List.set_cons_succ]
      refine wpAnyH_done (by kernel_rfl) ?_ _
      (try simp only [Exit.inBlock, Exit.then])
      refine bodyPost_end (results_none rfl _ _ _) rfl ?_
      exact ⟨rfl, by rw [HFO.out]; exact HAG.out.2.1 _ HBY.out _ _ H4.out⟩
    | false =>
      go_wp2_with fail
      (try simp only [Exit.inBlock, Exit.then])
      refine bodyPost_end (results_none rfl _ _ _) rfl ?_
      exact ⟨rfl, by rw [HFO.out]; exact HAG.out.2.1 _ HB3.out _ _ (HAG.out.1 _ HB3.out)⟩
set_option maxHeartbeats 8000000 in
theorem rfput_any (s : Addr) (F : Nat → Prop) (f : FS) (k : KeyT) (q : Int × Int) (w : World) (h : Rfd w s F f) (hok : f.Ok) (hl : f.L.length ≤ 900) (hk : k.Ok) (hq : PlOk q) :
    Calls Tryz.prog 9 #[.pointer (some s), kv k, pv q] w fun e w' => e = .returned (.tuple #[]) ∧ Turned Rfd w s F w' (putF f k q) := by
  obtain ⟨d, a, b, c, rfl, hR⟩ := RfT.start h
  obtain ⟨X, hX⟩ : ∃ X, kcs k = X := ⟨_, rfl⟩
  have hXl : X.length = 33 := by rw [← hX]; exact kcs_length hk
  obtain ⟨p1, p2⟩ := q
  obtain ⟨w1, hw1⟩ : ∃ w1, w.alloc (.cells X.toArray 29) = w1 := ⟨_, rfl⟩
  obtain ⟨kb, hkb⟩ : ∃ kb, w.heap.size = kb := ⟨_, rfl⟩
  have hb1 : Below w.heap.size w w1 := hw1 ▸ (Below.refl _ _).alloc (Nat.le_refl _) _
  have hk1 : Blk w1 kb 29 X.toArray := by rw [← hw1, ← hkb]; exact Blk.new w _ _
  obtain ⟨w2, hw2⟩ : ∃ w2, w1.alloc (.cells #[.int .i64 p1, .int .i64 p2] 40) = w2 := ⟨_, rfl⟩
  obtain ⟨pb, hpb⟩ : ∃ pb, w1.heap.size = pb := ⟨_, rfl⟩
  have hb2 : Below w1.heap.size w1 w2 := hw2 ▸ (Below.refl _ _).alloc (Nat.le_refl _) _
  have hk2 : Blk w2 kb 29 X.toArray := hk1.below hb2 hk1.lt
  have hp2 : Blk w2 pb 40 #[.int .i64 p1, .int .i64 p2] := by rw [← hw2, ← hpb]; exact Blk.new w1 _ _
  have hb12 := hb1.trans (hb2.mono hb1.size)
  obtain ⟨F, hFl, hFd, again, back⟩ := hR.again
  have h2 := again _ hb12
  have HXS := Lib.hid (show (Tryz.prog.info? 29).map (·.size) = some X.length from by rw [hXl]; exact key_size)
  obtain ⟨fk, hfk⟩ := key_desc
  obtain ⟨fp, hfp⟩ := place_desc
  have HF := Lib.hid (And.intro hfk hfp)
  have HW := Lib.hid (And.intro (And.intro hw1 hkb) (And.intro hw2 (show kb + 1 = pb by rw [← hkb, ← hpb, ← hw1]; simp)))
  obtain ⟨na, hna⟩ : ∃ n, f.asked = n := ⟨_, rfl⟩
  obtain ⟨nl, hnl⟩ : ∃ n, f.loads = n := ⟨_, rfl⟩
  have KF := rforget_any h2 hok.cache (by omega) k hk
  rw [hX] at KF
  replace KF := Lib.hid KF
  have HBX := Lib.hid (show ∀ w' f', RfT w2 F d a b c w' f' → f'.asked = na → f'.loads = nl → Blk w' d 56 #[.pointer (some a), .pointer (some b), .pointer (some c), .int .i64 (na : Nat), .int .i64 (nl : Nat)] ∧ Blk w' kb 29 X.toArray ∧ Blk w' pb 40 #[.int .i64 p1, .int .i64 p2] from fun w' f' h' e1 e2 => ⟨by have := h'.blk; rw [e1, e2] at this; exact this, h'.old hk2 fun hf => by have := hFl _ hf; omega, h'.old hp2 fun hf => by have := hFl _ hf; have := hb1.size; omega⟩)
  have HBK := Lib.hid (show ∀ w' f', RfT w2 F d a b c w' f' → Turned Rfd w ⟨d, 0, none⟩ _ w' f' from fun w' f' h' => (back _ hb12 _ _ h').fin)
  have HN := Lib.hid (And.intro hna hnl)
  have HK := Lib.hid (And.intro hX (And.intro hk hq))
  have HL := Lib.hid hl
  have HOK := Lib.hid (show (forgetF f.L f.C k).Ok from forget_ok hok.cache k)
  have hck : w2.rangeAt kb 0 X := range_of_blk hk2
  have HCK := Lib.hid hck
  unfold kv pv
  rw [hX]
  clear h hR h2 hX hXl hw1 hkb hb1 hk1 hw2 hpb hb2 hk2 hp2 hb12 hfk hfp hk hq hna hnl hok again back hFl hFd hck hl
  go_enter Tryz.func9, Tryz.ntmps9
  go_upto_region 1 with fail
  rw [HW.out.1.1, HW.out.1.2, HW.out.2.1, HW.out.2.2]
  go_upto_region 2 with (first
    | (refine wpList_load_mid rfl 29 (.tmp 4) rfl kb 0 rfl X (.struct fk) HCK.out HF.out.1 rfl HXS.out ?_)
    | (go_at_call 35; (with_reducible refine KF.out.mono ?_); rintro e w3 ⟨rfl, h3⟩; have H3 := Lib.hid h3; clear h3))
  have HZ3 := Lib.hid (H3.out.on (drew_below w3))
  have HS3 := Lib.hid (HBX.out _ _ HZ3.out HN.out.1 HN.out.2)
  have KC3 := rt_xput HZ3.out (by have := HL.out; show f.L.length ≤ 9000; omega) k HK.out.2.1 (p1, p2) HK.out.2.2
  rw [HK.out.1] at KC3
  replace KC3 := Lib.hid KC3
  refine wp_region_held_drew (S := fun W => Blk W d 56 #[.pointer (some a), .pointer (some b), .pointer (some c), .int .i64 (na : Nat), .int .i64 (nl : Nat)] ∧ Blk W kb 29 X.toArray ∧ Blk W pb 40 #[.int .i64 p1, .int .i64 p2]) (by kernel_rfl) HS3.out (fun hHeld => ?_)
  clear hHeld
  generalize w3.drew = wz3 at *
  refine wpAnyH_take (i := 0) (oi := _) (v := .pointer (some ⟨d, 0, none⟩)) rfl (by kernel_rfl) (by kernel_rfl) (by kernel_rfl) (fun _ _ _ h => h) (Or.inl ⟨by rfl, by intro w hSw; go_simp⟩) HS3.out ?_
  simp only [List.getElem_toArray, List.getElem_cons_zero, List.getElem_cons_succ, Act.put, List.setIfInBounds_toArray, List.set_cons_zero, List.set_cons_succ]
  refine wpAnyH_take (i := 1) (oi := _) (v := .pointer (some ⟨d, 0, none⟩)) rfl (by kernel_rfl) (by kernel_rfl) (by kernel_rfl) (fun _ _ _ h => h) (Or.inl ⟨by rfl, by intro w hSw; go_simp⟩) HS3.out ?_
  simp only [List.getElem_toArray, List.getElem_cons_zero, List.getElem_cons_succ, Act.put, List.setIfInBounds_toArray, List.set_cons_zero, List.set_cons_succ]
  refine wpAnyH_take (i := 2) (oi := _) (v := .pointer (some ⟨d, 2, none⟩)) rfl (by kernel_rfl) (by kernel_rfl) (by kernel_rfl) (fun _ _ _ h => h) (Or.inl ⟨by rfl, by intro w hSw; go_simp⟩) HS3.out ?_
  simp only [List.getElem_toArray, List.getElem_cons_zero, List.getElem_cons_succ, Act.put, List.setIfInBounds_toArray, List.set_cons_zero, List.set_cons_succ]
  refine wpAnyH_take (i := 3) (oi := _) (v := .pointer (some c)) rfl (by kernel_rfl) (by kernel_rfl) (by kernel_rfl) (fun _ _ _ h => h) (Or.inl ⟨by rfl, by intro w hSw; have hcc : w.cell? ⟨d, 2, none⟩ = some (.pointer (some c)) := (hSw.1).cell 2; go_simp⟩) HS3.out ?_
  simp only [List.getElem_toArray, List.getElem_cons_zero, List.getElem_cons_succ, Act.put, List.setIfInBounds_toArray, List.set_cons_zero, List.set_cons_succ]
  refine wpAnyH_take (i := 4) (oi := _) (v := .agg X.toArray) rfl (by kernel_rfl) (by kernel_rfl) (by kernel_rfl) (fun _ _ _ h => h) (yields_mid (by rfl) 29 (.tmp 4) rfl kb 0 rfl X (.struct fk) (fun W hW => range_of_blk (hW.2.1)) HF.out.1 rfl HXS.out) HS3.out ?_
  simp only [List.getElem_toArray, List.getElem_cons_zero, List.getElem_cons_succ, Act.put, List.setIfInBounds_toArray, List.set_cons_zero, List.set_cons_succ]
  refine wpAnyH_take (i := 5) (oi := _) (v := .agg #[.int .i64 p1, .int .i64 p2]) rfl (by kernel_rfl) (by kernel_rfl) (by kernel_rfl) (fun _ _ _ h => h) (yields_mid (by rfl) 40 (.tmp 5) rfl pb 0 rfl [.int .i64 p1, .int .i64 p2] (.struct fp) (fun W hW => range_of_blk (hW.2.2)) HF.out.2 rfl place_size) HS3.out ?_
  simp only [List.getElem_toArray, List.getElem_cons_zero, List.getElem_cons_succ, Act.put, List.setIfInBounds_toArray, List.set_cons_zero, List.set_cons_succ]
  refine wpAnyH_ready (rs := [6]) (by kernel_rfl) (by simp) ?_
  refine AllReadyH.cons rfl (fun K hK => ?_) AllReadyH.nil
  go_simp
  (with_reducible refine KC3.out.mono ?_)
  rintro e w4 ⟨rfl, h4⟩
  have hs4 := HBX.out _ _ h4 HN.out.1 HN.out.2
  have H4 := Lib.hid h4
  clear h4
  go_wp2_with fail
  refine hK.out _ _ hs4 (fun _ => ?_)
  clear hK K
  try simp only [List.getElem_toArray, List.getElem_cons_zero, List.getElem_cons_succ, Act.put, List.setIfInBounds_toArray, List.set_cons_zero, List.set_cons_succ]
  refine wpAnyH_done (by kernel_rfl) ?_ _
  clear hs4 HZ3 HS3 KC3 H3
  go_upto_region 3 with fail
  have HZ4 := Lib.hid (H4.out.on (drew_below w4))
  have HS4 := Lib.hid (HBX.out _ _ HZ4.out HN.out.1 HN.out.2)
  have KC4 := rt_badd HZ4.out k HK.out.2.1
  rw [HK.out.1] at KC4
  replace KC4 := Lib.hid KC4
  refine wp_region_held_drew (S := fun W => Blk W d 56 #[.pointer (some a), .pointer (some b), .pointer (some c), .int .i64 (na : Nat), .int .i64 (nl : Nat)] ∧ Blk W kb 29 X.toArray ∧ Blk W pb 40 #[.int .i64 p1, .int .i64 p2]) (by kernel_rfl) HS4.out (fun hHeld => ?_)
  clear hHeld
  generalize w4.drew = wz4 at *
  refine wpAnyH_take (i := 0) (oi := _) (v := .pointer (some ⟨d, 0, none⟩)) rfl (by kernel_rfl) (by kernel_rfl) (by kernel_rfl) (fun _ _ _ h => h) (Or.inl ⟨by rfl, by intro w hSw; go_simp⟩) HS4.out ?_
  simp only [List.getElem_toArray, List.getElem_cons_zero, List.getElem_cons_succ, Act.put, List.setIfInBounds_toArray, List.set_cons_zero, List.set_cons_succ]
  refine wpAnyH_take (i := 1) (oi := _) (v := .pointer (some ⟨d, 0, none⟩)) rfl (by kernel_rfl) (by kernel_rfl) (by kernel_rfl) (fun _ _ _ h => h) (Or.inl ⟨by rfl, by intro w hSw; go_simp⟩) HS4.out ?_
  simp only [List.getElem_toArray, List.getElem_cons_zero, List.getElem_cons_succ, Act.put, List.setIfInBounds_toArray, List.set_cons_zero, List.set_cons_succ]
  refine wpAnyH_take (i := 2) (oi := _) (v := .pointer (some ⟨d, 0, none⟩)) rfl (by kernel_rfl) (by kernel_rfl) (by kernel_rfl) (fun _ _ _ h => h) (Or.inl ⟨by rfl, by intro w hSw; go_simp⟩) HS4.out ?_
  simp only [List.getElem_toArray, List.getElem_cons_zero, List.getElem_cons_succ, Act.put, List.setIfInBounds_toArray, List.set_cons_zero, List.set_cons_succ]
  refine wpAnyH_take (i := 3) (oi := _) (v := .pointer (some a)) rfl (by kernel_rfl) (by kernel_rfl) (by kernel_rfl) (fun _ _ _ h => h) (Or.inl ⟨by rfl, by intro w hSw; have hcc : w.cell? ⟨d, 0, none⟩ = some (.pointer (some a)) := (hSw.1).cell 0; go_simp⟩) HS4.out ?_
  simp only [List.getElem_toArray, List.getElem_cons_zero, List.getElem_cons_succ, Act.put, List.setIfInBounds_toArray, List.set_cons_zero, List.set_cons_succ]
  refine wpAnyH_take (i := 4) (oi := _) (v := .agg X.toArray) rfl (by kernel_rfl) (by kernel_rfl) (by kernel_rfl) (fun _ _ _ h => h) (yields_mid (by rfl) 29 (.tmp 4) rfl kb 0 rfl X (.struct fk) (fun W hW => range_of_blk (hW.2.1)) HF.out.1 rfl HXS.out) HS4.out ?_
  simp only [List.getElem_toArray, List.getElem_cons_zero, List.getElem_cons_succ, Act.put, List.setIfInBounds_toArray, List.set_cons_zero, List.set_cons_succ]
  refine wpAnyH_ready (rs := [5]) (by kernel_rfl) (by simp) ?_
  refine AllReadyH.cons rfl (fun K hK => ?_) AllReadyH.nil
  go_simp
  (with_reducible refine KC4.out.mono ?_)
  rintro e w5 ⟨⟨y, rfl⟩, h5⟩
  have hs5 := HBX.out _ _ h5 HN.out.1 HN.out.2
  have H5 := Lib.hid h5
  clear h5
  go_wp2_with fail
  refine hK.out _ _ hs5 (fun _ => ?_)
  clear hK K
  try simp only [List.getElem_toArray, List.getElem_cons_zero, List.getElem_cons_succ, Act.put, List.setIfInBounds_toArray, List.set_cons_zero, List.set_cons_succ]
  refine wpAnyH_done (by kernel_rfl) ?_ _
  clear hs5 HZ4 HS4 KC4 H4
  go_upto_region 4 with fail
  have HZ5 := Lib.hid (H5.out.on (drew_below w5))
  have HS5 := Lib.hid (HBX.out _ _ HZ5.out HN.out.1 HN.out.2)
  have KC5 := rt_cdrop HZ5.out HOK.out p1
  replace KC5 := Lib.hid KC5
  refine wp_region_held_drew (S := fun W => Blk W d 56 #[.pointer (some a), .pointer (some b), .pointer (some c), .int .i64 (na : Nat), .int .i64 (nl : Nat)] ∧ Blk W kb 29 X.toArray ∧ Blk W pb 40 #[.int .i64 p1, .int .i64 p2]) (by kernel_rfl) HS5.out (fun hHeld => ?_)
  clear hHeld
  generalize w5.drew = wz5 at *
  refine wpAnyH_take (i := 0) (oi := _) (v := .pointer (some ⟨d, 0, none⟩)) rfl (by kernel_rfl) (by kernel_rfl) (by kernel_rfl) (fun _ _ _ h => h) (Or.inl ⟨by rfl, by intro w hSw; go_simp⟩) HS5.out ?_
  simp only [List.getElem_toArray, List.getElem_cons_zero, List.getElem_cons_succ, Act.put, List.setIfInBounds_toArray, List.set_cons_zero, List.set_cons_succ]
  refine wpAnyH_take (i := 1) (oi := _) (v := .pointer (some ⟨d, 0, none⟩)) rfl (by kernel_rfl) (by kernel_rfl) (by kernel_rfl) (fun _ _ _ h => h) (Or.inl ⟨by rfl, by intro w hSw; go_simp⟩) HS5.out ?_
  simp only [List.getElem_toArray, List.getElem_cons_zero, List.getElem_cons_succ, Act.put, List.setIfInBounds_toArray, List.set_cons_zero, List.set_cons_succ]
  refine wpAnyH_take (i := 2) (oi := _) (v := .pointer (some ⟨d, 1, none⟩)) rfl (by kernel_rfl) (by kernel_rfl) (by kernel_rfl) (fun _ _ _ h => h) (Or.inl ⟨by rfl, by intro w hSw; go_simp⟩) HS5.out ?_
  simp only [List.getElem_toArray, List.getElem_cons_zero, List.getElem_cons_succ, Act.put, List.setIfInBounds_toArray, List.set_cons_zero, List.set_cons_succ]
  refine wpAnyH_take (i := 3) (oi := _) (v := .pointer (some b)) rfl (by kernel_rfl) (by kernel_rfl) (by kernel_rfl) (fun _ _ _ h => h) (Or.inl ⟨by rfl, by intro w hSw; have hcc : w.cell? ⟨d, 1, none⟩ = some (.pointer (some b)) := (hSw.1).cell 1; go_simp⟩) HS5.out ?_
  simp only [List.getElem_toArray, List.getElem_cons_zero, List.getElem_cons_succ, Act.put, List.setIfInBounds_toArray, List.set_cons_zero, List.set_cons_succ]
  refine wpAnyH_take (i := 4) (oi := _) (v := .pointer (some ⟨pb, 0, none⟩)) rfl (by kernel_rfl) (by kernel_rfl) (by kernel_rfl) (fun _ _ _ h => h) (Or.inl ⟨by rfl, by intro w hSw; go_simp⟩) HS5.out ?_
  simp only [List.getElem_toArray, List.getElem_cons_zero, List.getElem_cons_succ, Act.put, List.setIfInBounds_toArray, List.set_cons_zero, List.set_cons_succ]
  refine wpAnyH_take (i := 5) (oi := _) (v := .int .i64 p1) rfl (by kernel_rfl) (by kernel_rfl) (by kernel_rfl) (fun _ _ _ h => h) (Or.inl ⟨by rfl, by intro w hSw; have hcc : w.cell? ⟨pb, 0, none⟩ = some (.int .i64 p1) := (hSw.2.2).cell 0; go_simp⟩) HS5.out ?_
  simp only [List.getElem_toArray, List.getElem_cons_zero, List.getElem_cons_succ, Act.put, List.setIfInBounds_toArray, List.set_cons_zero, List.set_cons_succ]
  refine wpAnyH_ready (rs := [6]) (by kernel_rfl) (by simp) ?_
  refine AllReadyH.cons rfl (fun K hK => ?_) AllReadyH.nil
  go_simp
  (with_reducible refine KC5.out.mono ?_)
  rintro e w6 ⟨rfl, h6⟩
  have hs6 := HBX.out _ _ h6 HN.out.1 HN.out.2
  have H6 := Lib.hid h6
  clear h6
  go_wp2_with fail
  refine hK.out _ _ hs6 (fun _ => ?_)
  clear hK K
  try simp only [List.getElem_toArray, List.getElem_cons_zero, List.getElem_cons_succ, Act.put, List.setIfInBounds_toArray, List.set_cons_zero, List.set_cons_succ]
  refine wpAnyH_done (by kernel_rfl) ?_ _
  (try simp only [Exit.inBlock, Exit.then])
  refine bodyPost_end (results_none rfl _ _ _) rfl ?_
  exact ⟨rfl, HBK.out _ _ H6.out⟩
set_option maxHeartbeats 8000000 in
theorem rfdrop_any (s : Addr) (F : Nat → Prop) (f : FS) (k : KeyT) (w : World) (h : Rfd w s F f) (hok : f.Ok) (hl : f.L.length ≤ 900) (hk : k.Ok) :
    Calls Tryz.prog 11 #[.pointer (some s), kv k] w fun e w' => e = .returned (.bool (hasX f.L k)) ∧ Turned Rfd w s F w' (dropF f k) := by
  obtain ⟨d, a, b, c, rfl, hR⟩ := RfT.start h
  obtain ⟨X, hX⟩ : ∃ X, kcs k = X := ⟨_, rfl⟩
  have hXl : X.length = 33 := by rw [← hX]; exact kcs_length hk
  obtain ⟨w2, hw2⟩ : ∃ w2, w.alloc (.cells X.toArray 29) = w2 := ⟨_, rfl⟩
  obtain ⟨kb, hkb⟩ : ∃ kb, w.heap.size = kb := ⟨_, rfl⟩
  have hb12 : Below w.heap.size w w2 := hw2 ▸ (Below.refl _ _).alloc (Nat.le_refl _) _
  have hk2 : Blk w2 kb 29 X.toArray := by rw [← hw2, ← hkb]; exact Blk.new w _ _
  obtain ⟨F, hFl, hFd, again, back⟩ := hR.again
  have h2 := again _ hb12
  have HXS := Lib.hid (show (Tryz.prog.info? 29).map (·.size) = some X.length from by rw [hXl]; exact key_size)
  obtain ⟨fk, hfk⟩ := key_desc
  have HF := Lib.hid (And.intro hfk hfk)
  have HW := Lib.hid (And.intro hw2 hkb)
  obtain ⟨na, hna⟩ : ∃ n, f.asked = n := ⟨_, rfl⟩
  obtain ⟨nl, hnl⟩ : ∃ n, f.loads = n := ⟨_, rfl⟩
  have KF := rforget_any h2 hok.cache (by omega) k hk
  rw [hX] at KF
  replace KF := Lib.hid KF
  have HBX := Lib.hid (show ∀ w' f', RfT w2 F d a b c w' f' → f'.asked = na → f'.loads = nl → Blk w' d 56 #[.pointer (some a), .pointer (some b), .pointer (some c), .int .i64 (na : Nat), .int .i64 (nl : Nat)] ∧ Blk w' kb 29 X.toArray from fun w' f' h' e1 e2 => ⟨by have := h'.blk; rw [e1, e2] at this; exact this, h'.old hk2 fun hf => by have := hFl _ hf; omega⟩)
  have HBK := Lib.hid (show ∀ w' f', RfT w2 F d a b c w' f' → Turned Rfd w ⟨d, 0, none⟩ _ w' f' from fun w' f' h' => (back _ hb12 _ _ h').fin)
  have HN := Lib.hid (And.intro hna hnl)
  have HK := Lib.hid (And.intro hX hk)
  have HL := Lib.hid hl
  have hck : w2.rangeAt kb 0 X := range_of_blk hk2
  have HCK := Lib.hid hck
  obtain ⟨r, hr⟩ : ∃ r, hasX f.L k = r := ⟨_, rfl⟩
  have HR := Lib.hid hr
  unfold kv
  rw [hX, hr]
  clear h hR h2 hX hXl hw2 hkb hk2 hb12 hfk hk hna hnl hok again back hFl hFd hck hl hr
  go_enter Tryz.func11, Tryz.ntmps11
  go_upto_region 1 with fail
  rw [HW.out.1, HW.out.2]
  go_upto_region 2 with (first
    | (refine wpList_load_mid rfl 29 (.tmp 3) rfl kb 0 rfl X (.struct fk) HCK.out HF.out.1 rfl HXS.out ?_)
    | (go_at_call 35; (with_reducible refine KF.out.mono ?_); rintro e w3 ⟨rfl, h3⟩; have H3 := Lib.hid h3; clear h3))
  have HZ3 := Lib.hid (H3.out.on (drew_below w3))
  have HS3 := Lib.hid (HBX.out _ _ HZ3.out HN.out.1 HN.out.2)
  have KC3 := rt_xdrop HZ3.out (by have := HL.out; show f.L.length ≤ 9000; omega) k HK.out.2
  rw [HK.out.1] at KC3
  replace KC3 := KC3.mono fun e w' ⟨h1, h2⟩ => And.intro (h1.trans (by show _ = Ending.returned (.bool r); rw [← HR.out])) h2
  replace KC3 := Lib.hid KC3
  refine wp_region_held_drew (S := fun W => Blk W d 56 #[.pointer (some a), .pointer (some b), .pointer (some c), .int .i64 (na : Nat), .int .i64 (nl : Nat)] ∧ Blk W kb 29 X.toArray) (by kernel_rfl) HS3.out (fun hHeld => ?_)
  clear hHeld
  generalize w3.drew = wz3 at *
  refine wpAnyH_take (i := 0) (oi := _) (v := .pointer (some ⟨d, 0, none⟩)) rfl (by kernel_rfl) (by kernel_rfl) (by kernel_rfl) (fun _ _ _ h => h) (Or.inl ⟨by rfl, by intro w hSw; go_simp⟩) HS3.out ?_
  simp only [List.getElem_toArray, List.getElem_cons_zero, List.getElem_cons_succ, Act.put, List.setIfInBounds_toArray, List.set_cons_zero, List.set_cons_succ]
  refine wpAnyH_take (i := 1) (oi := _) (v := .pointer (some ⟨d, 0, none⟩)) rfl (by kernel_rfl) (by kernel_rfl) (by kernel_rfl) (fun _ _ _ h => h) (Or.inl ⟨by rfl, by intro w hSw; go_simp⟩) HS3.out ?_
  simp only [List.getElem_toArray, List.getElem_cons_zero, List.getElem_cons_succ, Act.put, List.setIfInBounds_toArray, List.set_cons_zero, List.set_cons_succ]
  refine wpAnyH_take (i := 2) (oi := _) (v := .pointer (some ⟨d, 2, none⟩)) rfl (by kernel_rfl) (by kernel_rfl) (by kernel_rfl) (fun _ _ _ h => h) (Or.inl ⟨by rfl, by intro w hSw; go_simp⟩) HS3.out ?_
  simp only [List.getElem_toArray, List.getElem_cons_zero, List.getElem_cons_succ, Act.put, List.setIfInBounds_toArray, List.set_cons_zero, List.set_cons_succ]
  refine wpAnyH_take (i := 3) (oi := _) (v := .pointer (some c)) rfl (by kernel_rfl) (by kernel_rfl) (by kernel_rfl) (fun _ _ _ h => h) (Or.inl ⟨by rfl, by intro w hSw; have hcc : w.cell? ⟨d, 2, none⟩ = some (.pointer (some c)) := (hSw.1).cell 2; go_simp⟩) HS3.out ?_
  simp only [List.getElem_toArray, List.getElem_cons_zero, List.getElem_cons_succ, Act.put, List.setIfInBounds_toArray, List.set_cons_zero, List.set_cons_succ]
  refine wpAnyH_take (i := 4) (oi := _) (v := .agg X.toArray) rfl (by kernel_rfl) (by kernel_rfl) (by kernel_rfl) (fun _ _ _ h => h) (yields_mid (by rfl) 29 (.tmp 3) rfl kb 0 rfl X (.struct fk) (fun W hW => range_of_blk (hW.2)) HF.out.1 rfl HXS.out) HS3.out ?_
  simp only [List.getElem_toArray, List.getElem_cons_zero, List.getElem_cons_succ, Act.put, List.setIfInBounds_toArray, List.set_cons_zero, List.set_cons_succ]
  refine wpAnyH_ready (rs := [5]) (by kernel_rfl) (by simp) ?_
  refine AllReadyH.cons rfl (fun K hK => ?_) AllReadyH.nil
  go_simp
  (with_reducible refine KC3.out.mono ?_)
  rintro e w4 ⟨rfl, h4⟩
  have hs4 := HBX.out _ _ h4 HN.out.1 HN.out.2
  have H4 := Lib.hid h4
  clear h4
  go_wp2_with fail
  refine hK.out _ _ hs4 (fun _ => ?_)
  clear hK K
  try simp only [List.getElem_toArray, List.getElem_cons_zero, List.getElem_cons_succ, Act.put, List.setIfInBounds_toArray, List.set_cons_zero, List.set_cons_succ]
  refine wpAnyH_take (i := 6) (oi := _) (v := .bool r) rfl (by kernel_rfl) (by kernel_rfl) (by kernel_rfl) (fun _ _ _ h => h) (Or.inl ⟨by rfl, by intro w hSw; go_simp⟩) hs4 ?_
  simp only [List.getElem_toArray, List.getElem_cons_zero, List.getElem_cons_succ, Act.put, List.setIfInBounds_toArray, List.set_cons_zero, List.set_cons_succ]
  refine wpAnyH_done (by kernel_rfl) ?_ _
  go_wp2_with fail
  go_ret
  exact ⟨rfl, HBK.out _ _ H4.out⟩
end Go.Proofs.YtoofhaoaogoomaaGreat
