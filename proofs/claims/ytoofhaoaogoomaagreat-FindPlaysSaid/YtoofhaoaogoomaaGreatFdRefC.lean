/- The reference's finder (cellarageref15): Find (written by gen/gen_fdrefc.py). No statement of the seat is proved here. -/
import Derived.Test.YtoofhaoaogoomaaGreatFdRefB
import Derived.Test.YtoofhaoaogoomaaGreatIxRefS
import Derived.Test.YtoofhaoaogoomaaGreatCcRefG
import Derived.Test.YtoofhaoaogoomaaGreatZLAO
namespace Go.Proofs.YtoofhaoaogoomaaGreat
open Go.RowKit
set_option linter.unusedVariables false
set_option linter.unusedSimpArgs false
set_option maxRecDepth 100000

section
variable {w w' wY w8 w9 : World} {F : Nat → Prop} {d : Nat} {a b c : Addr} {f f' : FS}
theorem RfT.up (h : RfT w F d a b c w f) (hb : Below w.heap.size w w') : RfT w' F d a b c w' f := by
  obtain ⟨F', h1, h2, h3⟩ := h.tri
  exact ⟨⟨F', Tri.keep Rb.firm Rc.firm Rx.firm h1 (fun g hg _ => hb.block g (h1.lt g hg)) hb.size, fun g hg => (h2 g hg).elim .inl fun h => absurd (h1.lt g hg) (by omega), only_refl _ _⟩, h.blk.below hb h.blk.lt⟩
/-- The costs are written. -/
theorem RfT.cost (h : RfT w F d a b c w f) {x y : Nat} (hb : Blk w' d 56 #[.pointer (some a), .pointer (some b), .pointer (some c), .int .i64 (x : Nat), .int .i64 (y : Nat)]) (ho : w.grownBy w' (some d)) : RfT w' F d a b c w' ⟨f.n, f.p, f.S, f.C, f.L, x, y⟩ := by
  obtain ⟨F', h1, h2, h3⟩ := h.tri
  exact ⟨⟨F', Tri.keep Rb.firm Rc.firm Rx.firm h1 (fun g hg hne => ho.block g (h1.lt g hg) fun e => hne (by injection e)) ho.size, fun g hg => (h2 g hg).elim .inl fun h => absurd (h1.lt g hg) (by omega), only_refl _ _⟩, hb⟩
theorem RfT.own (h : RfT w F d a b c w f) : F d := by
  obtain ⟨F', h1, h2, h3⟩ := h.tri
  exact (h2 d h1.own).elim id fun hh => absurd (h1.lt d h1.own) (by omega)
/-- A block besides is written. -/
theorem RfT.box {g : Nat} (h : RfT w F d a b c w f) (gr : w.grownBy w' (some g)) (hF : ¬ F g) : RfT w' F d a b c w' f := by
  have hown := h.own
  obtain ⟨F', h1, h2, h3⟩ := h.tri
  have hsub : ∀ x, F' x → F x := fun x hx => (h2 x hx).elim id fun hh => absurd (h1.lt x hx) (by omega)
  have hne : ∀ x, F' x → x ≠ g := fun x hx e => hF (e ▸ hsub x hx)
  exact ⟨⟨F', Tri.keep Rb.firm Rc.firm Rx.firm h1 (fun x hx _ => gr.block x (h1.lt x hx) fun e => hne x hx (by injection e)) gr.size, fun x hx => .inl (hsub x hx), only_refl _ _⟩, h.blk.same (gr.block d h.blk.lt fun e => hF (by injection e with e; exact e ▸ hown))⟩
theorem RfT.end_ (ho : Only F w wY) (h : RfT wY F d a b c w' f') : Turned Rfd w ⟨d, 0, none⟩ F w' f' := by
  obtain ⟨F', h1, h2, h3⟩ := h.tri
  exact ⟨F', ⟨d, a, b, c, rfl, h.blk, h1⟩, fun g hg => (h2 g hg).imp id fun h => Nat.le_trans ho.size h, ho.trans h3 fun g hg => .inl hg⟩
/-- .. and a block besides is written. -/
theorem RfT.endw {g : Nat} (ho : Only F w wY) (h : RfT wY F d a b c w8 f') (gr : w8.grownBy w9 (some g)) (h1 : w.heap.size ≤ g) (h2 : g < wY.heap.size) (hF : ¬ F g) : Turned Rfd w ⟨d, 0, none⟩ F w9 f' := by
  obtain ⟨F', t1, t2, t3⟩ := h.tri
  have hg : ¬ F' g := fun hf => (t2 g hf).elim hF fun h => by omega
  have hd : d ≠ g := fun e => hg (e ▸ t1.own)
  refine ⟨F', ⟨d, a, b, c, rfl, h.blk.same (gr.block d h.blk.lt fun e => hd (by injection e)), Tri.keep Rb.firm Rc.firm Rx.firm t1 (fun x hx _ => gr.block x (t1.lt x hx) fun e => hg (by injection e with e; rw [← e]; exact hx)) gr.size⟩, fun x hx => (t2 x hx).imp id fun h => Nat.le_trans ho.size h, (ho.trans t3 fun x hx => .inl hx).trans (grown_only (F := fun x => x = g) gr rfl) fun x hx => .inr (hx ▸ h1)⟩
theorem rt_bmay (h : RfT w F d a b c w' f) (k : KeyT) (hk : k.Ok) :
    Calls Tryz.prog 45 #[.pointer (some a), .agg (kcs k).toArray] w' fun e w'' => e = .returned (.bool (mayF f k)) ∧ Below w'.heap.size w' w'' := by
  obtain ⟨F, hF⟩ := h.tri.get1
  exact rb_may hF k hk
theorem rt_cget (h : RfT w F d a b c w' f) (k : KeyT) (hk : k.Ok) :
    Calls Tryz.prog 46 #[.pointer (some b), .agg (kcs k).toArray] w' fun e w'' => e = .returned (.tuple #[pv (getC f.C k), .bool (knowsC f.C k)]) ∧ Below w'.heap.size w' w'' := by
  obtain ⟨F, d, A, c, ts, rfl, hR, ht, _⟩ := h.tri.get2
  have := rcget_any hR k hk
  rw [← ht] at this
  exact this
theorem rt_xshelf (h : RfT w F d a b c w' f) (hl : f.L.length ≤ 9000) (at_ : Int) (ha : In64 at_) :
    Calls Tryz.prog 26 #[.pointer (some c), .int .i64 at_] w' fun e w'' => ∃ A' c', e = .returned (.slice A' (shelfX f.L at_).length c') ∧ OwnG 42 35 rcs w'' w'.heap.size A' c' (shelfX f.L at_) ∧ (∀ y ∈ shelfX f.L at_, RowT.Ok y) ∧ Below w'.heap.size w' w'' := by
  obtain ⟨F, d, A, c, rfl, hR, _⟩ := h.tri.get3
  exact rshelf_own w' d A c f.L hR hl at_ ha
theorem rt_cload (h : RfT w F d a b c w' f) (hok : f.C.Ok) (sh : Int) (hs : In64 sh) (Al : Option Addr) (ls : List RowT) (n cl dr : Nat) (hd : dr < 18446744073709551616) (hl : ls.length = n) (hc : n ≤ cl) (hm : cl ≤ maxLen) (hn : n ≤ 1000) (hr : RdRw w' w'.heap.size Al ls)
    (hF : ∀ G : Nat → Prop, (∀ g, G g → F g ∨ w.heap.size ≤ g) → ∀ ad, Al = some ad → 0 < n → ¬ G ad.block) :
    Calls Tryz.prog 48 #[.pointer (some b), .int .i64 sh, .slice Al n cl, .int .u64 dr] w' fun e w'' => e = .returned (.tuple #[]) ∧ RfT w F d a b c w'' ⟨f.n, f.p, f.S, loadC f.C sh ls dr, f.L, f.asked, f.loads⟩ :=
  (h.tri.call2 Rb.firm Rc.firm Rx.firm fun G hG hGF => rcload_any b G f.C sh Al ls n cl dr w' hG hok hs hd hl hc hm hn hr (hF G fun g hg => (hGF g hg).2)).mono fun e w'' ⟨he, ht, hd⟩ => ⟨he, RfT.same ht h hd rfl rfl⟩
end
theorem getX_ok3 {L : List RowT} (h : RowsOk L) (k : KeyT) : In64 (getX L k).1 ∧ In64 (getX L k).2 := by
  cases hf : L.find? (fun r => decide (r.1 = k)) with
  | none => simp only [getX, hf]; exact ⟨in64_lit (by omega) (by omega), in64_lit (by omega) (by omega)⟩
  | some x =>
    simp only [getX, hf]
    exact h.place x (List.mem_of_find?_eq_some hf)
set_option maxHeartbeats 40000000 in
theorem rffind_any (s : Addr) (F : Nat → Prop) (f : FS) (k : KeyT) (dr : Nat) (w : World) (h : Rfd w s F f) (hok : f.Ok) (hl : f.L.length ≤ 900) (has : f.asked ≤ 100000) (hlo : f.loads ≤ 100000) (hk : k.Ok) (hdr : dr < 18446744073709551616) :
    Calls Tryz.prog 13 #[.pointer (some s), kv k, .int .u64 dr] w fun e w' => e = .returned (.tuple #[pv (answerF f k).1, .bool (answerF f k).2]) ∧ Turned Rfd w s F w' (nextF f k dr) := by
  have hFl := Rfd.firm.lt h
  obtain ⟨d, a, b, c, rfl, hR⟩ := RfT.start h
  obtain ⟨X, hX⟩ : ∃ X, kcs k = X := ⟨_, rfl⟩
  have hXl : X.length = 33 := by rw [← hX]; exact kcs_length hk
  obtain ⟨w1, hw1⟩ : ∃ w1, w.alloc (.cells X.toArray 29) = w1 := ⟨_, rfl⟩
  obtain ⟨kb, hkb⟩ : ∃ kb, w.heap.size = kb := ⟨_, rfl⟩
  have hb1 : Below w.heap.size w w1 := hw1 ▸ (Below.refl _ _).alloc (Nat.le_refl _) _
  have hk1 : Blk w1 kb 29 X.toArray := by rw [← hw1, ← hkb]; exact Blk.new w _ _
  obtain ⟨w2, hw2⟩ : ∃ w2, w1.alloc (.cells #[.int .i64 0, .int .i64 0] 40) = w2 := ⟨_, rfl⟩
  obtain ⟨rb, hrb⟩ : ∃ rb, w1.heap.size = rb := ⟨_, rfl⟩
  have hb2 : Below w1.heap.size w1 w2 := hw2 ▸ (Below.refl _ _).alloc (Nat.le_refl _) _
  have hk2 : Blk w2 kb 29 X.toArray := hk1.below hb2 hk1.lt
  have hq2 : Blk w2 rb 40 #[.int .i64 0, .int .i64 0] := by rw [← hw2, ← hrb]; exact Blk.new w1 _ _
  have hb12 := hb1.trans (hb2.mono hb1.size)
  have h2 := hR.up hb12
  obtain ⟨m, hm⟩ : ∃ m, mayF f k = m := ⟨_, rfl⟩
  obtain ⟨⟨g1, g2⟩, hg⟩ : ∃ p, getC f.C k = p := ⟨_, rfl⟩
  obtain ⟨kn, hkn⟩ : ∃ r, knowsC f.C k = r := ⟨_, rfl⟩
  obtain ⟨⟨x1, x2⟩, hp⟩ : ∃ p, getX f.L k = p := ⟨_, rfl⟩
  obtain ⟨rx, hr⟩ : ∃ r, hasX f.L k = r := ⟨_, rfl⟩
  obtain ⟨na, hna⟩ : ∃ n, f.asked = n := ⟨_, rfl⟩
  obtain ⟨nl, hnl⟩ : ∃ n, f.loads = n := ⟨_, rfl⟩
  rw [hna] at has
  rw [hnl] at hlo
  have HAG := Lib.hid (show ∀ W, Below w2.heap.size w2 W → RfT W F d a b c W f from fun W hW => h2.up hW)
  have HBB := Lib.hid (And.intro hb12 (And.intro hFl (show w.heap.size ≤ rb ∧ rb < w2.heap.size from ⟨hrb ▸ hb1.size, hq2.lt⟩)))
  have KM := Lib.hid (show ∀ W, Below w2.heap.size w2 W → Calls Tryz.prog 45 #[.pointer (some a), .agg X.toArray] W (fun e w' => e = .returned (.bool m) ∧ Below W.heap.size W w') from fun W hW => by
    have := rt_bmay (HAG.out W hW) k hk
    rw [hX, hm] at this
    exact this)
  have KC := Lib.hid (show ∀ W, Below w2.heap.size w2 W → Calls Tryz.prog 46 #[.pointer (some b), .agg X.toArray] W (fun e w' => e = .returned (.tuple #[.agg #[.int .i64 g1, .int .i64 g2], .bool kn]) ∧ Below W.heap.size W w') from fun W hW => by
    have := rt_cget (HAG.out W hW) k hk
    rw [hX, hg, hkn] at this
    exact this)
  have KX := Lib.hid (show ∀ W f2, RfT W F d a b c W f2 → f2.L = f.L → Calls Tryz.prog 47 #[.pointer (some c), .agg X.toArray] W (fun e w' => e = .returned (.tuple #[.agg #[.int .i64 x1, .int .i64 x2], .bool rx]) ∧ Below W.heap.size W w') from fun W f2 hW e => by
    have := rt_xget hW (by rw [e]; omega) k hk
    rw [hX, e, hp, hr] at this
    exact this)
  have HXS := Lib.hid (show (Tryz.prog.info? 29).map (·.size) = some X.length from by rw [hXl]; exact key_size)
  obtain ⟨fk, hfk⟩ := key_desc
  obtain ⟨fp, hfp⟩ := place_desc
  have HF := Lib.hid (And.intro hfk hfp)
  have HW := Lib.hid (And.intro (And.intro hw1 hkb) (And.intro hw2 (show kb + 1 = rb by rw [← hkb, ← hrb, ← hw1]; simp)))
  have HN := Lib.hid (And.intro hna hnl)
  have HAN := Lib.hid (And.intro hm (And.intro hg (And.intro hkn (And.intro hp hr))))
  have HOK := Lib.hid (And.intro hok (And.intro hl hdr))
  have hzb := drew_below w2
  have HBZ := Lib.hid hzb
  have hbd := (HAG.out _ hzb).blk
  rw [hna, hnl] at hbd
  have HS := Lib.hid (show Blk w2.drew d 56 #[.pointer (some a), .pointer (some b), .pointer (some c), .int .i64 (na : Nat), .int .i64 (nl : Nat)] ∧ Blk w2.drew kb 29 X.toArray ∧ Blk w2.drew rb 40 #[.int .i64 0, .int .i64 0] from ⟨hbd, hk2.below hzb hk2.lt, hq2.below hzb hq2.lt⟩)
  have h64 := getX_ok3 hok.rows k
  rw [hp] at h64
  have H64 := Lib.hid h64
  unfold kv
  rw [hX]
  clear h hR h2 hX hXl hw1 hkb hb1 hk1 hw2 hrb hb2 hk2 hq2 hb12 hfk hfp hk hm hg hkn hp hr hna hnl hok hl hzb hbd hFl h64 hdr
  go_enter Tryz.func13, Tryz.ntmps13
  go_upto_region 1 with fail
  rw [HW.out.1.1, HW.out.1.2, HW.out.2.1, HW.out.2.2]
  refine wp_region_held_drew (S := fun W => Blk W d 56 #[.pointer (some a), .pointer (some b), .pointer (some c), .int .i64 (na : Nat), .int .i64 (nl : Nat)] ∧ Blk W kb 29 X.toArray ∧ Blk W rb 40 #[.int .i64 0, .int .i64 0]) (by kernel_rfl) HS.out (fun hHeld => ?_)
  clear hHeld
  generalize w2.drew = wz at *
  refine wpAnyH_take (i := 0) (oi := _) (v := .pointer (some ⟨d, 0, none⟩)) rfl (by kernel_rfl) (by kernel_rfl) (by kernel_rfl) (fun _ _ _ h => h) (Or.inl ⟨by rfl, by intro w hSw; go_simp⟩) HS.out ?_
  simp only [List.getElem_toArray, List.getElem_cons_zero, List.getElem_cons_succ, Act.put, List.setIfInBounds_toArray, List.set_cons_zero, List.set_cons_succ]
  refine wpAnyH_take (i := 1) (oi := _) (v := .pointer (some ⟨d, 0, none⟩)) rfl (by kernel_rfl) (by kernel_rfl) (by kernel_rfl) (fun _ _ _ h => h) (Or.inl ⟨by rfl, by intro w hSw; go_simp⟩) HS.out ?_
  simp only [List.getElem_toArray, List.getElem_cons_zero, List.getElem_cons_succ, Act.put, List.setIfInBounds_toArray, List.set_cons_zero, List.set_cons_succ]
  refine wpAnyH_take (i := 2) (oi := _) (v := .pointer (some ⟨d, 0, none⟩)) rfl (by kernel_rfl) (by kernel_rfl) (by kernel_rfl) (fun _ _ _ h => h) (Or.inl ⟨by rfl, by intro w hSw; go_simp⟩) HS.out ?_
  simp only [List.getElem_toArray, List.getElem_cons_zero, List.getElem_cons_succ, Act.put, List.setIfInBounds_toArray, List.set_cons_zero, List.set_cons_succ]
  refine wpAnyH_take (i := 3) (oi := _) (v := .pointer (some a)) rfl (by kernel_rfl) (by kernel_rfl) (by kernel_rfl) (fun _ _ _ h => h) (Or.inl ⟨by rfl, by intro w hSw; have hcc : w.cell? ⟨d, 0, none⟩ = some (.pointer (some a)) := (hSw.1).cell 0; go_simp⟩) HS.out ?_
  simp only [List.getElem_toArray, List.getElem_cons_zero, List.getElem_cons_succ, Act.put, List.setIfInBounds_toArray, List.set_cons_zero, List.set_cons_succ]
  refine wpAnyH_take (i := 4) (oi := _) (v := .agg X.toArray) rfl (by kernel_rfl) (by kernel_rfl) (by kernel_rfl) (fun _ _ _ h => h) (yields_mid (by rfl) 29 (.tmp 4) rfl kb 0 rfl X (.struct fk) (fun W hW => range_of_blk (hW.2.1)) HF.out.1 rfl HXS.out) HS.out ?_
  simp only [List.getElem_toArray, List.getElem_cons_zero, List.getElem_cons_succ, Act.put, List.setIfInBounds_toArray, List.set_cons_zero, List.set_cons_succ]
  refine wpAnyH_ready (rs := [5]) (by kernel_rfl) (by simp) ?_
  refine AllReadyH.cons rfl (fun K hK => ?_) AllReadyH.nil
  go_simp
  (with_reducible refine (KM.out _ HBZ.out).mono ?_)
  rintro e w3 ⟨rfl, hb3⟩
  have hs3 : Blk w3 d 56 #[.pointer (some a), .pointer (some b), .pointer (some c), .int .i64 (na : Nat), .int .i64 (nl : Nat)] ∧ Blk w3 kb 29 X.toArray ∧ Blk w3 rb 40 #[.int .i64 0, .int .i64 0] := ⟨(HS.out.1).below hb3 (HS.out.1).lt, (HS.out.2.1).below hb3 (HS.out.2.1).lt, (HS.out.2.2).below hb3 (HS.out.2.2).lt⟩
  have hw3b := HBZ.out.trans (hb3.mono HBZ.out.size)
  clear hb3
  go_wp2_with fail
  refine hK.out _ _ hs3 (fun _ => ?_)
  clear hK K
  try simp only [List.getElem_toArray, List.getElem_cons_zero, List.getElem_cons_succ, Act.put, List.setIfInBounds_toArray, List.set_cons_zero, List.set_cons_succ]
  refine wpAnyH_take (i := 6) (oi := _) (v := .bool (!m)) rfl (by kernel_rfl) (by kernel_rfl) (by kernel_rfl) (fun _ _ _ h => h) (Or.inl ⟨by rfl, by intro w hSw; go_simp⟩) hs3 ?_
  simp only [List.getElem_toArray, List.getElem_cons_zero, List.getElem_cons_succ, Act.put, List.setIfInBounds_toArray, List.set_cons_zero, List.set_cons_succ]
  refine wpAnyH_done (by kernel_rfl) ?_ _
  have HS1 := Lib.hid hs3
  have HB1 := Lib.hid hw3b
  clear hs3 hw3b HS HBZ KM
  cases m with
  | false =>
    have HQR := Lib.hid (HS1.out.2.2)
    have k0 : w3.cell? ⟨rb, 0, none⟩ = some (.int .i64 0) := HQR.out.cell 0
    have k1 : w3.cell? ⟨rb, 1, none⟩ = some (.int .i64 0) := HQR.out.cell 1
    have kf0 : w3.frozen? ⟨rb, 0, none⟩ = false := HQR.out.frozen 0
    have kf1 : w3.frozen? ⟨rb, 1, none⟩ = false := HQR.out.frozen 1
    go_wp2_with fail
    (try simp only [Exit.inBlock, Exit.then])
    have hfin : Blk ((w3.setCell ⟨rb, 0, none⟩ (.int .i64 0)).setCell ⟨rb, 1, none⟩ (.int .i64 0)) rb 40 #[.int .i64 0, .int .i64 0] := (HQR.out.set_ 0 (.int .i64 0)).set_ 1 (.int .i64 0)
    have hgw : w3.grownBy ((w3.setCell ⟨rb, 0, none⟩ (.int .i64 0)).setCell ⟨rb, 1, none⟩ (.int .i64 0)) (some rb) := grown_trans (grown_cell w3 _ 0 _) (grown_cell _ _ 1 _)
    refine bodyPost_ret (v := .tuple #[.agg #[.int .i64 0, .int .i64 0], .bool false]) ?_ rfl ⟨by unfold answerF foundF; rw [HAN.out.1, if_pos rfl], by rw [show nextF f k dr = f from by unfold nextF; rw [if_pos HAN.out.1]]; exact RfT.endw (Only.of_below (HBB.out.1.trans (HB1.out.mono HBB.out.1.size))) (HAG.out _ HB1.out) hgw HBB.out.2.2.1 (Nat.lt_of_lt_of_le HBB.out.2.2.2 HB1.out.size) fun hf => by have := HBB.out.2.1 _ hf; have := HBB.out.2.2.1; omega⟩
    exact res_row_tmpB rfl _ _ rb 40 _ (0, 0) _ rfl hfin HF.out.2 rfl place_size _ rfl
  | true =>
    have HZ3 := Lib.hid (drew_below w3)
    have HBZ := Lib.hid (HB1.out.trans (HZ3.out.mono HB1.out.size))
    have HS := Lib.hid (show Blk w3.drew d 56 #[.pointer (some a), .pointer (some b), .pointer (some c), .int .i64 (na : Nat), .int .i64 (nl : Nat)] ∧ Blk w3.drew kb 29 X.toArray ∧ Blk w3.drew rb 40 #[.int .i64 0, .int .i64 0] from ⟨(HS1.out.1).below HZ3.out (HS1.out.1).lt, (HS1.out.2.1).below HZ3.out (HS1.out.2.1).lt, (HS1.out.2.2).below HZ3.out (HS1.out.2.2).lt⟩)
    clear HZ3 HS1 HB1
    go_upto_region 3 with fail
    refine wp_region_held_drew (S := fun W => Blk W d 56 #[.pointer (some a), .pointer (some b), .pointer (some c), .int .i64 (na : Nat), .int .i64 (nl : Nat)] ∧ Blk W kb 29 X.toArray ∧ Blk W rb 40 #[.int .i64 0, .int .i64 0]) (by kernel_rfl) HS.out (fun hHeld => ?_)
    clear hHeld
    generalize w3.drew = wz3 at *
    refine wpAnyH_take (i := 0) (oi := _) (v := .pointer (some ⟨d, 0, none⟩)) rfl (by kernel_rfl) (by kernel_rfl) (by kernel_rfl) (fun _ _ _ h => h) (Or.inl ⟨by rfl, by intro w hSw; go_simp⟩) HS.out ?_
    simp only [List.getElem_toArray, List.getElem_cons_zero, List.getElem_cons_succ, Act.put, List.setIfInBounds_toArray, List.set_cons_zero, List.set_cons_succ]
    refine wpAnyH_take (i := 1) (oi := _) (v := .pointer (some ⟨d, 0, none⟩)) rfl (by kernel_rfl) (by kernel_rfl) (by kernel_rfl) (fun _ _ _ h => h) (Or.inl ⟨by rfl, by intro w hSw; go_simp⟩) HS.out ?_
    simp only [List.getElem_toArray, List.getElem_cons_zero, List.getElem_cons_succ, Act.put, List.setIfInBounds_toArray, List.set_cons_zero, List.set_cons_succ]
    refine wpAnyH_take (i := 2) (oi := _) (v := .pointer (some ⟨d, 1, none⟩)) rfl (by kernel_rfl) (by kernel_rfl) (by kernel_rfl) (fun _ _ _ h => h) (Or.inl ⟨by rfl, by intro w hSw; go_simp⟩) HS.out ?_
    simp only [List.getElem_toArray, List.getElem_cons_zero, List.getElem_cons_succ, Act.put, List.setIfInBounds_toArray, List.set_cons_zero, List.set_cons_succ]
    refine wpAnyH_take (i := 3) (oi := _) (v := .pointer (some b)) rfl (by kernel_rfl) (by kernel_rfl) (by kernel_rfl) (fun _ _ _ h => h) (Or.inl ⟨by rfl, by intro w hSw; have hcc : w.cell? ⟨d, 1, none⟩ = some (.pointer (some b)) := (hSw.1).cell 1; go_simp⟩) HS.out ?_
    simp only [List.getElem_toArray, List.getElem_cons_zero, List.getElem_cons_succ, Act.put, List.setIfInBounds_toArray, List.set_cons_zero, List.set_cons_succ]
    refine wpAnyH_take (i := 4) (oi := _) (v := .agg X.toArray) rfl (by kernel_rfl) (by kernel_rfl) (by kernel_rfl) (fun _ _ _ h => h) (yields_mid (by rfl) 29 (.tmp 4) rfl kb 0 rfl X (.struct fk) (fun W hW => range_of_blk (hW.2.1)) HF.out.1 rfl HXS.out) HS.out ?_
    simp only [List.getElem_toArray, List.getElem_cons_zero, List.getElem_cons_succ, Act.put, List.setIfInBounds_toArray, List.set_cons_zero, List.set_cons_succ]
    refine wpAnyH_ready (rs := [5, 9]) (by kernel_rfl) (by simp) ?_
    refine AllReadyH.cons rfl (fun K hK => ?_) (AllReadyH.cons rfl (fun K hK => ?_) AllReadyH.nil)
    · go_simp
      (with_reducible refine (KC.out _ HBZ.out).mono ?_)
      rintro e w2c ⟨rfl, hb2⟩
      have hs2 : Blk w2c d 56 #[.pointer (some a), .pointer (some b), .pointer (some c), .int .i64 (na : Nat), .int .i64 (nl : Nat)] ∧ Blk w2c kb 29 X.toArray ∧ Blk w2c rb 40 #[.int .i64 0, .int .i64 0] := ⟨(HS.out.1).below hb2 (HS.out.1).lt, (HS.out.2.1).below hb2 (HS.out.2.1).lt, (HS.out.2.2).below hb2 (HS.out.2.2).lt⟩
      have hw2b := HBZ.out.trans (hb2.mono HBZ.out.size)
      clear hb2
      go_wp2_with fail
      refine hK.out _ _ hs2 (fun _ => ?_)
      clear hK K
      try simp only [List.getElem_toArray, List.getElem_cons_zero, List.getElem_cons_succ, Act.put, List.setIfInBounds_toArray, List.set_cons_zero, List.set_cons_succ]
      refine wpAnyH_take (i := 6) (oi := _) (v := .tuple #[.agg #[.int .i64 g1, .int .i64 g2], .bool kn]) rfl (by kernel_rfl) (by kernel_rfl) (by kernel_rfl) (fun _ _ _ h => h) (Or.inl ⟨by rfl, by intro w hSw; go_simp⟩) hs2 ?_
      simp only [List.getElem_toArray, List.getElem_cons_zero, List.getElem_cons_succ, Act.put, List.setIfInBounds_toArray, List.set_cons_zero, List.set_cons_succ]
      refine wpAnyH_take (i := 7) (oi := _) (v := .agg #[.int .i64 g1, .int .i64 g2]) rfl (by kernel_rfl) (by kernel_rfl) (by kernel_rfl) (fun _ _ _ h => h) (Or.inl ⟨by rfl, by intro w hSw; go_simp⟩) hs2 ?_
      simp only [List.getElem_toArray, List.getElem_cons_zero, List.getElem_cons_succ, Act.put, List.setIfInBounds_toArray, List.set_cons_zero, List.set_cons_succ]
      refine wpAnyH_take (i := 8) (oi := _) (v := .bool kn) rfl (by kernel_rfl) (by kernel_rfl) (by kernel_rfl) (fun _ _ _ h => h) (Or.inl ⟨by rfl, by intro w hSw; go_simp⟩) hs2 ?_
      simp only [List.getElem_toArray, List.getElem_cons_zero, List.getElem_cons_succ, Act.put, List.setIfInBounds_toArray, List.set_cons_zero, List.set_cons_succ]
      refine wpAnyH_ready (rs := [9]) (by kernel_rfl) (by simp) ?_
      refine AllReadyH.cons rfl (fun K hK => ?_) AllReadyH.nil
      go_simp
      have hal : Below w2c.heap.size w2c (w2c.alloc (.cells #[.int .i64 0, .int .i64 0] 40)) := (Below.refl _ _).alloc (Nat.le_refl _) _
      refine hK.out _ _ ⟨(hs2.1).below hal (hs2.1).lt, (hs2.2.1).below hal (hs2.2.1).lt, (hs2.2.2).below hal (hs2.2.2).lt⟩ (fun _ => ?_)
      clear hK K
      try simp only [List.getElem_toArray, List.getElem_cons_zero, List.getElem_cons_succ, Act.put, List.setIfInBounds_toArray, List.set_cons_zero, List.set_cons_succ]
      refine wpAnyH_ready (rs := [10]) (by kernel_rfl) (by simp) ?_
      refine AllReadyH.cons rfl (fun K hK => ?_) AllReadyH.nil
      go_simp
      obtain ⟨w4, hw3⟩ : ∃ w3, w2c.alloc (.cells #[.int .i64 g1, .int .i64 g2] 40) = w3 := ⟨_, rfl⟩
      have hb3 : Below w2c.heap.size w2c w4 := hw3 ▸ (Below.refl _ _).alloc (Nat.le_refl _) _
      have hq : Blk w4 w2c.heap.size 40 #[.int .i64 g1, .int .i64 g2] := hw3 ▸ Blk.new w2c _ _
      rw [hw3]
      have hs3 : Blk w4 d 56 #[.pointer (some a), .pointer (some b), .pointer (some c), .int .i64 (na : Nat), .int .i64 (nl : Nat)] ∧ Blk w4 kb 29 X.toArray ∧ Blk w4 rb 40 #[.int .i64 0, .int .i64 0] := ⟨(hs2.1).below hb3 (hs2.1).lt, (hs2.2.1).below hb3 (hs2.2.1).lt, (hs2.2.2).below hb3 (hs2.2.2).lt⟩
      have hw3b := hw2b.trans (hb3.mono hw2b.size)
      have hpb := hw2b.size
      refine hK.out _ _ hs3 (fun _ => ?_)
      clear hK K
      try simp only [List.getElem_toArray, List.getElem_cons_zero, List.getElem_cons_succ, Act.put, List.setIfInBounds_toArray, List.set_cons_zero, List.set_cons_succ]
      refine wpAnyH_take (i := 11) (oi := _) (v := .bool kn) rfl (by kernel_rfl) (by kernel_rfl) (by kernel_rfl) (fun _ _ _ h => h) (Or.inl ⟨by rfl, by intro w hSw; go_simp⟩) hs3 ?_
      simp only [List.getElem_toArray, List.getElem_cons_zero, List.getElem_cons_succ, Act.put, List.setIfInBounds_toArray, List.set_cons_zero, List.set_cons_succ]
      refine wpAnyH_done (by kernel_rfl) ?_ _
      clear hs2 hb3 hw3 hal hw2b
      have HQ := Lib.hid hq
      have HS3 := Lib.hid hs3
      have HB3 := Lib.hid hw3b
      clear hq hs3 hw3b
      generalize w2c.heap.size = pb at *
      have HPB := Lib.hid hpb
      clear hpb
      have HRB := Lib.hid (show rb ≠ pb ∧ d ≠ pb ∧ kb ≠ pb from ⟨by have := HBB.out.2.2.2; have := HPB.out; omega, fun e => blk_other HS3.out.1 HQ.out (by decide) e, fun e => blk_other HS3.out.2.1 HQ.out (by decide) e⟩)
      cases kn with
      | true =>
        have HQR := Lib.hid (HS3.out.2.2)
        have k0 : w4.cell? ⟨rb, 0, none⟩ = some (.int .i64 0) := HQR.out.cell 0
        have k1 : w4.cell? ⟨rb, 1, none⟩ = some (.int .i64 0) := HQR.out.cell 1
        have kf0 : w4.frozen? ⟨rb, 0, none⟩ = false := HQR.out.frozen 0
        have kf1 : w4.frozen? ⟨rb, 1, none⟩ = false := HQR.out.frozen 1
        have HQP := Lib.hid (HQ.out)
        have y0 : w4.cell? ⟨pb, 0, none⟩ = some (.int .i64 g1) := HQP.out.cell 0
        have y1 : w4.cell? ⟨pb, 1, none⟩ = some (.int .i64 g2) := HQP.out.cell 1
        go_wp2_with fail
        (try simp only [Exit.inBlock, Exit.then])
        have hfin : Blk ((w4.setCell ⟨rb, 0, none⟩ (.int .i64 g1)).setCell ⟨rb, 1, none⟩ (.int .i64 g2)) rb 40 #[.int .i64 g1, .int .i64 g2] := (HQR.out.set_ 0 (.int .i64 g1)).set_ 1 (.int .i64 g2)
        have hgw : w4.grownBy ((w4.setCell ⟨rb, 0, none⟩ (.int .i64 g1)).setCell ⟨rb, 1, none⟩ (.int .i64 g2)) (some rb) := grown_trans (grown_cell w4 _ 0 _) (grown_cell _ _ 1 _)
        refine bodyPost_ret (v := .tuple #[.agg #[.int .i64 g1, .int .i64 g2], .bool true]) ?_ rfl ⟨by unfold answerF foundF; rw [HAN.out.1, if_neg (by simp), if_pos HAN.out.2.2.1, HAN.out.2.1], by rw [show nextF f k dr = f from by unfold nextF; rw [if_neg (by rw [HAN.out.1]; simp), if_pos HAN.out.2.2.1]]; exact RfT.endw (Only.of_below (HBB.out.1.trans (HB3.out.mono HBB.out.1.size))) (HAG.out _ HB3.out) hgw HBB.out.2.2.1 (Nat.lt_of_lt_of_le HBB.out.2.2.2 HB3.out.size) fun hf => by have := HBB.out.2.1 _ hf; have := HBB.out.2.2.1; omega⟩
        exact res_row_tmpB rfl _ _ rb 40 _ (0, 0) _ rfl hfin HF.out.2 rfl place_size _ rfl
      | false =>
        obtain ⟨na1, hna1⟩ : ∃ n, na + 1 = n := ⟨_, rfl⟩
        have ena : (na : Int) + 1 = (na1 : Int) := by omega
        have hna0 : (na : Int) ≤ 100000 := by omega
        have dc : w4.cell? ⟨d, 3, none⟩ = some (.int .i64 (na : Nat)) := HS3.out.1.cell 3
        have df : w4.frozen? ⟨d, 3, none⟩ = false := HS3.out.1.frozen 3
        go_upto_region 7 with fail
        try rw [ena]
        obtain ⟨w5, hw5⟩ : ∃ w5, w4.setCell ⟨d, 3, none⟩ (.int .i64 (na1 : Nat)) = w5 := ⟨_, rfl⟩
        rw [hw5]
        have hg5 : w4.grownBy w5 (some d) := hw5 ▸ grown_cell w4 d 3 _
        have hd5 : Blk w5 d 56 #[.pointer (some a), .pointer (some b), .pointer (some c), .int .i64 (na1 : Nat), .int .i64 (nl : Nat)] := by
          have := HS3.out.1.set_ 3 (.int .i64 (na1 : Nat))
          rw [hw5] at this
          simpa using this
        have hsm : ∀ g, g < w4.heap.size → g ≠ d → w5.heap[g]? = w4.heap[g]? := fun g hg hne => hg5.block g hg fun e => hne (by injection e)
        have hs5 : Blk w5 d 56 #[.pointer (some a), .pointer (some b), .pointer (some c), .int .i64 (na1 : Nat), .int .i64 (nl : Nat)] ∧ Blk w5 kb 29 X.toArray ∧ Blk w5 rb 40 #[.int .i64 0, .int .i64 0] := ⟨hd5, HS3.out.2.1.same (hsm kb HS3.out.2.1.lt fun e => blk_other HS3.out.1 HS3.out.2.1 (by decide) e.symm), HS3.out.2.2.same (hsm rb HS3.out.2.2.lt fun e => blk_other HS3.out.1 HS3.out.2.2 (by decide) e.symm)⟩
        have hq5 := HQ.out.same (hsm pb HQ.out.lt fun e => HRB.out.2.1 e.symm)
        have h5 : RfT w5 F d a b c w5 ⟨f.n, f.p, f.S, f.C, f.L, na1, nl⟩ := (HAG.out _ HB3.out).cost hd5 hg5
        have hdF : F d := (HAG.out _ HB3.out).own
        have ho5 : Only F w w5 := (Only.of_below (HBB.out.1.trans (HB3.out.mono HBB.out.1.size))).trans (grown_only hg5 hdF) fun g hg => .inl hg
        have hz5 := drew_below w5
        have HN1 := Lib.hid hna1
        have H5 := Lib.hid (h5.up hz5)
        have HO5 := Lib.hid (show Only F w w5.drew from ho5.trans (Only.of_below (F := F) hz5) fun g hg => .inl hg)
        have HS5 := Lib.hid (show Blk w5.drew d 56 #[.pointer (some a), .pointer (some b), .pointer (some c), .int .i64 (na1 : Nat), .int .i64 (nl : Nat)] ∧ Blk w5.drew kb 29 X.toArray ∧ Blk w5.drew rb 40 #[.int .i64 0, .int .i64 0] from ⟨(hs5.1).below hz5 (hs5.1).lt, (hs5.2.1).below hz5 (hs5.2.1).lt, (hs5.2.2).below hz5 (hs5.2.2).lt⟩)
        have HQ5 := Lib.hid (hq5.below hz5 hq5.lt)
        have HLT := Lib.hid (show w2.heap.size ≤ w5.drew.heap.size ∧ pb < w5.drew.heap.size from ⟨Nat.le_trans HB3.out.size hg5.size, hq5.lt⟩)
        have HDF := Lib.hid hdF
        clear hna1 ena hna0 dc df hw5 hg5 hd5 hsm hs5 h5 ho5 hz5 hdF HS3 HQ HB3 hq5
        refine wp_region_held_drew (S := fun W => Blk W d 56 #[.pointer (some a), .pointer (some b), .pointer (some c), .int .i64 (na1 : Nat), .int .i64 (nl : Nat)] ∧ Blk W kb 29 X.toArray ∧ Blk W rb 40 #[.int .i64 0, .int .i64 0]) (by kernel_rfl) HS5.out (fun hHeld => ?_)
        clear hHeld
        generalize w5.drew = wy at *
        refine wpAnyH_take (i := 0) (oi := _) (v := .pointer (some ⟨d, 0, none⟩)) rfl (by kernel_rfl) (by kernel_rfl) (by kernel_rfl) (fun _ _ _ h => h) (Or.inl ⟨by rfl, by intro w hSw; go_simp⟩) HS5.out ?_
        simp only [List.getElem_toArray, List.getElem_cons_zero, List.getElem_cons_succ, Act.put, List.setIfInBounds_toArray, List.set_cons_zero, List.set_cons_succ]
        refine wpAnyH_take (i := 1) (oi := _) (v := .pointer (some ⟨d, 0, none⟩)) rfl (by kernel_rfl) (by kernel_rfl) (by kernel_rfl) (fun _ _ _ h => h) (Or.inl ⟨by rfl, by intro w hSw; go_simp⟩) HS5.out ?_
        simp only [List.getElem_toArray, List.getElem_cons_zero, List.getElem_cons_succ, Act.put, List.setIfInBounds_toArray, List.set_cons_zero, List.set_cons_succ]
        refine wpAnyH_take (i := 2) (oi := _) (v := .pointer (some ⟨d, 2, none⟩)) rfl (by kernel_rfl) (by kernel_rfl) (by kernel_rfl) (fun _ _ _ h => h) (Or.inl ⟨by rfl, by intro w hSw; go_simp⟩) HS5.out ?_
        simp only [List.getElem_toArray, List.getElem_cons_zero, List.getElem_cons_succ, Act.put, List.setIfInBounds_toArray, List.set_cons_zero, List.set_cons_succ]
        refine wpAnyH_take (i := 3) (oi := _) (v := .pointer (some c)) rfl (by kernel_rfl) (by kernel_rfl) (by kernel_rfl) (fun _ _ _ h => h) (Or.inl ⟨by rfl, by intro w hSw; have hcc : w.cell? ⟨d, 2, none⟩ = some (.pointer (some c)) := (hSw.1).cell 2; go_simp⟩) HS5.out ?_
        simp only [List.getElem_toArray, List.getElem_cons_zero, List.getElem_cons_succ, Act.put, List.setIfInBounds_toArray, List.set_cons_zero, List.set_cons_succ]
        refine wpAnyH_take (i := 4) (oi := _) (v := .agg X.toArray) rfl (by kernel_rfl) (by kernel_rfl) (by kernel_rfl) (fun _ _ _ h => h) (yields_mid (by rfl) 29 (.tmp 4) rfl kb 0 rfl X (.struct fk) (fun W hW => range_of_blk (hW.2.1)) HF.out.1 rfl HXS.out) HS5.out ?_
        simp only [List.getElem_toArray, List.getElem_cons_zero, List.getElem_cons_succ, Act.put, List.setIfInBounds_toArray, List.set_cons_zero, List.set_cons_succ]
        refine wpAnyH_ready (rs := [5]) (by kernel_rfl) (by simp) ?_
        refine AllReadyH.cons rfl (fun K hK => ?_) AllReadyH.nil
        go_simp
        (with_reducible refine (KX.out _ _ H5.out rfl).mono ?_)
        rintro e w6 ⟨rfl, hb6⟩
        have hs6 : Blk w6 d 56 #[.pointer (some a), .pointer (some b), .pointer (some c), .int .i64 (na1 : Nat), .int .i64 (nl : Nat)] ∧ Blk w6 kb 29 X.toArray ∧ Blk w6 rb 40 #[.int .i64 0, .int .i64 0] := ⟨(HS5.out.1).below hb6 (HS5.out.1).lt, (HS5.out.2.1).below hb6 (HS5.out.2.1).lt, (HS5.out.2.2).below hb6 (HS5.out.2.2).lt⟩
        have hq6 := HQ5.out.below hb6 HQ5.out.lt
        have h6 := H5.out.up hb6
        have ho6 : Only F w w6 := HO5.out.trans (Only.of_below (F := F) hb6) fun g hg => .inl hg
        have hlt6 := hb6.size
        have y0 : w6.cell? ⟨pb, 0, none⟩ = some (.int .i64 g1) := hq6.cell 0
        have y1 : w6.cell? ⟨pb, 1, none⟩ = some (.int .i64 g2) := hq6.cell 1
        have yf0 : w6.frozen? ⟨pb, 0, none⟩ = false := hq6.frozen 0
        have yf1 : w6.frozen? ⟨pb, 1, none⟩ = false := hq6.frozen 1
        clear hb6
        go_wp2_with fail
        refine hK.out _ _ hs6 (fun _ => ?_)
        clear hK K
        try simp only [List.getElem_toArray, List.getElem_cons_zero, List.getElem_cons_succ, Act.put, List.setIfInBounds_toArray, List.set_cons_zero, List.set_cons_succ]
        refine wpAnyH_take (i := 6) (oi := _) (v := .tuple #[.agg #[.int .i64 x1, .int .i64 x2], .bool rx]) rfl (by kernel_rfl) (by kernel_rfl) (by kernel_rfl) (fun _ _ _ h => h) (Or.inl ⟨by rfl, by intro w hSw; go_simp⟩) hs6 ?_
        simp only [List.getElem_toArray, List.getElem_cons_zero, List.getElem_cons_succ, Act.put, List.setIfInBounds_toArray, List.set_cons_zero, List.set_cons_succ]
        refine wpAnyH_take (i := 7) (oi := _) (v := .agg #[.int .i64 x1, .int .i64 x2]) rfl (by kernel_rfl) (by kernel_rfl) (by kernel_rfl) (fun _ _ _ h => h) (Or.inl ⟨by rfl, by intro w hSw; go_simp⟩) hs6 ?_
        simp only [List.getElem_toArray, List.getElem_cons_zero, List.getElem_cons_succ, Act.put, List.setIfInBounds_toArray, List.set_cons_zero, List.set_cons_succ]
        refine wpAnyH_take (i := 8) (oi := _) (v := .bool rx) rfl (by kernel_rfl) (by kernel_rfl) (by kernel_rfl) (fun _ _ _ h => h) (Or.inl ⟨by rfl, by intro w hSw; go_simp⟩) hs6 ?_
        simp only [List.getElem_toArray, List.getElem_cons_zero, List.getElem_cons_succ, Act.put, List.setIfInBounds_toArray, List.set_cons_zero, List.set_cons_succ]
        refine wpAnyH_ready (rs := [9]) (by kernel_rfl) (by simp) ?_
        refine AllReadyH.cons rfl (fun K hK => ?_) AllReadyH.nil
        go_simp
        obtain ⟨w7, hw7⟩ : ∃ w7, (w6.setCell ⟨pb, 0, none⟩ (.int .i64 x1)).setCell ⟨pb, 1, none⟩ (.int .i64 x2) = w7 := ⟨_, rfl⟩
        have hq7 : Blk w7 pb 40 #[.int .i64 x1, .int .i64 x2] := hw7 ▸ (hq6.set_ 0 (.int .i64 x1)).set_ 1 (.int .i64 x2)
        have hgr : w6.grownBy w7 (some pb) := hw7 ▸ grown_trans (grown_cell w6 _ 0 _) (grown_cell _ _ 1 _)
        rw [hw7]
        have hs7 : Blk w7 d 56 #[.pointer (some a), .pointer (some b), .pointer (some c), .int .i64 (na1 : Nat), .int .i64 (nl : Nat)] ∧ Blk w7 kb 29 X.toArray ∧ Blk w7 rb 40 #[.int .i64 0, .int .i64 0] := ⟨((hs6.1).same (hgr.block _ (hs6.1).lt fun e => by injection e with e; exact absurd e HRB.out.2.1)), ((hs6.2.1).same (hgr.block _ (hs6.2.1).lt fun e => by injection e with e; exact absurd e HRB.out.2.2)), ((hs6.2.2).same (hgr.block _ (hs6.2.2).lt fun e => by injection e with e; exact absurd e HRB.out.1))⟩
        have h7 : RfT w7 F d a b c w7 ⟨f.n, f.p, f.S, f.C, f.L, na1, nl⟩ := h6.box hgr fun hf => by have := HBB.out.2.1 _ hf; have := HPB.out; have := HBB.out.1.size; omega
        have ho7 : Only F w w7 := ho6.trans (grown_only (F := fun g => g = pb) hgr rfl) fun g hg => .inr (by rw [hg]; have := HPB.out; have := HBB.out.1.size; omega)
        have hlt7 := Nat.le_trans hlt6 hgr.size
        refine hK.out _ _ hs7 (fun _ => ?_)
        clear hK K
        try simp only [List.getElem_toArray, List.getElem_cons_zero, List.getElem_cons_succ, Act.put, List.setIfInBounds_toArray, List.set_cons_zero, List.set_cons_succ]
        refine wpAnyH_take (i := 10) (oi := _) (v := .bool rx) rfl (by kernel_rfl) (by kernel_rfl) (by kernel_rfl) (fun _ _ _ h => h) (Or.inl ⟨by rfl, by intro w hSw; go_simp⟩) hs7 ?_
        simp only [List.getElem_toArray, List.getElem_cons_zero, List.getElem_cons_succ, Act.put, List.setIfInBounds_toArray, List.set_cons_zero, List.set_cons_succ]
        refine wpAnyH_done (by kernel_rfl) ?_ _
        have HS7 := Lib.hid hs7
        have HQ7 := Lib.hid hq7
        have H7 := Lib.hid h7
        have HO7 := Lib.hid ho7
        have HLT7 := Lib.hid (And.intro (Nat.le_trans HLT.out.1 hlt7) (Nat.lt_of_lt_of_le HLT.out.2 hlt7))
        clear hs6 hs7 hq6 hq7 h6 h7 ho6 ho7 hlt6 hlt7 y0 y1 yf0 yf1 hgr hw7 HS5 HQ5 H5 HO5 HLT
        cases rx with
        | false =>
          have HQR := Lib.hid (HS7.out.2.2)
          have k0 : w7.cell? ⟨rb, 0, none⟩ = some (.int .i64 0) := HQR.out.cell 0
          have k1 : w7.cell? ⟨rb, 1, none⟩ = some (.int .i64 0) := HQR.out.cell 1
          have kf0 : w7.frozen? ⟨rb, 0, none⟩ = false := HQR.out.frozen 0
          have kf1 : w7.frozen? ⟨rb, 1, none⟩ = false := HQR.out.frozen 1
          have HQP := Lib.hid (HQ7.out)
          have y0 : w7.cell? ⟨pb, 0, none⟩ = some (.int .i64 x1) := HQP.out.cell 0
          have y1 : w7.cell? ⟨pb, 1, none⟩ = some (.int .i64 x2) := HQP.out.cell 1
          go_wp2_with fail
          (try simp only [Exit.inBlock, Exit.then])
          have hfin : Blk ((w7.setCell ⟨rb, 0, none⟩ (.int .i64 x1)).setCell ⟨rb, 1, none⟩ (.int .i64 x2)) rb 40 #[.int .i64 x1, .int .i64 x2] := (HQR.out.set_ 0 (.int .i64 x1)).set_ 1 (.int .i64 x2)
          have hgw : w7.grownBy ((w7.setCell ⟨rb, 0, none⟩ (.int .i64 x1)).setCell ⟨rb, 1, none⟩ (.int .i64 x2)) (some rb) := grown_trans (grown_cell w7 _ 0 _) (grown_cell _ _ 1 _)
          refine bodyPost_ret (v := .tuple #[.agg #[.int .i64 x1, .int .i64 x2], .bool false]) ?_ rfl ⟨by unfold answerF foundF; rw [HAN.out.1, if_neg (by simp), if_neg (by rw [HAN.out.2.2.1]; simp), HAN.out.2.2.2.1, HAN.out.2.2.2.2], by rw [show nextF f k dr = ⟨f.n, f.p, f.S, f.C, f.L, na1, nl⟩ from by unfold nextF; rw [if_neg (by rw [HAN.out.1]; simp), if_neg (by rw [HAN.out.2.2.1]; simp), if_neg (by rw [HAN.out.2.2.2.2]; simp), ← HN1.out, ← HN.out.1, ← HN.out.2]]; exact RfT.endw HO7.out H7.out hgw HBB.out.2.2.1 (Nat.lt_of_lt_of_le HBB.out.2.2.2 HLT7.out.1) fun hf => by have := HBB.out.2.1 _ hf; have := HBB.out.2.2.1; omega⟩
          exact res_row_tmpB rfl _ _ rb 40 _ (0, 0) _ rfl hfin HF.out.2 rfl place_size _ rfl
        | true =>
          obtain ⟨nl1, hnl1⟩ : ∃ n, nl + 1 = n := ⟨_, rfl⟩
          have enl : (nl : Int) + 1 = (nl1 : Int) := by omega
          have hnl0 : (nl : Int) ≤ 100000 := by omega
          have dc : w7.cell? ⟨d, 4, none⟩ = some (.int .i64 (nl : Nat)) := HS7.out.1.cell 4
          have df : w7.frozen? ⟨d, 4, none⟩ = false := HS7.out.1.frozen 4
          go_upto_region 10 with fail
          try rw [enl]
          obtain ⟨w8, hw8⟩ : ∃ w8, w7.setCell ⟨d, 4, none⟩ (.int .i64 (nl1 : Nat)) = w8 := ⟨_, rfl⟩
          rw [hw8]
          have hg8 : w7.grownBy w8 (some d) := hw8 ▸ grown_cell w7 d 4 _
          have hd8 : Blk w8 d 56 #[.pointer (some a), .pointer (some b), .pointer (some c), .int .i64 (na1 : Nat), .int .i64 (nl1 : Nat)] := by
            have := HS7.out.1.set_ 4 (.int .i64 (nl1 : Nat))
            rw [hw8] at this
            simpa using this
          have hsm : ∀ g, g < w7.heap.size → g ≠ d → w8.heap[g]? = w7.heap[g]? := fun g hg hne => hg8.block g hg fun e => hne (by injection e)
          have hs8 : Blk w8 d 56 #[.pointer (some a), .pointer (some b), .pointer (some c), .int .i64 (na1 : Nat), .int .i64 (nl1 : Nat)] ∧ Blk w8 rb 40 #[.int .i64 0, .int .i64 0] ∧ Blk w8 pb 40 #[.int .i64 x1, .int .i64 x2] := ⟨hd8, HS7.out.2.2.same (hsm rb HS7.out.2.2.lt fun e => blk_other HS7.out.1 HS7.out.2.2 (by decide) e.symm), HQ7.out.same (hsm pb HQ7.out.lt fun e => HRB.out.2.1 e.symm)⟩
          have h8 : RfT w8 F d a b c w8 ⟨f.n, f.p, f.S, f.C, f.L, na1, nl1⟩ := H7.out.cost hd8 hg8
          have ho8 : Only F w w8 := HO7.out.trans (grown_only hg8 HDF.out) fun g hg => .inl hg
          have hz8 := drew_below w8
          have HN2 := Lib.hid hnl1
          have H8 := Lib.hid (h8.up hz8)
          have HO8 := Lib.hid (show Only F w w8.drew from ho8.trans (Only.of_below (F := F) hz8) fun g hg => .inl hg)
          have HS8 := Lib.hid (show Blk w8.drew d 56 #[.pointer (some a), .pointer (some b), .pointer (some c), .int .i64 (na1 : Nat), .int .i64 (nl1 : Nat)] ∧ Blk w8.drew rb 40 #[.int .i64 0, .int .i64 0] ∧ Blk w8.drew pb 40 #[.int .i64 x1, .int .i64 x2] from ⟨(hs8.1).below hz8 (hs8.1).lt, (hs8.2.1).below hz8 (hs8.2.1).lt, (hs8.2.2).below hz8 (hs8.2.2).lt⟩)
          have HLT8 := Lib.hid (show w2.heap.size ≤ w8.drew.heap.size ∧ pb < w8.drew.heap.size from ⟨Nat.le_trans HLT7.out.1 hg8.size, Nat.lt_of_lt_of_le HLT7.out.2 hg8.size⟩)
          clear hnl1 enl hnl0 dc df hw8 hg8 hd8 hsm hs8 h8 ho8 hz8 HS7 HQ7 H7 HO7 HLT7
          refine wp_region_held_drew (S := fun W => Blk W d 56 #[.pointer (some a), .pointer (some b), .pointer (some c), .int .i64 (na1 : Nat), .int .i64 (nl1 : Nat)] ∧ Blk W rb 40 #[.int .i64 0, .int .i64 0] ∧ Blk W pb 40 #[.int .i64 x1, .int .i64 x2]) (by kernel_rfl) HS8.out (fun hHeld => ?_)
          clear hHeld
          generalize w8.drew = wv at *
          refine wpAnyH_take (i := 0) (oi := _) (v := .pointer (some ⟨d, 0, none⟩)) rfl (by kernel_rfl) (by kernel_rfl) (by kernel_rfl) (fun _ _ _ h => h) (Or.inl ⟨by rfl, by intro w hSw; go_simp⟩) HS8.out ?_
          simp only [List.getElem_toArray, List.getElem_cons_zero, List.getElem_cons_succ, Act.put, List.setIfInBounds_toArray, List.set_cons_zero, List.set_cons_succ]
          refine wpAnyH_take (i := 1) (oi := _) (v := .pointer (some ⟨d, 0, none⟩)) rfl (by kernel_rfl) (by kernel_rfl) (by kernel_rfl) (fun _ _ _ h => h) (Or.inl ⟨by rfl, by intro w hSw; go_simp⟩) HS8.out ?_
          simp only [List.getElem_toArray, List.getElem_cons_zero, List.getElem_cons_succ, Act.put, List.setIfInBounds_toArray, List.set_cons_zero, List.set_cons_succ]
          refine wpAnyH_take (i := 2) (oi := _) (v := .pointer (some ⟨d, 1, none⟩)) rfl (by kernel_rfl) (by kernel_rfl) (by kernel_rfl) (fun _ _ _ h => h) (Or.inl ⟨by rfl, by intro w hSw; go_simp⟩) HS8.out ?_
          simp only [List.getElem_toArray, List.getElem_cons_zero, List.getElem_cons_succ, Act.put, List.setIfInBounds_toArray, List.set_cons_zero, List.set_cons_succ]
          refine wpAnyH_take (i := 3) (oi := _) (v := .pointer (some b)) rfl (by kernel_rfl) (by kernel_rfl) (by kernel_rfl) (fun _ _ _ h => h) (Or.inl ⟨by rfl, by intro w hSw; have hcc : w.cell? ⟨d, 1, none⟩ = some (.pointer (some b)) := (hSw.1).cell 1; go_simp⟩) HS8.out ?_
          simp only [List.getElem_toArray, List.getElem_cons_zero, List.getElem_cons_succ, Act.put, List.setIfInBounds_toArray, List.set_cons_zero, List.set_cons_succ]
          refine wpAnyH_take (i := 4) (oi := _) (v := .pointer (some ⟨pb, 0, none⟩)) rfl (by kernel_rfl) (by kernel_rfl) (by kernel_rfl) (fun _ _ _ h => h) (Or.inl ⟨by rfl, by intro w hSw; go_simp⟩) HS8.out ?_
          simp only [List.getElem_toArray, List.getElem_cons_zero, List.getElem_cons_succ, Act.put, List.setIfInBounds_toArray, List.set_cons_zero, List.set_cons_succ]
          refine wpAnyH_take (i := 5) (oi := _) (v := .int .i64 x1) rfl (by kernel_rfl) (by kernel_rfl) (by kernel_rfl) (fun _ _ _ h => h) (Or.inl ⟨by rfl, by intro w hSw; have hcc : w.cell? ⟨pb, 0, none⟩ = some (.int .i64 x1) := (hSw.2.2).cell 0; go_simp⟩) HS8.out ?_
          simp only [List.getElem_toArray, List.getElem_cons_zero, List.getElem_cons_succ, Act.put, List.setIfInBounds_toArray, List.set_cons_zero, List.set_cons_succ]
          refine wpAnyH_take (i := 6) (oi := _) (v := .pointer (some ⟨d, 0, none⟩)) rfl (by kernel_rfl) (by kernel_rfl) (by kernel_rfl) (fun _ _ _ h => h) (Or.inl ⟨by rfl, by intro w hSw; go_simp⟩) HS8.out ?_
          simp only [List.getElem_toArray, List.getElem_cons_zero, List.getElem_cons_succ, Act.put, List.setIfInBounds_toArray, List.set_cons_zero, List.set_cons_succ]
          refine wpAnyH_take (i := 7) (oi := _) (v := .pointer (some ⟨d, 0, none⟩)) rfl (by kernel_rfl) (by kernel_rfl) (by kernel_rfl) (fun _ _ _ h => h) (Or.inl ⟨by rfl, by intro w hSw; go_simp⟩) HS8.out ?_
          simp only [List.getElem_toArray, List.getElem_cons_zero, List.getElem_cons_succ, Act.put, List.setIfInBounds_toArray, List.set_cons_zero, List.set_cons_succ]
          refine wpAnyH_take (i := 8) (oi := _) (v := .pointer (some ⟨d, 2, none⟩)) rfl (by kernel_rfl) (by kernel_rfl) (by kernel_rfl) (fun _ _ _ h => h) (Or.inl ⟨by rfl, by intro w hSw; go_simp⟩) HS8.out ?_
          simp only [List.getElem_toArray, List.getElem_cons_zero, List.getElem_cons_succ, Act.put, List.setIfInBounds_toArray, List.set_cons_zero, List.set_cons_succ]
          refine wpAnyH_take (i := 9) (oi := _) (v := .pointer (some c)) rfl (by kernel_rfl) (by kernel_rfl) (by kernel_rfl) (fun _ _ _ h => h) (Or.inl ⟨by rfl, by intro w hSw; have hcc : w.cell? ⟨d, 2, none⟩ = some (.pointer (some c)) := (hSw.1).cell 2; go_simp⟩) HS8.out ?_
          simp only [List.getElem_toArray, List.getElem_cons_zero, List.getElem_cons_succ, Act.put, List.setIfInBounds_toArray, List.set_cons_zero, List.set_cons_succ]
          refine wpAnyH_take (i := 10) (oi := _) (v := .pointer (some ⟨pb, 0, none⟩)) rfl (by kernel_rfl) (by kernel_rfl) (by kernel_rfl) (fun _ _ _ h => h) (Or.inl ⟨by rfl, by intro w hSw; go_simp⟩) HS8.out ?_
          simp only [List.getElem_toArray, List.getElem_cons_zero, List.getElem_cons_succ, Act.put, List.setIfInBounds_toArray, List.set_cons_zero, List.set_cons_succ]
          refine wpAnyH_take (i := 11) (oi := _) (v := .int .i64 x1) rfl (by kernel_rfl) (by kernel_rfl) (by kernel_rfl) (fun _ _ _ h => h) (Or.inl ⟨by rfl, by intro w hSw; have hcc : w.cell? ⟨pb, 0, none⟩ = some (.int .i64 x1) := (hSw.2.2).cell 0; go_simp⟩) HS8.out ?_
          simp only [List.getElem_toArray, List.getElem_cons_zero, List.getElem_cons_succ, Act.put, List.setIfInBounds_toArray, List.set_cons_zero, List.set_cons_succ]
          refine wpAnyH_take (i := 13) (oi := _) (v := .int .u64 dr) rfl (by kernel_rfl) (by kernel_rfl) (by kernel_rfl) (fun _ _ _ h => h) (Or.inl ⟨by rfl, by intro w hSw; go_simp⟩) HS8.out ?_
          simp only [List.getElem_toArray, List.getElem_cons_zero, List.getElem_cons_succ, Act.put, List.setIfInBounds_toArray, List.set_cons_zero, List.set_cons_succ]
          have KS := Lib.hid (rt_xshelf H8.out (by have := HOK.out.2.1; show f.L.length ≤ 9000; omega) x1 H64.out.1)
          obtain ⟨ln, hln⟩ : ∃ n, (shelfX f.L x1).length = n := ⟨_, rfl⟩
          have HLN := Lib.hid hln
          simp only [hln] at KS
          clear hln
          refine wpAnyH_ready (rs := [12]) (by kernel_rfl) (by simp) ?_
          refine AllReadyH.cons rfl (fun K hK => ?_) AllReadyH.nil
          go_simp
          (with_reducible refine KS.out.mono ?_)
          rintro e w9 ⟨A9, c9, rfl, ho9, hro, hb9⟩
          have hs9 : Blk w9 d 56 #[.pointer (some a), .pointer (some b), .pointer (some c), .int .i64 (na1 : Nat), .int .i64 (nl1 : Nat)] ∧ Blk w9 rb 40 #[.int .i64 0, .int .i64 0] ∧ Blk w9 pb 40 #[.int .i64 x1, .int .i64 x2] := ⟨(HS8.out.1).below hb9 (HS8.out.1).lt, (HS8.out.2.1).below hb9 (HS8.out.2.1).lt, (HS8.out.2.2).below hb9 (HS8.out.2.2).lt⟩
          have h9 := H8.out.up hb9
          have hx9 : Only F w w9 := HO8.out.trans (Only.of_below (F := F) hb9) fun g hg => .inl hg
          have hcap := ho9.cap
          rw [HLN.out] at hcap
          have KL := Lib.hid (rt_cload h9 HOK.out.1.cache x1 H64.out.1 A9 (shelfX f.L x1) ln c9 dr HOK.out.2.2 HLN.out hcap.1 hcap.2 (by rw [← HLN.out]; exact Nat.le_trans (shelfX_length _ _) (by have := HOK.out.2.1; omega)) ⟨ho9.rd rowE hro, hro⟩ fun G hG ad e h0 hf => by
            have a1 := (ho9.adr ad e).1
            have a2 := (ho9.adr ad e).2
            rcases hG _ hf with h | h
            · have := HBB.out.2.1 _ h; have := HBB.out.1.size; have := HLT8.out.1; omega
            · omega)
          have HX9 := Lib.hid (And.intro hx9 (Nat.le_trans HLT8.out.1 hb9.size))
          clear ho9 hro hb9 hcap h9 hx9 KS
          go_wp2_with fail
          refine hK.out _ _ hs9 (fun _ => ?_)
          clear hK K
          try simp only [List.getElem_toArray, List.getElem_cons_zero, List.getElem_cons_succ, Act.put, List.setIfInBounds_toArray, List.set_cons_zero, List.set_cons_succ]
          refine wpAnyH_ready (rs := [14]) (by kernel_rfl) (by simp) ?_
          refine AllReadyH.cons rfl (fun K hK => ?_) AllReadyH.nil
          go_simp
          (with_reducible refine KL.out.mono ?_)
          rintro e w10 ⟨rfl, h10⟩
          have hs10 : Blk w10 d 56 #[.pointer (some a), .pointer (some b), .pointer (some c), .int .i64 (na1 : Nat), .int .i64 (nl1 : Nat)] ∧ Blk w10 rb 40 #[.int .i64 0, .int .i64 0] ∧ Blk w10 pb 40 #[.int .i64 x1, .int .i64 x2] := ⟨h10.blk, h10.old hs9.2.1 fun hf => by have := HBB.out.2.1 _ hf; have := HBB.out.2.2.1; omega, h10.old hs9.2.2 fun hf => by have := HBB.out.2.1 _ hf; have := HPB.out; have := HBB.out.1.size; omega⟩
          have H10 := Lib.hid h10
          clear h10 KL hs9
          go_wp2_with fail
          refine hK.out _ _ hs10 (fun _ => ?_)
          clear hK K
          try simp only [List.getElem_toArray, List.getElem_cons_zero, List.getElem_cons_succ, Act.put, List.setIfInBounds_toArray, List.set_cons_zero, List.set_cons_succ]
          refine wpAnyH_done (by kernel_rfl) ?_ _
          have HS10 := Lib.hid hs10
          clear hs10
          have HQR := Lib.hid (HS10.out.2.1)
          have k0 : w10.cell? ⟨rb, 0, none⟩ = some (.int .i64 0) := HQR.out.cell 0
          have k1 : w10.cell? ⟨rb, 1, none⟩ = some (.int .i64 0) := HQR.out.cell 1
          have kf0 : w10.frozen? ⟨rb, 0, none⟩ = false := HQR.out.frozen 0
          have kf1 : w10.frozen? ⟨rb, 1, none⟩ = false := HQR.out.frozen 1
          have HQP := Lib.hid (HS10.out.2.2)
          have y0 : w10.cell? ⟨pb, 0, none⟩ = some (.int .i64 x1) := HQP.out.cell 0
          have y1 : w10.cell? ⟨pb, 1, none⟩ = some (.int .i64 x2) := HQP.out.cell 1
          go_wp2_with fail
          (try simp only [Exit.inBlock, Exit.then])
          have hfin : Blk ((w10.setCell ⟨rb, 0, none⟩ (.int .i64 x1)).setCell ⟨rb, 1, none⟩ (.int .i64 x2)) rb 40 #[.int .i64 x1, .int .i64 x2] := (HQR.out.set_ 0 (.int .i64 x1)).set_ 1 (.int .i64 x2)
          have hgw : w10.grownBy ((w10.setCell ⟨rb, 0, none⟩ (.int .i64 x1)).setCell ⟨rb, 1, none⟩ (.int .i64 x2)) (some rb) := grown_trans (grown_cell w10 _ 0 _) (grown_cell _ _ 1 _)
          refine bodyPost_ret (v := .tuple #[.agg #[.int .i64 x1, .int .i64 x2], .bool true]) ?_ rfl ⟨by unfold answerF foundF; rw [HAN.out.1, if_neg (by simp), if_neg (by rw [HAN.out.2.2.1]; simp), HAN.out.2.2.2.1, HAN.out.2.2.2.2], by rw [show nextF f k dr = ⟨f.n, f.p, f.S, loadC f.C x1 (shelfX f.L x1) dr, f.L, na1, nl1⟩ from by unfold nextF; rw [if_neg (by rw [HAN.out.1]; simp), if_neg (by rw [HAN.out.2.2.1]; simp), if_pos HAN.out.2.2.2.2, HAN.out.2.2.2.1, ← HN1.out, ← HN2.out, ← HN.out.1, ← HN.out.2]]; exact RfT.endw HX9.out.1 H10.out hgw HBB.out.2.2.1 (Nat.lt_of_lt_of_le HBB.out.2.2.2 HX9.out.2) fun hf => by have := HBB.out.2.1 _ hf; have := HBB.out.2.2.1; omega⟩
          exact res_row_tmpB rfl _ _ rb 40 _ (0, 0) _ rfl hfin HF.out.2 rfl place_size _ rfl
    · go_simp
      obtain ⟨wA, hwA⟩ : ∃ wA, wz3.alloc (.cells #[.int .i64 0, .int .i64 0] 40) = wA := ⟨_, rfl⟩
      have hal : Below wz3.heap.size wz3 wA := hwA ▸ (Below.refl _ _).alloc (Nat.le_refl _) _
      have hqA : Blk wA wz3.heap.size 40 #[.int .i64 0, .int .i64 0] := hwA ▸ Blk.new wz3 _ _
      rw [hwA]
      have hsA : Blk wA d 56 #[.pointer (some a), .pointer (some b), .pointer (some c), .int .i64 (na : Nat), .int .i64 (nl : Nat)] ∧ Blk wA kb 29 X.toArray ∧ Blk wA rb 40 #[.int .i64 0, .int .i64 0] := ⟨(HS.out.1).below hal (HS.out.1).lt, (HS.out.2.1).below hal (HS.out.2.1).lt, (HS.out.2.2).below hal (HS.out.2.2).lt⟩
      have hwAb := HBZ.out.trans (hal.mono HBZ.out.size)
      clear hwA
      refine hK.out _ _ hsA (fun _ => ?_)
      clear hK K
      try simp only [List.getElem_toArray, List.getElem_cons_zero, List.getElem_cons_succ, Act.put, List.setIfInBounds_toArray, List.set_cons_zero, List.set_cons_succ]
      refine wpAnyH_ready (rs := [5]) (by kernel_rfl) (by simp) ?_
      refine AllReadyH.cons rfl (fun K hK => ?_) AllReadyH.nil
      go_simp
      (with_reducible refine (KC.out _ hwAb).mono ?_)
      rintro e w2c ⟨rfl, hb2⟩
      have hs2 : Blk w2c d 56 #[.pointer (some a), .pointer (some b), .pointer (some c), .int .i64 (na : Nat), .int .i64 (nl : Nat)] ∧ Blk w2c kb 29 X.toArray ∧ Blk w2c rb 40 #[.int .i64 0, .int .i64 0] := ⟨(hsA.1).below hb2 (hsA.1).lt, (hsA.2.1).below hb2 (hsA.2.1).lt, (hsA.2.2).below hb2 (hsA.2.2).lt⟩
      have hw2b := hwAb.trans (hb2.mono hwAb.size)
      have hq2 := hqA.below hb2 hqA.lt
      have hpb := HBZ.out.size
      have c0 : w2c.cell? ⟨wz3.heap.size, 0, none⟩ = some (.int .i64 0) := hq2.cell 0
      have c1 : w2c.cell? ⟨wz3.heap.size, 1, none⟩ = some (.int .i64 0) := hq2.cell 1
      have f0 : w2c.frozen? ⟨wz3.heap.size, 0, none⟩ = false := hq2.frozen 0
      have f1 : w2c.frozen? ⟨wz3.heap.size, 1, none⟩ = false := hq2.frozen 1
      clear hb2
      go_wp2_with fail
      refine hK.out _ _ hs2 (fun _ => ?_)
      clear hK K
      try simp only [List.getElem_toArray, List.getElem_cons_zero, List.getElem_cons_succ, Act.put, List.setIfInBounds_toArray, List.set_cons_zero, List.set_cons_succ]
      refine wpAnyH_take (i := 6) (oi := _) (v := .tuple #[.agg #[.int .i64 g1, .int .i64 g2], .bool kn]) rfl (by kernel_rfl) (by kernel_rfl) (by kernel_rfl) (fun _ _ _ h => h) (Or.inl ⟨by rfl, by intro w hSw; go_simp⟩) hs2 ?_
      simp only [List.getElem_toArray, List.getElem_cons_zero, List.getElem_cons_succ, Act.put, List.setIfInBounds_toArray, List.set_cons_zero, List.set_cons_succ]
      refine wpAnyH_take (i := 7) (oi := _) (v := .agg #[.int .i64 g1, .int .i64 g2]) rfl (by kernel_rfl) (by kernel_rfl) (by kernel_rfl) (fun _ _ _ h => h) (Or.inl ⟨by rfl, by intro w hSw; go_simp⟩) hs2 ?_
      simp only [List.getElem_toArray, List.getElem_cons_zero, List.getElem_cons_succ, Act.put, List.setIfInBounds_toArray, List.set_cons_zero, List.set_cons_succ]
      refine wpAnyH_take (i := 8) (oi := _) (v := .bool kn) rfl (by kernel_rfl) (by kernel_rfl) (by kernel_rfl) (fun _ _ _ h => h) (Or.inl ⟨by rfl, by intro w hSw; go_simp⟩) hs2 ?_
      simp only [List.getElem_toArray, List.getElem_cons_zero, List.getElem_cons_succ, Act.put, List.setIfInBounds_toArray, List.set_cons_zero, List.set_cons_succ]
      refine wpAnyH_ready (rs := [10]) (by kernel_rfl) (by simp) ?_
      refine AllReadyH.cons rfl (fun K hK => ?_) AllReadyH.nil
      go_simp
      obtain ⟨w4, hw3⟩ : ∃ w3, (w2c.setCell ⟨wz3.heap.size, 0, none⟩ (.int .i64 g1)).setCell ⟨wz3.heap.size, 1, none⟩ (.int .i64 g2) = w3 := ⟨_, rfl⟩
      have hq : Blk w4 wz3.heap.size 40 #[.int .i64 g1, .int .i64 g2] := hw3 ▸ (hq2.set_ 0 (.int .i64 g1)).set_ 1 (.int .i64 g2)
      have hgr : w2c.grownBy w4 (some wz3.heap.size) := hw3 ▸ grown_trans (grown_cell w2c _ 0 _) (grown_cell _ _ 1 _)
      rw [hw3]
      have hs3 : Blk w4 d 56 #[.pointer (some a), .pointer (some b), .pointer (some c), .int .i64 (na : Nat), .int .i64 (nl : Nat)] ∧ Blk w4 kb 29 X.toArray ∧ Blk w4 rb 40 #[.int .i64 0, .int .i64 0] := ⟨((hs2.1).same (hgr.block _ (hs2.1).lt fun e => by injection e with e; have := (HS.out.1).lt; omega)), ((hs2.2.1).same (hgr.block _ (hs2.2.1).lt fun e => by injection e with e; have := (HS.out.2.1).lt; omega)), ((hs2.2.2).same (hgr.block _ (hs2.2.2).lt fun e => by injection e with e; have := (HS.out.2.2).lt; omega))⟩
      have hw3b := hw2b.grown hgr hw2b.size fun r hr => by injection hr with hr; omega
      refine hK.out _ _ hs3 (fun _ => ?_)
      clear hK K
      try simp only [List.getElem_toArray, List.getElem_cons_zero, List.getElem_cons_succ, Act.put, List.setIfInBounds_toArray, List.set_cons_zero, List.set_cons_succ]
      refine wpAnyH_take (i := 11) (oi := _) (v := .bool kn) rfl (by kernel_rfl) (by kernel_rfl) (by kernel_rfl) (fun _ _ _ h => h) (Or.inl ⟨by rfl, by intro w hSw; go_simp⟩) hs3 ?_
      simp only [List.getElem_toArray, List.getElem_cons_zero, List.getElem_cons_succ, Act.put, List.setIfInBounds_toArray, List.set_cons_zero, List.set_cons_succ]
      refine wpAnyH_done (by kernel_rfl) ?_ _
      clear hs2 hw3 hal hw2b hgr hq2 c0 c1 f0 f1 hqA hsA hwAb
      have HQ := Lib.hid hq
      have HS3 := Lib.hid hs3
      have HB3 := Lib.hid hw3b
      clear hq hs3 hw3b
      clear HS HBZ
      generalize wz3.heap.size = pb at *
      have HPB := Lib.hid hpb
      clear hpb
      have HRB := Lib.hid (show rb ≠ pb ∧ d ≠ pb ∧ kb ≠ pb from ⟨by have := HBB.out.2.2.2; have := HPB.out; omega, fun e => blk_other HS3.out.1 HQ.out (by decide) e, fun e => blk_other HS3.out.2.1 HQ.out (by decide) e⟩)
      cases kn with
      | true =>
        have HQR := Lib.hid (HS3.out.2.2)
        have k0 : w4.cell? ⟨rb, 0, none⟩ = some (.int .i64 0) := HQR.out.cell 0
        have k1 : w4.cell? ⟨rb, 1, none⟩ = some (.int .i64 0) := HQR.out.cell 1
        have kf0 : w4.frozen? ⟨rb, 0, none⟩ = false := HQR.out.frozen 0
        have kf1 : w4.frozen? ⟨rb, 1, none⟩ = false := HQR.out.frozen 1
        have HQP := Lib.hid (HQ.out)
        have y0 : w4.cell? ⟨pb, 0, none⟩ = some (.int .i64 g1) := HQP.out.cell 0
        have y1 : w4.cell? ⟨pb, 1, none⟩ = some (.int .i64 g2) := HQP.out.cell 1
        go_wp2_with fail
        (try simp only [Exit.inBlock, Exit.then])
        have hfin : Blk ((w4.setCell ⟨rb, 0, none⟩ (.int .i64 g1)).setCell ⟨rb, 1, none⟩ (.int .i64 g2)) rb 40 #[.int .i64 g1, .int .i64 g2] := (HQR.out.set_ 0 (.int .i64 g1)).set_ 1 (.int .i64 g2)
        have hgw : w4.grownBy ((w4.setCell ⟨rb, 0, none⟩ (.int .i64 g1)).setCell ⟨rb, 1, none⟩ (.int .i64 g2)) (some rb) := grown_trans (grown_cell w4 _ 0 _) (grown_cell _ _ 1 _)
        refine bodyPost_ret (v := .tuple #[.agg #[.int .i64 g1, .int .i64 g2], .bool true]) ?_ rfl ⟨by unfold answerF foundF; rw [HAN.out.1, if_neg (by simp), if_pos HAN.out.2.2.1, HAN.out.2.1], by rw [show nextF f k dr = f from by unfold nextF; rw [if_neg (by rw [HAN.out.1]; simp), if_pos HAN.out.2.2.1]]; exact RfT.endw (Only.of_below (HBB.out.1.trans (HB3.out.mono HBB.out.1.size))) (HAG.out _ HB3.out) hgw HBB.out.2.2.1 (Nat.lt_of_lt_of_le HBB.out.2.2.2 HB3.out.size) fun hf => by have := HBB.out.2.1 _ hf; have := HBB.out.2.2.1; omega⟩
        exact res_row_tmpB rfl _ _ rb 40 _ (0, 0) _ rfl hfin HF.out.2 rfl place_size _ rfl
      | false =>
        obtain ⟨na1, hna1⟩ : ∃ n, na + 1 = n := ⟨_, rfl⟩
        have ena : (na : Int) + 1 = (na1 : Int) := by omega
        have hna0 : (na : Int) ≤ 100000 := by omega
        have dc : w4.cell? ⟨d, 3, none⟩ = some (.int .i64 (na : Nat)) := HS3.out.1.cell 3
        have df : w4.frozen? ⟨d, 3, none⟩ = false := HS3.out.1.frozen 3
        go_upto_region 7 with fail
        try rw [ena]
        obtain ⟨w5, hw5⟩ : ∃ w5, w4.setCell ⟨d, 3, none⟩ (.int .i64 (na1 : Nat)) = w5 := ⟨_, rfl⟩
        rw [hw5]
        have hg5 : w4.grownBy w5 (some d) := hw5 ▸ grown_cell w4 d 3 _
        have hd5 : Blk w5 d 56 #[.pointer (some a), .pointer (some b), .pointer (some c), .int .i64 (na1 : Nat), .int .i64 (nl : Nat)] := by
          have := HS3.out.1.set_ 3 (.int .i64 (na1 : Nat))
          rw [hw5] at this
          simpa using this
        have hsm : ∀ g, g < w4.heap.size → g ≠ d → w5.heap[g]? = w4.heap[g]? := fun g hg hne => hg5.block g hg fun e => hne (by injection e)
        have hs5 : Blk w5 d 56 #[.pointer (some a), .pointer (some b), .pointer (some c), .int .i64 (na1 : Nat), .int .i64 (nl : Nat)] ∧ Blk w5 kb 29 X.toArray ∧ Blk w5 rb 40 #[.int .i64 0, .int .i64 0] := ⟨hd5, HS3.out.2.1.same (hsm kb HS3.out.2.1.lt fun e => blk_other HS3.out.1 HS3.out.2.1 (by decide) e.symm), HS3.out.2.2.same (hsm rb HS3.out.2.2.lt fun e => blk_other HS3.out.1 HS3.out.2.2 (by decide) e.symm)⟩
        have hq5 := HQ.out.same (hsm pb HQ.out.lt fun e => HRB.out.2.1 e.symm)
        have h5 : RfT w5 F d a b c w5 ⟨f.n, f.p, f.S, f.C, f.L, na1, nl⟩ := (HAG.out _ HB3.out).cost hd5 hg5
        have hdF : F d := (HAG.out _ HB3.out).own
        have ho5 : Only F w w5 := (Only.of_below (HBB.out.1.trans (HB3.out.mono HBB.out.1.size))).trans (grown_only hg5 hdF) fun g hg => .inl hg
        have hz5 := drew_below w5
        have HN1 := Lib.hid hna1
        have H5 := Lib.hid (h5.up hz5)
        have HO5 := Lib.hid (show Only F w w5.drew from ho5.trans (Only.of_below (F := F) hz5) fun g hg => .inl hg)
        have HS5 := Lib.hid (show Blk w5.drew d 56 #[.pointer (some a), .pointer (some b), .pointer (some c), .int .i64 (na1 : Nat), .int .i64 (nl : Nat)] ∧ Blk w5.drew kb 29 X.toArray ∧ Blk w5.drew rb 40 #[.int .i64 0, .int .i64 0] from ⟨(hs5.1).below hz5 (hs5.1).lt, (hs5.2.1).below hz5 (hs5.2.1).lt, (hs5.2.2).below hz5 (hs5.2.2).lt⟩)
        have HQ5 := Lib.hid (hq5.below hz5 hq5.lt)
        have HLT := Lib.hid (show w2.heap.size ≤ w5.drew.heap.size ∧ pb < w5.drew.heap.size from ⟨Nat.le_trans HB3.out.size hg5.size, hq5.lt⟩)
        have HDF := Lib.hid hdF
        clear hna1 ena hna0 dc df hw5 hg5 hd5 hsm hs5 h5 ho5 hz5 hdF HS3 HQ HB3 hq5
        refine wp_region_held_drew (S := fun W => Blk W d 56 #[.pointer (some a), .pointer (some b), .pointer (some c), .int .i64 (na1 : Nat), .int .i64 (nl : Nat)] ∧ Blk W kb 29 X.toArray ∧ Blk W rb 40 #[.int .i64 0, .int .i64 0]) (by kernel_rfl) HS5.out (fun hHeld => ?_)
        clear hHeld
        generalize w5.drew = wy at *
        refine wpAnyH_take (i := 0) (oi := _) (v := .pointer (some ⟨d, 0, none⟩)) rfl (by kernel_rfl) (by kernel_rfl) (by kernel_rfl) (fun _ _ _ h => h) (Or.inl ⟨by rfl, by intro w hSw; go_simp⟩) HS5.out ?_
        simp only [List.getElem_toArray, List.getElem_cons_zero, List.getElem_cons_succ, Act.put, List.setIfInBounds_toArray, List.set_cons_zero, List.set_cons_succ]
        refine wpAnyH_take (i := 1) (oi := _) (v := .pointer (some ⟨d, 0, none⟩)) rfl (by kernel_rfl) (by kernel_rfl) (by kernel_rfl) (fun _ _ _ h => h) (Or.inl ⟨by rfl, by intro w hSw; go_simp⟩) HS5.out ?_
        simp only [List.getElem_toArray, List.getElem_cons_zero, List.getElem_cons_succ, Act.put, List.setIfInBounds_toArray, List.set_cons_zero, List.set_cons_succ]
        refine wpAnyH_take (i := 2) (oi := _) (v := .pointer (some ⟨d, 2, none⟩)) rfl (by kernel_rfl) (by kernel_rfl) (by kernel_rfl) (fun _ _ _ h => h) (Or.inl ⟨by rfl, by intro w hSw; go_simp⟩) HS5.out ?_
        simp only [List.getElem_toArray, List.getElem_cons_zero, List.getElem_cons_succ, Act.put, List.setIfInBounds_toArray, List.set_cons_zero, List.set_cons_succ]
        refine wpAnyH_take (i := 3) (oi := _) (v := .pointer (some c)) rfl (by kernel_rfl) (by kernel_rfl) (by kernel_rfl) (fun _ _ _ h => h) (Or.inl ⟨by rfl, by intro w hSw; have hcc : w.cell? ⟨d, 2, none⟩ = some (.pointer (some c)) := (hSw.1).cell 2; go_simp⟩) HS5.out ?_
        simp only [List.getElem_toArray, List.getElem_cons_zero, List.getElem_cons_succ, Act.put, List.setIfInBounds_toArray, List.set_cons_zero, List.set_cons_succ]
        refine wpAnyH_take (i := 4) (oi := _) (v := .agg X.toArray) rfl (by kernel_rfl) (by kernel_rfl) (by kernel_rfl) (fun _ _ _ h => h) (yields_mid (by rfl) 29 (.tmp 4) rfl kb 0 rfl X (.struct fk) (fun W hW => range_of_blk (hW.2.1)) HF.out.1 rfl HXS.out) HS5.out ?_
        simp only [List.getElem_toArray, List.getElem_cons_zero, List.getElem_cons_succ, Act.put, List.setIfInBounds_toArray, List.set_cons_zero, List.set_cons_succ]
        refine wpAnyH_ready (rs := [5]) (by kernel_rfl) (by simp) ?_
        refine AllReadyH.cons rfl (fun K hK => ?_) AllReadyH.nil
        go_simp
        (with_reducible refine (KX.out _ _ H5.out rfl).mono ?_)
        rintro e w6 ⟨rfl, hb6⟩
        have hs6 : Blk w6 d 56 #[.pointer (some a), .pointer (some b), .pointer (some c), .int .i64 (na1 : Nat), .int .i64 (nl : Nat)] ∧ Blk w6 kb 29 X.toArray ∧ Blk w6 rb 40 #[.int .i64 0, .int .i64 0] := ⟨(HS5.out.1).below hb6 (HS5.out.1).lt, (HS5.out.2.1).below hb6 (HS5.out.2.1).lt, (HS5.out.2.2).below hb6 (HS5.out.2.2).lt⟩
        have hq6 := HQ5.out.below hb6 HQ5.out.lt
        have h6 := H5.out.up hb6
        have ho6 : Only F w w6 := HO5.out.trans (Only.of_below (F := F) hb6) fun g hg => .inl hg
        have hlt6 := hb6.size
        have y0 : w6.cell? ⟨pb, 0, none⟩ = some (.int .i64 g1) := hq6.cell 0
        have y1 : w6.cell? ⟨pb, 1, none⟩ = some (.int .i64 g2) := hq6.cell 1
        have yf0 : w6.frozen? ⟨pb, 0, none⟩ = false := hq6.frozen 0
        have yf1 : w6.frozen? ⟨pb, 1, none⟩ = false := hq6.frozen 1
        clear hb6
        go_wp2_with fail
        refine hK.out _ _ hs6 (fun _ => ?_)
        clear hK K
        try simp only [List.getElem_toArray, List.getElem_cons_zero, List.getElem_cons_succ, Act.put, List.setIfInBounds_toArray, List.set_cons_zero, List.set_cons_succ]
        refine wpAnyH_take (i := 6) (oi := _) (v := .tuple #[.agg #[.int .i64 x1, .int .i64 x2], .bool rx]) rfl (by kernel_rfl) (by kernel_rfl) (by kernel_rfl) (fun _ _ _ h => h) (Or.inl ⟨by rfl, by intro w hSw; go_simp⟩) hs6 ?_
        simp only [List.getElem_toArray, List.getElem_cons_zero, List.getElem_cons_succ, Act.put, List.setIfInBounds_toArray, List.set_cons_zero, List.set_cons_succ]
        refine wpAnyH_take (i := 7) (oi := _) (v := .agg #[.int .i64 x1, .int .i64 x2]) rfl (by kernel_rfl) (by kernel_rfl) (by kernel_rfl) (fun _ _ _ h => h) (Or.inl ⟨by rfl, by intro w hSw; go_simp⟩) hs6 ?_
        simp only [List.getElem_toArray, List.getElem_cons_zero, List.getElem_cons_succ, Act.put, List.setIfInBounds_toArray, List.set_cons_zero, List.set_cons_succ]
        refine wpAnyH_take (i := 8) (oi := _) (v := .bool rx) rfl (by kernel_rfl) (by kernel_rfl) (by kernel_rfl) (fun _ _ _ h => h) (Or.inl ⟨by rfl, by intro w hSw; go_simp⟩) hs6 ?_
        simp only [List.getElem_toArray, List.getElem_cons_zero, List.getElem_cons_succ, Act.put, List.setIfInBounds_toArray, List.set_cons_zero, List.set_cons_succ]
        refine wpAnyH_ready (rs := [9]) (by kernel_rfl) (by simp) ?_
        refine AllReadyH.cons rfl (fun K hK => ?_) AllReadyH.nil
        go_simp
        obtain ⟨w7, hw7⟩ : ∃ w7, (w6.setCell ⟨pb, 0, none⟩ (.int .i64 x1)).setCell ⟨pb, 1, none⟩ (.int .i64 x2) = w7 := ⟨_, rfl⟩
        have hq7 : Blk w7 pb 40 #[.int .i64 x1, .int .i64 x2] := hw7 ▸ (hq6.set_ 0 (.int .i64 x1)).set_ 1 (.int .i64 x2)
        have hgr : w6.grownBy w7 (some pb) := hw7 ▸ grown_trans (grown_cell w6 _ 0 _) (grown_cell _ _ 1 _)
        rw [hw7]
        have hs7 : Blk w7 d 56 #[.pointer (some a), .pointer (some b), .pointer (some c), .int .i64 (na1 : Nat), .int .i64 (nl : Nat)] ∧ Blk w7 kb 29 X.toArray ∧ Blk w7 rb 40 #[.int .i64 0, .int .i64 0] := ⟨((hs6.1).same (hgr.block _ (hs6.1).lt fun e => by injection e with e; exact absurd e HRB.out.2.1)), ((hs6.2.1).same (hgr.block _ (hs6.2.1).lt fun e => by injection e with e; exact absurd e HRB.out.2.2)), ((hs6.2.2).same (hgr.block _ (hs6.2.2).lt fun e => by injection e with e; exact absurd e HRB.out.1))⟩
        have h7 : RfT w7 F d a b c w7 ⟨f.n, f.p, f.S, f.C, f.L, na1, nl⟩ := h6.box hgr fun hf => by have := HBB.out.2.1 _ hf; have := HPB.out; have := HBB.out.1.size; omega
        have ho7 : Only F w w7 := ho6.trans (grown_only (F := fun g => g = pb) hgr rfl) fun g hg => .inr (by rw [hg]; have := HPB.out; have := HBB.out.1.size; omega)
        have hlt7 := Nat.le_trans hlt6 hgr.size
        refine hK.out _ _ hs7 (fun _ => ?_)
        clear hK K
        try simp only [List.getElem_toArray, List.getElem_cons_zero, List.getElem_cons_succ, Act.put, List.setIfInBounds_toArray, List.set_cons_zero, List.set_cons_succ]
        refine wpAnyH_take (i := 10) (oi := _) (v := .bool rx) rfl (by kernel_rfl) (by kernel_rfl) (by kernel_rfl) (fun _ _ _ h => h) (Or.inl ⟨by rfl, by intro w hSw; go_simp⟩) hs7 ?_
        simp only [List.getElem_toArray, List.getElem_cons_zero, List.getElem_cons_succ, Act.put, List.setIfInBounds_toArray, List.set_cons_zero, List.set_cons_succ]
        refine wpAnyH_done (by kernel_rfl) ?_ _
        have HS7 := Lib.hid hs7
        have HQ7 := Lib.hid hq7
        have H7 := Lib.hid h7
        have HO7 := Lib.hid ho7
        have HLT7 := Lib.hid (And.intro (Nat.le_trans HLT.out.1 hlt7) (Nat.lt_of_lt_of_le HLT.out.2 hlt7))
        clear hs6 hs7 hq6 hq7 h6 h7 ho6 ho7 hlt6 hlt7 y0 y1 yf0 yf1 hgr hw7 HS5 HQ5 H5 HO5 HLT
        cases rx with
        | false =>
          have HQR := Lib.hid (HS7.out.2.2)
          have k0 : w7.cell? ⟨rb, 0, none⟩ = some (.int .i64 0) := HQR.out.cell 0
          have k1 : w7.cell? ⟨rb, 1, none⟩ = some (.int .i64 0) := HQR.out.cell 1
          have kf0 : w7.frozen? ⟨rb, 0, none⟩ = false := HQR.out.frozen 0
          have kf1 : w7.frozen? ⟨rb, 1, none⟩ = false := HQR.out.frozen 1
          have HQP := Lib.hid (HQ7.out)
          have y0 : w7.cell? ⟨pb, 0, none⟩ = some (.int .i64 x1) := HQP.out.cell 0
          have y1 : w7.cell? ⟨pb, 1, none⟩ = some (.int .i64 x2) := HQP.out.cell 1
          go_wp2_with fail
          (try simp only [Exit.inBlock, Exit.then])
          have hfin : Blk ((w7.setCell ⟨rb, 0, none⟩ (.int .i64 x1)).setCell ⟨rb, 1, none⟩ (.int .i64 x2)) rb 40 #[.int .i64 x1, .int .i64 x2] := (HQR.out.set_ 0 (.int .i64 x1)).set_ 1 (.int .i64 x2)
          have hgw : w7.grownBy ((w7.setCell ⟨rb, 0, none⟩ (.int .i64 x1)).setCell ⟨rb, 1, none⟩ (.int .i64 x2)) (some rb) := grown_trans (grown_cell w7 _ 0 _) (grown_cell _ _ 1 _)
          refine bodyPost_ret (v := .tuple #[.agg #[.int .i64 x1, .int .i64 x2], .bool false]) ?_ rfl ⟨by unfold answerF foundF; rw [HAN.out.1, if_neg (by simp), if_neg (by rw [HAN.out.2.2.1]; simp), HAN.out.2.2.2.1, HAN.out.2.2.2.2], by rw [show nextF f k dr = ⟨f.n, f.p, f.S, f.C, f.L, na1, nl⟩ from by unfold nextF; rw [if_neg (by rw [HAN.out.1]; simp), if_neg (by rw [HAN.out.2.2.1]; simp), if_neg (by rw [HAN.out.2.2.2.2]; simp), ← HN1.out, ← HN.out.1, ← HN.out.2]]; exact RfT.endw HO7.out H7.out hgw HBB.out.2.2.1 (Nat.lt_of_lt_of_le HBB.out.2.2.2 HLT7.out.1) fun hf => by have := HBB.out.2.1 _ hf; have := HBB.out.2.2.1; omega⟩
          exact res_row_tmpB rfl _ _ rb 40 _ (0, 0) _ rfl hfin HF.out.2 rfl place_size _ rfl
        | true =>
          obtain ⟨nl1, hnl1⟩ : ∃ n, nl + 1 = n := ⟨_, rfl⟩
          have enl : (nl : Int) + 1 = (nl1 : Int) := by omega
          have hnl0 : (nl : Int) ≤ 100000 := by omega
          have dc : w7.cell? ⟨d, 4, none⟩ = some (.int .i64 (nl : Nat)) := HS7.out.1.cell 4
          have df : w7.frozen? ⟨d, 4, none⟩ = false := HS7.out.1.frozen 4
          go_upto_region 10 with fail
          try rw [enl]
          obtain ⟨w8, hw8⟩ : ∃ w8, w7.setCell ⟨d, 4, none⟩ (.int .i64 (nl1 : Nat)) = w8 := ⟨_, rfl⟩
          rw [hw8]
          have hg8 : w7.grownBy w8 (some d) := hw8 ▸ grown_cell w7 d 4 _
          have hd8 : Blk w8 d 56 #[.pointer (some a), .pointer (some b), .pointer (some c), .int .i64 (na1 : Nat), .int .i64 (nl1 : Nat)] := by
            have := HS7.out.1.set_ 4 (.int .i64 (nl1 : Nat))
            rw [hw8] at this
            simpa using this
          have hsm : ∀ g, g < w7.heap.size → g ≠ d → w8.heap[g]? = w7.heap[g]? := fun g hg hne => hg8.block g hg fun e => hne (by injection e)
          have hs8 : Blk w8 d 56 #[.pointer (some a), .pointer (some b), .pointer (some c), .int .i64 (na1 : Nat), .int .i64 (nl1 : Nat)] ∧ Blk w8 rb 40 #[.int .i64 0, .int .i64 0] ∧ Blk w8 pb 40 #[.int .i64 x1, .int .i64 x2] := ⟨hd8, HS7.out.2.2.same (hsm rb HS7.out.2.2.lt fun e => blk_other HS7.out.1 HS7.out.2.2 (by decide) e.symm), HQ7.out.same (hsm pb HQ7.out.lt fun e => HRB.out.2.1 e.symm)⟩
          have h8 : RfT w8 F d a b c w8 ⟨f.n, f.p, f.S, f.C, f.L, na1, nl1⟩ := H7.out.cost hd8 hg8
          have ho8 : Only F w w8 := HO7.out.trans (grown_only hg8 HDF.out) fun g hg => .inl hg
          have hz8 := drew_below w8
          have HN2 := Lib.hid hnl1
          have H8 := Lib.hid (h8.up hz8)
          have HO8 := Lib.hid (show Only F w w8.drew from ho8.trans (Only.of_below (F := F) hz8) fun g hg => .inl hg)
          have HS8 := Lib.hid (show Blk w8.drew d 56 #[.pointer (some a), .pointer (some b), .pointer (some c), .int .i64 (na1 : Nat), .int .i64 (nl1 : Nat)] ∧ Blk w8.drew rb 40 #[.int .i64 0, .int .i64 0] ∧ Blk w8.drew pb 40 #[.int .i64 x1, .int .i64 x2] from ⟨(hs8.1).below hz8 (hs8.1).lt, (hs8.2.1).below hz8 (hs8.2.1).lt, (hs8.2.2).below hz8 (hs8.2.2).lt⟩)
          have HLT8 := Lib.hid (show w2.heap.size ≤ w8.drew.heap.size ∧ pb < w8.drew.heap.size from ⟨Nat.le_trans HLT7.out.1 hg8.size, Nat.lt_of_lt_of_le HLT7.out.2 hg8.size⟩)
          clear hnl1 enl hnl0 dc df hw8 hg8 hd8 hsm hs8 h8 ho8 hz8 HS7 HQ7 H7 HO7 HLT7
          refine wp_region_held_drew (S := fun W => Blk W d 56 #[.pointer (some a), .pointer (some b), .pointer (some c), .int .i64 (na1 : Nat), .int .i64 (nl1 : Nat)] ∧ Blk W rb 40 #[.int .i64 0, .int .i64 0] ∧ Blk W pb 40 #[.int .i64 x1, .int .i64 x2]) (by kernel_rfl) HS8.out (fun hHeld => ?_)
          clear hHeld
          generalize w8.drew = wv at *
          refine wpAnyH_take (i := 0) (oi := _) (v := .pointer (some ⟨d, 0, none⟩)) rfl (by kernel_rfl) (by kernel_rfl) (by kernel_rfl) (fun _ _ _ h => h) (Or.inl ⟨by rfl, by intro w hSw; go_simp⟩) HS8.out ?_
          simp only [List.getElem_toArray, List.getElem_cons_zero, List.getElem_cons_succ, Act.put, List.setIfInBounds_toArray, List.set_cons_zero, List.set_cons_succ]
          refine wpAnyH_take (i := 1) (oi := _) (v := .pointer (some ⟨d, 0, none⟩)) rfl (by kernel_rfl) (by kernel_rfl) (by kernel_rfl) (fun _ _ _ h => h) (Or.inl ⟨by rfl, by intro w hSw; go_simp⟩) HS8.out ?_
          simp only [List.getElem_toArray, List.getElem_cons_zero, List.getElem_cons_succ, Act.put, List.setIfInBounds_toArray, List.set_cons_zero, List.set_cons_succ]
          refine wpAnyH_take (i := 2) (oi := _) (v := .pointer (some ⟨d, 1, none⟩)) rfl (by kernel_rfl) (by kernel_rfl) (by kernel_rfl) (fun _ _ _ h => h) (Or.inl ⟨by rfl, by intro w hSw; go_simp⟩) HS8.out ?_
          simp only [List.getElem_toArray, List.getElem_cons_zero, List.getElem_cons_succ, Act.put, List.setIfInBounds_toArray, List.set_cons_zero, List.set_cons_succ]
          refine wpAnyH_take (i := 3) (oi := _) (v := .pointer (some b)) rfl (by kernel_rfl) (by kernel_rfl) (by kernel_rfl) (fun _ _ _ h => h) (Or.inl ⟨by rfl, by intro w hSw; have hcc : w.cell? ⟨d, 1, none⟩ = some (.pointer (some b)) := (hSw.1).cell 1; go_simp⟩) HS8.out ?_
          simp only [List.getElem_toArray, List.getElem_cons_zero, List.getElem_cons_succ, Act.put, List.setIfInBounds_toArray, List.set_cons_zero, List.set_cons_succ]
          refine wpAnyH_take (i := 4) (oi := _) (v := .pointer (some ⟨pb, 0, none⟩)) rfl (by kernel_rfl) (by kernel_rfl) (by kernel_rfl) (fun _ _ _ h => h) (Or.inl ⟨by rfl, by intro w hSw; go_simp⟩) HS8.out ?_
          simp only [List.getElem_toArray, List.getElem_cons_zero, List.getElem_cons_succ, Act.put, List.setIfInBounds_toArray, List.set_cons_zero, List.set_cons_succ]
          refine wpAnyH_take (i := 5) (oi := _) (v := .int .i64 x1) rfl (by kernel_rfl) (by kernel_rfl) (by kernel_rfl) (fun _ _ _ h => h) (Or.inl ⟨by rfl, by intro w hSw; have hcc : w.cell? ⟨pb, 0, none⟩ = some (.int .i64 x1) := (hSw.2.2).cell 0; go_simp⟩) HS8.out ?_
          simp only [List.getElem_toArray, List.getElem_cons_zero, List.getElem_cons_succ, Act.put, List.setIfInBounds_toArray, List.set_cons_zero, List.set_cons_succ]
          refine wpAnyH_take (i := 6) (oi := _) (v := .pointer (some ⟨d, 0, none⟩)) rfl (by kernel_rfl) (by kernel_rfl) (by kernel_rfl) (fun _ _ _ h => h) (Or.inl ⟨by rfl, by intro w hSw; go_simp⟩) HS8.out ?_
          simp only [List.getElem_toArray, List.getElem_cons_zero, List.getElem_cons_succ, Act.put, List.setIfInBounds_toArray, List.set_cons_zero, List.set_cons_succ]
          refine wpAnyH_take (i := 7) (oi := _) (v := .pointer (some ⟨d, 0, none⟩)) rfl (by kernel_rfl) (by kernel_rfl) (by kernel_rfl) (fun _ _ _ h => h) (Or.inl ⟨by rfl, by intro w hSw; go_simp⟩) HS8.out ?_
          simp only [List.getElem_toArray, List.getElem_cons_zero, List.getElem_cons_succ, Act.put, List.setIfInBounds_toArray, List.set_cons_zero, List.set_cons_succ]
          refine wpAnyH_take (i := 8) (oi := _) (v := .pointer (some ⟨d, 2, none⟩)) rfl (by kernel_rfl) (by kernel_rfl) (by kernel_rfl) (fun _ _ _ h => h) (Or.inl ⟨by rfl, by intro w hSw; go_simp⟩) HS8.out ?_
          simp only [List.getElem_toArray, List.getElem_cons_zero, List.getElem_cons_succ, Act.put, List.setIfInBounds_toArray, List.set_cons_zero, List.set_cons_succ]
          refine wpAnyH_take (i := 9) (oi := _) (v := .pointer (some c)) rfl (by kernel_rfl) (by kernel_rfl) (by kernel_rfl) (fun _ _ _ h => h) (Or.inl ⟨by rfl, by intro w hSw; have hcc : w.cell? ⟨d, 2, none⟩ = some (.pointer (some c)) := (hSw.1).cell 2; go_simp⟩) HS8.out ?_
          simp only [List.getElem_toArray, List.getElem_cons_zero, List.getElem_cons_succ, Act.put, List.setIfInBounds_toArray, List.set_cons_zero, List.set_cons_succ]
          refine wpAnyH_take (i := 10) (oi := _) (v := .pointer (some ⟨pb, 0, none⟩)) rfl (by kernel_rfl) (by kernel_rfl) (by kernel_rfl) (fun _ _ _ h => h) (Or.inl ⟨by rfl, by intro w hSw; go_simp⟩) HS8.out ?_
          simp only [List.getElem_toArray, List.getElem_cons_zero, List.getElem_cons_succ, Act.put, List.setIfInBounds_toArray, List.set_cons_zero, List.set_cons_succ]
          refine wpAnyH_take (i := 11) (oi := _) (v := .int .i64 x1) rfl (by kernel_rfl) (by kernel_rfl) (by kernel_rfl) (fun _ _ _ h => h) (Or.inl ⟨by rfl, by intro w hSw; have hcc : w.cell? ⟨pb, 0, none⟩ = some (.int .i64 x1) := (hSw.2.2).cell 0; go_simp⟩) HS8.out ?_
          simp only [List.getElem_toArray, List.getElem_cons_zero, List.getElem_cons_succ, Act.put, List.setIfInBounds_toArray, List.set_cons_zero, List.set_cons_succ]
          refine wpAnyH_take (i := 13) (oi := _) (v := .int .u64 dr) rfl (by kernel_rfl) (by kernel_rfl) (by kernel_rfl) (fun _ _ _ h => h) (Or.inl ⟨by rfl, by intro w hSw; go_simp⟩) HS8.out ?_
          simp only [List.getElem_toArray, List.getElem_cons_zero, List.getElem_cons_succ, Act.put, List.setIfInBounds_toArray, List.set_cons_zero, List.set_cons_succ]
          have KS := Lib.hid (rt_xshelf H8.out (by have := HOK.out.2.1; show f.L.length ≤ 9000; omega) x1 H64.out.1)
          obtain ⟨ln, hln⟩ : ∃ n, (shelfX f.L x1).length = n := ⟨_, rfl⟩
          have HLN := Lib.hid hln
          simp only [hln] at KS
          clear hln
          refine wpAnyH_ready (rs := [12]) (by kernel_rfl) (by simp) ?_
          refine AllReadyH.cons rfl (fun K hK => ?_) AllReadyH.nil
          go_simp
          (with_reducible refine KS.out.mono ?_)
          rintro e w9 ⟨A9, c9, rfl, ho9, hro, hb9⟩
          have hs9 : Blk w9 d 56 #[.pointer (some a), .pointer (some b), .pointer (some c), .int .i64 (na1 : Nat), .int .i64 (nl1 : Nat)] ∧ Blk w9 rb 40 #[.int .i64 0, .int .i64 0] ∧ Blk w9 pb 40 #[.int .i64 x1, .int .i64 x2] := ⟨(HS8.out.1).below hb9 (HS8.out.1).lt, (HS8.out.2.1).below hb9 (HS8.out.2.1).lt, (HS8.out.2.2).below hb9 (HS8.out.2.2).lt⟩
          have h9 := H8.out.up hb9
          have hx9 : Only F w w9 := HO8.out.trans (Only.of_below (F := F) hb9) fun g hg => .inl hg
          have hcap := ho9.cap
          rw [HLN.out] at hcap
          have KL := Lib.hid (rt_cload h9 HOK.out.1.cache x1 H64.out.1 A9 (shelfX f.L x1) ln c9 dr HOK.out.2.2 HLN.out hcap.1 hcap.2 (by rw [← HLN.out]; exact Nat.le_trans (shelfX_length _ _) (by have := HOK.out.2.1; omega)) ⟨ho9.rd rowE hro, hro⟩ fun G hG ad e h0 hf => by
            have a1 := (ho9.adr ad e).1
            have a2 := (ho9.adr ad e).2
            rcases hG _ hf with h | h
            · have := HBB.out.2.1 _ h; have := HBB.out.1.size; have := HLT8.out.1; omega
            · omega)
          have HX9 := Lib.hid (And.intro hx9 (Nat.le_trans HLT8.out.1 hb9.size))
          clear ho9 hro hb9 hcap h9 hx9 KS
          go_wp2_with fail
          refine hK.out _ _ hs9 (fun _ => ?_)
          clear hK K
          try simp only [List.getElem_toArray, List.getElem_cons_zero, List.getElem_cons_succ, Act.put, List.setIfInBounds_toArray, List.set_cons_zero, List.set_cons_succ]
          refine wpAnyH_ready (rs := [14]) (by kernel_rfl) (by simp) ?_
          refine AllReadyH.cons rfl (fun K hK => ?_) AllReadyH.nil
          go_simp
          (with_reducible refine KL.out.mono ?_)
          rintro e w10 ⟨rfl, h10⟩
          have hs10 : Blk w10 d 56 #[.pointer (some a), .pointer (some b), .pointer (some c), .int .i64 (na1 : Nat), .int .i64 (nl1 : Nat)] ∧ Blk w10 rb 40 #[.int .i64 0, .int .i64 0] ∧ Blk w10 pb 40 #[.int .i64 x1, .int .i64 x2] := ⟨h10.blk, h10.old hs9.2.1 fun hf => by have := HBB.out.2.1 _ hf; have := HBB.out.2.2.1; omega, h10.old hs9.2.2 fun hf => by have := HBB.out.2.1 _ hf; have := HPB.out; have := HBB.out.1.size; omega⟩
          have H10 := Lib.hid h10
          clear h10 KL hs9
          go_wp2_with fail
          refine hK.out _ _ hs10 (fun _ => ?_)
          clear hK K
          try simp only [List.getElem_toArray, List.getElem_cons_zero, List.getElem_cons_succ, Act.put, List.setIfInBounds_toArray, List.set_cons_zero, List.set_cons_succ]
          refine wpAnyH_done (by kernel_rfl) ?_ _
          have HS10 := Lib.hid hs10
          clear hs10
          have HQR := Lib.hid (HS10.out.2.1)
          have k0 : w10.cell? ⟨rb, 0, none⟩ = some (.int .i64 0) := HQR.out.cell 0
          have k1 : w10.cell? ⟨rb, 1, none⟩ = some (.int .i64 0) := HQR.out.cell 1
          have kf0 : w10.frozen? ⟨rb, 0, none⟩ = false := HQR.out.frozen 0
          have kf1 : w10.frozen? ⟨rb, 1, none⟩ = false := HQR.out.frozen 1
          have HQP := Lib.hid (HS10.out.2.2)
          have y0 : w10.cell? ⟨pb, 0, none⟩ = some (.int .i64 x1) := HQP.out.cell 0
          have y1 : w10.cell? ⟨pb, 1, none⟩ = some (.int .i64 x2) := HQP.out.cell 1
          go_wp2_with fail
          (try simp only [Exit.inBlock, Exit.then])
          have hfin : Blk ((w10.setCell ⟨rb, 0, none⟩ (.int .i64 x1)).setCell ⟨rb, 1, none⟩ (.int .i64 x2)) rb 40 #[.int .i64 x1, .int .i64 x2] := (HQR.out.set_ 0 (.int .i64 x1)).set_ 1 (.int .i64 x2)
          have hgw : w10.grownBy ((w10.setCell ⟨rb, 0, none⟩ (.int .i64 x1)).setCell ⟨rb, 1, none⟩ (.int .i64 x2)) (some rb) := grown_trans (grown_cell w10 _ 0 _) (grown_cell _ _ 1 _)
          refine bodyPost_ret (v := .tuple #[.agg #[.int .i64 x1, .int .i64 x2], .bool true]) ?_ rfl ⟨by unfold answerF foundF; rw [HAN.out.1, if_neg (by simp), if_neg (by rw [HAN.out.2.2.1]; simp), HAN.out.2.2.2.1, HAN.out.2.2.2.2], by rw [show nextF f k dr = ⟨f.n, f.p, f.S, loadC f.C x1 (shelfX f.L x1) dr, f.L, na1, nl1⟩ from by unfold nextF; rw [if_neg (by rw [HAN.out.1]; simp), if_neg (by rw [HAN.out.2.2.1]; simp), if_pos HAN.out.2.2.2.2, HAN.out.2.2.2.1, ← HN1.out, ← HN2.out, ← HN.out.1, ← HN.out.2]]; exact RfT.endw HX9.out.1 H10.out hgw HBB.out.2.2.1 (Nat.lt_of_lt_of_le HBB.out.2.2.2 HX9.out.2) fun hf => by have := HBB.out.2.1 _ hf; have := HBB.out.2.2.1; omega⟩
          exact res_row_tmpB rfl _ _ rb 40 _ (0, 0) _ rfl hfin HF.out.2 rfl place_size _ rfl
end Go.Proofs.YtoofhaoaogoomaaGreat
