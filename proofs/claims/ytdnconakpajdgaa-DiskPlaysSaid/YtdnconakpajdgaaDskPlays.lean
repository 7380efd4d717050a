/- DiskPlays' walk, told from what the package's disks do. Under way. No statement of the seat is proved here. -/
import Derived.Test.YtdnconakpajdgaaDskTwo
import Derived.Test.YtdnconakpajdgaaDskRow
import Derived.Test.YtdnconakpajdgaaDskShown
namespace Go.Proofs.Ytdnconakpajdgaa
open Go.RowKit
set_option linter.unusedVariables false
/-- The world behind '[]byte("gone")'. -/
def gw (w : World) : World := w.alloc (.cells #[.int .u8 103, .int .u8 111, .int .u8 110, .int .u8 101] 5 (4, 5))
def gone : List UInt8 := [103, 111, 110, 101]
theorem gw_below (w : World) : Below w.heap.size w (gw w) := (Below.refl _ _).alloc (Nat.le_refl _) _
theorem gone_conv (w : World) : (convert 32 32 (.slice (some ⟨w.heap.size, 0, none⟩) 4 4)).run Try.prog (w.alloc (.cells #[.int .u8 103, .int .u8 111, .int .u8 110, .int .u8 101] 5)) = .ok (.slice (some ⟨w.heap.size, 0, none⟩) 4 4) (gw w) :=
  Lib.run_convert_bytes_const w _ _ _ 4 4 Try.underlying32 Try.underlying5
theorem gone_rd (w : World) : Rd (gw w) (gw w).heap.size (some ⟨w.heap.size, 0, none⟩) gone := fun _ => ⟨w.heap.size, 0, rfl, by simp [gw], fun j hj => by
    rw [Nat.zero_add, gw, World.cell?_alloc_mark]
    have hj3 : j < 4 := hj
    match j, hj3 with
    | 0, _ => rfl
    | 1, _ => rfl
    | 2, _ => rfl
    | 3, _ => rfl⟩
section
variable {St : World → Addr → (Nat → Prop) → DS → Prop}
set_option maxRecDepth 100000 in
set_option maxHeartbeats 2000000 in
theorem plays_walk (K : DisksOk St) (A : Option Addr) (ls : List DActT) (n c : Nat) (n0 : Int) (hl : ls.length = n) (hc : n ≤ c) (hm : c ≤ maxLen) (w : World) (hr : RdD w w.heap.size A ls) :
    Calls Try.prog 3 #[.int .i64 n0, .slice A n c] w fun e w' => e = .returned (.bool true) ∧ Below w.heap.size w w' := by
  by_cases hbad : n0 < 0 ∨ 16384 < n0
  · have KN := Lib.hid (fun W => K.bad n0 W hbad)
    have KN2 := Lib.hid (fun W => rnew_bad n0 hbad W)
    clear hbad hr
    go_enter Try.func3, Try.ntmps3
    go_wp2_with fail
    refine (shown_any K _).mono ?_
    rintro e w1 ⟨rfl, hb1⟩
    have HB1 := Lib.hid hb1
    clear hb1
    go_wp2_with fail
    (with_reducible refine (KN.out _).mono ?_)
    rintro e w2 ⟨rfl, hb2⟩
    have HB2 := Lib.hid (HB1.out.trans (hb2.mono HB1.out.size))
    clear hb2
    go_wp2_with fail
    (with_reducible refine (KN2.out _).mono ?_)
    rintro e w3 ⟨rfl, rfl⟩
    go_wp2_with fail
    go_ret
    exact ⟨rfl, HB2.out⟩
  · obtain ⟨N, rfl⟩ : ∃ N : Nat, n0 = N := ⟨n0.toNat, by omega⟩
    have hN : N ≤ 16384 := by omega
    have KF := Lib.hid (fun W (hb : Below w.heap.size w W) => few_any A n c ls hl hc hm W ((hr.below hb).more hb.size))
    have HR := Lib.hid hr
    have HL := Lib.hid hl
    have hc63 : c ≤ 9223372036854775807 := by unfold maxLen at hm; omega
    have KN := Lib.hid (fun W => K.new N W hN)
    have KN2 := Lib.hid (fun W => rnew_any N hN W)
    clear hr hl hm hbad
    go_enter Try.func3, Try.ntmps3
    go_wp2_with fail
    refine (shown_any K _).mono ?_
    rintro e w1 ⟨rfl, hb1⟩
    have HB1 := Lib.hid hb1
    clear hb1
    go_wp2_with fail
    (with_reducible refine (KN.out _).mono ?_)
    rintro e w2 ⟨s, F, rfl, hst, hF, hb2⟩
    have HB2 := Lib.hid (show St w2 s F (newS N) ∧ (∀ g, F g → w.heap.size ≤ g) ∧ Below w.heap.size w w2 from ⟨hst, fun g hg => Nat.le_trans HB1.out.size (hF g hg), HB1.out.trans (hb2.mono HB1.out.size)⟩)
    clear hst hF hb2
    go_wp2_with fail
    (with_reducible refine (KN2.out _).mono ?_)
    rintro e w3 ⟨d, As, cs, rfl, hR, hG, hb3⟩
    have H3 := Lib.hid (show ∃ F G, Two St w w3 s ⟨d, 0, none⟩ (newS N) (newS N) F G from ⟨F, _, K.below HB2.out.1 hb3, ⟨d, As, cs, none, 0, rfl, hR, DS.Ok.new hN, fun _ => Iff.rfl⟩, fun g hf hg => by have := K.lt HB2.out.1 g hf; have := hG g hg; omega, HB2.out.2.1, fun g hg => Nat.le_trans HB2.out.2.2.size (hG g hg), HB2.out.2.2.trans (hb3.mono HB2.out.2.2.size)⟩)
    clear hR hG hb3 KN KN2
    have KF3 := Lib.hid (KF.out w3 (by obtain ⟨F, G, h⟩ := H3.out; exact h.bel))
    generalize (⟨d, 0, none⟩ : Addr) = r at *
    clear KF HB1 HB2
    go_wp2_with fail
    (with_reducible refine KF3.out.mono ?_)
    rintro e w' ⟨k, hkn, hk1, hall, rfl, rfl⟩
    have HALL := Lib.hid hall
    clear hall KF3
    go_wp2_with fail
    obtain ⟨fs, hfs⟩ := act_desc
    have HF := Lib.hid hfs
    have hk63 : k ≤ 9223372036854775807 := by omega
    clear hfs
    go_loopw [6, 46] (fun dv i wr => ∃ (j : Nat) (S : DS) (s : Addr), j ≤ k ∧ i = .int .i64 j ∧ dv = .pointer (some s) ∧ Hid ((∃ F G, Two St w wr s r S S F G) ∧ S.cnt ≤ j ∧ S.put.length ≤ j)) (fun _ i _ => k - (intOf i).toNat)
    case atStart => exact ⟨0, _, _, Nat.zero_le _, rfl, rfl, Lib.hid ⟨H3.out, Nat.le_refl _, Nat.le_refl _⟩⟩
    case round =>
      clear H3
      obtain ⟨j, S, s, hj, rfl, rfl, hst⟩ := hrel
      by_cases hlt : j < k
      · have hjx : j < ls.length := by rw [HL.out]; omega
        obtain ⟨F, G, h2⟩ := hst.out.1
        obtain ⟨g, off, a, rfl, hra, hok, hab, _⟩ := HR.out.get h2.bel hjx hlt HALL.out
        have HOK := Lib.hid hok
        have HRA := Lib.hid hra
        have HKS := Lib.hid (show (Try.prog.info? 35).map (·.size) = some (dcs a).length from act_size)
        have HKS2 := Lib.hid (show (Try.prog.info? 35).map (·.size) = some (dcs a).toArray.size from act_size)
        have HOLD := Lib.hid (show dz.size = (dcs a).toArray.size from rfl)
        have HBZ := Lib.hid (Blk.new wr 35 dz)
        have HONE := Lib.hid (dcs_one a)
        obtain ⟨w5, ab, hw5, hab5, hb5, hbk5⟩ := act_box wr a
        have hFew : Few S := ⟨by have := hst.out.2.2; omega, by have := hst.out.2.1; omega⟩
        have H5 := Lib.hid (show Two2 St w w5 s r S S a ab from ⟨F, G, h2.on K hb5, hbk5, fun hx => by have := K.lt h2.left ab hx; omega, fun hx => by have := rst_lt h2.right ab hx; omega⟩)
        have HW5 := Lib.hid hw5
        have HAB := Lib.hid hab5
        have HFEW := Lib.hid hFew
        have HGR := Lib.hid (do_grow S a)
        have HFD := Lib.hid (show Few (doS S a) from ⟨by have := hst.out.2.2; have := HGR.out; omega, by have := hst.out.2.1; have := HGR.out; omega⟩)
        have HST := Lib.hid hst.out.2
        have hck : w5.cell? ⟨ab, 0, none⟩ = some (.int .u8 a.kind) := hbk5.cell 0
        have hi1 : (0 : Int) ≤ (j : Int) := by omega
        have hi2 : (j : Int) < (k : Int) := by omega
        have hkd := hok.kind
        have HHAB := Lib.hid hab
        have hri : ∃ q : Nat, (a.kind : Int) % 5 = q ∧ q < 5 := ⟨a.kind % 5, by omega, by omega⟩
        obtain ⟨q, hri, hq5⟩ := hri
        clear hra hok hst hw5 hab5 hb5 hbk5 h2 hFew hab
        generalize a.kind = kd at hck hri hkd
        by_cases hq4 : q = 4
        · subst hq4
          obtain ⟨F, G, h5, hbk, hF5, hG5⟩ := H5.out
          have KCP := Lib.hid (K.copy s F S w5 h5.left HFEW.out)
          have HH5 := Lib.hid (And.intro h5 (And.intro hbk (And.intro hF5 hG5)))
          clear h5 hbk hF5 hG5
          go_wp2_with (first
            | refine wpList_load_mid rfl 35 (.tmp 48) rfl g (off + j * 5) rfl (dcs a) (.struct fs) HRA.out HF.out rfl HKS.out ?_
            | (refine wpList_store_row rfl 35 (.tmp 11) (.tmp 49) rfl wr.heap.size (dcs a).toArray rfl rfl 35 dz HBZ.out HKS2.out HOLD.out HONE.out ?_; rw [setRow_alloc, HW5.out, HAB.out]))
          (with_reducible refine KCP.out.mono ?_)
          rintro e w6 ⟨s2, F2, rfl, hst2, hF2, hb6⟩
          have KCR := Lib.hid (K.crash s F S none 0 0 [] w6 (K.below HH5.out.1.left hb6) HFEW.out rfl (Nat.le_refl _) (by simp [maxLen]) (RdV.nil _ _ _) (by simp) (fun ad e => by cases e))
          have H6 := Lib.hid (And.intro hst2 (And.intro hF2 hb6))
          clear hst2 hF2 hb6 hck KCP
          go_wp2_with fail
          (with_reducible refine KCR.out.mono ?_)
          rintro e w7 ⟨rfl, F3, hst3, hF3, ho3⟩
          have hcv := gone_conv w7
          have KW := Lib.hid (K.write s F3 (crashS S []) 0 (some ⟨w7.heap.size, 0, none⟩) 4 4 gone (gw w7) (K.below hst3 (gw_below w7)) ⟨by simp [crashS], HFEW.out.2⟩ (in64_lit (by omega) (by omega)) rfl (Nat.le_refl _) (by simp [maxLen]) (gone_rd w7) (fun ad e _ hf => by injection e with e; rw [← e] at hf; have := K.lt hst3 _ hf; simp at this))
          generalize writeE (crashS S []) 0 4 = ew at KW
          have H7 := Lib.hid (show (∀ g, F3 g → F g ∨ w6.heap.size ≤ g) ∧ Only F w6 (gw w7) from ⟨hF3, ho3.trans (Only.of_below (F := F3) (gw_below w7)) hF3⟩)
          clear hst3 hF3 ho3 KCR
          go_wp2_with fail
          (with_reducible refine KW.out.mono ?_)
          rintro e w8 ⟨rfl, F4, hst4, hF4, ho4⟩
          have H8 := Lib.hid (show Two2 St w w8 s2 r S S a ab from by
            obtain ⟨h5, hbk, hF5, hG5⟩ := HH5.out
            obtain ⟨hst2, hF2, hb6⟩ := H6.out
            have ho : Only F w6 w8 := H7.out.2.trans ho4 H7.out.1
            have hbk6 := hbk.below hb6 hbk.lt
            exact ⟨F2, G, h5.swap K hst2 hF2 hb6 ho, hbk6.same (ho.block ab hbk6.lt hF5), fun hx => by have := hF2 ab hx; have := hbk.lt; omega, hG5⟩)
          clear hcv KW hst4 hF4 ho4
          go_wp2_with fail
          have h6 : Two2 St w w8.drew s2 r S S a ab := t2_on K H8.out ⟨rfl, rfl, rfl, Nat.le_refl _, fun _ _ => rfl⟩
          have hs1 := t2_cells h6
          (go_region_held (fun W => W.cell? ⟨ab, 0, none⟩ = some (.int .u8 a.kind) ∧ W.cell? ⟨ab, 1, none⟩ = some (.int .i64 a.at_) ∧ W.cell? ⟨ab, 2, none⟩ = some (.int .i64 a.num) ∧ W.cell? ⟨ab, 3, none⟩ = some (.slice a.adr a.b.length a.cap) ∧ W.cell? ⟨ab, 4, none⟩ = some (.slice a.fadr a.fates.length a.fcap)) (first | exact hs1 | exact hs7 | exact hs8 | exact hs9) (first
            | (go_at_call 16; (with_reducible refine (t2_does K h6 HFEW.out HOK.out HHAB.out).mono ?_); rintro e w7 ⟨rfl, h7⟩; have hs7 := t2_cells h7)
            | (go_at_call 17; (with_reducible refine (t2_model K h7 HFEW.out HOK.out).mono ?_); rintro e w8 ⟨rfl, h8⟩; have hs8 := t2_cells h8)
            | (go_at_call 18; (with_reducible refine (t2_alike K h8 (HFD.out)).mono ?_); rintro e w9 ⟨rfl, h9⟩; have hs9 := t2_cells h9)))
          have HN := Lib.hid (show (∃ F G, Two St w w9 s2 r (doS S a) (doS S a) F G) ∧ (doS S a).cnt ≤ j + 1 ∧ (doS S a).put.length ≤ j + 1 from ⟨by obtain ⟨F, G, h, _⟩ := h9; exact ⟨F, G, h⟩, by have := HGR.out; have := HST.out; omega, by have := HGR.out; have := HST.out; omega⟩)
          clear hs1 hs7 hs8 hs9 h6 h7 h8 h9
          go_wp2_with fail
          go_roundw
          case rel => exact ⟨j + 1, doS S a, s2, by omega, by go_num, rfl, Lib.hid HN.out⟩
          case measure => simp [intOf]; omega
        · have hq4i : (q : Int) < 4 := by omega
          go_wp2_with (first
            | refine wpList_load_mid rfl 35 (.tmp 48) rfl g (off + j * 5) rfl (dcs a) (.struct fs) HRA.out HF.out rfl HKS.out ?_
            | (refine wpList_store_row rfl 35 (.tmp 11) (.tmp 49) rfl wr.heap.size (dcs a).toArray rfl rfl 35 dz HBZ.out HKS2.out HOLD.out HONE.out ?_; rw [setRow_alloc, HW5.out, HAB.out]))
          have h6 : Two2 St w w5.drew s r S S a ab := t2_on K H5.out ⟨rfl, rfl, rfl, Nat.le_refl _, fun _ _ => rfl⟩
          have hs1 := t2_cells h6
          clear hck
          (go_region_held (fun W => W.cell? ⟨ab, 0, none⟩ = some (.int .u8 a.kind) ∧ W.cell? ⟨ab, 1, none⟩ = some (.int .i64 a.at_) ∧ W.cell? ⟨ab, 2, none⟩ = some (.int .i64 a.num) ∧ W.cell? ⟨ab, 3, none⟩ = some (.slice a.adr a.b.length a.cap) ∧ W.cell? ⟨ab, 4, none⟩ = some (.slice a.fadr a.fates.length a.fcap)) (first | exact hs1 | exact hs7 | exact hs8 | exact hs9) (first
            | (go_at_call 16; (with_reducible refine (t2_does K h6 HFEW.out HOK.out HHAB.out).mono ?_); rintro e w7 ⟨rfl, h7⟩; have hs7 := t2_cells h7)
            | (go_at_call 17; (with_reducible refine (t2_model K h7 HFEW.out HOK.out).mono ?_); rintro e w8 ⟨rfl, h8⟩; have hs8 := t2_cells h8)
            | (go_at_call 18; (with_reducible refine (t2_alike K h8 (HFD.out)).mono ?_); rintro e w9 ⟨rfl, h9⟩; have hs9 := t2_cells h9)))
          have HN := Lib.hid (show (∃ F G, Two St w w9 s r (doS S a) (doS S a) F G) ∧ (doS S a).cnt ≤ j + 1 ∧ (doS S a).put.length ≤ j + 1 from ⟨by obtain ⟨F, G, h, _⟩ := h9; exact ⟨F, G, h⟩, by have := HGR.out; have := HST.out; omega, by have := HGR.out; have := HST.out; omega⟩)
          clear hs1 hs7 hs8 hs9 h6 h7 h8 h9
          go_wp2_with fail
          go_roundw
          case rel => exact ⟨j + 1, doS S a, s, by omega, by go_num, rfl, Lib.hid HN.out⟩
          case measure => simp [intOf]; omega
      · obtain rfl : k = j := by omega
        have HE := Lib.hid (show Below w.heap.size w wr by obtain ⟨F, G, h⟩ := hst.out.1; exact h.bel)
        clear hst
        go_wp2_with fail
        go_ret
        exact ⟨rfl, HE.out⟩
end
end Go.Proofs.Ytdnconakpajdgaa
