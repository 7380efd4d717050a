/- VaultShelves' walk, told from what the package does. No statement of the seat is proved here. -/
import Derived.Test.YthbgcffnnholeaaVtShelves
import Derived.Deep.Cut
namespace Go.Proofs.Ythbgcffnnholeaa
open Go.RowKit
set_option linter.unusedVariables false
set_option linter.unusedSimpArgs false

section
variable {St : World → Addr → (Nat → Prop) → DS → Prop} {Vt : World → Addr → (Nat → Prop) → Addr → VS → Prop}
set_option maxRecDepth 100000 in
set_option maxHeartbeats 40000000 in
theorem shelves_walk (K : DisksOk St) (L : VaultsOk St Vt) (ae : Nat) (h8 : ae < 256) (A : Option Addr) (n c : Nat) (ls : List PutT) (hl : ls.length = n) (hc : n ≤ c) (hm : c ≤ maxLen) (w : World) (hr : RdPt w w.heap.size A ls) :
    Calls Try.prog 6 #[.int .u8 ae, .slice A n c] w fun e w' => e = .returned (.bool true) ∧ Below w.heap.size w w' := by
  unfold maxLen at hm
  obtain ⟨q, hq⟩ : ∃ q, ae % 4 = q := ⟨_, rfl⟩
  have hqi : (ae : Int) % 4 = (q : Int) := by omega
  have hq4 : q < 4 := by omega
  obtain ⟨n1, hn1⟩ : ∃ n1, q + 1 = n1 := ⟨_, rfl⟩
  have hs1 : (q : Int) + 1 = (n1 : Int) := by omega
  have hn4 : 1 ≤ n1 ∧ n1 ≤ 4 := by omega
  obtain ⟨p, hp⟩ : ∃ p, 7 * n1 = p := ⟨_, rfl⟩
  have hs2 : (7 : Int) * (n1 : Int) = (p : Int) := by omega
  obtain ⟨m2, hm2⟩ : ∃ m2, 2 + p = m2 := ⟨_, rfl⟩
  have hs3 : (2 : Int) + (p : Int) = (m2 : Int) := by omega
  obtain ⟨m, hm'⟩ : ∃ m, m2 + 2 = m := ⟨_, rfl⟩
  have hs4 : (m2 : Int) + 2 = (m : Int) := by omega
  obtain ⟨m3, hm3⟩ : ∃ m3, m - 1 = m3 := ⟨_, rfl⟩
  have hs5 : (m : Int) - 1 = (m3 : Int) := by omega
  have hs6 : (m : Int) - 2 = (m2 : Int) := by omega
  have hm51 : m ≤ 32 := by omega
  have hp48 : p ≤ 28 := by omega
  have hm30 : m2 ≤ 30 := by omega
  have hm31 : m3 ≤ 31 := by omega
  have hm3b : m2 ≤ m3 ∧ m3 < m ∧ m2 < m := by omega
  obtain ⟨V, hV⟩ : ∃ V : VS, VS.mk 2 n1 7 = V := ⟨_, rfl⟩
  have hfit : V.Fits m := by rw [← hV]; exact ⟨⟨hn4.1, by show n1 ≤ 16384; omega⟩, by show 2 + 7 * n1 ≤ m; omega⟩
  have hVn : V.n = 7 := by rw [← hV]
  have hVf : V.from_ = 2 ∧ V.from_ + V.n * V.each = m2 := by rw [← hV]; exact ⟨rfl, by show 2 + 7 * n1 = m2; omega⟩
  obtain ⟨r, hr'⟩ : ∃ r, V.room = r := ⟨_, rfl⟩
  have KN := Lib.hid (fun w1 (hb : Below w.heap.size w w1) => Turned.new K m (by omega) hb)
  have KV := Lib.hid (show ∀ w2 d, Dsk St w w2 d (newS m) → Calls Try.prog 10 #[.pointer (some d), .int .i64 2, .int .i64 n1, .int .i64 7] w2 fun x w' => ∃ v, x = .returned (.tuple #[.pointer (some v), .int .i64 0]) ∧ Turned (SV St Vt v V) w d (fun _ => False) w' (newS m) from fun w2 d h2 =>
    (Turned.vault K L h2 (2 : Nat) n1 (7 : Nat) (in64_lit (by omega) (by omega)) ⟨by omega, by omega⟩ (in64_lit (by omega) (by omega)) (fit_small hn4.1 (by omega) (by show 2 + 7 * n1 ≤ m; omega))).mono fun x w' ⟨v, hx, h, _⟩ => ⟨v, hx, by rw [← hV]; exact h⟩)
  have KM := Lib.hid (show ∀ W d v S, Turned (SV St Vt v V) w d (fun _ => False) W S → Calls Try.prog 12 #[.pointer (some v)] W fun x w' => x = .returned (.int .i64 r) ∧ Below W.heap.size W w' from fun W d v S h => by
    have := Turned.vroom L h
    rw [hr'] at this
    exact this)
  have KON := Lib.hid (fun W W' d v S (h : Turned (SV St Vt v V) w d (fun _ => False) W S) (hb : Below W.heap.size W W') => sv_on K L h hb)
  have KSZ := Lib.hid (show ∀ W d v S, Turned (SV St Vt v V) w d (fun _ => False) W S ∧ S.n = m → Calls Try.prog 32 #[.pointer (some d)] W fun x w' => x = .returned (.int .i64 m) ∧ Below W.heap.size W w' from fun W d v S h => by
    have := Turned.size K h.1.alone
    rw [h.2] at this
    exact this)
  have KG := Lib.hid (show ∀ S l, Has V S l ∧ Few S → ∀ (u : Nat), u < 7 → ∀ W d v, Turned (SV St Vt v V) w d (fun _ => False) W S → Calls Try.prog 18 #[.pointer (some v), .int .i64 u] W fun x w' => ∃ A c, x = .returned (.tuple #[.slice A (l u).length c, .int .i64 0]) ∧ (l u).length ≤ c ∧ c ≤ maxLen ∧ Rd w' w'.heap.size A (l u) ∧ Below W.heap.size W w' from fun S l hh u hu W d v h =>
    (Turned.vget K L h hh.2 u ⟨by omega, by omega⟩).mono fun x w' ⟨A, c, h1, h2, h3, h4, h5, _⟩ => by
      have hg := hh.1.got u (by omega)
      rw [hg.1, hg.2] at h1
      rw [hg.2] at h2 h4
      exact ⟨A, c, h1, h2, h3, h4, h5⟩)
  have KRD := Lib.hid (show ∀ S l, Has V S l ∧ Few S ∧ S.n = m → ∀ (j : Nat), (j < 2 ∨ (m2 ≤ j ∧ j < m)) → ∀ W d v, Turned (SV St Vt v V) w d (fun _ => False) W S → Calls Try.prog 30 #[.pointer (some d), .int .i64 j] W fun x w' => ∃ A c, x = .returned (.tuple #[.slice A 128 c, .int .i64 0]) ∧ Rd w' w'.heap.size A (List.replicate 128 0) ∧ Below W.heap.size W w' from fun S l hh j hj W d v h => by
    have hx := hh.1.read (j := j) (by rw [hVf.2]; rw [hVf.1]; omega) (by rw [hh.2.2]; omega)
    have := Turned.read K h.alone hh.2.1 j ⟨by omega, by omega⟩
    rw [hx.1, hx.2] at this
    exact this.mono fun x w' ⟨A, c, h1, h2, h3, _⟩ => ⟨A, c, h1, Rd.of_own h2, h3⟩)
  have HV := Lib.hid (And.intro hVn (And.intro hr' hfit))
  have HL := Lib.hid hl
  have HR := Lib.hid hr
  clear hq hn1 hp hm2 hm' hm3 hV hVn hVf hr' hl hr
  go_enter Try.func6, Try.ntmps6
  go_wp2_with fail
  refine (shown_any K L w).mono ?_
  rintro e w1 ⟨rfl, h1⟩
  have K1 := Lib.hid (KN.out w1 h1)
  clear h1 KN
  go_wp2_with fail
  refine K1.out.mono ?_
  rintro e w2 ⟨d, rfl, h2⟩
  have K2 := Lib.hid (KV.out w2 d h2)
  clear h2 KV K1
  go_wp2_with fail
  refine K2.out.mono ?_
  rintro e w3 ⟨v, rfl, h3⟩
  obtain ⟨lb, hlb⟩ : ∃ lb, w3.heap.size = lb := ⟨_, rfl⟩
  obtain ⟨w4, hw4⟩ : ∃ w4, w3.alloc (.cells (lastV fun _ => []).toArray 63) = w4 := ⟨_, rfl⟩
  have H4 := Lib.hid (show Sh St Vt v V lb w w4 d (newS m) fun _ => [] from
    Two.made (sv_firm K L v V) h3 (G := fun g => g = lb) (show Lt lb w4 ⟨lb, 0, none⟩ (fun g => g = lb) fun _ => [] from ⟨rfl, by rw [← hw4, ← hlb]; exact Blk.new w3 _ _, fun _ => Iff.rfl⟩) (fun g hg => by rw [hg, ← hlb]; exact Nat.le_refl _) (hw4 ▸ (Below.refl _ _).alloc (Nat.le_refl _) _))
  have hw4' : w3.alloc (.cells #[.string ⟨#[]⟩, .string ⟨#[]⟩, .string ⟨#[]⟩, .string ⟨#[]⟩, .string ⟨#[]⟩, .string ⟨#[]⟩, .string ⟨#[]⟩] 63) = w4 := hw4
  have HW4 := Lib.hid (And.intro hw4' hlb)
  have HH0 := Lib.hid (show Has V (newS m) fun _ => [] from has_new HV.out.2.2)
  clear h3 K2 hw4 hw4' hlb hfit
  go_upto_region 8 with fail
  rw [HW4.out.1, HW4.out.2]
  go_wp2_with fail
  go_loopw [50] (fun i wr => ∃ (j : Nat) (S : DS) (l : Nat → List UInt8), j ≤ n ∧ j ≤ 60 ∧ i = .int .i64 j ∧ Hid (Sh St Vt v V lb w wr d S l ∧ Has V S l ∧ S.cnt ≤ 5 * j ∧ S.put.length ≤ 5 * j ∧ S.n = m)) (fun i _ => n - (intOf i).toNat)
  case atStart => exact ⟨0, _, _, Nat.zero_le _, by omega, rfl, Lib.hid ⟨H4.out, HH0.out, Nat.le_refl _, Nat.le_refl _, rfl⟩⟩
  case round =>
    clear H4 HH0
    obtain ⟨j, S, l, hj, hj60, rfl, hst⟩ := hrel
    have HHAS := Lib.hid (show Has V S l ∧ Few S ∧ S.n = m from ⟨hst.out.2.1, ⟨by have := hst.out.2.2.2.1; omega, by have := hst.out.2.2.1; omega⟩, hst.out.2.2.2.2⟩)
    by_cases hlt : j < n
    · have hjx : j < ls.length := by rw [HL.out]; exact hlt
      obtain ⟨g, off, a, hA, hra, hok, hae⟩ := HR.out.get hst.out.1.bel hjx
      subst hA
      have HOK := Lib.hid hok
      have HRA := Lib.hid hra
      have HKS := Lib.hid (show (Try.prog.info? 65).map (·.size) = some (puc a).length from pt_size)
      have HKS2 := Lib.hid (show (Try.prog.info? 65).map (·.size) = some (puc a).toArray.size from pt_size)
      have HOLD := Lib.hid (show (#[.int .u8 0, .slice none 0 0] : Array Value).size = (puc a).toArray.size from rfl)
      have HBZ := Lib.hid (Blk.new wr 65 #[.int .u8 0, .slice none 0 0])
      have HONE := Lib.hid (puc_one a)
      obtain ⟨w5, hw5⟩ : ∃ w5, wr.alloc (.cells (puc a).toArray 65) = w5 := ⟨_, rfl⟩
      obtain ⟨pb, hpb⟩ : ∃ pb, wr.heap.size = pb := ⟨_, rfl⟩
      have hb5 : Below wr.heap.size wr w5 := hw5 ▸ (Below.refl _ _).alloc (Nat.le_refl _) _
      have hbk5 : Blk w5 pb 65 (puc a).toArray := by rw [← hw5, ← hpb]; exact Blk.new wr _ _
      have H5 := Lib.hid (And.intro (hst.out.1.on' K L hb5) (And.intro hb5 hbk5))
      have HST := Lib.hid hst.out
      have HW5 := Lib.hid hw5
      have HPB := Lib.hid hpb
      obtain ⟨fs, hfs⟩ := pt_desc
      have HF := Lib.hid hfs
      have hk0 : w5.cell? ⟨pb, 0, none⟩ = some (.int .u8 a.at_) := hbk5.cell 0
      have hk1 : w5.cell? ⟨pb, 1, none⟩ = some (.slice a.adr a.b.length a.cap) := hbk5.cell 1
      obtain ⟨nb, hnb⟩ : ∃ nb, a.b.length = nb := ⟨_, rfl⟩
      have HNB := Lib.hid hnb
      rw [hnb] at hk1
      have ha8 := hok.at_
      have hi1 : (0 : Int) ≤ (j : Int) := by omega
      have hi2 : (j : Int) < (n : Int) := by omega
      have HSV := Lib.hid (H5.out.1.fst)
      clear hae hst hra hok hw5 hpb hb5 hbk5 hfs hnb hjx
      by_cases h60 : 60 ≤ j
      · have h60i : (60 : Int) ≤ (j : Int) := by omega
        go_wp2_with (first
          | refine wpList_load_mid rfl 65 (.tmp 53) rfl g (off + j * 2) rfl (puc a) (.struct fs) HRA.out HF.out rfl HKS.out ?_
          | (refine wpList_store_row rfl 65 (.tmp 13) (.tmp 54) rfl wr.heap.size (puc a).toArray rfl rfl 65 #[.int .u8 0, .slice none 0 0] HBZ.out HKS2.out HOLD.out HONE.out ?_; rw [setRow_alloc, HW5.out, HPB.out]))
        go_wp2_with fail
        refine (KSZ.out _ d v S ⟨HSV.out, HHAS.out.2.2⟩).mono ?_
        rintro e w21 ⟨rfl, hb21⟩
        have H21 := Lib.hid (KON.out _ _ _ _ _ HSV.out hb21)
        clear hb21
        go_wp2_with fail
        refine (KSZ.out w21 d v S ⟨H21.out, HHAS.out.2.2⟩).mono ?_
        rintro e w22 ⟨rfl, hb22⟩
        have hb23 := hb22.trans ((show Below w22.heap.size w22 (w22.alloc (.cells #[.int .i64 0, .int .i64 1, .int .i64 m2, .int .i64 m3] 3)) from (Below.refl _ _).alloc (Nat.le_refl _) _).mono hb22.size)
        obtain ⟨w23, hw23⟩ : ∃ w23, w22.alloc (.cells #[.int .i64 0, .int .i64 1, .int .i64 m2, .int .i64 m3] 3) = w23 := ⟨_, rfl⟩
        obtain ⟨ib2, hib2⟩ : ∃ ib2, w22.heap.size = ib2 := ⟨_, rfl⟩
        rw [hw23] at hb23
        have HI := Lib.hid (show Blk w23 ib2 3 #[.int .i64 0, .int .i64 1, .int .i64 m2, .int .i64 m3] from by rw [← hw23, ← hib2]; exact Blk.new w22 _ _)
        have H23 := Lib.hid (KON.out _ _ _ _ _ H21.out hb23)
        have HW23 := Lib.hid (And.intro hw23 hib2)
        clear hb22 hb23 hw23 hib2
        go_wp2_with fail
        rw [HW23.out.1, HW23.out.2]
        go_loopw [117] (fun s wr => ∃ j : Nat, j ≤ 4 ∧ s = .int .i64 j ∧ Hid (Turned (SV St Vt v V) w d (fun _ => False) wr S ∧ Below w23.heap.size w23 wr)) (fun s _ => 4 - (intOf s).toNat)
        case atStart => exact ⟨0, by omega, rfl, Lib.hid ⟨H23.out, Below.refl _ _⟩⟩
        case round =>
          clear H23
          obtain ⟨j4, hj4, rfl, hst⟩ := hrel
          by_cases hlt : j4 < 4
          · obtain ⟨sx, hsx, hsr⟩ : ∃ sx : Nat, wr.cell? ⟨ib2, j4, none⟩ = some (.int .i64 sx) ∧ (sx < 2 ∨ (m2 ≤ sx ∧ sx < m)) := by
              have hb := HI.out.below hst.out.2 HI.out.lt
              have hc : j4 = 0 ∨ j4 = 1 ∨ j4 = 2 ∨ j4 = 3 := by omega
              rcases hc with rfl | rfl | rfl | rfl
              · exact ⟨0, hb.cell 0, by omega⟩
              · exact ⟨1, hb.cell 1, by omega⟩
              · exact ⟨m2, hb.cell 2, by omega⟩
              · exact ⟨m3, hb.cell 3, by omega⟩
            have hl : (j4 : Int) < 4 := by omega
            have hl0 : (0 : Int) ≤ (j4 : Int) := by omega
            have KR := Lib.hid (KRD.out S l HHAS.out sx hsr wr d v hst.out.1)
            go_wp2_with fail
            refine KR.out.mono ?_
            rintro e w31 ⟨A31, c31, rfl, hr31, hb31⟩
            have H31 := Lib.hid (And.intro (KON.out _ _ _ _ _ hst.out.1 hb31) (hst.out.2.trans (hb31.mono hst.out.2.size)))
            obtain ⟨ib, hib, hy0, hy1, hy2⟩ := info_parts info_u8
            have hmk := fun W => run_make (P := Try.prog) W 42 5 ib _ Try.underlying42 hib hy0 .i64 .i64 (128 : Int) (128 : Int) (by omega) (by omega) (by rw [hy2]; omega) (by omega)
            rw [hy1] at hmk
            obtain ⟨zs, hzs⟩ : ∃ zs : ByteArray, (⟨(List.replicate 128 0).toArray⟩ : ByteArray) = zs := ⟨_, rfl⟩
            have hba : Below w31.heap.size w31 ((w31.alloc (.cells (madeCells #[.int .u8 0] 128) 5)).drew) := (show Below w31.heap.size w31 (w31.alloc (.cells (madeCells #[.int .u8 0] 128) 5)) from (Below.refl _ _).alloc (Nat.le_refl _) _).drew
            have hc1 : (convert 42 9 (.slice A31 128 c31)).run Try.prog w31.drew = .ok (.string zs) w31.drew := by rw [← hzs]; exact conv_own rfl (show Rd w31.drew w31.heap.size A31 _ from hr31)
            have hc2 : (convert 42 9 (.slice A31 128 c31)).run Try.prog ((w31.alloc (.cells (madeCells #[.int .u8 0] 128) 5)).drew) = .ok (.string zs) ((w31.alloc (.cells (madeCells #[.int .u8 0] 128) 5)).drew) := by rw [← hzs]; exact conv_own rfl (hr31.below hba)
            have hc3 : (convert 42 9 (.slice (some ⟨w31.heap.size, 0, none⟩) 128 128)).run Try.prog ((w31.alloc (.cells (madeCells #[.int .u8 0] 128) 5)).drew) = .ok (.string zs) ((w31.alloc (.cells (madeCells #[.int .u8 0] 128) 5)).drew) := by
              rw [← hzs]
              exact conv_own (l := List.replicate 128 0) rfl (made_rd w31 128)
            have HN := Lib.hid (And.intro (KON.out _ _ _ _ _ H31.out.1 hba) (H31.out.2.trans (hba.mono H31.out.2.size)))
            clear hb31 hr31 KR hst hzs hib hy0 hy1 hy2 hba hsr
            go_wp2_with fail
            first | (go_region_held (fun W => (convert 42 9 (.slice A31 128 c31)).run Try.prog W = .ok (.string zs) W) (first | exact hc1 | exact hc2) (fail)) | fail
            go_wp2_with fail
            go_roundw
            case rel => exact ⟨j4 + 1, by omega, by go_num, Lib.hid HN.out⟩
            case measure => simp [intOf]; omega
          · obtain rfl : j4 = 4 := by omega
            have HE := Lib.hid hst.out.1.bel
            go_wp2_with fail
            go_ret
            exact ⟨rfl, HE.out⟩
      · have h60i : ¬ (60 : Int) ≤ (j : Int) := by omega
        by_cases h600 : 600 < nb
        · have h600i : (600 : Int) < (nb : Int) := by omega
          go_wp2_with (first
            | refine wpList_load_mid rfl 65 (.tmp 53) rfl g (off + j * 2) rfl (puc a) (.struct fs) HRA.out HF.out rfl HKS.out ?_
            | (refine wpList_store_row rfl 65 (.tmp 13) (.tmp 54) rfl wr.heap.size (puc a).toArray rfl rfl 65 #[.int .u8 0, .slice none 0 0] HBZ.out HKS2.out HOLD.out HONE.out ?_; rw [setRow_alloc, HW5.out, HPB.out]))
          go_wp2_with fail
          refine (KSZ.out _ d v S ⟨HSV.out, HHAS.out.2.2⟩).mono ?_
          rintro e w21 ⟨rfl, hb21⟩
          have H21 := Lib.hid (KON.out _ _ _ _ _ HSV.out hb21)
          clear hb21
          go_wp2_with fail
          refine (KSZ.out w21 d v S ⟨H21.out, HHAS.out.2.2⟩).mono ?_
          rintro e w22 ⟨rfl, hb22⟩
          have hb23 := hb22.trans ((show Below w22.heap.size w22 (w22.alloc (.cells #[.int .i64 0, .int .i64 1, .int .i64 m2, .int .i64 m3] 3)) from (Below.refl _ _).alloc (Nat.le_refl _) _).mono hb22.size)
          obtain ⟨w23, hw23⟩ : ∃ w23, w22.alloc (.cells #[.int .i64 0, .int .i64 1, .int .i64 m2, .int .i64 m3] 3) = w23 := ⟨_, rfl⟩
          obtain ⟨ib2, hib2⟩ : ∃ ib2, w22.heap.size = ib2 := ⟨_, rfl⟩
          rw [hw23] at hb23
          have HI := Lib.hid (show Blk w23 ib2 3 #[.int .i64 0, .int .i64 1, .int .i64 m2, .int .i64 m3] from by rw [← hw23, ← hib2]; exact Blk.new w22 _ _)
          have H23 := Lib.hid (KON.out _ _ _ _ _ H21.out hb23)
          have HW23 := Lib.hid (And.intro hw23 hib2)
          clear hb22 hb23 hw23 hib2
          go_wp2_with fail
          rw [HW23.out.1, HW23.out.2]
          go_loopw [117] (fun s wr => ∃ j : Nat, j ≤ 4 ∧ s = .int .i64 j ∧ Hid (Turned (SV St Vt v V) w d (fun _ => False) wr S ∧ Below w23.heap.size w23 wr)) (fun s _ => 4 - (intOf s).toNat)
          case atStart => exact ⟨0, by omega, rfl, Lib.hid ⟨H23.out, Below.refl _ _⟩⟩
          case round =>
            clear H23
            obtain ⟨j4, hj4, rfl, hst⟩ := hrel
            by_cases hlt : j4 < 4
            · obtain ⟨sx, hsx, hsr⟩ : ∃ sx : Nat, wr.cell? ⟨ib2, j4, none⟩ = some (.int .i64 sx) ∧ (sx < 2 ∨ (m2 ≤ sx ∧ sx < m)) := by
                have hb := HI.out.below hst.out.2 HI.out.lt
                have hc : j4 = 0 ∨ j4 = 1 ∨ j4 = 2 ∨ j4 = 3 := by omega
                rcases hc with rfl | rfl | rfl | rfl
                · exact ⟨0, hb.cell 0, by omega⟩
                · exact ⟨1, hb.cell 1, by omega⟩
                · exact ⟨m2, hb.cell 2, by omega⟩
                · exact ⟨m3, hb.cell 3, by omega⟩
              have hl : (j4 : Int) < 4 := by omega
              have hl0 : (0 : Int) ≤ (j4 : Int) := by omega
              have KR := Lib.hid (KRD.out S l HHAS.out sx hsr wr d v hst.out.1)
              go_wp2_with fail
              refine KR.out.mono ?_
              rintro e w31 ⟨A31, c31, rfl, hr31, hb31⟩
              have H31 := Lib.hid (And.intro (KON.out _ _ _ _ _ hst.out.1 hb31) (hst.out.2.trans (hb31.mono hst.out.2.size)))
              obtain ⟨ib, hib, hy0, hy1, hy2⟩ := info_parts info_u8
              have hmk := fun W => run_make (P := Try.prog) W 42 5 ib _ Try.underlying42 hib hy0 .i64 .i64 (128 : Int) (128 : Int) (by omega) (by omega) (by rw [hy2]; omega) (by omega)
              rw [hy1] at hmk
              obtain ⟨zs, hzs⟩ : ∃ zs : ByteArray, (⟨(List.replicate 128 0).toArray⟩ : ByteArray) = zs := ⟨_, rfl⟩
              have hba : Below w31.heap.size w31 ((w31.alloc (.cells (madeCells #[.int .u8 0] 128) 5)).drew) := (show Below w31.heap.size w31 (w31.alloc (.cells (madeCells #[.int .u8 0] 128) 5)) from (Below.refl _ _).alloc (Nat.le_refl _) _).drew
              have hc1 : (convert 42 9 (.slice A31 128 c31)).run Try.prog w31.drew = .ok (.string zs) w31.drew := by rw [← hzs]; exact conv_own rfl (show Rd w31.drew w31.heap.size A31 _ from hr31)
              have hc2 : (convert 42 9 (.slice A31 128 c31)).run Try.prog ((w31.alloc (.cells (madeCells #[.int .u8 0] 128) 5)).drew) = .ok (.string zs) ((w31.alloc (.cells (madeCells #[.int .u8 0] 128) 5)).drew) := by rw [← hzs]; exact conv_own rfl (hr31.below hba)
              have hc3 : (convert 42 9 (.slice (some ⟨w31.heap.size, 0, none⟩) 128 128)).run Try.prog ((w31.alloc (.cells (madeCells #[.int .u8 0] 128) 5)).drew) = .ok (.string zs) ((w31.alloc (.cells (madeCells #[.int .u8 0] 128) 5)).drew) := by
                rw [← hzs]
                exact conv_own (l := List.replicate 128 0) rfl (made_rd w31 128)
              have HN := Lib.hid (And.intro (KON.out _ _ _ _ _ H31.out.1 hba) (H31.out.2.trans (hba.mono H31.out.2.size)))
              clear hb31 hr31 KR hst hzs hib hy0 hy1 hy2 hba hsr
              go_wp2_with fail
              first | (go_region_held (fun W => (convert 42 9 (.slice A31 128 c31)).run Try.prog W = .ok (.string zs) W) (first | exact hc1 | exact hc2) (fail)) | fail
              go_wp2_with fail
              go_roundw
              case rel => exact ⟨j4 + 1, by omega, by go_num, Lib.hid HN.out⟩
              case measure => simp [intOf]; omega
            · obtain rfl : j4 = 4 := by omega
              have HE := Lib.hid hst.out.1.bel
              go_wp2_with fail
              go_ret
              exact ⟨rfl, HE.out⟩
        · have h600i : ¬ (600 : Int) < (nb : Int) := by omega
          obtain ⟨t, ht⟩ : ∃ t, a.at_ % 7 = t := ⟨_, rfl⟩
          have hti : (a.at_ : Int) % 7 = (t : Int) := by omega
          have ht7 : t < 7 := by omega
          have hsec : nSec (nb + 4) ≤ 5 := by unfold nSec; omega
          obtain ⟨fe, dn, S', l', e1, e1', hh1, hc1, hp1, hn1', hcs1⟩ := HHAS.out.1.putAny (t := t) (by rw [HV.out.1]; exact ht7) (b := a.b) (n := nb) HNB.out (by omega)
          have hdn : dn ≤ 5 := by rcases hcs1 with h | h <;> omega
          have KP := Lib.hid (Sh.put K L HST.out.1 H5.out.2.1 H5.out.2.2 (by rw [HPB.out]; exact Nat.le_refl _) t (by omega) a.adr nb a.cap a.b HNB.out ⟨by have := HST.out.2.2.2.1; omega, by have := HST.out.2.2.1; omega⟩ (by rw [← HNB.out]; exact HOK.out.le) HOK.out.max (by omega) HOK.out.rd)
          rw [e1, e1'] at KP
          rw [HV.out.2.1] at hcs1
          have HH2 := Lib.hid (show Has V S' l' ∧ Few S' ∧ S'.n = m ∧ S'.cnt ≤ 5 * (j + 1) ∧ S'.put.length ≤ 5 * (j + 1) from by
            have h1 := HST.out.2.2.1
            have h2 := HST.out.2.2.2.1
            exact ⟨hh1, ⟨by omega, by omega⟩, hn1'.trans HST.out.2.2.2.2, by omega, by omega⟩)
          have HCS := Lib.hid hcs1
          clear ht e1 e1' hh1 hc1 hp1 hn1' hcs1 hsec hdn
          go_wp2_with (first
            | refine wpList_load_mid rfl 65 (.tmp 53) rfl g (off + j * 2) rfl (puc a) (.struct fs) HRA.out HF.out rfl HKS.out ?_
            | (refine wpList_store_row rfl 65 (.tmp 13) (.tmp 54) rfl wr.heap.size (puc a).toArray rfl rfl 65 #[.int .u8 0, .slice none 0 0] HBZ.out HKS2.out HOLD.out HONE.out ?_; rw [setRow_alloc, HW5.out, HPB.out]))
          (with_reducible refine KP.out.mono ?_)
          rintro e w6 ⟨rfl, h6, hb6⟩
          have hk0 : w6.cell? ⟨pb, 0, none⟩ = some (.int .u8 a.at_) := hb6.cell 0
          have hk1 : w6.cell? ⟨pb, 1, none⟩ = some (.slice a.adr nb a.cap) := by rw [← HNB.out]; exact hb6.cell 1
          have H6 := Lib.hid (And.intro h6 hb6)
          have q1 := fun dd os => Lib.hid (from_base (P := Try.prog) (w := w6) (fun W hW => KM.out W d v S' (KON.out _ _ _ _ _ h6.fst hW)) dd os)
          have d0 := cell_base hk0
          have d1 := cell_base hk1
          clear h6 hb6 KP
          go_wp2_with fail
          rcases HCS.out with ⟨rfl, c1, _, rfl⟩ | ⟨rfl, c1, _, rfl⟩
          · have c1i : (nb : Int) ≤ (r : Int) := by omega
            refine wp_region_quiet_below (by kernel_rfl) (by kernel_rfl) ?_
            repeat (go_big_quiet_step (first | exact (q1 _ _).out))
            refine wpQuiet_nil ?_
            intro _ hw'
            obtain ⟨pq, rfl⟩ := hw'
            obtain ⟨w7, hw7, hb7⟩ := regrown_some w6 pq
            rw [hw7]
            clear d0 d1 q1 hk0 hk1 hw7
            have hk0 : w7.cell? ⟨pb, 0, none⟩ = some (.int .u8 a.at_) := (H6.out.2.below hb7 H6.out.2.lt).cell 0
            have hk1 : w7.cell? ⟨pb, 1, none⟩ = some (.slice a.adr nb a.cap) := by rw [← HNB.out]; exact (H6.out.2.below hb7 H6.out.2.lt).cell 1
            have h7 := Sh.on' K L H6.out.1 hb7
            have hz := h7.blk.frozen t
            have hct : ∃ v0, w7.cell? ⟨lb, t, none⟩ = some v0 := ⟨_, by rw [h7.blk.cell, List.getElem?_toArray, lastV_get _ ht7]⟩
            obtain ⟨v0, hct⟩ := hct
            have hcb := conv_own (w := w7) (c := a.cap) HNB.out (HOK.out.rd.below h7.bel)
            obtain ⟨zb, hzb⟩ : ∃ zb : ByteArray, (⟨a.b.toArray⟩ : ByteArray) = zb := ⟨_, rfl⟩
            have h8 := Sh.store K L h7 ht7 a.b
            rw [hzb] at hcb h8
            have H8 := Lib.hid h8
            have ht0 : (0 : Int) ≤ (t : Int) := by omega
            have ht7i : (t : Int) < 7 := by omega
            clear hb7 h7 hzb h8
            go_wp2_with fail
            clear hk0 hk1 hz hct hcb
            go_loopw [88] (fun s wr => ∃ k : Nat, k ≤ 7 ∧ s = .int .i64 k ∧ Hid (Sh St Vt v V lb w wr d S' (fun u => if u = t then a.b else l u))) (fun s _ => 7 - (intOf s).toNat)
            case atStart => exact ⟨0, by omega, rfl, Lib.hid H8.out⟩
            case round =>
              clear H8
              obtain ⟨k, hk, rfl, hin⟩ := hrel
              by_cases hkl : k < 7
              · have hkl1 : (k : Int) < 7 := by omega
                have hkl0 : (0 : Int) ≤ (k : Int) := by omega
                have KGG := Lib.hid (KG.out S' (fun u => if u = t then a.b else l u) ⟨HH2.out.1, HH2.out.2.1⟩ k hkl _ d v hin.out.fst)
                go_wp2_with fail
                refine KGG.out.mono ?_
                rintro e w9 ⟨A9, c9, rfl, hyc, hym, hry, hb9⟩
                have h9 := Sh.on' K L hin.out hb9
                obtain ⟨lx, hlx⟩ : ∃ lx, ((fun u => if u = t then a.b else l u) k).length = lx := ⟨_, rfl⟩
                have hcv := conv_own (c := c9) hlx hry
                obtain ⟨zx, hzx⟩ : ∃ zx : ByteArray, (⟨((fun u => if u = t then a.b else l u) k).toArray⟩ : ByteArray) = zx := ⟨_, rfl⟩
                have hcl : w9.cell? ⟨lb, k, none⟩ = some (.string zx) := by rw [h9.blk.cell, List.getElem?_toArray, lastV_get _ hkl, hzx]
                rw [hzx] at hcv
                rw [hlx] at hyc ⊢
                have hcq : ∀ q, (convert 42 9 (.slice A9 lx c9)).run Try.prog (w9.drewN q) = .ok (.string zx) (w9.drewN q) := fun q => by
                  have := conv_own (w := w9.drewN q) (c := c9) hlx (show Rd (w9.drewN q) w9.heap.size A9 _ from hry)
                  rw [hzx] at this
                  exact this
                have H9 := Lib.hid h9
                clear hin KGG hb9 h9 hry hlx hzx hcv
                go_wp2_with fail
                go_quiet (fail)
                have HN := Lib.hid (fun nq => Sh.on' K L H9.out (below_drewN (Below.refl w9.heap.size w9) nq))
                clear hcl hcq H9
                go_wp2_with fail
                go_roundw
                case rel => exact ⟨k + 1, by omega, by go_num, Lib.hid (HN.out _)⟩
                case measure => simp [intOf]; omega
              · obtain rfl : k = 7 := by omega
                have HE := Lib.hid hin.out
                clear hin
                go_wp2_with fail
                go_roundw
                case rel => exact ⟨j + 1, S', (fun u => if u = t then a.b else l u), by omega, by omega, by go_num, Lib.hid ⟨HE.out, HH2.out.1, HH2.out.2.2.2.1, HH2.out.2.2.2.2, HH2.out.2.2.1⟩⟩
                case measure => simp [intOf]; omega
          · have c1i : ¬ (nb : Int) ≤ (r : Int) := by omega
            have c1n : ¬ nb ≤ r := by omega
            refine wp_region_quiet_below (by kernel_rfl) (by kernel_rfl) ?_
            repeat (go_big_quiet_step (first | exact (q1 _ _).out))
            refine wpQuiet_nil ?_
            intro _ hw'
            obtain ⟨pq, rfl⟩ := hw'
            obtain ⟨w7, hw7, hb7⟩ := regrown_some w6 pq
            rw [hw7]
            clear d0 d1 q1 hk0 hk1 hw7
            have H8 := Lib.hid (Sh.on' K L H6.out.1 hb7)
            clear hb7
            go_wp2_with fail
            go_loopw [88] (fun s wr => ∃ k : Nat, k ≤ 7 ∧ s = .int .i64 k ∧ Hid (Sh St Vt v V lb w wr d S' l')) (fun s _ => 7 - (intOf s).toNat)
            case atStart => exact ⟨0, by omega, rfl, Lib.hid H8.out⟩
            case round =>
              clear H8
              obtain ⟨k, hk, rfl, hin⟩ := hrel
              by_cases hkl : k < 7
              · have hkl1 : (k : Int) < 7 := by omega
                have hkl0 : (0 : Int) ≤ (k : Int) := by omega
                have KGG := Lib.hid (KG.out S' l' ⟨HH2.out.1, HH2.out.2.1⟩ k hkl _ d v hin.out.fst)
                go_wp2_with fail
                refine KGG.out.mono ?_
                rintro e w9 ⟨A9, c9, rfl, hyc, hym, hry, hb9⟩
                have h9 := Sh.on' K L hin.out hb9
                obtain ⟨lx, hlx⟩ : ∃ lx, (l' k).length = lx := ⟨_, rfl⟩
                have hcv := conv_own (c := c9) hlx hry
                obtain ⟨zx, hzx⟩ : ∃ zx : ByteArray, (⟨(l' k).toArray⟩ : ByteArray) = zx := ⟨_, rfl⟩
                have hcl : w9.cell? ⟨lb, k, none⟩ = some (.string zx) := by rw [h9.blk.cell, List.getElem?_toArray, lastV_get _ hkl, hzx]
                rw [hzx] at hcv
                rw [hlx] at hyc ⊢
                have hcq : ∀ q, (convert 42 9 (.slice A9 lx c9)).run Try.prog (w9.drewN q) = .ok (.string zx) (w9.drewN q) := fun q => by
                  have := conv_own (w := w9.drewN q) (c := c9) hlx (show Rd (w9.drewN q) w9.heap.size A9 _ from hry)
                  rw [hzx] at this
                  exact this
                have H9 := Lib.hid h9
                clear hin KGG hb9 h9 hry hlx hzx hcv
                go_wp2_with fail
                go_quiet (fail)
                have HN := Lib.hid (fun nq => Sh.on' K L H9.out (below_drewN (Below.refl w9.heap.size w9) nq))
                clear hcl hcq H9
                go_wp2_with fail
                go_roundw
                case rel => exact ⟨k + 1, by omega, by go_num, Lib.hid (HN.out _)⟩
                case measure => simp [intOf]; omega
              · obtain rfl : k = 7 := by omega
                have HE := Lib.hid hin.out
                clear hin
                go_wp2_with fail
                go_roundw
                case rel => exact ⟨j + 1, S', l', by omega, by omega, by go_num, Lib.hid ⟨HE.out, HH2.out.1, HH2.out.2.2.2.1, HH2.out.2.2.2.2, HH2.out.2.2.1⟩⟩
                case measure => simp [intOf]; omega
    · obtain rfl : j = n := by omega
      have HSV := Lib.hid (hst.out.1.fst)
      clear hst
      go_wp2_with fail
      go_wp2_with fail
      refine (KSZ.out _ d v S ⟨HSV.out, HHAS.out.2.2⟩).mono ?_
      rintro e w21 ⟨rfl, hb21⟩
      have H21 := Lib.hid (KON.out _ _ _ _ _ HSV.out hb21)
      clear hb21
      go_wp2_with fail
      refine (KSZ.out w21 d v S ⟨H21.out, HHAS.out.2.2⟩).mono ?_
      rintro e w22 ⟨rfl, hb22⟩
      have hb23 := hb22.trans ((show Below w22.heap.size w22 (w22.alloc (.cells #[.int .i64 0, .int .i64 1, .int .i64 m2, .int .i64 m3] 3)) from (Below.refl _ _).alloc (Nat.le_refl _) _).mono hb22.size)
      obtain ⟨w23, hw23⟩ : ∃ w23, w22.alloc (.cells #[.int .i64 0, .int .i64 1, .int .i64 m2, .int .i64 m3] 3) = w23 := ⟨_, rfl⟩
      obtain ⟨ib2, hib2⟩ : ∃ ib2, w22.heap.size = ib2 := ⟨_, rfl⟩
      rw [hw23] at hb23
      have HI := Lib.hid (show Blk w23 ib2 3 #[.int .i64 0, .int .i64 1, .int .i64 m2, .int .i64 m3] from by rw [← hw23, ← hib2]; exact Blk.new w22 _ _)
      have H23 := Lib.hid (KON.out _ _ _ _ _ H21.out hb23)
      have HW23 := Lib.hid (And.intro hw23 hib2)
      clear hb22 hb23 hw23 hib2
      go_wp2_with fail
      rw [HW23.out.1, HW23.out.2]
      go_loopw [117] (fun s wr => ∃ j : Nat, j ≤ 4 ∧ s = .int .i64 j ∧ Hid (Turned (SV St Vt v V) w d (fun _ => False) wr S ∧ Below w23.heap.size w23 wr)) (fun s _ => 4 - (intOf s).toNat)
      case atStart => exact ⟨0, by omega, rfl, Lib.hid ⟨H23.out, Below.refl _ _⟩⟩
      case round =>
        clear H23
        obtain ⟨j4, hj4, rfl, hst⟩ := hrel
        by_cases hlt : j4 < 4
        · obtain ⟨sx, hsx, hsr⟩ : ∃ sx : Nat, wr.cell? ⟨ib2, j4, none⟩ = some (.int .i64 sx) ∧ (sx < 2 ∨ (m2 ≤ sx ∧ sx < m)) := by
            have hb := HI.out.below hst.out.2 HI.out.lt
            have hc : j4 = 0 ∨ j4 = 1 ∨ j4 = 2 ∨ j4 = 3 := by omega
            rcases hc with rfl | rfl | rfl | rfl
            · exact ⟨0, hb.cell 0, by omega⟩
            · exact ⟨1, hb.cell 1, by omega⟩
            · exact ⟨m2, hb.cell 2, by omega⟩
            · exact ⟨m3, hb.cell 3, by omega⟩
          have hl : (j4 : Int) < 4 := by omega
          have hl0 : (0 : Int) ≤ (j4 : Int) := by omega
          have KR := Lib.hid (KRD.out S l HHAS.out sx hsr wr d v hst.out.1)
          go_wp2_with fail
          refine KR.out.mono ?_
          rintro e w31 ⟨A31, c31, rfl, hr31, hb31⟩
          have H31 := Lib.hid (And.intro (KON.out _ _ _ _ _ hst.out.1 hb31) (hst.out.2.trans (hb31.mono hst.out.2.size)))
          obtain ⟨ib, hib, hy0, hy1, hy2⟩ := info_parts info_u8
          have hmk := fun W => run_make (P := Try.prog) W 42 5 ib _ Try.underlying42 hib hy0 .i64 .i64 (128 : Int) (128 : Int) (by omega) (by omega) (by rw [hy2]; omega) (by omega)
          rw [hy1] at hmk
          obtain ⟨zs, hzs⟩ : ∃ zs : ByteArray, (⟨(List.replicate 128 0).toArray⟩ : ByteArray) = zs := ⟨_, rfl⟩
          have hba : Below w31.heap.size w31 ((w31.alloc (.cells (madeCells #[.int .u8 0] 128) 5)).drew) := (show Below w31.heap.size w31 (w31.alloc (.cells (madeCells #[.int .u8 0] 128) 5)) from (Below.refl _ _).alloc (Nat.le_refl _) _).drew
          have hc1 : (convert 42 9 (.slice A31 128 c31)).run Try.prog w31.drew = .ok (.string zs) w31.drew := by rw [← hzs]; exact conv_own rfl (show Rd w31.drew w31.heap.size A31 _ from hr31)
          have hc2 : (convert 42 9 (.slice A31 128 c31)).run Try.prog ((w31.alloc (.cells (madeCells #[.int .u8 0] 128) 5)).drew) = .ok (.string zs) ((w31.alloc (.cells (madeCells #[.int .u8 0] 128) 5)).drew) := by rw [← hzs]; exact conv_own rfl (hr31.below hba)
          have hc3 : (convert 42 9 (.slice (some ⟨w31.heap.size, 0, none⟩) 128 128)).run Try.prog ((w31.alloc (.cells (madeCells #[.int .u8 0] 128) 5)).drew) = .ok (.string zs) ((w31.alloc (.cells (madeCells #[.int .u8 0] 128) 5)).drew) := by
            rw [← hzs]
            exact conv_own (l := List.replicate 128 0) rfl (made_rd w31 128)
          have HN := Lib.hid (And.intro (KON.out _ _ _ _ _ H31.out.1 hba) (H31.out.2.trans (hba.mono H31.out.2.size)))
          clear hb31 hr31 KR hst hzs hib hy0 hy1 hy2 hba hsr
          go_wp2_with fail
          first | (go_region_held (fun W => (convert 42 9 (.slice A31 128 c31)).run Try.prog W = .ok (.string zs) W) (first | exact hc1 | exact hc2) (fail)) | fail
          go_wp2_with fail
          go_roundw
          case rel => exact ⟨j4 + 1, by omega, by go_num, Lib.hid HN.out⟩
          case measure => simp [intOf]; omega
        · obtain rfl : j4 = 4 := by omega
          have HE := Lib.hid hst.out.1.bel
          go_wp2_with fail
          go_ret
          exact ⟨rfl, HE.out⟩
end
end Go.Proofs.Ythbgcffnnholeaa
