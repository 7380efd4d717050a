/- The contracts of few and does of the laws of package disk, told from what the package's disks do. No statement of the seat is proved here. -/
import Derived.Test.YtdnconakpajdgaaDskKit
import Derived.Test.YtdnconakpajdgaaAppStep
import Derived.Test.YtdnconakpajdgaaOwnRow
import Derived.Deep.Cut
namespace Go.Proofs.Ytdnconakpajdgaa
open Go.RowKit
set_option linter.unusedVariables false

theorem info_u8 : (Try.prog.info? 5).map (fun i => (i.zero, i.size, i.bytes)) = some (some (.int .u8 0), 1, 1) := by kernel_rfl
set_option maxHeartbeats 1000000 in
/-- How many acts are gone through. -/
theorem few_any (A : Option Addr) (n c : Nat) (ls : List DActT) (hl : ls.length = n) (hc : n ≤ c) (hm : c ≤ maxLen) (w : World) (hr : RdD w w.heap.size A ls) :
    Calls Try.prog 12 #[.slice A n c] w fun e w' => ∃ k, k ≤ n ∧ k ≤ 100 ∧ (∀ a ∈ ls.take k, a.b.length ≤ 20000) ∧ e = .returned (.slice A k c) ∧ w = w' := by
  unfold maxLen at hm
  have HL := Lib.hid hl
  have HR := Lib.hid hr
  clear hl hr
  go_enter Try.func12, Try.ntmps12
  go_wp2
  go_loop [3, 7] (fun l i => ∃ k L : Nat, k ≤ n ∧ k ≤ 100 ∧ i = .int .i64 k ∧ l = .int .i64 L ∧ L ≤ 20000 ∧ Hid (∀ a ∈ ls.take k, a.b.length ≤ 20000)) (fun _ i => n - (intOf i).toNat)
  case atStart => exact ⟨0, 20000, Nat.zero_le _, by omega, rfl, rfl, Nat.le_refl _, Lib.hid (by simp)⟩
  case round =>
    obtain ⟨k, L, hk, hk3, rfl, rfl, hL, hall⟩ := hrel
    by_cases hlt : k < n
    · have hkl : k < ls.length := by rw [HL.out]; exact hlt
      obtain ⟨g, off, hA, hg, hra, hok⟩ := HR.out.at_ (j := k) hkl
      have hcb := hra 3 _ (show (dcs ls[k])[3]? = some (.slice ls[k].adr ls[k].b.length ls[k].cap) from rfl)
      have hmx := hok.max
      have hle := hok.le
      unfold maxLen at hmx
      have HTK := Lib.hid (show ls.take (k + 1) = ls.take k ++ [ls[k]] from List.take_succ_eq_append_getElem hkl)
      have HALL := hall
      obtain ⟨a, hae⟩ : ∃ a, ls[k] = a := ⟨_, rfl⟩
      rw [hae] at HTK hcb hmx hle
      obtain ⟨nb, hb⟩ : ∃ nb, a.b.length = nb := ⟨_, rfl⟩
      have HNB := Lib.hid hb
      rw [hb] at hcb hle
      have hi1 : (0 : Int) ≤ (k : Int) := by omega
      have hi2 : (k : Int) < (n : Int) := by omega
      have hkc : k ≤ c := by omega
      have hc63 : c ≤ 9223372036854775807 := by omega
      clear hra hok hb hae hall
      generalize a.adr = ab at *
      generalize a.cap = cb at *
      subst hA
      by_cases h3 : 100 ≤ k
      · have h3i : (100 : Int) ≤ (k : Int) := by omega
        go_wp2
        go_ret
        exact ⟨k, by omega, hk3, HALL.out, rfl, rfl⟩
      · have h3i : ¬ (100 : Int) ≤ (k : Int) := by omega
        by_cases hb2 : L < nb
        · go_wp2
          go_ret
          exact ⟨k, by omega, hk3, HALL.out, rfl, rfl⟩
        · have hsub : ((L : Int) - (nb : Int)) = ((L - nb : Nat) : Int) := by omega
          go_wp2
          go_round
          case rel => exact ⟨k + 1, L - nb, by omega, by omega, by go_num, rfl, by omega, Lib.hid (fun x hx => by
            rw [HTK.out] at hx
            rcases List.mem_append.1 hx with hx | hx
            · exact HALL.out x hx
            · rw [List.mem_singleton.1 hx, HNB.out]; omega)⟩
          case measure => simp [intOf]; omega
    · obtain rfl : k = n := by omega
      go_wp2
      go_ret
      exact ⟨k, Nat.le_refl _, hk3, hall.out, rfl, rfl⟩
/-- What an act makes of a disk, and what it tells. -/
def doS (S : DS) (a : DActT) : DS :=
  if a.kind % 5 = 0 then writeS S a.at_ a.b else if a.kind % 5 = 1 then flushS S else if a.kind % 5 = 2 then cutS S a.num else if a.kind % 5 = 3 then crashS S a.fates else S
def doE (S : DS) (a : DActT) : Nat := if a.kind % 5 = 0 then writeE S a.at_ a.b.length else if a.kind % 5 = 1 then flushE S else 0
theorem out_own {w : World} {base n c : Nat} {A : Option Addr} {xs : List Value} {e : TypeId} {F : Nat → Prop} (h : w.ownsRow base e 1 (.slice A n c) n xs) (hF : ∀ g, F g → g < base) : Out F A n := fun ad ha h0 hf => by
  rcases h.2 with ⟨_, h0'⟩ | ⟨g, cap, cur, hv, hb, _⟩
  · omega
  · injection hv with hA _ _
    rw [hA] at ha
    injection ha with ha
    subst ha
    have := hF _ hf
    simp at this
    omega
section
variable {St : World → Addr → (Nat → Prop) → DS → Prop} {w0 w : World} {s : Addr} {N : Nat → Prop} {S : DS}
set_option maxRecDepth 100000 in
set_option maxHeartbeats 2000000 in
theorem does_any (K : DisksOk St) (h : Turned St w0 s N w S) (hf : Few S) (a : DActT) (ha : a.Ok w0 w0.heap.size) (hbl : a.b.length ≤ 20000) (ho1 : Out N a.adr a.b.length) (ho2 : Out N a.fadr a.fates.length) :
    Calls Try.prog 16 #[.pointer (some s), .agg (dcs a).toArray] w fun e w' => e = .returned (.int .i64 (doE S a : Nat)) ∧ Turned St w0 s N w' (doS S a) := by
  have hb1 : Below w.heap.size w (w.alloc (.cells (dcs a).toArray 35)) := (Below.refl w.heap.size w).alloc (Nat.le_refl _) _
  have hbx := Blk.new w 35 (dcs a).toArray
  obtain ⟨F, hst0, hF0, hbel0⟩ := h
  have HFN := Lib.hid (K.lt hst0)
  have h1 := K.below hst0 hb1
  have hbl1 := hbel0.trans (Only.of_below (F := F) hb1) hF0
  obtain ⟨w1, hw1⟩ : ∃ w1, w.alloc (.cells (dcs a).toArray 35) = w1 := ⟨_, rfl⟩
  obtain ⟨ab, hab⟩ : ∃ ab, w.heap.size = ab := ⟨_, rfl⟩
  rw [hw1] at h1 hbx hbl1
  rw [hab] at hbx
  have hk0 : w1.cell? ⟨ab, 0, none⟩ = some (.int .u8 a.kind) := hbx.cell 0
  have hk1 : w1.cell? ⟨ab, 1, none⟩ = some (.int .i64 a.at_) := hbx.cell 1
  have hk2 : w1.cell? ⟨ab, 2, none⟩ = some (.int .i64 a.num) := hbx.cell 2
  have hk3 : w1.cell? ⟨ab, 3, none⟩ = some (.slice a.adr a.b.length a.cap) := hbx.cell 3
  have hk4 : w1.cell? ⟨ab, 4, none⟩ = some (.slice a.fadr a.fates.length a.fcap) := hbx.cell 4
  have HW := Lib.hid hw1
  have HAB := Lib.hid hab
  have H1 := Lib.hid (show St w1 s F S ∧ (∀ g, F g → N g ∨ w0.heap.size ≤ g) ∧ Only N w0 w1 from ⟨h1, hF0, hbl1⟩)
  have HD := Lib.hid (show Turned St w0 s N w1 S from ⟨F, h1, hF0, hbl1⟩)
  have HBX := Lib.hid hbx
  have hkd := ha.kind
  have HA := Lib.hid ha
  have hact : doS S a = if a.kind % 5 = 0 then writeS S a.at_ a.b else if a.kind % 5 = 1 then flushS S else if a.kind % 5 = 2 then cutS S a.num else if a.kind % 5 = 3 then crashS S a.fates else S := rfl
  have hace : doE S a = if a.kind % 5 = 0 then writeE S a.at_ a.b.length else if a.kind % 5 = 1 then flushE S else 0 := rfl
  clear h1 hbx hw1 hab hb1 hst0 hF0 hbel0 hbl1
  generalize hkk : a.kind = kd at *
  obtain ⟨r, hr⟩ : ∃ r, kd % 5 = r := ⟨_, rfl⟩
  have hri : (kd : Int) % 5 = (r : Int) := by omega
  have hr3 : r < 5 := by omega
  rw [hr] at hact hace
  have HS := Lib.hid hact
  have HE := Lib.hid hace
  clear hkk hr hact hace
  have hcase : r = 0 ∨ r = 1 ∨ r = 2 ∨ r = 3 ∨ r = 4 := by omega
  rcases hcase with rfl | rfl | rfl | rfl | rfl
  · have hri : (kd : Int) % 5 = 0 := hri
    rw [if_pos rfl] at HS HE
    rw [HS.out, HE.out]
    obtain ⟨hst, hF, hbel⟩ := H1.out
    obtain ⟨i0, hi, hz0, hz1, hz2⟩ := info_parts info_u8
    have HI := Lib.hid (And.intro hi (And.intro hz0 (And.intro hz1 hz2)))
    have HST := Lib.hid hst
    have HF := Lib.hid hF
    have HBEL := Lib.hid hbel
    have hbe : Below w1.heap.size w1 (w1.drew.alloc (.cells #[] 5)) := ((show Below w1.heap.size w1 w1.drew from ⟨rfl, rfl, rfl, Nat.le_refl _, fun _ _ => rfl⟩)).alloc (Nat.le_refl _) _
    have HBE := Lib.hid hbe
    have HOE := Lib.hid (show (w1.drew.alloc (.cells #[] 5)).ownsRow w1.heap.size 5 1 (.slice (some ⟨w1.heap.size, 0, none⟩) 0 0) 0 [] from World.ownsRow_lit w1.drew #[] 0 (Nat.le_refl _) (by simp [maxLen]) rfl)
    have HRA := Lib.hid (show ∀ W, Below w1.heap.size w1 W → Rd W w0.heap.size a.adr a.b from fun W hb => ((rd_only hbel HA.out.rd ho1).below (hb.mono hbel.size)))
    have HN := Lib.hid (show a.b.length ≤ 140737488355328 by omega)
    have HC1 := Lib.hid (show ∀ W, Below w1.heap.size w1 W → W.cell? ⟨ab, 1, none⟩ = some (.int .i64 a.at_) ∧ W.cell? ⟨ab, 3, none⟩ = some (.slice a.adr a.b.length a.cap) from fun W hb => ⟨(hb.cell (p := ⟨ab, 1, none⟩) HBX.out.lt).trans hk1, (hb.cell (p := ⟨ab, 3, none⟩) HBX.out.lt).trans hk3⟩)
    have KW := Lib.hid (fun A c W (hb : Below w1.heap.size w1 W) (ho : W.ownsRow w1.heap.size 5 1 (.slice A a.b.length c) a.b.length (bv a.b)) => K.write s F S a.at_ A a.b.length c a.b W (K.below hst hb) hf HA.out.at_ rfl (ownsRow_form2 ho).1 (ownsRow_form2 ho).2 (Rd.of_own ho) (out_own ho fun g hg => K.lt hst g hg))
    have HPO := Lib.hid (fun (W w' : World) (hb : Below w1.heap.size w1 W) (ht : Turned St W s F w' (writeS S a.at_ a.b)) => (Turned.step hF (hbel.trans (Only.of_below (F := F) hb) hF) ht))
    have HS7 := Lib.hid (show ∀ W w', Below w1.heap.size w1 W → Turned St W s F w' (writeS S a.at_ a.b) → w'.cell? ⟨ab, 1, none⟩ = some (.int .i64 a.at_) ∧ w'.cell? ⟨ab, 3, none⟩ = some (.slice a.adr a.b.length a.cap) from fun W w' hb ⟨F', _, _, ho⟩ => by
      have hx : w'.heap[ab]? = W.heap[ab]? := ho.block ab (Nat.lt_of_lt_of_le HBX.out.lt hb.size) (fun hfa => by have := HAB.out; have := HFN.out ab hfa; omega)
      exact ⟨(World.cell?_of_block hx).trans (HC1.out W hb).1, (World.cell?_of_block hx).trans (HC1.out W hb).2⟩)
    clear hst hF hbel hi hz0 hz1 hz2 hbe
    go_enter Try.func16, Try.ntmps16
    go_upto_region 1 with fail
    rw [HW.out, HAB.out]
    go_wp2_with fail
    have hs1 : w1.drew.cell? ⟨ab, 1, none⟩ = some (.int .i64 a.at_) ∧ w1.drew.cell? ⟨ab, 3, none⟩ = some (.slice a.adr a.b.length a.cap) := ⟨hk1, hk3⟩
    have hs2 := HC1.out _ HBE.out
    clear hk0 hk1 hk2 hk3 hk4
    first | (go_region_held3 (fun W => W.cell? ⟨ab, 1, none⟩ = some (.int .i64 a.at_) ∧ W.cell? ⟨ab, 3, none⟩ = some (.slice a.adr a.b.length a.cap)) (first | exact hs1 | exact hs2 | exact hs6 | exact hs7) (first
      | (refine step_append_first _ (by rfl) (.tmp 13) (.tmp 15) 32 (by rfl) w1.heap.size 5 i0 Try.underlying32 HI.out.1 HI.out.2.1 HI.out.2.2.1 HI.out.2.2.2 (.slice (some ⟨w1.heap.size, 0, none⟩) 0 0) (by rfl) HOE.out w0.heap.size a.adr a.cap a.b.length a.b (by rfl) rfl (HRA.out _ HBE.out) HN.out HBE.out.size ?_; intro A6 c6 w6 ho6 hg6; have hb6 : Below w1.heap.size w1 w6 := HBE.out.grown hg6 HBE.out.size (fun g hg => (HOE.out.lt g hg).1); have hs6 := HC1.out _ hb6)
      | (go_at_call 15; (with_reducible refine (KW.out A6 c6 w6 hb6 ho6).mono ?_); rintro e w7 ⟨rfl, ht7⟩; have hs7 : w7.cell? ⟨ab, 1, none⟩ = some (.int .i64 a.at_) ∧ w7.cell? ⟨ab, 3, none⟩ = some (.slice a.adr a.b.length a.cap) := HS7.out _ _ hb6 ht7))) | fail
    have H7 := Lib.hid (HPO.out _ _ hb6 ht7)
    clear hs1 hs2 hs6 hs7 ho6 hg6 hb6 ht7
    go_wp2_with fail
    go_ret
    exact ⟨rfl, H7.out⟩
  · have hri : (kd : Int) % 5 = 1 := hri
    rw [if_neg (by omega), if_pos rfl] at HS HE
    rw [HS.out, HE.out]
    have KC := Lib.hid (Turned.flush K HD.out hf)
    go_enter Try.func16, Try.ntmps16
    go_upto_region 1 with fail
    rw [HW.out, HAB.out]
    go_wp2_with fail
    (with_reducible refine KC.out.mono ?_)
    rintro e w2 ⟨rfl, h2⟩
    have H2 := Lib.hid h2
    clear h2
    go_wp2_with fail
    go_ret
    exact ⟨rfl, H2.out⟩
  · have hri : (kd : Int) % 5 = 2 := hri
    rw [if_neg (by omega), if_neg (by omega), if_pos rfl] at HS
    rw [if_neg (by omega), if_neg (by omega)] at HE
    rw [HS.out, HE.out]
    have KC := Lib.hid (Turned.cut K HD.out a.num HA.out.num)
    go_enter Try.func16, Try.ntmps16
    go_upto_region 1 with fail
    rw [HW.out, HAB.out]
    go_wp2_with fail
    (with_reducible refine KC.out.mono ?_)
    rintro e w2 ⟨rfl, h2⟩
    have H2 := Lib.hid h2
    clear h2
    go_wp2_with fail
    go_ret
    exact ⟨rfl, H2.out⟩
  · have hri : (kd : Int) % 5 = 3 := hri
    rw [if_neg (by omega), if_neg (by omega), if_neg (by omega), if_pos rfl] at HS
    rw [if_neg (by omega), if_neg (by omega)] at HE
    rw [HS.out, HE.out]
    have KC := Lib.hid (Turned.crash K HD.out hf a.fadr a.fates.length a.fcap a.fates rfl HA.out.fle HA.out.fmax HA.out.frd HA.out.fin ho2)
    go_enter Try.func16, Try.ntmps16
    go_upto_region 1 with fail
    rw [HW.out, HAB.out]
    go_wp2_with fail
    (with_reducible refine KC.out.mono ?_)
    rintro e w2 ⟨rfl, h2⟩
    have H2 := Lib.hid h2
    clear h2
    go_wp2_with fail
    go_ret
    exact ⟨rfl, H2.out⟩
  · have hri : (kd : Int) % 5 = 4 := hri
    rw [if_neg (by omega), if_neg (by omega), if_neg (by omega), if_neg (by omega)] at HS
    rw [if_neg (by omega), if_neg (by omega)] at HE
    rw [HS.out, HE.out]
    go_enter Try.func16, Try.ntmps16
    go_upto_region 1 with fail
    rw [HW.out, HAB.out]
    go_wp2_with fail
    go_ret
    exact ⟨rfl, HD.out⟩
end
end Go.Proofs.Ytdnconakpajdgaa
