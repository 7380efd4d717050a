/- The walk of DiskCuts, told from what the package's disks do. No statement of the seat is proved here. -/
import Derived.Test.YtdnconakpajdgaaDskRow
namespace Go.Proofs.Ytdnconakpajdgaa
open Go.RowKit
set_option linter.unusedVariables false

/-- Behind a cut at N operations. -/
structure CutI (N : Nat) (S : DS) : Prop where
  le : S.cnt ≤ N
  on : S.off = false → S.left = (N : Int) - S.cnt
  off : S.off = true → S.cnt = N
theorem CutI.start (n N : Nat) : CutI N (cutS (newS n) N) := ⟨Nat.zero_le _, fun _ => by simp [cutS, newS]; omega, fun h => by simp [cutS, newS] at h⟩
theorem tick_cases (S : DS) : ((tickS S).off = true ∧ (S.left = 0 ∨ S.off = true)) ∨ ((tickS S).off = false ∧ tickS S = S ∧ S.off = false ∧ S.left ≠ 0) := by
  unfold tickS
  by_cases h : S.left = 0
  · rw [if_pos h]; exact .inl ⟨rfl, .inl h⟩
  · rw [if_neg h]
    cases ho : S.off with
    | true => exact .inl ⟨by simp, .inr rfl⟩
    | false => exact .inr ⟨by simp, by simp, rfl, h⟩
theorem CutI.tick {N : Nat} {S : DS} (h : CutI N S) (ht : (tickS S).off = true) : (tickS S).cnt = N ∧ CutI N (tickS S) := by
  have hc : S.cnt = N := by
    rcases tick_cases S with ⟨_, h1⟩ | ⟨h1, _⟩
    · rcases h1 with h1 | h1
      · cases ho : S.off with
        | true => exact h.off ho
        | false => have := h.on ho; omega
      · exact h.off h1
    · rw [ht] at h1; cases h1
  rw [tickS_cnt]
  exact ⟨hc, by rw [tickS_cnt]; omega, fun h => by rw [ht] at h; (cases h), fun _ => by rw [tickS_cnt]; exact hc⟩
/-- What an act that is an operation does behind a cut. -/
structure CutE (N : Nat) (S S' : DS) (e : Nat) : Prop where
  inv : CutI N S'
  yes : e = 0 → S'.cnt = S.cnt + 1
  no : e ≠ 0 → S'.cnt = S.cnt ∧ S'.put.length = S.put.length
  dead : e = 6 → S'.cnt = N ∧ S'.off = true
  put : S'.put.length ≤ S.put.length + 1
theorem CutI.done {N : Nat} {S : DS} (h : CutI N S) (ho : S.off = false) (hl : S.left ≠ 0) (hk : S.Ok) : CutI N (doneS S) := by
  have h1 := h.on ho
  have h2 := h.le
  refine ⟨by show S.cnt + 1 ≤ N; omega, fun _ => ?_, fun h => by have : S.off = true := h; rw [ho] at this; cases this⟩
  show (if 0 < S.left then S.left - 1 else S.left) = (N : Int) - ((S.cnt + 1 : Nat) : Int)
  rw [if_pos (by omega)]; omega
theorem cutE_write {N : Nat} {S : DS} (h : CutI N S) (hk : S.Ok) (at_ : Int) (b : List UInt8) : CutE N S (writeS S at_ b) (writeE S at_ b.length) := by
  unfold writeS writeE
  by_cases hb : badW S at_ b.length
  · rw [if_pos hb, if_pos hb]
    exact ⟨h, fun e => absurd e (by decide), fun _ => ⟨rfl, rfl⟩, fun e => absurd e (by decide), Nat.le_succ _⟩
  · rw [if_neg hb, if_neg hb]
    by_cases ht : (tickS S).off = true
    · rw [if_pos ht, if_pos ht]
      have := h.tick ht
      exact ⟨this.2, fun e => absurd e (by decide), fun _ => ⟨tickS_cnt, by rw [tickS_put]⟩, fun _ => ⟨this.1, ht⟩, by rw [tickS_put]; exact Nat.le_succ _⟩
    · rw [if_neg ht, if_neg ht]
      rcases tick_cases S with ⟨h1, _⟩ | ⟨_, h2, h3, h4⟩
      · exact absurd h1 ht
      · rw [h2]
        have hi : CutI N { S with put := S.put ++ [(at_.toNat, padS b)] } := ⟨h.le, h.on, h.off⟩
        have hko : ({ S with put := [] } : DS).Ok := ⟨hk.le, hk.safe, by simp, by simp, hk.left, hk.off⟩
        refine ⟨?_, fun _ => rfl, fun e => absurd rfl e, fun e => absurd e (by decide), by simp [doneS]⟩
        have h5 := h.on h3
        have h6 := h.le
        refine ⟨by show S.cnt + 1 ≤ N; omega, fun _ => ?_, fun h => by have : S.off = true := h; rw [h3] at this; cases this⟩
        have h7 := hk.left
        show (if 0 < S.left then S.left - 1 else S.left) = (N : Int) - ((S.cnt + 1 : Nat) : Int)
        rw [if_pos (by omega)]; omega
theorem cutE_flush {N : Nat} {S : DS} (h : CutI N S) (hk : S.Ok) : CutE N S (flushS S) (flushE S) := by
  unfold flushS flushE
  by_cases ht : (tickS S).off = true
  · rw [if_pos ht, if_pos ht]
    have := h.tick ht
    exact ⟨this.2, fun e => absurd e (by decide), fun _ => ⟨tickS_cnt, by rw [tickS_put]⟩, fun _ => ⟨this.1, ht⟩, by rw [tickS_put]; exact Nat.le_succ _⟩
  · rw [if_neg ht, if_neg ht]
    rcases tick_cases S with ⟨h1, _⟩ | ⟨_, h2, h3, h4⟩
    · exact absurd h1 ht
    · rw [h2]
      refine ⟨?_, fun _ => rfl, fun e => absurd rfl e, fun e => absurd e (by decide), by simp [doneS]⟩
      have h5 := h.on h3
      have h6 := h.le
      refine ⟨by show S.cnt + 1 ≤ N; omega, fun _ => ?_, fun h => by have : S.off = true := h; rw [h3] at this; cases this⟩
      have h7 := hk.left
      show (if 0 < S.left then S.left - 1 else S.left) = (N : Int) - ((S.cnt + 1 : Nat) : Int)
      rw [if_pos (by omega)]; omega
theorem cutE_act {N : Nat} {S : DS} (h : CutI N S) (hk : S.Ok) (a : DActT) (ha : a.kind % 5 ≤ 1) : CutE N S (doS S a) (doE S a) := by
  unfold doS doE
  by_cases h0 : a.kind % 5 = 0
  · rw [if_pos h0, if_pos h0]; exact cutE_write h hk _ _
  · rw [if_neg h0, if_neg h0, if_pos (by omega), if_pos (by omega)]; exact cutE_flush h hk
theorem doE_cases (S : DS) (a : DActT) : doE S a = 0 ∨ doE S a = 1 ∨ doE S a = 6 := by
  unfold doE writeE flushE
  split
  · split
    · exact .inr (.inl rfl)
    · split
      · exact .inr (.inr rfl)
      · exact .inl rfl
  · split
    · split
      · exact .inr (.inr rfl)
      · exact .inl rfl
    · exact .inl rfl
section
variable {St : World → Addr → (Nat → Prop) → DS → Prop}
set_option maxRecDepth 100000 in
set_option maxHeartbeats 2000000 in
theorem cuts_walk (K : DisksOk St) (A : Option Addr) (ls : List DActT) (n c N : Nat) (hN : N < 256) (hl : ls.length = n) (hc : n ≤ c) (hm : c ≤ maxLen) (w : World) (hr : RdD w w.heap.size A ls) :
    Calls Try.prog 5 #[.slice A n c, .int .u8 N] w fun e w' => e = .returned (.bool true) ∧ Below w.heap.size w w' := by
  have KF := Lib.hid (fun W (hb : Below w.heap.size w W) => few_any A n c ls hl hc hm W ((hr.below hb).more hb.size))
  have HR := Lib.hid hr
  have HL := Lib.hid hl
  have hc63 : c ≤ 9223372036854775807 := by unfold maxLen at hm; omega
  clear hr hl hm
  go_enter Try.func5, Try.ntmps5
  go_wp2_with fail
  refine (shown_any K _).mono ?_
  rintro e w1 ⟨rfl, hb1⟩
  have KN := Lib.hid (Turned.new (w0 := w) K 20 (by omega) hb1)
  clear hb1
  go_wp2_with fail
  refine KN.out.mono ?_
  rintro e w2 ⟨s, rfl, h2⟩
  have KC := Lib.hid (Turned.cut K h2 (N : Int) ⟨by omega, by omega⟩)
  clear h2 KN
  go_wp2_with fail
  refine KC.out.mono ?_
  rintro e w3 ⟨rfl, h3⟩
  have H3 := Lib.hid h3
  have KF3 := Lib.hid (KF.out w3 h3.bel)
  clear h3 KC KF
  go_wp2_with fail
  refine KF3.out.mono ?_
  rintro e w' ⟨k, hkn, hk1, hall, rfl, rfl⟩
  have HALL := Lib.hid hall
  clear hall KF3
  go_wp2_with fail
  obtain ⟨fs, hfs⟩ := act_desc
  have HF := Lib.hid hfs
  have hk63 : k ≤ 9223372036854775807 := by omega
  clear hfs
  go_loopw [31] (fun i wr => ∃ (j : Nat) (S : DS), j ≤ k ∧ i = .int .i64 j ∧ Hid (Dsk St w wr s S ∧ CutI N S ∧ S.cnt ≤ j ∧ S.put.length ≤ j)) (fun i _ => k - (intOf i).toNat)
  case atStart => exact ⟨0, _, Nat.zero_le _, rfl, Lib.hid ⟨H3.out, CutI.start 20 N, Nat.le_refl _, Nat.le_refl _⟩⟩
  case round =>
    clear H3
    obtain ⟨j, S, hj, rfl, hst⟩ := hrel
    by_cases hlt : j < k
    · have hjx : j < ls.length := by rw [HL.out]; omega
      obtain ⟨g, off, a, rfl, hra, hok, hab, _⟩ := HR.out.get hst.out.1.bel hjx hlt HALL.out
      have HOK := Lib.hid hok
      have HRA := Lib.hid hra
      have HKS := Lib.hid (show (Try.prog.info? 35).map (·.size) = some (dcs a).length from act_size)
      have HKS2 := Lib.hid (show (Try.prog.info? 35).map (·.size) = some (dcs a).toArray.size from act_size)
      have HOLD := Lib.hid (show dz.size = (dcs a).toArray.size from rfl)
      have HBZ := Lib.hid (Blk.new wr 35 dz)
      have HONE := Lib.hid (dcs_one a)
      obtain ⟨w5, ab, hw5, hab5, hb5, hbk5⟩ := act_box wr a
      have h5 := hst.out.1.on K hb5
      have HW5 := Lib.hid hw5
      have HAB := Lib.hid hab5
      have HBK := Lib.hid hbk5
      have H5 := Lib.hid (show Dsk St w w5 s S ∧ CutI N S ∧ S.cnt ≤ j ∧ S.put.length ≤ j from ⟨h5, hst.out.2⟩)
      have hck : w5.cell? ⟨ab, 0, none⟩ = some (.int .u8 a.kind) := hbk5.cell 0
      have hi1 : (0 : Int) ≤ (j : Int) := by omega
      have hi2 : (j : Int) < (k : Int) := by omega
      have hkd := hok.kind
      obtain ⟨r, hr⟩ : ∃ r, a.kind % 5 = r := ⟨_, rfl⟩
      have hri : (a.kind : Int) % 5 = (r : Int) := by omega
      have HRR := Lib.hid hr
      clear hra hok hst hw5 hab5 hb5 hbk5 h5 hr
      generalize a.kind = kd at hck hri hkd
      by_cases h1 : r ≤ 1
      · have hr1 : ¬ (1 : Int) < (r : Int) := by omega
        have hkr : a.kind % 5 ≤ 1 := by rw [HRR.out]; exact h1
        have HCE := Lib.hid (cutE_act H5.out.2.1 (H5.out.1.ok K) a hkr)
        obtain ⟨q, hq⟩ : ∃ q, S.cnt = q := ⟨_, rfl⟩
        obtain ⟨p, hp⟩ : ∃ p, S.put.length = p := ⟨_, rfl⟩
        have hqj : q ≤ j := hq ▸ H5.out.2.2.1
        have hpj : p ≤ j := hp ▸ H5.out.2.2.2
        have hFew : Few S := ⟨by omega, by omega⟩
        have KC1 := Lib.hid (Turned.count K H5.out.1)
        have KP1 := Lib.hid (fun W hb => Turned.pending K (H5.out.1.on K (w' := W) hb))
        have KD1 := Lib.hid (fun W hb => does_any K (H5.out.1.on K (w' := W) hb) hFew a HOK.out hab (out_none _ _) (out_none _ _))
        rw [hq] at KC1
        rw [hp] at KP1
        have HFL := Lib.hid (And.intro hq hp)
        clear hkr hq hp hFew
        go_wp2_with (first
          | refine wpList_load_mid rfl 35 (.tmp 33) rfl g (off + j * 5) rfl (dcs a) (.struct fs) HRA.out HF.out rfl HKS.out ?_
          | (refine wpList_store_row rfl 35 (.tmp 9) (.tmp 34) rfl wr.heap.size (dcs a).toArray rfl rfl 35 dz HBZ.out HKS2.out HOLD.out HONE.out ?_; rw [setRow_alloc, HW5.out, HAB.out]))
        (with_reducible refine KC1.out.mono ?_)
        rintro e w6 ⟨rfl, hb6⟩
        have HB6 := Lib.hid hb6
        clear hb6 hck
        go_wp2_with fail
        (with_reducible refine (KP1.out _ HB6.out).mono ?_)
        rintro e w7 ⟨rfl, hb7⟩
        have HB7 := Lib.hid (HB6.out.trans (hb7.mono HB6.out.size))
        have HBK7 := Lib.hid (HBK.out.below HB7.out HBK.out.lt)
        clear hb7
        go_wp2_with (refine wpList_load_row rfl 35 (.tmp 9) rfl ab rfl 35 (dcs a).toArray (0, 0) (.struct fs) HBK7.out HF.out rfl HKS2.out ?_)
        (with_reducible refine (KD1.out _ HB7.out).mono ?_)
        rintro e w8 ⟨rfl, h8⟩
        obtain ⟨S', hS'⟩ : ∃ S', doS S a = S' := ⟨_, rfl⟩
        rw [hS'] at h8 HCE
        have H8 := Lib.hid h8
        have KC8 := Lib.hid (fun W hb => Turned.count K (h8.on K (w' := W) hb))
        have KP8 := Lib.hid (fun W hb => Turned.pending K (h8.on K (w' := W) hb))
        have KX8 := Lib.hid (fun W hb => Turned.dead K (h8.on K (w' := W) hb))
        have hcases := doE_cases S a
        have hce := HCE.out
        generalize doE S a = e8 at *
        obtain ⟨q', hq'⟩ : ∃ q', S'.cnt = q' := ⟨_, rfl⟩
        obtain ⟨p', hp'⟩ : ∃ p', S'.put.length = p' := ⟨_, rfl⟩
        have hqN : q' ≤ N := hq' ▸ hce.inv.le
        have hpp : p' ≤ p + 1 := by have := hce.put; have := HFL.out; omega
        have HN := Lib.hid (show Dsk St w w8 s S' ∧ CutI N S' ∧ S'.cnt = q' ∧ S'.put.length = p' from ⟨h8, hce.inv, hq', hp'⟩)
        rw [hq'] at KC8
        rw [hp'] at KP8
        have hgt : ¬ (N : Int) < (q' : Int) := by omega
        clear h8 KC1 KP1 KD1 HCE
        rcases hcases with rfl | rfl | rfl
        · have hqq : (q' : Int) = (q : Int) + 1 := by have := hce.yes rfl; have := HFL.out; omega
          have hqi : q' ≤ q + 1 := by omega
          have hqe : ((q' : Int) == (q : Int) + 1) = true := by simpa using hqq
          clear hce hq' hp' hqq
          go_wp2_with fail
          (with_reducible refine (KC8.out _ (Below.refl _ _)).mono ?_)
          rintro e w9 ⟨rfl, hb9⟩
          have HB9 := Lib.hid hb9
          clear hb9
          go_wp2_with fail
          (with_reducible refine (KC8.out _ HB9.out).mono ?_)
          rintro e w10 ⟨rfl, hb10⟩
          have HB10 := Lib.hid (HB9.out.trans (hb10.mono HB9.out.size))
          clear hb10
          go_wp2_with fail
          go_roundw
          case rel => exact ⟨j + 1, S', by omega, by go_num, Lib.hid ⟨HN.out.1.on K HB10.out, HN.out.2.1, by have := HN.out.2.2.1; omega, by have := HN.out.2.2.2; omega⟩⟩
          case measure => simp [intOf]; omega
        · have hqq : (q' : Int) = (q : Int) := by have := (hce.no (by decide)).1; have := HFL.out; omega
          have hpq : (p' : Int) = (p : Int) := by have := (hce.no (by decide)).2; have := HFL.out; omega
          have hqi : q' ≤ q + 1 := by omega
          have hqe : ((q' : Int) == (q : Int) + 1) = false := by simp; omega
          obtain rfl : p = p' := by omega
          clear hce hq' hp' hqq hpq
          go_wp2_with fail
          (with_reducible refine (KC8.out _ (Below.refl _ _)).mono ?_)
          rintro e w9 ⟨rfl, hb9⟩
          have HB9 := Lib.hid hb9
          clear hb9
          go_wp2_with fail
          (with_reducible refine (KC8.out _ HB9.out).mono ?_)
          rintro e w10 ⟨rfl, hb10⟩
          have HB10 := Lib.hid (HB9.out.trans (hb10.mono HB9.out.size))
          clear hb10
          go_wp2_with fail
          (with_reducible refine (KP8.out _ HB10.out).mono ?_)
          rintro e w11 ⟨rfl, hb11⟩
          have HB11 := Lib.hid (HB10.out.trans (hb11.mono HB10.out.size))
          clear hb11
          go_wp2_with fail
          go_roundw
          case rel => exact ⟨j + 1, S', by omega, by go_num, Lib.hid ⟨HN.out.1.on K HB11.out, HN.out.2.1, by have := HN.out.2.2.1; omega, by have := HN.out.2.2.2; omega⟩⟩
          case measure => simp [intOf]; omega
        · have hqq : (q' : Int) = (q : Int) := by have := (hce.no (by decide)).1; have := HFL.out; omega
          have hpq : (p' : Int) = (p : Int) := by have := (hce.no (by decide)).2; have := HFL.out; omega
          have hqN2 : (q' : Int) = (N : Int) := by have := (hce.dead rfl).1; omega
          have hqi : q' ≤ q + 1 := by omega
          have hqe : ((q' : Int) == (q : Int) + 1) = false := by simp; omega
          obtain rfl : p = p' := by omega
          rw [(hce.dead rfl).2] at KX8
          obtain rfl : N = q' := by omega
          clear hce hq' hp' hqq hpq hqN2
          go_wp2_with fail
          (with_reducible refine (KC8.out _ (Below.refl _ _)).mono ?_)
          rintro e w9 ⟨rfl, hb9⟩
          have HB9 := Lib.hid hb9
          clear hb9
          go_wp2_with fail
          (with_reducible refine (KC8.out _ HB9.out).mono ?_)
          rintro e w10 ⟨rfl, hb10⟩
          have HB10 := Lib.hid (HB9.out.trans (hb10.mono HB9.out.size))
          clear hb10
          go_wp2_with fail
          (with_reducible refine (KC8.out _ HB10.out).mono ?_)
          rintro e w11 ⟨rfl, hb11⟩
          have HB11 := Lib.hid (HB10.out.trans (hb11.mono HB10.out.size))
          clear hb11
          go_wp2_with fail
          (with_reducible refine (KX8.out _ HB11.out).mono ?_)
          rintro e w12 ⟨rfl, hb12⟩
          have HB12 := Lib.hid (HB11.out.trans (hb12.mono HB11.out.size))
          clear hb12
          go_wp2_with fail
          (with_reducible refine (KP8.out _ HB12.out).mono ?_)
          rintro e w13 ⟨rfl, hb13⟩
          have HB13 := Lib.hid (HB12.out.trans (hb13.mono HB12.out.size))
          clear hb13
          go_wp2_with fail
          go_roundw
          case rel => exact ⟨j + 1, S', by omega, by go_num, Lib.hid ⟨HN.out.1.on K HB13.out, HN.out.2.1, by have := HN.out.2.2.1; omega, by have := HN.out.2.2.2; omega⟩⟩
          case measure => simp [intOf]; omega
      · have hr1 : (1 : Int) < (r : Int) := by omega
        go_wp2_with (first
          | refine wpList_load_mid rfl 35 (.tmp 33) rfl g (off + j * 5) rfl (dcs a) (.struct fs) HRA.out HF.out rfl HKS.out ?_
          | (refine wpList_store_row rfl 35 (.tmp 9) (.tmp 34) rfl wr.heap.size (dcs a).toArray rfl rfl 35 dz HBZ.out HKS2.out HOLD.out HONE.out ?_; rw [setRow_alloc, HW5.out, HAB.out]))
        go_roundw
        case rel => exact ⟨j + 1, S, by omega, by go_num, Lib.hid ⟨H5.out.1, H5.out.2.1, by have := H5.out.2.2.1; omega, by have := H5.out.2.2.2; omega⟩⟩
        case measure => simp [intOf]; omega
    · obtain rfl : k = j := by omega
      have HE := Lib.hid hst.out.1.bel
      clear hst
      go_wp2_with fail
      go_ret
      exact ⟨rfl, HE.out⟩
end
end Go.Proofs.Ytdnconakpajdgaa
