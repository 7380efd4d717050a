/- The contracts of few and does of the laws of package bloom. No statement of the seat is proved here. -/
import Derived.Test.YtjahlachoabmkaaBloomActs
import Derived.Test.YtjahlachoabmkaaBloomRow
namespace Go.Proofs.Ytjahlachoabmkaa
open Go.RowKit

theorem acs_kind (a : ActT) : (acs a)[0]? = some (.int .u8 a.kind) := rfl
theorem acs_bytes {a : ActT} (h : a.key.Ok) : (acs a)[34]? = some (.slice a.adr a.b.length a.cap) := by
  show (kcs a.key ++ [_])[33]? = _
  rw [List.getElem?_append_right (by rw [kcs_length h]; exact Nat.le_refl _), kcs_length h]; rfl
theorem acs_key {a : ActT} {j : Nat} {u : Value} (hu : (kcs a.key)[j]? = some u) : (acs a)[1 + j]? = some u := by
  rw [Nat.add_comm]
  show (kcs a.key ++ [_])[j]? = _
  rw [List.getElem?_append_left (List.getElem?_eq_some_iff.1 hu).1]; exact hu
theorem Rd.grown {w W : World} {B g : Nat} {A : Option Addr} {l : List UInt8} (h : Rd w B A l) (hg : w.grownBy W (some g)) (hB : B ≤ g) (hs : B ≤ w.heap.size) : Rd W B A l :=
  h.keep fun p hp => World.cell?_of_block (hg.block p.block (by omega) (fun e => by injection e with e; omega))
set_option maxHeartbeats 1000000 in
theorem few_any (A : Option Addr) (n c : Nat) (ls : List ActT) (hl : ls.length = n) (hc : n ≤ c) (hm : c ≤ maxLen) (w : World) (hr : RdA w w.heap.size A ls) :
    Calls Try.prog 11 #[.slice A n c] w fun e w' => ∃ k, k ≤ n ∧ e = .returned (.slice A k c) ∧ w = w' := by
  unfold maxLen at hm
  have HL := Lib.hid hl
  have HR := Lib.hid hr
  clear hl hr
  go_enter Try.func11, Try.ntmps11
  go_wp2
  go_loop [3, 7] (fun l i => ∃ k L : Nat, k ≤ n ∧ i = .int .i64 k ∧ l = .int .i64 L ∧ L ≤ 10000) (fun _ i => n - (intOf i).toNat)
  case atStart => exact ⟨0, 10000, Nat.zero_le _, rfl, rfl, Nat.le_refl _⟩
  case round =>
    obtain ⟨k, L, hk, rfl, rfl, hL⟩ := hrel
    by_cases hlt : k < n
    · obtain ⟨g, off, hA, hg, hra, hok⟩ := HR.out.at_ (j := k) (by rw [HL.out]; exact hlt)
      have hcb := hra 34 _ (acs_bytes hok.key)
      have hmx := hok.max
      have hle := hok.le
      unfold maxLen at hmx
      have hkl : k < ls.length := by rw [HL.out]; exact hlt
      generalize hb : (ls[k]'hkl).b.length = nb at *
      generalize (ls[k]'hkl).adr = ab at *
      generalize (ls[k]'hkl).cap = cb at *
      have hi1 : (0 : Int) ≤ (k : Int) := by omega
      have hi2 : (k : Int) < (n : Int) := by omega
      have hkc : k ≤ c := by omega
      have hc63 : c ≤ 9223372036854775807 := by omega
      clear hra hok hb
      subst hA
      by_cases h3 : 300 ≤ k
      · have h3i : (300 : Int) ≤ (k : Int) := by omega
        go_wp2
        go_ret
        exact ⟨k, by omega, rfl, rfl⟩
      · have h3i : ¬ (300 : Int) ≤ (k : Int) := by omega
        by_cases hb2 : L < nb
        · go_wp2
          go_ret
          exact ⟨k, by omega, rfl, rfl⟩
        · have hsub : ((L : Int) - (nb : Int)) = ((L - nb : Nat) : Int) := by omega
          go_wp2
          go_round
          case rel => exact ⟨k + 1, L - nb, by omega, by go_num, rfl, by omega⟩
          case measure => simp [intOf]; omega
    · obtain rfl : k = n := by omega
      go_wp2
      go_ret
      exact ⟨k, Nat.le_refl _, rfl, rfl⟩
/-- What an act makes of the bits. -/
def actS (n p : Nat) (S : Nat → Bool) (a : ActT) : Nat → Bool :=
  if a.kind % 3 = 0 then putL S (spotsN n p (keyA a.key.1 a.key.2) (keyB a.key.1)) else if a.kind % 3 = 1 then orS S a.b else fun _ => false
theorem act_desc : ∃ fs, Try.prog.underlying 39 = some (.struct fs) := ⟨_, Try.underlying39⟩
theorem act_size : (Try.prog.info? 39).map (·.size) = some 35 := by kernel_rfl
set_option maxRecDepth 100000 in
set_option maxHeartbeats 2000000 in
theorem does_ok (v g n p B : Nat) (S : Nat → Bool) (a : ActT) (w : World) (h : Vec w v g n p S) (ha : a.Ok w B) (hB : B ≤ g) (hBw : B ≤ w.heap.size) :
    Calls Try.prog 12 #[.pointer (some ⟨v, 0, none⟩), .agg (acs a).toArray] w fun e w' => (∃ x, e = .returned x) ∧ Vec w' v g n p (actS n p S a) ∧ w.grownBy w' (some g) := by
  have hb1 := (Below.refl w.heap.size w).alloc (Nat.le_refl _) (.cells (acs a).toArray 39)
  have hbx := Blk.new w 39 (acs a).toArray
  have h1 := h.on hb1
  have hck := hbx.cell 0
  have hcb := hbx.cell 34
  rw [List.getElem?_toArray, acs_bytes ha.key] at hcb
  rw [List.getElem?_toArray, acs_kind] at hck
  have hrk : (w.alloc (.cells (acs a).toArray 39)).rangeAt w.heap.size 1 (kcs a.key) := fun j u hu => by
    rw [hbx.cell, List.getElem?_toArray]; exact acs_key hu
  have hg1 := below_grown hb1 g
  have hrd := ha.rd.below (hb1.mono hBw)
  have hBw1 := Nat.le_trans hBw hb1.size
  obtain ⟨fs, hfs⟩ := key_desc
  have HF := Lib.hid hfs
  have HKS := Lib.hid (show (Try.prog.info? 27).map (·.size) = some (kcs a.key).length by rw [kcs_length ha.key]; exact key_size)
  have HRK := Lib.hid hrk
  have hkd := ha.kind
  have hmx := ha.max
  have hle := ha.le
  have hact := show actS n p S a = if a.kind % 3 = 0 then putL S (spotsN n p (keyA a.key.1 a.key.2) (keyB a.key.1)) else if a.kind % 3 = 1 then orS S a.b else fun _ => false from rfl
  have KA := Lib.hid (add_ok v g n p S (kcs a.key).toArray a.key.1 a.key.2 (kcs_ok ha.key) _ h1)
  have KO := Lib.hid (or_ok v g n p S _ h1 a.adr a.b a.b.length a.cap rfl (by unfold maxLen at hmx; omega) (fun W hW => (hrd.grown hW hB hBw1).more (Nat.le_trans hBw1 hW.size)))
  have KC := Lib.hid (clear_ok v g n p S _ h1)
  have HG := Lib.hid hg1
  have HACT := Lib.hid hact
  clear hb1 hbx h1 hrk hg1 hrd hBw1 hfs ha hB hBw hact hmx hle h
  generalize hkk : a.kind = kd at *
  obtain ⟨r, hr⟩ : ∃ r, kd % 3 = r := ⟨_, rfl⟩
  have hri : (kd : Int) % 3 = (r : Int) := by omega
  have hr3 : r < 3 := by omega
  rw [hr] at HACT
  clear hkk hr
  have hcase : r = 0 ∨ r = 1 ∨ r = 2 := by omega
  rcases hcase with rfl | rfl | rfl
  · have hri : (kd : Int) % 3 = 0 := hri
    go_enter Try.func12, Try.ntmps12
    go_wp2_with (refine wpList_load_mid rfl 27 (.tmp 12) rfl w.heap.size 1 rfl (kcs a.key) (.struct fs) HRK.out HF.out rfl HKS.out ?_)
    refine KA.out.mono ?_
    rintro e w2 ⟨⟨x, rfl⟩, h2, hg2⟩
    have H := Lib.hid (show Vec w2 v g n p (actS n p S a) ∧ w.grownBy w2 (some g) from ⟨HACT.out ▸ h2, gby_trans HG.out hg2⟩)
    clear h2 hg2
    go_wp2
    go_end0
    exact ⟨⟨_, rfl⟩, H.out⟩
  · have hri : (kd : Int) % 3 = 1 := hri
    go_enter Try.func12, Try.ntmps12
    go_wp2_with fail
    refine KO.out.mono ?_
    rintro e w2 ⟨⟨x, rfl⟩, h2, hg2⟩
    have H := Lib.hid (show Vec w2 v g n p (actS n p S a) ∧ w.grownBy w2 (some g) from ⟨HACT.out ▸ h2, gby_trans HG.out hg2⟩)
    clear h2 hg2
    go_wp2
    go_end0
    exact ⟨⟨_, rfl⟩, H.out⟩
  · have hri : (kd : Int) % 3 = 2 := hri
    go_enter Try.func12, Try.ntmps12
    go_wp2_with fail
    refine KC.out.mono ?_
    rintro e w2 ⟨⟨x, rfl⟩, h2, hg2⟩
    have H := Lib.hid (show Vec w2 v g n p (actS n p S a) ∧ w.grownBy w2 (some g) from ⟨HACT.out ▸ h2, gby_trans HG.out hg2⟩)
    clear h2 hg2
    go_wp2
    go_end0
    exact ⟨⟨_, rfl⟩, H.out⟩
end Go.Proofs.Ytjahlachoabmkaa
