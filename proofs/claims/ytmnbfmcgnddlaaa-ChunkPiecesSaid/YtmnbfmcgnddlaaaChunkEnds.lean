/- The contract of the reference's Ends. No statement of the seat is proved here. -/
import Derived.Test.YtmnbfmcgnddlaaaChunkRef
import Derived.Test.YtmnbfmcgnddlaaaChunkSplit
namespace Go.Proofs.Ytmnbfmcgnddlaaa
open Go.RowKit

/-- A row of the call's own, of slices of what was there. -/
structure Cuts (w : World) (B b : Nat) (V : Value) (ps : List Part) : Prop where
  row : w.ownsRow B 25 1 V ps.length (psv ps)
  each : ∀ p ∈ ps, Rd w b p.1 p.2.2 ∧ p.2.2.length ≤ p.2.1 ∧ p.2.1 ≤ maxLen
theorem Cuts.on {w w' : World} {B b : Nat} {V : Value} {ps : List Part} (h : Cuts w B b V ps) (hb : Below w.heap.size w w') (hbb : b ≤ w.heap.size) : Cuts w' B b V ps :=
  ⟨ownsRow_below h.row hb, fun p hp => ⟨(h.each p hp).1.below (hb.mono hbb), (h.each p hp).2⟩⟩
theorem Cuts.parts {w : World} {B b n c : Nat} {A : Option Addr} {ps : List Part} (h : Cuts w B b (.slice A n c) ps) (hn : ps.length = n) (hb : b ≤ w.heap.size) : Parts w w.heap.size A ps := by
  subst hn
  exact ⟨own_rdv h.row, fun p hp => ⟨(h.each p hp).1.more hb, (h.each p hp).2⟩⟩
theorem Cuts.form {w : World} {B b : Nat} {V : Value} {ps : List Part} (h : Cuts w B b V ps) : ∃ A c, V = .slice A ps.length c ∧ ps.length ≤ c ∧ c ≤ maxLen := ownsRow_form h.row
structure SplitR (C : Ctr) (l : List UInt8) (A : Option Addr) (B : Nat) (w' : World) (V : Value) (A' : Option Addr) (k' c' : Nat) : Prop where
  out : ∃ ps, Cuts w' B B V ps ∧ psb ps = chunksB C l
  left : (leftB C l).length = k'
  rd : Rd w' B A' (leftB C l)
  le : k' ≤ c'
  max : c' ≤ 9223372036854775807
  blk : ∀ ad', A' = some ad' → ∃ ad, A = some ad ∧ ad'.block = ad.block
theorem blk_step {A A' : Option Addr} {c X : Nat} (h : ∀ ad', A' = some ad' → ∃ ad, A = some ad ∧ ad'.block = ad.block) : ∀ ad', (if c = X then A' else A'.map (·.add X)) = some ad' → ∃ ad, A = some ad ∧ ad'.block = ad.block := by
  intro ad' he
  split at he
  · exact h ad' he
  · rcases A' with _ | a
    · cases he
    · obtain ⟨ad, e, hb⟩ := h a rfl
      refine ⟨ad, e, ?_⟩
      simp at he
      rw [← he, ← hb]
      unfold Addr.add
      split <;> rfl
set_option maxHeartbeats 2000000 in
theorem refends_ok (C : Ctr) (K : C.Ok) (A : Option Addr) (l : List UInt8) (n c : Nat) (hl : l.length = n) (hn : n ≤ 1000000000) (hc : n ≤ c) (hm : c ≤ 9223372036854775807) (w : World) (hr : Rd w w.heap.size A l) :
    Calls Try.prog 21 #[ctr C.mn C.mx C.ma.toNat C.ba.toNat, .slice A n c] w fun e w' => ∃ V A' k' c', e = .returned (.tuple #[V, .slice A' k' c']) ∧ SplitR C l A w.heap.size w' V A' k' c' ∧ Below w.heap.size w w' := by
  obtain ⟨i0, hi, hz0, hz1, hz2⟩ := info_parts info_bytes
  obtain ⟨g, hg⟩ : ∃ g, g = w.heap.size := ⟨_, rfl⟩
  have hb1 := (Below.refl w.heap.size w).alloc (Nat.le_refl _) (.cells #[.int .i64 C.mn, .int .i64 C.mx, .int .u32 C.ma.toNat, .int .u32 C.ba.toNat] 24)
  have hB1 := blk_at w 24 #[.int .i64 C.mn, .int .i64 C.mx, .int .u32 C.ma.toNat, .int .u32 C.ba.toNat] hg
  have HL := Lib.hid hl
  have HK := Lib.hid K
  have HG := Lib.hid hg
  clear hl K
  go_enter Try.func21, Try.ntmps21
  go_wp2_with fail
  rw [← hg]
  generalize w.alloc (.cells #[.int .i64 C.mn, .int .i64 C.mx, .int .u32 C.ma.toNat, .int .u32 C.ba.toNat] 24) = w1 at *
  have hr1 : Rd w1 w.heap.size A l := hr.below hb1
  have hgl := hB1.lt
  with_reducible refine (refcut_ok C HK.out A l n c HL.out hc w1 (hr1.more hb1.size)).mono ?_
  rintro e w2 ⟨rfl, hb2⟩
  have HB1 := Lib.hid hB1
  have Hb1 := Lib.hid hb1
  have HR1 := Lib.hid hr1
  clear hb1 hr1 hB1 hr hg
  go_wp2_with fail
  go_loopw [1, 6, 7] (fun b v i wr => ∃ (l' : List UInt8) (A' : Option Addr) (k' c' : Nat) (ps : List Part), b = .slice A' k' c' ∧ l'.length = k' ∧ ps.length + k' ≤ n ∧ Rd w1 w.heap.size A' l' ∧ k' ≤ c' ∧ c' ≤ 9223372036854775807 ∧
      wr.ownsRow w1.heap.size 25 1 v ps.length (psv ps) ∧ (∀ p ∈ ps, Rd w1 w.heap.size p.1 p.2.2 ∧ p.2.2.length ≤ p.2.1 ∧ p.2.1 ≤ maxLen) ∧ chunksB C l = psb ps ++ chunksB C l' ∧ leftB C l = leftB C l' ∧ i = .int .i64 (cutB C l') ∧ (∀ ad', A' = some ad' → ∃ ad, A = some ad ∧ ad'.block = ad.block) ∧ Below w1.heap.size w1 wr)
    (fun b _ _ _ => lenV b)
  case atStart => exact ⟨l, A, n, c, [], rfl, HL.out, by simp, HR1.out, hc, hm, World.ownsRow_nil _ _ _ _, by simp, rfl, rfl, rfl, fun ad h => ⟨ad, h, rfl⟩, hb2⟩
  case round =>
    obtain ⟨l', A', k', c', ps, rfl, hl', hpk, hr', hc', hm', hch, hea, hcs, hlf, rfl, hbk, hbr⟩ := hrel
    obtain ⟨V, hV⟩ : ∃ V, V = u6 := ⟨_, rfl⟩
    rw [← hV] at hch ⊢
    obtain ⟨X, hX⟩ : ∃ X, X = cutB C l' := ⟨_, rfl⟩
    rw [← hX]
    clear hb2
    have hbw : Below w.heap.size w wr := Hb1.out.trans (hbr.mono Hb1.out.size)
    by_cases h0 : X = 0
    · have hs := ends_stop (C := C) (l := l') (by rw [← hX]; exact h0)
      have H := Lib.hid (show SplitR C l A w.heap.size wr V A' k' c' from
        ⟨⟨ps, ⟨ownsRow_base hch Hb1.out.size, fun p hp => ⟨(hea p hp).1.below (hbr.mono Hb1.out.size), (hea p hp).2⟩⟩, by rw [hcs, hs.1, List.append_nil]⟩, by rw [hlf, hs.2]; exact hl', by rw [hlf, hs.2]; exact hr'.below (hbr.mono Hb1.out.size), hc', hm', hbk⟩)
      clear hs hcs hlf hea hch hX hr' hV hbk
      subst h0
      go_wp2
      go_ret2
      exact ⟨_, _, _, _, rfl, H.out, hbw⟩
    · have hmore := ends_more HK.out (l := l') (by rw [← hX]; exact h0)
      rw [← hX] at hmore
      have hcc := cut_cases HK.out l'
      rw [← hX, hl'] at hcc
      have hXk : X ≤ k' := by omega
      have hX16 : 16 ≤ X := by have := HK.out.lo; omega
      have hXc : (X : Int) ≤ (c' : Int) := by omega
      have hXp : (0 : Int) < (X : Int) := by omega
      have hrt := Lib.hid (hr'.take X)
      have hlt := Lib.hid (show (l'.take X).length = X by rw [List.length_take, hl']; omega)
      have hld := Lib.hid (show (l'.drop X).length = k' - X by rw [List.length_drop, hl'])
      have hlc := Lib.hid (show l'.length ≤ c' by omega)
      have hrd := Lib.hid (show Rd w1 w.heap.size (if c' = X then A' else A'.map (·.add X)) (l'.drop X) from hr'.drop hlc.out)
      have HX := Lib.hid hX
      have HXC := Lib.hid (show X ≤ c' by omega)
      have hcm2 : c' ≤ maxLen := by simpa [maxLen] using hm'
      have HM := Lib.hid hmore
      have HE := Lib.hid hea
      have HCS := Lib.hid hcs
      have HLF := Lib.hid hlf
      have hpl : ps.length ≤ 1000000000 := by omega
      have hX9 : X ≤ 1000000000 := by omega
      have hbk3 := blk_step hbk (c := c') (X := X)
      obtain ⟨A3, hA3⟩ : ∃ A3, (if c' = X then A' else A'.map (·.add X)) = A3 := ⟨_, rfl⟩
      rw [hA3] at hrd hbk3
      have HBK := Lib.hid hbk3
      clear hbk hbk3
      have hkX : ((k' : Int) - (X : Int)) = ((k' - X : Nat) : Int) := by omega
      have hcX : ((c' : Int) - (X : Int)) = ((c' - X : Nat) : Int) := by omega
      have hpk2 := Lib.hid hpk
      clear hX hmore hcc hea hcs hlf hr' hl' hpk hV
      have hpv : Part.val (A', c', l'.take X) = .slice A' X c' := by simp only [Part.val]; rw [hlt.out]
      have hb4 := hbr.alloc hbr.size (.cells #[.slice A' X c'] 25)
      have hch4 := ownsRow_below hch ((Below.refl wr.heap.size wr).alloc (Nat.le_refl _) (.cells #[.slice A' X c'] 25))
      have H4 := Lib.hid (And.intro hb4 hch4)
      clear hch hbw hbr hb4 hch4
      go_wp2_with (at_builtin; refine wpList_append_own _ rfl (.tmp 16) (.tmp 20) 32 rfl w1.heap.size 25 i0 (.slice none 0 0) 1 24 Try.underlying32 hi hz0 hz1 hz2 rfl (by decide) V ps.length (psv ps) rfl H4.out.2 ⟨wr.heap.size, 0, none⟩ 1 1 [.slice A' X c'] rfl rfl ?c1 ?c2 ?c3 ?c4 ?c5 ?_)
      case c1 => exact cell_one_new _ _ _
      case c2 => intro u hu; simp at hu; subst hu; rfl
      case c3 => unfold maxLen; omega
      case c4 => omega
      case c5 => exact H4.out.1.size
      intro V' w5 hown' hgrow _
      have hch5 : w5.ownsRow w1.heap.size 25 1 V' (ps ++ [(A', c', l'.take X)]).length (psv (ps ++ [(A', c', l'.take X)])) := by
        rw [List.length_append, psv, List.map_append, List.map_singleton, hpv]; exact hown'
      have hb5 : Below w1.heap.size w1 w5 := H4.out.1.grown hgrow H4.out.1.size (fun g hg => (H4.out.2.lt g hg).1)
      have hB5 := HB1.out.below hb5 hgl
      obtain ⟨hc0, hc1, hc2, hc3⟩ := ctr_cells hB5
      have H5 := Lib.hid (And.intro hch5 hb5)
      have hkc : k' - X ≤ c' - X := by omega
      have hcm : c' - X ≤ 9223372036854775807 := by omega
      have hr5 := Lib.hid (show Rd w5 w5.heap.size A3 (l'.drop X) from (hrd.out.below (hb5.mono Hb1.out.size)).more (Nat.le_trans Hb1.out.size hb5.size))
      clear H4 hown' hgrow hpv hch5 hb5 hB5
      go_wp2_with fail
      with_reducible refine (refcut_ok C HK.out A3 (l'.drop X) (k' - X) (c' - X) hld.out hkc w5 hr5.out).mono ?_
      rintro e w6 ⟨rfl, hb6⟩
      have H6 := Lib.hid (And.intro (ownsRow_below H5.out.1 hb6) (H5.out.2.trans (hb6.mono H5.out.2.size)))
      clear hc0 hc1 hc2 hc3 hb6 H5 hr5
      go_wp2_with fail
      go_roundw
      case rel => exact ⟨l'.drop X, A3, k' - X, c' - X, ps ++ [(A', c', l'.take X)], rfl, hld.out, by rw [List.length_append]; have := hpk2.out; simp; omega, hrd.out, hkc, hcm, H6.out.1, fun p hp => (List.mem_append.1 hp).elim (HE.out p) (fun hp => by rw [List.mem_singleton.1 hp]; exact ⟨hrt.out, by simp only []; rw [hlt.out]; exact HXC.out, hcm2⟩),
          by rw [HCS.out, HM.out.1]; simp [psb], by rw [HLF.out, HM.out.2], rfl, HBK.out, H6.out.2⟩
      case measure => simp [lenV]; omega
end Go.Proofs.Ytmnbfmcgnddlaaa
