/- The document's examples, told from what the package's disks do. No statement of the seat is proved here. -/
import Derived.Test.YtdnconakpajdgaaDskDo
import Derived.Lib.SmallJoins
import Derived.Lib.SlBytesConst
namespace Go.Proofs.Ytdnconakpajdgaa
open Go.RowKit
set_option linter.unusedVariables false

def xyz : List UInt8 := [120, 121, 122]
def sh1 : DS := writeS (newS 2) 1 xyz
def sh2 : DS := crashS sh1 []
def sh3 : DS := writeS sh2 1 xyz
def sh4 : DS := crashS sh3 [2]
theorem sh_e1 : writeE (newS 2) 1 3 = 0 := by decide
theorem sh_e2 : writeE sh2 1 3 = 0 := by decide
theorem sh_e3 : writeE sh4 2 0 = 1 := by decide
theorem sh_r2 : readE sh2 1 = 0 ∧ readS sh2 1 = List.replicate 128 0 := ⟨by decide, by decide⟩
theorem sh_r4 : readE sh4 1 = 0 ∧ readS sh4 1 = 120 :: 121 :: List.replicate 126 0 := ⟨by decide, by decide⟩
theorem sh_f0 : Few (newS 2) := ⟨by decide, by decide⟩
theorem sh_f1 : Few sh1 := ⟨by decide, by decide⟩
theorem sh_f2 : Few sh2 := ⟨by decide, by decide⟩
theorem sh_f3 : Few sh3 := ⟨by decide, by decide⟩
theorem sh_f4 : Few sh4 := ⟨by decide, by decide⟩
/-- The world behind '[]byte("xyz")'. -/
def xw (w : World) : World := w.alloc (.cells #[.int .u8 120, .int .u8 121, .int .u8 122] 5 (3, 4))
theorem xw_below (w : World) : Below w.heap.size w (xw w) := (Below.refl _ _).alloc (Nat.le_refl _) _
theorem xyz_conv (w : World) : (convert 32 32 (.slice (some ⟨w.heap.size, 0, none⟩) 3 3)).run Try.prog (w.alloc (.cells #[.int .u8 120, .int .u8 121, .int .u8 122] 5)) = .ok (.slice (some ⟨w.heap.size, 0, none⟩) 3 3) (xw w) :=
  Lib.run_convert_bytes_const w _ _ _ 3 3 Try.underlying32 Try.underlying5
theorem xyz_rd (w : World) : Rd (xw w) (xw w).heap.size (some ⟨w.heap.size, 0, none⟩) xyz := fun _ => ⟨w.heap.size, 0, rfl, by simp [xw], fun j hj => by
    rw [Nat.zero_add, xw, World.cell?_alloc_mark]
    have hj3 : j < 3 := hj
    match j, hj3 with
    | 0, _ => rfl
    | 1, _ => rfl
    | 2, _ => rfl⟩
theorem two_rd (w : World) : RdV (w.alloc (.cells #[.int .i64 2] 3)) (w.alloc (.cells #[.int .i64 2] 3)).heap.size (some ⟨w.heap.size, 0, none⟩) (iv [2]) := by
  have hb := Blk.new w 3 #[.int .i64 2]
  exact fun _ => ⟨w.heap.size, 0, rfl, hb.lt, fun j hj => by
    rw [Nat.zero_add, hb.cell]
    have hj3 : j < 1 := hj
    match j, hj3 with
    | 0, _ => rfl⟩
theorem in64_lit {x : Int} (h : -100 ≤ x) (h2 : x ≤ 100) : In64 x := ⟨by omega, by omega⟩
theorem rd_own_only {w w' : World} {base n c : Nat} {e : TypeId} {A : Option Addr} {l : List UInt8} {F : Nat → Prop} (h : w.ownsRow base e 1 (.slice A n c) n (bv l)) (hF : ∀ g, F g → g < base ∨ w.heap.size ≤ g) (ho : Only F w w') : w'.ownsRow base e 1 (.slice A n c) n (bv l) :=
  ownsRow_same h fun g hv hl => ho.block g hl fun hf => by
    have := (World.ownsRow.lt h g hv)
    rcases hF g hf with h | h <;> omega
theorem own_only2 {v w w' : World} {base n c : Nat} {e : TypeId} {A : Option Addr} {l : List UInt8} {F : Nat → Prop} (h4 : v.ownsRow base e 1 (.slice A n c) n (bv l)) (h : w.ownsRow base e 1 (.slice A n c) n (bv l)) (hF : ∀ g, F g → g < base ∨ v.heap.size ≤ g) (ho : Only F w w') : w'.ownsRow base e 1 (.slice A n c) n (bv l) :=
  ownsRow_same h fun g hv hl => ho.block g hl fun hf => by
    have := (World.ownsRow.lt h4 g hv)
    rcases hF g hf with h | h <;> omega
theorem blk_new8 (w : World) (cs : Array Value) {g : Nat} (hg : g = w.heap.size) : Blk (w.alloc (.cells cs 5)) g 5 cs := by subst hg; exact Blk.new w _ cs
theorem made_rd (w : World) (n : Nat) : Rd (w.alloc (.cells (madeCells #[.int .u8 0] n) 5)) (w.heap.size + 1) (some ⟨w.heap.size, 0, none⟩) (List.replicate n 0) := fun _ => ⟨w.heap.size, 0, rfl, by omega, fun j hj => by
  rw [Nat.zero_add, (blk_new8 w (madeCells #[.int .u8 0] n) rfl).cell, ← Array.getElem?_toList, toList_madeCells_one]
  have hj' : j < n := by simpa using hj
  rw [List.getElem_replicate, List.getElem?_replicate, if_pos hj']
  rfl⟩
theorem conv_own {w : World} {B c n : Nat} {A : Option Addr} {l : List UInt8} (hl : l.length = n) (h : Rd w B A l) : (convert 32 9 (.slice A n c)).run Try.prog w = .ok (.string ⟨l.toArray⟩) w := by
  subst hl
  exact run_str _ _ _ Try.underlying32 Try.underlying5 Try.underlying9 h c
theorem rd_three {w : World} {B c : Nat} {A : Option Addr} {l : List UInt8} (h : Rd w B A l) : Rd w B A (l.take 3) := h.take 3
section
variable {St : World → Addr → (Nat → Prop) → DS → Prop}
set_option maxRecDepth 100000 in
set_option maxHeartbeats 1000000 in
theorem shown_any (K : DisksOk St) (w : World) : Calls Try.prog 9 #[] w fun e w' => e = .returned (.bool true) ∧ Below w.heap.size w w' := by
  have KN := Lib.hid (Turned.new K 2 (by omega) (Below.refl w.heap.size w))
  go_enter Try.func9, Try.ntmps9
  go_wp2_with fail
  refine KN.out.mono ?_
  rintro e w1 ⟨s, rfl, h1⟩
  have hcv := xyz_conv w1
  have KW := Lib.hid (Turned.write2 K h1 sh_f0 (W := xw w1) (xw_below w1) 1 (in64_lit (by omega) (by omega)) (some ⟨w1.heap.size, 0, none⟩) 3 3 xyz rfl (Nat.le_refl _) (by simp [maxLen]) (xyz_rd w1) (fun ad e => by injection e with e; rw [← e]; exact Nat.le_refl _))
  clear h1 KN
  go_wp2_with fail
  refine KW.out.mono ?_
  rw [sh_e1]
  rintro e w2 ⟨rfl, h2⟩
  have h2 : Dsk St w w2 s sh1 := h2
  have KC := Lib.hid (Turned.crash K h2 sh_f1 none 0 0 [] rfl (Nat.le_refl _) (by simp [maxLen]) (RdV.nil _ _ _) (by simp) (out_none _ _))
  clear hcv KW h2
  go_wp2_with fail
  refine KC.out.mono ?_
  rintro e w3 ⟨rfl, h3⟩
  have h3 : Dsk St w w3 s sh2 := h3
  have KR := Lib.hid (Turned.read K h3 sh_f2 1 (in64_lit (by omega) (by omega)))
  rw [sh_r2.1, sh_r2.2] at KR
  clear KC h3
  go_wp2_with fail
  refine KR.out.mono ?_
  rintro e w4 ⟨A4, c4, rfl, ho4, hb4, h4, F, hst, hFl, hFg⟩
  have HO4 := Lib.hid ho4
  have HFL := Lib.hid hFl
  have HFG := Lib.hid (show ∀ g, F g → w.heap.size ≤ g from fun g hg => (hFg g hg).elim (fun h => h.elim) id)
  have HB4 := Lib.hid h4.bel
  have hcv := xyz_conv w4
  have KW := Lib.hid (Turned.write2 K (Turned.refl hst) sh_f2 (W := xw w4) (xw_below w4) 1 (in64_lit (by omega) (by omega)) (some ⟨w4.heap.size, 0, none⟩) 3 3 xyz rfl (Nat.le_refl _) (by simp [maxLen]) (xyz_rd w4) (fun ad e => by injection e with e; rw [← e]; exact Nat.le_refl _))
  clear KR h4 ho4 hb4 hst hFl hFg
  go_wp2_with fail
  refine KW.out.mono ?_
  rw [sh_e2]
  rintro e w5 ⟨rfl, h5⟩
  have h5 : Turned St w4 s F w5 sh3 := h5
  have KC := Lib.hid (Turned.crash2 K h5 sh_f3 (W := w5.alloc (.cells #[.int .i64 2] 3)) ((Below.refl _ _).alloc (Nat.le_refl _) _) (some ⟨w5.heap.size, 0, none⟩) 1 1 [2] rfl (Nat.le_refl _) (by simp [maxLen]) (two_rd w5) (fun x hx => by rw [List.mem_singleton.1 hx]; exact in64_lit (by omega) (by omega)) (fun ad e => by injection e with e; rw [← e]; exact Nat.le_refl _))
  clear KW h5 hcv
  go_wp2_with fail
  refine KC.out.mono ?_
  rintro e w6 ⟨rfl, h6⟩
  have h6 : Turned St w4 s F w6 sh4 := h6
  have KR := Lib.hid (Turned.read K h6 sh_f4 1 (in64_lit (by omega) (by omega)))
  rw [sh_r4.1, sh_r4.2] at KR
  clear KC h6
  go_wp2_with fail
  refine KR.out.mono ?_
  rintro e w7 ⟨A7, c7, rfl, ho7, hb7, h7, F7, hst7, hFl7, hFg7⟩
  have hcap := ownsRow_form2 ho7
  have hc7 : (3 : Int) ≤ (c7 : Int) := by
    have h1 := hcap.1
    simp at h1
    omega
  have HO7 := Lib.hid ho7
  have HO47 := Lib.hid (show w7.ownsRow w3.heap.size 64 1 (.slice A4 128 c4) 128 (bv (List.replicate 128 0)) from rd_own_only HO4.out (fun g hg => .inl (HFL.out g hg)) h7.only)
  have H7 := Lib.hid h7
  obtain ⟨ib, hib, hy0, hy1, hy2⟩ := info_parts info_u8
  have hmk := fun W => run_make (P := Try.prog) W 32 5 ib _ Try.underlying32 hib hy0 .i64 .i64 (128 : Int) (128 : Int) (by omega) (by omega) (by rw [hy2]; omega) (by omega)
  rw [hy1] at hmk
  obtain ⟨zs, hzs⟩ : ∃ zs : ByteArray, (⟨(List.replicate 128 0).toArray⟩ : ByteArray) = zs := ⟨_, rfl⟩
  have hba : Below w7.heap.size w7 ((w7.alloc (.cells (madeCells #[.int .u8 0] 128) 5)).drew) := (show Below w7.heap.size w7 (w7.alloc (.cells (madeCells #[.int .u8 0] 128) 5)) from (Below.refl _ _).alloc (Nat.le_refl _) _).drew
  have ho47 := ownsRow_below HO47.out hba
  have ho77 := ownsRow_below ho7 hba
  have KS := Lib.hid (show ∀ W : World, W.ownsRow w3.heap.size 64 1 (.slice A4 128 c4) 128 (bv (List.replicate 128 0)) → W.ownsRow w6.heap.size 64 1 (.slice A7 128 c7) 128 (bv (120 :: 121 :: List.replicate 126 0)) →
      (convert 32 9 (.slice A4 128 c4)).run Try.prog W = .ok (.string zs) W ∧ (convert 32 9 (.slice A7 3 c7)).run Try.prog W = .ok (.string ⟨#[120, 121, 0]⟩) W from fun W h1 h2 =>
    ⟨by rw [← hzs]; exact conv_own rfl (Rd.of_own h1), conv_own (l := [120, 121, 0]) rfl ((Rd.of_own h2).take 3)⟩)
  have hs7 := KS.out w7.drew HO47.out ho7
  have hsa := KS.out _ ho47 ho77
  have hcz : (convert 32 9 (.slice (some ⟨w7.heap.size, 0, none⟩) 128 128)).run Try.prog ((w7.alloc (.cells (madeCells #[.int .u8 0] 128) 5)).drew) = .ok (.string zs) ((w7.alloc (.cells (madeCells #[.int .u8 0] 128) 5)).drew) := by
    rw [← hzs]
    exact conv_own (l := List.replicate 128 0) rfl (made_rd w7 128)
  have KWR := Lib.hid (K.write s F7 sh4 2 none 0 0 [] _ (K.below hst7 hba) sh_f4 (in64_lit (by omega) (by omega)) rfl (Nat.le_refl _) (by simp [maxLen]) (Rd.nil _ _ _) (fun ad e => by cases e))
  rw [sh_e3] at KWR
  have KS8 := Lib.hid (show ∀ w8, Turned St ((w7.alloc (.cells (madeCells #[.int .u8 0] 128) 5)).drew) s F7 w8 (writeS sh4 2 []) → (convert 32 9 (.slice A4 128 c4)).run Try.prog w8 = .ok (.string zs) w8 ∧ (convert 32 9 (.slice A7 3 c7)).run Try.prog w8 = .ok (.string ⟨#[120, 121, 0]⟩) w8 from fun w8 ht =>
    KS.out w8 (own_only2 HO4.out ho47 (fun g hg => (hFg7 g hg).imp (fun h => HFL.out g h) id) ht.only) (rd_own_only ho77 (fun g hg => .inl (hFl7 g hg)) ht.only))
  have HP8 := Lib.hid (show ∀ w8, Turned St ((w7.alloc (.cells (madeCells #[.int .u8 0] 128) 5)).drew) s F7 w8 (writeS sh4 2 []) → Below w.heap.size w w8 from fun w8 ht => by
    have h1 : Turned St w4 s F w8 (writeS sh4 2 []) := Turned.step hFg7 (h7.only.trans (Only.of_below (F := F) hba) fun g hg => .inl hg) ht
    exact HB4.out.trans (h1.only.below HFG.out HB4.out.size))
  clear h2 h3 KR h7 ho7 hb7 hcap hba ho47 ho77 hib hy0 hy1 hy2 hzs hst7 hFl7 hFg7
  go_wp2_with fail
  first | (go_region_held (fun W => (convert 32 9 (.slice A4 128 c4)).run Try.prog W = .ok (.string zs) W ∧ (convert 32 9 (.slice A7 3 c7)).run Try.prog W = .ok (.string ⟨#[120, 121, 0]⟩) W) (first | exact hs7 | exact hsa | exact hs8) (first
    | (go_at_call 15; (with_reducible refine KWR.out.mono ?_); rintro e w8 ⟨rfl, ht8⟩; have hs8 := KS8.out _ ht8))) | fail
  have HE := Lib.hid (HP8.out _ ht8)
  clear hs7 hsa hs8 ht8 hcz hmk
  go_wp2_with fail
  go_ret
  exact ⟨rfl, HE.out⟩
end
end Go.Proofs.Ytdnconakpajdgaa
