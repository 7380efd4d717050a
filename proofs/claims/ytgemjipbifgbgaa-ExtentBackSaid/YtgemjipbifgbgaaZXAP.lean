/- The reference's extents (cellarageref16): Take. No statement of the seat is proved here. -/
import Derived.Test.YtgemjipbifgbgaaZXAF
import Derived.Test.YtgemjipbifgbgaaExRefS
import Derived.Test.YtgemjipbifgbgaaZXAO
import Derived.Test.YtgemjipbifgbgaaZXAG
import Derived.Test.YtgemjipbifgbgaaZXAI
import Derived.Test.YtgemjipbifgbgaaZXAN
import Derived.Great.BuildSlice
import Derived.Deep.DeepCutAuto
namespace Go.Proofs.Ytgemjipbifgbgaa
open Go.RowKit
set_option linter.unusedVariables false
set_option linter.unusedSimpArgs false

/-- An extent of which the first bytes are laid. -/
def exJ (s : List UInt8) : Array Value := (bv (s ++ List.replicate (32 - s.length) 0) ++ [Value.int .u32 0, Value.int .i64 0, Value.int .i64 0]).toArray
theorem exJ_nil : rz = exJ [] := rfl
theorem exJ_set {s : List UInt8} (h : s.length < 32) (x : UInt8) : (exJ s).setIfInBounds s.length (.int .u8 x.toNat) = exJ (s ++ [x]) := by
  unfold exJ
  rw [List.setIfInBounds_toArray, bv_append, bv_append, List.append_assoc, List.set_append_right _ _ (by rw [bv_length]; exact Nat.le_refl _), bv_length, Nat.sub_self, show 32 - s.length = (32 - (s ++ [x]).length) + 1 by simp; omega, List.replicate_succ]
  simp [bv]
theorem exJ_size {s : List UInt8} (h : s.length ≤ 32) : (exJ s).size = 35 := by simp [exJ, bv_length]; omega
theorem exJ_full {s : List UInt8} (h : s.length = 32) : exJ s = (rcs ((s, 0), (0, 0))).toArray := by simp [exJ, h, rcs, kcs]
theorem rcs_n {s : List UInt8} {N M : Nat} {o n : Int} (h : s.length = 32) : ((rcs ((s, N), (o, n))).toArray.setIfInBounds 32 (.int .u32 M)) = (rcs ((s, M), (o, n))).toArray := by
  unfold rcs kcs
  rw [List.setIfInBounds_toArray]
  congr 1
  rw [List.append_assoc, List.append_assoc, List.set_append_right _ _ (by rw [bv_length, h]; omega), bv_length, h]
  rfl
theorem rcs_o {s : List UInt8} {N : Nat} {o n a : Int} (h : s.length = 32) : ((rcs ((s, N), (o, n))).toArray.setIfInBounds 33 (.int .i64 a)) = (rcs ((s, N), (a, n))).toArray := by
  unfold rcs kcs
  rw [List.setIfInBounds_toArray]
  congr 1
  rw [List.append_assoc, List.append_assoc, List.set_append_right _ _ (by rw [bv_length, h]; omega), bv_length, h]
  rfl
theorem rcs_l {s : List UInt8} {N : Nat} {o n a : Int} (h : s.length = 32) : ((rcs ((s, N), (o, n))).toArray.setIfInBounds 34 (.int .i64 a)) = (rcs ((s, N), (o, a))).toArray := by
  unfold rcs kcs
  rw [List.setIfInBounds_toArray]
  congr 1
  rw [List.append_assoc, List.append_assoc, List.set_append_right _ _ (by rw [bv_length, h]; omega), bv_length, h]
  rfl
/-- The extents that were read, and the world, beside the reader's block g. -/
structure EX (w0 w : World) (g : Nat) (P : Option Addr) (pc : Nat) (ls : List RowT) : Prop where
  own : OwnG 51 35 rcs w w0.heap.size P pc ls
  bel : Below w0.heap.size w0 w
  gw : w0.heap.size ≤ g
  ok : ∀ r ∈ ls, r.Ok
section
variable {w0 w w' : World} {g c i xb : Nat} {A P : Option Addr} {l : List UInt8} {f : Int} {pc : Nat} {ls : List RowT}
theorem EX.get (h : EX w0 w g P pc ls) (hr : Ref w g A c l i f) (hg : w.grownBy w' (some g)) : EX w0 w' g P pc ls :=
  ⟨h.own.grown hg fun k hk e => by
    injection hk with hk
    obtain ⟨cur, hb⟩ := h.own.kind e
    exact blk_other hr.1 hb (by decide) hk, h.bel.grown hg h.bel.size fun r hr => by injection hr with hr; rw [← hr]; exact h.gw, h.gw, h.ok⟩
theorem EX.on (h : EX w0 w g P pc ls) (hb : Below w.heap.size w w') : EX w0 w' g P pc ls := ⟨h.own.on hb, h.bel.trans (hb.mono h.bel.size), h.gw, h.ok⟩
theorem EX.box (h : EX w0 w g P pc ls) (hg : w.grownBy w' (some xb)) (hx : w0.heap.size ≤ xb) (hP : ∀ ad, P = some ad → ad.block < xb) : EX w0 w' g P pc ls :=
  ⟨h.own.grown hg fun k hk e => by
    injection hk with hk
    obtain ⟨ad, hA, h2⟩ := own_adr k e
    have := hP ad hA
    omega, h.bel.grown hg h.bel.size fun r hr => by injection hr with hr; rw [← hr]; exact hx, h.gw, h.ok⟩
end
/-- What the next 40 bytes tell. -/
theorem rowD_at (b : List UInt8) {i j : Nat} (h : i = 4 + 40 * j) : rowD ((b.drop 4).drop (40 * j)) = (((b.drop i).take 32, val ((b.drop (i + 32)).take 4)), (((val ((b.drop (i + 36)).take 2) : Nat) : Int), ((val ((b.drop (i + 38)).take 2) : Nat) : Int))) := by
  unfold rowD
  rw [List.drop_drop, List.drop_drop, List.drop_drop, List.drop_drop, ← h]
/-- What was read, j extents of N. -/
def StE (b : List UInt8) (n N j i : Nat) (f : Int) (ls : List RowT) : Prop := (f = 0 → i = 4 + 40 * j ∧ 4 + 40 * j ≤ n ∧ ls = rowsE j (b.drop 4)) ∧ (f ≠ 0 → n < 4 + 40 * j)
theorem StE.next {b : List UInt8} {n N j i i2 : Nat} {ls : List RowT} (h : StE b n N j i 0 ls) (hl : b.length = n) {f2 : Int} (hm : Moved b i 0 40 i2 f2) {s : List UInt8} {V1 V2 V3 : Nat}
    (h0 : i + 40 ≤ b.length → s = (b.drop i).take 32 ∧ V1 = val ((b.drop (i + 32)).take 4) ∧ V2 = val ((b.drop (i + 36)).take 2) ∧ V3 = val ((b.drop (i + 38)).take 2)) : StE b n N (j + 1) i2 f2 (ls ++ [((s, V1), ((V2 : Int), (V3 : Int)))]) := by
  obtain ⟨h1, h2, h3⟩ := h.1 rfl
  by_cases hc : i + 40 ≤ b.length
  · obtain ⟨e1, e2⟩ := hm.1 ⟨rfl, hc⟩
    obtain ⟨q1, q2, q3, q4⟩ := h0 hc
    refine ⟨fun _ => ⟨by omega, by omega, ?_⟩, fun hf => absurd e2 hf⟩
    rw [rowsE_snoc, rowD_at b h1, h3, q1, q2, q3, q4]
  · have e1 := hm.2 fun hd => hc hd.2
    exact ⟨fun hf => absurd hf e1, fun _ => by omega⟩
theorem take_end {b : List UInt8} {n N j i : Nat} {f r : Int} {ls : List RowT} (hr : (if f = 0 ∧ i < b.length then (11 : Int) else f) = r) (h0 : r = 0) (hN : 4 ≤ n → N = manyE b) (h : StE b n N j i f ls) (hm : j ≤ N ∧ (j = N ∨ f ≠ 0)) (hl : b.length = n) : takeOk b = rightE ls ∧ rowsE (manyE b) (b.drop 4) = ls := by
  subst h0
  split at hr
  · cases hr
  · rename_i hc
    subst hr
    obtain ⟨h1, h2, h3⟩ := h.1 rfl
    have hj : j = N := by omega
    have e : N = manyE b := hN (by omega)
    have e2 : rowsE (manyE b) (b.drop 4) = ls := by rw [← e, ← hj, h3]
    refine ⟨?_, e2⟩
    unfold takeOk
    rw [e2, decide_eq_true (by rw [← e]; omega)]
    rfl
theorem take_end_no {b : List UInt8} {n N j i : Nat} {f r : Int} {ls : List RowT} (hr : (if f = 0 ∧ i < b.length then (11 : Int) else f) = r) (h0 : ¬ r = 0) (hN : 4 ≤ n → N = manyE b) (h : StE b n N j i f ls) (hm : j ≤ N ∧ (j = N ∨ f ≠ 0)) (hl : b.length = n) : takeOk b = false := by
  unfold takeOk
  rw [decide_eq_false, Bool.false_and]
  intro he
  have e : N = manyE b := hN (by omega)
  split at hr
  · rename_i hc
    obtain ⟨h1, h2, h3⟩ := h.1 hc.1
    omega
  · rename_i hc
    have := h.2 (by rw [hr]; exact h0)
    omega
theorem zero_extT : (Try.prog.info? 51).map (fun i => (i.zero, i.size)) = some (some (.agg rz), 35) := by kernel_rfl
set_option maxRecDepth 100000 in
set_option maxHeartbeats 16000000 in
theorem rextake_any (A : Option Addr) (b : List UInt8) (n c : Nat) (hl : b.length = n) (hn : n ≤ 100000) (hk : n ≤ c) (hc : c ≤ maxLen) (w : World) (hr : Rd w w.heap.size A b) :
    Calls Try.prog 27 #[.slice A n c] w fun e w' => ∃ P pc, e = .returned (.tuple #[.slice P (takeE b).length pc, .int .i64 (if takeOk b = true then 0 else 160)]) ∧ OwnG 51 35 rcs w' w.heap.size P pc (takeE b) ∧ Below w.heap.size w w' := by
  have HX := Lib.hid (And.intro hl (And.intro hn (And.intro hk (And.intro hc hr))))
  obtain ⟨fe, hfe⟩ := ext_desc
  have HF := Lib.hid hfe
  obtain ⟨iz, hiz, hzz, _⟩ := zero_parts zero_extT
  have HZ := Lib.hid (And.intro hiz hzz)
  obtain ⟨T, hT⟩ : ∃ T, takeE b = T := ⟨_, rfl⟩
  obtain ⟨E, hE⟩ : ∃ E : Int, (if takeOk b = true then (0 : Int) else 160) = E := ⟨_, rfl⟩
  rw [hT, hE]
  have HTE := Lib.hid (And.intro hT hE)
  clear hl hn hk hc hr hfe hiz hzz hT hE
  go_enter Try.func27, Try.ntmps27
  go_upto_region 2 with fail
  obtain ⟨g, hg⟩ : ∃ g, w.heap.size = g := ⟨_, rfl⟩
  obtain ⟨w1, hw1⟩ : ∃ w1, w.alloc (.cells #[.slice A n c, .int .i64 0, .int .i64 0] 70) = w1 := ⟨_, rfl⟩
  rw [hg, hw1]
  have hb1 : Below w.heap.size w w1 := hw1 ▸ (Below.refl _ _).alloc (Nat.le_refl _) _
  have hr1 : Ref w1 g A c b 0 0 := by
    obtain ⟨q1, q2, q3, q4, q5⟩ := HX.out
    exact ⟨by rw [← hw1, ← hg, q1]; exact Blk.new w _ _, Nat.zero_le _, by omega, by omega, (q5.below hb1).more (by omega)⟩
  have HR1 := Lib.hid hr1
  have HE1 := Lib.hid (show EX w w1 g none 0 [] from ⟨OwnG.nil _ _, hb1, by omega, by simp⟩)
  have HGE := Lib.hid (show w.heap.size = g from hg)
  clear hg hw1 hb1 hr1
  go_wp2_with fail
  refine (rget_two HR1.out 4 (by omega)).mono ?_
  rintro e w2 ⟨hg2, N, i, f, rfl, hN, hr2, hm2, hv2⟩
  have HE2 := Lib.hid (HE1.out.get HR1.out hg2)
  have HR2 := Lib.hid hr2
  have HM := Lib.hid (show StE b n N 0 i f [] ∧ (4 ≤ n → N = manyE b) from by
    have q1 := HX.out.1
    refine ⟨⟨fun hf => ?_, fun hf => ?_⟩, fun h4 => ?_⟩
    · by_cases h4 : 4 ≤ n
      · obtain ⟨e1, e2⟩ := hm2.1 ⟨rfl, by omega⟩
        exact ⟨by omega, by omega, rfl⟩
      · exact absurd hf (hm2.2 (by omega))
    · by_cases h4 : 4 ≤ n
      · exact absurd (hm2.1 ⟨rfl, by omega⟩).2 hf
      · omega
    · have := hv2 ⟨rfl, by omega⟩
      simpa [manyE] using this)
  have hN2 : N < 4294967296 := hN
  clear hg2 hN hr2 hm2 hv2 HE1 HR1
  go_wp2_with fail
  go_loopw [5, 6] (fun v l wr => ∃ (m j i : Nat) (f : Int) (P : Option Addr) (pc : Nat) (ls : List RowT), m + j = N ∧ v = .int .u64 (m : Nat) ∧ l = .slice P j pc ∧ j ≤ 2501 ∧ Hid (ls.length = j) ∧ Hid (Ref wr g A c b i f) ∧ Hid (EX w wr g P pc ls) ∧ Hid (StE b n N j i f ls)) (fun v _ _ => (intOf v).toNat)
  case atStart => exact ⟨N, 0, i, f, none, 0, [], by omega, rfl, rfl, by omega, Lib.hid rfl, HR2, HE2, Lib.hid HM.out.1⟩
  case round =>
    clear HR2 HE2
    obtain ⟨m, j, i, f, P, pc, ls, hmN, rfl, rfl, hj, HL, HT, HE, HST⟩ := hrel
    have hst := HST.out
    have HTOP := HST
    have hc2 := HT.out.1.cell 2
    by_cases hf : f = 0
    · cases m with
      | zero =>
        have hmj : j ≤ N ∧ (j = N ∨ f ≠ 0) := ⟨by omega, .inl (by omega)⟩
        clear hc2
        go_upto_region 15 with fail
        have HEX := Lib.hid (And.intro hst hmj)
        have KE := Lib.hid (rend_two g c i A b f wr HT.out)
        obtain ⟨r, hr⟩ : ∃ r : Int, (if f = 0 ∧ i < b.length then (11 : Int) else f) = r := ⟨_, rfl⟩
        rw [hr] at KE
        have HI := Lib.hid hr
        clear hr hst hmj HTOP
        by_cases hr0 : r = 0
        · have hrb : (r != 0) = false := by simpa using hr0
          have HR0 := Lib.hid hr0
          obtain ⟨B, hB⟩ : ∃ B, rightE ls = B := ⟨_, rfl⟩
          have KR := Lib.hid (fun W (hW : Below wr.heap.size wr W) => rexright_any P ls j pc HL.out W ((⟨HE.out.own.rd extE HE.out.ok, HE.out.ok⟩ : RdRw wr wr.heap.size P ls).on hW))
          rw [hB] at KR
          have HB := Lib.hid hB
          clear hB hr0
          go_wp2_with fail
          refine KE.out.mono ?_
          rintro e w5 ⟨rfl, hb5⟩
          have HB5 := Lib.hid hb5
          clear hb5 KE
          go_wp2_with fail
          refine (KR.out _ HB5.out).mono ?_
          rintro e w6 ⟨rfl, hb6⟩
          have HB6 := Lib.hid (HB5.out.trans (hb6.mono HB5.out.size))
          clear hb6 KR
          have HFIN := Lib.hid (take_end HI.out HR0.out HM.out.2 HEX.out.1 HEX.out.2 HX.out.1)
          cases B with
          | true =>
            go_wp2_with fail
            go_ret2
            have e1 := HFIN.out.1
            rw [HB.out] at e1
            have e2 := HFIN.out.2
            have h7 := HE.out.on HB6.out
            have e3 : takeE b = ls := by unfold takeE; rw [e1, e2]; rfl
            have t1 : T = ls := by rw [← HTE.out.1, e3]
            have t2 : E = 0 := by rw [← HTE.out.2, e1]; rfl
            rw [t1, t2]
            exact ⟨P, pc, by rw [HL.out]; rfl, h7.own, h7.bel⟩
          | false =>
            go_wp2_with fail
            go_ret2
            have e1 := HFIN.out.1
            rw [HB.out] at e1
            have t1 : T = [] := by rw [← HTE.out.1, takeE_no e1]
            have t2 : E = 160 := by rw [← HTE.out.2, e1]; rfl
            rw [t1, t2]
            exact ⟨none, 0, rfl, OwnG.nil _ _, (HE.out.on HB6.out).bel⟩
        · have hrb : (r != 0) = true := by simpa using hr0
          have HNO := Lib.hid (take_end_no HI.out hr0 HM.out.2 HEX.out.1 HEX.out.2 HX.out.1)
          clear hr0
          go_wp2_with fail
          refine KE.out.mono ?_
          rintro e w5 ⟨rfl, hb5⟩
          have HB5 := Lib.hid hb5
          clear hb5 KE
          go_wp2_with fail
          go_ret2
          have t1 : T = [] := by rw [← HTE.out.1, takeE_no HNO.out]
          have t2 : E = 160 := by rw [← HTE.out.2, HNO.out]; rfl
          rw [t1, t2]
          exact ⟨none, 0, rfl, OwnG.nil _ _, (HE.out.on HB5.out).bel⟩
      | succ u =>
        subst hf
        have hu0 : (0 : Int) < ((u + 1 : Nat) : Int) := by omega
        obtain ⟨q1, q2, q3⟩ := hst.1 rfl
        have hj2 : j + 1 ≤ 2501 := by have := HX.out.2.1; omega
        have hum : u + (j + 1) = N := by omega
        have hu64 : IntKind.u64.wrap (((u + 1 : Nat) : Int) - 1) = (u : Int) := by rw [IntKind.wrap_u64]; omega
        clear q1 q2 q3 hst HTOP hmN hj
        go_upto_region 7 with (first
          | (refine wpList_alloc_z rfl 51 rfl iz _ HZ.out.1 HZ.out.2 ?_))
        obtain ⟨xb, hxb⟩ : ∃ xb, wr.heap.size = xb := ⟨_, rfl⟩
        obtain ⟨w3, hw3⟩ : ∃ w3, wr.alloc (.cells rz 51) = w3 := ⟨_, rfl⟩
        rw [hxb, hw3]
        have hba : Below wr.heap.size wr w3 := hw3 ▸ (Below.refl _ _).alloc (Nat.le_refl _) _
        have HXB := Lib.hid (show Blk w3 xb 51 (exJ []) from by rw [← hw3, ← hxb, ← exJ_nil]; exact Blk.new wr _ _)
        have HR3 := Lib.hid (HT.out.below hba)
        have HE3 := Lib.hid (HE.out.on hba)
        have HXW := Lib.hid (show w.heap.size ≤ xb ∧ g < xb ∧ ∀ ad, P = some ad → ad.block < xb from ⟨hxb ▸ HE.out.bel.size, hxb ▸ HT.out.1.lt, fun ad e => hxb ▸ (HE.out.own.adr ad e).2⟩)
        clear hba hxb hw3 HT HE hc2
        go_wp2_with fail
        go_loopw [8] (fun q wq => ∃ (k i2 : Nat) (f2 : Int) (s : List UInt8), k ≤ 32 ∧ q = .int .i64 (k : Nat) ∧ Hid (s.length = k) ∧ Hid (Ref wq g A c b i2 f2) ∧ Hid (Blk wq xb 51 (exJ s)) ∧ Hid (EX w wq g P pc ls) ∧ Hid (Moved b i 0 k i2 f2 ∧ (i + k ≤ b.length → s = (b.drop i).take k))) (fun q _ => 32 - (intOf q).toNat)
        case atStart => exact ⟨0, i, 0, [], Nat.zero_le _, rfl, Lib.hid rfl, HR3, HXB, HE3, Lib.hid ⟨Moved.refl HR3.out.2.1, fun _ => rfl⟩⟩
        case round =>
          clear HR3 HXB HE3
          obtain ⟨k, i2, f2, s, hk, rfl, HS, HR, HD, HE, HMV⟩ := hrel
          by_cases hlt : k < 32
          · go_wp2_with fail
            refine (rget_two HR.out 1 (by omega)).mono ?_
            rintro e w5 ⟨hg5, V, i3, f3, rfl, hV, hr5, hm5, hv5⟩
            have hV2 : V < 256 := hV
            obtain ⟨x, hx⟩ : ∃ x : UInt8, V = x.toNat := ⟨UInt8.ofNat V, by rw [UInt8.toNat_ofNat']; omega⟩
            subst hx
            have cv : IntKind.u8.wrap (x.toNat : Int) = (x.toNat : Int) := by have := x.toNat_lt; rw [IntKind.wrap_u8']; omega
            have hgx : g < xb := HXW.out.2.1
            have hD5 : Blk w5 xb 51 (exJ s) := HD.out.same (hg5.block _ HD.out.lt (by simp; omega))
            have hE5 := HE.out.get HR.out hg5
            have HD6 := Lib.hid (show Blk (w5.setCell ⟨xb, k, none⟩ (.int .u8 x.toNat)) xb 51 (exJ (s ++ [x])) by
              have := hD5.set_ k (.int .u8 x.toNat)
              rwa [← HS.out, exJ_set (by rw [HS.out]; exact hlt), HS.out] at this)
            have HE6 := Lib.hid (hE5.box (setCell_grown (g := xb) (i := k) (v := .int .u8 x.toNat) (World.grownBy.refl w5 _)) HXW.out.1 HXW.out.2.2)
            have HR6 := Lib.hid (hr5.gby (setCell_grown (g := xb) (i := k) (v := .int .u8 x.toNat) (World.grownBy.refl _ _)) fun k hk => by injection hk with hk; omega)
            have HM6 := Lib.hid (show Moved b i 0 (k + 1) i3 f3 ∧ (i + (k + 1) ≤ b.length → s ++ [x] = (b.drop i).take (k + 1)) by
              refine ⟨HMV.out.1.trans hm5, fun hc => ?_⟩
              obtain ⟨e1, e2⟩ := HMV.out.1.1 ⟨rfl, by omega⟩
              have e3 := hv5 ⟨e2, by omega⟩
              have hlen : k < (b.drop i).length := by rw [List.length_drop]; omega
              rw [e1, ← List.drop_drop] at e3
              rw [List.take_succ_eq_append_getElem hlen, HMV.out.2 (by omega)]
              congr 2
              have e4 : ((b.drop i).drop k).take 1 = [(b.drop i)[k]] := by
                rw [List.drop_eq_getElem_cons hlen]
                rfl
              rw [e4] at e3
              refine UInt8.toNat_inj.1 ?_
              rw [e3]
              simp [val])
            have HS6 := Lib.hid (show (s ++ [x]).length = k + 1 by rw [List.length_append, HS.out]; rfl)
            have cd := hD5.cell k
            have fd := hD5.frozen k
            obtain ⟨u2, hu2⟩ : ∃ u, w5.cell? ⟨xb, k, none⟩ = some u := by
              rw [cd]
              exact ⟨_, Array.getElem?_eq_getElem (by rw [exJ_size (by rw [HS.out]; omega)]; omega)⟩
            have hi1 : (0 : Int) ≤ (k : Int) := by omega
            have hi2 : (k : Int) < 32 := by omega
            clear cd hg5 hV hr5 hm5 hv5 hD5 hE5 HS HR HD HE HMV hgx
            go_wp2_with fail
            go_roundw
            case rel => exact ⟨k + 1, i3, f3, s ++ [x], by omega, by go_num, HS6, HR6, HD6, HE6, HM6⟩
            case measure => simp [intOf]; omega
          · obtain rfl : k = 32 := by omega
            have HD1 := Lib.hid (show Blk wr xb 51 (rcs ((s, 0), (0, 0))).toArray from by rw [← exJ_full HS.out]; exact HD.out)
            clear HD
            go_upto_region 11 with fail
            go_wp2_with fail
            refine (rget_two HR.out 4 (by omega)).mono ?_
            rintro e x1 ⟨hg1, V1, i1, f1, rfl, hV1, hr1, hm1, hv1⟩
            have hV1' : V1 < 4294967296 := hV1
            have cv1 : IntKind.u32.wrap (V1 : Int) = (V1 : Int) := by rw [IntKind.wrap_u32']; omega
            have hD1 := HD1.out.same (hg1.block _ HD1.out.lt (by have := HXW.out.2.1; simp; omega))
            have HDp1 := Lib.hid (show Blk (x1.setCell ⟨xb, 32, none⟩ (.int .u32 V1)) xb 51 (rcs ((s, V1), (0, 0))).toArray from by
              have := hD1.set_ 32 (.int .u32 V1)
              rwa [rcs_n HS.out] at this)
            have HEp1 := Lib.hid ((HE.out.get HR.out hg1).box (setCell_grown (g := xb) (i := 32) (v := .int .u32 V1) (World.grownBy.refl x1 _)) HXW.out.1 HXW.out.2.2)
            have HRp1 := Lib.hid (hr1.gby (setCell_grown (g := xb) (i := 32) (v := .int .u32 V1) (World.grownBy.refl _ _)) fun k hk => by injection hk with hk; have := HXW.out.2.1; omega)
            have HMp1 := Lib.hid (And.intro hm1 hv1)
            have cd1 : x1.cell? ⟨xb, 32, none⟩ = some (.int .u32 0) := by rw [hD1.cell 32]; simp [rcs, kcs, bv_length, HS.out, pvs]
            have fd1 := hD1.frozen 32
            clear hg1 hV1 hr1 hm1 hv1 hD1 HR HE HD1
            go_upto_region 12 with fail
            obtain ⟨y1, hy1⟩ : ∃ y, x1.setCell ⟨xb, 32, none⟩ (.int .u32 V1) = y := ⟨_, rfl⟩
            rw [hy1] at HDp1 HEp1 HRp1 ⊢
            clear hy1 cd1 fd1
            go_wp2_with fail
            refine (rget_two HRp1.out 2 (by omega)).mono ?_
            rintro e x2 ⟨hg2, V2, i2, f2, rfl, hV2, hr2, hm2, hv2⟩
            have hV2' : V2 < 65536 := hV2
            have cv2 : IntKind.i64.wrap (V2 : Int) = (V2 : Int) := by rw [IntKind.wrap_i64]; omega
            have hD2 := HDp1.out.same (hg2.block _ HDp1.out.lt (by have := HXW.out.2.1; simp; omega))
            have HDp2 := Lib.hid (show Blk (x2.setCell ⟨xb, 33, none⟩ (.int .i64 V2)) xb 51 (rcs ((s, V1), ((V2 : Int), 0))).toArray from by
              have := hD2.set_ 33 (.int .i64 V2)
              rwa [rcs_o HS.out] at this)
            have HEp2 := Lib.hid ((HEp1.out.get HRp1.out hg2).box (setCell_grown (g := xb) (i := 33) (v := .int .i64 V2) (World.grownBy.refl x2 _)) HXW.out.1 HXW.out.2.2)
            have HRp2 := Lib.hid (hr2.gby (setCell_grown (g := xb) (i := 33) (v := .int .i64 V2) (World.grownBy.refl _ _)) fun k hk => by injection hk with hk; have := HXW.out.2.1; omega)
            have HMp2 := Lib.hid (And.intro hm2 hv2)
            have cd2 : x2.cell? ⟨xb, 33, none⟩ = some (.int .i64 0) := by rw [hD2.cell 33]; simp [rcs, kcs, bv_length, HS.out, pvs]
            have fd2 := hD2.frozen 33
            clear hg2 hV2 hr2 hm2 hv2 hD2 HRp1 HEp1 HDp1
            go_upto_region 13 with fail
            obtain ⟨y2, hy2⟩ : ∃ y, x2.setCell ⟨xb, 33, none⟩ (.int .i64 V2) = y := ⟨_, rfl⟩
            rw [hy2] at HDp2 HEp2 HRp2 ⊢
            clear hy2 cd2 fd2
            go_wp2_with fail
            refine (rget_two HRp2.out 2 (by omega)).mono ?_
            rintro e x3 ⟨hg3, V3, i3, f3, rfl, hV3, hr3, hm3, hv3⟩
            have hV3' : V3 < 65536 := hV3
            have cv3 : IntKind.i64.wrap (V3 : Int) = (V3 : Int) := by rw [IntKind.wrap_i64]; omega
            have hD3 := HDp2.out.same (hg3.block _ HDp2.out.lt (by have := HXW.out.2.1; simp; omega))
            have HDp3 := Lib.hid (show Blk (x3.setCell ⟨xb, 34, none⟩ (.int .i64 V3)) xb 51 (rcs ((s, V1), ((V2 : Int), (V3 : Int)))).toArray from by
              have := hD3.set_ 34 (.int .i64 V3)
              rwa [rcs_l HS.out] at this)
            have HEp3 := Lib.hid ((HEp2.out.get HRp2.out hg3).box (setCell_grown (g := xb) (i := 34) (v := .int .i64 V3) (World.grownBy.refl x3 _)) HXW.out.1 HXW.out.2.2)
            have HRp3 := Lib.hid (hr3.gby (setCell_grown (g := xb) (i := 34) (v := .int .i64 V3) (World.grownBy.refl _ _)) fun k hk => by injection hk with hk; have := HXW.out.2.1; omega)
            have HMp3 := Lib.hid (And.intro hm3 hv3)
            have cd3 : x3.cell? ⟨xb, 34, none⟩ = some (.int .i64 0) := by rw [hD3.cell 34]; simp [rcs, kcs, bv_length, HS.out, pvs]
            have fd3 := hD3.frozen 34
            clear hg3 hV3 hr3 hm3 hv3 hD3 HRp2 HEp2 HDp2
            go_upto_region 14 with fail
            obtain ⟨y3, hy3⟩ : ∃ y, x3.setCell ⟨xb, 34, none⟩ (.int .i64 V3) = y := ⟨_, rfl⟩
            rw [hy3] at HDp3 HEp3 HRp3 ⊢
            clear hy3 cd3 fd3
            have HSTN := Lib.hid (HST.out.next HX.out.1 (show Moved b i 0 40 i3 f3 from ((HMV.out.1.trans HMp1.out.1).trans HMp2.out.1).trans HMp3.out.1) (s := s) (V1 := V1) (V2 := V2) (V3 := V3) fun hc => by
              obtain ⟨a1, a2⟩ := HMV.out.1.1 ⟨rfl, by omega⟩
              obtain ⟨b1, b2⟩ := HMp1.out.1.1 ⟨a2, by omega⟩
              obtain ⟨c1, c2⟩ := HMp2.out.1.1 ⟨b2, by omega⟩
              have v1 := HMp1.out.2 ⟨a2, by omega⟩
              have v2 := HMp2.out.2 ⟨b2, by omega⟩
              have v3 := HMp3.out.2 ⟨c2, by omega⟩
              rw [a1] at v1
              rw [b1, a1] at v2
              rw [c1, b1, a1] at v3
              exact ⟨HMV.out.2 (by omega), v1, v2, v3⟩)
            obtain ⟨v, hv⟩ : ∃ v : RowT, ((s, V1), ((V2 : Int), (V3 : Int))) = v := ⟨_, rfl⟩
            have HOKV := Lib.hid (show v.Ok from by
              rw [← hv]
              exact ⟨⟨HS.out, hV1'⟩, by constructor <;> simp only <;> omega, by constructor <;> simp only <;> omega⟩)
            rw [hv] at HDp3 HSTN
            clear hv HMp1 HMp2 HMp3 HMV HST cv1 cv2 cv3
            have HRV := Lib.hid (range_of_blk HDp3.out)
            have hax : Below y3.heap.size y3 (y3.alloc (.cells (rcs v).toArray 51)) := (Below.refl _ _).alloc (Nat.le_refl _) _
            have HEA := Lib.hid (HEp3.out.on hax)
            have HRA := Lib.hid (HRp3.out.below hax)
            have HKS := Lib.hid (show (Try.prog.info? 51).map (·.size) = some (rcs v).length by rw [rcs_length HOKV.out]; exact ext_size)
            have HR1 := Lib.hid (rds_one y3 v 51 35 rcs)
            clear hax HEp3 HRp3
            go_wp2_with (first
              | (refine wpList_load_mid rfl 51 (.tmp 7) rfl xb 0 rfl (rcs v) (.struct fe) HRV.out HF.out rfl HKS.out ?_)
              | (refine wpList_buildOne extE rfl (.tmp 50) rfl HOKV.out rfl ?_)
              | (at_builtin; refine wpList_append_g extE rfl (.tmp 49) (.tmp 51) rfl w.heap.size P pc j ls HL.out rfl HEA.out.own _ (some ⟨y3.heap.size, 0, none⟩) 1 1 [v] rfl rfl HR1.out (by intro y hy; rw [List.mem_singleton.1 hy]; exact HOKV.out) ?_ ?_ ?_))
            case _ => omega
            case _ => exact HEA.out.bel.size
            intro A9 c9 w9 ho9 hg9
            have HE9 := Lib.hid (show EX w w9 g A9 c9 (ls ++ [v]) from ⟨ho9, HEA.out.bel.grown hg9 HEA.out.bel.size fun r hr => (HEA.out.own.lt (by rw [HL.out]; exact hr)).1, HEA.out.gw, fun y hy => by
              rcases List.mem_append.1 hy with hy | hy
              · exact HEA.out.ok y hy
              · rw [List.mem_singleton.1 hy]; exact HOKV.out⟩)
            have HR9 := Lib.hid (show Ref w9 g A c b i3 f3 from by
              have hne : ∀ k, (Value.slice P j pc).ownBlock = some k → k ≠ g := fun k hk e => by
                have hk2 : (Value.slice P ls.length pc).ownBlock = some k := by rw [HL.out]; exact hk
                obtain ⟨cur, hb⟩ := HEA.out.own.kind hk2
                exact blk_other HRA.out.1 hb (by decide) e.symm
              refine ⟨HRA.out.1.same (hg9.block g HRA.out.1.lt fun e => hne g e.symm rfl), HRA.out.2.1, HRA.out.2.2.1, HRA.out.2.2.2.1, HRA.out.2.2.2.2.keep fun p hp => World.cell?_of_block (hg9.block p.block (Nat.lt_trans hp HRA.out.1.lt) fun e => ?_)⟩
              have hk2 : (Value.slice P ls.length pc).ownBlock = some p.block := by rw [HL.out]; exact e.symm
              have := (HEA.out.own.lt hk2).1
              have := HGE.out
              omega)
            have HL9 := Lib.hid (show (ls ++ [v]).length = j + 1 by rw [List.length_append, HL.out]; rfl)
            clear ho9 hg9 HRV HR1
            go_wp2_with fail
            go_roundw
            case rel => exact ⟨u, j + 1, i3, f3, A9, c9, ls ++ [v], hum, by go_num, rfl, hj2, HL9, HR9, HE9, HSTN⟩
            case measure => simp [intOf]
    · have hmj : j ≤ N ∧ (j = N ∨ f ≠ 0) := ⟨by omega, .inr hf⟩
      have hfb : (f == 0) = false := by simpa using hf
      clear hf
      by_cases hm0 : m = 0
      · subst hm0
        clear hc2
        go_upto_region 15 with fail
        have HEX := Lib.hid (And.intro hst hmj)
        have KE := Lib.hid (rend_two g c i A b f wr HT.out)
        obtain ⟨r, hr⟩ : ∃ r : Int, (if f = 0 ∧ i < b.length then (11 : Int) else f) = r := ⟨_, rfl⟩
        rw [hr] at KE
        have HI := Lib.hid hr
        clear hr hst hmj HTOP
        by_cases hr0 : r = 0
        · have hrb : (r != 0) = false := by simpa using hr0
          have HR0 := Lib.hid hr0
          obtain ⟨B, hB⟩ : ∃ B, rightE ls = B := ⟨_, rfl⟩
          have KR := Lib.hid (fun W (hW : Below wr.heap.size wr W) => rexright_any P ls j pc HL.out W ((⟨HE.out.own.rd extE HE.out.ok, HE.out.ok⟩ : RdRw wr wr.heap.size P ls).on hW))
          rw [hB] at KR
          have HB := Lib.hid hB
          clear hB hr0
          go_wp2_with fail
          refine KE.out.mono ?_
          rintro e w5 ⟨rfl, hb5⟩
          have HB5 := Lib.hid hb5
          clear hb5 KE
          go_wp2_with fail
          refine (KR.out _ HB5.out).mono ?_
          rintro e w6 ⟨rfl, hb6⟩
          have HB6 := Lib.hid (HB5.out.trans (hb6.mono HB5.out.size))
          clear hb6 KR
          have HFIN := Lib.hid (take_end HI.out HR0.out HM.out.2 HEX.out.1 HEX.out.2 HX.out.1)
          cases B with
          | true =>
            go_wp2_with fail
            go_ret2
            have e1 := HFIN.out.1
            rw [HB.out] at e1
            have e2 := HFIN.out.2
            have h7 := HE.out.on HB6.out
            have e3 : takeE b = ls := by unfold takeE; rw [e1, e2]; rfl
            have t1 : T = ls := by rw [← HTE.out.1, e3]
            have t2 : E = 0 := by rw [← HTE.out.2, e1]; rfl
            rw [t1, t2]
            exact ⟨P, pc, by rw [HL.out]; rfl, h7.own, h7.bel⟩
          | false =>
            go_wp2_with fail
            go_ret2
            have e1 := HFIN.out.1
            rw [HB.out] at e1
            have t1 : T = [] := by rw [← HTE.out.1, takeE_no e1]
            have t2 : E = 160 := by rw [← HTE.out.2, e1]; rfl
            rw [t1, t2]
            exact ⟨none, 0, rfl, OwnG.nil _ _, (HE.out.on HB6.out).bel⟩
        · have hrb : (r != 0) = true := by simpa using hr0
          have HNO := Lib.hid (take_end_no HI.out hr0 HM.out.2 HEX.out.1 HEX.out.2 HX.out.1)
          clear hr0
          go_wp2_with fail
          refine KE.out.mono ?_
          rintro e w5 ⟨rfl, hb5⟩
          have HB5 := Lib.hid hb5
          clear hb5 KE
          go_wp2_with fail
          go_ret2
          have t1 : T = [] := by rw [← HTE.out.1, takeE_no HNO.out]
          have t2 : E = 160 := by rw [← HTE.out.2, HNO.out]; rfl
          rw [t1, t2]
          exact ⟨none, 0, rfl, OwnG.nil _ _, (HE.out.on HB5.out).bel⟩
      · have hm1 : (0 : Int) < (m : Int) := by omega
        go_upto_region 15 with fail
        clear hc2
        have HEX := Lib.hid (And.intro hst hmj)
        have KE := Lib.hid (rend_two g c i A b f wr HT.out)
        obtain ⟨r, hr⟩ : ∃ r : Int, (if f = 0 ∧ i < b.length then (11 : Int) else f) = r := ⟨_, rfl⟩
        rw [hr] at KE
        have HI := Lib.hid hr
        clear hr hst hmj HTOP
        by_cases hr0 : r = 0
        · have hrb : (r != 0) = false := by simpa using hr0
          have HR0 := Lib.hid hr0
          obtain ⟨B, hB⟩ : ∃ B, rightE ls = B := ⟨_, rfl⟩
          have KR := Lib.hid (fun W (hW : Below wr.heap.size wr W) => rexright_any P ls j pc HL.out W ((⟨HE.out.own.rd extE HE.out.ok, HE.out.ok⟩ : RdRw wr wr.heap.size P ls).on hW))
          rw [hB] at KR
          have HB := Lib.hid hB
          clear hB hr0
          go_wp2_with fail
          refine KE.out.mono ?_
          rintro e w5 ⟨rfl, hb5⟩
          have HB5 := Lib.hid hb5
          clear hb5 KE
          go_wp2_with fail
          refine (KR.out _ HB5.out).mono ?_
          rintro e w6 ⟨rfl, hb6⟩
          have HB6 := Lib.hid (HB5.out.trans (hb6.mono HB5.out.size))
          clear hb6 KR
          have HFIN := Lib.hid (take_end HI.out HR0.out HM.out.2 HEX.out.1 HEX.out.2 HX.out.1)
          cases B with
          | true =>
            go_wp2_with fail
            go_ret2
            have e1 := HFIN.out.1
            rw [HB.out] at e1
            have e2 := HFIN.out.2
            have h7 := HE.out.on HB6.out
            have e3 : takeE b = ls := by unfold takeE; rw [e1, e2]; rfl
            have t1 : T = ls := by rw [← HTE.out.1, e3]
            have t2 : E = 0 := by rw [← HTE.out.2, e1]; rfl
            rw [t1, t2]
            exact ⟨P, pc, by rw [HL.out]; rfl, h7.own, h7.bel⟩
          | false =>
            go_wp2_with fail
            go_ret2
            have e1 := HFIN.out.1
            rw [HB.out] at e1
            have t1 : T = [] := by rw [← HTE.out.1, takeE_no e1]
            have t2 : E = 160 := by rw [← HTE.out.2, e1]; rfl
            rw [t1, t2]
            exact ⟨none, 0, rfl, OwnG.nil _ _, (HE.out.on HB6.out).bel⟩
        · have hrb : (r != 0) = true := by simpa using hr0
          have HNO := Lib.hid (take_end_no HI.out hr0 HM.out.2 HEX.out.1 HEX.out.2 HX.out.1)
          clear hr0
          go_wp2_with fail
          refine KE.out.mono ?_
          rintro e w5 ⟨rfl, hb5⟩
          have HB5 := Lib.hid hb5
          clear hb5 KE
          go_wp2_with fail
          go_ret2
          have t1 : T = [] := by rw [← HTE.out.1, takeE_no HNO.out]
          have t2 : E = 160 := by rw [← HTE.out.2, HNO.out]; rfl
          rw [t1, t2]
          exact ⟨none, 0, rfl, OwnG.nil _ _, (HE.out.on HB5.out).bel⟩
end Go.Proofs.Ytgemjipbifgbgaa
/- The contracts of Left, Fault, End. No statement of the seat is proved here. -/
namespace Go.Proofs.Ytgemjipbifgbgaa
open Go.RowKit

set_option maxHeartbeats 1000000 in
theorem left_nil (w : World) : Calls Try.prog 43 #[.pointer none] w fun e w' => e = .returned (.int .i64 0) ∧ w = w' := by
  go_enter Try.func43, Try.ntmps43
  go_wp2
  go_ret
  exact ⟨rfl, rfl⟩
set_option maxHeartbeats 1000000 in
theorem left_any (g : Nat) (l : List UInt8) (f : Int) (w : World) (h : Rdr w g l f) : Calls Try.prog 43 #[.pointer (some ⟨g, 0, none⟩)] w fun e w' => e = .returned (.int .i64 l.length) ∧ w = w' := by
  obtain ⟨A, c, hb, _, _, _⟩ := h
  have hc0 := hb.cell 0
  have hc1 := hb.cell 1
  clear hb
  go_enter Try.func43, Try.ntmps43
  go_wp2
  go_ret
  exact ⟨rfl, rfl⟩
set_option maxHeartbeats 1000000 in
theorem fault_nil (w : World) : Calls Try.prog 42 #[.pointer none] w fun e w' => e = .returned (.int .i64 0) ∧ w = w' := by
  go_enter Try.func42, Try.ntmps42
  go_wp2
  go_ret
  exact ⟨rfl, rfl⟩
set_option maxHeartbeats 1000000 in
theorem fault_any (g : Nat) (l : List UInt8) (f : Int) (w : World) (h : Rdr w g l f) : Calls Try.prog 42 #[.pointer (some ⟨g, 0, none⟩)] w fun e w' => e = .returned (.int .i64 f) ∧ w = w' := by
  obtain ⟨A, c, hb, _, _, _⟩ := h
  have hc0 := hb.cell 0
  have hc1 := hb.cell 1
  clear hb
  go_enter Try.func42, Try.ntmps42
  go_wp2
  go_ret
  exact ⟨rfl, rfl⟩

/-- What End tells. -/
def endOf (l : List UInt8) (f : Int) : Int := if f = 0 ∧ 0 < l.length then 11 else f
set_option maxHeartbeats 1000000 in
theorem end_nil (w : World) : Calls Try.prog 35 #[.pointer none] w fun e w' => e = .returned (.int .i64 0) ∧ w = w' := by
  go_enter Try.func35, Try.ntmps35
  go_wp2_with (first
    | (go_at_call 42; refine (fault_nil _).mono ?_; rintro e w' ⟨rfl, rfl⟩)
    | (go_at_call 43; refine (left_nil _).mono ?_; rintro e w' ⟨rfl, rfl⟩))
  go_ret
  exact ⟨rfl, rfl⟩
set_option maxHeartbeats 1000000 in
theorem end_any (g : Nat) (l : List UInt8) (f : Int) (w : World) (h : Rdr w g l f) : Calls Try.prog 35 #[.pointer (some ⟨g, 0, none⟩)] w fun e w' => e = .returned (.int .i64 (endOf l f)) ∧ w = w' := by
  by_cases hf : f = 0
  · subst hf
    by_cases hl : 0 < l.length
    · have he := Lib.hid (show endOf l 0 = 11 by simp [endOf, hl])
      have hl' : (0 : Int) < (l.length : Int) := by omega
      go_enter Try.func35, Try.ntmps35
      go_wp2_with (first
        | (go_at_call 42; refine (fault_any g l 0 _ h).mono ?_; rintro e w' ⟨rfl, rfl⟩)
        | (go_at_call 43; refine (left_any g l 0 _ h).mono ?_; rintro e w' ⟨rfl, rfl⟩))
      go_ret
      exact ⟨by rw [he.out]; rfl, rfl⟩
    · obtain rfl : l = [] := List.eq_nil_of_length_eq_zero (by omega)
      go_enter Try.func35, Try.ntmps35
      go_wp2_with (first
        | (go_at_call 42; refine (fault_any g [] 0 _ h).mono ?_; rintro e w' ⟨rfl, rfl⟩)
        | (go_at_call 43; refine (left_any g [] 0 _ h).mono ?_; rintro e w' ⟨rfl, rfl⟩))
      go_ret
      exact ⟨rfl, rfl⟩
  · have he := Lib.hid (show endOf l f = f by simp [endOf, hf])
    have hf' : (f == 0) = false := by simpa using hf
    clear hf
    go_enter Try.func35, Try.ntmps35
    go_wp2_with (first
      | (go_at_call 42; refine (fault_any g l f _ h).mono ?_; rintro e w' ⟨rfl, rfl⟩)
      | (go_at_call 43; refine (left_any g l f _ h).mono ?_; rintro e w' ⟨rfl, rfl⟩))
    go_ret
    exact ⟨by rw [he.out]; rfl, rfl⟩
end Go.Proofs.Ytgemjipbifgbgaa
