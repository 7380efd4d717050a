/- The walk of ExtentBack, told from what package extent does. No statement of the seat is proved here. -/
import Derived.Test.YtgemjipbifgbgaaZXAR
import Derived.Test.YtgemjipbifgbgaaZXAA
import Derived.WideKeyArr2
namespace Go.Proofs.Ytgemjipbifgbgaa
open Go.RowKit
set_option linter.unusedVariables false
set_option linter.unusedSimpArgs false

/-- What was laid, and taken again. -/
theorem lay_back {l : List RowT} (hk : ∀ r ∈ l, KeyT.Ok r.1) (R : Bool) (hR : rightE l = R) : takeE (layX l) = (if R = true then l else []) ∧ (if takeOk (layX l) = true then (0 : Int) else 160) = (if R = true then 0 else 160) ∧ (layX l).length ≤ 4 + 40 * l.length ∧ (R = false → (layX l).length = 0) := by
  unfold layX
  cases R with
  | true =>
    rw [hR, if_pos rfl, if_pos rfl, if_pos rfl]
    obtain ⟨h1, h2⟩ := take_lay hk hR
    rw [h1, h2, layE_length fun r hr => (hk r hr).1]
    exact ⟨rfl, rfl, Nat.le_refl _, fun h => by cases h⟩
  | false =>
    have e : (if rightE l = true then layE l else []) = [] := by rw [hR]; rfl
    rw [e]
    exact ⟨takeE_no (by decide), by decide, Nat.zero_le _, fun _ => rfl⟩
theorem lay_nil : layX [] = [0, 0, 0, 0] ∧ rightE [] = true := by decide
set_option maxRecDepth 100000 in
set_option maxHeartbeats 8000000 in
theorem back_walk (K : ExtentsOk) (SH : ShownE) (A : Option Addr) (n c : Nat) (ls : List RowT) (hl : ls.length = n) (hc : n ≤ c) (hm : c ≤ maxLen) (B : Option Addr) (b : List UInt8) (q cb : Nat) (hbl : b.length = q) (hbc : q ≤ cb) (hbm : cb ≤ maxLen) (w : World) (hr : RdRw w w.heap.size A ls) (hrb : Rd w w.heap.size B b) :
    Calls Try.prog 9 #[.slice A n c, .slice B q cb] w fun e w' => e = .returned (.bool true) ∧ Below w.heap.size w w' := by
  by_cases hbig : 50000 < q
  · have hbi : (50000 : Int) < (q : Int) := by omega
    have KSH := Lib.hid (SH w)
    clear hl hc hm hbl hbc hbm hr hrb hbig
    go_enter Try.func9, Try.ntmps9
    go_wp2_with fail
    refine KSH.out.mono ?_
    rintro e w1 ⟨rfl, hb1⟩
    have HB1 := Lib.hid hb1
    clear hb1 KSH
    go_wp2_with fail
    go_ret
    exact ⟨rfl, HB1.out⟩
  have hbi : ¬ (50000 : Int) < (q : Int) := by omega
  obtain ⟨m, hm'⟩ : ∃ m, m = min n 500 := ⟨_, rfl⟩
  have HG := Lib.hid (few_given hl hc hm hr)
  rw [← hm'] at HG
  obtain ⟨l, hle⟩ : ∃ l, ls.take 500 = l := ⟨_, rfl⟩
  rw [hle] at HG
  have hsm : m ≤ 500 := by omega
  have KF := Lib.hid (fun W => few_any A n c m W hm' hc hm)
  have KL := Lib.hid (fun W (h : GivenE W A l m c) => K.lay h)
  have KR := Lib.hid (fun W (h : GivenE W A l m c) => K.right h)
  have KT := Lib.hid (fun W (h : Rd W W.heap.size B b) => K.take hbl hbc hbm (by omega) h)
  have hlk : ∀ r ∈ l, KeyT.Ok r.1 := fun r hr => (HG.out.rd.each r hr).key
  obtain ⟨R, hR⟩ : ∃ R, rightE l = R := ⟨_, rfl⟩
  obtain ⟨j1, j2, j3, j4⟩ := lay_back hlk R hR
  rw [HG.out.len] at j3
  obtain ⟨X, hX⟩ : ∃ X, layX l = X := ⟨_, rfl⟩
  rw [hX] at j1 j2 j3 j4 KL
  rw [hR] at KL KR
  obtain ⟨ev, hev⟩ : ∃ v : Int, (if R = true then (0 : Int) else 1) = v := ⟨_, rfl⟩
  obtain ⟨fv, hfv⟩ : ∃ v : Int, (if R = true then (0 : Int) else 160) = v := ⟨_, rfl⟩
  obtain ⟨Yl, hYl⟩ : ∃ v : List RowT, (if R = true then l else []) = v := ⟨_, rfl⟩
  obtain ⟨yl, hyl⟩ : ∃ v, Yl.length = v := ⟨_, rfl⟩
  rw [hev] at KL
  rw [hfv] at j2
  rw [hYl] at j1
  obtain ⟨x, hx⟩ : ∃ x, X.length = x := ⟨_, rfl⟩
  rw [hx] at j3 j4 KL
  have KX := Lib.hid (fun W P pc (hp : x ≤ pc) (hpm : pc ≤ maxLen) (h : Rd W W.heap.size P X) => by
    have := K.take hx hp hpm (by omega) h
    rw [j1, j2, hyl] at this
    exact this)
  have HE := Lib.hid (show (R = true → 0 = ev ∧ 0 = fv ∧ Yl = l ∧ m = yl) ∧ (R = false → 1 = ev ∧ x = 0) from ⟨fun h => by
    subst h
    refine ⟨hev, hfv, hYl.symm, ?_⟩
    rw [← hyl, ← hYl]
    exact HG.out.len.symm, fun h => by
    subst h
    exact ⟨hev, j4 rfl⟩⟩)
  have htl := takeE_len b
  have htr := takeE_rows b
  obtain ⟨T, hT⟩ : ∃ T, takeE b = T := ⟨_, rfl⟩
  obtain ⟨G, hG⟩ : ∃ G, takeOk b = G := ⟨_, rfl⟩
  have hfin : (G = true → rightE T = true ∧ layX T = b) ∧ (G = false → T = []) := by
    refine ⟨fun h => ?_, fun h => ?_⟩
    · rw [h] at hG
      obtain ⟨h1, h2, _⟩ := lay_take hG
      rw [hT] at h1 h2
      exact ⟨h1, by unfold layX; rw [h1, if_pos rfl]; exact h2⟩
    · rw [h] at hG
      rw [← hT]
      exact takeE_no hG
  rw [hT] at KT htl htr
  rw [hG] at KT
  obtain ⟨gv, hgv⟩ : ∃ v : Int, (if G = true then (0 : Int) else 160) = v := ⟨_, rfl⟩
  rw [hgv] at KT
  obtain ⟨u, hu⟩ : ∃ u, T.length = u := ⟨_, rfl⟩
  rw [hu] at KT htl
  have HT := Lib.hid (And.intro hu (And.intro (show u ≤ 5000 by omega) (And.intro htr hfin)))
  have HGV := Lib.hid (show (G = true → 0 = gv) ∧ (G = false → 160 = gv ∧ T = [] ∧ u = 0) from ⟨fun h => by subst h; exact hgv, fun h => by
    have h0 := hfin.2 h
    subst h
    exact ⟨hgv, h0, by rw [← hu, h0]; rfl⟩⟩)
  have HX := Lib.hid (And.intro hx (And.intro j3 j4))
  have HBL := Lib.hid hbl
  have HBI := Lib.hid (show q ≤ 100000 by omega)
  have KSH := Lib.hid (SH w)
  have HRB := Lib.hid hrb
  clear SH hl hr hle hm' hu hx hm hc hbl hbc hbm hrb hR htl htr hbig j1 j2 j3 j4 hX hT hG hev hfv hYl hyl hgv hfin hlk hsm
  go_enter Try.func9, Try.ntmps9
  go_wp2_with fail
  refine KSH.out.mono ?_
  rintro e w1 ⟨rfl, hb⟩
  have HG1 := Lib.hid (HG.out.on hb)
  have HR1 := Lib.hid ((HRB.out.below hb).more hb.size)
  have HB1 := Lib.hid hb
  clear hb KSH HG HRB
  go_wp2_with fail
  refine (KF.out w1).mono ?_
  rintro e w1b ⟨rfl, rfl⟩
  go_wp2_with fail
  refine (KL.out w1 HG1.out).mono ?_
  rintro e w2 ⟨P, pc, rfl, hpl, hpm, hrp, hb⟩
  have HG2 := Lib.hid (HG1.out.on hb)
  have HR2 := Lib.hid ((HR1.out.below hb).more hb.size)
  have HB2 := Lib.hid (HB1.out.trans (hb.mono HB1.out.size))
  have KX2 := Lib.hid (KX.out w2 P pc hpl hpm hrp)
  clear hb hrp hpl hpm KL HG1 HR1 HB1 hbi KX
  go_wp2_with fail
  refine KX2.out.mono ?_
  rintro e w3 ⟨Y, y, rfl, _, _, hry, hb⟩
  have HG3 := Lib.hid (HG2.out.on hb)
  have HR3 := Lib.hid ((HR2.out.below hb).more hb.size)
  have HB3 := Lib.hid (HB2.out.trans (hb.mono HB2.out.size))
  have HY3 := Lib.hid hry
  clear hb hry KX2 HG2 HR2 HB2
  go_wp2_with fail
  refine (KT.out w3 HR3.out).mono ?_
  rintro e w4 ⟨Z, z, rfl, hz1, hz2, hrz, hb⟩
  have HG4 := Lib.hid (HG3.out.on hb)
  have HR4 := Lib.hid ((HR3.out.below hb).more hb.size)
  have HB4 := Lib.hid (HB3.out.trans (hb.mono HB3.out.size))
  have HY4 := Lib.hid (HY3.out.on hb)
  have HZ4 := Lib.hid (show GivenE w4 Z T u z from ⟨HT.out.1, hz1, hz2, HT.out.2.1, hrz⟩)
  clear hb hrz hz1 hz2 KT HG3 HR3 HB3 HY3
  cases R with
  | true =>
    obtain ⟨h1, h2, h3, h4⟩ := HE.out.1 rfl
    subst h1
    subst h2
    subst h3
    subst h4
    go_wp2_with fail
    refine (KF.out w4).mono ?_
    rintro e w4b ⟨rfl, rfl⟩
    have HSM := Lib.hid (same_true Y A Yl m y c HG4.out.len (by have := HG4.out.small; omega) w4 HY4.out HG4.out.rd)
    go_wp2_with fail
    refine HSM.out.mono ?_
    rintro e w5 ⟨rfl, hb⟩
    clear HSM
    have HB6 := Lib.hid (HB4.out.trans (hb.mono HB4.out.size))
    have HR6 := Lib.hid ((HR4.out.below hb).more hb.size)
    have HZ6 := Lib.hid (HZ4.out.on hb)
    clear hb HB4 HR4 HZ4 HG4 HY4 KF KR
    have KW := K.lay HZ6.out
    go_wp2_with fail
    cases G with
    | true =>
      obtain rfl := HGV.out.1 rfl
      obtain ⟨t1, t2⟩ := HT.out.2.2.2.1 rfl
      rw [t1, t2, if_pos rfl] at KW
      refine KW.mono ?_
      rintro e w7 ⟨W, wc, rfl, _, _, hrw, hb⟩
      have HB7 := Lib.hid (HB6.out.trans (hb.mono HB6.out.size))
      have s1 := hrw.str b.length wc rfl w7 (Below.refl _ _)
      have s2 := ((HR6.out.below hb).more hb.size).str q cb HBL.out w7 (Below.refl _ _)
      obtain ⟨q2, hq2⟩ : ∃ v, b.length = v := ⟨_, rfl⟩
      rw [hq2] at s1 ⊢
      clear hb hrw t1 t2 HB6 HR6 HZ6 hq2
      go_wp2_with fail
      go_ret
      exact ⟨rfl, HB7.out⟩
    | false =>
      obtain ⟨g1, g2, g3⟩ := HGV.out.2 rfl
      subst g1
      subst g3
      rw [g2, lay_nil.1, lay_nil.2, if_pos rfl] at KW
      refine KW.mono ?_
      rintro e w7 ⟨W, wc, rfl, _, _, _, hb⟩
      have HB7 := Lib.hid (HB6.out.trans (hb.mono HB6.out.size))
      clear hb HB6 HR6 HZ6 g2
      go_wp2_with fail
      go_ret
      exact ⟨rfl, HB7.out⟩
  | false =>
    obtain ⟨h1, h2⟩ := HE.out.2 rfl
    subst h1
    subst h2
    go_wp2_with fail
    refine (KF.out w4).mono ?_
    rintro e w4b ⟨rfl, rfl⟩
    go_wp2_with fail
    refine (KR.out w4 HG4.out).mono ?_
    rintro e w5 ⟨rfl, hb⟩
    have HB6 := Lib.hid (HB4.out.trans (hb.mono HB4.out.size))
    have HR6 := Lib.hid ((HR4.out.below hb).more hb.size)
    have HZ6 := Lib.hid (HZ4.out.on hb)
    clear hb HB4 HR4 HZ4 HG4 HY4 KF KR
    have KW := K.lay HZ6.out
    go_wp2_with fail
    cases G with
    | true =>
      obtain rfl := HGV.out.1 rfl
      obtain ⟨t1, t2⟩ := HT.out.2.2.2.1 rfl
      rw [t1, t2, if_pos rfl] at KW
      refine KW.mono ?_
      rintro e w7 ⟨W, wc, rfl, _, _, hrw, hb⟩
      have HB7 := Lib.hid (HB6.out.trans (hb.mono HB6.out.size))
      have s1 := hrw.str b.length wc rfl w7 (Below.refl _ _)
      have s2 := ((HR6.out.below hb).more hb.size).str q cb HBL.out w7 (Below.refl _ _)
      obtain ⟨q2, hq2⟩ : ∃ v, b.length = v := ⟨_, rfl⟩
      rw [hq2] at s1 ⊢
      clear hb hrw t1 t2 HB6 HR6 HZ6 hq2
      go_wp2_with fail
      go_ret
      exact ⟨rfl, HB7.out⟩
    | false =>
      obtain ⟨g1, g2, g3⟩ := HGV.out.2 rfl
      subst g1
      subst g3
      rw [g2, lay_nil.1, lay_nil.2, if_pos rfl] at KW
      refine KW.mono ?_
      rintro e w7 ⟨W, wc, rfl, _, _, _, hb⟩
      have HB7 := Lib.hid (HB6.out.trans (hb.mono HB6.out.size))
      clear hb HB6 HR6 HZ6 g2
      go_wp2_with fail
      go_ret
      exact ⟨rfl, HB7.out⟩
end Go.Proofs.Ytgemjipbifgbgaa
/- Arrays of integers that came in. No statement of the seat is proved here. -/
namespace Go.Proofs.Ytgemjipbifgbgaa
open Go.ChangeShapes Go.WideShapes Go.ChangeAt Go.RowKit

section
variable {H : Type} {enc : TypeId × Value → H} {P : Program} {w : World} {base : Nat}
/-- An array of integers, opened: its cells as a list of numbers. -/
theorem open_array_arg {t e : TypeId} {k : IntKind} {n : Nat} {v : Value} {sp : Nat → Bool} {held : Bool} {r : Reach} {b0 : Nat} {d : DataW H} {p : List MemPlace}
    (ht : P.underlying t = some (.array n e)) (he : P.underlying e = some (.int k)) (hc : P.cellsOf e = 1) (hs : P.cellsOf t = n) (hv : Value.okWide P w r b0 t v)
    (h : DataW.Trod enc P w base sp held t v d p) :
    ∃ zs : List Int, v = .agg (zs.map (Value.int k)).toArray ∧ zs.length = n ∧ ∀ n ∈ zs, (Lit.int k n).wf = true := by
  simp only [Value.okWide, ht] at hv
  obtain ⟨cs, rfl, h2, _⟩ := hv
  rw [hs] at h2
  obtain ⟨fuel, hf⟩ := h
  obtain ⟨xs, m, rfl, _, _, hx, hi⟩ := DataW.trod_array ht hf
  have key : ∀ i (h : i < n), ∃ z : Int, cs[i]'(by omega) = .int k z ∧ (Lit.int k z).wf = true := fun i h => by
    have h1 := hi i h
    rw [hc, List.getElem?_eq_getElem (by omega)] at h1
    have h3 : (((Value.agg cs).cells.toList).drop (i * 1)).take 1 = [cs[i]'(by omega)] := by
      simp only [Value.cells, Nat.mul_one]
      rw [List.drop_eq_getElem_cons (by simpa using (by omega : i < cs.size))]
      simp
    rw [h3] at h1
    obtain ⟨a, ea, _, wa⟩ := DataW.trod_int he h1
    exact ⟨a, by simpa using ea, wa⟩
  refine ⟨(List.range n).map fun i => ((cs[i]?.bind fun v => match v with | .int _ z => some z | _ => none).getD 0), ?_, by simp, ?_⟩
  · congr 1
    apply Array.ext
    · simp [h2]
    · intro i h3 h4
      obtain ⟨z, hz, _⟩ := key i (by omega)
      simp [Array.getElem?_eq_getElem h3, hz]
  · intro y hy
    simp only [List.mem_map, List.mem_range] at hy
    obtain ⟨i, hin, rfl⟩ := hy
    obtain ⟨z, hz, hw⟩ := key i hin
    simp [Array.getElem?_eq_getElem (show i < cs.size by omega), hz, hw]
end
end Go.Proofs.Ytgemjipbifgbgaa
