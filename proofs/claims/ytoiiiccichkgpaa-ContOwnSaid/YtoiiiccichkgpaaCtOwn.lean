/- The walk of ContOwn, told from what the package does. No statement of the seat is proved here. -/
import Derived.Test.YtoiiiccichkgpaaCtLays
import Derived.Test.YtoiiiccichkgpaaCtOwnC
import Derived.Test.YtoiiiccichkgpaaRowT
import Derived.Test.YtoiiiccichkgpaaQuiet
import Derived.BigRegion
import Derived.BigQuiet
import Derived.Deep.DrawnRows
namespace Go.Proofs.Ytoiiiccichkgpaa
open Go.RowKit
set_option linter.unusedVariables false
set_option linter.unusedSimpArgs false

/-- An append whose run is known. -/
theorem wpList_append_ran {P : Program} {ops : Array Oper} {rest : List Oper} {o : Oper} {a : Act} {w w' : World} {Q : Exit → Act → World → Prop} (hgd : o.guard = none) (s x : Operand) (t1 t2 : TypeId)
    (ho : o.op = .call { callee := .builtin .append, args := #[s, x], argTypes := #[t1, t2] }) (v u r : Value) (hs : a.eval s = v) (hx : a.eval x = u) (hrun : (Builtin.append_ #[t1, t2] o.type #[v, u]).run P w = .ok r w')
    (h : wpList P ops Q rest (a.put o.dst r) w') : wpList P ops Q (o :: rest) a w := by
  refine wpList_plain hgd fun K hK => ?_
  unfold Oper.wp
  simp [execOp, ho, resolve, invoke, builtin, hs, hx, hrun, Result.andThen]
  exact hK _ _ h
/-- What stands behind Take: the pieces of one's own, everything else as it was. -/
structure OB (w0 w : World) (B : Nat) (A : Option Addr) (c m : Nat) (zs : List PieceT) : Prop where
  bel : Below w0.heap.size w0 w
  ow : OW w B A c m zs
  sz : B ≤ w.heap.size
  base : w0.heap.size ≤ B
section
variable {w0 w w' : World} {B c m : Nat} {A : Option Addr} {zs : List PieceT}
theorem OB.on (h : OB w0 w B A c m zs) (hb : Below w.heap.size w w') : OB w0 w' B A c m zs := ⟨h.bel.trans (hb.mono h.bel.size), h.ow.on hb, Nat.le_trans h.sz hb.size, h.base⟩
theorem OB.drew (h : OB w0 w B A c m zs) (n : Nat) : OB w0 (w.drewN n) B A c m zs := h.on (below_drewN (Below.refl _ _) n)
theorem OB.set (h : OB w0 w B A c m zs) {g i : Nat} {v : Value} {ys : List PieceT} (hg : B ≤ g) (ho : OW (w.setCell ⟨g, i, none⟩ v) B A c m ys) : OB w0 (w.setCell ⟨g, i, none⟩ v) B A c m ys :=
  ⟨h.bel.setCell (Nat.le_trans h.base hg) _, ho, by rw [setCell_size]; exact h.sz, h.base⟩
/-- The cell of a piece's bytes. -/
theorem OB.cell (h : OB w0 w B A c m zs) {i : Nat} (hi : i < zs.length) : ∃ d, A = some ⟨d, 0, none⟩ ∧ w.cell? ⟨d, i * 34 + 33, none⟩ = some (.slice zs[i].adr zs[i].p.data.length zs[i].cap) := by
  obtain ⟨d, hA, _, _, _, hc, _⟩ := OwnP.put_ h.ow.own h.ow.ok h.ow.n hi
  exact ⟨d, hA, hc⟩
end
set_option maxRecDepth 100000 in
set_option maxHeartbeats 16000000 in
theorem own_walk (K : ContsOk) (id : Nat) (hid : id < 4294967296) (A : Option Addr) (ls : List PieceT) (k c : Nat) (hl : ls.length = k) (hk : k ≤ c) (hc : c ≤ maxLen) (w : World) (hr : RdPc w w.heap.size A ls) :
    Calls Try.prog 8 #[.int .u32 id, .slice A k c] w fun e w' => e = .returned (.bool true) ∧ Below w.heap.size w w' := by
  have C0 := Lib.hid (shown_any K w)
  have CL := Lib.hid (light_at A ls k c hl hr)
  have HP := Lib.hid (fun W (hb : Below w.heap.size w W) => (hr.below hb).more hb.size)
  have HPW := Lib.hid (fun W (hb : Below w.heap.size w W) => hr.below hb)
  have HOK := Lib.hid (pds_ok hr)
  by_cases hli : lightC ls = true
  · rw [hli] at CL
    have HSM := Lib.hid (light_small hli)
    have HL := Lib.hid (And.intro hl (And.intro hk hc))
    have HI := Lib.hid hid
    clear hl hk hc hr hli hid
    go_enter Try.func8, Try.ntmps8
    go_wp2_with fail
    refine C0.out.mono ?_
    rintro e w1 ⟨rfl, hb1⟩
    have HB1 := Lib.hid hb1
    clear hb1 C0
    go_wp2_with fail
    refine (CL.out _ HB1.out).mono ?_
    rintro e w1' ⟨rfl, rfl⟩
    clear CL
    go_wp2_with fail
    refine (K.lay A ls k c id w1 HI.out HL.out.1 HL.out.2.1 HL.out.2.2 HSM.out (HP.out w1 HB1.out)).mono ?_
    rintro e w2 ⟨hyes, hno, hb2⟩
    have HB2 := Lib.hid (HB1.out.trans (hb2.mono HB1.out.size))
    clear hb2
    obtain ⟨S, hS⟩ : ∃ S, sizeC (pds ls) = S := ⟨_, rfl⟩
    by_cases hR : refC (pds ls) = 0
    · obtain ⟨A2, c2, t, rfl, ho2, hne⟩ := hyes hR
      have hS2 : S ≤ 65536 := by rw [← hS]; exact (refC_zero hR).2.2.1
      have hS1 : 10 ≤ S := by rw [← hS]; unfold sizeC; omega
      have hk3 : k ≤ 1000 := by
        have := (refC_zero hR).2.1
        rw [pds_length, HL.out.1] at this
        exact this
      have HTK := Lib.hid (take_lay HI.out HOK.out hR)
      have HLL := Lib.hid (show (layC id (pds ls)).length = S by rw [layC_length HOK.out, hS])
      have HDL := Lib.hid (show ∀ q (hq : q < ls.length), ls[q].p.data.length ≤ 4096 from fun q hq => ((refC_zero hR).1 ls[q].p (List.mem_map_of_mem (List.getElem_mem hq))).2)
      rw [hS] at ho2 ⊢
      have hcap : S ≤ c2 ∧ c2 ≤ maxLen := by
        obtain ⟨_, _, e, q1, q2⟩ := ownsRow_form ho2
        injection e with _ _ e
        subst e
        exact ⟨q1, q2⟩
      have HC2 := Lib.hid hcap
      obtain ⟨Q, hQ⟩ : ∃ Q, layC id (pds ls) = Q := ⟨_, rfl⟩
      rw [hQ] at HTK HLL ho2
      obtain ⟨g, rfl, hg, hrow⟩ := row_of_own ho2 hne (by omega)
      have hgw : w.heap.size ≤ g := Nat.le_trans HB1.out.size hg
      have HROW := Lib.hid hrow
      clear hyes hno hR hS ho2 hne hcap hQ hrow hg
      go_wp2_with fail
      refine (K.take (some ⟨g, 0, none⟩) S c2 Q w2 HLL.out HC2.out.1 HC2.out.2 (by omega) HROW.out.rd).mono ?_
      rintro e w3 ⟨_, hyes, hb3⟩
      obtain ⟨A3, c3, ms, hms, rfl, ho3, hc3, hc4, hap⟩ := hyes _ _ HTK.out
      have hml : ms.length = k := by
        have := congrArg List.length hms
        rw [pds_length, pds_length, HL.out.1] at this
        exact this
      have hpl : (pds ls).length = k := by rw [pds_length, HL.out.1]
      have hpo : ∀ x ∈ ms, x.p.Ok := fun x hx => HOK.out x.p (by rw [← hms]; exact List.mem_map_of_mem hx)
      rw [hpl] at ho3 ⊢
      obtain ⟨B, hB⟩ : ∃ B, w2.heap.size = B := ⟨_, rfl⟩
      have hgB : g < B := by rw [← hB]; exact HROW.out.lt
      have H3 := Lib.hid (show OB w w3 B A3 c3 k ms ∧ ∃ L : List UInt8, L.length = S ∧ RowT w3 g L from by
        refine ⟨⟨HB2.out.trans (hb3.mono HB2.out.size), ⟨by rw [← hB]; exact ho3, by rw [← hB]; exact hap, hpo, hml⟩, by rw [← hB]; exact hb3.size, by rw [← hB]; exact HB2.out.size⟩, Q, HLL.out, HROW.out.below hb3⟩)
      obtain ⟨D, hD⟩ : ∃ D : Nat → List UInt8, D = fun q => (ls.getD q default).p.data := ⟨_, rfl⟩
      have HD := Lib.hid (show (∀ q (hq : q < ls.length), ls[q].p.data = D q) ∧ Done D 0 ms from by
        have h1 : ∀ q (hq : q < ls.length), ls[q].p.data = D q := fun q hq => by rw [hD]; simp [hq]
        refine ⟨h1, ⟨fun q hq => ?_⟩⟩
        rw [if_neg (by omega), ← h1 q (by rw [HL.out.1, ← hml]; exact hq)]
        have e1 := pds_get hq
        have e2 := pds_get (show q < ls.length by rw [HL.out.1, ← hml]; exact hq)
        rw [← e1, ← e2]
        exact congrArg PcD.data (List.getElem_of_eq hms _))
      clear hyes hb3 hms ho3 hc3 hc4 hap hml hpl hpo hB hD
      go_wp2_with fail
      go_loopw [39] (fun q wr => ∃ j : Nat, j ≤ S ∧ q = .int .i64 j ∧ Hid (OB w wr B A3 c3 k ms ∧ ∃ L : List UInt8, L.length = S ∧ RowT wr g L)) (fun q _ => S - (intOf q).toNat)
      case atStart => exact ⟨0, Nat.zero_le _, rfl, H3⟩
      case round =>
        clear H3
        obtain ⟨j, hj, rfl, hst⟩ := hrel
        by_cases hlt : j < S
        · obtain ⟨hob, L, hL, hrow⟩ := hst.out
          have hjL : j < L.length := by omega
          obtain ⟨x, hx⟩ : ∃ x, L[j]? = some x := ⟨_, List.getElem?_eq_getElem hjL⟩
          have hcell := hrow.at_ hx
          have hfz := hrow.frozen j
          have hxx := xor_walk x 255 255 rfl
          have HN := Lib.hid (show OB w (wr.setCell ⟨g, j, none⟩ (.int .u8 ((x ^^^ 255).toNat : Nat))) B A3 c3 k ms ∧ ∃ L : List UInt8, L.length = S ∧ RowT (wr.setCell ⟨g, j, none⟩ (.int .u8 ((x ^^^ 255).toNat : Nat))) g L from
            ⟨⟨hob.bel.setCell hgw _, hob.ow.far (setCell_grown (World.grownBy.refl wr _)) hgB, by rw [setCell_size]; exact hob.sz, hob.base⟩, L.set j (x ^^^ 255), by rw [List.length_set]; exact hL, hrow.set_ j _⟩)
          have hi1 : (0 : Int) ≤ (j : Int) := by omega
          have hi2 : (j : Int) < (S : Int) := by omega
          clear hst hob hL hrow hjL hx
          go_wp2_with fail
          go_roundw
          case rel => exact ⟨j + 1, by omega, by go_num, HN⟩
          case measure => simp [intOf]; omega
        · obtain rfl : j = S := by omega
          have H1 := Lib.hid (show OB w wr B A3 c3 k ms ∧ Done D 0 ms from ⟨hst.out.1, HD.out.2⟩)
          have HDD := Lib.hid HD.out.1
          clear hst hlt HD hgB hgw HROW
          go_wp2_with fail
          go_loopw [51] (fun q wq => ∃ i : Nat, i ≤ k ∧ q = .int .i64 i ∧ Hid (∃ zs, OB w wq B A3 c3 k zs ∧ Done D i zs)) (fun q _ => k - (intOf q).toNat)
          case atStart => exact ⟨0, Nat.zero_le _, by trivial, Lib.hid ⟨ms, H1.out⟩⟩
          case round =>
            clear H1
            obtain ⟨i, hi, rfl, hst⟩ := hrel
            by_cases hlt : i < k
            · obtain ⟨zs, hob, hdn⟩ := hst.out
              have hiz : i < zs.length := by rw [hob.ow.n]; exact hlt
              obtain ⟨d, rfl, hcl⟩ := hob.cell hiz
              have hpd := PartD.zero hdn
              rw [hpd.len hiz] at hcl
              obtain ⟨n, hn⟩ : ∃ n, (D i).length = n := ⟨_, rfl⟩
              rw [hn] at hcl
              have hnm : n ≤ 4096 := by
                have hil : i < ls.length := by rw [HL.out.1]; exact hlt
                rw [← hn, ← HDD.out i hil]
                exact HDL.out i hil
              have HN := Lib.hid hn
              have H2 := Lib.hid (show ∃ zs, OB w wr B (some ⟨d, 0, none⟩) c3 k zs ∧ PartD D i 0 zs from ⟨zs, hob, hpd⟩)
              obtain ⟨xa, hxa⟩ : ∃ xa, zs[i].adr = xa := ⟨_, rfl⟩
              obtain ⟨xc, hxc⟩ : ∃ xc, zs[i].cap = xc := ⟨_, rfl⟩
              rw [hxa, hxc] at hcl
              have hi1 : (0 : Int) ≤ (i : Int) := by omega
              have hi2 : (i : Int) < (k : Int) := by omega
              clear hst hob hdn hiz hpd hn hxa hxc
              go_wp2_with fail
              go_loopw [60] (fun q wv => ∃ p : Nat, p ≤ n ∧ q = .int .i64 p ∧ Hid (∃ zs, OB w wv B (some ⟨d, 0, none⟩) c3 k zs ∧ PartD D i p zs)) (fun q _ => n - (intOf q).toNat)
              case atStart => exact ⟨0, Nat.zero_le _, by trivial, H2⟩
              case round =>
                clear H2 hcl
                obtain ⟨p, hp, rfl, hst⟩ := hrel
                by_cases hlp : p < n
                · obtain ⟨zs, hob, hpd⟩ := hst.out
                  have hiz : i < zs.length := by rw [hob.ow.n]; exact hlt
                  obtain ⟨d2, hd2, hcl⟩ := hob.cell hiz
                  injection hd2 with hd2
                  injection hd2 with hd2 _ _
                  subst hd2
                  have hlen := hpd.len hiz
                  rw [HN.out] at hlen
                  have hpz : p < zs[i].p.data.length := by omega
                  have hpn : p < (D i).length := by rw [HN.out]; exact hlp
                  obtain ⟨gd, o, ha, hgb, hgl, hcb, hfb, hset⟩ := hob.ow.byte hiz hpz
                  have hby := hpd.byte hiz hpn hpz
                  obtain ⟨x, hx⟩ : ∃ x, (D i)[p] = x := ⟨_, rfl⟩
                  rw [hby, hx] at hcb
                  rw [hlen, ha] at hcl
                  have hxx := xor_walk x 85 85 rfl
                  have HNX := Lib.hid (show ∃ zs, OB w (wr.setCell ⟨gd, o + p, none⟩ (.int .u8 ((x ^^^ 85).toNat : Nat))) B (some ⟨d, 0, none⟩) c3 k zs ∧ PartD D i (p + 1) zs from
                    ⟨_, hob.set hgb (hset (x ^^^ 85)), by rw [← hx]; exact hpd.next hiz hpn _ _⟩)
                  obtain ⟨xc, hxc⟩ : ∃ xc, zs[i].cap = xc := ⟨_, rfl⟩
                  rw [hxc] at hcl
                  have hp1 : (0 : Int) ≤ (p : Int) := by omega
                  have hp2 : (p : Int) < (n : Int) := by omega
                  clear hst hob hpd hiz hlen hpz hpn ha hgb hgl hset hby hx hxc
                  go_wp2_with fail
                  go_roundw
                  case rel => exact ⟨p + 1, by omega, by go_num, HNX⟩
                  case measure => simp [intOf]; omega
                · obtain rfl : p = n := by omega
                  obtain ⟨zs, hob, hpd⟩ := hst.out
                  have hiz : i < zs.length := by rw [hob.ow.n]; exact hlt
                  obtain ⟨d2, hd2, hcl⟩ := hob.cell hiz
                  injection hd2 with hd2
                  injection hd2 with hd2 _ _
                  subst hd2
                  have hlen := hpd.len hiz
                  rw [HN.out] at hlen
                  have hal : Below wr.heap.size wr (wr.alloc (.cells #[.int .u8 1, .int .u8 2, .int .u8 3] 5)) := (Below.refl _ _).alloc (Nat.le_refl _) _
                  have hob1 := hob.on hal
                  obtain ⟨A', c', w4, g2, d3, hrun, hg2, hgr, hd3, hdB, hdl, hcl2, hfz2, hOW⟩ := hob1.ow.app hiz (by omega) hob1.sz wr.heap.size 3 (fun j u hu => by
                    rw [Addr.add_lit, (Blk.new wr 5 #[.int .u8 1, .int .u8 2, .int .u8 3]).cell, Nat.zero_add]
                    simpa using hu) 26
                  injection hd3 with hd3
                  injection hd3 with hd3 _ _
                  subst hd3
                  have hpd2 : PartD D i (D i).length zs := by rw [HN.out]; exact hpd
                  have hwB := hob1.base
                  have hb4 : Below w.heap.size w w4 := hob1.bel.grown hgr hob1.bel.size fun r hr => by injection hr with hr; omega
                  have HNX := Lib.hid (show ∃ zs, OB w (w4.setCell ⟨d, i * 34 + 33, none⟩ (.slice A' (p + 3) c')) B (some ⟨d, 0, none⟩) c3 k zs ∧ Done D (i + 1) zs from by
                    refine ⟨_, ⟨?_, by rw [hlen] at hOW; exact hOW, by rw [setCell_size]; exact Nat.le_trans hob1.sz hgr.size, hwB⟩, hpd2.app hiz A' c'⟩
                    exact hb4.setCell (Nat.le_trans hwB hdB) _)
                  rw [hlen] at hcl hcl2 hrun
                  obtain ⟨xa, hxa⟩ : ∃ xa, zs[i].adr = xa := ⟨_, rfl⟩
                  obtain ⟨xc, hxc⟩ : ∃ xc, zs[i].cap = xc := ⟨_, rfl⟩
                  rw [hxa, hxc] at hcl hcl2 hrun
                  have hi1 : (0 : Int) ≤ (i : Int) := by omega
                  have hi2 : (i : Int) < (k : Int) := by omega
                  clear hst hob hpd hiz hlen hal hob1 hg2 hgr hdB hdl hOW hpd2 hwB hb4 hxa hxc
                  have HRUN := Lib.hid hrun
                  clear hrun
                  go_wp2_with (at_builtin; refine wpList_append_ran rfl (.tmp 80) (.tmp 81) 26 26 rfl _ _ _ rfl rfl HRUN.out ?_)
                  go_roundw
                  case rel => exact ⟨i + 1, by omega, by go_num, HNX⟩
                  case measure => simp [intOf]; omega
            · obtain rfl : i = k := by omega
              obtain ⟨zs, hob, hdn⟩ := hst.out
              have H4 := Lib.hid hob
              have HDN := Lib.hid hdn
              clear hst hob hdn
              go_wp2_with fail
              go_loopw [97] (fun q wv => ∃ p : Nat, p ≤ i ∧ q = .int .i64 p ∧ Hid (OB w wv B A3 c3 i zs)) (fun q _ => i - (intOf q).toNat)
              case atStart => exact ⟨0, Nat.zero_le _, by trivial, H4⟩
              case round =>
                clear H4
                obtain ⟨p, hp, rfl, hst⟩ := hrel
                by_cases hlp : p < i
                · have hpz : p < zs.length := by rw [hst.out.ow.n]; exact hlp
                  have hpl : p < ls.length := by rw [HL.out.1]; exact hlp
                  obtain ⟨d, rfl, hcl⟩ := hst.out.cell hpz
                  obtain ⟨gl, ol, rfl, hgl, hcx, hlo⟩ := (HPW.out _ hst.out.bel).data hpl
                  have hdat := HDN.out.at_ p hpz
                  rw [if_pos hlp] at hdat
                  have hdl := HDD.out p hpl
                  obtain ⟨n, hn⟩ : ∃ n, (D p).length = n := ⟨_, rfl⟩
                  have hzl : zs[p].p.data.length = n + 3 := by rw [hdat, List.length_append, tx_length, hn]; rfl
                  have hll : ls[p].p.data.length = n := by rw [hdl, hn]
                  have hnm : n ≤ 4096 := by rw [← hll]; exact HDL.out p hpl
                  rw [hzl] at hcl
                  rw [hll] at hcx
                  obtain ⟨xa, hxa⟩ : ∃ xa, zs[p].adr = xa := ⟨_, rfl⟩
                  obtain ⟨xc, hxc⟩ : ∃ xc, zs[p].cap = xc := ⟨_, rfl⟩
                  obtain ⟨ya, hya⟩ : ∃ xa, ls[p].adr = xa := ⟨_, rfl⟩
                  obtain ⟨yc, hyc⟩ : ∃ xc, ls[p].cap = xc := ⟨_, rfl⟩
                  rw [hxa, hxc] at hcl
                  rw [hya, hyc] at hcx
                  obtain ⟨n3, hn3⟩ : ∃ n3, n + 3 = n3 := ⟨_, rfl⟩
                  rw [hn3] at hcl
                  have h33 : (n3 : Int) = (n : Int) + 3 := by omega
                  have HX := Lib.hid (And.intro hzl (And.intro hll (And.intro hxa (And.intro hxc (And.intro hya hyc)))))
                  have HDAT := Lib.hid (And.intro hdat (And.intro hdl hn))
                  have HN3 := Lib.hid hn3
                  have hp1 : (0 : Int) ≤ (p : Int) := by omega
                  have hp2 : (p : Int) < (i : Int) := by omega
                  clear hlo hdat hdl hn hzl hll hxa hxc hya hyc hn3
                  go_wp2_with fail
                  clear h33
                  go_loopw [116] (fun q wu => ∃ r : Nat, r ≤ n ∧ q = .int .i64 r ∧ Hid (OB w wu B (some ⟨d, 0, none⟩) c3 i zs)) (fun q _ => n - (intOf q).toNat)
                  case atStart => exact ⟨0, Nat.zero_le _, by trivial, hst⟩
                  case round =>
                    clear hst hcl hcx
                    obtain ⟨r, hr, rfl, hst⟩ := hrel
                    by_cases hlr : r < n
                    · obtain ⟨d2, hd2, hcl⟩ := hst.out.cell hpz
                      injection hd2 with hd2
                      injection hd2 with hd2 _ _
                      subst hd2
                      obtain ⟨g5, o5, e5, _, hcx, hlo⟩ := (HPW.out _ hst.out.bel).data hpl
                      injection e5 with e5
                      injection e5 with e5 e6 _
                      subst e5 e6
                      obtain ⟨q1, q2, q3, q4, q5, q6⟩ := HX.out
                      have hrz : r < zs[p].p.data.length := by omega
                      have hrl : r < ls[p].p.data.length := by omega
                      obtain ⟨gz, oz, hza, _, hgz, hcz, _, _⟩ := hst.out.ow.byte hpz hrz
                      obtain ⟨gy, oy, hyA, hgy, hcy⟩ := hlo.rd (by omega)
                      have hcy1 := hcy r hrl
                      obtain ⟨x, hx⟩ : ∃ x, ls[p].p.data[r] = x := ⟨_, rfl⟩
                      have hzx : zs[p].p.data[r] = x ^^^ 85 := by
                        have h1 : zs[p].p.data[r]? = some (x ^^^ 85) := by
                          rw [HDAT.out.1, List.getElem?_append_left (by rw [tx_length, HDAT.out.2.2]; exact hlr)]
                          unfold tx
                          rw [List.getElem?_map, ← HDAT.out.2.1, List.getElem?_eq_getElem hrl, hx]
                          rfl
                        rw [List.getElem?_eq_getElem hrz] at h1
                        injection h1
                      rw [hzx] at hcz
                      rw [hx] at hcy1
                      rw [q1, q4, hza, HN3.out] at hcl
                      rw [q2, q6, hyA] at hcx
                      have hxx : bits .xor .u8 (((x ^^^ 85).toNat : Nat) : Int) 85 = ((x.toNat : Nat) : Int) := by
                        have := xor_walk (x ^^^ 85) 85 85 rfl
                        rwa [xor_back] at this
                      have hr1 : (0 : Int) ≤ (r : Int) := by omega
                      have hr2 : (r : Int) < (n : Int) := by omega
                      have hr3 : (r : Int) < (n3 : Int) := by have := HN3.out; omega
                      clear hlo hza hcy hyA hgy hgz hzx hx hrz hrl q1 q2 q3 q4 q5 q6
                      generalize (x ^^^ 85).toNat = y1 at *
                      generalize x.toNat = y2 at *
                      go_wp2_with fail
                      go_quiet (fail)
                      have HNX := Lib.hid (hst.out.drew nq)
                      clear hst hcl hcx hcz hcy1
                      go_wp2_with fail
                      go_roundw
                      case rel => exact ⟨r + 1, by omega, by go_num, HNX⟩
                      case measure => simp [intOf]; omega
                    · obtain rfl : r = n := by omega
                      go_wp2_with fail
                      go_roundw
                      case rel => exact ⟨p + 1, by omega, by go_num, hst⟩
                      case measure => simp [intOf]; omega
                · obtain rfl : p = i := by omega
                  go_wp2_with fail
                  go_ret
                  exact ⟨rfl, hst.out.bel⟩
    · obtain ⟨R, hRR⟩ : ∃ R, refC (pds ls) = R := ⟨_, rfl⟩
      obtain ⟨A2, c2, rfl⟩ := hno R hRR (by rw [← hRR]; exact hR)
      have hR0 : ¬ (R : Int) = 0 := by rw [hRR] at hR; omega
      clear hyes hno hR hS hRR
      go_wp2_with fail
      go_ret
      exact ⟨rfl, HB2.out⟩
  · have e : lightC ls = false := by simpa using hli
    rw [e] at CL
    clear hl hk hc hr hli hid e
    go_enter Try.func8, Try.ntmps8
    go_wp2_with fail
    refine C0.out.mono ?_
    rintro e w1 ⟨rfl, hb1⟩
    have HB1 := Lib.hid hb1
    clear hb1 C0
    go_wp2_with fail
    refine (CL.out _ HB1.out).mono ?_
    rintro e w1' ⟨rfl, rfl⟩
    clear CL
    go_wp2_with fail
    go_ret
    exact ⟨rfl, HB1.out⟩
end Go.Proofs.Ytoiiiccichkgpaa
