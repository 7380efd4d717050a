/- The reference's Take (cellarageref11): its walk. No statement of the seat is proved here. -/
import Derived.Test.YtoiiiccichkgpaaCtMG
import Derived.Test.YtoiiiccichkgpaaRefEnd
import Derived.Test.YtoiiiccichkgpaaCtRowB
import Derived.BigRegion
import Derived.BigQuiet
import Derived.Great.BuildSlice
namespace Go.Proofs.Ytoiiiccichkgpaa
open Go.RowKit
set_option linter.unusedVariables false
set_option linter.unusedSimpArgs false

theorem info_intC : (Try.prog.info? 3).map (fun i => (i.zero, i.size, i.bytes)) = some (some (.int .i64 0), 1, 8) := by kernel_rfl
theorem info_piece2 : (Try.prog.info? 42).map (fun i => (i.zero, i.size)) = some (some (.agg pz), 34) := by kernel_rfl
theorem zero_piece : ∃ Z0 : Array Value, (Try.prog.info? 42).map (fun i => (i.zero, i.size)) = some (some (.agg Z0), 34) ∧ Z0 = pz := ⟨_, info_piece2, rfl⟩
theorem piece_desc : ∃ fs, Try.prog.underlying 42 = some (.struct fs) := ⟨_, Try.underlying42⟩
theorem rlay_some (A : Option Addr) (ls : List PieceT) (k c id : Nat) (hid : id < 4294967296) (hl : ls.length = k) (hs : SmallC ls) (w : World) (hr : RdPc w w.heap.size A ls) :
    Calls Try.prog 12 #[.int .u32 id, .slice A k c] w fun e w' => (∃ Y E, e = .returned (.tuple #[Y, .int .i64 E])) ∧ Below w.heap.size w w' := by
  by_cases h : refC (pds ls) = 0
  · exact (rlay_yes A ls k c id hid hl hs w hr h).mono fun e w' ⟨A', c', h1, _, h3⟩ => ⟨⟨_, _, h1⟩, h3⟩
  · exact (rlay_no A ls k c id _ hl hs w hr rfl h).mono fun e w' ⟨h1, h3⟩ => ⟨⟨_, _, h1⟩, h3⟩
theorem bare_size {ls : List PieceT} (h : ∀ q ∈ ls, q.p.Ok ∧ q.p.data = [] ∧ q.adr = none ∧ q.cap = 0) : sizeC (pds ls) = 10 + 38 * ls.length := by
  unfold sizeC pds
  congr 1
  induction ls with
  | nil => rfl
  | cons q ls ih =>
    rw [List.map_cons, List.map_cons, List.sum_cons, ih fun y hy => h y (by simp [hy]), (h q (by simp)).2.1, List.length_cons]
    simp only [List.length_nil]
    omega
theorem bare_rd {w0 w : World} {g c i pc j : Nat} {A P S : Option Addr} {sc ns : Nat} {szs zs : List Nat} {x : List UInt8} {f f' : Int} {i' : Nat} {ls : List PieceT} (h : TC w0 w g A c x i f P pc j ls S sc ns zs) (hb : Bare x ls szs j i' f') (hj : j ≤ 2700) : RdPc w w.heap.size P ls ∧ SmallC ls := by
  obtain rfl := hb.nl
  refine ⟨OwnP.rd h.own fun q hq => ?_, ⟨by omega, by rw [bare_size hb.bare]; omega⟩⟩
  obtain ⟨h1, h2, h3, h4⟩ := hb.bare q hq
  exact ⟨h1, by rw [h2]; exact Rd.nil _ _ _, by rw [h2, h4]; exact Nat.le_refl _, by rw [h4]; exact Nat.zero_le _⟩
/-- The pieces when the first p have their bytes. -/
def tgt (T : List ((List UInt8 × Nat) × Nat)) (x : List UInt8) (o p q : Nat) : PcD := ⟨(T.getD q default).1.1, (T.getD q default).1.2, if q < p then (x.drop (o + sumT T q)).take (T.getD q default).2 else []⟩
structure Filled (w : World) (T : List ((List UInt8 × Nat) × Nat)) (x : List UInt8) (o j p : Nat) (l : List PieceT) : Prop where
  n : l.length = j
  at_ : ∀ q (h : q < l.length), l[q].p = tgt T x o p q
  ok : ∀ y ∈ l, y.Ok w w.heap.size
theorem own_int {w : World} {B n c : Nat} {S : Option Addr} {l : List Nat} (h : OwnN w B S c n l) {q : Nat} (hq : q < l.length) : ∃ d, S = some ⟨d, 0, none⟩ ∧ q < n ∧ w.cell? ⟨d, q, none⟩ = some (.int .i64 (l[q] : Nat)) := by
  have hl := h.1
  rw [List.length_map, Nat.mul_one] at hl
  rcases h.2 with ⟨_, h0⟩ | ⟨g, cap, cur, hv, _, hh, hnc, _, hcs, ht⟩
  · omega
  · injection hv with hA _ _
    refine ⟨g, hA, by omega, ?_⟩
    rw [cell_of_row w g q cur _ (0, 0) hh]
    have hu : (l.map fun y => Value.int .i64 (y : Nat))[q]? = some (.int .i64 (l[q] : Nat)) := by simp [hq]
    rw [← ht, List.getElem?_take] at hu
    split at hu
    · simpa using hu
    · cases hu
theorem Filled.next {w : World} {T : List ((List UInt8 × Nat) × Nat)} {x : List UInt8} {o j p : Nat} {l : List PieceT} (h : Filled w T x o j p l) (hp : p < l.length) {a : Option Addr} {c : Nat} {y : List UInt8} (hy : y = (x.drop (o + sumT T p)).take (T.getD p default).2) (hr : Rd w w.heap.size a y) (hc : y.length ≤ c) (hm : c ≤ maxLen) :
    Filled w T x o j (p + 1) (l.set p (l[p].with_ a c y)) := by
  refine ⟨by rw [List.length_set]; exact h.n, fun q hq => ?_, fun z hz => ?_⟩
  · rw [List.length_set] at hq
    rw [List.getElem_set]
    by_cases e : p = q
    · subst e
      rw [if_pos rfl]
      have h1 := h.at_ p hp
      have hs : l[p].p.s = (T.getD p default).1.1 := by rw [h1]; rfl
      have hn : l[p].p.n = (T.getD p default).1.2 := by rw [h1]; rfl
      show (⟨l[p].p.s, l[p].p.n, y⟩ : PcD) = _
      rw [hs, hn, hy]
      unfold tgt
      rw [if_pos (by omega)]
    · rw [if_neg e, h.at_ q hq]
      unfold tgt
      by_cases h2 : q < p
      · rw [if_pos h2, if_pos (by omega)]
      · rw [if_neg h2, if_neg (by omega)]
  · rcases List.mem_or_eq_of_mem_set hz with hz | rfl
    · exact h.ok z hz
    · have h1 := h.ok _ (List.getElem_mem hp)
      exact ⟨⟨h1.ok.s, h1.ok.n⟩, hr, hc, hm⟩
theorem filled_zero {w : World} {x : List UInt8} {ls : List PieceT} {szs : List Nat} {j i o : Nat} (h : Bare x ls szs j i 0) (hj : j = manyC x) : Filled w (tableC x) x o j 0 ls ∧ ∀ q (h1 : q < szs.length), szs[q] = ((tableC x).getD q default).2 := by
  have hr := h.rows rfl
  have hT : rowsOf j (x.drop 6) = tableC x := by rw [hj]; rfl
  rw [hT] at hr
  refine ⟨⟨h.nl, fun q hq => ?_, fun y hy => ?_⟩, fun q h1 => ?_⟩
  · have h2 : q < szs.length := by rw [h.ns, ← h.nl]; exact hq
    have e : (tableC x).getD q default = (ls[q].p.key, szs[q]) := by
      rw [← hr]
      simp [List.getD, List.getElem?_zipWith, hq, h2]
    unfold tgt
    rw [e, if_neg (by omega)]
    have h3 := (h.bare _ (List.getElem_mem hq)).2.1
    show ls[q].p = ⟨ls[q].p.s, ls[q].p.n, []⟩
    rw [← h3]
  · obtain ⟨h1, h2, h3, h4⟩ := h.bare y hy
    exact ⟨h1, by rw [h2]; exact Rd.nil _ _ _, by rw [h2, h4]; exact Nat.le_refl _, by rw [h4]; exact Nat.zero_le _⟩
  · have h2 : q < ls.length := by rw [h.nl, ← h.ns]; exact h1
    rw [← hr]
    simp [List.getD, List.getElem?_zipWith, h1, h2]
theorem filled_all {w : World} {x : List UInt8} {l : List PieceT} {j : Nat} (h : Filled w (tableC x) x (6 + 38 * j) j j l) (hj : j = manyC x) : pds l = listC x := by
  have hl : (listC x).length = j := by rw [listC_eq, piecesOf_length, tableC_length, hj]
  apply List.ext_getElem
  · rw [pds_length, h.n, hl]
  · intro q h1 h2
    rw [pds_length] at h1
    have h3 : q < (tableC x).length := by rw [tableC_length, ← hj]; omega
    rw [pds_get h1, h.at_ q h1]
    have h4 := piecesOf_get (tableC x) (x.drop (6 + 38 * manyC x)) q h3
    have e : (tableC x).getD q default = (tableC x)[q] := by simp [h3]
    unfold tgt
    rw [e, if_pos (by omega)]
    have h5 : (listC x)[q] = (piecesOf (tableC x) (x.drop (6 + 38 * manyC x)))[q]'(by rw [piecesOf_length]; exact h3) := rfl
    rw [h5, h4, List.drop_drop, hj]
theorem size_pieces (rs : List ((List UInt8 × Nat) × Nat)) (y : List UInt8) : sizeC (piecesOf rs y) ≤ 10 + 38 * rs.length + sumT rs rs.length := by
  have h : ((piecesOf rs y).map fun p => 38 + p.data.length).sum ≤ 38 * rs.length + (rs.map (·.2)).sum := by
    induction rs generalizing y with
    | nil => exact Nat.le_refl _
    | cons r rs ih =>
      obtain ⟨k, m⟩ := r
      have := ih (y.drop m)
      rw [piecesOf, List.map_cons, List.sum_cons, List.map_cons, List.sum_cons, List.length_cons]
      have h2 : (y.take m).length ≤ m := by rw [List.length_take]; omega
      simp only
      omega
  unfold sizeC sumT
  rw [List.take_of_length_le (Nat.le_refl _)]
  omega
theorem filled_rd {w0 w : World} {g c i pc j : Nat} {A P S : Option Addr} {sc ns : Nat} {zs : List Nat} {x : List UInt8} {f : Int} {l : List PieceT} {T : List ((List UInt8 × Nat) × Nat)} {o p : Nat} (h : TC w0 w g A c x i f P pc j l S sc ns zs) (hf : Filled w0 T x o j p l) : RdPc w w.heap.size P l := by
  obtain rfl := hf.n
  exact OwnP.rd h.own fun q hq => ((hf.ok q hq).below h.bel).more h.bel.size
set_option maxRecDepth 100000 in
set_option maxHeartbeats 16000000 in
theorem rtake_long (A : Option Addr) (n c : Nat) (b x : List UInt8) (w : World) (hx : b.take n = x) (hl : b.length = n + 4) (hn : n ≤ 100000) (hk : n + 4 ≤ c) (hc : c ≤ maxLen) (hr : Rd w w.heap.size A b) (hse : b = sealB x)
    (ho : Calls Try.prog 31 #[.slice A (n + 4) c] w fun e w' => e = .returned (.tuple #[.slice A n c, .bool true]) ∧ Below w.heap.size w w') :
    Calls Try.prog 16 #[.slice A (n + 4) c] w (RTook w b) := by
  have hxl : x.length = n := by rw [← hx, List.length_take]; omega
  have HO := Lib.hid ho
  have HX := Lib.hid (And.intro hx (And.intro hl (And.intro hn (And.intro hk (And.intro hc (And.intro hr (And.intro hse hxl)))))))
  clear ho hx hl hn hk hc hr hse hxl
  go_enter Try.func16, Try.ntmps16
  go_upto_region 4 with (go_at_call 31; refine HO.out.mono ?_; rintro e w1 ⟨rfl, hb1⟩)
  go_upto_region 5 with fail
  obtain ⟨g, hg⟩ : ∃ g, w1.heap.size = g := ⟨_, rfl⟩
  obtain ⟨w2, hw2⟩ : ∃ w2, w1.alloc (.cells #[.slice A n c, .int .i64 0, .int .i64 0] 65) = w2 := ⟨_, rfl⟩
  rw [hg, hw2]
  have H0 := Lib.hid (show TC w w2 g A c x 0 0 none 0 0 [] none 0 0 [] from by
    obtain ⟨_, q1, q2, q3, q4, q5, _, q6⟩ := HX.out
    have hb2 : Below w1.heap.size w1 w2 := hw2 ▸ (Below.refl _ _).alloc (Nat.le_refl _) _
    have hsz := hb1.size
    refine rtake_start (hb1.trans (hb2.mono hsz)) (by rw [← hw2, ← hg, q6]; exact Blk.new w1 _ _) (by omega) (by omega) (by omega) ?_
    have := (q5.below (hb1.trans (hb2.mono hsz))).take n
    rw [HX.out.1] at this
    exact this.more (by omega))
  clear hw2 hb1 hg
  go_wp2_with fail
  refine (rget_two H0.out.rf 4 (by omega)).mono ?_
  rintro e w3 ⟨hg3, V, i1, f1, rfl, hV, hr3, hm3, hv3⟩
  have H1 := Lib.hid (H0.out.get hg3 hr3)
  have hV2 : V < 4294967296 := hV
  have cv : IntKind.u32.wrap (V : Int) = (V : Int) := by rw [IntKind.wrap_u32']; omega
  have HM3 := Lib.hid (And.intro hm3 hv3)
  clear hg3 hV hr3 hm3 hv3 H0
  go_wp2_with fail
  refine (rget_two H1.out.rf 2 (by omega)).mono ?_
  rintro e w4 ⟨hg4, U, i2, f2, rfl, hU, hr4, hm4, hv4⟩
  have H2 := Lib.hid (H1.out.get hg4 hr4)
  have hU2 : U < 65536 := hU
  have cu : IntKind.i64.wrap (U : Int) = (U : Int) := by rw [IntKind.wrap_i64]; omega
  have HM4 := Lib.hid (show Moved x 0 0 6 i2 f2 ∧ (f2 = 0 → V = idC x ∧ U = manyC x) from by
    have hmm := HM3.out.1.trans hm4
    refine ⟨hmm, fun hf => ?_⟩
    have h6 : 6 ≤ x.length := Nat.le_of_not_lt fun hc => hmm.2 (by omega) hf
    have a1 := HM3.out.1.1 ⟨rfl, by omega⟩
    refine ⟨HM3.out.2 (by simp; omega), ?_⟩
    have := hv4 ⟨a1.2, by omega⟩
    rw [a1.1] at this
    exact this)
  clear hg4 hU hr4 hm4 hv4 H1 HM3
  go_wp2_with fail
  obtain ⟨i0, hi, hz0, hz1, hz2⟩ := info_parts info_piece
  have HI := Lib.hid (And.intro hi (And.intro hz0 (And.intro hz1 hz2)))
  obtain ⟨i3, hi3, hz3, hz4, hz5⟩ := info_parts info_intC
  have HN := Lib.hid (And.intro hi3 (And.intro hz3 (And.intro hz4 hz5)))
  obtain ⟨Z0, hiZ, hZ0⟩ := zero_piece
  obtain ⟨hzs, hszs⟩ := zero_of_info hiZ
  have HZ0 := Lib.hid hZ0
  have HSS := Lib.hid hszs
  have HZS := Lib.hid hzs
  obtain ⟨fs, hfs⟩ := piece_desc
  have HF := Lib.hid hfs
  clear hi hz0 hz1 hz2 hi3 hz3 hz4 hz5 hiZ hszs hZ0 hzs hfs
  go_loopw [10, 11, 12] (fun v s q wr => ∃ (j i : Nat) (f : Int) (P S : Option Addr) (pc sc : Nat) (ls : List PieceT) (szs : List Nat), j ≤ U ∧ j ≤ 2700 ∧ q = .int .i64 j ∧ v = .slice P j pc ∧ s = .slice S j sc ∧ Hid (TC w wr g A c x i f P pc j ls S sc j szs) ∧ Hid (Bare x ls szs j i f)) (fun _ _ q _ => U - (intOf q).toNat)
  case atStart => exact ⟨0, i2, f2, none, none, 0, 0, [], [], Nat.zero_le _, by omega, by trivial, by trivial, by trivial, H2, Lib.hid ⟨rfl, rfl, by simp, HM4.out.1, fun _ => rfl, by simp⟩⟩
  case round =>
    clear H2
    obtain ⟨j, i, f, P, S, pc, sc, ls, szs, hj, hj2, rfl, rfl, rfl, HT, HB⟩ := hrel
    have hc2 := HT.out.rf.1.cell 2
    by_cases hf : f = 0
    · subst hf
      by_cases hlt : j < U
      · clear hj2
        have hjx : j + 1 ≤ 2700 := by
          have := (HB.out.fits rfl).1
          have h2 := HX.out.2.2.2.2.2.2.2
          have h3 := HX.out.2.2.1
          omega
        go_upto_region 12 with fail
        clear hc2
        go_wp2_with fail
        rename_i K12 hK12
        refine (rsum_any g c i A x 0 wr HT.out.rf).mono ?_
        rintro e w5 ⟨hg5, s, i5, f5, rfl, hs5, hr5, hm5, hv5⟩
        have H5 := Lib.hid (HT.out.get hg5 hr5)
        have HS5 := Lib.hid hs5
        have HM5 := Lib.hid (And.intro hm5 hv5)
        clear hg5 hr5 hm5 hv5 HT hs5
        obtain ⟨d, hd⟩ : ∃ d, w5.heap.size = d := ⟨_, rfl⟩
        obtain ⟨w6, hw6⟩ : ∃ w6, w5.alloc (.cells Z0 42) = w6 := ⟨_, rfl⟩
        have HD := Lib.hid hd
        have HW6 := Lib.hid hw6
        have hba : Below w5.heap.size w5 w6 := hw6 ▸ (Below.refl _ _).alloc (Nat.le_refl _) _
        have H6 := Lib.hid (H5.out.on hba)
        have HBZ := Lib.hid (show Blk w6 d 42 Z0 by rw [← hw6, ← hd]; exact Blk.new w5 _ _)
        have HP6 := Lib.hid (show (Value.slice P j pc).ownBlock ≠ some d from fun e => by have := (H5.out.own.lt d e).2; omega)
        have HS6 := Lib.hid (show (Value.slice S j sc).ownBlock ≠ some d from fun e => by have := (H5.out.siz.lt d e).2; omega)
        have HGD := Lib.hid (show g < d by rw [← hd]; exact H5.out.rf.1.lt)
        have HK := Lib.hid (show KeyT.Ok (s, 0) from ⟨HS5.out, (by decide : (0 : Nat) < 4294967296)⟩)
        have S1 := Lib.hid (show (Try.prog.info? 42).map (·.size) = some (pcs (PieceT.bare (s, 0))).toArray.size by rw [List.size_toArray, pcs_length (bare_ok HK.out)]; exact HSS.out)
        have S3 := Lib.hid (show Z0.size = (pcs (PieceT.bare (s, 0))).toArray.size by rw [HZ0.out]; exact (show pz.size = 34 from rfl).trans (by simp [pcs_length (bare_ok HK.out)]))
        have S4 := Lib.hid (show (pcs (PieceT.bare (s, 0))).toArray.all (·.oneCell') = true by rw [List.all_toArray, List.all_eq_true]; exact pcs_one _)
        have hzs := HZS.out
        clear hd hw6 hba H5
        refine hK12 _ _ ?_
        refine wpList_buildTo rfl 40 #[(0, Operand.tmp 46)] rfl (some 47) rfl (kcs (s, 0)).toArray (by simp only [List.map_toArray, List.map_cons, List.map_nil]; exact built_key HS5.out) ?_
        refine wpList_buildTo rfl 42 #[(0, Operand.tmp 47)] rfl (some 48) rfl (pcs (PieceT.bare (s, 0))).toArray (by simp only [List.map_toArray, List.map_cons, List.map_nil]; exact built_piece HK.out) ?_
        clear hK12
        go_upto_region 13 with (rw [HW6.out, HD.out]; refine wpList_store_row rfl 42 (.tmp 13) (.tmp 48) rfl d (pcs (PieceT.bare (s, 0))).toArray rfl rfl 42 Z0 HBZ.out S1.out S3.out S4.out ?_)
        clear hzs
        have H7 := Lib.hid (H6.out.other (w' := w6.setRow d (pcs (PieceT.bare (s, 0))).toArray) (d := d) ⟨rfl, rfl, rfl, by simp, fun k hk hn => setRow_other _ _ _ _ fun e => hn (by rw [e])⟩ HGD.out HP6.out HS6.out)
        have HB7 := Lib.hid (show Blk (w6.setRow d (pcs (PieceT.bare (s, 0))).toArray) d 42 (pcs (PieceT.bare (s, 0))).toArray from setRow_heap _ _ _ _ _ _ HBZ.out)
        clear H6 HBZ S1 S3 S4 HW6 HD
        generalize w6.setRow d (pcs (PieceT.bare (s, 0))).toArray = w7 at *
        go_wp2_with fail
        refine (rget_two H7.out.rf 4 (by omega)).mono ?_
        rintro e w8 ⟨hg8, N, i8, f8, rfl, hN, hr8, hm8, hv8⟩
        have H8 := Lib.hid (H7.out.get hg8 hr8)
        have hN2 : N < 4294967296 := hN
        have cn : IntKind.u32.wrap (N : Int) = (N : Int) := by rw [IntKind.wrap_u32']; omega
        have hB8 : Blk w8 d 42 (pcs (PieceT.bare (s, 0))).toArray := HB7.out.same (hg8.block _ HB7.out.lt (by have := HGD.out; simp; omega))
        have c8 : w8.cell? ⟨d, 32, none⟩ = some (.int .u32 (0 : Nat)) := by
          rw [hB8.cell, List.getElem?_toArray]
          exact pcs_num (bare_ok HK.out)
        have z8 := hB8.frozen 32
        have hG9 : w8.grownBy (w8.setCell ⟨d, 32, none⟩ (.int .u32 N)) (some d) := setCell_grown (World.grownBy.refl _ _)
        have H9 := Lib.hid (H8.out.other hG9 HGD.out HP6.out HS6.out)
        have HB9 := Lib.hid (show Blk (w8.setCell ⟨d, 32, none⟩ (.int .u32 N)) d 42 (pcs (PieceT.bare (s, N))).toArray by
          have := hB8.set_ 32 (.int .u32 N)
          rwa [pcs_set_num HS5.out] at this)
        have HM8 := Lib.hid (And.intro hm8 hv8)
        clear hg8 hN hr8 hm8 hv8 H7 HB7 hB8 hG9 H8
        go_upto_region 14 with fail
        generalize w8.setCell ⟨d, 32, none⟩ (.int .u32 N) = w9 at *
        clear c8 z8
        go_wp2_with fail
        refine (rget_two H9.out.rf 2 (by omega)).mono ?_
        rintro e w10 ⟨hg10, m, i10, f10, rfl, hm, hr10, hm10, hv10⟩
        have H10 := Lib.hid (H9.out.get hg10 hr10)
        have hm2 : m < 65536 := hm
        have cm : IntKind.i64.wrap (m : Int) = (m : Int) := by rw [IntKind.wrap_i64]; omega
        have hB10 : Blk w10 d 42 (pcs (PieceT.bare (s, N))).toArray := HB9.out.same (hg10.block _ HB9.out.lt (by have := HGD.out; simp; omega))
        have HM10 := Lib.hid (And.intro hm10 hv10)
        have hba : Below w10.heap.size w10 (w10.alloc (.cells #[.int .i64 m] 3)) := (Below.refl _ _).alloc (Nat.le_refl _) _
        have H11 := Lib.hid (H10.out.on hba)
        have HB11 := Lib.hid (hB10.below hba hB10.lt)
        have HG11 := Lib.hid (show g + 1 ≤ (w10.alloc (.cells #[.int .i64 m] 3)).heap.size by have := H10.out.rf.1.lt; rw [World.size_alloc]; omega)
        clear hg10 hm hr10 hm10 hv10 H9 HB9 hB10 hba H10
        go_wp2_with (at_builtin; refine wpList_append_own _ rfl (.tmp 54) (.tmp 58) 67 rfl (g + 1) 3 i3 (.int .i64 0) 1 8 Try.underlying67 HN.out.1 HN.out.2.1 HN.out.2.2.1 HN.out.2.2.2 rfl (by decide) (.slice S j sc) j _ rfl H11.out.siz ⟨w10.heap.size, 0, none⟩ 1 1 [.int .i64 (m : Nat)] rfl rfl (cell_one_new _ _ _) (by intro u hu; simp at hu; subst hu; rfl) (by unfold maxLen; omega) (by omega) HG11.out ?_)
        intro V' w12 hown' hgrow hnil
        obtain ⟨S', sc', rfl, _, _⟩ := ownsRow_form hown'
        have H12 := Lib.hid (H11.out.size (S' := S') (sc' := sc') (ns' := j + 1) (szs' := szs ++ [m]) hgrow (by
          unfold OwnN
          rw [List.map_append]
          exact hown'))
        have hBd : Blk w12 d 42 (pcs (PieceT.bare (s, N))).toArray := HB11.out.same (hgrow.block _ HB11.out.lt fun e => HS6.out e.symm)
        have HBd := Lib.hid hBd
        have hba : Below w12.heap.size w12 (w12.alloc (.cells (pcs (PieceT.bare (s, N))).toArray 42)) := (Below.refl _ _).alloc (Nat.le_refl _) _
        have H13 := Lib.hid (H12.out.on hba)
        have HNB := Lib.hid (Blk.new w12 42 (pcs (PieceT.bare (s, N))).toArray)
        have HG13 := Lib.hid (show g + 1 ≤ (w12.alloc (.cells (pcs (PieceT.bare (s, N))).toArray 42)).heap.size by have := H12.out.rf.1.lt; rw [World.size_alloc]; omega)
        have HKN := Lib.hid (show (PieceT.bare (s, N)).p.Ok from ⟨HS5.out, hN2⟩)
        have S2 := Lib.hid (show (Try.prog.info? 42).map (·.size) = some (pcs (PieceT.bare (s, N))).toArray.size by rw [List.size_toArray, pcs_length HKN.out]; exact HSS.out)
        clear hown' hgrow hnil H11 HB11 HG11 hBd hba H12
        go_wp2_with (first
          | (refine wpList_load_row rfl 42 (.tmp 13) rfl d rfl 42 (pcs (PieceT.bare (s, N))).toArray (0, 0) (.struct fs) HBd.out HF.out rfl S2.out ?_)
          | (refine wpList_buildPiece rfl (.tmp 61) rfl HKN.out rfl ?_)
          | (at_builtin; refine wpList_append_piece rfl (.tmp 60) (.tmp 62) rfl (g + 1) i0 HI.out.1 HI.out.2.1 HI.out.2.2.1 HI.out.2.2.2 P pc j ls rfl H13.out.own w12.heap.size 1 (PieceT.bare (s, N)) rfl HKN.out HNB.out ?_ HG13.out ?_))
        case _ => omega
        intro P' pc' w14 ho14 hg14
        have H14 := Lib.hid (H13.out.push hg14 ho14)
        have HBB := Lib.hid (HB.out.next HS5.out hN2 hm2 HM5.out.1 (fun h => HM5.out.2 ⟨trivial, h.2⟩) HM8.out.1 HM8.out.2 HM10.out.1 HM10.out.2)
        clear ho14 hg14 H13 HNB HG13 HBd S2
        go_wp2_with fail
        go_roundw
        case rel => exact ⟨j + 1, i10, f10, P', S', pc', sc', ls ++ [PieceT.bare (s, N)], szs ++ [m], by omega, hjx, by go_num, by trivial, by trivial, H14, HBB⟩
        case measure => simp [intOf]; omega
      · obtain rfl : j = U := by omega
        obtain ⟨hfx, hfi⟩ := HB.out.fits rfl
        have hf2 : f2 = 0 := (HM4.out.1.1 ⟨rfl, by omega⟩).2
        obtain ⟨hVx, hUx⟩ := HM4.out.2 hf2
        obtain ⟨hfz, hfs2⟩ := filled_zero (w := w) (o := 6 + 38 * j) HB.out hUx
        obtain ⟨T, hT⟩ : ∃ T, tableC x = T := ⟨_, rfl⟩
        rw [hT] at hfz hfs2
        obtain ⟨ga, offa, hA⟩ : ∃ ga offa, A = some ⟨ga, offa, none⟩ := by
          obtain ⟨_, q2, _, _, _, q6, _⟩ := HX.out
          obtain ⟨ga, offa, e, _⟩ := q6 (by omega)
          exact ⟨ga, offa, e⟩
        have HTT := Lib.hid (And.intro hT (And.intro hUx (And.intro hVx hfx)))
        have HZ := Lib.hid hfs2
        have HFZ := Lib.hid hfz
        have hjj : j ≤ 2700 := hj2
        have HTL := Lib.hid (show T.length = j by rw [← hT, tableC_length, hUx])
        have HNS := Lib.hid HB.out.ns
        have HSM := Lib.hid HB.out.small
        obtain ⟨i, rfl⟩ : ∃ q, q = i := ⟨_, rfl⟩
        have HTI := Lib.hid (show TC w wr g A c x (6 + 38 * j + sumT T 0) 0 P pc j ls S sc j szs by
          rw [sumT_zero, Nat.add_zero, ← hfi]; exact HT.out)
        clear hT hfz hfs2 hVx hUx hf2 hfx hfi hj hlt HT HB
        subst hA
        go_wp2_with fail
        go_loopw [14] (fun q wq => ∃ (p I : Nat) (lsp : List PieceT), p ≤ j ∧ q = .int .i64 p ∧ Hid (I = 6 + 38 * j + sumT T p) ∧ Hid (TC w wq g (some ⟨ga, offa, none⟩) c x I 0 P pc j lsp S sc j szs) ∧ Hid (Filled w T x (6 + 38 * j) j p lsp)) (fun q _ => j - (intOf q).toNat)
        case atStart => exact ⟨0, _, ls, Nat.zero_le _, by trivial, Lib.hid rfl, HTI, HFZ⟩
        case round =>
          clear HTI HFZ hc2
          obtain ⟨p, I, lsp, hp, rfl, HI2, HT, HFL⟩ := hrel
          have hc2 := HT.out.rf.1.cell 2
          by_cases hlp : p < j
          · have hpl : p < szs.length := by rw [HNS.out]; exact hlp
            have hpl2 : p < lsp.length := by rw [HFL.out.n]; exact hlp
            obtain ⟨ds, hS, _, hcs⟩ := own_int HT.out.siz hpl
            obtain ⟨m, hm⟩ : ∃ m, szs[p] = m := ⟨_, rfl⟩
            have hmT : m = (T.getD p default).2 := by rw [← hm]; exact HZ.out p hpl
            have hm2 : m < 65536 := by rw [← hm]; exact HSM.out _ (List.getElem_mem hpl)
            rw [hm] at hcs
            have hsum : sumT T (p + 1) = sumT T p + m := by
              have h3 : p < T.length := by rw [HTL.out]; exact hlp
              rw [sumT_succ h3, hmT]
              simp [h3]
            obtain ⟨hx1, hx2, hx3, hx4, hx5, hx6, hx7, hxl⟩ := HX.out
            have hc0 := HT.out.rf.1.cell 0
            have hc1 := HT.out.rf.1.cell 1
            rw [hxl] at hc0
            have hI := HT.out.rf.2.1
            rw [hxl] at hI
            have hi1 : (0 : Int) ≤ (p : Int) := by omega
            have hi2 : (p : Int) < (j : Int) := by omega
            have HSU := Lib.hid hsum
            have HMT := Lib.hid hmT
            subst hS
            by_cases hbig : n < I + m
            · have hb1 : (n : Int) - (I : Int) < (m : Int) := by omega
              have HNF := Lib.hid (show takeC b = (0, [], 110) from take_unfit fun hfit => by
                rw [show b.length - 4 = n by omega, hx1] at hfit
                unfold Fit at hfit
                have h5 : sumT T (p + 1) ≤ sumT T j := sumT_le T (by omega)
                obtain ⟨t1, t2, _⟩ := HTT.out
                rw [t1, ← t2] at hfit
                have := HI2.out
                omega)
              clear hx1 hx2 hx3 hx4 hx5 hx6 hx7 hm hmT hsum HFL hpl hpl2
              go_wp2_with fail
              go_quiet (fail)
              go_wp2_with fail
              go_ret3
              exact RTook.no HNF.out (below_drewN HT.out.bel _)
            · have hb1 : ¬ (n : Int) - (I : Int) < (m : Int) := by omega
              have hb2 : decide ((n : Int) - (I : Int) < (m : Int)) = false := decide_eq_false hb1
              have HM := Lib.hid hm
              clear hm hmT hsum
              go_wp2_with fail
              go_quiet (fail)
              have HTD := Lib.hid (HT.out.on (below_drewN (Below.refl _ _) nq))
              have HLD := Lib.hid (show (wr.drewN nq).cell? ⟨ds, p, none⟩ = some (.int .i64 (m : Nat)) from hcs)
              clear HT hcs hc0 hc1 hc2 hb1 hb2
              generalize wr.drewN nq = wd at *
              obtain ⟨dp, hP, hdB, hdl, hdo, hdc, hdz, hdput⟩ := HTD.out.own.put_ (fun y hy => (HFL.out.ok y hy).ok) HFL.out.n hpl2
              have hcs := HLD.out
              have hc0 := HTD.out.rf.1.cell 0
              have hc1 := HTD.out.rf.1.cell 1
              rw [hxl] at hc0
              obtain ⟨y, hy⟩ : ∃ y, (x.drop I).take m = y := ⟨_, rfl⟩
              have hyl : y.length = m := by rw [← hy, List.length_take, List.length_drop]; omega
              have HRY := Lib.hid (show Rd w w.heap.size (some ⟨ga, offa + I, none⟩) y ∧ y.length ≤ c - I ∧ c - I ≤ maxLen from by
                have r1 := hx6.take n
                rw [hx1] at r1
                have r2 := (r1.drop (k := I) (c := c) (by omega)).take m
                rw [if_neg (by omega), hy] at r2
                exact ⟨by simpa [Addr.add_lit] using r2, by omega, by omega⟩)
              have HPUT := Lib.hid (hdput (some ⟨ga, offa + I, none⟩) (c - I) y)
              rw [hyl] at HPUT
              subst hP
              go_upto_region 21 with fail
              clear hdput hdo
              have HPT := Lib.hid (And.intro hdB (And.intro hdl hyl))
              have HY := Lib.hid hy
              have h1 : (I : Int) + (m : Int) ≤ (c : Int) := by omega
              have h2 : (I : Int) ≤ (I : Int) + (m : Int) := by omega
              have h3 : ¬ c = I := by omega
              have hw1 : IntKind.i64.wrap ((I : Int) + (m : Int)) = (I : Int) + (m : Int) := by rw [IntKind.wrap_i64]; omega
              obtain ⟨v0, hdc⟩ : ∃ v, wd.cell? ⟨dp, p * 34 + 33, none⟩ = some v := ⟨_, hdc⟩
              clear hdB hdl hyl hy hx1 hx2 hx3 hx5 hx6 hx7
              go_region
              have H21 := Lib.hid ((HTD.out.push (w' := wd.setCell ⟨dp, p * 34 + 33, none⟩ (.slice (some ⟨ga, offa + I, none⟩) m (c - I))) (setCell_grown (World.grownBy.refl _ _)) HPUT.out).on (below_drew (Below.refl _ _)))
              clear HTD HLD HPUT hdc hdz hcs hc0 hc1
              generalize (wd.setCell ⟨dp, p * 34 + 33, none⟩ (.slice (some ⟨ga, offa + I, none⟩) m (c - I))).drew = we at *
              have hpl3 : p < szs.length := by rw [HNS.out]; exact hlp
              obtain ⟨ds2, hS2, _, hcs⟩ := own_int H21.out.siz hpl3
              injection hS2 with hS2
              injection hS2 with hS2 _ _
              subst hS2
              rw [HM.out] at hcs
              have hc1 := H21.out.rf.1.cell 1
              have hz1 := H21.out.rf.1.frozen 1
              obtain ⟨R1, R2⟩ := ref_place H21.out.rf 0 (I + m) (by rw [hxl]; omega) ((I : Int) + (m : Int)) (by omega)
              have H22 := Lib.hid (((H21.out.get (w' := we.setCell ⟨g, 1, none⟩ (.int .i64 ((I : Int) + (m : Int)))) R2 R1).on (below_drew (Below.refl _ _))))
              have hnm : ((I + m : Nat) : Int) = (I : Int) + (m : Int) := by omega
              clear H21 R1 R2 hpl3
              go_upto_region 22 with fail
              go_region
              clear hc1 hz1 hcs
              generalize (we.setCell ⟨g, 1, none⟩ (.int .i64 ((I : Int) + (m : Int)))).drew = wf at *
              have HFN := Lib.hid (HFL.out.next hpl2 (a := some ⟨ga, offa + I, none⟩) (c := c - I) (y := y) (by rw [← HY.out, HI2.out, ← HMT.out]) HRY.out.1 HRY.out.2.1 HRY.out.2.2)
              have HIN := Lib.hid (show I + m = 6 + 38 * j + sumT T (p + 1) by rw [HSU.out, HI2.out]; omega)
              go_wp2_with fail
              go_roundw
              case rel => exact ⟨p + 1, I + m, _, by omega, by go_num, HIN, H22, HFN⟩
              case measure => simp [intOf]; omega
          · obtain rfl : p = j := by omega
            have hjT := HTT.out.2.1
            have hpd : pds lsp = listC x := filled_all (w := w) (by rw [HTT.out.1]; exact HFL.out) hjT
            have hI := HT.out.rf.2.1
            obtain ⟨hx1, hx2, hx3, hx4, hx5, hx6, hx7, hxl⟩ := HX.out
            have hsz := size_pieces (tableC x) (x.drop (6 + 38 * manyC x))
            rw [← listC_eq, tableC_length, ← hjT, HTT.out.1] at hsz
            have hII := HI2.out
            have HSC := Lib.hid (show SmallC lsp from ⟨by have := HFL.out.n; omega, by rw [hpd]; omega⟩)
            have HRP := Lib.hid (filled_rd HT.out HFL.out)
            have HNL := Lib.hid HFL.out.n
            have HPD := Lib.hid hpd
            have hb4 : b.length - 4 = n := by omega
            by_cases hIn : I < n
            · have HNF := Lib.hid (show takeC b = (0, [], 110) from take_unfit fun hfit => by
                rw [hb4, hx1] at hfit
                unfold Fit at hfit
                rw [HTT.out.1, ← hjT] at hfit
                omega)
              have HLY := Lib.hid (rlay_some P lsp p pc V hV2 HNL.out HSC.out wr HRP.out)
              clear hpd hsz hII hjT hx1 hx2 hx3 hx4 hx5 hx6 hx7 hb4
              go_wp2_with (first
                | (go_at_call 12; refine HLY.out.mono ?_; rintro e w9 ⟨⟨Y, E, rfl⟩, hb9⟩)
                | (go_at_call 34; refine (rend_two g c I _ x 0 _ (HT.out.on hb9).rf).mono ?_; rw [if_pos ⟨rfl, by omega⟩]; rintro e w10 ⟨rfl, hb10⟩))
              go_ret3
              exact RTook.no HNF.out ((HT.out.on hb9).on hb10).bel
            · by_cases hR : refC (listC x) = 0
              · have hVx := HTT.out.2.2.1
                have HLY := Lib.hid (rlay_yes P lsp p pc V hV2 HNL.out HSC.out wr HRP.out (by rw [HPD.out]; exact hR))
                rw [hpd] at HLY
                obtain ⟨Z, hZ⟩ : ∃ Z, sizeC (listC x) = Z := ⟨_, rfl⟩
                obtain ⟨Q, hQ⟩ : ∃ Q, layC V (listC x) = Q := ⟨_, rfl⟩
                rw [hZ, hQ] at HLY
                by_cases hE : Q = b
                · have HT2 := Lib.hid (show takeC b = (V, listC x, 0) by
                    unfold takeC
                    rw [hb4, hx1, if_pos ⟨hR, by rw [← hVx, hQ, hE]⟩, ← hVx])
                  have hq : (Q == b) = true := by rw [hE]; simp
                  have hq2 : (Q != b) = false := by rw [hE]; simp
                  have HRB := Lib.hid (And.intro hx6 hx2)
                  have HLL := Lib.hid (show (listC x).length = p by rw [← hpd, pds_length, HNL.out])
                  clear hpd hsz hII hjT hx1 hx2 hx3 hx4 hx5 hx6 hx7 hb4 hE hQ hZ hR hVx
                  go_upto_region 23 with fail
                  go_upto_region 24 with (go_at_call 12; refine HLY.out.mono ?_; rintro e w9 ⟨A9, c9, rfl, ho9, hb9⟩)
                  have HE := Lib.hid (rend_two g c I _ x 0 _ (HT.out.on hb9).rf)
                  rw [if_neg (fun hc => hIn (by have := hc.2; omega))] at HE
                  have HO9 := Lib.hid (And.intro ho9 (HT.out.on hb9))
                  clear ho9 hb9 HLY hc2 hI hIn
                  go_wp2_with (go_at_call 34; refine HE.out.mono ?_; rintro e w10 ⟨rfl, hb10⟩; have HB10 := Lib.hid (HO9.out.2.on hb10); clear HE; have s1 := (HO9.out.1.below hb10).str; have s2 := HRB.out.1.str (n + 4) c HRB.out.2 w10 HB10.out.bel; clear hb10)
                  clear s1 s2
                  go_ret3
                  refine ⟨fun h => ?_, fun id l h => ?_, HB10.out.bel⟩
                  · rw [HT2.out] at h
                    injection h with _ h
                    injection h with _ h
                    cases h
                  · rw [HT2.out] at h
                    injection h with h1 h
                    injection h with h2 _
                    subst h1 h2
                    exact ⟨P, pc, lsp, HPD.out, by rw [HLL.out]; rfl, (filled_rd HB10.out HFL.out)⟩
                · have HNF := Lib.hid (show takeC b = (0, [], 110) by
                    unfold takeC
                    rw [hb4, hx1, if_neg (fun hc => hE (by rw [← hQ, hVx]; exact hc.2))])
                  have hq : (Q == b) = false := by simpa using hE
                  have hq2 : (Q != b) = true := by simpa using hE
                  have HRB := Lib.hid (And.intro hx6 hx2)
                  clear hpd hsz hII hjT hx1 hx2 hx3 hx4 hx5 hx6 hx7 hb4 hE hQ hZ hR hVx
                  go_upto_region 23 with fail
                  go_upto_region 24 with (go_at_call 12; refine HLY.out.mono ?_; rintro e w9 ⟨A9, c9, rfl, ho9, hb9⟩)
                  have HE := Lib.hid (rend_two g c I _ x 0 _ (HT.out.on hb9).rf)
                  rw [if_neg (fun hc => hIn (by have := hc.2; omega))] at HE
                  have HO9 := Lib.hid (And.intro ho9 (HT.out.on hb9))
                  clear ho9 hb9 HLY hc2 hI hIn
                  go_wp2_with (go_at_call 34; refine HE.out.mono ?_; rintro e w10 ⟨rfl, hb10⟩; have HB10 := Lib.hid (HO9.out.2.on hb10); clear HE; have s1 := (HO9.out.1.below hb10).str; have s2 := HRB.out.1.str (n + 4) c HRB.out.2 w10 HB10.out.bel; clear hb10)
                  clear s1 s2
                  go_ret3
                  exact RTook.no HNF.out HB10.out.bel
              · have HNF := Lib.hid (show takeC b = (0, [], 110) by
                  unfold takeC
                  rw [hb4, hx1, if_neg (fun hc => hR hc.1)])
                obtain ⟨E, hE⟩ : ∃ E, refC (listC x) = E := ⟨_, rfl⟩
                have HLY := Lib.hid (rlay_no P lsp p pc V E HNL.out HSC.out wr HRP.out (by rw [HPD.out]; exact hE) (by rw [← hE]; exact hR))
                have hE0 : ¬ (E : Int) = 0 := by rw [hE] at hR; omega
                clear hpd hsz hII hjT hx1 hx2 hx3 hx4 hx5 hx6 hx7 hb4 hE hR
                go_upto_region 23 with fail
                go_upto_region 24 with (go_at_call 12; refine HLY.out.mono ?_; rintro e w9 ⟨rfl, hb9⟩)
                have HE := Lib.hid (rend_two g c I _ x 0 _ (HT.out.on hb9).rf)
                rw [if_neg (fun hc => hIn (by have := hc.2; omega))] at HE
                have HO9 := Lib.hid (HT.out.on hb9)
                clear hb9 HLY hc2 hI hIn
                go_wp2_with (go_at_call 34; refine HE.out.mono ?_; rintro e w10 ⟨rfl, hb10⟩; have HB10 := Lib.hid (HO9.out.on hb10); clear HE hb10)
                go_ret3
                exact RTook.no HNF.out HB10.out.bel
    · have hff : (f == 0) = false := by simpa using hf
      have hfn : (f != 0) = true := by simpa using hf
      have HNF := Lib.hid (show takeC b = (0, [], 110) from by
        obtain ⟨q1, q2, _⟩ := HX.out
        refine take_unfit fun hfit => ?_
        rw [show b.length - 4 = n by omega, q1] at hfit
        have h1 : x.length < 6 + 38 * j := Nat.lt_of_not_le fun hc => hf (HB.out.moved.1 ⟨rfl, by omega⟩).2
        unfold Fit at hfit
        by_cases hf2 : f2 = 0
        · have := (HM4.out.2 hf2).2
          have : 38 * j ≤ 38 * U := Nat.mul_le_mul_left _ hj
          omega
        · have : x.length < 6 := Nat.lt_of_not_le fun hc => hf2 (HM4.out.1.1 ⟨rfl, by omega⟩).2
          omega)
      have HLS := Lib.hid (bare_rd HT.out HB.out hj2)
      have HLY := Lib.hid (rlay_some P ls j pc V hV2 HB.out.nl HLS.out.2 wr HLS.out.1)
      have h0j : ((0 : Int) < (j : Int)) ∨ ¬ ((0 : Int) < (j : Int)) := by omega
      have hlu : (j : Int) < (U : Int) ∨ ¬ (j : Int) < (U : Int) := by omega
      rcases hlu with hlu | hlu <;> rcases h0j with h0j | h0j <;>
      · go_wp2_with fail
        go_loopw [14] (fun q wq => q = .int .i64 0 ∧ wr = wq) (fun _ _ => 0)
        case atStart => first | exact ⟨rfl, rfl⟩ | trivial
        case round =>
          obtain ⟨rfl, rfl⟩ := hrel
          go_wp2_with (first
            | (go_at_call 12; refine HLY.out.mono ?_; rintro e w9 ⟨⟨Y, E, rfl⟩, hb9⟩)
            | (go_at_call 34; refine (rend_two g c i A x f _ (HT.out.on hb9).rf).mono ?_; rw [if_neg (fun hc => hf hc.1)]; rintro e w10 ⟨rfl, hb10⟩))
          go_ret3
          exact RTook.no HNF.out ((HT.out.on hb9).on hb10).bel
end Go.Proofs.Ytoiiiccichkgpaa
