/- The contract of the package's vault: Get. No statement of the seat is proved here. -/
import Derived.Test.YthbgcffnnholeaaVtLandA
import Derived.Test.YthbgcffnnholeaaCodecO
import Derived.Test.YthbgcffnnholeaaAppRd
import Derived.Test.YthbgcffnnholeaaLaidTo
import Derived.ArgAppend
namespace Go.Proofs.Ythbgcffnnholeaa
open Go.RowKit
set_option linter.unusedVariables false
set_option linter.unusedSimpArgs false

theorem lread_ok {w : World} {d : Nat} {F : Nat → Prop} {S : DS} (h : Lst w ⟨d, 0, none⟩ F S) (ho : S.off = false) (t : Nat) (ht : t < S.n) :
    Calls Try.prog 30 #[.pointer (some ⟨d, 0, none⟩), .int .i64 (t : Nat)] w fun x w' => x = .returned (.tuple #[.slice (some ⟨w.heap.size, 0, none⟩) 128 128, .int .i64 0]) ∧ w.alloc (.cells (bv (nowS S t)).toArray 89) = w' := by
  obtain ⟨d', An, cn, As, cs, Ap, cp, fl, hd', hd, hk, hfl, hF⟩ := h
  injection hd' with hd' _ _
  subst hd'
  exact read_good hd hk.le hk.now (by rw [hfl.dead, ho]) t ht
/-- An append whose run is known. -/
theorem wpList_append_ran {P : Program} {ops : Array Oper} {rest : List Oper} {o : Oper} {a : Act} {w w' : World} {Q : Exit → Act → World → Prop} (hgd : o.guard = none) (s x : Operand) (t1 t2 : TypeId)
    (ho : o.op = .call { callee := .builtin .append, args := #[s, x], argTypes := #[t1, t2] }) (v u r : Value) (hs : a.eval s = v) (hx : a.eval x = u) (hrun : (Builtin.append_ #[t1, t2] o.type #[v, u]).run P w = .ok r w')
    (h : wpList P ops Q rest (a.put o.dst r) w') : wpList P ops Q (o :: rest) a w := by
  refine wpList_plain hgd fun K hK => ?_
  unfold Oper.wp
  simp [execOp, ho, resolve, invoke, builtin, hs, hx, hrun, Result.andThen]
  exact hK _ _ h
/-- Bytes of the call's own: a row of bytes, or a whole sector. -/
def OS (w : World) (B : Nat) (A : Option Addr) (c n : Nat) (L : List UInt8) : Prop :=
  L.length = n ∧ (w.ownsRow B 5 1 (.slice A n c) n (bv L) ∨ (n = c ∧ w.ownsRow B 89 1 (.slice A n c) n (bv L)))
section
variable {w w' : World} {B : Nat} {A : Option Addr} {c n : Nat} {L : List UInt8}
theorem OS.rd (h : OS w B A c n L) : Rd w w.heap.size A L := h.2.elim Rd.of_own fun h => Rd.of_own h.2
theorem OS.below (h : OS w B A c n L) (hb : Below w.heap.size w w') : OS w' B A c n L := ⟨h.1, h.2.imp (fun h => ownsRow_below h hb) fun h => ⟨h.1, ownsRow_below h.2 hb⟩⟩
theorem OS.cap (h : OS w B A c n L) : n ≤ c ∧ c ≤ maxLen := by
  rcases h.2 with h | h
  · exact ownsRow_form2 h
  · exact ownsRow_form2 h.2
theorem OS.at_ (h : OS w B A c n L) (h0 : 0 < n) : ∃ g, A = some ⟨g, 0, none⟩ := by
  rcases h.2 with h | h
  · obtain ⟨g, e, _⟩ := row_at h h0
    exact ⟨g, e⟩
  · obtain ⟨g, e, _⟩ := row_at h.2 h0
    exact ⟨g, e⟩
/-- A sector that was read. -/
theorem OS.read (w : World) (l : List UInt8) (hl : l.length = 128) : OS (w.alloc (.cells (bv l).toArray 89)) w.heap.size (some ⟨w.heap.size, 0, none⟩) 128 128 l := by
  refine ⟨hl, .inr ⟨rfl, ?_⟩⟩
  have := World.ownsRow_lit (base := w.heap.size) (size := 1) (e := 89) w (bv l).toArray 128 (Nat.le_refl _) (by simp [maxLen]) (by rw [List.size_toArray, bv_length, hl])
  rwa [List.toList_toArray] at this
theorem OS.base {B' : Nat} (h : OS w B A c n L) (hb : B' ≤ B) : OS w B' A c n L := ⟨h.1, h.2.imp (fun h => ownsRow_base h hb) fun h => ⟨h.1, ownsRow_base h.2 hb⟩⟩
/-- More bytes behind them. -/
theorem OS.app (h : OS w B A c n L) (hB : B ≤ w.heap.size) (ty : TypeId) {A2 : Option Addr} {k c2 : Nat} {M : List UInt8} (hk : M.length = k) (h0 : 0 < n) (hk0 : 0 < k) (hr : Rd w w.heap.size A2 M) (hm : n + k ≤ 100000000) :
    ∃ A' c' w', (Builtin.append_ #[42, 42] ty #[.slice A n c, .slice A2 k c2]).run Try.prog w = .ok (.slice A' (n + k) c') w' ∧ OS w' B A' c' (n + k) (L ++ M) ∧ Below B w w' := by
  obtain ⟨i0, hi, hi2⟩ := Option.map_eq_some_iff.1 info_u8
  have hz0 : i0.zero = some (.int .u8 0) := congrArg (·.1) hi2
  have hz1 : i0.size = 1 := congrArg (·.2.1) hi2
  have hz2 : i0.bytes = 1 := congrArg (·.2.2) hi2
  have hLM : (L ++ M).length = n + k := by rw [List.length_append, h.1, hk]
  rcases h.2 with ho | ⟨hc, ho⟩
  · obtain ⟨A', c', w', h1, h2, h3⟩ := run_append_more (P := Try.prog) w 42 ty B 5 i0 Try.underlying42 hi hz0 hz1 hz2 _ n _ ho w.heap.size A2 c2 k M hk hr (by omega) hB
    exact ⟨A', c', w', h1, ⟨hLM, .inl (by rw [bv_append]; exact h2)⟩, (Below.refl B w).grown h3 hB fun g hg => (ho.lt g hg).1⟩
  · obtain ⟨g, hA, _, hgl, hcell⟩ := row_at ho h0
    obtain ⟨ad, hA2, hcell2⟩ := hr.cells (by omega)
    subst hA hA2
    obtain ⟨v', w', h1, h2, h3⟩ := run_append_arg_grows (P := Try.prog) w 42 ty 5 i0 (.int .u8 0) 1 1 Try.underlying42 hi hz0 hz1 hz2 rfl (by decide) ⟨g, 0, none⟩ n c (bv L) (by rw [bv_length, h.1]; omega) (fun j u hu => by rw [Addr.add_lit, Nat.zero_add]; exact (hcell j u hu).1) ad k c2 (bv M) (by rw [bv_length, hk]; omega) hcell2 (by omega) (by unfold maxLen; omega) (by omega)
    obtain ⟨A', c', rfl, _, _⟩ := ownsRow_form h2
    exact ⟨A', c', w', h1, ⟨hLM, .inl (by rw [bv_append]; exact ownsRow_base h2 hB)⟩, (Below.refl B w).grown h3 hB fun g hg => by cases hg⟩
end
theorem rowS_take {S : DS} (hS : S.Ok) (a : Nat) {k : Nat} : ∀ {m : Nat}, k ≤ m → rowS S a k = (rowS S a m).take (128 * k)
  | m, h => by
    induction m with
    | zero =>
      obtain rfl : k = 0 := by omega
      rfl
    | succ m ih =>
      rcases Nat.eq_or_lt_of_le h with rfl | h
      · rw [List.take_of_length_le (by rw [rowS_length hS]; omega)]
      · show _ = (rowS S a m ++ nowS S (a + m)).take _
        rw [List.take_append_of_le_length (by rw [rowS_length hS]; omega)]
        exact ih (by omega)
section
variable {w : World} {vb d : Nat} {V : VS} {F : Nat → Prop} {S : DS}
set_option maxHeartbeats 1000000 in
theorem vget_bad (h : Blk w vb 73 (vcs d V)) (hn : V.n ≤ 16384) (at_ : Int) (ha : at_ < 0 ∨ (V.n : Int) ≤ at_) :
    Calls Try.prog 18 #[.pointer (some ⟨vb, 0, none⟩), .int .i64 at_] w fun x w' => x = .returned (.tuple #[.slice none 0 0, .int .i64 1]) ∧ w = w' := by
  have KF := Lib.hid (fault_bad h hn at_ ha)
  clear h ha hn
  go_enter Try.func18, Try.ntmps18
  go_wp2_with fail
  (with_reducible refine KF.out.mono ?_)
  rintro x w' ⟨rfl, rfl⟩
  go_wp2_with fail
  go_ret2
  exact ⟨rfl, rfl⟩
set_option maxHeartbeats 1000000 in
theorem vget_dead (h : Blk w vb 73 (vcs d V)) (hst : Lst w ⟨d, 0, none⟩ F S) (hf : V.Fits S.n) (hn : V.n ≤ 16384) (hw : Few S) (t : Nat) (ht : t < V.n) (ho : S.off = true) :
    Calls Try.prog 18 #[.pointer (some ⟨vb, 0, none⟩), .int .i64 (t : Nat)] w fun x w' => x = .returned (.tuple #[.slice none 0 0, .int .i64 6]) ∧ Below w.heap.size w w' := by
  have hle := (disksOk.ok hst).le
  have KF := Lib.hid (fault_ok h hn t ht)
  have K1 := Lib.hid (first_any h hf hle t ht)
  have hin := hf.in_ (j := 0) ht hf.each.1
  have KR := Lib.hid (fun q => disksOk.read ⟨d, 0, none⟩ F S ((V.first t : Nat) : Int) (w.drewN q) (disksOk.keep hst fun _ _ => rfl) hw ⟨by omega, by omega⟩)
  have hre : readE S ((V.first t : Nat) : Int) = 6 := by rw [readE_in (by omega), if_pos ho]
  have hrs : readS S ((V.first t : Nat) : Int) = [] := by unfold readS; rw [hre]; rfl
  rw [hre, hrs] at KR
  have hcd : ∀ q, (w.drewN q).cell? ⟨vb, 0, none⟩ = some (.pointer (some ⟨d, 0, none⟩)) := fun q => h.cell 0
  have HC := Lib.hid hcd
  clear h hst hf hn hw ht ho hin hre hrs hcd hle
  go_enter Try.func18, Try.ntmps18
  go_wp2_with fail
  (with_reducible refine KF.out.mono ?_)
  rintro x w' ⟨rfl, rfl⟩
  go_wp2_with fail
  (with_reducible refine K1.out.mono ?_)
  rintro x w' ⟨rfl, q, rfl⟩
  have hcd := HC.out q
  go_wp2_with fail
  (with_reducible refine (KR.out q).mono ?_)
  rintro x w' ⟨A, c, rfl, _, hb⟩
  have HB := Lib.hid (show Below w.heap.size w w' from ⟨hb.os, hb.tape, hb.output, hb.size, hb.block⟩)
  clear hb hcd
  go_wp2_with fail
  go_ret2
  exact ⟨rfl, HB.out⟩
set_option maxRecDepth 100000 in
set_option maxHeartbeats 4000000 in
theorem vget_main (h : Blk w vb 73 (vcs d V)) (hst : Lst w ⟨d, 0, none⟩ F S) (hf : V.Fits S.n) (hn : V.n ≤ 16384) (t : Nat) (ht : t < V.n) (ho : S.off = false) (M : Nat) (hM : val ((V.row S t).take 4) = M) :
    Calls Try.prog 18 #[.pointer (some ⟨vb, 0, none⟩), .int .i64 (t : Nat)] w fun x w' => Below w.heap.size w w' ∧ (V.room < M → x = .returned (.tuple #[.slice none 0 0, .int .i64 110])) ∧
      (M ≤ V.room → ∃ A c, x = .returned (.tuple #[.slice A M c, .int .i64 0]) ∧ M ≤ c ∧ c ≤ maxLen ∧ Rd w' w'.heap.size A (((V.row S t).drop 4).take M)) := by
  have hok := disksOk.ok hst
  have hle := hok.le
  have KF := Lib.hid (fault_ok h hn t ht)
  have K1 := Lib.hid (first_any h hf hle t ht)
  have hin := fun j hj => hf.in_ (j := j) ht hj
  have KR := Lib.hid (fun W (hb : Below w.heap.size w W) j (hj : j < V.each) => lread_ok (disksOk.below hst hb) ho (V.first t + j) (hin j hj))
  have KRM := Lib.hid (fun W (hb : Below w.heap.size w W) => room_ok (h.below hb h.lt) hf.each.1 hf.each.2)
  have HCD := Lib.hid (fun W (hb : Below w.heap.size w W) => (show W.cell? ⟨vb, 0, none⟩ = some (.pointer (some ⟨d, 0, none⟩)) from (h.below hb h.lt).cell 0))
  have HNW := Lib.hid (fun j => hok.now j)
  obtain ⟨a, ha⟩ : ∃ a, V.first t = a := ⟨_, rfl⟩
  obtain ⟨E, hE⟩ : ∃ E, V.each = E := ⟨_, rfl⟩
  have hE1 : 1 ≤ E ∧ E ≤ 16384 := hE ▸ hf.each
  have ha2 : a + E ≤ 16384 := by
    have := hin (E - 1) (by omega)
    omega
  obtain ⟨rm, hrm⟩ : ∃ rm, V.room = rm := ⟨_, rfl⟩
  have hrE : rm = 128 * E - 4 := by rw [← hrm, ← hE]; rfl
  have hrow : V.row S t = rowS S a E := by unfold VS.row; rw [ha, hE]
  have HRT := Lib.hid (fun k (hk : k ≤ E) => rowS_take hok a hk)
  have HRL := Lib.hid (fun k => rowS_length hok a k)
  rw [hrow] at hM ⊢
  rw [hrm] at KRM ⊢
  rw [ha] at K1 KR
  rw [hE] at KR
  have h41 : rowS S a 1 = nowS S a := by show [] ++ nowS S (a + 0) = _; simp
  have hM4 : val ((nowS S a).take 4) = M := by rw [← hM, ← h41, rowS_take hok a hE1.1, List.take_take]; rfl
  have hM5 : M < 4294967296 := by
    rw [← hM4]
    have := val_lt ((nowS S a).take 4)
    rw [List.length_take, hok.now] at this
    exact this
  have HM := Lib.hid (And.intro hM (And.intro hM4 h41))
  have HRE := Lib.hid hrE
  have hrm2 : rm ≤ 2097152 := by omega
  clear h hst hf hn ht ho hin hle hok hM ha hE hrm hrow h41 hM4 hrE
  go_enter Try.func18, Try.ntmps18
  go_wp2_with fail
  (with_reducible refine KF.out.mono ?_)
  rintro x w' ⟨rfl, rfl⟩
  go_wp2_with fail
  (with_reducible refine K1.out.mono ?_)
  rintro x w1 ⟨rfl, q, hq⟩
  have HB1 := Lib.hid (show Below w.heap.size w w1 from hq ▸ below_drewN (Below.refl _ _) q)
  have hcd := HCD.out w1 HB1.out
  clear hq
  go_wp2_with fail
  have hrd0 := KR.out w1 HB1.out 0 (by omega)
  rw [Nat.add_zero] at hrd0
  (with_reducible refine hrd0.mono ?_)
  rintro x w2 ⟨rfl, hw2⟩
  have H2 := Lib.hid (show OS w2 w.heap.size (some ⟨w1.heap.size, 0, none⟩) 128 128 (rowS S a 1) ∧ Below w.heap.size w w2 from by
    rw [← hw2, HM.out.2.2]
    exact ⟨(OS.read w1 _ (HNW.out a)).base HB1.out.size, HB1.out.trans (((Below.refl _ _).alloc (Nat.le_refl _) _).mono HB1.out.size)⟩)
  clear hw2 hcd hrd0
  generalize hg0 : (some ⟨w1.heap.size, 0, none⟩ : Option Addr) = A0 at *
  have HRD := Lib.hid (show Rd w2 w2.heap.size A0 ((nowS S a).take 4) from by
    have := H2.out.1.rd.take 4
    rwa [HM.out.2.2] at this)
  have HL4 := Lib.hid (show ((nowS S a).take 4).length = 4 by rw [List.length_take, HNW.out]; rfl)
  clear hg0
  go_wp2_with fail
  (with_reducible refine (new_sl A0 ((nowS S a).take 4) 128 4 w2 HL4.out HRD.out (by rw [HL4.out]; omega)).mono ?_)
  rintro x w3 ⟨g, rfl, hg, hrr, hb3⟩
  have HRR := Lib.hid hrr
  have HB3 := Lib.hid (And.intro hb3 hg)
  have HGV := Lib.hid (show getV ((nowS S a).take 4) 0 4 = M from by
    unfold getV
    rw [if_pos ⟨rfl, by omega, by omega, by rw [HL4.out]; omega⟩, ← HM.out.2.1]
    exact congrArg val (List.take_of_length_le (by rw [HL4.out]; decide)))
  clear hrr hb3 hg
  go_wp2_with fail
  (with_reducible refine (get_lit g ((nowS S a).take 4) 0 4 M _ _ w3 HRR.out HGV.out rfl rfl).mono ?_)
  rintro x w4 ⟨rfl, _, hg4⟩
  have H4 := Lib.hid (show OS w4 w.heap.size A0 128 128 (rowS S a 1) ∧ Below w.heap.size w w4 from by
    have hb4 : Below w2.heap.size w2 w4 := HB3.out.1.grown hg4 HB3.out.1.size fun k e => by injection e with e; have := HB3.out.2; omega
    exact ⟨H2.out.1.below hb4, H2.out.2.trans (hb4.mono H2.out.2.size)⟩)
  clear hg4 H2 HRD HRR HB3 HGV
  go_wp2_with fail
  (with_reducible refine (KRM.out w4 H4.out.2).mono ?_)
  rintro x w5 ⟨rfl, rfl⟩
  by_cases hlt : rm < M
  · have hlt2 : (rm : Int) < (M : Int) := by omega
    go_wp2_with fail
    go_ret2
    exact ⟨H4.out.2, fun _ => rfl, fun h => absurd h (by omega)⟩
  · have hlt2 : ¬ (rm : Int) < (M : Int) := by omega
    obtain ⟨Z, hZ⟩ : ∃ Z, 4 + M = Z := ⟨_, rfl⟩
    have hZ2 : (4 : Int) + (M : Int) = (Z : Int) := by omega
    have HZ := Lib.hid hZ
    have hZ3 : Z ≤ 128 * E := by have := HRE.out; omega
    clear hZ
    go_wp2_with fail
    have hfin : ∀ (j : Nat) (A : Option Addr) (c : Nat) (wr : World), j ≤ E → Z ≤ 128 * j → 128 * j ≤ c → Rd wr wr.heap.size A (rowS S a j) → ¬ c = 4 → Rd wr wr.heap.size (A.map (·.add 4)) (((rowS S a E).drop 4).take M) := by
      intro j A c wr hj hz hc hr hc4
      have h1 := hr.drop (k := 4) (c := c) (by rw [HRL.out]; omega)
      rw [if_neg hc4] at h1
      have h2 := h1.take M
      rw [HRT.out j hj] at h2
      rw [List.drop_take, List.take_take, show min M (128 * j - 4) = M by have := HZ.out; omega] at h2
      exact h2
    have HF := Lib.hid hfin
    have HLT := Lib.hid hlt
    have hZ4 : 4 ≤ Z := by have := HZ.out; omega
    have hZ5 : (Z - 4 : Nat) = M := by have := HZ.out; omega
    have HZ5 := Lib.hid hZ5
    clear hfin hlt hlt2 hZ2 hZ5
    go_loopw [7, 8] (fun x b wr => ∃ (j : Nat) (A : Option Addr) (c : Nat), 1 ≤ j ∧ j ≤ E ∧ x = .int .i64 ((a + (j - 1) : Nat) : Int) ∧ b = .slice A (128 * j) c ∧ Hid (OS wr w.heap.size A c (128 * j) (rowS S a j) ∧ Below w.heap.size w wr)) (fun x _ _ => a + E - (intOf x).toNat)
    case atStart => exact ⟨1, A0, 128, Nat.le_refl _, hE1.1, rfl, rfl, H4⟩
    case round =>
      obtain ⟨j, A, c, hj1, hj2, rfl, rfl, hs⟩ := hrel
      clear H4
      have hcap := hs.out.1.cap
      unfold maxLen at hcap
      obtain ⟨n, hn⟩ : ∃ n, 128 * j = n := ⟨_, rfl⟩
      obtain ⟨z, hz⟩ : ∃ z, a + (j - 1) = z := ⟨_, rfl⟩
      rw [hn] at hs hcap ⊢
      rw [hz]
      by_cases hlt : n < Z
      · have hjE : j < E := by omega
        have hcd := HCD.out wr hs.out.2
        have hrd := KR.out wr hs.out.2 j hjE
        have hzj : (z : Int) + 1 = ((a + j : Nat) : Int) := by omega
        obtain ⟨z1, hz1⟩ : ∃ z1, a + j = z1 := ⟨_, rfl⟩
        rw [hz1] at hzj hrd
        have hz1l : z1 ≤ 40000 := by omega
        have HN := Lib.hid (And.intro hn (And.intro hz hz1))
        clear hn hz hz1
        go_wp2_with fail
        (with_reducible refine hrd.mono ?_)
        rintro x w6 ⟨rfl, hw6⟩
        have hb6 : Below wr.heap.size wr w6 := hw6 ▸ (Below.refl _ _).alloc (Nat.le_refl _) _
        have ho6 : OS w6 wr.heap.size (some ⟨wr.heap.size, 0, none⟩) 128 128 (nowS S z1) := hw6 ▸ OS.read wr _ (HNW.out z1)
        have hos := hs.out.1.below hb6
        obtain ⟨A', c', w7, hrun, hos7, hb7⟩ := hos.app (Nat.le_trans hs.out.2.size hb6.size) 42 (k := 128) (c2 := 128) (HNW.out z1) (by have := HN.out.1; omega) (by decide) ho6.rd (by have := HN.out.1; omega)
        have H7 := Lib.hid (show OS w7 w.heap.size A' c' (n + 128) (rowS S a (j + 1)) ∧ Below w.heap.size w w7 from by
          refine ⟨?_, (hs.out.2.trans (hb6.mono hs.out.2.size)).trans (hb7)⟩
          show OS w7 w.heap.size A' c' (n + 128) (rowS S a j ++ nowS S (a + j))
          rw [HN.out.2.2]
          exact hos7)
        have HRUN := Lib.hid hrun
        clear hw6 hb6 ho6 hos hrun hos7 hb7 hcd hrd
        go_wp2_with (at_builtin; refine wpList_append_ran rfl (.tmp 65) (.tmp 66) 42 42 rfl _ _ _ rfl rfl HRUN.out ?_)
        go_roundw
        case rel =>
          exact ⟨j + 1, A', c', by omega, hjE, by rw [show a + (j + 1 - 1) = z1 by have := HN.out.2.2; omega], by rw [show 128 * (j + 1) = n + 128 by have := HN.out.1; omega], by rw [show 128 * (j + 1) = n + 128 by have := HN.out.1; omega]; exact H7⟩
        case measure => have := HN.out.2.1; simp [intOf]; omega
      · obtain ⟨g, rfl⟩ := hs.out.1.at_ (by omega)
        have hc4 : ¬ c = 4 := by omega
        have HRES := Lib.hid (HF.out j _ c wr hj2 (by omega) (by omega) hs.out.1.rd hc4)
        have hZc : Z ≤ c := by omega
        have hcM : M ≤ c - 4 := by have := HZ5.out; omega
        have HCM := Lib.hid (show M ≤ c - 4 ∧ c - 4 ≤ maxLen from ⟨hcM, by unfold maxLen; omega⟩)
        clear hn hz
        go_wp2_with fail
        go_ret2
        refine ⟨hs.out.2, fun h => absurd h HLT.out, fun _ => ⟨_, c - 4, ?_, HCM.out.1, HCM.out.2, HRES.out⟩⟩
        show Ending.returned (.tuple #[.slice (some ⟨g, 4, none⟩) (Z - 4) (c - 4), .int .i64 0]) = _
        rw [HZ5.out]
        rfl
end
end Go.Proofs.Ythbgcffnnholeaa
