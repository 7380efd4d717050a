/- What the landed package tree does: Get, Put, Drop, Len, Height, and all of it together (treesOk). No statement of the seat is proved here. -/
import Derived.Test.YtiomfkhblmmdoaaTrLandE
import Derived.Test.YtiomfkhblmmdoaaTrLandG
namespace Go.Proofs.Ytiomfkhblmmdoaa
open Go.RowKit
set_option linter.unusedVariables false
set_option linter.unusedSimpArgs false
set_option maxRecDepth 100000

/-- The map at v has the pairs L, its tree the height h. -/
def St18 (w : World) (v : Value) (L : List PT) (h : Nat) : Prop := ∃ t, Root18 w v t ∧ t.flat = L ∧ t.ht = h ∧ OrdL L ∧ t.Bal
/-- u came of v by one step. -/
def Nu18 (w : World) (u v : Value) : Prop := ∃ t s, Root18 w u t ∧ Root18 w v s ∧ t.fr s.has ≤ 3 * s.ht + 1
theorem low_ht {t : T18} (hb : t.Bal) (hl : t.flat.length ≤ 1000) : t.ht ≤ 20 := by
  have h := T18.low hb
  have h2 : (t.flat.length + 1) * (t.flat.length + 1) ≤ 1001 * 1001 := Nat.mul_le_mul (by omega) (by omega)
  rcases Nat.lt_or_ge 20 t.ht with hlt | hge
  · have := Nat.pow_le_pow_right (n := 2) (by decide) (Nat.le_of_lt hlt)
    omega
  · exact hge
theorem drop_none {m : List PT} {k : List UInt8} (h : getL m k = none) : dropL m k = m := by
  rw [drop_pos, if_neg]
  unfold isL
  rw [h]
  decide
set_option maxHeartbeats 2000000 in
theorem getT18 (v : Value) (t : T18) (k : List UInt8) (w : World) (h : Root18 w v t) (ho : OrdL t.flat) : Calls Try.prog 15 #[v, .string (st k)] w fun e w' => e = .returned (.tuple #[.string (st (getE t.flat k).1), .bool (getE t.flat k).2]) ∧ w' = w := by
  obtain ⟨X, hX, hT⟩ := root_top h
  have HT := Lib.hid (hT w (Below.refl _ _))
  have HF := Lib.hid (find18 X t k w hX)
  rcases seek_get hX ho with ⟨hs, hg⟩ | ⟨a, x, vl, vr, H, N, hs, hg, hk⟩
  · rw [hs, show ptr18 none = .pointer none from rfl] at HF
    have hE : getE t.flat k = ([], false) := by unfold getE isL; rw [hg]; rfl
    rw [hE]
    clear h ho hX hT hs hg hE
    go_enter Try.func15, Try.ntmps15
    go_wp2_with fail
    refine HT.out.mono ?_
    rintro e w1 ⟨rfl, hw⟩
    obtain rfl : w = w1 := hw.symm
    go_wp2_with fail
    refine HF.out.mono ?_
    rintro e w1 ⟨rfl, hw⟩
    obtain rfl : w = w1 := hw.symm
    go_wp2_with fail
    go_ret2
    exact ⟨rfl, rfl⟩
  · rw [hs, show ptr18 (some a) = .pointer (some ⟨a, 0, none⟩) from rfl] at HF
    have hE : getE t.flat k = (x, true) := by unfold getE isL; rw [hg]; rfl
    rw [hE]
    have c1 : w.cell? ⟨a, 1, none⟩ = some (.string (st x)) := hk.cell 1
    clear h ho hX hT hs hg hE hk
    go_enter Try.func15, Try.ntmps15
    go_wp2_with fail
    refine HT.out.mono ?_
    rintro e w1 ⟨rfl, hw⟩
    obtain rfl : w = w1 := hw.symm
    go_wp2_with fail
    refine HF.out.mono ?_
    rintro e w1 ⟨rfl, hw⟩
    obtain rfl : w = w1 := hw.symm
    go_wp2_with fail
    go_ret2
    exact ⟨rfl, rfl⟩
set_option maxHeartbeats 2000000 in
theorem lenT18 (v : Value) (t : T18) (w : World) (h : Root18 w v t) : Calls Try.prog 17 #[v] w fun e w' => e = .returned (.int .i64 t.flat.length) ∧ w' = w := by
  obtain ⟨X, hX, hT⟩ := root_top h
  have HT := Lib.hid (hT w (Below.refl _ _))
  have HF := Lib.hid (size18 X t w hX)
  obtain ⟨n, hn⟩ : ∃ n, t.flat.length = n := ⟨_, rfl⟩
  rw [hn] at HF
  rw [hn]
  clear h hX hT hn
  go_enter Try.func17, Try.ntmps17
  go_wp2_with fail
  refine HT.out.mono ?_
  rintro e w1 ⟨rfl, hw⟩
  obtain rfl : w = w1 := hw.symm
  go_wp2_with fail
  refine HF.out.mono ?_
  rintro e w1 ⟨rfl, hw⟩
  obtain rfl : w = w1 := hw.symm
  go_wp2_with fail
  go_ret
  exact ⟨rfl, rfl⟩
set_option maxHeartbeats 2000000 in
theorem heightT18 (v : Value) (t : T18) (w : World) (h : Root18 w v t) : Calls Try.prog 23 #[v] w fun e w' => e = .returned (.int .i64 t.ht) ∧ w' = w := by
  obtain ⟨X, hX, hT⟩ := root_top h
  have HT := Lib.hid (hT w (Below.refl _ _))
  have HF := Lib.hid (high18 X t w hX)
  obtain ⟨n, hn⟩ : ∃ n, t.ht = n := ⟨_, rfl⟩
  rw [hn] at HF
  rw [hn]
  clear h hX hT hn
  go_enter Try.func23, Try.ntmps23
  go_wp2_with fail
  refine HT.out.mono ?_
  rintro e w1 ⟨rfl, hw⟩
  obtain rfl : w = w1 := hw.symm
  go_wp2_with fail
  refine HF.out.mono ?_
  rintro e w1 ⟨rfl, hw⟩
  obtain rfl : w = w1 := hw.symm
  go_wp2_with fail
  go_ret
  exact ⟨rfl, rfl⟩
set_option maxHeartbeats 2000000 in
theorem putT18 (v : Value) (t : T18) (k x : List UInt8) (w : World) (h : Root18 w v t) (ho : OrdL t.flat) (hb : t.Bal) (hl : t.flat.length ≤ 1000) : Calls Try.prog 13 #[v, .string (st k), .string (st x)] w fun e w' => ∃ v' t', e = .returned v' ∧ PutTo k x t t' ∧ Root18 w' v' t' ∧ Below w.heap.size w w' := by
  obtain ⟨X, hX, hT⟩ := root_top h
  have HT := Lib.hid (hT w (Below.refl _ _))
  have hh := low_ht hb hl
  have HF := Lib.hid (put18 k x t X w hX ho hb (by omega) (by omega))
  clear h hX hT ho hb hl hh
  go_enter Try.func13, Try.ntmps13
  go_wp2_with fail
  refine HT.out.mono ?_
  rintro e w1 ⟨rfl, hw⟩
  obtain rfl : w = w1 := hw.symm
  go_wp2_with fail
  refine HF.out.mono ?_
  rintro e w1 ⟨v1, t1, rfl, p1, l1, b1⟩
  obtain ⟨X1, rfl⟩ := l1.ptr
  have KO := Lib.hid (of18 X1 t1 w1 l1)
  have HP := Lib.hid (And.intro p1 b1)
  clear p1 l1 b1
  go_wp2_with fail
  refine KO.out.mono ?_
  rintro e w2 ⟨v2, rfl, r2, b2⟩
  have HQ := Lib.hid (And.intro r2 (HP.out.2.trans (b2.mono HP.out.2.size)))
  clear r2 b2
  go_wp2_with fail
  go_ret
  exact ⟨v2, t1, rfl, HP.out.1, HQ.out.1, HQ.out.2⟩
set_option maxHeartbeats 2000000 in
theorem dropT18 (v : Value) (t : T18) (k : List UInt8) (w : World) (h : Root18 w v t) (ho : OrdL t.flat) (hb : t.Bal) (hl : t.flat.length ≤ 1000) : Calls Try.prog 11 #[v, .string (st k)] w fun e w' => ∃ v' t', e = .returned (.tuple #[v', .bool (isL t.flat k)]) ∧ t'.flat = dropL t.flat k ∧ t'.Bal ∧ t'.fr t.has ≤ 3 * t.ht ∧ Root18 w' v' t' ∧ Below w.heap.size w w' := by
  obtain ⟨X, hX, hT⟩ := root_top h
  have HT := Lib.hid (hT w (Below.refl _ _))
  have hh := low_ht hb hl
  have HF := Lib.hid (find18 X t k w hX)
  rcases seek_get hX ho with ⟨hs, hg⟩ | ⟨a, x, vl, vr, H, N, hs, hg, hk⟩
  · rw [hs, show ptr18 none = .pointer none from rfl] at HF
    have hE : isL t.flat k = false := by unfold isL; rw [hg]; rfl
    have HE := Lib.hid (show t.flat = dropL t.flat k ∧ t.Bal ∧ t.fr t.has ≤ 3 * t.ht from ⟨(drop_none hg).symm, hb, by rw [T18.fr_all fun _ h => h]; exact Nat.zero_le _⟩)
    rw [hE]
    have KO := Lib.hid (of18 X t w hX)
    clear h ho hX hT hs hg hE hb hl hh
    go_enter Try.func11, Try.ntmps11
    go_wp2_with fail
    refine HT.out.mono ?_
    rintro e w1 ⟨rfl, hw⟩
    obtain rfl : w = w1 := hw.symm
    go_wp2_with fail
    refine HF.out.mono ?_
    rintro e w1 ⟨rfl, hw⟩
    obtain rfl : w = w1 := hw.symm
    go_wp2_with fail
    refine KO.out.mono ?_
    rintro e w2 ⟨v2, rfl, r2, b2⟩
    have HQ := Lib.hid (And.intro r2 b2)
    clear r2 b2
    go_wp2_with fail
    go_ret2
    exact ⟨v2, t, rfl, HE.out.1, HE.out.2.1, HE.out.2.2, HQ.out.1, HQ.out.2⟩
  · rw [hs, show ptr18 (some a) = .pointer (some ⟨a, 0, none⟩) from rfl] at HF
    have hE : isL t.flat k = true := by unfold isL; rw [hg]; rfl
    rw [hE]
    have KD := Lib.hid (drop18 t k X w hX ho hb (by rw [hg]; exact Option.some_ne_none _) (by omega) (by omega))
    clear h ho hX hT hs hg hE hb hl hh hk
    go_enter Try.func11, Try.ntmps11
    go_wp2_with fail
    refine HT.out.mono ?_
    rintro e w1 ⟨rfl, hw⟩
    obtain rfl : w = w1 := hw.symm
    go_wp2_with fail
    refine HF.out.mono ?_
    rintro e w1 ⟨rfl, hw⟩
    obtain rfl : w = w1 := hw.symm
    go_wp2_with fail
    refine KD.out.mono ?_
    rintro e w1 ⟨v1, t1, rfl, p1, l1, b1⟩
    obtain ⟨X1, rfl⟩ := l1.ptr
    have KO := Lib.hid (of18 X1 t1 w1 l1)
    have HP := Lib.hid (And.intro p1 b1)
    clear p1 l1 b1
    go_wp2_with fail
    refine KO.out.mono ?_
    rintro e w2 ⟨v2, rfl, r2, b2⟩
    have HQ := Lib.hid (And.intro r2 (HP.out.2.trans (b2.mono HP.out.2.size)))
    clear r2 b2
    go_wp2_with fail
    go_ret2
    exact ⟨v2, t1, rfl, HP.out.1.1, HP.out.1.2.1, HP.out.1.2.2.2.2, HQ.out.1, HQ.out.2⟩
theorem treesOk : TreesOk St18 Nu18 where
  nil w := ⟨.nil, .inl ⟨rfl, rfl⟩, rfl, rfl, List.Pairwise.nil, trivial⟩
  ord := fun ⟨_, _, _, _, h, _⟩ => h
  low := fun ⟨t, _, e1, e2, _, hb⟩ => by
    subst e1 e2
    exact ⟨T18.low hb, T18.flat_zero⟩
  keep := fun ⟨t, h, h2⟩ hb => ⟨t, h.below hb, h2⟩
  rows := fun he ⟨t, h, h2⟩ hk hg => ⟨t, h.rows hk (by rcases he with rfl | rfl <;> decide) (by rcases he with rfl | rfl <;> decide) hg, h2⟩
  nuKeep := fun ⟨t, s, h1, h2, h3⟩ hb => ⟨t, s, h1.below hb, h2.below hb, h3⟩
  get := fun v L h k w ⟨t, hr, e1, e2, ho, hb⟩ hl _ => by
    subst e1 e2
    refine (getT18 v t k w hr ho).mono ?_
    rintro e w' ⟨rfl, rfl⟩
    exact ⟨rfl, Below.refl _ _⟩
  put := fun v L h k x w ⟨t, hr, e1, e2, ho, hb⟩ hl _ _ => by
    subst e1 e2
    refine (putT18 v t k x w hr ho hb hl).mono ?_
    rintro e w' ⟨v', t', rfl, hp, hr', hb'⟩
    exact ⟨v', t'.ht, rfl, ⟨t', hr', hp.1, rfl, ho.put, hp.2.1⟩, ⟨t', t, hr', hr.below hb', hp.2.2.2.2⟩, hb'⟩
  drop := fun v L h k w ⟨t, hr, e1, e2, ho, hb⟩ hl _ => by
    subst e1 e2
    refine (dropT18 v t k w hr ho hb hl).mono ?_
    rintro e w' ⟨v', t', rfl, hp, hbl, hf, hr', hb'⟩
    exact ⟨v', t'.ht, rfl, ⟨t', hr', hp, rfl, ho.drop, hbl⟩, ⟨t', t, hr', hr.below hb', Nat.le_succ_of_le hf⟩, hb'⟩
  pairs := fun v L h k n w ⟨t, hr, e1, e2, ho, hb⟩ hl _ _ _ => by
    subst e1 e2
    refine (fromT18 v t k n w hr ho hl).mono ?_
    rintro e w' ⟨A, c, rfl, hown, hb'⟩
    exact ⟨A, c, rfl, RdP.own hown, hown, hown.cap.1, hown.cap.2, hb'⟩
  len := fun v L h w ⟨t, hr, e1, e2, ho, hb⟩ hl => by
    subst e1 e2
    refine (lenT18 v t w hr).mono ?_
    rintro e w' ⟨rfl, rfl⟩
    exact ⟨rfl, Below.refl _ _⟩
  height := fun v L h w ⟨t, hr, e1, e2, ho, hb⟩ hl => by
    subst e1 e2
    refine (heightT18 v t w hr).mono ?_
    rintro e w' ⟨rfl, rfl⟩
    exact ⟨rfl, Below.refl _ _⟩
  fresh := fun u v L M h m w ⟨t, hr, e1, e2, ho, hb⟩ ⟨s, hr', e1', e2', ho', hb'⟩ hl hm ⟨t2, s2, q1, q2, q3⟩ => by
    subst e1 e2 e1' e2'
    obtain rfl := hr.uniq q1
    obtain rfl := hr'.uniq q2
    refine (fresh18 u v t s w hr hr' ho' hl).mono ?_
    rintro e w' ⟨f, rfl, hf, hbw⟩
    exact ⟨(f : Int), rfl, by omega, by omega, hbw⟩
  fresh0 := fun u L h w ⟨t, hr, e1, e2, ho, hb⟩ hl => by
    subst e1 e2
    refine (fresh18 u u t t w hr hr ho hl).mono ?_
    rintro e w' ⟨f, rfl, hf, hbw⟩
    rw [T18.fr_all fun _ h => h] at hf
    obtain rfl : f = 0 := by omega
    exact ⟨rfl, hbw⟩
end Go.Proofs.Ytiomfkhblmmdoaa
