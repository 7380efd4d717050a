/- VaultBack's walk, told from what the package does. No statement of the seat is proved here. -/
import Derived.Test.YthbgcffnnholeaaVtShown
import Derived.Test.YthbgcffnnholeaaVtOn
import Derived.Deep.RegionHeld3
namespace Go.Proofs.Ythbgcffnnholeaa
open Go.RowKit
set_option linter.unusedVariables false
set_option linter.unusedSimpArgs false

section
variable {St : World → Addr → (Nat → Prop) → DS → Prop} {Vt : World → Addr → (Nat → Prop) → Addr → VS → Prop}
theorem upd_at (l : Nat → List UInt8) (b : List UInt8) (k : Nat) : (fun u => if u = k then b else l u) k = b := if_pos rfl
theorem upd_ne (l : Nat → List UInt8) (b : List UInt8) {i k : Nat} (h : i ≠ k) : (fun u => if u = k then b else l u) i = l i := if_neg h
theorem fit_small {f e n x : Nat} (he : 1 ≤ e) (he2 : e ≤ 16384) (h : f + n * e ≤ x) : FitV x f e n := by
  have h7 : ((n * e : Nat) : Int) = (n : Int) * e := Int.natCast_mul n e
  exact ⟨by omega, by omega, by omega, by omega, by omega, by omega⟩
set_option maxRecDepth 100000 in
set_option maxHeartbeats 1000000 in
theorem back_long (K : DisksOk St) (L : VaultsOk St Vt) (ae ai ak : Nat) (h8 : ae < 256) (A : Option Addr) (la ca : Nat) (B : Option Addr) (lb cb : Nat) (hlong : 1000 < la ∨ 1000 < lb) (w : World) :
    Calls Try.prog 4 #[.int .u8 ae, .int .u8 ai, .int .u8 ak, .slice A la ca, .slice B lb cb] w fun e w' => e = .returned (.bool true) ∧ Below w.heap.size w w' := by
  obtain ⟨q, hq⟩ : ∃ q, ae % 4 = q := ⟨_, rfl⟩
  have hqi : (ae : Int) % 4 = (q : Int) := by omega
  have hq4 : q < 4 := by omega
  obtain ⟨n1, hn1⟩ : ∃ n1, q + 1 = n1 := ⟨_, rfl⟩
  have hs1 : (q : Int) + 1 = (n1 : Int) := by omega
  have hn4 : 1 ≤ n1 ∧ n1 ≤ 4 := by omega
  obtain ⟨p, hp⟩ : ∃ p, 12 * n1 = p := ⟨_, rfl⟩
  have hs2 : (12 : Int) * (n1 : Int) = (p : Int) := by omega
  obtain ⟨m, hm⟩ : ∃ m, 3 + p = m := ⟨_, rfl⟩
  have hs3 : (3 : Int) + (p : Int) = (m : Int) := by omega
  have hm51 : m ≤ 51 := by omega
  have hp48 : p ≤ 48 := by omega
  have KN := Lib.hid (fun w1 (hb : Below w.heap.size w w1) => Turned.new K m (by omega) hb)
  have KV := Lib.hid (fun w2 d (h2 : Dsk St w w2 d (newS m)) => Turned.vault K L h2 (3 : Nat) n1 (12 : Nat) (in64_lit (by omega) (by omega)) ⟨by omega, by omega⟩ (in64_lit (by omega) (by omega)) (fit_small hn4.1 (by omega) (by show 3 + 12 * n1 ≤ m; omega)))
  clear hq hn1 hp hm
  go_enter Try.func4, Try.ntmps4
  go_wp2_with fail
  refine (shown_any K L w).mono ?_
  rintro e w1 ⟨rfl, h1⟩
  have K1 := Lib.hid (KN.out w1 h1)
  clear h1 KN
  go_wp2_with fail
  refine K1.out.mono ?_
  rintro e w2 ⟨d, rfl, h2⟩
  have K2 := Lib.hid (KV.out w2 d h2)
  clear h2 KV K1
  go_wp2_with fail
  refine K2.out.mono ?_
  rintro e w3 ⟨v, rfl, h3, hb3⟩
  have H3 := Lib.hid h3.bel
  clear h3 hb3 K2
  have hcase : (1000 : Int) < (la : Int) ∨ ((¬ (1000 : Int) < (la : Int)) ∧ (1000 : Int) < (lb : Int)) := by omega
  clear hlong
  rcases hcase with c1 | ⟨c1, c2⟩
  · go_wp2_with fail
    go_ret
    exact ⟨rfl, H3.out⟩
  · go_wp2_with fail
    go_ret
    exact ⟨rfl, H3.out⟩
set_option maxRecDepth 100000 in
set_option maxHeartbeats 40000000 in
theorem back_main (K : DisksOk St) (L : VaultsOk St Vt) (ae ai ak : Nat) (h8 : ae < 256) (hi8 : ai < 256) (hk8 : ak < 256) (A : Option Addr) (la ca : Nat) (a : List UInt8) (hal : a.length = la) (hac : la ≤ ca) (ham : ca ≤ maxLen) (B : Option Addr) (lb cb : Nat) (b : List UInt8) (hbl : b.length = lb) (hbc : lb ≤ cb) (hbm : cb ≤ maxLen) (ha3 : la ≤ 1000) (hb3 : lb ≤ 1000) (w : World)
    (hra : Rd w w.heap.size A a) (hrb : Rd w w.heap.size B b) :
    Calls Try.prog 4 #[.int .u8 ae, .int .u8 ai, .int .u8 ak, .slice A la ca, .slice B lb cb] w fun e w' => e = .returned (.bool true) ∧ Below w.heap.size w w' := by
  obtain ⟨q, hq⟩ : ∃ q, ae % 4 = q := ⟨_, rfl⟩
  have hqi : (ae : Int) % 4 = (q : Int) := by omega
  have hq4 : q < 4 := by omega
  obtain ⟨n1, hn1⟩ : ∃ n1, q + 1 = n1 := ⟨_, rfl⟩
  have hs1 : (q : Int) + 1 = (n1 : Int) := by omega
  have hn4 : 1 ≤ n1 ∧ n1 ≤ 4 := by omega
  obtain ⟨p, hp⟩ : ∃ p, 12 * n1 = p := ⟨_, rfl⟩
  have hs2 : (12 : Int) * (n1 : Int) = (p : Int) := by omega
  obtain ⟨m, hm⟩ : ∃ m, 3 + p = m := ⟨_, rfl⟩
  have hs3 : (3 : Int) + (p : Int) = (m : Int) := by omega
  have hm51 : m ≤ 51 := by omega
  have hp48 : p ≤ 48 := by omega
  obtain ⟨i, hi⟩ : ∃ i, ai % 12 = i := ⟨_, rfl⟩
  have hii : (ai : Int) % 12 = (i : Int) := by omega
  have hi12 : i < 12 := by omega
  obtain ⟨k, hk⟩ : ∃ k, ak % 12 = k := ⟨_, rfl⟩
  have hki : (ak : Int) % 12 = (k : Int) := by omega
  have hk12 : k < 12 := by omega
  obtain ⟨V, hV⟩ : ∃ V : VS, VS.mk 3 n1 12 = V := ⟨_, rfl⟩
  have hfit : V.Fits m := by rw [← hV]; exact ⟨⟨hn4.1, by show n1 ≤ 16384; omega⟩, by show 3 + 12 * n1 ≤ m; omega⟩
  have hVn : V.n = 12 := by rw [← hV]
  have hVf : V.from_ = 3 := by rw [← hV]
  have hh0 : Has V (newS m) fun _ => [] := has_new hfit
  obtain ⟨fe, dn, S1, l1, e1, e1', hh1, hc1, hp1, hn1', hcs1⟩ := hh0.putAny (t := i) (by omega) (b := a) (n := la) hal (by omega)
  obtain ⟨ge, dm, S2, l2, e2, e2', hh2, hc2, hp2, hn2', hcs2⟩ := hh1.putAny (t := k) (by omega) (b := b) (n := lb) hbl (by omega)
  have hdn : dn ≤ 8 := by rcases hcs1 with h | h <;> (try unfold nSec at h) <;> omega
  have hdm : dm ≤ 8 := by rcases hcs2 with h | h <;> (try unfold nSec at h) <;> omega
  have hz1 : (newS m).cnt = 0 ∧ (newS m).put.length = 0 ∧ (newS m).n = m := ⟨rfl, rfl, rfl⟩
  have KN := Lib.hid (fun w1 (hb : Below w.heap.size w w1) => Turned.new K m (by omega) hb)
  have KV := Lib.hid (show ∀ w2 d, Dsk St w w2 d (newS m) → Calls Try.prog 10 #[.pointer (some d), .int .i64 3, .int .i64 n1, .int .i64 12] w2 fun x w' => ∃ v, x = .returned (.tuple #[.pointer (some v), .int .i64 0]) ∧ Turned (SV St Vt v V) w d (fun _ => False) w' (newS m) from fun w2 d h2 =>
    (Turned.vault K L h2 (3 : Nat) n1 (12 : Nat) (in64_lit (by omega) (by omega)) ⟨by omega, by omega⟩ (in64_lit (by omega) (by omega)) (fit_small hn4.1 (by omega) (by show 3 + 12 * n1 ≤ m; omega))).mono fun x w' ⟨v, hx, h, _⟩ => ⟨v, hx, by rw [← hV]; exact h⟩)
  have KP1 := Lib.hid (show ∀ W d v, Turned (SV St Vt v V) w d (fun _ => False) W (newS m) → Calls Try.prog 16 #[.pointer (some v), .int .i64 i, .slice A la ca] W fun x w' => x = .returned (.int .i64 fe) ∧ Turned (SV St Vt v V) w d (fun _ => False) w' S1 from fun W d v h => by
    have := Turned.vput K L h i ⟨by omega, by omega⟩ A la ca a hal ⟨by rw [hz1.2.1]; unfold nSec; omega, by rw [hz1.1]; unfold nSec; omega⟩ hac ham (by omega) hra (out_none _ _)
    rw [e1, e1'] at this
    exact this)
  have KP2 := Lib.hid (show ∀ W d v, Turned (SV St Vt v V) w d (fun _ => False) W S1 → Calls Try.prog 16 #[.pointer (some v), .int .i64 k, .slice B lb cb] W fun x w' => x = .returned (.int .i64 ge) ∧ Turned (SV St Vt v V) w d (fun _ => False) w' S2 from fun W d v h => by
    have := Turned.vput K L h k ⟨by omega, by omega⟩ B lb cb b hbl ⟨by rw [hp1, hz1.2.1]; unfold nSec; omega, by rw [hc1, hz1.1]; unfold nSec; omega⟩ hbc hbm (by omega) hrb (out_none _ _)
    rw [e2, e2'] at this
    exact this)
  have KD := Lib.hid (show ∀ W d v, Turned (SV St Vt v V) w d (fun _ => False) W S1 → Calls Try.prog 28 #[.pointer (some d)] W fun x w' => x = .returned (.int .i64 dn) ∧ Below W.heap.size W w' from fun W d v h => by
    have := Turned.count K h.alone
    rw [hc1, hz1.1, Nat.zero_add] at this
    exact this)
  obtain ⟨r, hr⟩ : ∃ r, V.room = r := ⟨_, rfl⟩
  rw [hr] at hcs1 hcs2
  have KM := Lib.hid (show ∀ W d v S, Turned (SV St Vt v V) w d (fun _ => False) W S → Calls Try.prog 12 #[.pointer (some v)] W fun x w' => x = .returned (.int .i64 r) ∧ Below W.heap.size W w' from fun W d v S h => by
    have := Turned.vroom L h
    rw [hr] at this
    exact this)
  have KON := Lib.hid (fun W W' d v S (h : Turned (SV St Vt v V) w d (fun _ => False) W S) (hb : Below W.heap.size W W') => sv_on K L h hb)
  have hfew : Few S2 := ⟨by rw [hp2, hp1, hz1.2.1]; omega, by rw [hc2, hc1, hz1.1]; omega⟩
  have KG := Lib.hid (show ∀ (u : Nat), u < 12 → ∀ W d v, Turned (SV St Vt v V) w d (fun _ => False) W S2 → Calls Try.prog 18 #[.pointer (some v), .int .i64 u] W fun x w' => ∃ A c, x = .returned (.tuple #[.slice A (l2 u).length c, .int .i64 0]) ∧ (l2 u).length ≤ c ∧ c ≤ maxLen ∧ Rd w' w'.heap.size A (l2 u) ∧ Below W.heap.size W w' from fun u hu W d v h =>
    (Turned.vget K L h hfew u ⟨by omega, by omega⟩).mono fun x w' ⟨A, c, h1, h2, h3, h4, h5, _⟩ => by
      have hg := hh2.got u (by omega)
      rw [hg.1, hg.2] at h1
      rw [hg.2] at h2 h4
      exact ⟨A, c, h1, h2, h3, h4, h5⟩)
  have KRD := Lib.hid (show ∀ (j : Nat), j < 3 → ∀ W d v, Turned (SV St Vt v V) w d (fun _ => False) W S2 → Calls Try.prog 30 #[.pointer (some d), .int .i64 j] W fun x w' => ∃ A c, x = .returned (.tuple #[.slice A 128 c, .int .i64 0]) ∧ Rd w' w'.heap.size A (List.replicate 128 0) ∧ Below W.heap.size W w' from fun j hj W d v h => by
    have hx := hh2.read (j := j) (by rw [hVf]; exact .inl hj) (by rw [hn2', hn1', hz1.2.2]; omega)
    have := Turned.read K h.alone hfew j ⟨by omega, by omega⟩
    rw [hx.1, hx.2] at this
    exact this.mono fun x w' ⟨A, c, h1, h2, h3, _⟩ => ⟨A, c, h1, Rd.of_own h2, h3⟩)
  obtain ⟨za, hza⟩ : ∃ za : ByteArray, (⟨a.toArray⟩ : ByteArray) = za := ⟨_, rfl⟩
  obtain ⟨zb, hzb⟩ : ∃ zb : ByteArray, (⟨b.toArray⟩ : ByteArray) = zb := ⟨_, rfl⟩
  have hC : ∃ xa ya : ByteArray, (⟨(l2 i).toArray⟩ : ByteArray) = xa ∧ (⟨(l2 k).toArray⟩ : ByteArray) = ya ∧
      ((fe = 0 ∧ la ≤ r ∧ dn = nSec (la + 4) ∧ ge = 0 ∧ lb ≤ r ∧ i ≠ k ∧ xa = za ∧ ya = zb) ∨ (fe = 0 ∧ la ≤ r ∧ dn = nSec (la + 4) ∧ ge = 0 ∧ lb ≤ r ∧ i = k ∧ ya = zb) ∨
       (fe = 0 ∧ la ≤ r ∧ dn = nSec (la + 4) ∧ ge = 4 ∧ r < lb ∧ xa = za) ∨ (fe = 4 ∧ r < la ∧ dn = 0 ∧ ge = 0 ∧ lb ≤ r ∧ ya = zb) ∨ (fe = 4 ∧ r < la ∧ dn = 0 ∧ ge = 4 ∧ r < lb)) := by
    refine ⟨_, _, rfl, rfl, ?_⟩
    rcases hcs1 with ⟨f1, f2, f3, f4⟩ | ⟨f1, f2, f3, f4⟩ <;> rcases hcs2 with ⟨g1, g2, g3, g4⟩ | ⟨g1, g2, g3, g4⟩
    · by_cases hik : i = k
      · exact .inr (.inl ⟨f1, f2, f3, g1, g2, hik, by rw [g4, upd_at l1 b k]; exact hzb⟩)
      · exact .inl ⟨f1, f2, f3, g1, g2, hik, by rw [g4, upd_ne _ _ hik, f4, upd_at (fun _ => []) a i]; exact hza, by rw [g4, upd_at l1 b k]; exact hzb⟩
    · exact .inr (.inr (.inl ⟨f1, f2, f3, g1, g2, by rw [g4, f4, upd_at (fun _ => []) a i]; exact hza⟩))
    · exact .inr (.inr (.inr (.inl ⟨f1, f2, f3, g1, g2, by rw [g4, upd_at l1 b k]; exact hzb⟩)))
    · exact .inr (.inr (.inr (.inr ⟨f1, f2, f3, g1, g2⟩)))
  obtain ⟨xa, ya, hxa, hya, hC⟩ := hC
  have HXY := Lib.hid (And.intro hxa hya)
  have HZ := Lib.hid (And.intro hza hzb)
  have HC := Lib.hid hC
  obtain ⟨lx, hlx⟩ : ∃ lx, (l2 i).length = lx := ⟨_, rfl⟩
  obtain ⟨ly, hly⟩ : ∃ ly, (l2 k).length = ly := ⟨_, rfl⟩
  have HLX := Lib.hid (And.intro hlx hly)
  obtain ⟨x1, hx1⟩ : ∃ x1, la + 4 = x1 := ⟨_, rfl⟩
  obtain ⟨x2, hx2⟩ : ∃ x2, x1 + 128 = x2 := ⟨_, rfl⟩
  obtain ⟨x3, hx3⟩ : ∃ x3, x2 - 1 = x3 := ⟨_, rfl⟩
  obtain ⟨x4, hx4⟩ : ∃ x4, x3 / 128 = x4 := ⟨_, rfl⟩
  have sx1 : (la : Int) + 4 = (x1 : Int) := by omega
  have sx2 : (x1 : Int) + 128 = (x2 : Int) := by omega
  have sx3 : (x2 : Int) - 1 = (x3 : Int) := by omega
  have sx4 : (x3 : Int).tdiv 128 = (x4 : Int) := by rw [Int.tdiv_eq_ediv_of_nonneg (by omega)]; omega
  have hx1b : x1 ≤ 1004 := by omega
  have hx2b : x2 ≤ 1132 := by omega
  have hx3b : x3 ≤ 1132 := by omega
  have hx4b : x4 ≤ 10 := by omega
  have HSX := Lib.hid (show nSec (la + 4) = x4 from by unfold nSec; omega)
  have HRA := Lib.hid (And.intro hra hrb)
  clear hza hzb hxa hya hC hlx hly hx1 hx2 hx3 hx4
  have HLN := Lib.hid (And.intro hal hbl)
  clear hq hn1 hp hm hi hk hV hfit hVn hVf hh0 e1 e1' hh1 hc1 hp1 hn1' hcs1 e2 e2' hh2 hc2 hp2 hn2' hcs2 hz1 hr hfew hra hrb hal hbl
  go_enter Try.func4, Try.ntmps4
  go_wp2_with fail
  refine (shown_any K L w).mono ?_
  rintro e w1 ⟨rfl, h1⟩
  have K1 := Lib.hid (KN.out w1 h1)
  clear h1 KN
  go_wp2_with fail
  refine K1.out.mono ?_
  rintro e w2 ⟨d, rfl, h2⟩
  have K2 := Lib.hid (KV.out w2 d h2)
  clear h2 KV K1
  go_wp2_with fail
  refine K2.out.mono ?_
  rintro e w3 ⟨v, rfl, h3⟩
  have K3 := Lib.hid (KP1.out w3 d v h3)
  clear h3 K2 KP1
  go_wp2_with fail
  refine K3.out.mono ?_
  rintro e w4 ⟨rfl, h4⟩
  have K4 := Lib.hid (KD.out w4 d v h4)
  have H4 := Lib.hid h4
  clear h4 K3 KD
  go_wp2_with fail
  refine K4.out.mono ?_
  rintro e w5 ⟨rfl, hb5⟩
  have K5 := Lib.hid (KP2.out w5 d v (KON.out _ _ _ _ _ H4.out hb5))
  clear hb5 K4 KP2 H4
  go_wp2_with fail
  refine K5.out.mono ?_
  rintro e w6 ⟨rfl, h6⟩
  have K6 := Lib.hid (KM.out w6 d v _ h6)
  have H6 := Lib.hid h6
  clear h6 K5
  go_wp2_with fail
  refine K6.out.mono ?_
  rintro e w7 ⟨rfl, hb7⟩
  have H7 := Lib.hid (KON.out _ _ _ _ _ H6.out hb7)
  clear hb7 K6 H6
  rcases HC.out with ⟨rfl, c1, c2, rfl, c3, c4, rfl, rfl⟩ | ⟨rfl, c1, c2, rfl, c3, c4, rfl⟩ | ⟨rfl, c1, c2, rfl, c3, rfl⟩ | ⟨rfl, c1, c2, rfl, c3, rfl⟩ | ⟨rfl, c1, c2, rfl, c3⟩
  · obtain rfl : dn = x4 := by rw [c2, HSX.out]
    have c1i : (la : Int) ≤ (r : Int) := by omega
    have c3i : (lb : Int) ≤ (r : Int) := by omega
    have c4i : ¬ (i : Int) = (k : Int) := by omega
    clear c2 HC
    go_wp2_with fail
    refine (KM.out w7 d v _ H7.out).mono ?_
    rintro e w8 ⟨rfl, hb8⟩
    have H8 := Lib.hid (KON.out _ _ _ _ _ H7.out hb8)
    clear hb8 H7
    go_wp2_with fail
    refine (KG.out i hi12 w8 d v H8.out).mono ?_
    rintro e w9 ⟨A9, c9, rfl, hxc, hxm, hrx, hb9⟩
    rw [HLX.out.1] at hxc ⊢
    have H9 := Lib.hid (KON.out _ _ _ _ _ H8.out hb9)
    have HR9 := Lib.hid hrx
    clear hb9 H8 hrx
    go_wp2_with fail
    refine (KG.out k hk12 w9 d v H9.out).mono ?_
    rintro e w10 ⟨A10, c10, rfl, hyc, hym, hry, hb10⟩
    rw [HLX.out.2] at hyc ⊢
    have H10 := Lib.hid (KON.out _ _ _ _ _ H9.out hb10)
    have hcx := conv_own (c := c9) HLX.out.1 (HR9.out.below hb10)
    rw [HXY.out.1] at hcx
    have hcy := conv_own (c := c10) HLX.out.2 hry
    rw [HXY.out.2] at hcy
    have hca := conv_own (c := ca) HLN.out.1 (HRA.out.1.below H10.out.bel)
    rw [HZ.out.1] at hca
    have hcb := conv_own (c := cb) HLN.out.2 (HRA.out.2.below H10.out.bel)
    rw [HZ.out.2] at hcb
    clear hb10 H9 hry HR9
    go_wp2_with fail
    clear hcx hcy hca hcb
    go_loopw [189] (fun s wr => ∃ j : Nat, j ≤ 3 ∧ s = .int .i64 j ∧ Hid (Turned (SV St Vt v V) w d (fun _ => False) wr S2)) (fun s _ => 3 - (intOf s).toNat)
    case atStart => exact ⟨0, by omega, rfl, Lib.hid H10.out⟩
    case round =>
      clear H10
      obtain ⟨j, hj, rfl, hst⟩ := hrel
      by_cases hlt : j < 3
      · have hl : (j : Int) < 3 := by omega
        have KR := Lib.hid (KRD.out j hlt wr d v hst.out)
        go_wp2_with fail
        refine KR.out.mono ?_
        rintro e w11 ⟨A11, c11, rfl, hr11, hb11⟩
        have H11 := Lib.hid (KON.out _ _ _ _ _ hst.out hb11)
        obtain ⟨ib, hib, hy0, hy1, hy2⟩ := info_parts info_u8
        have hmk := fun W => run_make (P := Try.prog) W 42 5 ib _ Try.underlying42 hib hy0 .i64 .i64 (128 : Int) (128 : Int) (by omega) (by omega) (by rw [hy2]; omega) (by omega)
        rw [hy1] at hmk
        obtain ⟨zs, hzs⟩ : ∃ zs : ByteArray, (⟨(List.replicate 128 0).toArray⟩ : ByteArray) = zs := ⟨_, rfl⟩
        have hba : Below w11.heap.size w11 ((w11.alloc (.cells (madeCells #[.int .u8 0] 128) 5)).drew) := (show Below w11.heap.size w11 (w11.alloc (.cells (madeCells #[.int .u8 0] 128) 5)) from (Below.refl _ _).alloc (Nat.le_refl _) _).drew
        have hc1 : (convert 42 9 (.slice A11 128 c11)).run Try.prog w11.drew = .ok (.string zs) w11.drew := by rw [← hzs]; exact conv_own rfl (show Rd w11.drew w11.heap.size A11 _ from hr11)
        have hc2 : (convert 42 9 (.slice A11 128 c11)).run Try.prog ((w11.alloc (.cells (madeCells #[.int .u8 0] 128) 5)).drew) = .ok (.string zs) ((w11.alloc (.cells (madeCells #[.int .u8 0] 128) 5)).drew) := by rw [← hzs]; exact conv_own rfl (hr11.below hba)
        have hc3 : (convert 42 9 (.slice (some ⟨w11.heap.size, 0, none⟩) 128 128)).run Try.prog ((w11.alloc (.cells (madeCells #[.int .u8 0] 128) 5)).drew) = .ok (.string zs) ((w11.alloc (.cells (madeCells #[.int .u8 0] 128) 5)).drew) := by
          rw [← hzs]
          exact conv_own (l := List.replicate 128 0) rfl (made_rd w11 128)
        have HN := Lib.hid (KON.out _ _ _ _ _ H11.out hba)
        clear hb11 hr11 KR hst hzs hib hy0 hy1 hy2 hba
        go_wp2_with fail
        first | (go_region_held (fun W => (convert 42 9 (.slice A11 128 c11)).run Try.prog W = .ok (.string zs) W) (first | exact hc1 | exact hc2) (fail)) | fail
        go_wp2_with fail
        go_roundw
        case rel => exact ⟨j + 1, by omega, by go_num, Lib.hid HN.out⟩
        case measure => simp [intOf]; omega
      · obtain rfl : j = 3 := by omega
        have HE := Lib.hid hst.out.bel
        go_wp2_with fail
        go_ret
        exact ⟨rfl, HE.out⟩
  · obtain rfl : dn = x4 := by rw [c2, HSX.out]
    subst c4
    have c1i : (la : Int) ≤ (r : Int) := by omega
    have c3i : (lb : Int) ≤ (r : Int) := by omega
    clear c2 HC
    go_wp2_with fail
    refine (KM.out w7 d v _ H7.out).mono ?_
    rintro e w8 ⟨rfl, hb8⟩
    have H8 := Lib.hid (KON.out _ _ _ _ _ H7.out hb8)
    clear hb8 H7
    go_wp2_with fail
    refine (KG.out i hi12 w8 d v H8.out).mono ?_
    rintro e w9 ⟨A9, c9, rfl, hxc, hxm, hrx, hb9⟩
    rw [HLX.out.1] at hxc ⊢
    have H9 := Lib.hid (KON.out _ _ _ _ _ H8.out hb9)
    have HR9 := Lib.hid hrx
    clear hb9 H8 hrx
    go_wp2_with fail
    refine (KG.out i hi12 w9 d v H9.out).mono ?_
    rintro e w10 ⟨A10, c10, rfl, hyc, hym, hry, hb10⟩
    rw [HLX.out.2] at hyc ⊢
    have H10 := Lib.hid (KON.out _ _ _ _ _ H9.out hb10)
    have hcx := conv_own (c := c9) HLX.out.1 (HR9.out.below hb10)
    rw [HXY.out.1] at hcx
    have hcy := conv_own (c := c10) HLX.out.2 hry
    rw [HXY.out.2] at hcy
    have hca := conv_own (c := ca) HLN.out.1 (HRA.out.1.below H10.out.bel)
    rw [HZ.out.1] at hca
    have hcb := conv_own (c := cb) HLN.out.2 (HRA.out.2.below H10.out.bel)
    rw [HZ.out.2] at hcb
    clear hb10 H9 hry HR9
    go_wp2_with fail
    clear hcx hcy hca hcb
    go_loopw [189] (fun s wr => ∃ j : Nat, j ≤ 3 ∧ s = .int .i64 j ∧ Hid (Turned (SV St Vt v V) w d (fun _ => False) wr S2)) (fun s _ => 3 - (intOf s).toNat)
    case atStart => exact ⟨0, by omega, rfl, Lib.hid H10.out⟩
    case round =>
      clear H10
      obtain ⟨j, hj, rfl, hst⟩ := hrel
      by_cases hlt : j < 3
      · have hl : (j : Int) < 3 := by omega
        have KR := Lib.hid (KRD.out j hlt wr d v hst.out)
        go_wp2_with fail
        refine KR.out.mono ?_
        rintro e w11 ⟨A11, c11, rfl, hr11, hb11⟩
        have H11 := Lib.hid (KON.out _ _ _ _ _ hst.out hb11)
        obtain ⟨ib, hib, hy0, hy1, hy2⟩ := info_parts info_u8
        have hmk := fun W => run_make (P := Try.prog) W 42 5 ib _ Try.underlying42 hib hy0 .i64 .i64 (128 : Int) (128 : Int) (by omega) (by omega) (by rw [hy2]; omega) (by omega)
        rw [hy1] at hmk
        obtain ⟨zs, hzs⟩ : ∃ zs : ByteArray, (⟨(List.replicate 128 0).toArray⟩ : ByteArray) = zs := ⟨_, rfl⟩
        have hba : Below w11.heap.size w11 ((w11.alloc (.cells (madeCells #[.int .u8 0] 128) 5)).drew) := (show Below w11.heap.size w11 (w11.alloc (.cells (madeCells #[.int .u8 0] 128) 5)) from (Below.refl _ _).alloc (Nat.le_refl _) _).drew
        have hc1 : (convert 42 9 (.slice A11 128 c11)).run Try.prog w11.drew = .ok (.string zs) w11.drew := by rw [← hzs]; exact conv_own rfl (show Rd w11.drew w11.heap.size A11 _ from hr11)
        have hc2 : (convert 42 9 (.slice A11 128 c11)).run Try.prog ((w11.alloc (.cells (madeCells #[.int .u8 0] 128) 5)).drew) = .ok (.string zs) ((w11.alloc (.cells (madeCells #[.int .u8 0] 128) 5)).drew) := by rw [← hzs]; exact conv_own rfl (hr11.below hba)
        have hc3 : (convert 42 9 (.slice (some ⟨w11.heap.size, 0, none⟩) 128 128)).run Try.prog ((w11.alloc (.cells (madeCells #[.int .u8 0] 128) 5)).drew) = .ok (.string zs) ((w11.alloc (.cells (madeCells #[.int .u8 0] 128) 5)).drew) := by
          rw [← hzs]
          exact conv_own (l := List.replicate 128 0) rfl (made_rd w11 128)
        have HN := Lib.hid (KON.out _ _ _ _ _ H11.out hba)
        clear hb11 hr11 KR hst hzs hib hy0 hy1 hy2 hba
        go_wp2_with fail
        first | (go_region_held (fun W => (convert 42 9 (.slice A11 128 c11)).run Try.prog W = .ok (.string zs) W) (first | exact hc1 | exact hc2) (fail)) | fail
        go_wp2_with fail
        go_roundw
        case rel => exact ⟨j + 1, by omega, by go_num, Lib.hid HN.out⟩
        case measure => simp [intOf]; omega
      · obtain rfl : j = 3 := by omega
        have HE := Lib.hid hst.out.bel
        go_wp2_with fail
        go_ret
        exact ⟨rfl, HE.out⟩
  · obtain rfl : dn = x4 := by rw [c2, HSX.out]
    have c1i : (la : Int) ≤ (r : Int) := by omega
    have c3i : ¬ (lb : Int) ≤ (r : Int) := by omega
    have c3n : ¬ lb ≤ r := by omega
    clear c2 HC
    by_cases c4 : i = k
    · subst c4
      go_wp2_with fail
      refine (KM.out w7 d v _ H7.out).mono ?_
      rintro e w8 ⟨rfl, hb8⟩
      have H8 := Lib.hid (KON.out _ _ _ _ _ H7.out hb8)
      clear hb8 H7
      go_wp2_with fail
      refine (KG.out i hi12 w8 d v H8.out).mono ?_
      rintro e w9 ⟨A9, c9, rfl, hxc, hxm, hrx, hb9⟩
      rw [HLX.out.1] at hxc ⊢
      have H9 := Lib.hid (KON.out _ _ _ _ _ H8.out hb9)
      have HR9 := Lib.hid hrx
      clear hb9 H8 hrx
      go_wp2_with fail
      refine (KG.out i hi12 w9 d v H9.out).mono ?_
      rintro e w10 ⟨A10, c10, rfl, hyc, hym, hry, hb10⟩
      rw [HLX.out.2] at hyc ⊢
      have H10 := Lib.hid (KON.out _ _ _ _ _ H9.out hb10)
      have hcx := conv_own (c := c9) HLX.out.1 (HR9.out.below hb10)
      rw [HXY.out.1] at hcx
      have hcy := conv_own (c := c10) HLX.out.2 hry
      rw [HXY.out.2] at hcy
      have hca := conv_own (c := ca) HLN.out.1 (HRA.out.1.below H10.out.bel)
      rw [HZ.out.1] at hca
      have hcb := conv_own (c := cb) HLN.out.2 (HRA.out.2.below H10.out.bel)
      rw [HZ.out.2] at hcb
      clear hb10 H9 hry HR9
      go_wp2_with fail
      clear hcx hcy hca hcb
      go_loopw [189] (fun s wr => ∃ j : Nat, j ≤ 3 ∧ s = .int .i64 j ∧ Hid (Turned (SV St Vt v V) w d (fun _ => False) wr S2)) (fun s _ => 3 - (intOf s).toNat)
      case atStart => exact ⟨0, by omega, rfl, Lib.hid H10.out⟩
      case round =>
        clear H10
        obtain ⟨j, hj, rfl, hst⟩ := hrel
        by_cases hlt : j < 3
        · have hl : (j : Int) < 3 := by omega
          have KR := Lib.hid (KRD.out j hlt wr d v hst.out)
          go_wp2_with fail
          refine KR.out.mono ?_
          rintro e w11 ⟨A11, c11, rfl, hr11, hb11⟩
          have H11 := Lib.hid (KON.out _ _ _ _ _ hst.out hb11)
          obtain ⟨ib, hib, hy0, hy1, hy2⟩ := info_parts info_u8
          have hmk := fun W => run_make (P := Try.prog) W 42 5 ib _ Try.underlying42 hib hy0 .i64 .i64 (128 : Int) (128 : Int) (by omega) (by omega) (by rw [hy2]; omega) (by omega)
          rw [hy1] at hmk
          obtain ⟨zs, hzs⟩ : ∃ zs : ByteArray, (⟨(List.replicate 128 0).toArray⟩ : ByteArray) = zs := ⟨_, rfl⟩
          have hba : Below w11.heap.size w11 ((w11.alloc (.cells (madeCells #[.int .u8 0] 128) 5)).drew) := (show Below w11.heap.size w11 (w11.alloc (.cells (madeCells #[.int .u8 0] 128) 5)) from (Below.refl _ _).alloc (Nat.le_refl _) _).drew
          have hc1 : (convert 42 9 (.slice A11 128 c11)).run Try.prog w11.drew = .ok (.string zs) w11.drew := by rw [← hzs]; exact conv_own rfl (show Rd w11.drew w11.heap.size A11 _ from hr11)
          have hc2 : (convert 42 9 (.slice A11 128 c11)).run Try.prog ((w11.alloc (.cells (madeCells #[.int .u8 0] 128) 5)).drew) = .ok (.string zs) ((w11.alloc (.cells (madeCells #[.int .u8 0] 128) 5)).drew) := by rw [← hzs]; exact conv_own rfl (hr11.below hba)
          have hc3 : (convert 42 9 (.slice (some ⟨w11.heap.size, 0, none⟩) 128 128)).run Try.prog ((w11.alloc (.cells (madeCells #[.int .u8 0] 128) 5)).drew) = .ok (.string zs) ((w11.alloc (.cells (madeCells #[.int .u8 0] 128) 5)).drew) := by
            rw [← hzs]
            exact conv_own (l := List.replicate 128 0) rfl (made_rd w11 128)
          have HN := Lib.hid (KON.out _ _ _ _ _ H11.out hba)
          clear hb11 hr11 KR hst hzs hib hy0 hy1 hy2 hba
          go_wp2_with fail
          first | (go_region_held (fun W => (convert 42 9 (.slice A11 128 c11)).run Try.prog W = .ok (.string zs) W) (first | exact hc1 | exact hc2) (fail)) | fail
          go_wp2_with fail
          go_roundw
          case rel => exact ⟨j + 1, by omega, by go_num, Lib.hid HN.out⟩
          case measure => simp [intOf]; omega
        · obtain rfl : j = 3 := by omega
          have HE := Lib.hid hst.out.bel
          go_wp2_with fail
          go_ret
          exact ⟨rfl, HE.out⟩
    · have c4i : ¬ (i : Int) = (k : Int) := by omega
      go_wp2_with fail
      refine (KM.out w7 d v _ H7.out).mono ?_
      rintro e w8 ⟨rfl, hb8⟩
      have H8 := Lib.hid (KON.out _ _ _ _ _ H7.out hb8)
      clear hb8 H7
      go_wp2_with fail
      refine (KG.out i hi12 w8 d v H8.out).mono ?_
      rintro e w9 ⟨A9, c9, rfl, hxc, hxm, hrx, hb9⟩
      rw [HLX.out.1] at hxc ⊢
      have H9 := Lib.hid (KON.out _ _ _ _ _ H8.out hb9)
      have HR9 := Lib.hid hrx
      clear hb9 H8 hrx
      go_wp2_with fail
      refine (KG.out k hk12 w9 d v H9.out).mono ?_
      rintro e w10 ⟨A10, c10, rfl, hyc, hym, hry, hb10⟩
      rw [HLX.out.2] at hyc ⊢
      have H10 := Lib.hid (KON.out _ _ _ _ _ H9.out hb10)
      have hcx := conv_own (c := c9) HLX.out.1 (HR9.out.below hb10)
      rw [HXY.out.1] at hcx
      have hcy := conv_own (c := c10) HLX.out.2 hry
      rw [HXY.out.2] at hcy
      have hca := conv_own (c := ca) HLN.out.1 (HRA.out.1.below H10.out.bel)
      rw [HZ.out.1] at hca
      have hcb := conv_own (c := cb) HLN.out.2 (HRA.out.2.below H10.out.bel)
      rw [HZ.out.2] at hcb
      clear hb10 H9 hry HR9
      go_wp2_with fail
      clear hcx hcy hca hcb
      go_loopw [189] (fun s wr => ∃ j : Nat, j ≤ 3 ∧ s = .int .i64 j ∧ Hid (Turned (SV St Vt v V) w d (fun _ => False) wr S2)) (fun s _ => 3 - (intOf s).toNat)
      case atStart => exact ⟨0, by omega, rfl, Lib.hid H10.out⟩
      case round =>
        clear H10
        obtain ⟨j, hj, rfl, hst⟩ := hrel
        by_cases hlt : j < 3
        · have hl : (j : Int) < 3 := by omega
          have KR := Lib.hid (KRD.out j hlt wr d v hst.out)
          go_wp2_with fail
          refine KR.out.mono ?_
          rintro e w11 ⟨A11, c11, rfl, hr11, hb11⟩
          have H11 := Lib.hid (KON.out _ _ _ _ _ hst.out hb11)
          obtain ⟨ib, hib, hy0, hy1, hy2⟩ := info_parts info_u8
          have hmk := fun W => run_make (P := Try.prog) W 42 5 ib _ Try.underlying42 hib hy0 .i64 .i64 (128 : Int) (128 : Int) (by omega) (by omega) (by rw [hy2]; omega) (by omega)
          rw [hy1] at hmk
          obtain ⟨zs, hzs⟩ : ∃ zs : ByteArray, (⟨(List.replicate 128 0).toArray⟩ : ByteArray) = zs := ⟨_, rfl⟩
          have hba : Below w11.heap.size w11 ((w11.alloc (.cells (madeCells #[.int .u8 0] 128) 5)).drew) := (show Below w11.heap.size w11 (w11.alloc (.cells (madeCells #[.int .u8 0] 128) 5)) from (Below.refl _ _).alloc (Nat.le_refl _) _).drew
          have hc1 : (convert 42 9 (.slice A11 128 c11)).run Try.prog w11.drew = .ok (.string zs) w11.drew := by rw [← hzs]; exact conv_own rfl (show Rd w11.drew w11.heap.size A11 _ from hr11)
          have hc2 : (convert 42 9 (.slice A11 128 c11)).run Try.prog ((w11.alloc (.cells (madeCells #[.int .u8 0] 128) 5)).drew) = .ok (.string zs) ((w11.alloc (.cells (madeCells #[.int .u8 0] 128) 5)).drew) := by rw [← hzs]; exact conv_own rfl (hr11.below hba)
          have hc3 : (convert 42 9 (.slice (some ⟨w11.heap.size, 0, none⟩) 128 128)).run Try.prog ((w11.alloc (.cells (madeCells #[.int .u8 0] 128) 5)).drew) = .ok (.string zs) ((w11.alloc (.cells (madeCells #[.int .u8 0] 128) 5)).drew) := by
            rw [← hzs]
            exact conv_own (l := List.replicate 128 0) rfl (made_rd w11 128)
          have HN := Lib.hid (KON.out _ _ _ _ _ H11.out hba)
          clear hb11 hr11 KR hst hzs hib hy0 hy1 hy2 hba
          go_wp2_with fail
          first | (go_region_held (fun W => (convert 42 9 (.slice A11 128 c11)).run Try.prog W = .ok (.string zs) W) (first | exact hc1 | exact hc2) (fail)) | fail
          go_wp2_with fail
          go_roundw
          case rel => exact ⟨j + 1, by omega, by go_num, Lib.hid HN.out⟩
          case measure => simp [intOf]; omega
        · obtain rfl : j = 3 := by omega
          have HE := Lib.hid hst.out.bel
          go_wp2_with fail
          go_ret
          exact ⟨rfl, HE.out⟩
  · subst c2
    have c1i : ¬ (la : Int) ≤ (r : Int) := by omega
    have c1n : ¬ la ≤ r := by omega
    have c3i : (lb : Int) ≤ (r : Int) := by omega
    clear HC
    go_wp2_with fail
    refine (KM.out w7 d v _ H7.out).mono ?_
    rintro e w8 ⟨rfl, hb8⟩
    have H8 := Lib.hid (KON.out _ _ _ _ _ H7.out hb8)
    clear hb8 H7
    go_wp2_with fail
    refine (KG.out i hi12 w8 d v H8.out).mono ?_
    rintro e w9 ⟨A9, c9, rfl, hxc, hxm, hrx, hb9⟩
    rw [HLX.out.1] at hxc ⊢
    have H9 := Lib.hid (KON.out _ _ _ _ _ H8.out hb9)
    have HR9 := Lib.hid hrx
    clear hb9 H8 hrx
    go_wp2_with fail
    refine (KG.out k hk12 w9 d v H9.out).mono ?_
    rintro e w10 ⟨A10, c10, rfl, hyc, hym, hry, hb10⟩
    rw [HLX.out.2] at hyc ⊢
    have H10 := Lib.hid (KON.out _ _ _ _ _ H9.out hb10)
    have hcx := conv_own (c := c9) HLX.out.1 (HR9.out.below hb10)
    rw [HXY.out.1] at hcx
    have hcy := conv_own (c := c10) HLX.out.2 hry
    rw [HXY.out.2] at hcy
    have hca := conv_own (c := ca) HLN.out.1 (HRA.out.1.below H10.out.bel)
    rw [HZ.out.1] at hca
    have hcb := conv_own (c := cb) HLN.out.2 (HRA.out.2.below H10.out.bel)
    rw [HZ.out.2] at hcb
    clear hb10 H9 hry HR9
    go_wp2_with fail
    clear hcx hcy hca hcb
    go_loopw [189] (fun s wr => ∃ j : Nat, j ≤ 3 ∧ s = .int .i64 j ∧ Hid (Turned (SV St Vt v V) w d (fun _ => False) wr S2)) (fun s _ => 3 - (intOf s).toNat)
    case atStart => exact ⟨0, by omega, rfl, Lib.hid H10.out⟩
    case round =>
      clear H10
      obtain ⟨j, hj, rfl, hst⟩ := hrel
      by_cases hlt : j < 3
      · have hl : (j : Int) < 3 := by omega
        have KR := Lib.hid (KRD.out j hlt wr d v hst.out)
        go_wp2_with fail
        refine KR.out.mono ?_
        rintro e w11 ⟨A11, c11, rfl, hr11, hb11⟩
        have H11 := Lib.hid (KON.out _ _ _ _ _ hst.out hb11)
        obtain ⟨ib, hib, hy0, hy1, hy2⟩ := info_parts info_u8
        have hmk := fun W => run_make (P := Try.prog) W 42 5 ib _ Try.underlying42 hib hy0 .i64 .i64 (128 : Int) (128 : Int) (by omega) (by omega) (by rw [hy2]; omega) (by omega)
        rw [hy1] at hmk
        obtain ⟨zs, hzs⟩ : ∃ zs : ByteArray, (⟨(List.replicate 128 0).toArray⟩ : ByteArray) = zs := ⟨_, rfl⟩
        have hba : Below w11.heap.size w11 ((w11.alloc (.cells (madeCells #[.int .u8 0] 128) 5)).drew) := (show Below w11.heap.size w11 (w11.alloc (.cells (madeCells #[.int .u8 0] 128) 5)) from (Below.refl _ _).alloc (Nat.le_refl _) _).drew
        have hc1 : (convert 42 9 (.slice A11 128 c11)).run Try.prog w11.drew = .ok (.string zs) w11.drew := by rw [← hzs]; exact conv_own rfl (show Rd w11.drew w11.heap.size A11 _ from hr11)
        have hc2 : (convert 42 9 (.slice A11 128 c11)).run Try.prog ((w11.alloc (.cells (madeCells #[.int .u8 0] 128) 5)).drew) = .ok (.string zs) ((w11.alloc (.cells (madeCells #[.int .u8 0] 128) 5)).drew) := by rw [← hzs]; exact conv_own rfl (hr11.below hba)
        have hc3 : (convert 42 9 (.slice (some ⟨w11.heap.size, 0, none⟩) 128 128)).run Try.prog ((w11.alloc (.cells (madeCells #[.int .u8 0] 128) 5)).drew) = .ok (.string zs) ((w11.alloc (.cells (madeCells #[.int .u8 0] 128) 5)).drew) := by
          rw [← hzs]
          exact conv_own (l := List.replicate 128 0) rfl (made_rd w11 128)
        have HN := Lib.hid (KON.out _ _ _ _ _ H11.out hba)
        clear hb11 hr11 KR hst hzs hib hy0 hy1 hy2 hba
        go_wp2_with fail
        first | (go_region_held (fun W => (convert 42 9 (.slice A11 128 c11)).run Try.prog W = .ok (.string zs) W) (first | exact hc1 | exact hc2) (fail)) | fail
        go_wp2_with fail
        go_roundw
        case rel => exact ⟨j + 1, by omega, by go_num, Lib.hid HN.out⟩
        case measure => simp [intOf]; omega
      · obtain rfl : j = 3 := by omega
        have HE := Lib.hid hst.out.bel
        go_wp2_with fail
        go_ret
        exact ⟨rfl, HE.out⟩
  · subst c2
    have c1i : ¬ (la : Int) ≤ (r : Int) := by omega
    have c1n : ¬ la ≤ r := by omega
    have c3i : ¬ (lb : Int) ≤ (r : Int) := by omega
    have c3n : ¬ lb ≤ r := by omega
    clear HC
    go_wp2_with fail
    refine (KM.out w7 d v _ H7.out).mono ?_
    rintro e w8 ⟨rfl, hb8⟩
    have H8 := Lib.hid (KON.out _ _ _ _ _ H7.out hb8)
    clear hb8 H7
    go_wp2_with fail
    refine (KG.out i hi12 w8 d v H8.out).mono ?_
    rintro e w9 ⟨A9, c9, rfl, hxc, hxm, hrx, hb9⟩
    rw [HLX.out.1] at hxc ⊢
    have H9 := Lib.hid (KON.out _ _ _ _ _ H8.out hb9)
    have HR9 := Lib.hid hrx
    clear hb9 H8 hrx
    go_wp2_with fail
    refine (KG.out k hk12 w9 d v H9.out).mono ?_
    rintro e w10 ⟨A10, c10, rfl, hyc, hym, hry, hb10⟩
    rw [HLX.out.2] at hyc ⊢
    have H10 := Lib.hid (KON.out _ _ _ _ _ H9.out hb10)
    have hcx := conv_own (c := c9) HLX.out.1 (HR9.out.below hb10)
    rw [HXY.out.1] at hcx
    have hcy := conv_own (c := c10) HLX.out.2 hry
    rw [HXY.out.2] at hcy
    have hca := conv_own (c := ca) HLN.out.1 (HRA.out.1.below H10.out.bel)
    rw [HZ.out.1] at hca
    have hcb := conv_own (c := cb) HLN.out.2 (HRA.out.2.below H10.out.bel)
    rw [HZ.out.2] at hcb
    clear hb10 H9 hry HR9
    go_wp2_with fail
    clear hcx hcy hca hcb
    go_loopw [189] (fun s wr => ∃ j : Nat, j ≤ 3 ∧ s = .int .i64 j ∧ Hid (Turned (SV St Vt v V) w d (fun _ => False) wr S2)) (fun s _ => 3 - (intOf s).toNat)
    case atStart => exact ⟨0, by omega, rfl, Lib.hid H10.out⟩
    case round =>
      clear H10
      obtain ⟨j, hj, rfl, hst⟩ := hrel
      by_cases hlt : j < 3
      · have hl : (j : Int) < 3 := by omega
        have KR := Lib.hid (KRD.out j hlt wr d v hst.out)
        go_wp2_with fail
        refine KR.out.mono ?_
        rintro e w11 ⟨A11, c11, rfl, hr11, hb11⟩
        have H11 := Lib.hid (KON.out _ _ _ _ _ hst.out hb11)
        obtain ⟨ib, hib, hy0, hy1, hy2⟩ := info_parts info_u8
        have hmk := fun W => run_make (P := Try.prog) W 42 5 ib _ Try.underlying42 hib hy0 .i64 .i64 (128 : Int) (128 : Int) (by omega) (by omega) (by rw [hy2]; omega) (by omega)
        rw [hy1] at hmk
        obtain ⟨zs, hzs⟩ : ∃ zs : ByteArray, (⟨(List.replicate 128 0).toArray⟩ : ByteArray) = zs := ⟨_, rfl⟩
        have hba : Below w11.heap.size w11 ((w11.alloc (.cells (madeCells #[.int .u8 0] 128) 5)).drew) := (show Below w11.heap.size w11 (w11.alloc (.cells (madeCells #[.int .u8 0] 128) 5)) from (Below.refl _ _).alloc (Nat.le_refl _) _).drew
        have hc1 : (convert 42 9 (.slice A11 128 c11)).run Try.prog w11.drew = .ok (.string zs) w11.drew := by rw [← hzs]; exact conv_own rfl (show Rd w11.drew w11.heap.size A11 _ from hr11)
        have hc2 : (convert 42 9 (.slice A11 128 c11)).run Try.prog ((w11.alloc (.cells (madeCells #[.int .u8 0] 128) 5)).drew) = .ok (.string zs) ((w11.alloc (.cells (madeCells #[.int .u8 0] 128) 5)).drew) := by rw [← hzs]; exact conv_own rfl (hr11.below hba)
        have hc3 : (convert 42 9 (.slice (some ⟨w11.heap.size, 0, none⟩) 128 128)).run Try.prog ((w11.alloc (.cells (madeCells #[.int .u8 0] 128) 5)).drew) = .ok (.string zs) ((w11.alloc (.cells (madeCells #[.int .u8 0] 128) 5)).drew) := by
          rw [← hzs]
          exact conv_own (l := List.replicate 128 0) rfl (made_rd w11 128)
        have HN := Lib.hid (KON.out _ _ _ _ _ H11.out hba)
        clear hb11 hr11 KR hst hzs hib hy0 hy1 hy2 hba
        go_wp2_with fail
        first | (go_region_held (fun W => (convert 42 9 (.slice A11 128 c11)).run Try.prog W = .ok (.string zs) W) (first | exact hc1 | exact hc2) (fail)) | fail
        go_wp2_with fail
        go_roundw
        case rel => exact ⟨j + 1, by omega, by go_num, Lib.hid HN.out⟩
        case measure => simp [intOf]; omega
      · obtain rfl : j = 3 := by omega
        have HE := Lib.hid hst.out.bel
        go_wp2_with fail
        go_ret
        exact ⟨rfl, HE.out⟩
end
end Go.Proofs.Ythbgcffnnholeaa
