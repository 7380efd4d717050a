/- What the laws of package chunk lean on: a cutter that came in, calls told from a base world. No statement of the seat is proved here. -/
import Derived.Test.YtmnbfmcgnddlaaaChunkShown
import Derived.Test.YtmnbfmcgnddlaaaArgB
import Derived.Lib.SmallJoins
namespace Go.Proofs.Ytmnbfmcgnddlaaa
open Go.ChangeShapes Go.WideShapes Go.ChangeAt Go.RowKit Go.Sort Go.Deep Go.Joins

theorem from_base {P : Program} {f : FuncId} {args : Array Value} {w : World} {v : Value} (h : ∀ W, Below w.heap.size w W → Calls P f args W fun e w' => e = .returned v ∧ Below W.heap.size W w') (d : Nat) (os : Array Obj) :
    Calls P f args (grow (redrawn w d) os) fun e w'' => e = .returned v ∧ ∃ p : Regrown, w'' = grow (redrawn w p.d) p.os :=
  (h _ (below_regrown w d os)).mono fun _ _ ⟨he, hb⟩ => ⟨he, regrown_of_below ((below_regrown w d os).trans (hb.mono (below_regrown w d os).size))⟩
theorem cell_base {w : World} {g i : Nat} {v : Value} (h : w.cell? ⟨g, i, none⟩ = some v) (d : Nat) (os : Array Obj) : (grow (redrawn w d) os).cell? ⟨g, i, none⟩ = some v :=
  ((below_regrown w d os).cell (p := ⟨g, i, none⟩) (World.block_lt_of_cell? w _ h)).trans h
/-- The cutter whose numbers those are. -/
theorem ctr_of {mn mx ma ba : Int} (h : okI mn mx ma ba) (ha : ma < 4294967296) (hb : ba < 4294967296) : ∃ C : Ctr, C.Ok ∧ mn = C.mn ∧ mx = C.mx ∧ ma = C.ma.toNat ∧ ba = C.ba.toNat := by
  obtain ⟨h1, h2, h3, h4, h5⟩ := h
  have e1 : (BitVec.ofNat 32 ma.toNat).toNat = ma.toNat := by rw [BitVec.toNat_ofNat]; omega
  have e2 : (BitVec.ofNat 32 ba.toNat).toNat = ba.toNat := by rw [BitVec.toNat_ofNat]; omega
  refine ⟨⟨mn.toNat, mx.toNat, BitVec.ofNat 32 ma.toNat, BitVec.ofNat 32 ba.toNat⟩, ⟨?_, ?_, ?_, ?_, ?_⟩, ?_, ?_, ?_, ?_⟩ <;> simp only [e1, e2] <;> omega
/-- Both Cuts, whatever the cutter. -/
theorem cut_both (mn mx ma ba : Int) (ha : ma < 4294967296) (hb : ba < 4294967296) (A : Option Addr) (l : List UInt8) (n c : Nat) (hl : l.length = n) (hc : n ≤ c) (hm : c ≤ 9223372036854775807) :
    ∃ x : Nat, (∀ w, Rd w w.heap.size A l → Calls Try.prog 13 #[ctr mn mx ma ba, .slice A n c] w fun e w' => e = .returned (.int .i64 x) ∧ Below w.heap.size w w') ∧
      (∀ w, Rd w w.heap.size A l → Calls Try.prog 15 #[ctr mn mx ma ba, .slice A n c] w fun e w' => e = .returned (.int .i64 x) ∧ Below w.heap.size w w') := by
  by_cases h : okI mn mx ma ba
  · obtain ⟨C, K, rfl, rfl, rfl, rfl⟩ := ctr_of h ha hb
    exact ⟨cutB C l, fun w hr => cut_ok C K A l n c hl hc hm w hr, fun w hr => refcut_ok C K A l n c hl hc w hr⟩
  · exact ⟨0, fun w _ => cut_bad mn mx ma ba h A n c w, fun w _ => refcut_bad mn mx ma ba h A n c w⟩
/-- Both Alls, whatever the cutter: a row of slices that reads as the chunks. -/
structure Told (w w' : World) (ls : List (List UInt8)) (A : Option Addr) (k c : Nat) : Prop where
  rows : ∃ ps, Parts w' w'.heap.size A ps ∧ psb ps = ls
  len : ls.length = k
  le : k ≤ c
  max : c ≤ maxLen
  bel : Below w.heap.size w w' 
theorem told_nil {w w' : World} (h : Below w.heap.size w w') : Told w w' [] none 0 0 := ⟨⟨[], Parts.nil _ _ _, rfl⟩, rfl, Nat.le_refl _, by simp [maxLen], h⟩
theorem all_told (C : Ctr) (K : C.Ok) (A : Option Addr) (l : List UInt8) (n c : Nat) (hl : l.length = n) (hn : n ≤ 1000000000) (hc : n ≤ c) (hm : c ≤ 9223372036854775807) (w : World) (hr : Rd w w.heap.size A l) :
    Calls Try.prog 17 #[ctr C.mn C.mx C.ma.toNat C.ba.toNat, .slice A n c] w fun e w' => ∃ A' c', e = .returned (.slice A' (allC C l).length c') ∧ Told w w' (allC C l) A' (allC C l).length c' :=
  (all_ok C K A l n c hl hn hc hm w hr).mono fun e w' ⟨V, he, ⟨ps, hch, hps⟩, hb⟩ => by
    obtain ⟨A', c', rfl, h1, h2⟩ := hch.form
    have hlen : ps.length = (allC C l).length := by rw [← hps]; simp [psb]
    rw [hlen] at he h1 hch
    exact ⟨A', c', he, ⟨ps, hch.parts hlen, hps⟩, rfl, h1, h2, hb⟩
theorem refall_told (C : Ctr) (K : C.Ok) (A : Option Addr) (l : List UInt8) (n c : Nat) (hl : l.length = n) (hn : n ≤ 1000000000) (hc : n ≤ c) (hm : c ≤ 9223372036854775807) (w : World) (hr : Rd w w.heap.size A l) :
    Calls Try.prog 18 #[ctr C.mn C.mx C.ma.toNat C.ba.toNat, .slice A n c] w fun e w' => ∃ A' c', e = .returned (.slice A' (allC C l).length c') ∧ Told w w' (allC C l) A' (allC C l).length c' :=
  (refall_ok C K A l n c hl hn hc hm w hr).mono fun e w' ⟨V, he, ⟨ps, hch, hps⟩, hb⟩ => by
    obtain ⟨A', c', rfl, h1, h2⟩ := hch.form
    have hlen : ps.length = (allC C l).length := by rw [← hps]; simp [psb]
    rw [hlen] at he h1 hch
    exact ⟨A', c', he, ⟨ps, hch.parts hlen (Nat.le_refl _), hps⟩, rfl, h1, h2, hb⟩
theorem all_both (mn mx ma ba : Int) (ha : ma < 4294967296) (hb : ba < 4294967296) (A : Option Addr) (l : List UInt8) (n c : Nat) (hl : l.length = n) (hn : n ≤ 1000000000) (hc : n ≤ c) (hm : c ≤ 9223372036854775807) :
    ∃ ls k, (∀ w, Rd w w.heap.size A l → Calls Try.prog 17 #[ctr mn mx ma ba, .slice A n c] w fun e w' => ∃ A' c', e = .returned (.slice A' k c') ∧ Told w w' ls A' k c') ∧
      (∀ w, Rd w w.heap.size A l → Calls Try.prog 18 #[ctr mn mx ma ba, .slice A n c] w fun e w' => ∃ A' c', e = .returned (.slice A' k c') ∧ Told w w' ls A' k c') := by
  by_cases h : okI mn mx ma ba
  · obtain ⟨C, K, rfl, rfl, rfl, rfl⟩ := ctr_of h ha hb
    exact ⟨allC C l, _, fun w hr => all_told C K A l n c hl hn hc hm w hr, fun w hr => refall_told C K A l n c hl hn hc hm w hr⟩
  · exact ⟨[], 0, fun w _ => (all_bad mn mx ma ba h A n c w).mono fun _ _ ⟨he, hb⟩ => ⟨none, 0, he, told_nil hb⟩, fun w _ => (refall_bad mn mx ma ba h A n c w).mono fun _ _ ⟨he, hb⟩ => ⟨none, 0, he, told_nil hb⟩⟩
theorem same_told (A1 A2 : Option Addr) (k c1 c2 : Nat) (ls : List (List UInt8)) (hm : k ≤ 9223372036854775807) (w : World) (hl : ls.length = k) (h1 : ∃ ps, Parts w w.heap.size A1 ps ∧ psb ps = ls) (h2 : ∃ ps, Parts w w.heap.size A2 ps ∧ psb ps = ls) :
    Calls Try.prog 16 #[.slice A1 k c1, .slice A2 k c2] w fun e w' => e = .returned (.bool true) ∧ Below w.heap.size w w' := by
  obtain ⟨ps1, p1, e1⟩ := h1
  obtain ⟨ps2, p2, e2⟩ := h2
  exact (same_true A1 A2 k c1 c2 ps1 ps2 (by rw [← hl, ← e1]; simp [psb]) hm (e1.trans e2.symm) w p1 p2).mono fun _ _ ⟨he, q, hq⟩ => ⟨he, hq ▸ below_drewN (Below.refl _ _) q⟩
theorem Told.on {w w' w'' : World} {ls : List (List UInt8)} {A : Option Addr} {k c : Nat} (h : Told w w' ls A k c) (hb : Below w'.heap.size w' w'') : ∃ ps, Parts w'' w''.heap.size A ps ∧ psb ps = ls := by
  obtain ⟨ps, hp, he⟩ := h.rows
  exact ⟨ps, hp.on hb, he⟩
theorem ctr_fields : ∃ f0 f1 f2 f3 : Field, Try.prog.underlying 24 = some (.struct #[f0, f1, f2, f3]) ∧ f0.type = 3 ∧ f1.type = 3 ∧ f2.type = 22 ∧ f3.type = 22 ∧ oneCellFields Try.prog #[f0, f1, f2, f3] = true ∧ Try.prog.cellsOf 24 = 4 := by
  refine ⟨_, _, _, _, Try.underlying24, ?_, ?_, ?_, ?_, ?_, ?_⟩ <;> kernel_rfl
/-- A cutter that came in. -/
theorem open_ctr {H : Type} {enc : TypeId × Value → H} {w : World} {base : Nat} {sp : Nat → Bool} {held : Bool} {v : Value} {r : Reach} {b0 : Nat} {d : DataW H} {p : List MemPlace}
    (hv : Value.okWide Try.prog w r b0 24 v) (h : DataW.Trod enc Try.prog w base sp held 24 v d p) :
    ∃ mn mx ma ba : Int, v = ctr mn mx ma ba ∧ ma < 4294967296 ∧ ba < 4294967296 := by
  obtain ⟨f0, f1, f2, f3, hs, e0, e1, e2, e3, hone, hC⟩ := ctr_fields
  obtain ⟨v0, v1, v2, v3, y0, y1, y2, y3, n, rfl, _, _, t0, t1, t2, t3⟩ := open_agg4 hs hone hC hv h
  rw [e0] at t0
  rw [e1] at t1
  rw [e2] at t2
  rw [e3] at t3
  obtain ⟨a0, c0, _, w0⟩ := DataW.trod_int Try.underlying3 t0
  obtain ⟨a1, c1, _, w1⟩ := DataW.trod_int Try.underlying3 t1
  obtain ⟨a2, c2, _, w2⟩ := DataW.trod_int Try.underlying22 t2
  obtain ⟨a3, c3, _, w3⟩ := DataW.trod_int Try.underlying22 t3
  injection c0 with c0
  injection c1 with c1
  injection c2 with c2
  injection c3 with c3
  subst c0 c1 c2 c3
  have b2 := bounds_u32 w2
  have b3 := bounds_u32 w3
  exact ⟨a0, a1, a2, a3, rfl, by omega, by omega⟩
end Go.Proofs.Ytmnbfmcgnddlaaa
