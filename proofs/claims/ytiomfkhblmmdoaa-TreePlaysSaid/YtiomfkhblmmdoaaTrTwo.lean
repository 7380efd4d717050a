/- What package tree does, as a hypothesis: the statements of stage 18 are told from it. No statement of the seat is proved here. -/
import Derived.Test.YtiomfkhblmmdoaaTrRefD
import Derived.Test.YtiomfkhblmmdoaaTrSame
import Derived.Test.YtiomfkhblmmdoaaTrFew
namespace Go.Proofs.Ytiomfkhblmmdoaa
open Go.RowKit
set_option linter.unusedVariables false
set_option linter.unusedSimpArgs false
set_option maxRecDepth 100000

/-- Package tree: St w v L h: the map v has the pairs L and the height h; Nu w u v: u came of v by one step. -/
structure TreesOk (St : World → Value → List PT → Nat → Prop) (Nu : World → Value → Value → Prop) : Prop where
  nil : ∀ w, St w (.pointer none) [] 0
  ord : ∀ {w v L h}, St w v L h → OrdL L
  low : ∀ {w v L h}, St w v L h → 2 ^ h ≤ (L.length + 1) * (L.length + 1) ∧ (0 < L.length ↔ 0 < h)
  keep : ∀ {w w' v L h}, St w v L h → Below w.heap.size w w' → St w' v L h
  rows : ∀ {w w' v L h g e cs}, (e = 30 ∨ e = 27) → St w v L h → Blk w g e cs → w.grownBy w' (some g) → St w' v L h
  nuKeep : ∀ {w w' u v}, Nu w u v → Below w.heap.size w w' → Nu w' u v
  get : ∀ v L h k w, St w v L h → L.length ≤ 1000 → k.length ≤ maxLen → Calls Try.prog 15 #[v, .string (st k)] w fun e w' => e = .returned (.tuple #[.string (st (getE L k).1), .bool (getE L k).2]) ∧ Below w.heap.size w w'
  put : ∀ v L h k x w, St w v L h → L.length ≤ 1000 → k.length ≤ maxLen → x.length ≤ maxLen → Calls Try.prog 13 #[v, .string (st k), .string (st x)] w fun e w' => ∃ v' h', e = .returned v' ∧ St w' v' (putL L k x) h' ∧ Nu w' v' v ∧ Below w.heap.size w w'
  drop : ∀ v L h k w, St w v L h → L.length ≤ 1000 → k.length ≤ maxLen → Calls Try.prog 11 #[v, .string (st k)] w fun e w' => ∃ v' h', e = .returned (.tuple #[v', .bool (isL L k)]) ∧ St w' v' (dropL L k) h' ∧ Nu w' v' v ∧ Below w.heap.size w w'
  pairs : ∀ v L h k n w, St w v L h → L.length ≤ 1000 → k.length ≤ maxLen → -9223372036854775808 ≤ n → n ≤ 9223372036854775807 → Calls Try.prog 19 #[v, .string (st k), .int .i64 n] w fun e w' => ∃ A c, e = .returned (.slice A (fromL L k n).length c) ∧ RdP w' w'.heap.size A (fromL L k n) ∧ OwnG 30 2 pcs w' w.heap.size A c (fromL L k n) ∧ (fromL L k n).length ≤ c ∧ c ≤ maxLen ∧ Below w.heap.size w w'
  len : ∀ v L h w, St w v L h → L.length ≤ 1000 → Calls Try.prog 17 #[v] w fun e w' => e = .returned (.int .i64 L.length) ∧ Below w.heap.size w w'
  height : ∀ v L h w, St w v L h → L.length ≤ 1000 → Calls Try.prog 23 #[v] w fun e w' => e = .returned (.int .i64 h) ∧ Below w.heap.size w w'
  fresh : ∀ u v L M h m w, St w u L h → St w v M m → L.length ≤ 1000 → M.length ≤ 1000 → Nu w u v → Calls Try.prog 24 #[u, v] w fun e w' => ∃ f : Int, e = .returned (.int .i64 f) ∧ 0 ≤ f ∧ f ≤ 3 * ((m : Int) + 2) ∧ Below w.heap.size w w'
  fresh0 : ∀ u L h w, St w u L h → L.length ≤ 1000 → Calls Try.prog 24 #[u, u] w fun e w' => e = .returned (.int .i64 0) ∧ Below w.heap.size w w'
section
variable {St : World → Value → List PT → Nat → Prop} {Nu : World → Value → Value → Prop}
theorem put_size (m : List PT) (k v : List UInt8) {n : Nat} (h : m.length ≤ n) : (putL m k v).length ≤ n + 1 := by
  have := (put_len m k v).1
  omega
/-- An act done: what comes of it. -/
def doL (m : List PT) (a : AT18) : List PT := if a.1 = true then dropL m a.2.1 else putL m a.2.1 a.2.2
theorem do_size (m : List PT) (a : AT18) {n : Nat} (h : m.length ≤ n) : (doL m a).length ≤ n + 1 := by
  unfold doL
  split
  · have := drop_len m a.2.1
    omega
  · exact put_size m _ _ h
theorem OrdL.done {m : List PT} (h : OrdL m) (a : AT18) : OrdL (doL m a) := by
  unfold doL
  split
  · exact h.drop
  · exact h.put
set_option maxHeartbeats 4000000 in
theorem does_any (K : TreesOk St Nu) (v : Value) (L : List PT) (h : Nat) (a : AT18) (w : World) (hs : St w v L h) (hl : L.length ≤ 1000) (h1 : a.2.1.length ≤ maxLen) (h2 : a.2.2.length ≤ maxLen) :
    Calls Try.prog 21 #[v, .agg (acs18 a).toArray] w fun e w' => ∃ v' h', e = .returned v' ∧ St w' v' (doL L a) h' ∧ Nu w' v' v ∧ Below w.heap.size w w' := by
  obtain ⟨g, k, x⟩ := a
  have hb1 : Below w.heap.size w (w.alloc (.cells (acs18 (g, (k, x))).toArray 32)) := (Below.refl _ _).alloc (Nat.le_refl _) _
  have hs1 := K.keep hs hb1
  cases g with
  | true =>
    rw [show (acs18 (true, (k, x))).toArray = #[.bool true, .string (st k), .string (st x)] from rfl] at hb1 hs1 ⊢
    have C := Lib.hid (K.drop v L h k _ hs1 hl h1)
    have HB1 := Lib.hid hb1
    have HD := Lib.hid (show doL L (true, (k, x)) = dropL L k from rfl)
    rw [HD.out]
    clear hs hs1 hb1
    go_enter Try.func21, Try.ntmps21
    go_wp2_with fail
    refine C.out.mono ?_
    rintro e w1 ⟨v', h', rfl, q1, q2, q3⟩
    have HQ := Lib.hid (And.intro q1 (And.intro q2 (HB1.out.trans (q3.mono HB1.out.size))))
    clear q1 q2 q3
    go_wp2_with fail
    go_ret
    exact ⟨v', h', rfl, HQ.out.1, HQ.out.2.1, HQ.out.2.2⟩
  | false =>
    rw [show (acs18 (false, (k, x))).toArray = #[.bool false, .string (st k), .string (st x)] from rfl] at hb1 hs1 ⊢
    have C := Lib.hid (K.put v L h k x _ hs1 hl h1 h2)
    have HB1 := Lib.hid hb1
    have HD := Lib.hid (show doL L (false, (k, x)) = putL L k x from rfl)
    rw [HD.out]
    clear hs hs1 hb1
    go_enter Try.func21, Try.ntmps21
    go_wp2_with fail
    refine C.out.mono ?_
    rintro e w1 ⟨v', h', rfl, q1, q2, q3⟩
    have HQ := Lib.hid (And.intro q1 (And.intro q2 (HB1.out.trans (q3.mono HB1.out.size))))
    clear q1 q2 q3
    go_wp2_with fail
    go_ret
    exact ⟨v', h', rfl, HQ.out.1, HQ.out.2.1, HQ.out.2.2⟩
end
end Go.Proofs.Ytiomfkhblmmdoaa
