/- The reference's Take (cellarageref11): the state of its walk. No statement of the seat is proved here. -/
import Derived.Test.YtoiiiccichkgpaaCtBuild
import Derived.Test.YtoiiiccichkgpaaCtRefE
import Derived.Test.YtoiiiccichkgpaaCtMA
import Derived.Test.YtoiiiccichkgpaaCtRefD
import Derived.OwnWalk
namespace Go.Proofs.Ytoiiiccichkgpaa
open Go.RowKit
set_option linter.unusedVariables false
set_option linter.unusedSimpArgs false

/-- A slice of numbers of the call's own. -/
abbrev OwnN (w : World) (B : Nat) (A : Option Addr) (c n : Nat) (l : List Nat) : Prop := w.ownsRow B 3 1 (.slice A n c) n (l.map fun q => Value.int .i64 (q : Nat))
theorem own_types {w : World} {B1 B2 s1 s2 n1 n2 : Nat} {e1 e2 : TypeId} {v1 v2 : Value} {xs1 xs2 : List Value} (h1 : w.ownsRow B1 e1 s1 v1 n1 xs1) (h2 : w.ownsRow B2 e2 s2 v2 n2 xs2) (hne : e1 ≠ e2) : ∀ g, v1.ownBlock = some g → v2.ownBlock ≠ some g := fun g h3 h4 => by
  rcases h1.2 with ⟨rfl, _⟩ | ⟨k, cap, cur, rfl, _, hh, _⟩
  · cases h3
  · rcases h2.2 with ⟨rfl, _⟩ | ⟨k2, cap2, cur2, rfl, _, hh2, _⟩
    · cases h4
    · have e1 : k = g := by simpa [Value.ownBlock] using h3
      have e2 : k2 = g := by simpa [Value.ownBlock] using h4
      subst e1 e2
      rw [hh] at hh2
      injection hh2 with hh2
      injection hh2 with _ hh2 _
      exact hne hh2
/-- The state of the walk: the reader at g (its bytes x, its place i, its fault f), the pieces, their sizes. -/
structure TC (w0 w : World) (g : Nat) (A : Option Addr) (c : Nat) (x : List UInt8) (i : Nat) (f : Int) (P : Option Addr) (pc np : Nat) (ls : List PieceT) (S : Option Addr) (sc ns : Nat) (szs : List Nat) : Prop where
  rf : Ref w g A c x i f
  own : OwnP w (g + 1) P pc np ls
  siz : OwnN w (g + 1) S sc ns szs
  bel : Below w0.heap.size w0 w
  lg : w0.heap.size ≤ g
section
variable {w0 w w' : World} {g c i pc np sc ns : Nat} {A P S : Option Addr} {x : List UInt8} {f : Int} {ls : List PieceT} {szs : List Nat}
theorem TC.on (h : TC w0 w g A c x i f P pc np ls S sc ns szs) (hb : Below w.heap.size w w') : TC w0 w' g A c x i f P pc np ls S sc ns szs :=
  ⟨h.rf.below hb, ownsRow_below h.own hb, ownsRow_below h.siz hb, h.bel.trans (hb.mono h.bel.size), h.lg⟩
theorem TC.get (h : TC w0 w g A c x i f P pc np ls S sc ns szs) {i' : Nat} {f' : Int} (hg : w.grownBy w' (some g)) (hr : Ref w' g A c x i' f') : TC w0 w' g A c x i' f' P pc np ls S sc ns szs :=
  ⟨hr, ownsRow_grown h.own hg fun k e e2 => by injection e with e; have := (h.own.lt k e2).1; omega, ownsRow_grown h.siz hg fun k e e2 => by injection e with e; have := (h.siz.lt k e2).1; omega, h.bel.grown hg h.bel.size fun k hk => by injection hk with hk; have := h.lg; omega, h.lg⟩
theorem TC.other (h : TC w0 w g A c x i f P pc np ls S sc ns szs) {d : Nat} (hg : w.grownBy w' (some d)) (hd : g < d) (hp : (Value.slice P np pc).ownBlock ≠ some d) (hs : (Value.slice S ns sc).ownBlock ≠ some d) : TC w0 w' g A c x i f P pc np ls S sc ns szs :=
  ⟨h.rf.gby hg fun k e => by injection e with e; omega, ownsRow_grown h.own hg fun k e => by injection e with e; rw [← e]; exact hp, ownsRow_grown h.siz hg fun k e => by injection e with e; rw [← e]; exact hs, h.bel.grown hg h.bel.size fun k hk => by injection hk with hk; have := h.lg; omega, h.lg⟩
theorem TC.push (h : TC w0 w g A c x i f P pc np ls S sc ns szs) {P' : Option Addr} {pc' np' : Nat} {ls' : List PieceT} (hg : w.grownBy w' (Value.slice P np pc).ownBlock) (ho : OwnP w' (g + 1) P' pc' np' ls') : TC w0 w' g A c x i f P' pc' np' ls' S sc ns szs :=
  ⟨h.rf.gby hg fun k e => (h.own.lt k e).1, ho, ownsRow_grown h.siz hg fun k e => own_types h.own h.siz (by decide) k e, h.bel.grown hg h.bel.size fun k hk => by have := (h.own.lt k hk).1; have := h.lg; omega, h.lg⟩
theorem TC.size (h : TC w0 w g A c x i f P pc np ls S sc ns szs) {S' : Option Addr} {sc' ns' : Nat} {szs' : List Nat} (hg : w.grownBy w' (Value.slice S ns sc).ownBlock) (ho : OwnN w' (g + 1) S' sc' ns' szs') : TC w0 w' g A c x i f P pc np ls S' sc' ns' szs' :=
  ⟨h.rf.gby hg fun k e => (h.siz.lt k e).1, ownsRow_grown h.own hg fun k e => own_types h.siz h.own (by decide) k e, ho, h.bel.grown hg h.bel.size fun k hk => by have := (h.siz.lt k hk).1; have := h.lg; omega, h.lg⟩
end
/-- What the first loop has read, behind j rows. -/
structure Bare (x : List UInt8) (ls : List PieceT) (szs : List Nat) (j i : Nat) (f : Int) : Prop where
  nl : ls.length = j
  ns : szs.length = j
  bare : ∀ q ∈ ls, q.p.Ok ∧ q.p.data = [] ∧ q.adr = none ∧ q.cap = 0
  moved : Moved x 0 0 (6 + 38 * j) i f
  rows : f = 0 → List.zipWith (fun q m => (q.p.key, m)) ls szs = rowsOf j (x.drop 6)
  small : ∀ m ∈ szs, m < 65536
theorem Bare.fits {x : List UInt8} {ls : List PieceT} {szs : List Nat} {j i : Nat} {f : Int} (h : Bare x ls szs j i f) (hf : f = 0) : 6 + 38 * j ≤ x.length ∧ i = 6 + 38 * j := by
  by_cases hc : (0 : Int) = 0 ∧ 0 + (6 + 38 * j) ≤ x.length
  · have := (h.moved.1 hc).1
    exact ⟨by omega, by omega⟩
  · exact absurd hf (h.moved.2 hc)
/-- One row more. -/
theorem Bare.next {x : List UInt8} {ls : List PieceT} {szs : List Nat} {j i : Nat} (h : Bare x ls szs j i 0) {s : List UInt8} {V m i1 i2 i3 : Nat} {f1 f2 f3 : Int} (hs : s.length = 32) (hV : V < 4294967296) (hm : m < 65536)
    (m1 : Moved x i 0 32 i1 f1) (e1 : ((0 : Int) = 0 ∧ i + 32 ≤ x.length) → s = (x.drop i).take 32) (m2 : Moved x i1 f1 4 i2 f2) (e2 : (f1 = 0 ∧ i1 + 4 ≤ x.length) → V = val ((x.drop i1).take 4)) (m3 : Moved x i2 f2 2 i3 f3) (e3 : (f2 = 0 ∧ i2 + 2 ≤ x.length) → m = val ((x.drop i2).take 2)) :
    Bare x (ls ++ [PieceT.bare (s, V)]) (szs ++ [m]) (j + 1) i3 f3 := by
  have hmv : Moved x 0 0 (6 + 38 * (j + 1)) i3 f3 := by
    have := ((h.moved.trans m1).trans m2).trans m3
    rwa [show 6 + 38 * j + 32 + 4 + 2 = 6 + 38 * (j + 1) by omega] at this
  refine ⟨by rw [List.length_append, h.nl]; rfl, by rw [List.length_append, h.ns]; rfl, fun q hq => ?_, hmv, fun hf => ?_, fun q hq => ?_⟩
  · rcases List.mem_append.1 hq with hq | hq
    · exact h.bare q hq
    · rw [List.mem_singleton.1 hq]
      exact ⟨⟨hs, hV⟩, rfl, rfl, rfl⟩
  · obtain ⟨hx, hi⟩ := h.fits rfl
    have hfit : 6 + 38 * (j + 1) ≤ x.length := Nat.le_of_not_lt fun hc => hmv.2 (by omega) hf
    obtain ⟨a1, a2⟩ := m1.1 ⟨rfl, by omega⟩
    obtain ⟨b1, b2⟩ := m2.1 ⟨a2, by omega⟩
    rw [List.zipWith_append (by rw [h.nl, h.ns]), h.rows rfl, rowsOf_succ]
    congr 1
    have d1 : (x.drop 6).drop (38 * j) = x.drop i := by rw [List.drop_drop, hi]
    show [((s, V), m)] = [rowAt ((x.drop 6).drop (38 * j))]
    rw [d1, rowAt, List.drop_drop, List.drop_drop, e1 ⟨rfl, by omega⟩, e2 ⟨a2, by omega⟩, e3 ⟨b2, by omega⟩, b1, a1]
  · rcases List.mem_append.1 hq with hq | hq
    · exact h.small q hq
    · rw [List.mem_singleton.1 hq]; exact hm
end Go.Proofs.Ytoiiiccichkgpaa
/- The reference's Take (cellarageref11): bytes that are not sealed. No statement of the seat is proved here. -/
namespace Go.Proofs.Ytoiiiccichkgpaa
open Go.RowKit
set_option linter.unusedVariables false
set_option linter.unusedSimpArgs false

theorem lay_take (id : Nat) (l : List PcD) : (layC id l).take ((layC id l).length - 4) = bodyC id l := by
  unfold layC
  rw [List.length_append, be_length, Nat.add_sub_cancel, List.take_left' rfl]
theorem lay_seal (id : Nat) (l : List PcD) : layC id l = sealB (bodyC id l) := rfl
theorem lay_ge (id : Nat) (l : List PcD) : 10 ≤ (layC id l).length := by
  unfold layC bodyC
  simp only [List.length_append, be_length]
  omega
theorem take_short {b : List UInt8} (h : b.length < 4) : takeC b = (0, [], 110) := by
  unfold takeC
  rw [if_neg]
  rintro ⟨_, h2⟩
  have := lay_ge (idC (b.take (b.length - 4))) (listC (b.take (b.length - 4)))
  rw [h2] at this
  omega
theorem take_unsealed {b : List UInt8} {n : Nat} (hl : b.length = n + 4) (h : ¬ b = sealB (b.take n)) : takeC b = (0, [], 110) := by
  unfold takeC
  rw [if_neg]
  rintro ⟨_, h2⟩
  refine h ?_
  have h3 := lay_take (idC (b.take (b.length - 4))) (listC (b.take (b.length - 4)))
  rw [h2, hl, Nat.add_sub_cancel] at h3
  conv => lhs; rw [← h2]
  rw [lay_seal, hl, Nat.add_sub_cancel, ← h3]
/-- What Take hands back: no container; the container of those bytes, its pieces' bytes within them. -/
def RTook (w : World) (b : List UInt8) (e : Ending) (w' : World) : Prop :=
  (takeC b = (0, [], 110) → e = .returned (.tuple #[.int .u32 0, .slice none 0 0, .int .i64 110])) ∧
  (∀ id l, takeC b = (id, l, 0) → ∃ A' c' ls, pds ls = l ∧ e = .returned (.tuple #[.int .u32 id, .slice A' l.length c', .int .i64 0]) ∧ RdPc w' w'.heap.size A' ls) ∧ Below w.heap.size w w'
theorem RTook.no {w w' : World} {b : List UInt8} (h : takeC b = (0, [], 110)) (hb : Below w.heap.size w w') : RTook w b (.returned (.tuple #[.int .u32 0, .slice none 0 0, .int .i64 110])) w' :=
  ⟨fun _ => rfl, fun id l h2 => (by rw [h] at h2; injection h2 with _ h2; injection h2 with _ h2; cases h2), hb⟩
set_option maxRecDepth 100000 in
set_option maxHeartbeats 1000000 in
theorem rtake_no (A : Option Addr) (k c : Nat) (b : List UInt8) (w : World) (ht : takeC b = (0, [], 110)) (ho : Calls Try.prog 31 #[.slice A k c] w fun e w' => e = .returned (.tuple #[.slice none 0 0, .bool false]) ∧ Below w.heap.size w w') :
    Calls Try.prog 16 #[.slice A k c] w (RTook w b) := by
  have HT := Lib.hid ht
  have HO := Lib.hid ho
  clear ht ho
  go_enter Try.func16, Try.ntmps16
  go_wp2_with (go_at_call 31; refine HO.out.mono ?_; rintro e w' ⟨rfl, hb⟩)
  go_ret3
  exact RTook.no HT.out hb
/-- The reader's bytes are the container's but the last four; the pieces are not read yet. -/
theorem rtake_start {w0 w : World} {g c : Nat} {A : Option Addr} {x : List UInt8} (hb : Below w0.heap.size w0 w) (hB : Blk w g 65 #[.slice A x.length c, .int .i64 0, .int .i64 0]) (hg : w0.heap.size ≤ g) (hx : x.length ≤ 140737488351232) (hc : x.length ≤ c) (hr : Rd w g A x) :
    TC w0 w g A c x 0 0 none 0 0 [] none 0 0 [] :=
  ⟨⟨hB, Nat.zero_le _, hx, hc, hr⟩, World.ownsRow_nil _ _ _ _, World.ownsRow_nil _ _ _ _, hb, hg⟩
end Go.Proofs.Ytoiiiccichkgpaa
