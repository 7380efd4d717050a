/- The reference's finder (cellarageref15): New. No statement of the seat is proved here. -/
import Derived.Test.YtoofhaoaogoomaaGreatFdRefD
import Derived.Test.YtoofhaoaogoomaaGreatZLAO
import Derived.Test.YtoofhaoaogoomaaGreatZLAD
import Derived.Test.YtoofhaoaogoomaaGreatZLAB
namespace Go.Proofs.YtoofhaoaogoomaaGreat
open Go.RowKit
set_option linter.unusedVariables false
set_option linter.unusedSimpArgs false
set_option maxRecDepth 100000

set_option maxHeartbeats 4000000 in
theorem rfnew_any (n p room : Nat) (w : World) (hn : n ≤ 1048576) (hp : p ≤ 30) (hr : room ≤ 4096) :
    Calls Tryz.prog 6 #[.int .i64 n, .int .i64 p, .int .i64 room] w fun e w' => ∃ s F, e = .returned (.tuple #[.pointer (some s), .int .i64 0]) ∧ Rfd w' s F (newF n p room) ∧ (∀ g, F g → w.heap.size ≤ g) ∧ Below w.heap.size w w' := by
  have KN := Lib.hid (refnew_ok n p hn hp w)
  have hr1 : (0 : Int) ≤ (room : Int) := by omega
  have hr2 : (room : Int) ≤ 4096 := by omega
  have HR := Lib.hid hr
  clear hr
  go_enter Tryz.func6, Tryz.ntmps6
  go_upto_region 4 with (go_at_call 30; (with_reducible refine KN.out.mono ?_); rintro e w1 ⟨r, g, rfl, h1, h2, h3, h4⟩; have H1 := Lib.hid (And.intro h1 (And.intro h2 (And.intro h3 h4))); clear h1 h2 h3 h4)
  obtain ⟨w2, hw2⟩ : ∃ w2, w1.alloc (.cells #[.slice none 0 0, .int .i64 (room : Nat)] 84) = w2 := ⟨_, rfl⟩
  obtain ⟨cb, hcb⟩ : ∃ cb, w1.heap.size = cb := ⟨_, rfl⟩
  obtain ⟨w3, hw3⟩ : ∃ w3, w2.alloc (.cells #[.slice none 0 0] 63) = w3 := ⟨_, rfl⟩
  obtain ⟨xb, hxb⟩ : ∃ xb, w2.heap.size = xb := ⟨_, rfl⟩
  obtain ⟨w4, hw4⟩ : ∃ w4, w3.alloc (.cells #[.pointer (some ⟨r, 0, none⟩), .pointer (some ⟨cb, 0, none⟩), .pointer (some ⟨xb, 0, none⟩), .int .i64 0, .int .i64 0] 56) = w4 := ⟨_, rfl⟩
  obtain ⟨d, hd⟩ : ∃ d, w3.heap.size = d := ⟨_, rfl⟩
  have s2 : cb + 1 = xb := by rw [← hcb, ← hxb, ← hw2]; simp
  have s3 : cb + 2 = d := by rw [← hd, ← hw3]; simp; omega
  have HW := Lib.hid (And.intro (And.intro hw2 hcb) (And.intro (And.intro hw3 hxb) (And.intro (And.intro hw4 hd) (And.intro s2 s3))))
  clear hw2 hcb hw3 hxb hw4 hd s2 s3
  go_wp2_with fail
  all_goals first
    | (exfalso; omega)
    | skip
  (try simp only [Exit.inBlock, Exit.then])
  refine bodyPost_ret (results_tmp2 rfl _ _ _) rfl ?_
  obtain ⟨⟨hw2, hcb⟩, ⟨hw3, hxb⟩, ⟨hw4, hd⟩, s2, s3⟩ := HW.out
  obtain ⟨h1, h2, h3, h4⟩ := H1.out
  have b2 : Below w1.heap.size w1 w2 := hw2 ▸ (Below.refl _ _).alloc (Nat.le_refl _) _
  have b3 : Below w2.heap.size w2 w3 := hw3 ▸ (Below.refl _ _).alloc (Nat.le_refl _) _
  have b4 : Below w3.heap.size w3 w4 := hw4 ▸ (Below.refl _ _).alloc (Nat.le_refl _) _
  have b14 := b2.trans ((b3.trans (b4.mono b3.size)).mono b2.size)
  have kc : Blk w2 cb 84 #[.slice none 0 0, .int .i64 (room : Nat)] := by rw [← hw2, ← hcb]; exact Blk.new w1 _ _
  have kx : Blk w3 xb 63 #[.slice none 0 0] := by rw [← hw3, ← hxb]; exact Blk.new w2 _ _
  have kd : Blk w4 d 56 #[.pointer (some ⟨r, 0, none⟩), .pointer (some ⟨cb, 0, none⟩), .pointer (some ⟨xb, 0, none⟩), .int .i64 0, .int .i64 0] := by rw [← hw4, ← hd]; exact Blk.new w3 _ _
  have kc4 := (kc.below b3 kc.lt).below b4 (Nat.lt_of_lt_of_le kc.lt b3.size)
  have kx4 := kx.below b4 kx.lt
  have hr4 := h3.on b14
  have hrl : r < cb := by rw [← hcb]; exact h3.rb.lt
  have hgl : g < cb := by rw [← hcb]; exact h3.gb.lt
  have hsz : w.heap.size ≤ cb := by rw [← hcb]; exact h4.size
  have hdl := kd.lt
  have ew : ((w1.alloc (.cells #[.slice none 0 0, .int .i64 (room : Nat)] 84)).alloc (.cells #[.slice none 0 0] 63)).alloc (.cells #[.pointer (some ⟨r, 0, none⟩), .pointer (some ⟨w1.heap.size, 0, none⟩), .pointer (some ⟨w1.heap.size + 1, 0, none⟩), .int .i64 0, .int .i64 0] 56) = w4 := by
    rw [hw2, hw3, hcb, s2]; exact hw4
  rw [ew]
  refine ⟨⟨d, 0, none⟩, fun x => x = d ∨ (x = r ∨ x = g) ∨ x = cb ∨ x = xb, ?_, ⟨d, ⟨r, 0, none⟩, ⟨cb, 0, none⟩, ⟨xb, 0, none⟩, rfl, kd, fun x => x = r ∨ x = g, fun x => x = cb, fun x => x = xb, ?_, ?_, ?_, ?_, ?_⟩, ?_, ?_⟩
  · rw [← s3, ← hcb]; rfl
  · exact ⟨by rintro x (rfl | rfl) <;> omega, by rintro x (rfl | rfl) <;> omega, by rintro x rfl <;> omega, by rintro (h | h) <;> omega, by intro h; omega, by intro h; omega, .inl rfl, fun x hx => .inr (.inl hx), fun x hx => .inr (.inr (.inl hx)), fun x hx => .inr (.inr (.inr hx))⟩
  · exact ⟨r, g, rfl, hr4, .inl rfl, .inr rfl, by rintro x (rfl | rfl) <;> omega⟩
  · exact ⟨cb, none, 0, [], rfl, ⟨kc4, OwnG.nil _ _, by simp, CS.Ok.new HR.out⟩, rfl, rfl, fun ad e => (by cases e), by simp, by rintro x rfl; exact kc4.lt⟩
  · exact ⟨xb, none, 0, rfl, ⟨kx4, RdRw.nil _ _ _, Nat.le_refl _, by simp [maxLen], RowsOk.nil⟩, rfl, fun ad e => (by cases e), by rintro x rfl; exact kx4.lt⟩
  · rintro x (rfl | (rfl | rfl) | rfl | rfl) <;> omega
  · rintro x (rfl | (rfl | rfl) | rfl | rfl) <;> omega
  · exact h4.trans (b14.mono h4.size)
set_option maxHeartbeats 4000000 in
theorem rfnew_no (n p room : Int) (w : World) (hn : In64 n) (hp : In64 p) (hr : In64 room) (h : ¬ ((0 ≤ n ∧ n ≤ 1048576) ∧ (0 ≤ p ∧ p ≤ 30) ∧ (0 ≤ room ∧ room ≤ 4096))) :
    Calls Tryz.prog 6 #[.int .i64 n, .int .i64 p, .int .i64 room] w fun e w' => e = .returned (.tuple #[.pointer none, .int .i64 1]) ∧ Below w.heap.size w w' := by
  obtain ⟨r1, r2⟩ := hr
  by_cases hbad : n < 0 ∨ 1048576 < n ∨ p < 0 ∨ 30 < p
  · have KN := Lib.hid (refnew_bad n p hbad w)
    clear h hbad hn hp
    go_enter Tryz.func6, Tryz.ntmps6
    go_wp2_with (go_at_call 30; (with_reducible refine KN.out.mono ?_); rintro e w1 ⟨rfl, rfl⟩)
    (try simp only [Exit.inBlock, Exit.then])
    refine bodyPost_ret (results_tmp2 rfl _ _ _) rfl ?_
    exact ⟨rfl, Below.refl _ _⟩
  · obtain ⟨n, rfl⟩ : ∃ m : Nat, n = m := ⟨n.toNat, by omega⟩
    obtain ⟨p, rfl⟩ : ∃ m : Nat, p = m := ⟨p.toNat, by omega⟩
    have KN := Lib.hid (refnew_ok n p (by omega) (by omega) w)
    have hrb : room < 0 ∨ 4096 < room := by omega
    clear h hbad hn hp
    go_enter Tryz.func6, Tryz.ntmps6
    rcases hrb with hrb | hrb
    all_goals
      go_wp2_with (go_at_call 30; (with_reducible refine KN.out.mono ?_); rintro e w1 ⟨r, g, rfl, h1, h2, h3, h4⟩; have H4 := Lib.hid h4; clear h1 h2 h3 h4)
      all_goals first
        | (exfalso; omega)
        | ((try simp only [Exit.inBlock, Exit.then])
           refine bodyPost_ret (results_tmp2 rfl _ _ _) rfl ?_
           exact ⟨rfl, H4.out⟩)
end Go.Proofs.YtoofhaoaogoomaaGreat
/- What the package's finders do, as the statements' walks use it. No statement of the seat is proved here. -/
namespace Go.Proofs.YtoofhaoaogoomaaGreat
open Go.RowKit
set_option linter.unusedVariables false

/-- What the calls of the package do: Ft w s F f says that in w the finder at s, in the blocks F, is f. -/
structure FindersOk (Ft : World → Addr → (Nat → Prop) → FS → Prop) : Prop where
  lt : ∀ {w s F f}, Ft w s F f → ∀ g, F g → g < w.heap.size
  keep : ∀ {w w' : World} {s F f}, Ft w s F f → (∀ g, F g → w'.heap[g]? = w.heap[g]?) → Ft w' s F f
  ok : ∀ {w s F f}, Ft w s F f → f.Ok
  new : ∀ (n p r : Nat) w, n ≤ 1048576 → p ≤ 30 → r ≤ 4096 → Calls Tryz.prog 5 #[.int .i64 n, .int .i64 p, .int .i64 r] w fun e w' => ∃ s F, e = .returned (.tuple #[.pointer (some s), .int .i64 0]) ∧ Ft w' s F (newF n p r) ∧ (∀ g, F g → w.heap.size ≤ g) ∧ Below w.heap.size w w'
  newNo : ∀ (n p r : Int) w, In64 n → In64 p → In64 r → ¬ ((0 ≤ n ∧ n ≤ 1048576) ∧ (0 ≤ p ∧ p ≤ 30) ∧ (0 ≤ r ∧ r ≤ 4096)) → Calls Tryz.prog 5 #[.int .i64 n, .int .i64 p, .int .i64 r] w fun e w' => e = .returned (.tuple #[.pointer none, .int .i64 1]) ∧ Below w.heap.size w w'
  put : ∀ s F f k q w, Ft w s F f → f.L.length ≤ 900 → KeyT.Ok k → PlOk q → Calls Tryz.prog 8 #[.pointer (some s), kv k, pv q] w fun e w' => e = .returned (.tuple #[]) ∧ Turned Ft w s F w' (putF f k q)
  drop : ∀ s F f k w, Ft w s F f → f.L.length ≤ 900 → KeyT.Ok k → Calls Tryz.prog 10 #[.pointer (some s), kv k] w fun e w' => e = .returned (.bool (hasX f.L k)) ∧ Turned Ft w s F w' (dropF f k)
  find : ∀ s F f k (d : Nat) w, Ft w s F f → f.L.length ≤ 900 → f.asked ≤ 100000 → f.loads ≤ 100000 → KeyT.Ok k → d < 18446744073709551616 → Calls Tryz.prog 12 #[.pointer (some s), kv k, .int .u64 d] w fun e w' => e = .returned (.tuple #[pv (answerF f k).1, .bool (answerF f k).2]) ∧ Turned Ft w s F w' (nextF f k d)
  anew : ∀ s F f w, Ft w s F f → f.L.length ≤ 900 → Calls Tryz.prog 14 #[.pointer (some s)] w fun e w' => e = .returned (.tuple #[]) ∧ Turned Ft w s F w' (anewF f)
  blur : ∀ s F f A b n c w, Ft w s F f → b.length = n → n ≤ c → c ≤ maxLen → Rd w w.heap.size A b → (∀ ad, A = some ad → 0 < n → ¬ F ad.block) → Calls Tryz.prog 16 #[.pointer (some s), .slice A n c] w fun e w' => e = .returned (.tuple #[]) ∧ Turned Ft w s F w' (blurF f b)
  cost : ∀ s F f w, Ft w s F f → Calls Tryz.prog 18 #[.pointer (some s)] w fun e w' => e = .returned (.tuple #[.int .i64 (f.asked : Nat), .int .i64 (f.loads : Nat)]) ∧ Below w.heap.size w w'
  twins : ∀ s F f (d : List UInt8) w, Ft w s F f → f.L.length ≤ 900 → d.length = 32 → Calls Tryz.prog 23 #[.pointer (some s), .agg (bv d).toArray] w fun e w' => ∃ A c, e = .returned (.slice A (twinsX f.L d).length c) ∧ RdK w' w'.heap.size A (twinsX f.L d) ∧ (twinsX f.L d).length ≤ c ∧ c ≤ maxLen ∧ (∀ ad, A = some ad → w.heap.size ≤ ad.block) ∧ Below w.heap.size w w'
  shelf : ∀ s F f (at_ : Int) w, Ft w s F f → f.L.length ≤ 900 → In64 at_ → Calls Tryz.prog 25 #[.pointer (some s), .int .i64 at_] w fun e w' => ∃ A c, e = .returned (.slice A (shelfX f.L at_).length c) ∧ RdRw w' w'.heap.size A (shelfX f.L at_) ∧ (shelfX f.L at_).length ≤ c ∧ c ≤ maxLen ∧ (∀ ad, A = some ad → w.heap.size ≤ ad.block) ∧ Below w.heap.size w w'
  all : ∀ s F f w, Ft w s F f → f.L.length ≤ 900 → Calls Tryz.prog 20 #[.pointer (some s)] w fun e w' => ∃ A c, e = .returned (.slice A f.L.length c) ∧ RdRw w' w'.heap.size A f.L ∧ f.L.length ≤ c ∧ c ≤ maxLen ∧ (∀ ad, A = some ad → w.heap.size ≤ ad.block) ∧ Below w.heap.size w w'
  len : ∀ s F f w, Ft w s F f → f.L.length ≤ 900 → Calls Tryz.prog 21 #[.pointer (some s)] w fun e w' => e = .returned (.int .i64 (f.L.length : Nat)) ∧ Below w.heap.size w w'
/-- What they do on nil. -/
structure FinderNilOk : Prop where
  put : ∀ k q w, KeyT.Ok k → PlOk q → Calls Tryz.prog 8 #[.pointer none, kv k, pv q] w fun e w' => e = .returned (.tuple #[]) ∧ Below w.heap.size w w'
  drop : ∀ k w, KeyT.Ok k → Calls Tryz.prog 10 #[.pointer none, kv k] w fun e w' => e = .returned (.bool false) ∧ Below w.heap.size w w'
  find : ∀ k (d : Nat) w, KeyT.Ok k → d < 18446744073709551616 → Calls Tryz.prog 12 #[.pointer none, kv k, .int .u64 d] w fun e w' => e = .returned (.tuple #[pv (0, 0), .bool false]) ∧ Below w.heap.size w w'
  anew : ∀ w, Calls Tryz.prog 14 #[.pointer none] w fun e w' => e = .returned (.tuple #[]) ∧ Below w.heap.size w w'
  blur : ∀ A (b : List UInt8) n c w, b.length = n → n ≤ c → c ≤ maxLen → Rd w w.heap.size A b → Calls Tryz.prog 16 #[.pointer none, .slice A n c] w fun e w' => e = .returned (.tuple #[]) ∧ Below w.heap.size w w'
  cost : ∀ w, Calls Tryz.prog 18 #[.pointer none] w fun e w' => e = .returned (.tuple #[.int .i64 0, .int .i64 0]) ∧ Below w.heap.size w w'
  twins : ∀ (d : List UInt8) w, d.length = 32 → Calls Tryz.prog 23 #[.pointer none, .agg (bv d).toArray] w fun e w' => (∃ A c, e = .returned (.slice A 0 c)) ∧ Below w.heap.size w w'
  shelf : ∀ (at_ : Int) w, In64 at_ → Calls Tryz.prog 25 #[.pointer none, .int .i64 at_] w fun e w' => (∃ A c, e = .returned (.slice A 0 c)) ∧ Below w.heap.size w w'
  all : ∀ w, Calls Tryz.prog 20 #[.pointer none] w fun e w' => (∃ A c, e = .returned (.slice A 0 c)) ∧ Below w.heap.size w w'
  len : ∀ w, Calls Tryz.prog 21 #[.pointer none] w fun e w' => e = .returned (.int .i64 0) ∧ Below w.heap.size w w'
section
variable {Ft : World → Addr → (Nat → Prop) → FS → Prop} {w0 w w' : World} {s : Addr} {F N : Nat → Prop} {f : FS}
theorem FindersOk.firm (K : FindersOk Ft) : Firm Ft := ⟨K.lt, K.keep⟩
theorem FindersOk.on (K : FindersOk Ft) (h : Turned Ft w0 s N w f) (hb : Below w.heap.size w w') : Turned Ft w0 s N w' f := K.firm.on h hb
theorem FindersOk.good (K : FindersOk Ft) (h : Turned Ft w0 s N w f) : f.Ok := by
  obtain ⟨F, h1, _⟩ := h
  exact K.ok h1
theorem FindersOk.new' (K : FindersOk Ft) (hb : Below w0.heap.size w0 w) (n p r : Nat) (hn : n ≤ 1048576) (hp : p ≤ 30) (hr : r ≤ 4096) : Calls Tryz.prog 5 #[.int .i64 n, .int .i64 p, .int .i64 r] w fun e w' => ∃ s, e = .returned (.tuple #[.pointer (some s), .int .i64 0]) ∧ Turned Ft w0 s (fun _ => False) w' (newF n p r) :=
  (K.new n p r w hn hp hr).mono fun e w' ⟨s, F, h1, h2, h3, h4⟩ => ⟨s, h1, F, h2, fun g hg => .inr (Nat.le_trans hb.size (h3 g hg)), Only.of_below (hb.trans (h4.mono hb.size))⟩
theorem FindersOk.put' (K : FindersOk Ft) (h : Turned Ft w0 s N w f) (hl : f.L.length ≤ 900) (k : KeyT) (hk : KeyT.Ok k) (q : Int × Int) (hq : PlOk q) :
    Calls Tryz.prog 8 #[.pointer (some s), kv k, pv q] w fun e w' => e = .returned (.tuple #[]) ∧ Turned Ft w0 s N w' (putF f k q) := by
  obtain ⟨F, h1, h2, h3⟩ := h
  exact (K.put s F f k q w h1 hl hk hq).mono fun e w' ⟨he, ht⟩ => ⟨he, Turned.step h2 h3 ht⟩
theorem FindersOk.drop' (K : FindersOk Ft) (h : Turned Ft w0 s N w f) (hl : f.L.length ≤ 900) (k : KeyT) (hk : KeyT.Ok k) :
    Calls Tryz.prog 10 #[.pointer (some s), kv k] w fun e w' => e = .returned (.bool (hasX f.L k)) ∧ Turned Ft w0 s N w' (dropF f k) := by
  obtain ⟨F, h1, h2, h3⟩ := h
  exact (K.drop s F f k w h1 hl hk).mono fun e w' ⟨he, ht⟩ => ⟨he, Turned.step h2 h3 ht⟩
/-- A search told by the index: what is found is what it has. -/
theorem FindersOk.find' (K : FindersOk Ft) (h : Turned Ft w0 s N w f) (hl : f.L.length ≤ 900) (ha : f.asked ≤ 100000) (hb : f.loads ≤ 100000) (k : KeyT) (hk : KeyT.Ok k) (d : Nat) (hd : d < 18446744073709551616) :
    Calls Tryz.prog 12 #[.pointer (some s), kv k, .int .u64 d] w fun e w' => e = .returned (.tuple #[pv (getX f.L k), .bool (hasX f.L k)]) ∧ Turned Ft w0 s N w' (nextF f k d) := by
  obtain ⟨F, h1, h2, h3⟩ := h
  refine (K.find s F f k d w h1 hl ha hb hk hd).mono fun e w' ⟨he, ht⟩ => ⟨?_, Turned.step h2 h3 ht⟩
  rw [answer_get (K.ok h1)] at he
  exact he
theorem FindersOk.anew' (K : FindersOk Ft) (h : Turned Ft w0 s N w f) (hl : f.L.length ≤ 900) : Calls Tryz.prog 14 #[.pointer (some s)] w fun e w' => e = .returned (.tuple #[]) ∧ Turned Ft w0 s N w' (anewF f) := by
  obtain ⟨F, h1, h2, h3⟩ := h
  exact (K.anew s F f w h1 hl).mono fun e w' ⟨he, ht⟩ => ⟨he, Turned.step h2 h3 ht⟩
theorem FindersOk.cost' (K : FindersOk Ft) (h : Turned Ft w0 s N w f) : Calls Tryz.prog 18 #[.pointer (some s)] w fun e w' => e = .returned (.tuple #[.int .i64 (f.asked : Nat), .int .i64 (f.loads : Nat)]) ∧ Below w.heap.size w w' := by
  obtain ⟨F, h1, _⟩ := h
  exact K.cost s F f w h1
theorem FindersOk.len' (K : FindersOk Ft) (h : Turned Ft w0 s N w f) (hl : f.L.length ≤ 900) : Calls Tryz.prog 21 #[.pointer (some s)] w fun e w' => e = .returned (.int .i64 (f.L.length : Nat)) ∧ Below w.heap.size w w' := by
  obtain ⟨F, h1, _⟩ := h
  exact K.len s F f w h1 hl
end
end Go.Proofs.YtoofhaoaogoomaaGreat
/- Two states and blocks of the call's own in one world, apart: for every law that plays a package against its reference. No statement of the seat is proved here; nothing of the program is named. -/
namespace Go.Proofs.YtoofhaoaogoomaaGreat
open Go.RowKit
set_option linter.unusedVariables false

def TwoB {σ τ : Type} (St : World → Addr → (Nat → Prop) → σ → Prop) (Tt : World → Addr → (Nat → Prop) → τ → Prop) (w0 w : World) (s t : Addr) (S : σ) (T : τ) (E : List (Nat × Obj)) : Prop :=
  ∃ F G, St w s F S ∧ Tt w t G T ∧ (∀ g, F g → ¬ G g) ∧ (∀ g, F g → w0.heap.size ≤ g) ∧ (∀ g, G g → w0.heap.size ≤ g) ∧ Below w0.heap.size w0 w ∧ ∀ p ∈ E, w.heap[p.1]? = some p.2 ∧ ¬ F p.1 ∧ ¬ G p.1
theorem blk_in {w : World} {g : Nat} {o : Obj} (h : w.heap[g]? = some o) : g < w.heap.size := by
  rcases Nat.lt_or_ge g w.heap.size with hlt | hge
  · exact hlt
  · rw [Array.getElem?_eq_none hge] at h; cases h
section
variable {σ τ : Type} {St : World → Addr → (Nat → Prop) → σ → Prop} {Tt : World → Addr → (Nat → Prop) → τ → Prop} {w0 w w' : World} {s t : Addr} {S S' : σ} {T T' : τ} {E : List (Nat × Obj)}
theorem TwoB.swap (h : TwoB St Tt w0 w s t S T E) : TwoB Tt St w0 w t s T S E := by
  obtain ⟨F, G, h1, h2, h3, h4, h5, h6, h7⟩ := h
  exact ⟨G, F, h2, h1, fun g hg hf => h3 g hf hg, h5, h4, h6, fun p hp => ⟨(h7 p hp).1, (h7 p hp).2.2, (h7 p hp).2.1⟩⟩
theorem TwoB.bel (h : TwoB St Tt w0 w s t S T E) : Below w0.heap.size w0 w := by
  obtain ⟨F, G, h1, h2, h3, h4, h5, h6, h7⟩ := h
  exact h6
theorem TwoB.on (hS : Firm St) (hT : Firm Tt) (h : TwoB St Tt w0 w s t S T E) (hb : Below w.heap.size w w') : TwoB St Tt w0 w' s t S T E := by
  obtain ⟨F, G, h1, h2, h3, h4, h5, h6, h7⟩ := h
  exact ⟨F, G, hS.keep h1 fun g hg => hb.block g (hS.lt h1 g hg), hT.keep h2 fun g hg => hb.block g (hT.lt h2 g hg), h3, h4, h5, h6.trans (hb.mono h6.size), fun p hp => ⟨(hb.block p.1 (blk_in (h7 p hp).1)).trans (h7 p hp).1, (h7 p hp).2⟩⟩
theorem TwoB.blk {g : Nat} {t' : TypeId} {cs : Array Value} (h : TwoB St Tt w0 w s t S T E) (hm : (g, Obj.cells cs t' (0, 0)) ∈ E) : Blk w g t' cs := by
  obtain ⟨F, G, h1, h2, h3, h4, h5, h6, h7⟩ := h
  exact (h7 _ hm).1
theorem TwoB.drop {e : Nat × Obj} (h : TwoB St Tt w0 w s t S T (e :: E)) : TwoB St Tt w0 w s t S T E := by
  obtain ⟨F, G, h1, h2, h3, h4, h5, h6, h7⟩ := h
  exact ⟨F, G, h1, h2, h3, h4, h5, h6, fun p hp => h7 p (List.mem_cons_of_mem _ hp)⟩
/-- Of both states there are no boxes yet. -/
theorem TwoB.of_two (h : Two St Tt w0 w s t S T) : TwoB St Tt w0 w s t S T [] := by
  obtain ⟨F, G, h1, h2, h3, h4, h5, h6⟩ := h
  exact ⟨F, G, h1, h2, h3, h4, h5, h6, fun p hp => by cases hp⟩
/-- A block that stood when the base world was is a box, too. -/
theorem TwoB.old {g : Nat} {o : Obj} (h : TwoB St Tt w0 w s t S T E) (hg : w0.heap[g]? = some o) : TwoB St Tt w0 w s t S T ((g, o) :: E) := by
  obtain ⟨F, G, h1, h2, h3, h4, h5, h6, h7⟩ := h
  have hlt := blk_in hg
  refine ⟨F, G, h1, h2, h3, h4, h5, h6, fun p hp => ?_⟩
  rcases List.mem_cons.1 hp with rfl | hp
  · exact ⟨(h6.block g hlt).trans hg, fun hf => by have := h4 _ hf; omega, fun hf => by have := h5 _ hf; omega⟩
  · exact h7 p hp
/-- A box is made. -/
theorem TwoB.box (hS : Firm St) (hT : Firm Tt) (h : TwoB St Tt w0 w s t S T E) {g : Nat} {t' : TypeId} {cs : Array Value} (hg : w.heap.size = g) (hw : w.alloc (.cells cs t') = w') : TwoB St Tt w0 w' s t S T ((g, Obj.cells cs t' (0, 0)) :: E) := by
  have hb : Below w.heap.size w w' := hw ▸ (Below.refl _ _).alloc (Nat.le_refl _) _
  obtain ⟨F, G, h1, h2, h3, h4, h5, h6, h7⟩ := h
  have hF := hS.lt h1
  have hG := hT.lt h2
  refine ⟨F, G, hS.keep h1 fun g hg => hb.block g (hF g hg), hT.keep h2 fun g hg => hb.block g (hG g hg), h3, h4, h5, h6.trans (hb.mono h6.size), fun p hp => ?_⟩
  rcases List.mem_cons.1 hp with rfl | hp
  · refine ⟨by rw [← hw, ← hg]; exact heap_alloc_new w _, fun hf => ?_, fun hf => ?_⟩
    · have := hF _ hf; omega
    · have := hG _ hf; omega
  · exact ⟨(hb.block p.1 (blk_in (h7 p hp).1)).trans (h7 p hp).1, (h7 p hp).2⟩
/-- The first state turns; the world may have grown meanwhile. -/
theorem TwoB.left (hS : Firm St) (hT : Firm Tt) (h : TwoB St Tt w0 w s t S T E) {W : World} (hb : Below w.heap.size w W) : ∃ F, (∀ g, F g → g < w.heap.size ∧ w0.heap.size ≤ g) ∧ St W s F S ∧ ∀ {w' S'}, Turned St W s F w' S' → TwoB St Tt w0 w' s t S' T E := by
  obtain ⟨F, G, h1, h2, h3, h4, h5, h6, h7⟩ := h
  have hF := hS.lt h1
  have h1' := hS.keep h1 fun g hg => hb.block g (hF g hg)
  have hG := hT.lt h2
  have h2' := hT.keep h2 fun g hg => hb.block g (hG g hg)
  have hG' := hT.lt h2'
  have h6' := h6.trans (hb.mono h6.size)
  refine ⟨F, fun g hg => ⟨hF g hg, h4 g hg⟩, h1', fun {w' S'} ⟨F', a1, a2, a3⟩ => ⟨F', G, a1, hT.keep h2' fun g hg => a3.block g (hG' g hg) fun hf => h3 g hf hg, fun g hf hg => ?_, fun g hf => ?_, h5, h6'.trans (Only.below a3 h4 h6'.size), fun p hp => ?_⟩⟩
  · rcases a2 g hf with h | h
    · exact h3 g h hg
    · have := hG' g hg; omega
  · rcases a2 g hf with h | h
    · exact h4 g h
    · exact Nat.le_trans h6'.size h
  · have hp1 := (hb.block p.1 (blk_in (h7 p hp).1)).trans (h7 p hp).1
    refine ⟨(a3.block p.1 (blk_in hp1) (h7 p hp).2.1).trans hp1, fun hf => ?_, (h7 p hp).2.2⟩
    rcases a2 _ hf with h | h
    · exact (h7 p hp).2.1 h
    · have := blk_in hp1; omega
theorem TwoB.right (hS : Firm St) (hT : Firm Tt) (h : TwoB St Tt w0 w s t S T E) {W : World} (hb : Below w.heap.size w W) : ∃ G, (∀ g, G g → g < w.heap.size ∧ w0.heap.size ≤ g) ∧ Tt W t G T ∧ ∀ {w' T'}, Turned Tt W t G w' T' → TwoB St Tt w0 w' s t S T' E := by
  obtain ⟨G, h1, h2, h3⟩ := h.swap.left hT hS hb
  exact ⟨G, h1, h2, fun ht => (h3 ht).swap⟩
end
end Go.Proofs.YtoofhaoaogoomaaGreat
/- A finder of the package's and another state in one world. No statement of the seat is proved here. -/
namespace Go.Proofs.YtoofhaoaogoomaaGreat
open Go.RowKit
set_option linter.unusedVariables false

section
variable {σ τ : Type} {St : World → Addr → (Nat → Prop) → σ → Prop} {Tt : World → Addr → (Nat → Prop) → τ → Prop} {w0 w w' : World} {s t : Addr} {S : σ} {T : τ} {F G : Nat → Prop}
/-- One state stands, the other was made behind it. -/
theorem two_made (hS : Firm St) (hT : Firm Tt) (h0 : Below w0.heap.size w0 w) (h : St w s F S) (hF : ∀ g, F g → w0.heap.size ≤ g) (hb : Below w.heap.size w w') (h2 : Tt w' t G T) (hG : ∀ g, G g → w.heap.size ≤ g) : TwoB St Tt w0 w' s t S T [] := by
  have hlt := hS.lt h
  exact ⟨F, G, hS.keep h fun g hg => hb.block g (hlt g hg), h2, fun g h3 h4 => by
    have a := hlt g h3
    have b := hG g h4
    omega, hF, fun g hg => Nat.le_trans h0.size (hG g hg), h0.trans (hb.mono h0.size), fun p hp => by cases hp⟩
end
section
variable {τ : Type} {Ft : World → Addr → (Nat → Prop) → FS → Prop} {Tt : World → Addr → (Nat → Prop) → τ → Prop} {w0 w : World} {s t : Addr} {f : FS} {T : τ} {E : List (Nat × Obj)}
theorem fgoodL (K : FindersOk Ft) (h : TwoB Ft Tt w0 w s t f T E) : f.Ok := by
  obtain ⟨F, _, h1, _⟩ := h
  exact K.ok h1
theorem fputL (K : FindersOk Ft) (hT : Firm Tt) (h : TwoB Ft Tt w0 w s t f T E) (hl : f.L.length ≤ 900) (k : KeyT) (hk : KeyT.Ok k) (q : Int × Int) (hq : PlOk q) :
    Calls Tryz.prog 8 #[.pointer (some s), kv k, pv q] w fun e w' => e = .returned (.tuple #[]) ∧ TwoB Ft Tt w0 w' s t (putF f k q) T E := by
  obtain ⟨F, hF, h1, back⟩ := h.left K.firm hT (Below.refl _ _)
  exact (K.put s F f k q w h1 hl hk hq).mono fun e w' ⟨he, ht⟩ => ⟨he, back ht⟩
theorem fdropL (K : FindersOk Ft) (hT : Firm Tt) (h : TwoB Ft Tt w0 w s t f T E) (hl : f.L.length ≤ 900) (k : KeyT) (hk : KeyT.Ok k) :
    Calls Tryz.prog 10 #[.pointer (some s), kv k] w fun e w' => e = .returned (.bool (hasX f.L k)) ∧ TwoB Ft Tt w0 w' s t (dropF f k) T E := by
  obtain ⟨F, hF, h1, back⟩ := h.left K.firm hT (Below.refl _ _)
  exact (K.drop s F f k w h1 hl hk).mono fun e w' ⟨he, ht⟩ => ⟨he, back ht⟩
/-- A search, told by the index. -/
theorem ffindL (K : FindersOk Ft) (hT : Firm Tt) (h : TwoB Ft Tt w0 w s t f T E) (hl : f.L.length ≤ 900) (ha : f.asked ≤ 100000) (hb : f.loads ≤ 100000) (k : KeyT) (hk : KeyT.Ok k) (d : Nat) (hd : d < 18446744073709551616) :
    Calls Tryz.prog 12 #[.pointer (some s), kv k, .int .u64 d] w fun e w' => e = .returned (.tuple #[pv (getX f.L k), .bool (hasX f.L k)]) ∧ TwoB Ft Tt w0 w' s t (nextF f k d) T E := by
  obtain ⟨F, hF, h1, back⟩ := h.left K.firm hT (Below.refl _ _)
  refine (K.find s F f k d w h1 hl ha hb hk hd).mono fun e w' ⟨he, ht⟩ => ⟨?_, back ht⟩
  rw [answer_get (K.ok h1)] at he
  exact he
theorem fanewL (K : FindersOk Ft) (hT : Firm Tt) (h : TwoB Ft Tt w0 w s t f T E) (hl : f.L.length ≤ 900) : Calls Tryz.prog 14 #[.pointer (some s)] w fun e w' => e = .returned (.tuple #[]) ∧ TwoB Ft Tt w0 w' s t (anewF f) T E := by
  obtain ⟨F, hF, h1, back⟩ := h.left K.firm hT (Below.refl _ _)
  exact (K.anew s F f w h1 hl).mono fun e w' ⟨he, ht⟩ => ⟨he, back ht⟩
/-- Bytes that stood at the start. -/
theorem fblurL (K : FindersOk Ft) (hT : Firm Tt) (h : TwoB Ft Tt w0 w s t f T E) (A : Option Addr) (b : List UInt8) (n c : Nat) (hl : b.length = n) (hc : n ≤ c) (hm : c ≤ maxLen) (hr : Rd w w.heap.size A b) (hA : ∀ ad, A = some ad → 0 < n → ad.block < w0.heap.size) :
    Calls Tryz.prog 16 #[.pointer (some s), .slice A n c] w fun e w' => e = .returned (.tuple #[]) ∧ TwoB Ft Tt w0 w' s t (blurF f b) T E := by
  obtain ⟨F, hF, h1, back⟩ := h.left K.firm hT (Below.refl _ _)
  exact (K.blur s F f A b n c w h1 hl hc hm hr fun ad e h0 hf => by
    have a1 := hA ad e h0
    have a2 := (hF _ hf).2
    omega).mono fun e w' ⟨he, ht⟩ => ⟨he, back ht⟩
theorem fcostL (K : FindersOk Ft) (hT : Firm Tt) (h : TwoB Ft Tt w0 w s t f T E) : Calls Tryz.prog 18 #[.pointer (some s)] w fun e w' => e = .returned (.tuple #[.int .i64 (f.asked : Nat), .int .i64 (f.loads : Nat)]) ∧ TwoB Ft Tt w0 w' s t f T E := by
  obtain ⟨F, _, h1, _⟩ := id h
  exact (K.cost s F f w h1).mono fun e w' ⟨he, hb⟩ => ⟨he, h.on K.firm hT hb⟩
theorem flenL (K : FindersOk Ft) (hT : Firm Tt) (h : TwoB Ft Tt w0 w s t f T E) (hl : f.L.length ≤ 900) : Calls Tryz.prog 21 #[.pointer (some s)] w fun e w' => e = .returned (.int .i64 (f.L.length : Nat)) ∧ TwoB Ft Tt w0 w' s t f T E := by
  obtain ⟨F, _, h1, _⟩ := id h
  exact (K.len s F f w h1 hl).mono fun e w' ⟨he, hb⟩ => ⟨he, h.on K.firm hT hb⟩
theorem fallL (K : FindersOk Ft) (hT : Firm Tt) (h : TwoB Ft Tt w0 w s t f T E) (hl : f.L.length ≤ 900) : Calls Tryz.prog 20 #[.pointer (some s)] w fun e w' => ∃ A c, e = .returned (.slice A f.L.length c) ∧ RdRw w' w'.heap.size A f.L ∧ f.L.length ≤ c ∧ c ≤ maxLen ∧ (∀ ad, A = some ad → w.heap.size ≤ ad.block) ∧ Below w.heap.size w w' ∧ TwoB Ft Tt w0 w' s t f T E := by
  obtain ⟨F, _, h1, _⟩ := id h
  exact (K.all s F f w h1 hl).mono fun e w' ⟨A, c, a1, a2, a3, a4, a5, hb⟩ => ⟨A, c, a1, a2, a3, a4, a5, hb, h.on K.firm hT hb⟩
/-- Both are finders, new. -/
theorem fnew2 (K : FindersOk Ft) {F : Nat → Prop} (h0 : Below w0.heap.size w0 w) (h : Ft w s F f) (hF : ∀ g, F g → w0.heap.size ≤ g) (n p r : Nat) (hn : n ≤ 1048576) (hp : p ≤ 30) (hr : r ≤ 4096) :
    Calls Tryz.prog 5 #[.int .i64 n, .int .i64 p, .int .i64 r] w fun e w' => ∃ t, e = .returned (.tuple #[.pointer (some t), .int .i64 0]) ∧ TwoB Ft Ft w0 w' s t f (newF n p r) [] :=
  (K.new n p r w hn hp hr).mono fun e w' ⟨t, G, he, h2, hG, hb⟩ => ⟨t, he, two_made K.firm K.firm h0 h hF hb h2 hG⟩
end
theorem getX_ok {L : List RowT} (h : RowsOk L) (k : KeyT) : In64 (getX L k).1 ∧ In64 (getX L k).2 := by
  cases hf : L.find? (fun r => decide (r.1 = k)) with
  | none => simp only [getX, hf]; exact ⟨in64_lit (by omega) (by omega), in64_lit (by omega) (by omega)⟩
  | some x =>
    simp only [getX, hf]
    exact h.place x (List.mem_of_find?_eq_some hf)
end Go.Proofs.YtoofhaoaogoomaaGreat
