/- Plain mathematics for package find: a cache that holds what the index has on its shelves. No statement of the seat is proved here; nothing of the program is imported. -/
import Derived.Test.YtoofhaoaogoomaaGreatZLAF
import Derived.Test.YtoofhaoaogoomaaGreatZLAL
import Derived.Test.YtoofhaoaogoomaaGreatZLAD
import Derived.Test.YtoofhaoaogoomaaGreatZLAB
import Derived.Test.YtoofhaoaogoomaaGreatCcRefL
import Derived.Test.YtoofhaoaogoomaaGreatZLAA
import Derived.WalkKit
import Derived.Deep.WholeRow
import Derived.Laws.ResultCell
namespace Go.Proofs.YtoofhaoaogoomaaGreat
set_option linter.unusedVariables false

theorem hasX_row {L : List RowT} {k : List UInt8 × Nat} : hasX L k = true ↔ ∃ r ∈ L, r.1 = k := by
  unfold hasX
  rw [List.any_eq_true]
  simp
/-- What lies in the cache is what the index has on that shelf. -/
def Coh (L : List RowT) (C : CS) : Prop := ∀ x ∈ C.t, x.2 = shelfX L x.1
theorem Coh.new (L : List RowT) (n : Nat) : Coh L ⟨n, []⟩ := fun x hx => by cases hx
theorem Coh.load {L : List RowT} {C : CS} (h : Coh L C) (s : Int) (d : Nat) : Coh L (loadC C s (shelfX L s) d) := by
  unfold loadC
  split
  · exact h
  · intro x hx
    rcases List.mem_append.1 hx with hx | hx
    · refine h x ?_
      split at hx
      · exact (List.eraseIdx_sublist _ _).subset hx
      · exact hx
    · rw [List.mem_singleton.1 hx]
theorem Coh.off {L L' : List RowT} {C : CS} (h : Coh L C) {s : Int} (hs : ∀ t, t ≠ s → shelfX L' t = shelfX L t) : Coh L' (dropC C s) := fun x hx => by
  obtain ⟨h1, h2⟩ := List.mem_filter.1 hx
  rw [h x h1, hs x.1 (by simpa using h2)]
theorem Coh.sub {L : List RowT} {C : CS} (h : Coh L C) (s : Int) : Coh L (dropC C s) := h.off fun _ _ => rfl
theorem Coh.get {L : List RowT} {C : CS} (h : Coh L C) (hr : Rise L) {k : List UInt8 × Nat} (hk : knowsC C k = true) : hasX L k = true ∧ getC C k = getX L k := by
  unfold knowsC at hk
  obtain ⟨r, hf⟩ := Option.isSome_iff_exists.1 hk
  have hg : getC C k = r.2 := by unfold getC; rw [hf]
  unfold findC at hf
  obtain ⟨x, hx, h2⟩ := List.exists_of_findSome?_eq_some hf
  have h3 := List.mem_of_find?_eq_some h2
  have h4 : r.1 = k := by simpa using List.find?_some h2
  rw [h x hx] at h3
  have h5 := (mem_shelfX.1 h3).1
  refine ⟨hasX_row.2 ⟨r, h5, h4⟩, ?_⟩
  rw [hg, ← h4, get_mem hr h5]
theorem filter_put {L : List RowT} (h : RowsOk L) {k : List UInt8 × Nat} (hk : KeyOk k) (p : Int × Int) {s : Int} (h1 : s ≠ p.1) (h2 : hasX L k = true → s ≠ (getX L k).1) :
    (putX L k p).filter (fun r => decide (r.2.1 = s)) = L.filter fun r => decide (r.2.1 = s) := by
  have e0 : ¬ decide (p.1 = s) = true := by simp; exact fun e => h1 e.symm
  rcases rise_split h.rise hk h.key with ⟨_, e⟩ | ⟨q, a, b, e⟩
  · conv => rhs; rw [e]
    unfold putX
    rw [List.filter_append, List.filter_append, List.filter_cons, if_neg e0]
  · have e1 : ¬ decide (q.1 = s) = true := by have := h2 a; rw [b] at this; simp; exact fun e => this e.symm
    conv => rhs; rw [e]
    unfold putX
    rw [List.filter_append, List.filter_append, List.filter_cons, List.filter_cons, if_neg e0, if_neg e1]
theorem filter_drop {L : List RowT} (h : RowsOk L) {k : List UInt8 × Nat} (hk : KeyOk k) {s : Int} (h2 : hasX L k = true → s ≠ (getX L k).1) :
    (dropX L k).filter (fun r => decide (r.2.1 = s)) = L.filter fun r => decide (r.2.1 = s) := by
  rcases rise_split h.rise hk h.key with ⟨_, e⟩ | ⟨q, a, b, e⟩
  · unfold dropX
    rw [← e]
  · have e1 : ¬ decide (q.1 = s) = true := by have := h2 a; rw [b] at this; simp; exact fun e => this e.symm
    conv => rhs; rw [e]
    unfold dropX
    rw [List.filter_append, List.filter_append, List.filter_cons, if_neg e1]
/-- The shelf on which a key lies goes out of the cache. -/
def forgetF (L : List RowT) (C : CS) (k : List UInt8 × Nat) : CS := if hasX L k = true then dropC C (getX L k).1 else C
theorem forget_t {L : List RowT} {C : CS} {k : List UInt8 × Nat} {x : Int × List RowT} (hx : x ∈ (forgetF L C k).t) : x ∈ C.t ∧ (hasX L k = true → x.1 ≠ (getX L k).1) := by
  unfold forgetF at hx
  split at hx
  · obtain ⟨h1, h2⟩ := List.mem_filter.1 hx
    exact ⟨h1, fun _ => by simpa using h2⟩
  · rename_i hn
    exact ⟨hx, fun h => absurd h hn⟩
theorem Coh.put {L : List RowT} {C : CS} (h : Coh L C) (hL : RowsOk L) {k : List UInt8 × Nat} (hk : KeyOk k) (p : Int × Int) : Coh (putX L k p) (dropC (forgetF L C k) p.1) := fun x hx => by
  obtain ⟨h1, h2⟩ := List.mem_filter.1 hx
  obtain ⟨h3, h4⟩ := forget_t h1
  rw [h x h3]
  unfold shelfX
  rw [filter_put hL hk p (by simpa using h2) h4]
theorem Coh.drop {L : List RowT} {C : CS} (h : Coh L C) (hL : RowsOk L) {k : List UInt8 × Nat} (hk : KeyOk k) : Coh (dropX L k) (forgetF L C k) := fun x hx => by
  obtain ⟨h3, h4⟩ := forget_t hx
  rw [h x h3]
  unfold shelfX
  rw [filter_drop hL hk h4]
theorem forget_room (L : List RowT) (C : CS) (k : List UInt8 × Nat) : (forgetF L C k).room = C.room := by
  unfold forgetF
  split <;> rfl
/-- What a search answers: the cache's answer, the index's, or none. -/
def foundF (may : Bool) (C : CS) (L : List RowT) (k : List UInt8 × Nat) : (Int × Int) × Bool :=
  if may = false then ((0, 0), false) else if knowsC C k = true then (getC C k, true) else (getX L k, hasX L k)
theorem getX_no {L : List RowT} {k : List UInt8 × Nat} (h : hasX L k = false) : getX L k = (0, 0) := by
  unfold getX
  rw [List.find?_eq_none.2 fun r hr => by
    intro e
    rw [Bool.eq_false_iff] at h
    exact h (hasX_row.2 ⟨r, hr, by simpa using e⟩)]
/-- A search answers what the index has, where the summary has its keys and the cache is right. -/
theorem found_get {may : Bool} {C : CS} {L : List RowT} {k : List UInt8 × Nat} (hm : hasX L k = true → may = true) (h : Coh L C) (hr : Rise L) : foundF may C L k = (getX L k, hasX L k) := by
  unfold foundF
  split
  · rename_i hf
    have hn : hasX L k = false := by
      rw [Bool.eq_false_iff]
      intro e
      rw [hm e] at hf
      cases hf
    rw [getX_no hn, hn]
  · split
    · rename_i hk
      obtain ⟨h1, h2⟩ := h.get hr hk
      rw [h1, h2]
    · rfl
/-- Of a shelf that was just loaded into an empty cache all is known. -/
theorem load_knows {L : List RowT} {n d : Nat} (hn : n ≠ 0) {r : RowT} (hr : r ∈ L) : knowsC (loadC ⟨n, []⟩ r.2.1 (shelfX L r.2.1) d) r.1 = true := by
  rw [loadC_new (S := ⟨n, []⟩) hn rfl, if_neg (by simpa using Ne.symm hn)]
  unfold knowsC findC
  rw [List.nil_append, List.findSome?_cons]
  have : ((shelfX L r.2.1).find? fun x => decide (x.1 = r.1)).isSome = true := by
    rw [List.find?_isSome]
    exact ⟨r, mem_shelfX.2 ⟨hr, rfl⟩, by simp⟩
  obtain ⟨y, hy⟩ := Option.isSome_iff_exists.1 this
  simp only [hy]
  rfl
end Go.Proofs.YtoofhaoaogoomaaGreat
/- Plain mathematics for package find: a finder as numbers, a summary, a cache and rows. No statement of the seat is proved here; nothing of the program is imported. -/
namespace Go.Proofs.YtoofhaoaogoomaaGreat
set_option linter.unusedVariables false

/-- A filter as numbers and bits. -/
structure BS where
  n : Nat
  p : Nat
  S : Nat → Bool
structure FS where
  n : Nat
  p : Nat
  S : Nat → Bool
  C : CS
  L : List RowT
  asked : Nat
  loads : Nat
def newF (n p room : Nat) : FS := ⟨n, p, fun _ => false, ⟨room, []⟩, [], 0, 0⟩
def spotsK (n p : Nat) (k : List UInt8 × Nat) : List Nat := spotsN n p (keyA k.1 k.2) (keyB k.1)
def mayF (f : FS) (k : List UInt8 × Nat) : Bool := (spotsK f.n f.p k).all f.S
def putF (f : FS) (k : List UInt8 × Nat) (q : Int × Int) : FS := ⟨f.n, f.p, putL f.S (spotsK f.n f.p k), dropC (forgetF f.L f.C k) q.1, putX f.L k q, f.asked, f.loads⟩
def dropF (f : FS) (k : List UInt8 × Nat) : FS := ⟨f.n, f.p, f.S, forgetF f.L f.C k, dropX f.L k, f.asked, f.loads⟩
/-- Behind a search. -/
def nextF (f : FS) (k : List UInt8 × Nat) (d : Nat) : FS :=
  if mayF f k = false then f else if knowsC f.C k = true then f
  else if hasX f.L k = true then ⟨f.n, f.p, f.S, loadC f.C (getX f.L k).1 (shelfX f.L (getX f.L k).1) d, f.L, f.asked + 1, f.loads + 1⟩
  else ⟨f.n, f.p, f.S, f.C, f.L, f.asked + 1, f.loads⟩
def answerF (f : FS) (k : List UInt8 × Nat) : (Int × Int) × Bool := foundF (mayF f k) f.C f.L k
def allS (n p : Nat) (L : List RowT) (S : Nat → Bool) : Nat → Bool := L.foldl (fun S r => putL S (spotsK n p r.1)) S
def anewF (f : FS) : FS := ⟨f.n, f.p, allS f.n f.p f.L fun _ => false, f.C, f.L, f.asked, f.loads⟩
def blurF (f : FS) (b : List UInt8) : FS := ⟨f.n, f.p, orS f.S b, f.C, f.L, f.asked, f.loads⟩
structure FS.Ok (f : FS) : Prop where
  may : ∀ r ∈ f.L, mayF f r.1 = true
  coh : Coh f.L f.C
  rows : RowsOk f.L
  cache : f.C.Ok
theorem may_iff {f : FS} {k : List UInt8 × Nat} : mayF f k = true ↔ ∀ x ∈ spotsK f.n f.p k, f.S x = true := by
  unfold mayF
  rw [List.all_eq_true]
theorem putL_keep {S : Nat → Bool} {l : List Nat} {x : Nat} (h : S x = true) : putL S l x = true := by rw [putL_at, h, Bool.or_true]
theorem putL_in {S : Nat → Bool} {l : List Nat} {x : Nat} (h : x ∈ l) : putL S l x = true := by rw [putL_at, List.contains_iff_mem.2 h, Bool.true_or]
theorem allS_keep {n p : Nat} : ∀ (L : List RowT) {S : Nat → Bool} {x : Nat}, S x = true → allS n p L S x = true
  | [], S, x, h => h
  | r :: L, S, x, h => allS_keep L (S := putL S (spotsK n p r.1)) (putL_keep h)
theorem allS_in {n p : Nat} : ∀ (L : List RowT) {S : Nat → Bool} {x : Nat} {r : RowT}, r ∈ L → x ∈ spotsK n p r.1 → allS n p L S x = true
  | r' :: L, S, x, r, h, hx => by
    rcases List.mem_cons.1 h with rfl | h
    · exact allS_keep L (S := putL S (spotsK n p r.1)) (putL_in hx)
    · exact allS_in L (S := putL S (spotsK n p r'.1)) h hx
theorem mem_putX' {L : List RowT} {k : List UInt8 × Nat} {q : Int × Int} {r : RowT} (h : r ∈ putX L k q) : r ∈ L ∨ r = (k, q) := by
  rcases List.mem_append.1 h with h | h
  · exact .inl (mem_under.1 h).1
  · rcases List.mem_cons.1 h with h | h
    · exact .inr h
    · exact .inl (mem_over.1 h).1
theorem mem_dropX' {L : List RowT} {k : List UInt8 × Nat} {r : RowT} (h : r ∈ dropX L k) : r ∈ L := by
  rcases List.mem_append.1 h with h | h
  · exact (mem_under.1 h).1
  · exact (mem_over.1 h).1
theorem length_dropX' (L : List RowT) (k : List UInt8 × Nat) : (dropX L k).length ≤ L.length := by
  have h : ∀ M : List RowT, (under M k).length + (over M k).length ≤ M.length := fun M => by
    induction M with
    | nil => exact Nat.le_refl _
    | cons r M ih =>
      unfold under over at ih ⊢
      rw [List.filter_cons, List.filter_cons]
      split <;> split <;> simp_all <;> omega
  unfold dropX
  rw [List.length_append]
  exact h L
theorem length_putX' (L : List RowT) (k : List UInt8 × Nat) (q : Int × Int) : (putX L k q).length ≤ L.length + 1 := by
  have h := length_dropX' L k
  unfold putX
  unfold dropX at h
  rw [List.length_append] at h ⊢
  simp only [List.length_cons]
  omega
theorem FS.Ok.new {n p room : Nat} (h : room ≤ 4096) : (newF n p room).Ok := ⟨fun r hr => (by cases hr), Coh.new _ _, ⟨List.Pairwise.nil, fun r hr => (by cases hr), fun r hr => (by cases hr)⟩, CS.Ok.new h⟩
theorem forget_ok {L : List RowT} {C : CS} (h : C.Ok) (k : List UInt8 × Nat) : (forgetF L C k).Ok := by
  unfold forgetF
  split
  · exact h.drop _
  · exact h
theorem FS.Ok.put {f : FS} (h : f.Ok) {k : List UInt8 × Nat} (hk : KeyOk k) {q : Int × Int} (hq : (-9223372036854775808 ≤ q.1 ∧ q.1 ≤ 9223372036854775807) ∧ (-9223372036854775808 ≤ q.2 ∧ q.2 ≤ 9223372036854775807)) : (putF f k q).Ok := by
  refine ⟨fun r hr => ?_, h.coh.put h.rows hk q, h.rows.put hk hq, (forget_ok h.cache k).drop _⟩
  rw [may_iff]
  intro x hx
  rcases mem_putX' hr with hr | rfl
  · exact putL_keep (may_iff.1 (h.may r hr) x hx)
  · exact putL_in hx
theorem FS.Ok.drop {f : FS} (h : f.Ok) {k : List UInt8 × Nat} (hk : KeyOk k) : (dropF f k).Ok :=
  ⟨fun r hr => may_iff.2 (may_iff.1 (h.may r (mem_dropX' hr))), h.coh.drop h.rows hk, h.rows.drop k, forget_ok h.cache k⟩
theorem FS.Ok.anew {f : FS} (h : f.Ok) : (anewF f).Ok := ⟨fun r hr => may_iff.2 fun x hx => allS_in f.L hr hx, h.coh, h.rows, h.cache⟩
theorem FS.Ok.blur {f : FS} (h : f.Ok) (b : List UInt8) : (blurF f b).Ok := ⟨fun r hr => may_iff.2 fun x hx => by
  have := may_iff.1 (h.may r hr) x hx
  show orS f.S b x = true
  unfold orS
  rw [this, Bool.true_or], h.coh, h.rows, h.cache⟩
theorem answer_get {f : FS} (h : f.Ok) (k : List UInt8 × Nat) : answerF f k = (getX f.L k, hasX f.L k) := by
  refine found_get (fun hx => ?_) h.coh h.rows.rise
  obtain ⟨r, hr, rfl⟩ := hasX_row.1 hx
  exact h.may r hr
theorem next_L (f : FS) (k : List UInt8 × Nat) (d : Nat) : (nextF f k d).L = f.L := by
  unfold nextF
  split
  · rfl
  · split
    · rfl
    · split <;> rfl
theorem get_in {L : List RowT} {k : List UInt8 × Nat} (hr : Rise L) (h : hasX L k = true) : (k, getX L k) ∈ L := by
  obtain ⟨r, hm, rfl⟩ := hasX_row.1 h
  rw [get_mem hr hm]
  exact hm
theorem rowok_of {L : List RowT} (h : RowsOk L) {r : RowT} (hr : r ∈ L) : RowOkC r := ⟨h.key r hr, (h.place r hr).1, (h.place r hr).2⟩
theorem FS.Ok.next {f : FS} (h : f.Ok) (hl : f.L.length ≤ 1000) (k : List UInt8 × Nat) (d : Nat) : (nextF f k d).Ok := by
  unfold nextF
  split
  · exact h
  · split
    · exact h
    · split
      · rename_i hx
        have hm := get_in h.rows.rise hx
        refine ⟨fun r hr => may_iff.2 (may_iff.1 (h.may r hr)), h.coh.load _ d, h.rows, h.cache.load (h.rows.place _ hm).1 ⟨Nat.le_trans (shelfX_length _ _) hl, fun r hr => rowok_of h.rows (mem_shelfX.1 hr).1⟩ d⟩
      · exact ⟨fun r hr => may_iff.2 (may_iff.1 (h.may r hr)), h.coh, h.rows, h.cache⟩
theorem next_np (f : FS) (k : List UInt8 × Nat) (d : Nat) : (nextF f k d).n = f.n ∧ (nextF f k d).p = f.p ∧ (nextF f k d).S = f.S := by
  unfold nextF
  split
  · exact ⟨rfl, rfl, rfl⟩
  · split
    · exact ⟨rfl, rfl, rfl⟩
    · split <;> exact ⟨rfl, rfl, rfl⟩
end Go.Proofs.YtoofhaoaogoomaaGreat
/- The reference's finder (cellarageref15): its summary as a state with a footprint; the whole as one state. No statement of the seat is proved here. -/
namespace Go.Proofs.YtoofhaoaogoomaaGreat
open Go.RowKit
set_option linter.unusedVariables false

def Rb (w : World) (s : Addr) (F : Nat → Prop) (V : BS) : Prop := ∃ r g, s = ⟨r, 0, none⟩ ∧ Ref w r g V.n V.p V.S ∧ F r ∧ F g ∧ ∀ k, F k → k < w.heap.size
theorem Rb.firm : Firm Rb where
  lt := fun ⟨_, _, _, _, _, _, h⟩ => h
  keep := fun {w w'} {s F V} ⟨r, g, hs, h, hr, hg, hl⟩ hk => ⟨r, g, hs, h.same (hk r hr) (hk g hg), hr, hg, still_lt hl hk⟩
theorem Ref.congr {w : World} {r g n p : Nat} {S T : Nat → Bool} (h : Ref w r g n p T) (e : ∀ q, q < n → T q = S q) : Ref w r g n p S := by
  have : bcs n T = bcs n S := List.map_congr_left fun q hq => by rw [e q (List.mem_range.1 hq)]
  exact ⟨h.rb, by rw [← this]; exact h.gb, h.hn, h.hp⟩
theorem rb_grown {w w' : World} {F : Nat → Prop} {r g : Nat} {V V' : BS} (hR : Ref w' r g V'.n V'.p V'.S) (hr : F r) (hg : F g) (hl : ∀ k, F k → k < w.heap.size) (h : w.grownBy w' (some g)) : Turned Rb w ⟨r, 0, none⟩ F w' V' :=
  ⟨F, ⟨r, g, rfl, hR, hr, hg, fun k hk => Nat.lt_of_lt_of_le (hl k hk) h.size⟩, fun k hk => .inl hk, grown_only h hg⟩
section
variable {w : World} {s : Addr} {F : Nat → Prop} {V : BS}
theorem rb_add (h : Rb w s F V) (x : KeyT) (hx : x.Ok) :
    Calls Tryz.prog 37 #[.pointer (some s), .agg (kcs x).toArray] w fun e w' => (∃ y, e = .returned y) ∧ Turned Rb w s F w' ⟨V.n, V.p, putL V.S (spk V.n V.p x)⟩ := by
  obtain ⟨r, g, rfl, hR, hr, hg, hl⟩ := h
  exact (refadd_ok r g V.n V.p V.S x hx w hR).mono fun e w' ⟨h1, h2, h3⟩ => ⟨h1, rb_grown (V := V) h2 hr hg hl h3⟩
theorem rb_may (h : Rb w s F V) (x : KeyT) (hx : x.Ok) :
    Calls Tryz.prog 45 #[.pointer (some s), .agg (kcs x).toArray] w fun e w' => e = .returned (.bool ((spk V.n V.p x).all V.S)) ∧ Below w.heap.size w w' := by
  obtain ⟨r, g, rfl, hR, hr, hg, hl⟩ := h
  exact refmay_ok r g V.n V.p V.S x hx w hR
theorem rb_or (h : Rb w s F V) (A : Option Addr) (b : List UInt8) (nb c : Nat) (hb : b.length = nb) (hm : nb ≤ 9223372036854775807) (hr : Rd w w.heap.size A b) (hF : ∀ ad, A = some ad → 0 < nb → ¬ F ad.block) :
    Calls Tryz.prog 17 #[.pointer (some s), .slice A nb c] w fun e w' => (∃ y, e = .returned y) ∧ Turned Rb w s F w' ⟨V.n, V.p, orS V.S b⟩ := by
  obtain ⟨r, g, rfl, hR, h1, h2, hl⟩ := h
  refine (refor_ok r g V.n V.p V.S w hR A b nb c hb hm fun W hW => ?_).mono fun e w' ⟨h3, ⟨T, h4, h5⟩, h6⟩ => ⟨h3, rb_grown (V := V) (h4.congr h5) h1 h2 hl h6⟩
  exact (rd_only (N := fun k => k = g) (grown_only hW rfl) hr fun ad e h0 e2 => hF ad e (by rw [← hb]; exact h0) (e2 ▸ h2)).more hW.size
end
/-- The reference's finder in w: its block, and what it points to. -/
def Rfd (w : World) (s : Addr) (F : Nat → Prop) (f : FS) : Prop := ∃ d a b c, s = ⟨d, 0, none⟩ ∧ Blk w d 56 #[.pointer (some a), .pointer (some b), .pointer (some c), .int .i64 (f.asked : Nat), .int .i64 (f.loads : Nat)] ∧
  Tri Rb Rc Rx w d F a b c ⟨f.n, f.p, f.S⟩ f.C f.L
theorem Rfd.firm : Firm Rfd where
  lt := fun ⟨_, _, _, _, _, _, h⟩ => h.lt
  keep := fun {w w'} {s F f} ⟨d, a, b, c, hs, h, ht⟩ hk => by
    have hl := still_lt ht.lt hk
    refine ⟨d, a, b, c, hs, h.same (hk d ht.own), ?_⟩
    obtain ⟨Fa, Fb, Fc, h1, h2, h3, h4, h5⟩ := ht
    exact ⟨Fa, Fb, Fc, h1, Rb.firm.keep h2 fun g hg => hk g (h1.a g hg), Rc.firm.keep h3 fun g hg => hk g (h1.b g hg), Rx.firm.keep h4 fun g hg => hk g (h1.c g hg), hl⟩
end Go.Proofs.YtoofhaoaogoomaaGreat
/- Calls on one of three states (names no program). No statement of the seat is proved here. -/
namespace Go.Proofs.YtoofhaoaogoomaaGreat
open Go.RowKit
set_option linter.unusedVariables false

section
variable {P : Program} {α β γ : Type} {Sa : World → Addr → (Nat → Prop) → α → Prop} {Sb : World → Addr → (Nat → Prop) → β → Prop} {Sc : World → Addr → (Nat → Prop) → γ → Prop}
  {w0 w : World} {d : Nat} {F0 : Nat → Prop} {a b c : Addr} {x x' : α} {y y' : β} {z z' : γ} {f : Nat} {args : Array Value} {E : Ending → Prop} {R : Ending → World → Prop}
theorem TriT.call1 (hA : Firm Sa) (hB : Firm Sb) (hC : Firm Sc) (h : TriT Sa Sb Sc w0 F0 d w a b c x y z)
    (hc : ∀ F, Sa w a F x → (∀ g, F g → g ≠ d ∧ (F0 g ∨ w0.heap.size ≤ g)) → Calls P f args w fun e w' => E e ∧ Turned Sa w a F w' x') :
    Calls P f args w fun e w' => E e ∧ TriT Sa Sb Sc w0 F0 d w' a b c x' y z ∧ w'.heap[d]? = w.heap[d]? := by
  obtain ⟨F, h1, h2, h3⟩ := h.first hA hB hC
  exact (hc F h1 h2).mono fun e w' ⟨he, ht⟩ => ⟨he, h3 ht⟩
theorem TriT.call2 (hA : Firm Sa) (hB : Firm Sb) (hC : Firm Sc) (h : TriT Sa Sb Sc w0 F0 d w a b c x y z)
    (hc : ∀ F, Sb w b F y → (∀ g, F g → g ≠ d ∧ (F0 g ∨ w0.heap.size ≤ g)) → Calls P f args w fun e w' => E e ∧ Turned Sb w b F w' y') :
    Calls P f args w fun e w' => E e ∧ TriT Sa Sb Sc w0 F0 d w' a b c x y' z ∧ w'.heap[d]? = w.heap[d]? :=
  (h.rot.call1 hB hC hA hc).mono fun e w' ⟨he, ht, hd⟩ => ⟨he, ht.rot.rot, hd⟩
theorem TriT.call3 (hA : Firm Sa) (hB : Firm Sb) (hC : Firm Sc) (h : TriT Sa Sb Sc w0 F0 d w a b c x y z)
    (hc : ∀ F, Sc w c F z → (∀ g, F g → g ≠ d ∧ (F0 g ∨ w0.heap.size ≤ g)) → Calls P f args w fun e w' => E e ∧ Turned Sc w c F w' z') :
    Calls P f args w fun e w' => E e ∧ TriT Sa Sb Sc w0 F0 d w' a b c x y z' ∧ w'.heap[d]? = w.heap[d]? :=
  (h.rot.rot.call1 hC hA hB hc).mono fun e w' ⟨he, ht, hd⟩ => ⟨he, ht.rot, hd⟩
/-- .. that only read. -/
theorem TriT.read (hA : Firm Sa) (hB : Firm Sb) (hC : Firm Sc) (h : TriT Sa Sb Sc w0 F0 d w a b c x y z) (hc : Calls P f args w fun e w' => R e w' ∧ Below w.heap.size w w') :
    Calls P f args w fun e w' => R e w' ∧ TriT Sa Sb Sc w0 F0 d w' a b c x y z ∧ w'.heap[d]? = w.heap[d]? ∧ Below w.heap.size w w' :=
  hc.mono fun e w' ⟨he, hb⟩ => ⟨he, (h.on hA hB hC hb).1, (h.on hA hB hC hb).2, hb⟩
theorem TriT.get1 (h : TriT Sa Sb Sc w0 F0 d w a b c x y z) : ∃ F, Sa w a F x := by
  obtain ⟨F, ⟨Fa, Fb, Fc, _, h1, h2, h3, _⟩, _⟩ := h
  exact ⟨Fa, h1⟩
theorem TriT.get2 (h : TriT Sa Sb Sc w0 F0 d w a b c x y z) : ∃ F, Sb w b F y := h.rot.get1
theorem TriT.get3 (h : TriT Sa Sb Sc w0 F0 d w a b c x y z) : ∃ F, Sc w c F z := h.rot.rot.get1
end
end Go.Proofs.YtoofhaoaogoomaaGreat
/- The reference's index (cellarageref13): Drop, Get. No statement of the seat is proved here. -/
namespace Go.Proofs.YtoofhaoaogoomaaGreat
open Go.RowKit
set_option linter.unusedVariables false
set_option linter.unusedSimpArgs false

theorem drop_same {L : List RowT} (h : RowsOk L) {k : List UInt8 × Nat} (hk : KeyOk k) (hn : hasX L k = false) : dropX L k = L := by
  rcases rise_split h.rise hk h.key with ⟨_, h2⟩ | ⟨p, h1, _, _⟩
  · exact h2.symm
  · rw [hn] at h1; cases h1
set_option maxRecDepth 100000 in
set_option maxHeartbeats 8000000 in
theorem rdrop_any (s : Addr) (F : Nat → Prop) (L : List RowT) (k : KeyT) (w : World) (h : Rx w s F L) (hl : L.length ≤ 9000) (hk : KeyT.Ok k) :
    Calls Tryz.prog 40 #[.pointer (some s), kv k] w fun e w' => e = .returned (.bool (hasX L k)) ∧ Turned Rx w s F w' (dropX L k) := by
  have HH := Lib.hid h
  obtain ⟨d, A, c, rfl, hR, hFd, hFA, hFl⟩ := h
  obtain ⟨pt1, pt2, pt3⟩ := parts_at hR.ok hk
  have hdrop : dropX L k = under L k ++ over L k := rfl
  have hokp : RowsOk (dropX L k) := hR.ok.drop k
  have HSAME := Lib.hid (fun e : hasX L k = false => drop_same hR.ok hk e)
  obtain ⟨X, hX⟩ : ∃ X, kcs k = X := ⟨_, rfl⟩
  have hXl : X.length = 33 := by rw [← hX]; exact kcs_length hk
  obtain ⟨w2, hw2⟩ : ∃ w2, w.alloc (.cells X.toArray 29) = w2 := ⟨_, rfl⟩
  obtain ⟨kb, hkb⟩ : ∃ kb, w.heap.size = kb := ⟨_, rfl⟩
  have hb12 : Below w.heap.size w w2 := hw2 ▸ (Below.refl _ _).alloc (Nat.le_refl _) _
  have hk2 : Blk w2 kb 29 X.toArray := by rw [← hw2, ← hkb]; exact Blk.new w _ _
  have h2 := hR.on hb12
  have KA := rat_any w2 d A c L h2 (by omega) k hk
  obtain ⟨q, hq⟩ : ∃ q, (under L k).length = q := ⟨_, rfl⟩
  obtain ⟨hs, hhs⟩ : ∃ b, hasX L k = b := ⟨_, rfl⟩
  have hul := under_length L k
  unfold kv at KA ⊢
  rw [hX, hq, hhs] at KA
  rw [hq, hhs] at pt2
  rw [hhs] at pt3 HSAME
  rw [hq] at pt1 pt3 hul
  rw [hX, hhs]
  obtain ⟨n, hN⟩ : ∃ n, L.length = n := ⟨_, rfl⟩
  have hcn := hR.cap
  have hcm := hR.most
  rw [hN] at hcn hl hul pt2
  have HPT := Lib.hid (And.intro pt1 (And.intro pt2 pt3))
  have HN := Lib.hid hN
  have HX := Lib.hid (show ∀ W, Below w2.heap.size w2 W → W.rangeAt kb 0 X from fun W hW => range_of_blk (hk2.below hW hk2.lt))
  have HXS := Lib.hid (show (Tryz.prog.info? 29).map (·.size) = some X.length from by rw [hXl]; exact key_size)
  have HC := Lib.hid (show ∀ W, Below w2.heap.size w2 W → W.cell? ⟨d, 0, none⟩ = some (.slice A n c) from fun W hW => by rw [← hN]; exact (h2.blk.below hW h2.blk.lt).cell 0)
  have HCF := Lib.hid (show ∀ W, Below w2.heap.size w2 W → W.frozen? ⟨d, 0, none⟩ = false from fun W hW => (h2.blk.below hW h2.blk.lt).frozen 0)
  have HR2 := Lib.hid (show ∀ W, Below w2.heap.size w2 W → RdRw W W.heap.size A L from fun W hW => h2.rows.on hW)
  have HW := Lib.hid (And.intro hw2 hkb)
  have HST := Lib.hid (And.intro h2 (And.intro hFd (And.intro hb12 hdrop)))
  have HOK := Lib.hid hokp
  obtain ⟨fk, hfk⟩ := key_desc
  have HF := Lib.hid hfk
  replace KA := Lib.hid KA
  obtain ⟨A3, hA3⟩ : ∃ A3 : Option Addr, (if c = q + 1 then A else A.map (·.add ((q + 1) * 35))) = A3 := ⟨_, rfl⟩
  have HA := Lib.hid hA3
  unfold maxLen at hcm
  have hqn : (q : Int) ≤ (n : Int) := by omega
  have hqc : (q : Int) ≤ (c : Int) := by omega
  have hnc : (n : Int) ≤ (c : Int) := by omega
  have hcm' : (c : Int) ≤ 9223372036854775807 := by omega
  clear hq hX hXl hw2 hkb hb12 hk2 hR h2 pt1 pt2 pt3 hN hdrop hokp hfk hFl hk hhs
  go_enter Tryz.func40, Tryz.ntmps40
  go_upto_region 1 with fail
  rw [HW.out.1, HW.out.2]
  go_wp2_with (refine wpList_load_mid rfl 29 (.tmp 3) rfl kb 0 rfl X (.struct fk) (HX.out _ (Below.refl _ _)) HF.out rfl HXS.out ?_)
  refine KA.out.mono ?_
  rintro e w3 ⟨rfl, hb3⟩
  have HB3 := Lib.hid hb3
  cases hs with
  | false =>
    have HT := Lib.hid (show Turned Rx w ⟨d, 0, none⟩ F w3 (dropX L k) by
      rw [HSAME.out rfl]
      exact Rx.firm.on (Turned.refl HH.out) (HST.out.2.2.1.trans (hb3.mono HST.out.2.2.1.size)))
    clear KA hb3
    go_wp2_with fail
    go_ret
    exact ⟨rfl, HT.out⟩
  | true =>
    have HE := Lib.hid (OwnG.empty (g := rcs) (e := 42) (sz := 35) w3)
    have hb4 : Below w2.heap.size w2 (w3.alloc (.cells #[] 42)) := hb3.alloc hb3.size _
    have hc4 := HC.out _ hb4
    have HB4 := Lib.hid hb4
    clear KA hb3 hb4
    have HTQ := Lib.hid (show (L.take q).length = q by rw [List.length_take, HN.out]; omega)
    have HE4 := Lib.hid (HE.out.base (B' := w2.heap.size) HB3.out.size)
    have HRT := Lib.hid ((HR2.out _ HB4.out).take q)
    go_upto_region 4 with (at_builtin; refine wpList_append_g rowE rfl (.tmp 15) (.tmp 21) rfl w2.heap.size _ 0 0 [] rfl rfl HE4.out _ A c q (L.take q) rfl HTQ.out HRT.out.rows HRT.out.each ?_ ?_ ?_)
    case _ => omega
    case _ => exact HB4.out.size
    intro A7 c7 w7 ho hg
    have H7 := Lib.hid (show OwnG 42 35 rcs w7 w2.heap.size A7 c7 (under L k) ∧ Below w2.heap.size w2 w7 from by
      rw [HPT.out.1] at ho
      exact ⟨ho, HB4.out.grown hg HB4.out.size fun r hr => (HE4.out.lt hr).1⟩)
    have HL7 := Lib.hid (show (under L k).length = q by rw [← HPT.out.1]; exact HTQ.out)
    have hc7 := HC.out _ H7.out.2
    clear ho hg HE HE4 HB4 HRT hc4
    have HD := Lib.hid (HPT.out.2.1 (by trivial))
    have hrd := (HR2.out _ H7.out.2).drop (k := q + 1) (c := c) (by rw [HN.out]; exact hcn)
    rw [hA3, HD.out.2] at hrd
    have HRD := Lib.hid hrd
    have HDL := Lib.hid (show (over L k).length = n - (q + 1) by rw [← HD.out.2, List.length_drop, HN.out])
    have HPL := Lib.hid (show (dropX L k).length = q + (n - (q + 1)) by rw [HST.out.2.2.2, List.length_append, HL7.out, HDL.out])
    clear hrd
    have hq1 : q < n := HD.out.1
    have hqn1 : (q : Int) + 1 ≤ (n : Int) := by omega
    have hqc1 : (q : Int) + 1 ≤ (c : Int) := by omega
    go_wp2_with (at_builtin; refine wpList_append_g rowE rfl (.tmp 24) (.tmp 31) rfl w2.heap.size A7 c7 q (under L k) HL7.out rfl H7.out.1 _ A3 (c - (q + 1)) (n - (q + 1)) (over L k) rfl HDL.out HRD.out.rows HRD.out.each ?_ ?_ ?_)
    case _ => omega
    case _ => exact H7.out.2.size
    intro A9 c9 w9 ho hg
    have HB9 := Lib.hid (show Below w2.heap.size w2 w9 from H7.out.2.grown hg H7.out.2.size fun r hr => (H7.out.1.lt (by rw [HL7.out]; exact hr)).1)
    have HFN := Lib.hid (rx_fin (F := F) HST.out.1 HST.out.2.1 HST.out.2.2.1 HOK.out (by exact ho) HPL.out HB9.out)
    have hc9 := HC.out _ HB9.out
    have hf9 := HCF.out _ HB9.out
    clear ho hg HRD hc7
    go_wp2_with fail
    go_ret
    exact ⟨rfl, HFN.out⟩
end Go.Proofs.YtoofhaoaogoomaaGreat
/- What a function hands back: a struct in a variable of its own, and a slot. No statement of the seat is proved here. -/
namespace Go.Proofs.YtoofhaoaogoomaaGreat
open Go.RowKit

/-- A struct in a variable of its own and a slot are handed back. -/
theorem res_row_tmpB {P : Program} {fn : Func} {p u : Tmp} {ty : TypeId} (h : fn.results = #[.cell p ty, .tmp u]) (tmps : Array Value) (w : World) (g : Nat) (t : TypeId) (cs : Array Value) (fr : Nat × Nat) (d : TypeDesc)
    (hp : tmps.getD p undef = .pointer (some ⟨g, 0, none⟩)) (hg : w.heap[g]? = some (.cells cs t fr))
    (hu : P.underlying ty = some d) (hd : (match d with | .struct _ | .array _ _ => true | _ => false) = true) (hi : (P.info? ty).map (·.size) = some cs.size) (x : Value) (hx : tmps.getD u undef = x) :
    (results fn tmps).run P w = .ok (.tuple #[.agg cs, x]) w := by
  rw [results_cell_tmp h, hp, hx]
  simp [asAddr, Result.andThen, run_loadVar_row w g t ty cs fr d hg hu hd hi]
end Go.Proofs.YtoofhaoaogoomaaGreat
