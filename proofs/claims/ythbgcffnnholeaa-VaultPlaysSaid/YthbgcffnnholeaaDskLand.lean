/- The package's disk: what it is in memory, and what stays of it. No statement of the seat is proved here. -/
import Derived.Test.YthbgcffnnholeaaVMB
import Derived.Deep.MidRow
namespace Go.Proofs.Ythbgcffnnholeaa
open Go.RowKit
set_option linter.unusedVariables false
set_option linter.unusedSimpArgs false

/-! ### Rows of rows -/
/-- The sectors one after the other. -/
def secs (n : Nat) (f : Nat → List UInt8) : List Value := (List.range n).flatMap fun i => bv (f i)
theorem secs_succ (n : Nat) (f : Nat → List UInt8) : secs (n + 1) f = secs n f ++ bv (f n) := by simp [secs, List.range_succ]
theorem secs_length {n : Nat} {f : Nat → List UInt8} (hf : ∀ i, (f i).length = 128) : (secs n f).length = n * 128 := by
  have := flat_len (fun i => bv (f i)) 128 (List.range n) fun i _ => by rw [bv_length, hf]
  rwa [List.length_range] at this
theorem secs_at {n i j : Nat} {f : Nat → List UInt8} (hf : ∀ i, (f i).length = 128) (h : i < n) (hj : j < 128) : (secs n f)[i * 128 + j]? = (bv (f i))[j]? := by
  have := flat_at (fun i => bv (f i)) 128 (List.range n) (fun i _ => by rw [bv_length, hf]) i (by simpa using h) j hj
  unfold secs
  simpa using this
theorem secs_congr {n : Nat} {f g : Nat → List UInt8} (h : ∀ i, i < n → f i = g i) : secs n f = secs n g := by
  induction n with
  | zero => rfl
  | succ n ih => rw [secs_succ, secs_succ, ih fun i hi => h i (by omega), h n (by omega)]
theorem splice_secs {f : Nat → List UInt8} (hf : ∀ i, (f i).length = 128) {i : Nat} {u : List UInt8} (hu : u.length ≤ 128) : ∀ {n : Nat}, i < n → splice (secs n f) (i * 128) (bv u) = secs n (updS f i (u ++ (f i).drop u.length))
  | 0, h => by omega
  | n + 1, h => by
    rw [secs_succ, secs_succ]
    by_cases e : i = n
    · subst e
      have h1 : secs i (updS f i (u ++ (f i).drop u.length)) = secs i f := secs_congr fun k hk => by rw [updS, if_neg (by omega)]
      have h2 := splice_right (secs i f) (bv (f i)) (bv u)
      rw [secs_length hf] at h2
      rw [h2, h1, updS, if_pos rfl, bv_append, bv_length]
      simp [bv, List.map_drop]
    · rw [splice_left _ _ _ _ (by rw [secs_length hf, bv_length]; omega), splice_secs hf hu (by omega)]
      congr 1
      rw [updS, if_neg (by omega)]
theorem upd_full {f : Nat → List UInt8} {i : Nat} {v : List UInt8} (hf : (f i).length = 128) (hv : v.length = 128) : v ++ (f i).drop v.length = v := by
  rw [List.drop_of_length_le (by omega), List.append_nil]
/-- The cells of a write. -/
def wc (p : Nat × List UInt8) : List Value := .int .i64 (p.1 : Nat) :: bv p.2
def wcs (l : List (Nat × List UInt8)) : List Value := l.flatMap wc
theorem wc_length {p : Nat × List UInt8} (h : p.2.length = 128) : (wc p).length = 129 := by simp [wc, bv_length, h]
theorem wcs_length {l : List (Nat × List UInt8)} (h : ∀ p ∈ l, p.2.length = 128) : (wcs l).length = l.length * 129 := flat_len wc 129 l fun p hp => wc_length (h p hp)
theorem wcs_at {l : List (Nat × List UInt8)} (h : ∀ p ∈ l, p.2.length = 128) {i j : Nat} (hi : i < l.length) (hj : j < 129) : (wcs l)[i * 129 + j]? = (wc l[i])[j]? := flat_at wc 129 l (fun p hp => wc_length (h p hp)) i hi j hj
theorem wcs_snoc (l : List (Nat × List UInt8)) (p : Nat × List UInt8) : wcs (l ++ [p]) = wcs l ++ wc p := by simp [wcs]
theorem wc_one (p : Nat × List UInt8) : ∀ v ∈ wc p, v.oneCell' = true := fun v hv => by
  rcases List.mem_cons.1 hv with h | h
  · rw [h]; rfl
  · exact bv_one _ v h
/-! ### Cells written over -/
/-! ### The disk -/
/-- Whether the power is off, whether it goes off and how many operations are left till then, how many were done. -/
structure Fl where
  dead : Bool
  cut : Bool
  left : Int
  cnt : Nat
abbrev lcells (An : Option Addr) (cn : Nat) (As : Option Addr) (cs : Nat) (Ap : Option Addr) (cp : Nat) (n p : Nat) (fl : Fl) : Array Value :=
  #[.slice An n cn, .slice As n cs, .slice Ap p cp, .bool fl.dead, .bool fl.cut, .int .i64 fl.left, .int .i64 (fl.cnt : Nat)]
/-- In w the block d is a disk of the package's with these sectors, sectors that are safe, and writes. -/
structure LD (w : World) (d : Nat) (An : Option Addr) (cn : Nat) (As : Option Addr) (cs : Nat) (Ap : Option Addr) (cp : Nat) (n : Nat) (N Sf : Nat → List UInt8) (ps : List (Nat × List UInt8)) (fl : Fl) : Prop where
  blk : Blk w d 70 (lcells An cn As cs Ap cp n ps.length fl)
  now : w.ownsRow 0 89 128 (.slice An n cn) n (secs n N)
  safe : w.ownsRow 0 89 128 (.slice As n cs) n (secs n Sf)
  put : w.ownsRow 0 91 129 (.slice Ap ps.length cp) ps.length (wcs ps)
  apart : ∀ g, (Value.slice An n cn).ownBlock = some g → (Value.slice As n cs).ownBlock ≠ some g
/-- Its blocks. -/
def LF (d : Nat) (An : Option Addr) (cn : Nat) (As : Option Addr) (cs : Nat) (Ap : Option Addr) (cp : Nat) (n p : Nat) (g : Nat) : Prop :=
  g = d ∨ (Value.slice An n cn).ownBlock = some g ∨ (Value.slice As n cs).ownBlock = some g ∨ (Value.slice Ap p cp).ownBlock = some g
section
variable {w w' : World} {d : Nat} {An : Option Addr} {cn : Nat} {As : Option Addr} {cs : Nat} {Ap : Option Addr} {cp : Nat} {n : Nat} {N Sf : Nat → List UInt8} {ps : List (Nat × List UInt8)} {fl fl' : Fl}
theorem LD.now_ne (h : LD w d An cn As cs Ap cp n N Sf ps fl) : ∀ g, (Value.slice An n cn).ownBlock = some g → g ≠ d ∧ (Value.slice Ap ps.length cp).ownBlock ≠ some g := fun g hv => by
  obtain ⟨_, cur, hb, _⟩ := row_blk h.now g hv
  refine ⟨blk_other hb h.blk (by decide), fun e => ?_⟩
  obtain ⟨_, cur2, hb2, _⟩ := row_blk h.put g e
  exact blk_other hb hb2 (by decide) rfl
theorem LD.safe_ne (h : LD w d An cn As cs Ap cp n N Sf ps fl) : ∀ g, (Value.slice As n cs).ownBlock = some g → g ≠ d ∧ (Value.slice Ap ps.length cp).ownBlock ≠ some g := fun g hv => by
  obtain ⟨_, cur, hb, _⟩ := row_blk h.safe g hv
  refine ⟨blk_other hb h.blk (by decide), fun e => ?_⟩
  obtain ⟨_, cur2, hb2, _⟩ := row_blk h.put g e
  exact blk_other hb hb2 (by decide) rfl
theorem LD.put_ne (h : LD w d An cn As cs Ap cp n N Sf ps fl) : ∀ g, (Value.slice Ap ps.length cp).ownBlock = some g → g ≠ d := fun g hv => by
  obtain ⟨_, cur, hb, _⟩ := row_blk h.put g hv
  exact blk_other hb h.blk (by decide)
theorem LD.lt (h : LD w d An cn As cs Ap cp n N Sf ps fl) : ∀ g, LF d An cn As cs Ap cp n ps.length g → g < w.heap.size := fun g hg => by
  rcases hg with rfl | hg | hg | hg
  · exact h.blk.lt
  · exact (World.ownsRow.lt h.now g hg).2
  · exact (World.ownsRow.lt h.safe g hg).2
  · exact (World.ownsRow.lt h.put g hg).2
theorem LD.keep (h : LD w d An cn As cs Ap cp n N Sf ps fl) (hk : ∀ g, LF d An cn As cs Ap cp n ps.length g → w'.heap[g]? = w.heap[g]?) : LD w' d An cn As cs Ap cp n N Sf ps fl :=
  ⟨h.blk.same (hk d (.inl rfl)), ownsRow_same h.now fun g hv _ => hk g (.inr (.inl hv)), ownsRow_same h.safe fun g hv _ => hk g (.inr (.inr (.inl hv))), ownsRow_same h.put fun g hv _ => hk g (.inr (.inr (.inr hv))), h.apart⟩
theorem LD.below (h : LD w d An cn As cs Ap cp n N Sf ps fl) (hb : Below w.heap.size w w') : LD w' d An cn As cs Ap cp n N Sf ps fl := h.keep fun g hg => hb.block g (h.lt g hg)
/-- A flag is written. -/
theorem LD.flag (h : LD w d An cn As cs Ap cp n N Sf ps fl) (i : Nat) (v : Value) (hd : (lcells An cn As cs Ap cp n ps.length fl).setIfInBounds i v = lcells An cn As cs Ap cp n ps.length fl') : LD (w.setCell ⟨d, i, none⟩ v) d An cn As cs Ap cp n N Sf ps fl' := by
  refine ⟨?_, ownsRow_same h.now fun g hv _ => setCell_block (h.now_ne g hv).1, ownsRow_same h.safe fun g hv _ => setCell_block (h.safe_ne g hv).1, ownsRow_same h.put fun g hv _ => setCell_block (h.put_ne g hv), h.apart⟩
  have := h.blk.set_ i v
  rw [hd] at this
  exact this
/-- A sector is written (the first bytes of it). -/
theorem LD.set_now (h : LD w d An cn As cs Ap cp n N Sf ps fl) (hN : ∀ i, (N i).length = 128) {i g : Nat} (hi : i < n) (hg : (Value.slice An n cn).ownBlock = some g) {u : List UInt8} (hu : u.length ≤ 128) :
    LD (w.setCells g (i * 128) (bv u)) d An cn As cs Ap cp n (updS N i (u ++ (N i).drop u.length)) Sf ps fl := by
  have hgr := grown_cells g (bv u) (i * 128) w
  have hb : ∀ k, k ≠ g → k < w.heap.size → (w.setCells g (i * 128) (bv u)).heap[k]? = w.heap[k]? := fun k hk hl => hgr.block k hl fun e => hk (Option.some.inj e)
  obtain ⟨h1, h2⟩ := h.now_ne g hg
  refine ⟨h.blk.same (hb d (fun e => h1 e.symm) h.blk.lt), ?_, ownsRow_same h.safe fun k hv hl => hb k (fun e => h.apart g hg (by rw [← e]; exact hv)) hl, ownsRow_same h.put fun k hv hl => hb k (fun e => h2 (by rw [← e]; exact hv)) hl, h.apart⟩
  rw [← splice_secs hN hu hi]
  exact row_splice h.now hg _ (by rw [bv_length]; omega)
theorem LD.set_safe (h : LD w d An cn As cs Ap cp n N Sf ps fl) (hS : ∀ i, (Sf i).length = 128) {i g : Nat} (hi : i < n) (hg : (Value.slice As n cs).ownBlock = some g) {u : List UInt8} (hu : u.length ≤ 128) :
    LD (w.setCells g (i * 128) (bv u)) d An cn As cs Ap cp n N (updS Sf i (u ++ (Sf i).drop u.length)) ps fl := by
  have hgr := grown_cells g (bv u) (i * 128) w
  have hb : ∀ k, k ≠ g → k < w.heap.size → (w.setCells g (i * 128) (bv u)).heap[k]? = w.heap[k]? := fun k hk hl => hgr.block k hl fun e => hk (Option.some.inj e)
  obtain ⟨h1, h2⟩ := h.safe_ne g hg
  refine ⟨h.blk.same (hb d (fun e => h1 e.symm) h.blk.lt), ownsRow_same h.now fun k hv hl => hb k (fun e => h.apart k hv (by rw [e]; exact hg)) hl, ?_, ownsRow_same h.put fun k hv hl => hb k (fun e => h2 (by rw [← e]; exact hv)) hl, h.apart⟩
  rw [← splice_secs hS hu hi]
  exact row_splice h.safe hg _ (by rw [bv_length]; omega)
/-- The writes are gone. -/
theorem LD.clear (h : LD w d An cn As cs Ap cp n N Sf ps fl) : LD (w.setCell ⟨d, 2, none⟩ (.slice none 0 0)) d An cn As cs none 0 n N Sf [] fl :=
  ⟨h.blk.set_ 2 _, ownsRow_same h.now fun g hv _ => setCell_block (h.now_ne g hv).1, ownsRow_same h.safe fun g hv _ => setCell_block (h.safe_ne g hv).1, World.ownsRow_nil _ _ _ _, h.apart⟩
/-- The sectors as other functions tell them. -/
theorem LD.as (h : LD w d An cn As cs Ap cp n N Sf ps fl) {N' Sf' : Nat → List UInt8} (h1 : ∀ i, i < n → N i = N' i) (h2 : ∀ i, i < n → Sf i = Sf' i) : LD w d An cn As cs Ap cp n N' Sf' ps fl :=
  ⟨h.blk, secs_congr h1 ▸ h.now, secs_congr h2 ▸ h.safe, h.put, h.apart⟩
/-- Where a sector lies. -/
theorem LD.at_now (h : LD w d An cn As cs Ap cp n N Sf ps fl) (hN : ∀ i, (N i).length = 128) {i : Nat} (hi : i < n) : ∃ g, An = some ⟨g, 0, none⟩ ∧ (Value.slice An n cn).ownBlock = some g ∧ w.rangeAt g (i * 128) (bv (N i)) ∧ w.there g (i * 128) 128 := by
  obtain ⟨g, hA, ho, _, hr⟩ := row_at h.now (by omega)
  have hl : (bv (N i)).length = 128 := by rw [bv_length, hN]
  have hc : ∀ j, j < 128 → (secs n N)[i * 128 + j]? = (bv (N i))[j]? := fun j hj => secs_at hN hi hj
  refine ⟨g, hA, ho, fun j v hv => (hr _ _ (by rw [hc j (by have := (List.getElem?_eq_some_iff.1 hv).1; omega)]; exact hv)).1, fun j hj => ?_⟩
  have h1 := hr (i * 128 + j) _ (by rw [hc j hj, List.getElem?_eq_getElem (by omega)])
  exact ⟨by rw [h1.1]; rfl, h1.2⟩
theorem LD.at_safe (h : LD w d An cn As cs Ap cp n N Sf ps fl) (hS : ∀ i, (Sf i).length = 128) {i : Nat} (hi : i < n) : ∃ g, As = some ⟨g, 0, none⟩ ∧ (Value.slice As n cs).ownBlock = some g ∧ w.rangeAt g (i * 128) (bv (Sf i)) ∧ w.there g (i * 128) 128 := by
  obtain ⟨g, hA, ho, _, hr⟩ := row_at h.safe (by omega)
  have hl : (bv (Sf i)).length = 128 := by rw [bv_length, hS]
  have hc : ∀ j, j < 128 → (secs n Sf)[i * 128 + j]? = (bv (Sf i))[j]? := fun j hj => secs_at hS hi hj
  refine ⟨g, hA, ho, fun j v hv => (hr _ _ (by rw [hc j (by have := (List.getElem?_eq_some_iff.1 hv).1; omega)]; exact hv)).1, fun j hj => ?_⟩
  have h1 := hr (i * 128 + j) _ (by rw [hc j hj, List.getElem?_eq_getElem (by omega)])
  exact ⟨by rw [h1.1]; rfl, h1.2⟩
theorem LD.at_put (h : LD w d An cn As cs Ap cp n N Sf ps fl) (hp : ∀ p ∈ ps, p.2.length = 128) {i : Nat} (hi : i < ps.length) : ∃ g, Ap = some ⟨g, 0, none⟩ ∧ (Value.slice Ap ps.length cp).ownBlock = some g ∧ w.rangeAt g (i * 129) (wc ps[i]) := by
  obtain ⟨g, hA, ho, _, hr⟩ := row_at h.put (by omega)
  have hl := wc_length (hp ps[i] (List.getElem_mem hi))
  exact ⟨g, hA, ho, fun j v hv => (hr _ _ (by rw [wcs_at hp hi (by have := (List.getElem?_eq_some_iff.1 hv).1; omega)]; exact hv)).1⟩
/-- A write more. -/
theorem LD.push (h : LD w d An cn As cs Ap cp n N Sf ps fl) {w3 : World} {A3 : Option Addr} {c3 : Nat} {q : Nat × List UInt8} (hg : w.grownBy w3 (Value.slice Ap ps.length cp).ownBlock) (ho : w3.ownsRow 0 91 129 (.slice A3 (ps.length + 1) c3) (ps.length + 1) (wcs (ps ++ [q]))) :
    (w3.cell? ⟨d, 2, none⟩ = some (.slice Ap ps.length cp) ∧ w3.frozen? ⟨d, 2, none⟩ = false) ∧ LD (w3.setCell ⟨d, 2, none⟩ (.slice A3 (ps.length + 1) c3)) d An cn As cs A3 c3 n N Sf (ps ++ [q]) fl := by
  have hd3 : Blk w3 d 70 (lcells An cn As cs Ap cp n ps.length fl) := h.blk.same (hg.block d h.blk.lt fun e => h.put_ne d e.symm rfl)
  refine ⟨⟨hd3.cell 2, hd3.frozen 2⟩, ?_⟩
  have hl : (ps ++ [q]).length = ps.length + 1 := by simp
  have h3 : ∀ g, (Value.slice A3 (ps.length + 1) c3).ownBlock = some g → g ≠ d := fun g hv => by
    obtain ⟨_, cur, hb, _⟩ := row_blk ho g hv
    exact blk_other hb hd3 (by decide)
  refine ⟨?_, ?_, ?_, ?_, h.apart⟩
  · rw [hl]
    exact hd3.set_ 2 _
  · exact ownsRow_same (ownsRow_same h.now fun g hv hlt => hg.block g hlt fun e => (h.now_ne g hv).2 e.symm) fun g hv _ => setCell_block (h.now_ne g hv).1
  · exact ownsRow_same (ownsRow_same h.safe fun g hv hlt => hg.block g hlt fun e => (h.safe_ne g hv).2 e.symm) fun g hv _ => setCell_block (h.safe_ne g hv).1
  · rw [hl]
    exact ownsRow_same ho fun g hv _ => setCell_block (h3 g hv)
end
/-! ### Its state -/
/-- The flags tell the state's. -/
structure FlOk (S : DS) (fl : Fl) : Prop where
  dead : fl.dead = S.off
  cnt : fl.cnt = S.cnt
  i64 : In64 fl.left
  left : S.off = false → S.left = if fl.cut = true then fl.left else -1
  pos : fl.cut = true → 0 ≤ fl.left
def beginF (fl : Fl) : Fl × Bool :=
  if (fl.dead || (fl.cut && fl.left == 0)) = true then ({ fl with dead := true }, false) else ({ fl with left := if fl.cut = true then fl.left - 1 else fl.left, cnt := fl.cnt + 1 }, true)
theorem FlOk.begin {S : DS} {fl : Fl} (h : FlOk S fl) (hk : S.Ok) : (beginF fl).2 = !(tickS S).off ∧ ((tickS S).off = true → FlOk (tickS S) (beginF fl).1) ∧ ((tickS S).off = false → ∀ S' : DS, S'.off = false → S'.left = (doneS (tickS S)).left → S'.cnt = (doneS (tickS S)).cnt → FlOk S' (beginF fl).1) := by
  obtain ⟨dead, cut, left, cnt⟩ := fl
  obtain ⟨h1, h2, h3, h4, h5⟩ := h
  simp only at h1 h2 h3 h4 h5
  subst h1 h2
  have hl := hk.left
  have ho := hk.off
  unfold In64 at h3
  unfold tickS doneS
  cases e : S.off with
  | true =>
    have e2 := ho e
    rw [if_neg (show ¬ S.left = 0 by rw [e2]; decide)]
    simp only [beginF, e, Bool.true_or, if_true]
    refine ⟨by simp [e], fun _ => ⟨by simp [e], rfl, h3, fun h => by simp [e] at h, h5⟩, fun h => by simp [e] at h⟩
  | false =>
    have e2 := h4 e
    cases cut with
    | false =>
      simp only [Bool.false_eq_true, if_false] at e2
      rw [if_neg (show ¬ S.left = 0 by rw [e2]; decide)]
      simp only [beginF, e, Bool.false_or, Bool.false_and, Bool.false_eq_true, if_false]
      refine ⟨rfl, fun h => by simp at h, fun _ S' a1 a2 a3 => ⟨by simp [a1], by simp [a3], h3, fun _ => ?_, fun h => by simp at h⟩⟩
      rw [a2, e2]; simp
    | true =>
      have h5 := h5 rfl
      simp only [if_true] at e2
      by_cases z : left = 0
      · subst z
        rw [if_pos e2]
        simp only [beginF, e, Bool.false_or, Bool.true_and, beq_self_eq_true, if_true]
        refine ⟨rfl, fun _ => ⟨rfl, rfl, h3, fun h => by simp at h, fun _ => by simp⟩, fun h => by simp at h⟩
      · rw [if_neg (show ¬ S.left = 0 by omega)]
        have z2 : (left == 0) = false := by simpa using z
        simp only [beginF, e, z2, Bool.false_or, Bool.and_false, Bool.false_eq_true, if_false, if_true]
        refine ⟨rfl, fun h => by simp at h, fun _ S' a1 a2 a3 => ⟨by simp [a1], by simp [a3], (show -9223372036854775808 ≤ left - 1 ∧ left - 1 ≤ 9223372036854775807 by omega), fun _ => ?_, fun _ => by show 0 ≤ left - 1; omega⟩⟩
        rw [a2, e2, if_pos (by omega)]
        rfl
/-- The package's disks, as the walks of the statements use them. -/
def Lst (w : World) (s : Addr) (F : Nat → Prop) (S : DS) : Prop :=
  ∃ d An cn As cs Ap cp fl, s = ⟨d, 0, none⟩ ∧ LD w d An cn As cs Ap cp S.n (nowS S) S.safe S.put fl ∧ S.Ok ∧ FlOk S fl ∧ ∀ g, F g ↔ LF d An cn As cs Ap cp S.n S.put.length g
theorem lst_lt {w : World} {s : Addr} {F : Nat → Prop} {S : DS} (h : Lst w s F S) : ∀ g, F g → g < w.heap.size := by
  obtain ⟨d, An, cn, As, cs, Ap, cp, fl, _, hd, _, _, hF⟩ := h
  exact fun g hg => hd.lt g ((hF g).1 hg)
theorem lst_keep {w w' : World} {s : Addr} {F : Nat → Prop} {S : DS} (h : Lst w s F S) (hk : ∀ g, F g → w'.heap[g]? = w.heap[g]?) : Lst w' s F S := by
  obtain ⟨d, An, cn, As, cs, Ap, cp, fl, e, hd, ho, hf, hF⟩ := h
  exact ⟨d, An, cn, As, cs, Ap, cp, fl, e, hd.keep fun g hg => hk g ((hF g).2 hg), ho, hf, hF⟩
end Go.Proofs.Ythbgcffnnholeaa
