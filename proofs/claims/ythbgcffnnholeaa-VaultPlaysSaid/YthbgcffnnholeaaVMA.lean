/- Plain mathematics for package codec: lists of bytes, big-endian numbers, their value and their order. No statement of the seat is proved here; nothing of the program is imported. -/
import Derived.WalkKit
import Derived.Lib.AppendStr
namespace Go.Proofs.Ythbgcffnnholeaa
open Go.RowKit

/-- A list of bytes as cells. -/
def bv (l : List UInt8) : List Value := l.map fun b => Value.int .u8 b.toNat
theorem bv_length (l : List UInt8) : (bv l).length = l.length := by simp [bv]
theorem bv_append (l m : List UInt8) : bv (l ++ m) = bv l ++ bv m := by simp [bv]
theorem bv_oneCell (l : List UInt8) : ∀ u ∈ bv l, u.oneCell' = true := by
  intro u hu
  simp only [bv, List.mem_map] at hu
  obtain ⟨b, _, rfl⟩ := hu
  rfl
theorem bv_get {l : List UInt8} {j : Nat} (h : j < l.length) : (bv l)[j]? = some (.int .u8 l[j].toNat) := by simp [bv, h]
theorem bv_strCells (s : ByteArray) : Lib.strCells s = bv s.data.toList := rfl
theorem bv_take (l : List UInt8) (k : Nat) : bv (l.take k) = (bv l).take k := by simp [bv]
theorem bv_drop (l : List UInt8) (k : Nat) : bv (l.drop k) = (bv l).drop k := by simp [bv]

/-- The k lowest bytes of n, the most significant one first. -/
def be : Nat → Nat → List UInt8
  | 0, _ => []
  | k + 1, n => UInt8.ofNat (n / 256 ^ k) :: be k n
theorem be_length (k n : Nat) : (be k n).length = k := by
  induction k with
  | zero => rfl
  | succ k ih => simp [be, ih]

/-- The number whose bytes those are, the most significant one first. -/
def val (l : List UInt8) : Nat := l.foldl (fun a c => a * 256 + c.toNat) 0
theorem val_nil : val [] = 0 := rfl
theorem val_snoc (l : List UInt8) (c : UInt8) : val (l ++ [c]) = val l * 256 + c.toNat := by simp [val, List.foldl_append]
theorem foldl_val (l : List UInt8) (a : Nat) : l.foldl (fun a c => a * 256 + c.toNat) a = a * 256 ^ l.length + val l := by
  induction l generalizing a with
  | nil => simp [val]
  | cons c l ih =>
    simp only [List.foldl_cons, val, List.length_cons, Nat.zero_mul, Nat.zero_add]
    rw [ih, ih c.toNat, Nat.pow_succ, Nat.add_mul, Nat.mul_assoc, Nat.mul_comm (256 ^ l.length) 256]
    simp only [val, Nat.add_assoc]
theorem val_cons (c : UInt8) (l : List UInt8) : val (c :: l) = c.toNat * 256 ^ l.length + val l := by
  have := foldl_val l c.toNat
  simpa [val] using this
theorem val_lt (l : List UInt8) : val l < 256 ^ l.length := by
  induction l with
  | nil => simp [val]
  | cons c l ih =>
    rw [val_cons, List.length_cons, Nat.pow_succ]
    have := c.toNat_lt
    have h2 : c.toNat * 256 ^ l.length ≤ 255 * 256 ^ l.length := Nat.mul_le_mul_right _ (by omega)
    omega
theorem val_append (l m : List UInt8) : val (l ++ m) = val l * 256 ^ m.length + val m := by
  unfold val
  rw [List.foldl_append]
  exact foldl_val m _
theorem val_be (k n : Nat) : val (be k n) = n % 256 ^ k := by
  induction k with
  | zero => simp [be, val, Nat.mod_one]
  | succ k ih =>
    rw [be, val_cons, be_length, ih, Nat.pow_succ, Nat.mod_mul]
    simp [UInt8.toNat_ofNat']
    rw [Nat.mul_comm]
    omega
theorem val_be_of_lt {k n : Nat} (h : n < 256 ^ k) : val (be k n) = n := by rw [val_be, Nat.mod_eq_of_lt h]
theorem be_val (l : List UInt8) : be l.length (val l) = l := by
  induction l with
  | nil => rfl
  | cons c l ih =>
    rw [List.length_cons, be, val_cons]
    have hl := val_lt l
    have hp : 0 < 256 ^ l.length := Nat.pow_pos (by omega)
    congr 1
    · rw [Nat.add_comm, Nat.mul_comm, Nat.add_mul_div_left _ _ hp, Nat.div_eq_of_lt hl]; simp
    · have key : ∀ (k a b : Nat), be k (a * 256 ^ k + b) = be k b := by
        intro k
        induction k with
        | zero => intros; rfl
        | succ k ihk =>
          intro a b
          have hpk : 0 < 256 ^ k := Nat.pow_pos (by omega)
          simp only [be]
          have e : a * 256 ^ (k + 1) = (a * 256) * 256 ^ k := by rw [Nat.pow_succ]; rw [Nat.mul_assoc, Nat.mul_comm 256]
          rw [e, ihk]
          congr 1
          rw [Nat.add_comm, Nat.mul_comm (a * 256), Nat.add_mul_div_left _ _ hpk]
          apply UInt8.toNat_inj.1
          simp [UInt8.toNat_ofNat']
      rw [key]; exact ih

/-- The Go text's step: the shifted number, joined with a byte. -/
theorem shl_or (a c : Nat) (hc : c < 256) : (a <<< 8) ||| c = a * 256 + c := by
  rw [← Nat.shiftLeft_add_eq_or_of_lt (by simpa using hc) a, Nat.shiftLeft_eq]
end Go.Proofs.Ythbgcffnnholeaa
/- Plain mathematics for package disk: a disk's state and what the operations make of it. No statement of the seat is proved here; nothing of the program is imported. -/
namespace Go.Proofs.Ythbgcffnnholeaa
set_option linter.unusedVariables false

def updS (f : Nat → List UInt8) (k : Nat) (v : List UInt8) : Nat → List UInt8 := fun i => if i = k then v else f i
/-- Bytes of a sector. -/
def padS (b : List UInt8) : List UInt8 := b ++ List.replicate (128 - b.length) 0
theorem padS_length {b : List UInt8} (h : b.length ≤ 128) : (padS b).length = 128 := by simp [padS]; omega
theorem padS_full {b : List UInt8} (h : b.length = 128) : padS b = b := by simp [padS, h]
/-- A disk: its sectors that are safe, the writes that are not, whether the power is off, the operations till it goes off (below 0: it does not), how many were done. -/
structure DS where
  n : Nat
  safe : Nat → List UInt8
  put : List (Nat × List UInt8)
  off : Bool
  left : Int
  cnt : Nat
def newS (n : Nat) : DS := ⟨n, fun _ => padS [], [], false, -1, 0⟩
/-- The power goes off now, if it is time. -/
def tickS (S : DS) : DS := if S.left = 0 then { S with off := true, left := -1 } else S
/-- An operation was done. -/
def doneS (S : DS) : DS := { S with cnt := S.cnt + 1, left := if 0 < S.left then S.left - 1 else S.left }
/-- The writes one after the other. -/
def flushL : List (Nat × List UInt8) → (Nat → List UInt8) → Nat → List UInt8
  | [], s => s
  | p :: ps, s => flushL ps (updS s p.1 p.2)
/-- The first bytes of each write. -/
def crashL (f : Nat → Nat) : Nat → List (Nat × List UInt8) → (Nat → List UInt8) → Nat → List UInt8
  | _, [], s => s
  | i, p :: ps, s => crashL f (i + 1) ps (updS s p.1 (p.2.take (f i) ++ (s p.1).drop (f i)))
/-- A write's fate. -/
def fateI (x : Int) : Nat := (max 0 (min x 128)).toNat
def fateL (l : List Int) (i : Nat) : Nat := match l[i]? with
  | some x => fateI x
  | none => 0
def badW (S : DS) (at_ : Int) (k : Nat) : Prop := at_ < 0 ∨ (S.n : Int) ≤ at_ ∨ 128 < k
instance (S : DS) (at_ : Int) (k : Nat) : Decidable (badW S at_ k) := inferInstanceAs (Decidable (_ ∨ _))
def writeS (S : DS) (at_ : Int) (b : List UInt8) : DS := if badW S at_ b.length then S else if (tickS S).off = true then tickS S else doneS { tickS S with put := S.put ++ [(at_.toNat, padS b)] }
def writeE (S : DS) (at_ : Int) (k : Nat) : Nat := if badW S at_ k then 1 else if (tickS S).off = true then 6 else 0
def flushS (S : DS) : DS := if (tickS S).off = true then tickS S else doneS { tickS S with safe := flushL S.put S.safe, put := [] }
def flushE (S : DS) : Nat := if (tickS S).off = true then 6 else 0
def nowS (S : DS) (k : Nat) : List UInt8 := flushL S.put S.safe k
def readE (S : DS) (at_ : Int) : Nat := if at_ < 0 ∨ (S.n : Int) ≤ at_ then 1 else if S.off = true then 6 else 0
def readS (S : DS) (at_ : Int) : List UInt8 := if readE S at_ = 0 then nowS S at_.toNat else []
def cutS (S : DS) (after : Int) : DS := if S.off = true then S else { S with left := max after (-1) }
def crashS (S : DS) (fates : List Int) : DS := { S with safe := crashL (fateL fates) 0 S.put S.safe, put := [], off := false, left := -1 }
/-- What holds of each state. -/
structure DS.Ok (S : DS) : Prop where
  le : S.n ≤ 16384
  safe : ∀ i, (S.safe i).length = 128
  at_ : ∀ p ∈ S.put, p.1 < S.n
  put : ∀ p ∈ S.put, p.2.length = 128
  left : -1 ≤ S.left ∧ S.left ≤ 9223372036854775807
  off : S.off = true → S.left = -1
theorem updS_len {f : Nat → List UInt8} {k : Nat} {v : List UInt8} (hf : ∀ i, (f i).length = 128) (hv : v.length = 128) : ∀ i, (updS f k v i).length = 128 := fun i => by
  unfold updS; split
  · exact hv
  · exact hf i
theorem flushL_len : ∀ (ps : List (Nat × List UInt8)) (s : Nat → List UInt8), (∀ i, (s i).length = 128) → (∀ p ∈ ps, p.2.length = 128) → ∀ i, (flushL ps s i).length = 128
  | [], s, hs, _ => hs
  | p :: ps, s, hs, hp => flushL_len ps _ (updS_len hs (hp p (by simp))) fun q hq => hp q (by simp [hq])
theorem torn_len {x y : List UInt8} {k : Nat} (hx : x.length = 128) (hy : y.length = 128) : (x.take k ++ y.drop k).length = 128 := by simp [hx, hy]; omega
theorem crashL_len (f : Nat → Nat) : ∀ (i : Nat) (ps : List (Nat × List UInt8)) (s : Nat → List UInt8), (∀ i, (s i).length = 128) → (∀ p ∈ ps, p.2.length = 128) → ∀ j, (crashL f i ps s j).length = 128
  | _, [], s, hs, _ => hs
  | i, p :: ps, s, hs, hp => crashL_len f (i + 1) ps _ (updS_len hs (torn_len (hp p (by simp)) (hs _))) fun q hq => hp q (by simp [hq])
theorem flushL_snoc : ∀ (ps : List (Nat × List UInt8)) (s : Nat → List UInt8) (p : Nat × List UInt8), flushL (ps ++ [p]) s = updS (flushL ps s) p.1 p.2
  | [], s, p => rfl
  | q :: ps, s, p => flushL_snoc ps _ p
theorem crashL_snoc (f : Nat → Nat) : ∀ (i : Nat) (ps : List (Nat × List UInt8)) (s : Nat → List UInt8) (p : Nat × List UInt8), crashL f i (ps ++ [p]) s = updS (crashL f i ps s) p.1 (p.2.take (f (i + ps.length)) ++ (crashL f i ps s p.1).drop (f (i + ps.length)))
  | i, [], s, p => rfl
  | i, q :: ps, s, p => by
    show crashL f (i + 1) (ps ++ [p]) _ = _
    rw [crashL_snoc f (i + 1) ps _ p, List.length_cons, show i + 1 + ps.length = i + (ps.length + 1) by omega]
    rfl
theorem flushL_other {k : Nat} : ∀ (ps : List (Nat × List UInt8)) (s : Nat → List UInt8), (∀ p ∈ ps, p.1 ≠ k) → flushL ps s k = s k
  | [], s, _ => rfl
  | p :: ps, s, h => by
    rw [flushL, flushL_other ps _ fun q hq => h q (by simp [hq]), updS, if_neg fun e => h p (by simp) e.symm]
theorem crashL_other (f : Nat → Nat) {k : Nat} : ∀ (i : Nat) (ps : List (Nat × List UInt8)) (s : Nat → List UInt8), (∀ p ∈ ps, p.1 ≠ k) → crashL f i ps s k = s k
  | _, [], s, _ => rfl
  | i, p :: ps, s, h => by
    rw [crashL, crashL_other f (i + 1) ps _ fun q hq => h q (by simp [hq]), updS, if_neg fun e => h p (by simp) e.symm]
theorem DS.Ok.new {n : Nat} (h : n ≤ 16384) : (newS n).Ok := ⟨h, fun _ => padS_length (by simp), by simp [newS], by simp [newS], by simp [newS], by simp [newS]⟩
section
variable {S : DS}
theorem DS.Ok.tick (h : S.Ok) : (tickS S).Ok := by
  unfold tickS; split
  · exact ⟨h.le, h.safe, h.at_, h.put, by simp, fun _ => rfl⟩
  · exact h
theorem DS.Ok.done (h : S.Ok) (ho : S.off = false) : (doneS S).Ok := by
  have hl := h.left
  refine ⟨h.le, h.safe, h.at_, h.put, ?_, fun e => ?_⟩
  · show -1 ≤ (if 0 < S.left then S.left - 1 else S.left) ∧ _
    simp only [doneS]
    split <;> omega
  · have : S.off = true := e
    rw [ho] at this; cases this
theorem tickS_n : (tickS S).n = S.n := by unfold tickS; split <;> rfl
theorem tickS_put : (tickS S).put = S.put := by unfold tickS; split <;> rfl
theorem tickS_safe : (tickS S).safe = S.safe := by unfold tickS; split <;> rfl
theorem tickS_cnt : (tickS S).cnt = S.cnt := by unfold tickS; split <;> rfl
theorem DS.Ok.write (h : S.Ok) (at_ : Int) (b : List UInt8) : (writeS S at_ b).Ok := by
  unfold writeS
  split
  · exact h
  · rename_i hb
    split
    · exact h.tick
    · rename_i ho
      have ht := h.tick
      unfold badW at hb
      refine DS.Ok.done (S := { tickS S with put := S.put ++ [(at_.toNat, padS b)] }) ⟨ht.le, ht.safe, fun p hp => ?_, fun p hp => ?_, ht.left, ht.off⟩ (by simpa using ho)
      · show p.1 < (tickS S).n
        rw [tickS_n]
        rcases List.mem_append.1 hp with hp | hp
        · exact h.at_ p hp
        · rw [List.mem_singleton.1 hp]
          show at_.toNat < S.n
          omega
      · rcases List.mem_append.1 hp with hp | hp
        · exact h.put p hp
        · rw [List.mem_singleton.1 hp]
          exact padS_length (by omega)
theorem DS.Ok.flush (h : S.Ok) : (flushS S).Ok := by
  unfold flushS
  split
  · exact h.tick
  · rename_i ho
    have ht := h.tick
    exact DS.Ok.done (S := { tickS S with safe := flushL S.put S.safe, put := [] }) ⟨ht.le, flushL_len _ _ h.safe h.put, by simp, by simp, ht.left, ht.off⟩ (by simpa using ho)
theorem DS.Ok.cut (h : S.Ok) {after : Int} (ha : after ≤ 9223372036854775807) : (cutS S after).Ok := by
  unfold cutS
  split
  · exact h
  · rename_i ho
    exact ⟨h.le, h.safe, h.at_, h.put, by simp only []; omega, fun e => absurd e ho⟩
theorem DS.Ok.crash (h : S.Ok) (fates : List Int) : (crashS S fates).Ok := ⟨h.le, crashL_len _ _ _ _ h.safe h.put, by simp [crashS], by simp [crashS], by simp [crashS], by simp [crashS]⟩
theorem DS.Ok.now (h : S.Ok) (k : Nat) : (nowS S k).length = 128 := flushL_len _ _ h.safe h.put k
theorem fateI_le (x : Int) : fateI x ≤ 128 := by unfold fateI; omega
theorem fateL_le (l : List Int) (i : Nat) : fateL l i ≤ 128 := by
  unfold fateL
  split
  · exact fateI_le _
  · omega
end
end Go.Proofs.Ythbgcffnnholeaa
/- Plain mathematics for package vault: shelves of a disk, what Put and Get make of them. No statement of the seat is proved here; nothing of the program is imported. -/
namespace Go.Proofs.Ythbgcffnnholeaa
set_option linter.unusedVariables false

/-- Where shelves lie: from a sector on, so many sectors each, so many shelves. -/
structure VS where
  from_ : Nat
  each : Nat
  n : Nat
/-- Where shelves may lie on a disk of so many sectors. -/
def FitV (size : Nat) (f e n : Int) : Prop := 0 ≤ f ∧ f ≤ size ∧ 1 ≤ e ∧ e ≤ 16384 ∧ 0 ≤ n ∧ f + n * e ≤ size
instance (size : Nat) (f e n : Int) : Decidable (FitV size f e n) := inferInstanceAs (Decidable (_ ∧ _))
structure VS.Fits (V : VS) (size : Nat) : Prop where
  each : 1 ≤ V.each ∧ V.each ≤ 16384
  all : V.from_ + V.n * V.each ≤ size
theorem FitV.fits {size : Nat} {f e n : Int} (h : FitV size f e n) : VS.Fits ⟨f.toNat, e.toNat, n.toNat⟩ size := by
  obtain ⟨h1, h2, h3, h4, h5, h6⟩ := h
  obtain ⟨f, rfl⟩ := Int.eq_ofNat_of_zero_le h1
  obtain ⟨e, rfl⟩ := Int.eq_ofNat_of_zero_le (show 0 ≤ e by omega)
  obtain ⟨n, rfl⟩ := Int.eq_ofNat_of_zero_le h5
  have h7 : ((n * e : Nat) : Int) = (n : Int) * e := Int.natCast_mul n e
  exact ⟨⟨by simp; omega, by simp; omega⟩, by simp; omega⟩
/-- How many bytes a shelf has room for. -/
def VS.room (V : VS) : Nat := 128 * V.each - 4
/-- The first sector of a shelf. -/
def VS.first (V : VS) (i : Nat) : Nat := V.from_ + i * V.each
theorem VS.Fits.in_ {V : VS} {size i j : Nat} (h : V.Fits size) (hi : i < V.n) (hj : j < V.each) : V.first i + j < size := by
  have h1 := h.all
  have h2 : (i + 1) * V.each ≤ V.n * V.each := Nat.mul_le_mul_right _ (by omega)
  rw [Nat.add_mul] at h2
  unfold VS.first
  omega
/-- How many sectors so many bytes need. -/
def nSec (n : Nat) : Nat := (n + 127) / 128
/-- Sectors are written one after the other, from a on, as long as it goes: what is left of the bytes, how many sectors. -/
def putL : Nat → DS → Nat → List UInt8 → DS × Nat
  | 0, S, _, _ => (S, 0)
  | k + 1, S, a, x => if writeE S a (x.take 128).length = 0 then putL k (writeS S a (x.take 128)) (a + 1) (x.drop 128) else (writeS S a (x.take 128), writeE S a (x.take 128).length)
/-- What is written for so many bytes. -/
def headB (b : List UInt8) : List UInt8 := be 4 b.length ++ b
theorem headB_length (b : List UInt8) : (headB b).length = b.length + 4 := by simp [headB, be_length]; omega
def putV (V : VS) (S : DS) (at_ : Int) (b : List UInt8) : DS × Nat :=
  if at_ < 0 ∨ (V.n : Int) ≤ at_ then (S, 1) else if V.room < b.length then (S, 4) else putL (nSec (b.length + 4)) S (V.first at_.toNat) (headB b)
/-- So many sectors from a on. -/
def rowS (S : DS) (a : Nat) : Nat → List UInt8
  | 0 => []
  | k + 1 => rowS S a k ++ nowS S (a + k)
/-- A shelf's sectors. -/
def VS.row (V : VS) (S : DS) (i : Nat) : List UInt8 := rowS S (V.first i) V.each
def vgetE (V : VS) (S : DS) (at_ : Int) : Nat :=
  if at_ < 0 ∨ (V.n : Int) ≤ at_ then 1 else if S.off = true then 6 else if V.room < val ((V.row S at_.toNat).take 4) then 110 else 0
def vgetB (V : VS) (S : DS) (at_ : Int) : List UInt8 :=
  if vgetE V S at_ = 0 then ((V.row S at_.toNat).drop 4).take (val ((V.row S at_.toNat).take 4)) else []
theorem rowS_length {S : DS} (h : S.Ok) (a : Nat) : ∀ k, (rowS S a k).length = k * 128
  | 0 => rfl
  | k + 1 => by rw [rowS, List.length_append, rowS_length h a k, h.now]; omega
theorem VS.row_length {S : DS} (h : S.Ok) (V : VS) (i : Nat) : (V.row S i).length = V.each * 128 := rowS_length h _ _
theorem vgetB_length {V : VS} {S : DS} (h : S.Ok) (he : 1 ≤ V.each) (at_ : Int) : (vgetB V S at_).length ≤ V.room := by
  unfold vgetB
  split
  · rename_i h0
    unfold vgetE at h0
    split at h0
    · cases h0
    · split at h0
      · cases h0
      · split at h0
        · cases h0
        · rw [List.length_take]; omega
  · simp
theorem nowS_length {S : DS} (h : S.Ok) (k : Nat) : (nowS S k).length = 128 := h.now k
theorem readE_in {S : DS} {k : Nat} (h : k < S.n) : readE S k = if S.off = true then 6 else 0 := by
  unfold readE
  rw [if_neg (by omega)]
theorem putL_go {k a : Nat} {S : DS} {x : List UInt8} (h : writeE S a (x.take 128).length = 0) : putL (k + 1) S a x = putL k (writeS S a (x.take 128)) (a + 1) (x.drop 128) := by
  show (if _ then _ else _) = _
  rw [if_pos h]
theorem putL_stop {k a : Nat} {S : DS} {x : List UInt8} (h : writeE S a (x.take 128).length ≠ 0) : putL (k + 1) S a x = (writeS S a (x.take 128), writeE S a (x.take 128).length) := by
  show (if _ then _ else _) = _
  rw [if_neg h]
theorem putL_grow : ∀ k S a x, (putL k S a x).1.put.length ≤ S.put.length + k ∧ (putL k S a x).1.cnt ≤ S.cnt + k ∧ (putL k S a x).1.n = S.n
  | 0, S, a, x => ⟨Nat.le_refl _, Nat.le_refl _, rfl⟩
  | k + 1, S, a, x => by
    have h1 : (writeS S a (x.take 128)).put.length ≤ S.put.length + 1 ∧ (writeS S a (x.take 128)).cnt ≤ S.cnt + 1 ∧ (writeS S a (x.take 128)).n = S.n := by
      unfold writeS
      split
      · exact ⟨by omega, by omega, rfl⟩
      · split
        · exact ⟨by rw [tickS_put]; omega, by rw [tickS_cnt]; omega, tickS_n⟩
        · simp only [doneS]
          exact ⟨by rw [List.length_append]; simp, by rw [tickS_cnt]; omega, tickS_n⟩
    unfold putL
    split
    · have h2 := putL_grow k (writeS S a (x.take 128)) (a + 1) (x.drop 128)
      exact ⟨by omega, by omega, h2.2.2.trans h1.2.2⟩
    · exact ⟨Nat.le_trans h1.1 (by omega), Nat.le_trans h1.2.1 (by omega), h1.2.2⟩
theorem putL_ok : ∀ k (S : DS) a x, S.Ok → (putL k S a x).1.Ok
  | 0, S, a, x, h => h
  | k + 1, S, a, x, h => by
    unfold putL
    split
    · exact putL_ok k _ _ _ (h.write a _)
    · exact h.write a _
theorem putV_ok (V : VS) {S : DS} (at_ : Int) (b : List UInt8) (h : S.Ok) : (putV V S at_ b).1.Ok := by
  unfold putV
  split
  · exact h
  · split
    · exact h
    · exact putL_ok _ _ _ _ h
theorem putV_grow (V : VS) (S : DS) (at_ : Int) (b : List UInt8) : (putV V S at_ b).1.put.length ≤ S.put.length + nSec (b.length + 4) ∧ (putV V S at_ b).1.cnt ≤ S.cnt + nSec (b.length + 4) ∧ (putV V S at_ b).1.n = S.n := by
  unfold putV
  split
  · exact ⟨by simp, by simp, rfl⟩
  · split
    · exact ⟨by simp, by simp, rfl⟩
    · exact putL_grow _ _ _ _
end Go.Proofs.Ythbgcffnnholeaa
/- What a reader's Get returns, leaves, and its fault behind it (the package's and the reference's alike). No statement of the seat is proved here; nothing of the program is imported. -/
namespace Go.Proofs.Ythbgcffnnholeaa
open Go.RowKit

/-- What Get returns, leaves, and its fault behind it. -/
def getV (l : List UInt8) (f many : Int) : Nat := if f = 0 ∧ 0 ≤ many ∧ many ≤ 8 ∧ many ≤ l.length then val (l.take many.toNat) else 0
def getL (l : List UInt8) (f many : Int) : List UInt8 := if f = 0 ∧ 0 ≤ many ∧ many ≤ 8 ∧ many ≤ l.length then l.drop many.toNat else l
def getF (l : List UInt8) (f many : Int) : Int := if f = 0 then (if many < 0 ∨ 8 < many then 1 else if (l.length : Int) < many then 10 else 0) else f
theorem getV_lt (l : List UInt8) (f : Int) (k : Nat) : getV l f k < 256 ^ k := by
  unfold getV
  split
  · rename_i h
    refine Nat.lt_of_lt_of_le (val_lt _) (Nat.pow_le_pow_right (by omega) ?_)
    rw [List.length_take]
    omega
  · exact Nat.pow_pos (by omega)
end Go.Proofs.Ythbgcffnnholeaa
