/- Plain mathematics for package disk: a disk's state and what the operations make of it. No statement of the seat is proved here; nothing of the program is imported. -/
import Derived.Test.YtdnconakpajdgaaMath
namespace Go.Proofs.Ytdnconakpajdgaa
set_option linter.unusedVariables false

def updS (f : Nat → List UInt8) (k : Nat) (v : List UInt8) : Nat → List UInt8 := fun i => if i = k then v else f i
/-- Bytes of a sector. -/
def padS (b : List UInt8) : List UInt8 := b ++ List.replicate (128 - b.length) 0
theorem padS_length {b : List UInt8} (h : b.length ≤ 128) : (padS b).length = 128 := by simp [padS]; omega
theorem padS_full {b : List UInt8} (h : b.length = 128) : padS b = b := by simp [padS, h]
/-- A disk: its sectors that are safe, the writes that are not, whether the power is off, the operations till it goes off (below 0: it does not), how many were done. -/
structure DS where
  n : Nat
  safe : Nat → List UInt8
  put : List (Nat × List UInt8)
  off : Bool
  left : Int
  cnt : Nat
def newS (n : Nat) : DS := ⟨n, fun _ => padS [], [], false, -1, 0⟩
/-- The power goes off now, if it is time. -/
def tickS (S : DS) : DS := if S.left = 0 then { S with off := true, left := -1 } else S
/-- An operation was done. -/
def doneS (S : DS) : DS := { S with cnt := S.cnt + 1, left := if 0 < S.left then S.left - 1 else S.left }
/-- The writes one after the other. -/
def flushL : List (Nat × List UInt8) → (Nat → List UInt8) → Nat → List UInt8
  | [], s => s
  | p :: ps, s => flushL ps (updS s p.1 p.2)
/-- The first bytes of each write. -/
def crashL (f : Nat → Nat) : Nat → List (Nat × List UInt8) → (Nat → List UInt8) → Nat → List UInt8
  | _, [], s => s
  | i, p :: ps, s => crashL f (i + 1) ps (updS s p.1 (p.2.take (f i) ++ (s p.1).drop (f i)))
/-- A write's fate. -/
def fateI (x : Int) : Nat := (max 0 (min x 128)).toNat
def fateL (l : List Int) (i : Nat) : Nat := match l[i]? with
  | some x => fateI x
  | none => 0
def badW (S : DS) (at_ : Int) (k : Nat) : Prop := at_ < 0 ∨ (S.n : Int) ≤ at_ ∨ 128 < k
instance (S : DS) (at_ : Int) (k : Nat) : Decidable (badW S at_ k) := inferInstanceAs (Decidable (_ ∨ _))
def writeS (S : DS) (at_ : Int) (b : List UInt8) : DS := if badW S at_ b.length then S else if (tickS S).off = true then tickS S else doneS { tickS S with put := S.put ++ [(at_.toNat, padS b)] }
def writeE (S : DS) (at_ : Int) (k : Nat) : Nat := if badW S at_ k then 1 else if (tickS S).off = true then 6 else 0
def flushS (S : DS) : DS := if (tickS S).off = true then tickS S else doneS { tickS S with safe := flushL S.put S.safe, put := [] }
def flushE (S : DS) : Nat := if (tickS S).off = true then 6 else 0
def nowS (S : DS) (k : Nat) : List UInt8 := flushL S.put S.safe k
def readE (S : DS) (at_ : Int) : Nat := if at_ < 0 ∨ (S.n : Int) ≤ at_ then 1 else if S.off = true then 6 else 0
def readS (S : DS) (at_ : Int) : List UInt8 := if readE S at_ = 0 then nowS S at_.toNat else []
def cutS (S : DS) (after : Int) : DS := if S.off = true then S else { S with left := max after (-1) }
def crashS (S : DS) (fates : List Int) : DS := { S with safe := crashL (fateL fates) 0 S.put S.safe, put := [], off := false, left := -1 }
/-- What holds of each state. -/
structure DS.Ok (S : DS) : Prop where
  le : S.n ≤ 16384
  safe : ∀ i, (S.safe i).length = 128
  at_ : ∀ p ∈ S.put, p.1 < S.n
  put : ∀ p ∈ S.put, p.2.length = 128
  left : -1 ≤ S.left ∧ S.left ≤ 9223372036854775807
  off : S.off = true → S.left = -1
theorem updS_len {f : Nat → List UInt8} {k : Nat} {v : List UInt8} (hf : ∀ i, (f i).length = 128) (hv : v.length = 128) : ∀ i, (updS f k v i).length = 128 := fun i => by
  unfold updS; split
  · exact hv
  · exact hf i
theorem flushL_len : ∀ (ps : List (Nat × List UInt8)) (s : Nat → List UInt8), (∀ i, (s i).length = 128) → (∀ p ∈ ps, p.2.length = 128) → ∀ i, (flushL ps s i).length = 128
  | [], s, hs, _ => hs
  | p :: ps, s, hs, hp => flushL_len ps _ (updS_len hs (hp p (by simp))) fun q hq => hp q (by simp [hq])
theorem torn_len {x y : List UInt8} {k : Nat} (hx : x.length = 128) (hy : y.length = 128) : (x.take k ++ y.drop k).length = 128 := by simp [hx, hy]; omega
theorem crashL_len (f : Nat → Nat) : ∀ (i : Nat) (ps : List (Nat × List UInt8)) (s : Nat → List UInt8), (∀ i, (s i).length = 128) → (∀ p ∈ ps, p.2.length = 128) → ∀ j, (crashL f i ps s j).length = 128
  | _, [], s, hs, _ => hs
  | i, p :: ps, s, hs, hp => crashL_len f (i + 1) ps _ (updS_len hs (torn_len (hp p (by simp)) (hs _))) fun q hq => hp q (by simp [hq])
theorem flushL_snoc : ∀ (ps : List (Nat × List UInt8)) (s : Nat → List UInt8) (p : Nat × List UInt8), flushL (ps ++ [p]) s = updS (flushL ps s) p.1 p.2
  | [], s, p => rfl
  | q :: ps, s, p => flushL_snoc ps _ p
theorem crashL_snoc (f : Nat → Nat) : ∀ (i : Nat) (ps : List (Nat × List UInt8)) (s : Nat → List UInt8) (p : Nat × List UInt8), crashL f i (ps ++ [p]) s = updS (crashL f i ps s) p.1 (p.2.take (f (i + ps.length)) ++ (crashL f i ps s p.1).drop (f (i + ps.length)))
  | i, [], s, p => rfl
  | i, q :: ps, s, p => by
    show crashL f (i + 1) (ps ++ [p]) _ = _
    rw [crashL_snoc f (i + 1) ps _ p, List.length_cons, show i + 1 + ps.length = i + (ps.length + 1) by omega]
    rfl
theorem flushL_other {k : Nat} : ∀ (ps : List (Nat × List UInt8)) (s : Nat → List UInt8), (∀ p ∈ ps, p.1 ≠ k) → flushL ps s k = s k
  | [], s, _ => rfl
  | p :: ps, s, h => by
    rw [flushL, flushL_other ps _ fun q hq => h q (by simp [hq]), updS, if_neg fun e => h p (by simp) e.symm]
theorem crashL_other (f : Nat → Nat) {k : Nat} : ∀ (i : Nat) (ps : List (Nat × List UInt8)) (s : Nat → List UInt8), (∀ p ∈ ps, p.1 ≠ k) → crashL f i ps s k = s k
  | _, [], s, _ => rfl
  | i, p :: ps, s, h => by
    rw [crashL, crashL_other f (i + 1) ps _ fun q hq => h q (by simp [hq]), updS, if_neg fun e => h p (by simp) e.symm]
theorem DS.Ok.new {n : Nat} (h : n ≤ 16384) : (newS n).Ok := ⟨h, fun _ => padS_length (by simp), by simp [newS], by simp [newS], by simp [newS], by simp [newS]⟩
section
variable {S : DS}
theorem DS.Ok.tick (h : S.Ok) : (tickS S).Ok := by
  unfold tickS; split
  · exact ⟨h.le, h.safe, h.at_, h.put, by simp, fun _ => rfl⟩
  · exact h
theorem DS.Ok.done (h : S.Ok) (ho : S.off = false) : (doneS S).Ok := by
  have hl := h.left
  refine ⟨h.le, h.safe, h.at_, h.put, ?_, fun e => ?_⟩
  · show -1 ≤ (if 0 < S.left then S.left - 1 else S.left) ∧ _
    simp only [doneS]
    split <;> omega
  · have : S.off = true := e
    rw [ho] at this; cases this
theorem tickS_n : (tickS S).n = S.n := by unfold tickS; split <;> rfl
theorem tickS_put : (tickS S).put = S.put := by unfold tickS; split <;> rfl
theorem tickS_safe : (tickS S).safe = S.safe := by unfold tickS; split <;> rfl
theorem tickS_cnt : (tickS S).cnt = S.cnt := by unfold tickS; split <;> rfl
theorem DS.Ok.write (h : S.Ok) (at_ : Int) (b : List UInt8) : (writeS S at_ b).Ok := by
  unfold writeS
  split
  · exact h
  · rename_i hb
    split
    · exact h.tick
    · rename_i ho
      have ht := h.tick
      unfold badW at hb
      refine DS.Ok.done (S := { tickS S with put := S.put ++ [(at_.toNat, padS b)] }) ⟨ht.le, ht.safe, fun p hp => ?_, fun p hp => ?_, ht.left, ht.off⟩ (by simpa using ho)
      · show p.1 < (tickS S).n
        rw [tickS_n]
        rcases List.mem_append.1 hp with hp | hp
        · exact h.at_ p hp
        · rw [List.mem_singleton.1 hp]
          show at_.toNat < S.n
          omega
      · rcases List.mem_append.1 hp with hp | hp
        · exact h.put p hp
        · rw [List.mem_singleton.1 hp]
          exact padS_length (by omega)
theorem DS.Ok.flush (h : S.Ok) : (flushS S).Ok := by
  unfold flushS
  split
  · exact h.tick
  · rename_i ho
    have ht := h.tick
    exact DS.Ok.done (S := { tickS S with safe := flushL S.put S.safe, put := [] }) ⟨ht.le, flushL_len _ _ h.safe h.put, by simp, by simp, ht.left, ht.off⟩ (by simpa using ho)
theorem DS.Ok.cut (h : S.Ok) {after : Int} (ha : after ≤ 9223372036854775807) : (cutS S after).Ok := by
  unfold cutS
  split
  · exact h
  · rename_i ho
    exact ⟨h.le, h.safe, h.at_, h.put, by simp only []; omega, fun e => absurd e ho⟩
theorem DS.Ok.crash (h : S.Ok) (fates : List Int) : (crashS S fates).Ok := ⟨h.le, crashL_len _ _ _ _ h.safe h.put, by simp [crashS], by simp [crashS], by simp [crashS], by simp [crashS]⟩
theorem DS.Ok.now (h : S.Ok) (k : Nat) : (nowS S k).length = 128 := flushL_len _ _ h.safe h.put k
theorem fateI_le (x : Int) : fateI x ≤ 128 := by unfold fateI; omega
theorem fateL_le (l : List Int) (i : Nat) : fateL l i ≤ 128 := by
  unfold fateL
  split
  · exact fateI_le _
  · omega
end
end Go.Proofs.Ytdnconakpajdgaa
