/- Plain mathematics for package perfect: the hash. No statement of the seat is proved here; nothing of the program is imported. -/
import Derived.Test.YtacijjioaanlgaaMath
namespace Go.Proofs.Ytacijjioaanlgaa
open Go.RowKit

/-- (The factor stands ahead: behind, the kernel opens it one by one.) -/
def stepH (h c : Nat) : Nat := (1099511628211 * (h ^^^ c)) % 18446744073709551616
def foldH (h : Nat) (l : List UInt8) : Nat := l.foldl (fun h b => stepH h b.toNat) h
def startH (seed : Nat) : Nat := 14695981039346656037 ^^^ seed
def endH (h : Nat) : Nat := h ^^^ h / 4294967296
/-- The hash of a key with these bytes and this number. -/
def hashB (seed : Nat) (s : List UInt8) (N : Nat) : Nat := endH (foldH (startH seed) (s ++ be 4 N))
theorem stepH_lt (h c : Nat) : stepH h c < 18446744073709551616 := Nat.mod_lt _ (by decide)
theorem foldH_snoc (h : Nat) (l : List UInt8) (b : UInt8) : foldH h (l ++ [b]) = stepH (foldH h l) b.toNat := by simp only [foldH, List.foldl_append, List.foldl_cons, List.foldl_nil]
theorem foldH_append (h : Nat) (l m : List UInt8) : foldH h (l ++ m) = foldH (foldH h l) m := by simp only [foldH, List.foldl_append]
theorem foldH_lt {h : Nat} (hh : h < 18446744073709551616) (l : List UInt8) : foldH h l < 18446744073709551616 := by
  induction l generalizing h with
  | nil => simpa only [foldH, List.foldl_nil] using hh
  | cons b l ih =>
    have h2 := ih (stepH_lt h b.toNat)
    simpa only [foldH, List.foldl_cons] using h2
theorem startH_lt {seed : Nat} (h : seed < 18446744073709551616) : startH seed < 18446744073709551616 := Nat.xor_lt_two_pow (n := 64) (by decide) h
theorem endH_lt {h : Nat} (hh : h < 18446744073709551616) : endH h < 18446744073709551616 := Nat.xor_lt_two_pow (n := 64) hh (Nat.lt_of_le_of_lt (Nat.div_le_self _ _) hh)
theorem hashB_lt {seed : Nat} (h : seed < 18446744073709551616) (s : List UInt8) (N : Nat) : hashB seed s N < 18446744073709551616 := endH_lt (foldH_lt (startH_lt h) _)
theorem be4 (N : Nat) : be 4 N = [UInt8.ofNat (N / 16777216), UInt8.ofNat (N / 65536), UInt8.ofNat (N / 256), UInt8.ofNat N] := by simp [be]
end Go.Proofs.Ytacijjioaanlgaa
