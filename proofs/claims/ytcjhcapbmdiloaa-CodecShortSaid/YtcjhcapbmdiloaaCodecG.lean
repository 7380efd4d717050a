/- The contracts of package codec in the shape in which the statements' walks use them. No statement of the seat is proved here. -/
import Derived.Test.YtcjhcapbmdiloaaCodecF
namespace Go.Proofs.Ytcjhcapbmdiloaa
open Go.RowKit

/-- The slice value '.slice A n c' owns the bytes L, in blocks from B on. -/
def Own (w : World) (B : Nat) (A : Option Addr) (c n : Nat) (L : List UInt8) : Prop := L.length = n ∧ w.ownsRow B 5 1 (.slice A n c) n (bv L)
section
variable {w w' : World} {B : Nat} {A : Option Addr} {c n : Nat} {L : List UInt8}
theorem Own.rd (h : Own w B A c n L) : Rd w w.heap.size A L := Rd.of_own h.2
theorem Own.below (h : Own w B A c n L) (hb : Below w.heap.size w w') : Own w' B A c n L := ⟨h.1, ownsRow_below h.2 hb⟩
theorem Own.far {g : Nat} {l : List UInt8} {f : Int} (h : Own w B A c n L) (h' : Rdr w g l f) (hb : w.grownBy w' (some g)) : Own w' B A c n L := ⟨h.1, own_far h.2 h' hb⟩
theorem Own.base {B' : Nat} (h : Own w B A c n L) (hb : B' ≤ B) : Own w B' A c n L := ⟨h.1, ownsRow_base h.2 hb⟩
theorem Own.cap (h : Own w B A c n L) : n ≤ c ∧ c ≤ maxLen := by
  obtain ⟨_, _, e, h1, h2⟩ := ownsRow_form h.2
  injection e with _ _ e
  subst e; exact ⟨h1, h2⟩
theorem Own.alloc (h : Own w B A c n L) (o : Obj) : Own (w.alloc o) B A c n L := ⟨h.1, h.2.alloc o⟩
theorem Own.str (h : Own w B A c n L) : (convert 22 9 (.slice A n c)).run Try.prog w = .ok (.string ⟨L.toArray⟩) w := by
  have := run_str (P := Try.prog) 22 9 5 Try.underlying22 Try.underlying5 Try.underlying9 h.rd c
  rwa [h.1] at this
end

theorem put_sl (A : Option Addr) (l : List UInt8) (c k m : Nat) (many : Int) (n : Nat) (L : List UInt8) (w : World) (hl : l.length = k) (hr : Rd w w.heap.size A l) (hlen : l.length ≤ 140737488355000) (hn : l.length + kOf many = n) (hL : l ++ be (kOf many) m = L) :
    Calls Try.prog 18 #[.slice A k c, .int .u64 m, .int .i64 many] w fun e w' => ∃ A' c', e = .returned (.slice A' n c') ∧ Own w' w.heap.size A' c' n L ∧ Below w.heap.size w w' := by
  subst hl hn hL
  refine (put_any A l c m many w hr hlen).mono ?_
  rintro e w' ⟨v, rfl, ho, hb⟩
  obtain ⟨A', c', rfl, _, _⟩ := ownsRow_form ho
  exact ⟨A', c', rfl, ⟨by simp [be_length], ho⟩, hb⟩
theorem text_sl (A : Option Addr) (l : List UInt8) (c k : Nat) (s : ByteArray) (n : Nat) (L : List UInt8) (w : World) (hl : l.length = k) (hr : Rd w w.heap.size A l) (hlen : l.length + s.size ≤ 140737488354000) (hn : l.length + 4 + s.size = n) (hL : l ++ be 4 s.size ++ s.data.toList = L) :
    Calls Try.prog 19 #[.slice A k c, .string s] w fun e w' => ∃ A' c', e = .returned (.slice A' n c') ∧ Own w' w.heap.size A' c' n L ∧ Below w.heap.size w w' := by
  subst hl hn hL
  refine (text_any A l c s w hr hlen).mono ?_
  rintro e w' ⟨v, rfl, ho, hb⟩
  obtain ⟨A', c', rfl, _, _⟩ := ownsRow_form ho
  exact ⟨A', c', rfl, ⟨by rw [List.length_append, List.length_append, be_length, Array.length_toList]; rfl, ho⟩, hb⟩
theorem new_sl (A : Option Addr) (l : List UInt8) (c k : Nat) (w : World) (hl : l.length = k) (hr : Rd w w.heap.size A l) (hlen : l.length ≤ 140737488355000) :
    Calls Try.prog 9 #[.slice A k c] w fun e w' => ∃ g, e = .returned (.pointer (some ⟨g, 0, none⟩)) ∧ w.heap.size ≤ g ∧ Rdr w' g l 0 ∧ Below w.heap.size w w' := by
  subst hl; exact new_any A l c w hr hlen
theorem get_lit (g : Nat) (l : List UInt8) (f many : Int) (V : Nat) (L : List UInt8) (F : Int) (w : World) (h : Rdr w g l f) (hV : getV l f many = V) (hL : getL l f many = L) (hF : getF l f many = F) :
    Calls Try.prog 12 #[.pointer (some ⟨g, 0, none⟩), .int .i64 many] w fun e w' => e = .returned (.int .u64 V) ∧ Rdr w' g L F ∧ w.grownBy w' (some g) := by
  subst hV hL hF; exact get_any g l f many w h
theorem rtext_lit (g : Nat) (l : List UInt8) (f most : Int) (S : ByteArray) (L : List UInt8) (F : Int) (w : World) (h : Rdr w g l f) (hm : most ≤ 9223372036854775807) (hS : (⟨(textS l f most).toArray⟩ : ByteArray) = S) (hL : textL l f most = L) (hF : textF l f most = F) :
    Calls Try.prog 10 #[.pointer (some ⟨g, 0, none⟩), .int .i64 most] w fun e w' => e = .returned (.string S) ∧ Rdr w' g L F ∧ w.grownBy w' (some g) := by
  subst hS hL hF; exact rtext_any g l f most w h hm
theorem fault_lit (g : Nat) (l : List UInt8) (f : Int) (w : World) (h : Rdr w g l f) : Calls Try.prog 15 #[.pointer (some ⟨g, 0, none⟩)] w fun e w' => e = .returned (.int .i64 f) ∧ w = w' := fault_any g l f w h
theorem left_lit (g : Nat) (l : List UInt8) (f k : Int) (w : World) (h : Rdr w g l f) (hk : (l.length : Int) = k) : Calls Try.prog 14 #[.pointer (some ⟨g, 0, none⟩)] w fun e w' => e = .returned (.int .i64 k) ∧ w = w' := by
  subst hk; exact left_any g l f w h
theorem end_lit (g : Nat) (l : List UInt8) (f k : Int) (w : World) (h : Rdr w g l f) (hk : endOf l f = k) : Calls Try.prog 16 #[.pointer (some ⟨g, 0, none⟩)] w fun e w' => e = .returned (.int .i64 k) ∧ w = w' := by
  subst hk; exact end_any g l f w h

/-- A new block of bytes. -/
theorem rd_block (w : World) (cs : Array Value) (l : List UInt8) (h : ∀ j (_ : j < l.length), cs[j]? = some (.int .u8 l[j].toNat)) : Rd (w.alloc (.cells cs 5)) (w.alloc (.cells cs 5)).heap.size (some ⟨w.heap.size, 0, none⟩) l := fun _ => by
  refine ⟨w.heap.size, 0, rfl, by simp, fun j hj => ?_⟩
  rw [(Blk.new w 5 cs).cell, Nat.zero_add]; exact h j hj
end Go.Proofs.Ytcjhcapbmdiloaa
