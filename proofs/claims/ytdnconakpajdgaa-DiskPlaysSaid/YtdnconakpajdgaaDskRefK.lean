/- The reference's disk told as the package's disks are: what turns from a world on. No statement of the seat is proved here. -/
import Derived.Test.YtdnconakpajdgaaDskRefE
import Derived.Test.YtdnconakpajdgaaDskRefN
namespace Go.Proofs.Ytdnconakpajdgaa
open Go.RowKit
set_option linter.unusedVariables false

theorem own_n {A : Option Addr} {n c m k : Nat} : (Value.slice A n c).ownBlock = (Value.slice A m k).ownBlock := by cases A <;> rfl
section
variable {w0 w w' : World} {d : Nat} {As Ap A3 : Option Addr} {cs cp c3 : Nat} {s : Addr} {F N : Nat → Prop} {S S' : DS}
theorem rst_on (h : Turned Rst w0 s N w S) (hb : Below w.heap.size w w') : Turned Rst w0 s N w' S := by
  obtain ⟨F, h1, h2, h3⟩ := h
  exact ⟨F, rst_keep h1 fun g hg => hb.block g (rst_lt h1 g hg), h2, h3.trans (Only.of_below (F := F) hb) h2⟩
theorem rst_turn (hF : ∀ g, F g ↔ RF d As cs Ap cp S g) (h2 : ∀ g, F g → N g ∨ w0.heap.size ≤ g) (h3 : Only N w0 w) (hn : S'.n = S.n) (hR : RD w' d As cs A3 c3 S') (hk : S'.Ok) (ho : Only (RF d As cs Ap cp S) w w')
    (hA : ∀ g, (Value.slice A3 S'.put.length c3).ownBlock = some g → RF d As cs Ap cp S g ∨ w.heap.size ≤ g) : Turned Rst w0 ⟨d, 0, none⟩ N w' S' := by
  refine Turned.step (F := F) h2 h3 ⟨RF d As cs A3 c3 S', ⟨d, As, cs, A3, c3, rfl, hR, hk, fun _ => Iff.rfl⟩, fun g hg => ?_, ⟨ho.os, ho.tape, ho.output, ho.size, fun g hg hn => ho.block g hg fun h => hn ((hF g).2 h)⟩⟩
  rcases hg with h | h | h
  · exact .inl ((hF g).2 (.inl h))
  · exact .inl ((hF g).2 (.inr (.inl (by rw [own_n (m := S'.n) (k := cs)]; exact h))))
  · exact (hA g h).imp (hF g).2 id
theorem writeS_n (S : DS) (at_ : Int) (b : List UInt8) : (writeS S at_ b).n = S.n := by
  unfold writeS doneS
  split
  · rfl
  · split
    · exact tickS_n
    · exact tickS_n
theorem flushS_n (S : DS) : (flushS S).n = S.n := by
  unfold flushS doneS
  split
  · exact tickS_n
  · exact tickS_n
theorem cutS_n (S : DS) (x : Int) : (cutS S x).n = S.n := by unfold cutS; split <;> rfl
theorem cutS_put (S : DS) (x : Int) : (cutS S x).put = S.put := by unfold cutS; split <;> rfl
theorem rst_write (h : Turned Rst w0 s N w S) (hf : Few S) (at_ : Int) (b : List UInt8) (m : Nat) (hm : b.length = m) :
    Calls Try.prog 31 #[.pointer (some s), .int .i64 at_, .string ⟨b.toArray⟩] w fun e w' => e = .returned (.int .i64 (writeE S at_ m : Nat)) ∧ Turned Rst w0 s N w' (writeS S at_ b) := by
  obtain ⟨F, ⟨d, As, cs, Ap, cp, rfl, hR, hk, hF⟩, h2, h3⟩ := h
  by_cases hb : badW S at_ m
  · refine (rwrite_bad hR at_ b m hm hb).mono ?_
    rintro e w' ⟨rfl, rfl⟩
    refine ⟨by unfold writeE; rw [if_pos hb]; rfl, ?_⟩
    have e2 : writeS S at_ b = S := by unfold writeS; rw [if_pos (by rw [hm]; exact hb)]
    rw [e2]
    exact ⟨F, ⟨d, As, cs, Ap, cp, rfl, hR, hk, hF⟩, h2, h3⟩
  · obtain ⟨t, rfl⟩ : ∃ t : Nat, at_ = t := ⟨at_.toNat, by unfold badW at hb; omega⟩
    refine (rwrite_good hR hk hf.1 hf.2 t b m hm hb).mono ?_
    rintro e w' ⟨rfl, ho, A3, c3, hR', hA⟩
    exact ⟨rfl, rst_turn hF h2 h3 (writeS_n S t b) hR' (hk.write t b) ho fun g hg => (hA g hg).imp (fun h => .inr (.inr h)) id⟩
theorem rst_flush (h : Turned Rst w0 s N w S) (hf : Few S) :
    Calls Try.prog 32 #[.pointer (some s)] w fun e w' => e = .returned (.int .i64 (flushE S : Nat)) ∧ Turned Rst w0 s N w' (flushS S) := by
  obtain ⟨F, ⟨d, As, cs, Ap, cp, rfl, hR, hk, hF⟩, h2, h3⟩ := h
  refine (rflush_any hR hk hf.1 hf.2).mono ?_
  rintro e w' ⟨rfl, ho, hR'⟩
  refine ⟨rfl, ?_⟩
  rcases hR' with ⟨_, hR'⟩ | ⟨he, hR'⟩
  · exact rst_turn hF h2 h3 (flushS_n S) hR' hk.flush ho fun g hg => by cases hg
  · exact rst_turn hF h2 h3 (flushS_n S) hR' hk.flush ho fun g hg => .inl (.inr (.inr (by rw [own_n (m := (flushS S).put.length) (k := cp)]; exact hg)))
theorem rst_cut (h : Turned Rst w0 s N w S) (x : Int) (hx : In64 x) :
    Calls Try.prog 33 #[.pointer (some s), .int .i64 x] w fun e w' => e = .returned (.tuple #[]) ∧ Turned Rst w0 s N w' (cutS S x) := by
  obtain ⟨F, ⟨d, As, cs, Ap, cp, rfl, hR, hk, hF⟩, h2, h3⟩ := h
  refine (rcut_any hR x).mono ?_
  rintro e w' ⟨rfl, hR', hg⟩
  exact ⟨rfl, rst_turn hF h2 h3 (cutS_n S x) hR' (hk.cut (by unfold In64 at hx; omega)) (only_grown hg (.inl rfl)) fun g hg => .inl (.inr (.inr (by rw [own_n (m := (cutS S x).put.length) (k := cp)]; exact hg)))⟩
theorem rst_crash (h : Turned Rst w0 s N w S) (hf : Few S) (A : Option Addr) (n c : Nat) (l : List Int) (hl : l.length = n) (hc : n ≤ c) (hm : c ≤ maxLen) (hr : RdV w0 w0.heap.size A (iv l)) (hi : ∀ x ∈ l, In64 x) (hout : Out N A n) :
    Calls Try.prog 34 #[.pointer (some s), .slice A n c] w fun e w' => e = .returned (.tuple #[]) ∧ Turned Rst w0 s N w' (crashS S l) := by
  have hrw := rdv_only h.only hr (by rw [iv_length, hl]; exact hout)
  obtain ⟨F, ⟨d, As, cs, Ap, cp, rfl, hR, hk, hF⟩, h2, h3⟩ := h
  have hlt : ∀ ad, A = some ad → 0 < n → ad.block < w0.heap.size := fun ad ha h0 => by
    obtain ⟨g, off, e, hg, _⟩ := hr (by rw [iv_length, hl]; exact h0)
    rw [ha] at e
    injection e with e
    rw [e]; exact hg
  refine (rcrash_any hR hk hf.1 A n c l hl hc hm hi (hrw.more h3.size) fun ad ha h0 hfa => ?_).mono ?_
  · rcases h2 _ ((hF _).2 hfa) with h | h
    · exact hout ad ha h0 h
    · have := hlt ad ha h0; omega
  · rintro e w' ⟨rfl, ho, hR'⟩
    exact ⟨rfl, rst_turn hF h2 h3 rfl hR' (hk.crash l) ho fun g hg => by cases hg⟩
theorem rst_read (h : Turned Rst w0 s N w S) (hf : Few S) (at_ : Int) :
    Calls Try.prog 35 #[.pointer (some s), .int .i64 at_] w fun e w' => e = .returned (.tuple #[.string ⟨(readS S at_).toArray⟩, .int .i64 (readE S at_ : Nat)]) ∧ w = w' := by
  obtain ⟨F, ⟨d, As, cs, Ap, cp, rfl, hR, hk, hF⟩, h2, h3⟩ := h
  exact rread_any hR hf.1 at_
end
end Go.Proofs.Ytdnconakpajdgaa
