/- The contract of value. No statement of the seat is proved here. -/
import Derived.Test.YthbgcffnnholeaaVME
import Derived.Test.YthbgcffnnholeaaVMA
namespace Go.Proofs.Ythbgcffnnholeaa
open Go.RowKit

/-- One byte more, in the walk's own spelling. -/
theorem or_step (t : List UInt8) (c : UInt8) (h : t.length ≤ 7) :
    bits BinOp.or IntKind.u64 (IntKind.u64.wrap (((val t : Nat) : Int) * 256)) (IntKind.u64.wrap ((c.toNat : Nat) : Int)) = ((val (t ++ [c]) : Nat) : Int) := by
  have h1 := val_lt t
  have h2 : 256 ^ t.length ≤ 256 ^ 7 := Nat.pow_le_pow_right (by omega) h
  have h3 := c.toNat_lt
  have e1 : IntKind.u64.wrap (((val t : Nat) : Int) * 256) = ((val t * 256 : Nat) : Int) := by
    rw [IntKind.wrap_u64]; omega
  have e2 : IntKind.u64.wrap ((c.toNat : Nat) : Int) = ((c.toNat : Nat) : Int) := by rw [IntKind.wrap_u64]; omega
  rw [e1, e2, bits_or_u64_nat _ _ (by omega) (by omega), val_snoc, ← shl_or _ _ h3, Nat.shiftLeft_eq]

set_option maxHeartbeats 1000000 in
theorem value_any (A : Option Addr) (l : List UInt8) (c B : Nat) (w : World) (hr : Rd w B A l) (h8 : l.length ≤ 8) :
    Calls Try.prog 51 #[.slice A l.length c] w fun e w' => e = .returned (.int .u64 (val l)) ∧ w = w' := by
  go_enter Try.func51, Try.ntmps51
  go_wp2
  go_loop [3, 8] (fun n i => ∃ k : Nat, k ≤ l.length ∧ i = .int .i64 k ∧ n = .int .u64 (val (l.take k))) (fun _ i => l.length - (intOf i).toNat)
  case atStart => exact ⟨0, Nat.zero_le _, rfl, rfl⟩
  case round =>
    obtain ⟨k, hk, rfl, rfl⟩ := hrel
    by_cases hlt : k < l.length
    · obtain ⟨g, off, rfl, hb, hc⟩ := hr (by omega)
      have hck := hc k hlt
      have hstep := Lib.hid (or_step (l.take k) l[k] (by rw [List.length_take]; omega))
      have htake := Lib.hid (show l.take (k + 1) = l.take k ++ [l[k]] from List.take_succ_eq_append_getElem hlt)
      clear hc
      go_wp2
      refine ⟨⟨k + 1, by omega, by go_num, ?_⟩, by simp [intOf]; omega⟩
      rw [htake.out, hstep.out]
    · go_wp2
      go_ret
      exact ⟨by rw [List.take_of_length_le (by omega)]; rfl, rfl⟩
end Go.Proofs.Ythbgcffnnholeaa
/- The contract of Get. No statement of the seat is proved here. -/
namespace Go.Proofs.Ythbgcffnnholeaa
open Go.RowKit

def GetPost (w : World) (g : Nat) (l : List UInt8) (f many : Int) (e : Ending) (w' : World) : Prop :=
  e = .returned (.int .u64 (getV l f many)) ∧ Rdr w' g (getL l f many) (getF l f many) ∧ w.grownBy w' (some g)

theorem grownBy_set (w : World) (g i : Nat) (u : Value) : w.grownBy (w.setCell ⟨g, i, none⟩ u) (some g) :=
  ⟨rfl, rfl, rfl, by simp [World.setCell], fun k _ hk => Below.heap_setCell _ _ _ _ (by rintro rfl; exact hk rfl)⟩

theorem rdr_fault {w : World} {g : Nat} {l : List UInt8} {f : Int} (h : Rdr w g l f) (f' : Int) : Rdr (w.setCell ⟨g, 1, none⟩ (.int .i64 f')) g l f' := by
  obtain ⟨A, c, h1, h2, h3, h4⟩ := h
  refine ⟨A, c, by simpa using h1.set_ 1 (.int .i64 f'), h2, h3, fun hn => ?_⟩
  obtain ⟨gb, off, cur, e, hc, hr⟩ := h4 hn
  refine ⟨gb, off, cur, e, hc.same (Below.heap_setCell _ _ _ _ ?_), hr⟩
  rintro rfl
  unfold Blk at hc h1
  rw [hc] at h1
  simp at h1
theorem rdr_cut {w : World} {g : Nat} {l : List UInt8} {f : Int} {A : Option Addr} {c k : Nat} (h1 : Blk w g 98 #[.slice A l.length c, .int .i64 f]) (h2 : l.length ≤ c) (h3 : c ≤ maxLen)
    (h4 : 0 < l.length → ∃ gb off cur, A = some ⟨gb, off, none⟩ ∧ Blk w gb 5 cur ∧ ∀ j (_ : j < l.length), cur[off + j]? = some (.int .u8 l[j].toNat)) (hk : k ≤ l.length) {A' : Option Addr} {n' c' : Nat}
    (hA : k < l.length → A' = A.map (·.add k)) (hn : n' = l.length - k) (hc' : c' = c - k) :
    Rdr (w.setCell ⟨g, 0, none⟩ (.slice A' n' c')) g (l.drop k) f := by
  subst hn hc'
  refine ⟨A', c - k, ?_, by rw [List.length_drop]; omega, by omega, fun hn => ?_⟩
  · have := h1.set_ 0 (.slice A' (l.length - k) (c - k))
    simpa using this
  · rw [List.length_drop] at hn
    obtain ⟨gb, off, cur, rfl, hc, hr⟩ := h4 (by omega)
    refine ⟨gb, off + k, cur, by rw [hA (by omega)]; simp [Addr.add_lit], hc.same (Below.heap_setCell _ _ _ _ ?_), fun j hj => ?_⟩
    · rintro rfl
      unfold Blk at hc h1
      rw [hc] at h1
      simp at h1
    · rw [List.length_drop] at hj
      rw [Nat.add_assoc, hr (k + j) (by omega), List.getElem_drop]

set_option maxHeartbeats 1000000 in
theorem get_nil (many : Int) (w : World) : Calls Try.prog 41 #[.pointer none, .int .i64 many] w fun e w' => e = .returned (.int .u64 0) ∧ w = w' := by
  go_enter Try.func41, Try.ntmps41
  go_wp2
  go_ret
  exact ⟨rfl, rfl⟩

set_option maxHeartbeats 1000000 in
theorem get_bad (g : Nat) (l : List UInt8) (f many : Int) (w : World) (h : Rdr w g l f) (hf : ¬ f = 0) : Calls Try.prog 41 #[.pointer (some ⟨g, 0, none⟩), .int .i64 many] w (GetPost w g l f many) := by
  have fin : GetPost w g l f many (.returned (.int .u64 0)) w := by
    refine ⟨by simp [getV, hf], by simpa [getL, getF, hf] using h, World.grownBy.refl _ _⟩
  have hf' : (f != 0) = true := by simpa using hf
  have FIN := Lib.hid fin
  obtain ⟨A, c, hb, _, _, _⟩ := h
  have hc0 := hb.cell 0
  have hc1 := hb.cell 1
  clear hb hf fin
  go_enter Try.func41, Try.ntmps41
  go_wp2
  go_ret
  exact FIN.out

set_option maxHeartbeats 1000000 in
theorem get_arg (g : Nat) (l : List UInt8) (many : Int) (w : World) (h : Rdr w g l 0) (hm : many < 0 ∨ 8 < many) : Calls Try.prog 41 #[.pointer (some ⟨g, 0, none⟩), .int .i64 many] w (GetPost w g l 0 many) := by
  have fin : GetPost w g l 0 many (.returned (.int .u64 0)) (w.setCell ⟨g, 1, none⟩ (.int .i64 1)) := by
    refine ⟨?_, ?_, grownBy_set _ _ _ _⟩
    · rw [getV, if_neg (by omega)]; rfl
    · rw [getL, if_neg (by omega), getF, if_pos rfl, if_pos hm]; exact rdr_fault h 1
  have FIN := Lib.hid fin
  obtain ⟨A, c, hb, _, _, _⟩ := h
  have hc0 := hb.cell 0
  have hc1 := hb.cell 1
  have hz1 := hb.frozen 1
  clear hb fin
  rcases hm with hm | hm
  · go_enter Try.func41, Try.ntmps41
    go_wp2
    go_ret
    exact FIN.out
  · have hm0 : ¬ many < 0 := by omega
    go_enter Try.func41, Try.ntmps41
    go_wp2
    go_ret
    exact FIN.out

set_option maxHeartbeats 1000000 in
theorem get_short (g : Nat) (l : List UInt8) (many : Int) (w : World) (h : Rdr w g l 0) (hm0 : ¬ many < 0) (hm8 : ¬ 8 < many) (hs : (l.length : Int) < many) : Calls Try.prog 41 #[.pointer (some ⟨g, 0, none⟩), .int .i64 many] w (GetPost w g l 0 many) := by
  have fin : GetPost w g l 0 many (.returned (.int .u64 0)) (w.setCell ⟨g, 1, none⟩ (.int .i64 10)) := by
    refine ⟨?_, ?_, grownBy_set _ _ _ _⟩
    · rw [getV, if_neg (by omega)]; rfl
    · rw [getL, if_neg (by omega), getF, if_pos rfl, if_neg (by omega), if_pos hs]; exact rdr_fault h 10
  have FIN := Lib.hid fin
  obtain ⟨A, c, hb, _, _, _⟩ := h
  have hc0 := hb.cell 0
  have hc1 := hb.cell 1
  have hz1 := hb.frozen 1
  clear hb fin
  go_enter Try.func41, Try.ntmps41
  go_wp2
  go_ret
  exact FIN.out

set_option maxHeartbeats 1000000 in
theorem get_ok (g : Nat) (l : List UInt8) (k : Nat) (w : World) (h : Rdr w g l 0) (hk8 : k ≤ 8) (hk : k ≤ l.length) : Calls Try.prog 41 #[.pointer (some ⟨g, 0, none⟩), .int .i64 k] w (GetPost w g l 0 k) := by
  obtain ⟨A, c, hb, h2, h3, h4⟩ := h
  have fin : ∀ A' n' c', (k < l.length → A' = A.map (·.add k)) → n' = l.length - k → c' = c - k → GetPost w g l 0 k (.returned (.int .u64 (val (l.take k)))) (w.setCell ⟨g, 0, none⟩ (.slice A' n' c')) := by
    intro A' n' c' hA hn hc'
    refine ⟨?_, ?_, grownBy_set _ _ _ _⟩
    · rw [getV, if_pos (by omega), Int.toNat_natCast]
    · rw [getL, if_pos (by omega), getF, if_pos rfl, if_neg (by omega), if_neg (by omega), Int.toNat_natCast]
      exact rdr_cut hb h2 h3 h4 hk hA hn hc'
  have FIN := fun A' n' c' => Lib.hid (fin A' n' c')
  have hrd : Rd w w.heap.size A (l.take k) := (Rdr.rd h4).take k
  have hlk : (l.take k).length = k := by rw [List.length_take]; omega
  have hv := value_any A (l.take k) c w.heap.size w hrd (by omega)
  rw [hlk] at hv
  have HV := Lib.hid hv
  have hc0 := hb.cell 0
  have hc1 := hb.cell 1
  have hz0 := hb.frozen 0
  clear hb fin h4 hrd hlk hv
  have hkc : k ≤ c := by omega
  go_enter Try.func41, Try.ntmps41
  go_wp2_with (go_at_call 51; refine HV.out.mono ?_; rintro e w' ⟨rfl, rfl⟩)
  · go_ret
    exact (FIN _ _ _).out (fun hlt => by omega) rfl (by omega)
  · go_ret
    exact (FIN _ _ _).out (fun _ => rfl) rfl rfl

theorem get_any (g : Nat) (l : List UInt8) (f many : Int) (w : World) (h : Rdr w g l f) : Calls Try.prog 41 #[.pointer (some ⟨g, 0, none⟩), .int .i64 many] w (GetPost w g l f many) := by
  by_cases hf : f = 0
  · subst hf
    by_cases hm : many < 0 ∨ 8 < many
    · exact get_arg g l many w h hm
    · by_cases hs : (l.length : Int) < many
      · exact get_short g l many w h (by omega) (by omega) hs
      · obtain ⟨k, rfl⟩ := Int.eq_ofNat_of_zero_le (show 0 ≤ many by omega)
        exact get_ok g l k w h (by omega) (by omega)
  · exact get_bad g l f many w h hf
end Go.Proofs.Ythbgcffnnholeaa
