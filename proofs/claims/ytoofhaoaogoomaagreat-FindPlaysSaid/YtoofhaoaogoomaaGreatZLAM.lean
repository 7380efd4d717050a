/- The reference's cache (cellarageref14): what it is in memory; at, cut, Drop. No statement of the seat is proved here. -/
import Derived.Test.YtoofhaoaogoomaaGreatZLAL
import Derived.Test.YtoofhaoaogoomaaGreatZLAB
import Derived.Test.YtoofhaoaogoomaaGreatZLAK
import Derived.Deep.DeepCutAuto
import Derived.Great.BuildSlice
import Derived.Maps.AppendAt
namespace Go.Proofs.YtoofhaoaogoomaaGreat
open Go.RowKit
set_option linter.unusedVariables false
set_option linter.unusedSimpArgs false

/-- A table in memory: its shelf, its rows, where they lie. -/
abbrev TabT := (Int × List RowT) × (Option Addr × Nat)
def tcs (x : TabT) : List Value := [.int .i64 x.1.1, .slice x.2.1 x.1.2.length x.2.2]
theorem tabE : Elem Tryz.prog 82 124 2 tcs (fun _ => True) :=
  ⟨Tryz.underlying82, elem_info (by kernel_rfl), by decide, by decide, fun _ _ => rfl, fun x v hv => by
    simp only [tcs, List.mem_cons, List.not_mem_nil, or_false] at hv
    rcases hv with rfl | rfl <;> rfl⟩
structure RCs (w : World) (d : Nat) (A : Option Addr) (c : Nat) (ts : List TabT) (room : Nat) : Prop where
  blk : Blk w d 84 #[.slice A ts.length c, .int .i64 (room : Nat)]
  own : OwnG 124 2 tcs w 0 A c ts
  rows : ∀ x ∈ ts, OwnG 42 35 rcs w 0 x.2.1 x.2.2 x.1.2
  ok : CS.Ok ⟨room, ts.map (·.1)⟩
/-- The reference's cache as a state with a footprint. -/
def Rc (w : World) (s : Addr) (F : Nat → Prop) (S : CS) : Prop :=
  ∃ d A c ts, s = ⟨d, 0, none⟩ ∧ RCs w d A c ts S.room ∧ S.t = ts.map (·.1) ∧ F d ∧ (∀ ad, A = some ad → F ad.block) ∧ (∀ x ∈ ts, ∀ ad, x.2.1 = some ad → F ad.block) ∧ ∀ g, F g → g < w.heap.size
section
variable {w w' : World} {d : Nat} {A : Option Addr} {c room : Nat} {ts : List TabT}
theorem RCs.keep (h : RCs w d A c ts room) (h1 : w'.heap[d]? = w.heap[d]?) (h2 : ∀ ad, A = some ad → w'.heap[ad.block]? = w.heap[ad.block]?) (h3 : ∀ x ∈ ts, ∀ ad, x.2.1 = some ad → w'.heap[ad.block]? = w.heap[ad.block]?) : RCs w' d A c ts room :=
  ⟨h.blk.same h1, h.own.same h2, fun x hx => (h.rows x hx).same (h3 x hx), h.ok⟩
theorem RCs.on (h : RCs w d A c ts room) (hb : Below w.heap.size w w') : RCs w' d A c ts room := ⟨h.blk.below hb h.blk.lt, h.own.on hb, fun x hx => (h.rows x hx).on hb, h.ok⟩
theorem RCs.len (h : RCs w d A c ts room) : ts.length ≤ 4096 ∧ ts.length ≤ c ∧ c ≤ 9223372036854775807 := by
  have h1 := h.ok.len
  have h2 := h.ok.room
  have h3 := h.own.cap
  rw [List.length_map] at h1
  simp only at h1 h2
  unfold maxLen at h3
  exact ⟨by omega, h3.1, by omega⟩
/-- Where a table lies. -/
theorem RCs.at_ (h : RCs w d A c ts room) {j : Nat} (hj : j < ts.length) : ∃ g off, A = some ⟨g, off, none⟩ ∧ w.cell? ⟨g, off + j * 2, none⟩ = some (.int .i64 ts[j].1.1) ∧ w.cell? ⟨g, off + j * 2 + 1, none⟩ = some (.slice ts[j].2.1 ts[j].1.2.length ts[j].2.2) := by
  obtain ⟨g, off, e, _, hc⟩ := h.own.rd tabE (fun _ _ => trivial) (by simpa using Nat.lt_of_le_of_lt (Nat.zero_le _) hj)
  have := hc j (by simpa using hj)
  rw [List.getElem_map] at this
  have h0 := this 0 (.int .i64 ts[j].1.1) rfl
  have h1 := this 1 (.slice ts[j].2.1 ts[j].1.2.length ts[j].2.2) rfl
  rw [Nat.add_zero] at h0
  exact ⟨g, off, e, h0, h1⟩
end
theorem Rc.firm : Firm Rc where
  lt := fun ⟨_, _, _, _, _, _, _, _, _, _, h⟩ => h
  keep := fun {w w'} {s F S} ⟨d, A, c, ts, hs, h, ht, hd, hA, hx, hl⟩ hk => by
    have hsz : ∀ g, F g → g < w'.heap.size := fun g hg => by
      have h1 : w.heap[g]? = some (w.heap[g]'(hl g hg)) := Array.getElem?_eq_getElem (hl g hg)
      rw [← hk g hg] at h1
      exact (Array.getElem?_eq_some_iff.1 h1).1
    exact ⟨d, A, c, ts, hs, h.keep (hk d hd) (fun ad e => hk _ (hA ad e)) (fun x hm ad e => hk _ (hx x hm ad e)), ht, hd, hA, hx, hsz⟩
section
variable {w : World} {d : Nat} {A : Option Addr} {c room : Nat} {ts : List TabT}
set_option maxHeartbeats 1000000 in
/-- Where a shelf's table stands. -/
theorem rcat_any (h : RCs w d A c ts room) (sh : Int) : Calls Tryz.prog 65 #[.pointer (some ⟨d, 0, none⟩), .int .i64 sh] w fun e w' => w = w' ∧
    ((∃ k, ∃ hk : k < ts.length, ts[k].1.1 = sh ∧ e = .returned (.int .i64 (k : Nat))) ∨ ((∀ j (hj : j < ts.length), ts[j].1.1 ≠ sh) ∧ e = .returned (.int .i64 (-1)))) := by
  have hc0 : w.cell? ⟨d, 0, none⟩ = some (.slice A ts.length c) := h.blk.cell 0
  obtain ⟨hl1, hl2, hl3⟩ := h.len
  have HA := Lib.hid (fun j (hj : j < ts.length) => h.at_ hj)
  obtain ⟨n, hn⟩ : ∃ n, ts.length = n := ⟨_, rfl⟩
  rw [hn] at hc0 hl1 hl2
  have HN := Lib.hid hn
  clear h hn
  go_enter Tryz.func65, Tryz.ntmps65
  go_wp2_with fail
  go_loop [5] (fun i => ∃ k : Nat, k ≤ n ∧ i = .int .i64 k ∧ Hid (∀ j (hj : j < ts.length), j < k → ts[j].1.1 ≠ sh)) (fun i => n - (intOf i).toNat)
  case atStart => exact ⟨0, Nat.zero_le _, rfl, Lib.hid (fun j _ h => absurd h (Nat.not_lt_zero _))⟩
  case round =>
    obtain ⟨k, hk, rfl, hall⟩ := hrel
    by_cases hlt : k < n
    · have hkx : k < ts.length := by rw [HN.out]; exact hlt
      obtain ⟨g, off, hA, hc1, hc2⟩ := HA.out k hkx
      obtain ⟨x, hx⟩ : ∃ x, ts[k].1.1 = x := ⟨_, rfl⟩
      rw [hx] at hc1
      have HX := Lib.hid (show ∃ h : k < ts.length, ts[k].1.1 = x from ⟨hkx, hx⟩)
      subst hA
      have hi1 : (0 : Int) ≤ (k : Int) := by omega
      have hi2 : (k : Int) < (n : Int) := by omega
      clear hkx hx hc2
      by_cases he : x = sh
      · subst he
        go_wp2_with fail
        go_ret
        obtain ⟨h1, h2⟩ := HX.out
        exact ⟨rfl, .inl ⟨k, ⟨h1, h2⟩, rfl⟩⟩
      · go_wp2_with fail
        go_round
        case rel => exact ⟨k + 1, by omega, by go_num, Lib.hid (fun j hj hjk => by
          rcases Nat.lt_or_ge j k with h | h
          · exact hall.out j hj h
          · obtain rfl : j = k := by omega
            obtain ⟨h1, h2⟩ := HX.out
            rw [h2]; exact he)⟩
        case measure => simp [intOf]; omega
    · obtain rfl : k = n := by omega
      have HALL := hall
      go_wp2_with fail
      go_ret
      exact ⟨rfl, .inr ⟨fun j hj => HALL.out j hj (by rw [← HN.out]; exact hj), rfl⟩⟩
/-- Other tables, in a block of their own. -/
theorem rc_fin {w w9 : World} {F : Nat → Prop} {c9 m : Nat} {A9 : Option Addr} {ts' : List TabT} (hR : RCs w d A c ts room) (hFd : F d) (hFx : ∀ x ∈ ts', ∀ ad, x.2.1 = some ad → F ad.block ∨ w.heap.size ≤ ad.block) (hrow : ∀ x ∈ ts', OwnG 42 35 rcs w9 0 x.2.1 x.2.2 x.1.2)
    (hok : CS.Ok ⟨room, ts'.map (·.1)⟩) (ho : OwnG 124 2 tcs w9 w.heap.size A9 c9 ts') (hm : ts'.length = m) (hb : Below w.heap.size w w9) : Turned Rc w ⟨d, 0, none⟩ F (w9.setCell ⟨d, 0, none⟩ (.slice A9 m c9)) ⟨room, ts'.map (·.1)⟩ := by
  subst hm
  have hdl := hR.blk.lt
  have hbk := (hR.blk.below hb hdl).set_ 0 (.slice A9 ts'.length c9)
  have hne : ∀ {α : Type} {e : TypeId} {sz : Nat} {g : α → List Value} {B cc : Nat} {AA : Option Addr} {l : List α}, OwnG e sz g w9 B AA cc l → e ≠ 84 → OwnG e sz g (w9.setCell ⟨d, 0, none⟩ (.slice A9 ts'.length c9)) B AA cc l := fun h hne => h.grown (setCell_grown (World.grownBy.refl _ _)) fun r e e2 => by
    injection e with e
    subst e
    obtain ⟨_, b1⟩ := h.kind e2
    exact blk_other b1 (hR.blk.below hb hdl) hne rfl
  have ho2 := hne ho (by decide)
  refine ⟨fun g => g = d ∨ (∃ ad, A9 = some ad ∧ ad.block = g) ∨ ∃ x ∈ ts', ∃ ad, x.2.1 = some ad ∧ ad.block = g, ⟨d, A9, c9, ts', rfl, ⟨by simpa using hbk, ho2.base (Nat.zero_le _), fun x hx => hne (hrow x hx) (by decide), hok⟩, rfl, .inl rfl, fun ad e => .inr (.inl ⟨ad, e, rfl⟩), fun x hx ad e => .inr (.inr ⟨x, hx, ad, e, rfl⟩), ?_⟩, ?_, ?_⟩
  · rintro g (rfl | ⟨ad, e, rfl⟩ | ⟨x, hx, ad, e, rfl⟩)
    · exact hbk.lt
    · exact (ho2.adr ad e).2
    · exact ((hne (hrow x hx) (by decide)).adr ad e).2
  · rintro g (rfl | ⟨ad, e, rfl⟩ | ⟨x, hx, ad, e, rfl⟩)
    · exact .inl hFd
    · exact .inr (ho2.adr ad e).1
    · exact hFx x hx ad e
  · exact only_trans (Only.of_below hb) (only_grown (grown_cell w9 d 0 _) hFd)
set_option maxHeartbeats 2000000 in
theorem rccut_any (s : Addr) (F : Nat → Prop) (S : CS) (k : Nat) (w : World) (h : Rc w s F S) (hk : k < S.t.length) :
    Calls Tryz.prog 66 #[.pointer (some s), .int .i64 (k : Nat)] w fun e w' => e = .returned (.tuple #[]) ∧ Turned Rc w s F w' ⟨S.room, S.t.eraseIdx k⟩ := by
  obtain ⟨d, A, c, ts, rfl, hR, hst, hFd, hFA, hFx, hFl⟩ := h
  obtain ⟨room, t⟩ := S
  simp only at hst hR hk
  subst hst
  rw [List.length_map] at hk
  obtain ⟨hl1, hl2, hl3⟩ := hR.len
  obtain ⟨n, hn⟩ : ∃ n, ts.length = n := ⟨_, rfl⟩
  have FIN := Lib.hid (fun A9 c9 m w9 (ho : OwnG 124 2 tcs w9 w.heap.size A9 c9 (ts.eraseIdx k)) (hm : (ts.eraseIdx k).length = m) (hb : Below w.heap.size w w9) =>
    rc_fin (F := F) hR hFd (fun x hx ad e => .inl (hFx x (List.mem_of_mem_eraseIdx hx) ad e)) (fun x hx => (hR.rows x (List.mem_of_mem_eraseIdx hx)).on hb) (by rw [eraseIdx_map]; exact hR.ok.cut k) ho hm hb)
  have HC := Lib.hid (show ∀ W, Below w.heap.size w W → W.cell? ⟨d, 0, none⟩ = some (.slice A n c) ∧ W.frozen? ⟨d, 0, none⟩ = false from fun W hW => by
    have := hR.blk.below hW hR.blk.lt
    exact ⟨by rw [← hn]; exact this.cell 0, this.frozen 0⟩)
  have HRD := Lib.hid (show ∀ W, Below w.heap.size w W → RdS W W.heap.size 2 A (ts.map tcs) from fun W hW => (hR.own.on hW).rd tabE (fun _ _ => trivial))
  have HN := Lib.hid hn
  have HE := Lib.hid (OwnG.empty (g := tcs) (e := 124) (sz := 2) w)
  have hb1 : Below w.heap.size w (w.alloc (.cells #[] 124)) := (Below.refl _ _).alloc (Nat.le_refl _) _
  have HB1 := Lib.hid hb1
  have hc1 := (HC.out _ hb1).1
  rw [hn] at hk hl1 hl2
  have HTK := Lib.hid (show (ts.take k).length = k by rw [List.length_take, hn]; omega)
  have HDL := Lib.hid (show (ts.drop (k + 1)).length = n - (k + 1) by rw [List.length_drop, hn])
  have HEL := Lib.hid (show (ts.eraseIdx k).length = k + (n - (k + 1)) by rw [← cut_list, List.length_append, HTK.out, HDL.out])
  obtain ⟨A3, hA3⟩ : ∃ A3 : Option Addr, (if c = k + 1 then A else A.map (·.add ((k + 1) * 2))) = A3 := ⟨_, rfl⟩
  have HA3 := Lib.hid hA3
  have hkc : (k : Int) ≤ (c : Int) := by omega
  have hkn : (k : Int) ≤ (n : Int) := by omega
  have hk1c : (k : Int) + 1 ≤ (c : Int) := by omega
  have hk1n : (k : Int) + 1 ≤ (n : Int) := by omega
  have hnc : (n : Int) ≤ (c : Int) := by omega
  clear hR hFd hFA hFx hFl hn hb1
  show Calls _ _ _ _ fun e w' => _ ∧ Turned Rc w _ F w' ⟨room, (ts.map (·.1)).eraseIdx k⟩
  rw [← eraseIdx_map]
  go_enter Tryz.func66, Tryz.ntmps66
  have HRT := Lib.hid (show RdS (w.alloc (.cells #[] 124)) (w.alloc (.cells #[] 124)).heap.size 2 A ((ts.take k).map tcs) from by rw [List.map_take]; exact (HRD.out _ HB1.out).take k)
  go_upto_region 1 with (at_builtin; refine wpList_append_g tabE rfl (.tmp 5) (.tmp 11) rfl w.heap.size _ 0 0 [] rfl rfl HE.out _ A c k (ts.take k) rfl HTK.out HRT.out (fun _ _ => trivial) ?_ ?_ ?_)
  case _ => omega
  case _ => exact HB1.out.size
  intro A5 c5 w5 ho hg
  have H5 := Lib.hid (show OwnG 124 2 tcs w5 w.heap.size A5 c5 (ts.take k) ∧ Below w.heap.size w w5 from ⟨ho, HB1.out.grown hg HB1.out.size fun r hr => (HE.out.lt hr).1⟩)
  have hc5 := (HC.out _ H5.out.2).1
  have HRT2 := Lib.hid (show RdS w5 w5.heap.size 2 A3 ((ts.drop (k + 1)).map tcs) from by
    rw [List.map_drop, ← HA3.out]
    exact (HRD.out _ H5.out.2).drop (by rw [List.length_map, HN.out]; omega))
  clear ho hg HE HB1 HRT hc1
  go_wp2_with (at_builtin; refine wpList_append_g tabE rfl (.tmp 14) (.tmp 21) rfl w.heap.size A5 c5 k (ts.take k) HTK.out rfl H5.out.1 _ A3 (c - (k + 1)) (n - (k + 1)) (ts.drop (k + 1)) rfl HDL.out HRT2.out (fun _ _ => trivial) ?_ ?_ ?_)
  case _ => omega
  case _ => exact H5.out.2.size
  intro A9 c9 w9 ho hg
  have HB9 := Lib.hid (show Below w.heap.size w w9 from H5.out.2.grown hg H5.out.2.size fun r hr => (H5.out.1.lt (by rw [HTK.out]; exact hr)).1)
  rw [cut_list] at ho
  have HFN := Lib.hid (FIN.out A9 c9 _ w9 ho HEL.out HB9.out)
  obtain ⟨hc9, hf9⟩ := HC.out _ HB9.out
  clear ho hg HRT2 hc5
  go_wp2_with fail
  go_end0
  exact ⟨rfl, HFN.out⟩
/-- Where a shelf's table stands, told of the state. -/
theorem rcat_st {s : Addr} {F : Nat → Prop} {S : CS} {w : World} (h : Rc w s F S) (sh : Int) : Calls Tryz.prog 65 #[.pointer (some s), .int .i64 sh] w fun e w' => w = w' ∧
    ((∃ k, ∃ hk : k < S.t.length, S.t[k].1 = sh ∧ e = .returned (.int .i64 (k : Nat))) ∨ (hasC S sh = false ∧ e = .returned (.int .i64 (-1)))) := by
  obtain ⟨d, A, c, ts, rfl, hR, hst, _⟩ := h
  obtain ⟨room, t⟩ := S
  simp only at hst hR
  subst hst
  refine (rcat_any hR sh).mono fun e w' ⟨hw, h⟩ => ⟨hw, ?_⟩
  rcases h with ⟨k, hk, h1, h2⟩ | ⟨h1, h2⟩
  · exact .inl ⟨k, by simpa using hk, by simpa using h1, h2⟩
  · exact .inr ⟨hasC_no fun j hj => by simpa using h1 j (by simpa using hj), h2⟩
set_option maxHeartbeats 1000000 in
theorem rcdrop_any (s : Addr) (F : Nat → Prop) (S : CS) (sh : Int) (w : World) (h : Rc w s F S) (hok : S.Ok) :
    Calls Tryz.prog 38 #[.pointer (some s), .int .i64 sh] w fun e w' => e = .returned (.bool (hasC S sh)) ∧ Turned Rc w s F w' (dropC S sh) := by
  have KA := Lib.hid (rcat_st h sh)
  have KC := Lib.hid (fun k hk => rccut_any s F S k w h hk)
  have HT := Lib.hid (Turned.refl h)
  have HOK := Lib.hid hok
  clear h hok
  go_enter Tryz.func38, Tryz.ntmps38
  go_wp2_with fail
  refine KA.out.mono ?_
  rintro e w1 ⟨rfl, ⟨k, hk, hx, rfl⟩ | ⟨hno, rfl⟩⟩
  · have HX := Lib.hid (show dropC S sh = ⟨S.room, S.t.eraseIdx k⟩ ∧ hasC S sh = true from by
      rw [← hx]
      exact ⟨drop_cut HOK.out hk, hasC_yes hk⟩)
    have KK := Lib.hid (KC.out k hk)
    clear hx hk KA KC
    go_wp2_with fail
    refine KK.out.mono ?_
    rintro e w2 ⟨rfl, h2⟩
    have H2 := Lib.hid h2
    clear h2 KK
    go_wp2_with fail
    go_ret
    exact ⟨by rw [HX.out.2]; rfl, by rw [HX.out.1]; exact H2.out⟩
  · have HX := Lib.hid hno
    clear KA KC hno
    go_wp2_with fail
    go_ret
    exact ⟨by rw [HX.out]; rfl, by rw [dropC_no HX.out]; exact HT.out⟩
end
end Go.Proofs.YtoofhaoaogoomaaGreat
/- append of one element more to a slice of the call's own: where it lies then. No statement of the seat is proved here; nothing of the program is named. -/
namespace Go.Proofs.YtoofhaoaogoomaaGreat
open Go.RowKit
set_option linter.unusedVariables false
set_option linter.unusedSimpArgs false

section
variable {α : Type} {P : Program} {t e : TypeId} {sz : Nat} {g : α → List Value} {Q : α → Prop} {w w' : World} {B c n : Nat} {A : Option Addr} {l : List α}
theorem run_append_gat (E : Elem P t e sz g Q) (w : World) (ty : TypeId) (base : Nat) (A0 : Option Addr) (c0 k0 : Nat) (l0 : List α) (h0 : l0.length = k0) (hown : OwnG e sz g w base A0 c0 l0) (B : Nat) (A : Option Addr) (c k : Nat) (l : List α) (hk : l.length = k) (hk0 : 0 < k)
    (hr : RdS w B sz A (l.map g)) (ho : ∀ x ∈ l, Q x) (hl : k0 + k ≤ 1000000) (hbase : base ≤ w.heap.size) :
    ∃ A' c' w', (Builtin.append_ #[t, t] ty #[.slice A0 k0 c0, .slice A k c]).run P w = .ok (.slice A' (k0 + k) c') w' ∧ OwnG e sz g w' base A' c' (l0 ++ l) ∧ w.grownBy w' (Value.slice A0 k0 c0).ownBlock ∧ ((Value.slice A' (k0 + k) c').ownBlock = (Value.slice A0 k0 c0).ownBlock ∨ (Value.slice A' (k0 + k) c').ownBlock = some w.heap.size) := by
  subst hk h0
  obtain ⟨i, z, hi, hz, hsize, hzs, hby⟩ := E.info
  have hbb : (l0.length + l.length) * i.bytes ≤ 140737488355328 := Nat.le_trans (Nat.mul_le_mul hl hby) (by omega)
  obtain ⟨b, off, rfl, hb, hc⟩ := E.flatRd hr ho hk0
  obtain ⟨v', w', h1, h2, h3, _, h5⟩ := run_append_own_at (P := P) w base t ty e i z sz i.bytes E.slice hi hz hsize rfl hzs E.pos _ _ _ hown ⟨b, off, none⟩ l.length c (l.flatMap g) (E.flat ho) hc (fun u hu => by
    obtain ⟨k, _, hk⟩ := List.mem_flatMap.1 hu
    exact E.one k u hk) (by unfold maxLen; omega) hbb hbase
  have hf : ∃ A' c', v' = .slice A' (l0.length + l.length) c' := by
    rcases h2.2 with ⟨hv, h0⟩ | ⟨_, cp, cur, hv, _⟩
    · exact ⟨none, 0, by rw [hv, h0]⟩
    · exact ⟨_, _, hv⟩
  obtain ⟨A', c', rfl⟩ := hf
  refine ⟨A', c', w', h1, ?_, h3, h5⟩
  unfold OwnG
  rw [List.length_append, List.flatMap_append]
  exact h2
theorem wp_append_gat (E : Elem P t e sz g Q) {o : Oper} {a : Act} {w : World} {K : Act → World → Prop} {R : Exit → Act → World → Prop} (s x : Operand) (ho : o.op = .call { callee := .builtin .append, args := #[s, x], argTypes := #[t, t] })
    (base : Nat) (A0 : Option Addr) (c0 k0 : Nat) (l0 : List α) (h0 : l0.length = k0) (hs : a.eval s = .slice A0 k0 c0) (hown : OwnG e sz g w base A0 c0 l0) (B : Nat) (A : Option Addr) (c k : Nat) (l : List α) (hx : a.eval x = .slice A k c) (hk : l.length = k) (hk0 : 0 < k)
    (hr : RdS w B sz A (l.map g)) (hq : ∀ x ∈ l, Q x) (hl : k0 + k ≤ 1000000) (hbase : base ≤ w.heap.size)
    (h : ∀ A' c' w', OwnG e sz g w' base A' c' (l0 ++ l) → w.grownBy w' (Value.slice A0 k0 c0).ownBlock → ((Value.slice A' (k0 + k) c').ownBlock = (Value.slice A0 k0 c0).ownBlock ∨ (Value.slice A' (k0 + k) c').ownBlock = some w.heap.size) → K (a.put o.dst (.slice A' (k0 + k) c')) w') : Oper.wp P o a w K R := by
  obtain ⟨A', c', w', h1, h2, h3, h4⟩ := run_append_gat E w o.type base A0 c0 k0 l0 h0 hown B A c k l hk hk0 hr hq hl hbase
  unfold Oper.wp execOp
  simp only [ho, resolve, invoke, builtin, Sem.run_bind, Sem.run_pure, Result.andThen_ok, List.map_toArray, List.map_cons, List.map_nil, hs, hx, h1]
  exact h A' c' w' h2 h3 h4
end
end Go.Proofs.YtoofhaoaogoomaaGreat
