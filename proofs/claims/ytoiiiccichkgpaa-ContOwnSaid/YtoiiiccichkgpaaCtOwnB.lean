/- Pieces of the call's own: three bytes more. No statement of the seat is proved here. -/
import Derived.Test.YtoiiiccichkgpaaCtOwnA
namespace Go.Proofs.Ytoiiiccichkgpaa
open Go.RowKit
set_option linter.unusedVariables false
set_option linter.unusedSimpArgs false

def LieP (w : World) (B : Nat) (x : PieceT) : Prop := ∃ g o cur t, x.adr = some ⟨g, o, none⟩ ∧ B ≤ g ∧ Blk w g t cur ∧ t ≠ 42 ∧ o + x.cap ≤ cur.size ∧ x.p.data.length ≤ x.cap ∧ x.cap ≤ maxLen ∧ ∀ j (h : j < x.p.data.length), cur[o + j]? = some (.int .u8 x.p.data[j].toNat)
section
variable {w w' : World} {B c m : Nat} {A : Option Addr} {ls : List PieceT}
theorem Apart.upd (h : Apart w B ls) {i : Nat} (hi : i < ls.length) (A' : Option Addr) (c' : Nat) (d : List UInt8) (hnew : LieP w' B (ls[i].with_ A' c' d)) (hold : ∀ j (hj : j < ls.length), j ≠ i → LieP w' B ls[j])
    (hdis : ∀ j (hj : j < ls.length), j ≠ i → ∀ g o g' o', A' = some ⟨g, o, none⟩ → ls[j].adr = some ⟨g', o', none⟩ → g ≠ g' ∨ o + c' ≤ o' ∨ o' + ls[j].cap ≤ o) : Apart w' B (ls.set i (ls[i].with_ A' c' d)) := by
  refine ⟨fun x hx => ?_, fun a b ha hb hab p q p' q' e1 e2 => ?_⟩
  · obtain ⟨j, hj, rfl⟩ := List.getElem_of_mem hx
    rw [List.length_set] at hj
    rw [List.getElem_set]
    by_cases e : i = j
    · rw [if_pos e]
      exact hnew
    · rw [if_neg e]
      exact hold j hj fun e2 => e e2.symm
  · rw [List.length_set] at ha hb
    rw [List.getElem_set] at e1 e2 ⊢
    rw [List.getElem_set]
    by_cases ea : i = a
    · subst ea
      have eb : i ≠ b := by omega
      rw [if_pos rfl] at e1 ⊢
      rw [if_neg eb] at e2 ⊢
      exact hdis b hb (fun e => eb e.symm) p q p' q' e1 e2
    · rw [if_neg ea] at e1 ⊢
      by_cases eb : i = b
      · subst eb
        rw [if_pos rfl] at e2 ⊢
        rcases hdis a ha (fun e => ea e.symm) p' q' p q e2 e1 with h1 | h1 | h1
        · exact .inl fun e => h1 e.symm
        · exact .inr (.inr h1)
        · exact .inr (.inl h1)
      · rw [if_neg eb] at e2 ⊢
        exact h.two a b ha hb hab p q p' q' e1 e2
theorem blk_same {g : Nat} {t t2 : TypeId} {cs ds : Array Value} (h : Blk w g t cs) (h2 : Blk w g t2 ds) : ds = cs ∧ t2 = t := by
  unfold Blk at h h2
  rw [h] at h2
  injection h2 with h2
  injection h2 with a1 a2 _
  exact ⟨a1.symm, a2.symm⟩
theorem bv_snoc3 (l : List UInt8) : bv l ++ [.int .u8 1, .int .u8 2, .int .u8 3] = bv (l ++ [1, 2, 3]) := by simp [bv]
/-- 'append(m[i].Data, 1, 2, 3)', and the store of what it gives. -/
theorem OW.app (h : OW w B A c m ls) {i : Nat} (hi : i < ls.length) (hn : ls[i].p.data.length ≤ 100000) (hBw : B ≤ w.heap.size) (b cb : Nat) (hs : ∀ j u, [Value.int .u8 1, .int .u8 2, .int .u8 3][j]? = some u → w.cell? ((⟨b, 0, none⟩ : Addr).add j) = some u) (ty : TypeId) :
    ∃ A' c' w' g d, (Builtin.append_ #[26, 26] ty #[.slice ls[i].adr ls[i].p.data.length ls[i].cap, .slice (some ⟨b, 0, none⟩) 3 cb]).run Try.prog w = .ok (.slice A' (ls[i].p.data.length + 3) c') w' ∧ B ≤ g ∧ w.grownBy w' (some g) ∧
      A = some ⟨d, 0, none⟩ ∧ B ≤ d ∧ d < w'.heap.size ∧ w'.cell? ⟨d, i * 34 + 33, none⟩ = some (.slice ls[i].adr ls[i].p.data.length ls[i].cap) ∧ w'.frozen? ⟨d, i * 34 + 33, none⟩ = false ∧
      OW (w'.setCell ⟨d, i * 34 + 33, none⟩ (.slice A' (ls[i].p.data.length + 3) c')) B A c m (ls.set i (ls[i].with_ A' c' (ls[i].p.data ++ [1, 2, 3]))) := by
  obtain ⟨i0, hi0, hz0, hz1, hz2⟩ := info_parts (show (Try.prog.info? 5).map (fun i => (i.zero, i.size, i.bytes)) = some (some (.int .u8 0), 1, 1) by kernel_rfl)
  have hmp : 0 < m := by rw [← h.n]; omega
  have fin : ∀ (A' : Option Addr) (c' : Nat) (w' : World) (g : Nat), B ≤ g → w.grownBy w' (some g) → OwnP w' B A c m ls → Apart w' B (ls.set i (ls[i].with_ A' c' (ls[i].p.data ++ [1, 2, 3]))) →
      ∃ d, A = some ⟨d, 0, none⟩ ∧ B ≤ d ∧ d < w'.heap.size ∧ w'.cell? ⟨d, i * 34 + 33, none⟩ = some (.slice ls[i].adr ls[i].p.data.length ls[i].cap) ∧ w'.frozen? ⟨d, i * 34 + 33, none⟩ = false ∧
        OW (w'.setCell ⟨d, i * 34 + 33, none⟩ (.slice A' (ls[i].p.data.length + 3) c')) B A c m (ls.set i (ls[i].with_ A' c' (ls[i].p.data ++ [1, 2, 3]))) := fun A' c' w' g hg hgr ho ha => by
    obtain ⟨d, hA, hdB, hdl, hdo, hdc, hdf, hput⟩ := OwnP.put_ ho h.ok h.n hi
    obtain ⟨d2, ds, e2, hblk⟩ := own_blkp ho hmp
    rw [hdo] at e2
    injection e2 with e2
    subst e2
    have hp := hput A' c' (ls[i].p.data ++ [1, 2, 3])
    rw [List.length_append] at hp
    exact ⟨d, hA, hdB, hdl, hdc, hdf, hp, ha.row hblk _ _, ok_set h.ok hi _ _ _, by rw [List.length_set]; exact h.n⟩
  obtain ⟨g, o, cur, t, h1, h2, h3, h4, h5, h6, h7, h8⟩ := h.apt.each _ (List.getElem_mem hi)
  have hlb : (bv ls[i].p.data).length = ls[i].p.data.length := bv_length _
  by_cases hroom : ls[i].p.data.length + 3 ≤ ls[i].cap
  · have hfit : o + ls[i].p.data.length + [Value.int .u8 1, .int .u8 2, .int .u8 3].length ≤ cur.toList.length := by
      rw [Array.length_toList]
      show o + ls[i].p.data.length + 3 ≤ cur.size
      omega
    have hrun := run_append_room_cells (P := Try.prog) w 26 ty 5 i0 Try.underlying26 hi0 g o ls[i].p.data.length ls[i].cap ⟨b, 0, none⟩ 3 cb [.int .u8 1, .int .u8 2, .int .u8 3] (by rw [hz1]; rfl) hs (by intro u hu; simp at hu; rcases hu with rfl | rfl | rfl <;> rfl) hroom
      (fun j hj => by rw [h3.cell, hz1]; have : j < 3 := hj; rw [Array.getElem?_eq_getElem (by omega)]; rfl) (fun j hj => h3.frozen _)
    rw [hz1, Nat.mul_one] at hrun
    have hgr : w.grownBy (w.setCells g (o + ls[i].p.data.length) [.int .u8 1, .int .u8 2, .int .u8 3]) (some g) := grown_cells g _ _ w
    have hblk := blk_cells [Value.int .u8 1, .int .u8 2, .int .u8 3] (o + ls[i].p.data.length) w cur h3 (by show o + ls[i].p.data.length + 3 ≤ cur.size; omega)
    have hap : Apart (w.setCells g (o + ls[i].p.data.length) [.int .u8 1, .int .u8 2, .int .u8 3]) B (ls.set i (ls[i].with_ ls[i].adr ls[i].cap (ls[i].p.data ++ [1, 2, 3]))) := by
      refine h.apt.upd hi _ _ _ ?_ (fun j hj e => ?_) (fun j hj e p q p' q' e1 e2 => ?_)
      · refine ⟨g, o, _, t, h1, h2, hblk, h4, ?_, ?_, h7, fun q hq => ?_⟩
        · show o + ls[i].cap ≤ (splice cur.toList (o + ls[i].p.data.length) [Value.int .u8 1, .int .u8 2, .int .u8 3]).toArray.size
          rw [List.size_toArray, length_splice _ _ _ hfit, Array.length_toList]
          exact h5
        · show (ls[i].p.data ++ [1, 2, 3]).length ≤ ls[i].cap
          rw [List.length_append]
          exact hroom
        · have hq2 : q < (ls[i].p.data ++ [1, 2, 3]).length := hq
          show (splice cur.toList (o + ls[i].p.data.length) [Value.int .u8 1, .int .u8 2, .int .u8 3]).toArray[o + q]? = some (.int .u8 ((ls[i].p.data ++ [1, 2, 3])[q]'hq2).toNat)
          have hbv : (bv (ls[i].p.data ++ [1, 2, 3]))[q]? = some (.int .u8 ((ls[i].p.data ++ [1, 2, 3])[q]'hq2).toNat) := bv_get hq2
          rw [← hbv, ← bv_snoc3, List.getElem?_toArray]
          unfold splice
          have hlt : (cur.toList.take (o + ls[i].p.data.length)).length = o + ls[i].p.data.length := by rw [List.length_take, Array.length_toList]; omega
          by_cases hq3 : q < ls[i].p.data.length
          · rw [List.getElem?_append_left (by rw [hlt]; omega), List.getElem?_take, if_pos (by omega), List.getElem?_append_left (by rw [hlb]; exact hq3), Array.getElem?_toList, h8 q hq3, bv_get hq3]
          · have hq4 : q < ls[i].p.data.length + 3 := by rwa [List.length_append] at hq2
            rw [List.getElem?_append_right (by rw [hlt]; omega), hlt, show o + q - (o + ls[i].p.data.length) = q - ls[i].p.data.length by omega, List.getElem?_append_left (by show _ < 3; omega), List.getElem?_append_right (by rw [hlb]; omega), hlb]
      · obtain ⟨g2, o2, cur2, t2, k1, k2, k3, k4, k5, k6, k7, k8⟩ := h.apt.each _ (List.getElem_mem hj)
        by_cases eg : g2 = g
        · subst eg
          obtain ⟨rfl, rfl⟩ := blk_same h3 k3
          have hd : o + ls[i].cap ≤ o2 ∨ o2 + ls[j].cap ≤ o := by
            rcases Nat.lt_or_gt_of_ne e with hlt | hlt
            · rcases h.apt.two j i hj hi hlt _ _ _ _ k1 h1 with hh | hh | hh
              · exact absurd rfl hh
              · exact .inr hh
              · exact .inl hh
            · rcases h.apt.two i j hi hj hlt _ _ _ _ h1 k1 with hh | hh | hh
              · exact absurd rfl hh
              · exact .inl hh
              · exact .inr hh
          refine ⟨g2, o2, _, t2, k1, k2, hblk, k4, ?_, k6, k7, fun q hq => ?_⟩
          · rw [List.size_toArray, length_splice _ _ _ hfit, Array.length_toList]
            exact k5
          · rw [List.getElem?_toArray]
            unfold splice
            have hlt : (cur2.toList.take (o + ls[i].p.data.length)).length = o + ls[i].p.data.length := by rw [List.length_take, Array.length_toList]; omega
            by_cases hq3 : o2 + q < o + ls[i].p.data.length
            · rw [List.getElem?_append_left (by rw [hlt]; exact hq3), List.getElem?_take, if_pos hq3, Array.getElem?_toList]
              exact k8 q hq
            · rw [List.getElem?_append_right (by rw [hlt]; omega), hlt, List.getElem?_append_right (by show 3 ≤ _; omega), List.getElem?_drop]
              have e3 : o + ls[i].p.data.length + [Value.int .u8 1, .int .u8 2, .int .u8 3].length + (o2 + q - (o + ls[i].p.data.length) - [Value.int .u8 1, .int .u8 2, .int .u8 3].length) = o2 + q := by
                show o + ls[i].p.data.length + 3 + (o2 + q - (o + ls[i].p.data.length) - 3) = o2 + q
                omega
              rw [e3, Array.getElem?_toList]
              exact k8 q hq
        · exact ⟨g2, o2, cur2, t2, k1, k2, k3.same (hgr.block g2 k3.lt (by simpa using eg)), k4, k5, k6, k7, k8⟩
      · rcases Nat.lt_or_gt_of_ne e with hlt | hlt
        · rcases h.apt.two j i hj hi hlt _ _ _ _ e2 e1 with hh | hh | hh
          · exact .inl fun e => hh e.symm
          · exact .inr (.inr hh)
          · exact .inr (.inl hh)
        · exact h.apt.two i j hi hj hlt _ _ _ _ e1 e2
    obtain ⟨d, hd⟩ := fin ls[i].adr ls[i].cap _ g h2 hgr (ownsRow_grown h.own hgr fun r e => by injection e with e; rw [← e]; exact own_data h.own h3 h4) hap
    refine ⟨ls[i].adr, ls[i].cap, _, g, d, ?_, h2, hgr, hd⟩
    rw [h1]
    rw [h1] at hd
    exact hrun
  · obtain ⟨v', w', hrun, hown, hgr⟩ := run_append_arg_grows (P := Try.prog) w 26 ty 5 i0 (.int .u8 0) 1 1 Try.underlying26 hi0 hz0 hz1 hz2 rfl (by omega) ⟨g, o, none⟩ ls[i].p.data.length ls[i].cap (bv ls[i].p.data) (by rw [hlb, Nat.mul_one]) (fun j u hu => by
        have hj : j < ls[i].p.data.length := by have := (List.getElem?_eq_some_iff.1 hu).1; rwa [hlb] at this
        rw [Addr.add_lit, h3.cell, h8 j hj, ← bv_get hj, hu]) ⟨b, 0, none⟩ 3 cb [.int .u8 1, .int .u8 2, .int .u8 3] rfl hs (by omega) (by unfold maxLen; omega) (by omega)
    rcases hown.2 with ⟨_, h0⟩ | ⟨g2, cap, cur2, rfl, hb2, hh2, hnc, hm2, hcs, ht⟩
    · omega
    have hk2 : Blk w' g2 5 cur2 := hh2
    have hgr2 : w.grownBy w' (some g2) := ⟨hgr.os, hgr.tape, hgr.output, hgr.size, fun k hk _ => hgr.block k hk (by simp)⟩
    have hap : Apart w' B (ls.set i (ls[i].with_ (some ⟨g2, 0, none⟩) cap (ls[i].p.data ++ [1, 2, 3]))) := by
      refine h.apt.upd hi _ _ _ ?_ (fun j hj e => ?_) (fun j hj e p q p' q' e1 e2 => ?_)
      · refine ⟨g2, 0, cur2, 5, rfl, Nat.le_trans hBw hb2, hk2, by decide, ?_, ?_, hm2, fun q hq => ?_⟩
        · show 0 + cap ≤ cur2.size
          omega
        · show (ls[i].p.data ++ [1, 2, 3]).length ≤ cap
          rw [List.length_append]
          exact hnc
        · have hq2 : q < (ls[i].p.data ++ [1, 2, 3]).length := hq
          show cur2[0 + q]? = some (.int .u8 ((ls[i].p.data ++ [1, 2, 3])[q]'hq2).toNat)
          have hbv : (bv (ls[i].p.data ++ [1, 2, 3]))[q]? = some (.int .u8 ((ls[i].p.data ++ [1, 2, 3])[q]'hq2).toNat) := bv_get hq2
          rw [← hbv, ← bv_snoc3, ← ht, List.getElem?_take, if_pos (by rw [List.length_append] at hq2; have : q < ls[i].p.data.length + 3 := hq2; omega), Nat.zero_add, Array.getElem?_toList]
      · obtain ⟨g3, o3, cur3, t3, k1, k2, k3, k4⟩ := h.apt.each _ (List.getElem_mem hj)
        exact ⟨g3, o3, cur3, t3, k1, k2, k3.same (hgr.block g3 k3.lt (by simp)), k4⟩
      · left
        obtain ⟨g3, o3, cur3, t3, k1, k2, k3, k4⟩ := h.apt.each _ (List.getElem_mem hj)
        rw [k1] at e2
        injection e1 with e1
        injection e1 with e1 _ _
        injection e2 with e2
        injection e2 with e2 _ _
        have := k3.lt
        omega
    obtain ⟨d, hd⟩ := fin (some ⟨g2, 0, none⟩) cap w' g2 (Nat.le_trans hBw hb2) hgr2 (ownsRow_grown h.own hgr fun r e => by cases e) hap
    refine ⟨some ⟨g2, 0, none⟩, cap, w', g2, d, ?_, Nat.le_trans hBw hb2, hgr2, hd⟩
    rw [h1]
    exact hrun
end
end Go.Proofs.Ytoiiiccichkgpaa
