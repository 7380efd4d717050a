/- Layings of the library's contracts, in plain words. No statement of the seat is proved here. -/
import Derived.Test.YtoofhaoaogoomaaGreatZLAK
import Derived.Test.YtoofhaoaogoomaaGreatZLAB
import Derived.Shelf.SlSortCmp.WholeK
import Derived.Shelf.SlSortCmp.NoneTotal
import Derived.Ground.SlsfProg
import Derived.Test.YtoofhaoaogoomaaGreatProg
namespace Go.Proofs.YtoofhaoaogoomaaGreat
open Go.Proofs Go.Shelf
def sortKey_ren : Go.Shelf.Ren := ⟨fun | 6 => 73 | 15 => 83 | 14 => 86 | 28 => 96 | 29 => 97 | 20 => 100 | 21 => 101 | 22 => 102 | 23 => 103 | 24 => 104 | 25 => 105 | 26 => 106 | 27 => 107 | 46 => 113 | 47 => 109 | 48 => 110 | 49 => 114 | 50 => 115 | 57 => 117 | n => n, fun | 22 => 66 | 24 => 29 | 25 => 126 | 3 => 3 | 39 => 141 | 0 => 0 | 53 => 27 | 55 => 43 | 4 => 4 | 46 => 147 | 45 => 146 | 50 => 117 | 5 => 5 | 9 => 9 | 66 => 159 | 70 => 163 | 76 => 167 | 77 => 57 | n => n, fun | n => n⟩
theorem sortKey : Go.Proofs.SlLaysF0.n6 Tryz.prog sortKey_ren := {
  mixed := by kernel_rfl
  f6 := ⟨Tryz.f73.name, by decide, Tryz.func73.trans (congrArg some (by kernel_rfl))⟩
  f14 := ⟨Tryz.f86.name, by decide, Tryz.func86.trans (congrArg some (by kernel_rfl))⟩
  f15 := Tryz.func83.trans (congrArg some (by kernel_rfl))
  f20 := ⟨Tryz.f100.name, by decide, Tryz.func100.trans (congrArg some (by kernel_rfl))⟩
  f21 := ⟨Tryz.f101.name, by decide, Tryz.func101.trans (congrArg some (by kernel_rfl))⟩
  f22 := ⟨Tryz.f102.name, by decide, Tryz.func102.trans (congrArg some (by kernel_rfl))⟩
  f23 := ⟨Tryz.f103.name, by decide, Tryz.func103.trans (congrArg some (by kernel_rfl))⟩
  f24 := ⟨Tryz.f104.name, by decide, Tryz.func104.trans (congrArg some (by kernel_rfl))⟩
  f25 := ⟨Tryz.f105.name, by decide, Tryz.func105.trans (congrArg some (by kernel_rfl))⟩
  f26 := ⟨Tryz.f106.name, by decide, Tryz.func106.trans (congrArg some (by kernel_rfl))⟩
  f27 := ⟨Tryz.f107.name, by decide, Tryz.func107.trans (congrArg some (by kernel_rfl))⟩
  f28 := Tryz.func96.trans (congrArg some (by kernel_rfl))
  f29 := Tryz.func97.trans (congrArg some (by kernel_rfl))
  f46 := ⟨Tryz.f113.name, by decide, Tryz.func113.trans (congrArg some (by kernel_rfl))⟩
  f47 := Tryz.func109.trans (congrArg some (by kernel_rfl))
  f48 := Tryz.func110.trans (congrArg some (by kernel_rfl))
  f49 := ⟨Tryz.f114.name, by decide, Tryz.func114.trans (congrArg some (by kernel_rfl))⟩
  f50 := ⟨Tryz.f115.name, by decide, Tryz.func115.trans (congrArg some (by kernel_rfl))⟩
  f57 := ⟨Tryz.f117.name, by decide, Tryz.func117.trans (congrArg some (by kernel_rfl))⟩
  t0 := Tryz.underlying0
  a0 := Tryz.isAgg0
  z0 := Tryz.sizeOf0
  v0 := Tryz.zeroValue0
  t3 := Tryz.underlying3
  a3 := Tryz.isAgg3
  z3 := Tryz.sizeOf3
  v3 := Tryz.zeroValue3
  t4 := Tryz.underlying4
  a4 := Tryz.isAgg4
  z4 := Tryz.sizeOf4
  v4 := Tryz.zeroValue4
  t5 := Tryz.underlying5
  a5 := Tryz.isAgg5
  z5 := Tryz.sizeOf5
  v5 := Tryz.zeroValue5
  t9 := Tryz.underlying9
  a9 := Tryz.isAgg9
  z9 := Tryz.sizeOf9
  v9 := Tryz.zeroValue9
  t22 := Tryz.underlying66
  a22 := Tryz.isAgg66
  z22 := Tryz.sizeOf66
  v22 := Tryz.zeroValue66
  t25 := Tryz.underlying126
  a25 := Tryz.isAgg126
  z25 := Tryz.sizeOf126
  v25 := Tryz.zeroValue126
  t39 := Tryz.underlying141
  a39 := Tryz.isAgg141
  z39 := Tryz.sizeOf141
  v39 := Tryz.zeroValue141
  t45 := Tryz.underlying146
  a45 := Tryz.isAgg146
  z45 := Tryz.sizeOf146
  v45 := Tryz.zeroValue146
  t46 := Tryz.underlying147
  a46 := Tryz.isAgg147
  z46 := Tryz.sizeOf147
  v46 := Tryz.zeroValue147
  t50 := Tryz.underlying117
  a50 := Tryz.isAgg117
  z50 := Tryz.sizeOf117
  v50 := Tryz.zeroValue117
  t53 := Tryz.underlying27
  a53 := Tryz.isAgg27
  z53 := Tryz.sizeOf27
  v53 := Tryz.zeroValue27
  t55 := Tryz.underlying43
  a55 := Tryz.isAgg43
  z55 := Tryz.sizeOf43
  v55 := Tryz.zeroValue43
  t66 := Tryz.underlying159
  a66 := Tryz.isAgg159
  z66 := Tryz.sizeOf159
  v66 := Tryz.zeroValue159
  t70 := Tryz.underlying163
  a70 := Tryz.isAgg163
  z70 := Tryz.sizeOf163
  v70 := Tryz.zeroValue163
  t76 := Tryz.underlying167
  a76 := Tryz.isAgg167
  z76 := Tryz.sizeOf167
  v76 := Tryz.zeroValue167
  t77 := Tryz.underlying57
  a77 := Tryz.isAgg57
  z77 := Tryz.sizeOf57
  v77 := Tryz.zeroValue57
}
def sortRow_ren : Go.Shelf.Ren := ⟨fun | 6 => 70 | 15 => 83 | 14 => 82 | 28 => 96 | 29 => 97 | 20 => 88 | 21 => 89 | 22 => 90 | 23 => 91 | 24 => 92 | 25 => 93 | 26 => 94 | 27 => 95 | 46 => 108 | 47 => 109 | 48 => 110 | 49 => 111 | 50 => 112 | 57 => 116 | n => n, fun | 22 => 60 | 24 => 42 | 25 => 127 | 3 => 3 | 39 => 141 | 0 => 0 | 53 => 27 | 55 => 43 | 4 => 4 | 46 => 147 | 45 => 146 | 50 => 117 | 5 => 5 | 9 => 9 | 66 => 159 | 70 => 163 | 76 => 167 | 77 => 57 | n => n, fun | n => n⟩
theorem sortRow : Go.Proofs.SlLaysF0.n6 Tryz.prog sortRow_ren := {
  mixed := by kernel_rfl
  f6 := ⟨Tryz.f70.name, by decide, Tryz.func70.trans (congrArg some (by kernel_rfl))⟩
  f14 := ⟨Tryz.f82.name, by decide, Tryz.func82.trans (congrArg some (by kernel_rfl))⟩
  f15 := Tryz.func83.trans (congrArg some (by kernel_rfl))
  f20 := ⟨Tryz.f88.name, by decide, Tryz.func88.trans (congrArg some (by kernel_rfl))⟩
  f21 := ⟨Tryz.f89.name, by decide, Tryz.func89.trans (congrArg some (by kernel_rfl))⟩
  f22 := ⟨Tryz.f90.name, by decide, Tryz.func90.trans (congrArg some (by kernel_rfl))⟩
  f23 := ⟨Tryz.f91.name, by decide, Tryz.func91.trans (congrArg some (by kernel_rfl))⟩
  f24 := ⟨Tryz.f92.name, by decide, Tryz.func92.trans (congrArg some (by kernel_rfl))⟩
  f25 := ⟨Tryz.f93.name, by decide, Tryz.func93.trans (congrArg some (by kernel_rfl))⟩
  f26 := ⟨Tryz.f94.name, by decide, Tryz.func94.trans (congrArg some (by kernel_rfl))⟩
  f27 := ⟨Tryz.f95.name, by decide, Tryz.func95.trans (congrArg some (by kernel_rfl))⟩
  f28 := Tryz.func96.trans (congrArg some (by kernel_rfl))
  f29 := Tryz.func97.trans (congrArg some (by kernel_rfl))
  f46 := ⟨Tryz.f108.name, by decide, Tryz.func108.trans (congrArg some (by kernel_rfl))⟩
  f47 := Tryz.func109.trans (congrArg some (by kernel_rfl))
  f48 := Tryz.func110.trans (congrArg some (by kernel_rfl))
  f49 := ⟨Tryz.f111.name, by decide, Tryz.func111.trans (congrArg some (by kernel_rfl))⟩
  f50 := ⟨Tryz.f112.name, by decide, Tryz.func112.trans (congrArg some (by kernel_rfl))⟩
  f57 := ⟨Tryz.f116.name, by decide, Tryz.func116.trans (congrArg some (by kernel_rfl))⟩
  t0 := Tryz.underlying0
  a0 := Tryz.isAgg0
  z0 := Tryz.sizeOf0
  v0 := Tryz.zeroValue0
  t3 := Tryz.underlying3
  a3 := Tryz.isAgg3
  z3 := Tryz.sizeOf3
  v3 := Tryz.zeroValue3
  t4 := Tryz.underlying4
  a4 := Tryz.isAgg4
  z4 := Tryz.sizeOf4
  v4 := Tryz.zeroValue4
  t5 := Tryz.underlying5
  a5 := Tryz.isAgg5
  z5 := Tryz.sizeOf5
  v5 := Tryz.zeroValue5
  t9 := Tryz.underlying9
  a9 := Tryz.isAgg9
  z9 := Tryz.sizeOf9
  v9 := Tryz.zeroValue9
  t22 := Tryz.underlying60
  a22 := Tryz.isAgg60
  z22 := Tryz.sizeOf60
  v22 := Tryz.zeroValue60
  t25 := Tryz.underlying127
  a25 := Tryz.isAgg127
  z25 := Tryz.sizeOf127
  v25 := Tryz.zeroValue127
  t39 := Tryz.underlying141
  a39 := Tryz.isAgg141
  z39 := Tryz.sizeOf141
  v39 := Tryz.zeroValue141
  t45 := Tryz.underlying146
  a45 := Tryz.isAgg146
  z45 := Tryz.sizeOf146
  v45 := Tryz.zeroValue146
  t46 := Tryz.underlying147
  a46 := Tryz.isAgg147
  z46 := Tryz.sizeOf147
  v46 := Tryz.zeroValue147
  t50 := Tryz.underlying117
  a50 := Tryz.isAgg117
  z50 := Tryz.sizeOf117
  v50 := Tryz.zeroValue117
  t53 := Tryz.underlying27
  a53 := Tryz.isAgg27
  z53 := Tryz.sizeOf27
  v53 := Tryz.zeroValue27
  t55 := Tryz.underlying43
  a55 := Tryz.isAgg43
  z55 := Tryz.sizeOf43
  v55 := Tryz.zeroValue43
  t66 := Tryz.underlying159
  a66 := Tryz.isAgg159
  z66 := Tryz.sizeOf159
  v66 := Tryz.zeroValue159
  t70 := Tryz.underlying163
  a70 := Tryz.isAgg163
  z70 := Tryz.sizeOf163
  v70 := Tryz.zeroValue163
  t76 := Tryz.underlying167
  a76 := Tryz.isAgg167
  z76 := Tryz.sizeOf167
  v76 := Tryz.zeroValue167
  t77 := Tryz.underlying57
  a77 := Tryz.isAgg57
  z77 := Tryz.sizeOf57
  v77 := Tryz.zeroValue57
}
end Go.Proofs.YtoofhaoaogoomaaGreat
/- The library's sort of a slice of the call's own, whatever its elements. No statement of the seat is proved here; nothing of the program is named. -/
namespace Go.Proofs.YtoofhaoaogoomaaGreat
open Go Go.RowKit Go.Sort Go.Lib
set_option linter.unusedVariables false
set_option linter.unusedSimpArgs false

theorem bangG {α : Type} [Inhabited α] (a : Array α) (t : Nat) (h : t < a.size) : a[t]! = a[t] := getElem!_pos a t h
theorem flatK_list {σ : Type} [Inhabited σ] (enc : σ → List Value) (k : Nat) (hk : ∀ x, (enc x).length = k) (h0 : 0 < k) (l : List σ) : flatK enc k l.toArray = (l.flatMap enc).toArray := by
  have hl : (l.flatMap enc).length = l.length * k := flat_len enc k l fun x _ => hk x
  apply Array.ext (by simp only [size_flatK, List.size_toArray]; exact hl.symm)
  intro t h1 h2
  have ht : t < l.length * k := by simpa using h1
  have hj : t / k < l.length := (Nat.div_lt_iff_lt_mul h0).2 ht
  have hd : t / k * k + t % k = t := by rw [Nat.mul_comm]; exact Nat.div_add_mod t k
  have h3 := flat_at enc k l (fun x _ => hk x) (t / k) hj (t % k) (Nat.mod_lt _ h0)
  rw [hd] at h3
  have hm : t % k < (enc l[t / k]).length := by rw [hk]; exact Nat.mod_lt _ h0
  rw [← bangG (flatK enc k l.toArray) t h1, get_flatK enc k l.toArray t (by simpa using ht), bangG l.toArray (t / k) (by simpa using hj), List.getElem_toArray]
  rw [List.getElem_toArray]
  have h4 : (l.flatMap enc)[t]? = some (l.flatMap enc)[t] := List.getElem?_eq_getElem (by rw [hl]; exact ht)
  rw [h4, List.getElem?_eq_getElem hm] at h3
  injection h3 with h3
  rw [h3]
  exact getElem!_pos (enc l[t / k]) (t % k) hm
section
variable {σ : Type} [Inhabited σ] {enc : σ → List Value} {k : Nat} {w : World} {B c : Nat} {e : TypeId} {A : Option Addr} {l : List σ}
theorem own_holds (hk : ∀ x, (enc x).length = k) (h0 : 0 < k) {gb : Nat} {cap : Nat} {cur : Array Value} (hh : Blk w gb e cur) (ht : cur.toList.take (l.length * k) = l.flatMap enc) : HoldsK enc k w gb 0 l.toArray := fun j hj => by
  rw [flatK_list enc k hk h0] at hj ⊢
  have hj2 : j < (l.flatMap enc).length := by simpa using hj
  refine ⟨?_, by rw [Nat.zero_add]; exact hh.frozen j⟩
  rw [Nat.zero_add, hh.cell, bangG _ _ hj, List.getElem_toArray]
  obtain ⟨v, hv⟩ : ∃ v, (l.flatMap enc)[j] = v := ⟨_, rfl⟩
  have h1 : (l.flatMap enc)[j]? = some v := by rw [List.getElem?_eq_getElem hj2, hv]
  rw [hv]
  rw [← ht, List.getElem?_take] at h1
  split at h1
  · rw [← Array.getElem?_toList, h1]
    rfl
  · cases h1
theorem sort_own (hk : ∀ x, (enc x).length = k) (h0 : 0 < k) (lt : σ → σ → Bool) {P : Program} {f : FuncId} {fv : Value} (h : OwnG e k enc w B A c l)
    (hnil : ∀ p cap W, Calls P f #[.slice p 0 cap, fv] W fun e w' => e = .returned (.tuple #[]) ∧ w' = W)
    (hcon : ∀ blk cap (d : Array σ) W, HoldsK enc k W blk 0 d → blk < W.heap.size → d.size < 4611686018427387904 → Calls P f #[.slice (some ⟨blk, 0, none⟩) d.size cap, fv] W fun e w' => e = .returned (.tuple #[]) ∧ ∃ d' n os, PermIn 0 d.size d d' ∧ SortedIn lt 0 d.size d' ∧ w' = sortWorldK enc k W blk 0 n d' os)
    (hsz : l.length ≤ 1000000) :
    Calls P f #[.slice A l.length c, fv] w fun e' w' => e' = .returned (.tuple #[]) ∧ ∃ l' : List σ, l'.Perm l ∧ l'.Pairwise (fun a b => lt b a = false) ∧ OwnG e k enc w' B A c l' ∧ w.grownBy w' (Value.slice A l.length c).ownBlock := by
  have h1 : w.ownsRow B e k (.slice A l.length c) l.length (l.flatMap enc) := h
  rcases h1.2 with ⟨hv, hn⟩ | ⟨gb, cap, cur, hv, hB, hh, hnc, hm, hcs, ht⟩
  · have hl := List.eq_nil_of_length_eq_zero hn
    subst hl
    exact (hnil A c w).mono fun e' w' ⟨he, hw⟩ => ⟨he, [], List.Perm.refl _, List.Pairwise.nil, by rw [hw]; exact h, by rw [hw]; exact World.grownBy.refl w _⟩
  · injection hv with hA _ hc
    subst hA hc
    have hh : Blk w gb e cur := hh
    have hcur : l.length * k ≤ cur.size := by rw [hcs]; exact Nat.mul_le_mul_right k hnc
    have hd : (Value.slice (some ⟨gb, 0, none⟩) l.length c).ownBlock = some gb := rfl
    rw [hd]
    have hcn := hcon gb c l.toArray w (own_holds hk h0 (cap := c) hh ht) hh.lt (by simp; omega)
    have hsz2 : l.toArray.size = l.length := by simp
    rw [hsz2] at hcn
    refine hcn.mono fun e' w' ⟨he, d', n, os, hp, hs, hw⟩ => ⟨he, d'.toList, ?_, ?_, ?_, ?_⟩
    · have h3 := hp.2.2
      have hds : d'.size = l.length := by rw [hp.1, hsz2]
      have e1 : d'.extract 0 l.length = d' := by rw [← hds]; exact Array.extract_size
      have e2 : l.toArray.extract 0 l.length = l.toArray := by rw [← hsz2]; exact Array.extract_size
      rw [e1, e2] at h3
      exact h3
    · have hds : d'.size = l.length := by rw [hp.1, hsz2]
      rw [List.pairwise_iff_getElem]
      intro i j hi hj hij
      have hi' : i < d'.size := by simpa using hi
      have hj' : j < d'.size := by simpa using hj
      have := hs i j (Nat.zero_le _) hij (by omega)
      rw [bangG _ _ hi', bangG _ _ hj'] at this
      simpa using this
    · have hds : d'.toList.length = l.length := by rw [Array.length_toList, hp.1, hsz2]
      have hfl : (d'.toList.flatMap enc).length = l.length * k := by rw [flat_len enc k _ fun x _ => hk x, hds]
      have hfd : flatK enc k d' = (d'.toList.flatMap enc).toArray := by
        have := flatK_list enc k hk h0 d'.toList
        rwa [Array.toArray_toList] at this
      have hblk : Blk w' gb e (putCells id 0 (flatK enc k d') cur) := by
        subst hw
        show (sortWorldK enc k w gb 0 n d' os).heap[gb]? = _
        have hheap : (sortWorldK enc k w gb 0 n d' os).heap = w.heap.modify gb (onCells (putCells id 0 (flatK enc k d'))) ++ os := rfl
        rw [hheap, Array.getElem?_append_left (by simpa using hh.lt), Array.getElem?_modify, if_pos rfl, show w.heap[gb]? = some (.cells cur e (0, 0)) from hh, Option.map_some, onCells]
      refine ⟨by rw [hds]; exact hfl, .inr ⟨gb, c, _, by rw [hds], hB, hblk, by rw [hds]; exact hnc, hm, by simp [putCells, hcs], ?_⟩⟩
      rw [hds]
      apply List.ext_getElem?
      intro t
      rw [List.getElem?_take]
      split
      · rename_i ht2
        rw [Array.getElem?_toList, putCells, Array.getElem?_mapIdx, Array.getElem?_eq_getElem (by omega), Option.map_some, hfd]
        rw [if_pos ⟨Nat.zero_le _, by simp only [List.size_toArray, hfl]; omega⟩]
        rw [Nat.sub_zero, bangG _ _ (by simp only [List.size_toArray, hfl]; exact ht2), List.getElem_toArray]
        exact (List.getElem?_eq_getElem (by rw [hfl]; exact ht2)).symm
      · rename_i ht2
        exact (List.getElem?_eq_none (by rw [hfl]; omega)).symm
    · subst hw
      have hheap : (sortWorldK enc k w gb 0 n d' os).heap = w.heap.modify gb (onCells (putCells id 0 (flatK enc k d'))) ++ os := rfl
      refine ⟨rfl, rfl, rfl, by rw [hheap]; simp, fun i hi hne => ?_⟩
      rw [hheap, Array.getElem?_append_left (by simpa using hi), Array.getElem?_modify, if_neg (fun e => hne (by rw [e]))]
end
/-- The same slice, its elements without the proofs that they are good. -/
theorem own_val {α : Type} {Q : α → Prop} {g : α → List Value} {w : World} {B c k : Nat} {e : TypeId} {A : Option Addr} (l : List { x : α // Q x }) : OwnG e k (fun x : { x : α // Q x } => g x.1) w B A c l ↔ OwnG e k g w B A c (l.map (·.1)) := by
  unfold OwnG
  rw [List.length_map, List.flatMap_map]
/-- Two sorted lists of the same elements are one. -/
theorem sorted_unique {α : Type} {lt : α → α → Prop} : ∀ {l l' : List α}, (∀ a ∈ l, ∀ b ∈ l, ¬ lt a b → ¬ lt b a → a = b) → l.Perm l' → l.Pairwise (fun a b => ¬ lt b a) → l'.Pairwise (fun a b => ¬ lt b a) → l = l'
  | [], l', _, hp, _, _ => (List.Perm.eq_nil (List.Perm.symm hp)).symm
  | a :: t, [], _, hp, _, _ => by have := hp.length_eq; simp at this
  | a :: t, b :: t', ha, hp, h1, h2 => by
    obtain ⟨p1, p2⟩ := List.pairwise_cons.1 h1
    obtain ⟨q1, q2⟩ := List.pairwise_cons.1 h2
    have hab : a = b := by
      have m1 : a ∈ b :: t' := hp.mem_iff.1 (by simp)
      have m2 : b ∈ a :: t := hp.mem_iff.2 (by simp)
      rcases List.mem_cons.1 m1 with e | m1
      · exact e
      · rcases List.mem_cons.1 m2 with e | m2
        · exact e.symm
        · exact ha a (by simp) b (by simp [m2]) (q1 a m1) (p1 b m2)
    subst hab
    rw [sorted_unique (fun x hx y hy => ha x (by simp [hx]) y (by simp [hy])) (List.Perm.cons_inv hp) p2 q2]
end Go.Proofs.YtoofhaoaogoomaaGreat
