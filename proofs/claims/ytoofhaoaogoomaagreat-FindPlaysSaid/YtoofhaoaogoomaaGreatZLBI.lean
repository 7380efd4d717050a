/- The sorts of package index. No statement of the seat is proved here. -/
import Derived.Test.YtoofhaoaogoomaaGreatIxCmp
import Derived.Test.YtoofhaoaogoomaaGreatZLBH
import Derived.Test.YtoofhaoaogoomaaGreatZLAL
import Derived.Test.YtoofhaoaogoomaaGreatIxLandD
import Derived.Test.YtoofhaoaogoomaaGreatZLAC
import Derived.Shelf.SlSortCmp.NoneTotal
import Derived.Laws.Tables
namespace Go.Proofs.YtoofhaoaogoomaaGreat
open Go Go.RowKit Go.Sort Go.Lib
set_option linter.unusedVariables false
set_option linter.unusedSimpArgs false
set_option maxRecDepth 100000

theorem cmpB_val : ∀ (a b : List UInt8), a.length = b.length → (Lib.compareBytes a b < 0 ↔ val a < val b) ∧ (Lib.compareBytes a b = 0 ↔ val a = val b)
  | [], [], _ => by simp [Lib.compareBytes]
  | [], _ :: _, h => by simp at h
  | _ :: _, [], h => by simp at h
  | x :: a, y :: b, h => by
    have hl : a.length = b.length := by simpa using h
    obtain ⟨i1, i2⟩ := cmpB_val a b hl
    have v1 := val_lt a
    have v2 := val_lt b
    rw [hl] at v1
    rw [val_cons, val_cons, hl]
    unfold Lib.compareBytes
    generalize 256 ^ b.length = N at *
    by_cases h1 : x < y
    · rw [if_pos h1]
      have h1 : x.toNat < y.toNat := h1
      have h2 : (x.toNat + 1) * N ≤ y.toNat * N := Nat.mul_le_mul_right N h1
      rw [Nat.add_mul] at h2
      constructor <;> constructor <;> intro _ <;> omega
    · rw [if_neg h1]
      by_cases h3 : y < x
      · rw [if_pos h3]
        have h3 : y.toNat < x.toNat := h3
        have h2 : (y.toNat + 1) * N ≤ x.toNat * N := Nat.mul_le_mul_right N h3
        rw [Nat.add_mul] at h2
        constructor <;> constructor <;> intro _ <;> omega
      · rw [if_neg h3]
        have e : x = y := UInt8.toNat_inj.1 (by
          have h1 : ¬ x.toNat < y.toNat := h1
          have h3 : ¬ y.toNat < x.toNat := h3
          omega)
        subst e
        constructor
        · rw [i1]; constructor <;> intro _ <;> omega
        · rw [i2]; constructor <;> intro _ <;> omega
theorem cmpI_lt (x y : Int) : (cmpI x y < 0 ↔ x < y) ∧ (cmpI x y = 0 ↔ x = y) := by
  unfold cmpI
  by_cases h : x < y
  · rw [if_pos h]; constructor <;> constructor <;> intro _ <;> omega
  · rw [if_neg h]
    by_cases h2 : y < x
    · rw [if_pos h2]; constructor <;> constructor <;> intro _ <;> omega
    · rw [if_neg h2]; constructor <;> constructor <;> intro _ <;> omega
theorem cfK_lt {a b : KeyT} (ha : a.Ok) (hb : b.Ok) : cfK a b < 0 ↔ ordK a < ordK b := by
  obtain ⟨h1, h2⟩ := cmpB_val a.1 b.1 (by rw [ha.1, hb.1])
  obtain ⟨h3, _⟩ := cmpI_lt a.2 b.2
  have n1 : a.2 < 4294967296 := ha.2
  have n2 : b.2 < 4294967296 := hb.2
  unfold cfK orI ordK
  by_cases h : Lib.compareBytes a.1 b.1 = 0
  · rw [if_pos h, h3]
    have := h2.1 h
    omega
  · rw [if_neg h, h1]
    have : ¬ val a.1 = val b.1 := fun e => h (h2.2 e)
    omega
/-- One row stands ahead of another on a shelf. -/
def ltS (a b : RowT) : Prop := a.2.2 < b.2.2 ∨ (a.2.2 = b.2.2 ∧ ordK a.1 < ordK b.1)
theorem cfS_lt {a b : RowT} (ha : a.Ok) (hb : b.Ok) : cfS a b < 0 ↔ ltS a b := by
  obtain ⟨h3, h4⟩ := cmpI_lt a.2.2 b.2.2
  unfold cfS orI ltS
  by_cases h : cmpI a.2.2 b.2.2 = 0
  · rw [if_pos h, cfK_lt ha.key hb.key]
    have := h4.1 h
    constructor
    · exact fun h => .inr ⟨this, h⟩
    · rintro (h | h)
      · omega
      · exact h.2
  · rw [if_neg h, h3]
    have : ¬ a.2.2 = b.2.2 := fun e => h (h4.2 e)
    constructor
    · exact .inl
    · rintro (h | h)
      · exact h
      · exact absurd h.1 this
instance : Inhabited { k : KeyT // k.Ok } := ⟨⟨(List.replicate 32 0, 0), by simp [KeyT.Ok]⟩⟩
instance : Inhabited { r : RowT // r.Ok } := ⟨⟨((List.replicate 32 0, 0), (0, 0)), ⟨by simp [KeyT.Ok], by simp [In64], by simp [In64]⟩⟩⟩
/-- Sorting by a comparison that follows an order: what comes of it, told of the elements alone. -/
theorem sort_of {α : Type} {Q : α → Prop} [Inhabited { x : α // Q x }] (g : α → List Value) (k : Nat) (e : TypeId) (hk : ∀ x, Q x → (g x).length = k) (h0 : 0 < k) (lt : α → α → Prop) (cf : α → α → Int) (hc : ∀ a b, Q a → Q b → (cf a b < 0 ↔ lt a b))
    {P : Program} {f : FuncId} {fv : Value} {w : World} {B c : Nat} {A : Option Addr} (l : List α) (ho : ∀ x ∈ l, Q x) (h : OwnG e k g w B A c l) (hsz : l.length ≤ 1000000)
    (hnil : ∀ p cap W, Calls P f #[.slice p 0 cap, fv] W fun e w' => e = .returned (.tuple #[]) ∧ w' = W)
    (hcon : ∀ blk cap (d : Array { x : α // Q x }) W, HoldsK (fun x : { x : α // Q x } => g x.1) k W blk 0 d → blk < W.heap.size → d.size < 4611686018427387904 → Calls P f #[.slice (some ⟨blk, 0, none⟩) d.size cap, fv] W fun e w' => e = .returned (.tuple #[]) ∧
      ∃ d' n os, PermIn 0 d.size d d' ∧ SortedIn (ltOf fun x y : { x : α // Q x } => cf x.1 y.1) 0 d.size d' ∧ w' = sortWorldK (fun x : { x : α // Q x } => g x.1) k W blk 0 n d' os) :
    Calls P f #[.slice A l.length c, fv] w fun e' w' => e' = .returned (.tuple #[]) ∧ ∃ l' : List α, l'.Perm l ∧ l'.Pairwise (fun a b => ¬ lt b a) ∧ OwnG e k g w' B A c l' ∧ w.grownBy w' (Value.slice A l.length c).ownBlock := by
  have e1 : (l.attachWith Q ho).map (·.1) = l := by simp
  have h2 : OwnG e k (fun x : { x : α // Q x } => g x.1) w B A c (l.attachWith Q ho) := (own_val (Q := Q) (g := g) _).2 (by rw [e1]; exact h)
  have hl : (l.attachWith Q ho).length = l.length := by simp
  have := sort_own (fun x : { x : α // Q x } => hk x.1 x.2) h0 (ltOf fun x y : { x : α // Q x } => cf x.1 y.1) h2 hnil hcon (by rw [hl]; exact hsz)
  rw [hl] at this
  refine this.mono fun e' w' ⟨he, l', p1, p2, p3, p4⟩ => ⟨he, l'.map (·.1), ?_, ?_, (own_val l').1 p3, p4⟩
  · have := p1.map (·.1)
    rwa [e1] at this
  · rw [List.pairwise_map]
    refine p2.imp fun {a b} hab hlt => ?_
    have := (hc b.1 a.1 b.2 a.2).2 hlt
    simp [ltOf, this] at hab
theorem swo_of {α : Type} {Q : α → Prop} (lt : α → α → Prop) (cf : α → α → Int) (hc : ∀ a b, Q a → Q b → (cf a b < 0 ↔ lt a b)) (h1 : ∀ x, ¬ lt x x) (h2 : ∀ x y z, lt x y → lt y z → lt x z) (h3 : ∀ x y z, ¬ lt x y → ¬ lt y z → ¬ lt x z) : SWO (ltOf fun x y : { x : α // Q x } => cf x.1 y.1) where
  irrefl x := by
    have := hc x.1 x.1 x.2 x.2
    simp only [ltOf, decide_eq_false_iff_not, this]
    exact h1 _
  trans x y z a b := by
    simp only [ltOf, decide_eq_true_eq, hc _ _ x.2 y.2, hc _ _ y.2 z.2, hc _ _ x.2 z.2] at a b ⊢
    exact h2 _ _ _ a b
  ntrans x y z a b := by
    simp only [ltOf, decide_eq_false_iff_not, hc _ _ x.2 y.2, hc _ _ y.2 z.2, hc _ _ x.2 z.2] at a b ⊢
    exact h3 _ _ _ a b
section
variable {w : World} {B c : Nat} {A : Option Addr}
set_option maxRecDepth 100000 in
theorem sort_keys (l : List KeyT) (ho : ∀ x ∈ l, x.Ok) (h : OwnG 29 33 kcs w B A c l) (hsz : l.length ≤ 1000000) :
    Calls Tryz.prog 73 #[.slice A l.length c, .func (.func 72) #[] #[]] w fun e w' => e = .returned (.tuple #[]) ∧
      ∃ l' : List KeyT, l'.Perm l ∧ l'.Pairwise (fun a b => ¬ ordK b < ordK a) ∧ OwnG 29 33 kcs w' B A c l' ∧ w.grownBy w' (Value.slice A l.length c).ownBlock := by
  have eg : ∀ args w, (callFunc 72 args).run Tryz.prog w = .ok (.enter 72 args) w := enters_of Tryz.func72 (by kernel_rfl) rfl
  exact sort_of (Q := KeyT.Ok) kcs 33 29 (fun _ h => kcs_length h) (by decide) (fun a b => ordK a < ordK b) cfK (fun _ _ ha hb => cfK_lt ha hb) l ho h hsz (fun p cap W => AnyF.slices_SortFunc_none sortKey p cap _ W)
    (fun blk cap d W hH hb hd => AnyQ.slices_SortFunc sortKey 33 Tryz.isAgg29 Tryz.sizeOf29 (fun x : { x : KeyT // x.Ok } => kcs x.1) (fun x => kcs_length x.2) (fun x v hv => by
      have := kcs_one (k := x.1)
      rw [Array.all_eq_true_iff_forall_mem] at this
      exact this v (by simpa using hv)) (fun x y => cfK x.1 y.1) (swo_of (fun a b => ordK a < ordK b) cfK (fun _ _ ha hb => cfK_lt ha hb) (fun _ => Nat.lt_irrefl _) (fun _ _ _ => Nat.lt_trans) (fun _ _ _ a b => by omega)) 72 #[] blk 0 cap d W eg (fun m os dk _ x y => byKey_any x.1 y.1 x.2 y.2 _) hH hb hd)
set_option maxRecDepth 100000 in
theorem sort_rows (l : List RowT) (ho : ∀ x ∈ l, x.Ok) (h : OwnG 42 35 rcs w B A c l) (hsz : l.length ≤ 1000000) :
    Calls Tryz.prog 70 #[.slice A l.length c, .func (.func 71) #[] #[]] w fun e w' => e = .returned (.tuple #[]) ∧
      ∃ l' : List RowT, l'.Perm l ∧ l'.Pairwise (fun a b => ¬ ordK b.1 < ordK a.1) ∧ OwnG 42 35 rcs w' B A c l' ∧ w.grownBy w' (Value.slice A l.length c).ownBlock := by
  have eg : ∀ args w, (callFunc 71 args).run Tryz.prog w = .ok (.enter 71 args) w := enters_of Tryz.func71 (by kernel_rfl) rfl
  exact sort_of (Q := RowT.Ok) rcs 35 42 (fun _ h => rcs_length h) (by decide) (fun a b => ordK a.1 < ordK b.1) cfR (fun _ _ ha hb => cfK_lt ha.key hb.key) l ho h hsz (fun p cap W => AnyF.slices_SortFunc_none sortRow p cap _ W)
    (fun blk cap d W hH hb hd => AnyQ.slices_SortFunc sortRow 35 Tryz.isAgg42 Tryz.sizeOf42 (fun x : { x : RowT // x.Ok } => rcs x.1) (fun x => rcs_length x.2) (fun x v hv => by
      have := rcs_one (r := x.1)
      rw [Array.all_eq_true_iff_forall_mem] at this
      exact this v (by simpa using hv)) (fun x y => cfR x.1 y.1) (swo_of (fun a b : RowT => ordK a.1 < ordK b.1) cfR (fun _ _ ha hb => cfK_lt ha.key hb.key) (fun _ => Nat.lt_irrefl _) (fun _ _ _ => Nat.lt_trans) (fun _ _ _ a b => by omega)) 71 #[] blk 0 cap d W eg (fun m os dk _ x y => byRow_any x.1 y.1 x.2 y.2 _) hH hb hd)
set_option maxRecDepth 100000 in
theorem sort_slots (l : List RowT) (ho : ∀ x ∈ l, x.Ok) (h : OwnG 42 35 rcs w B A c l) (hsz : l.length ≤ 1000000) :
    Calls Tryz.prog 70 #[.slice A l.length c, .func (.func 74) #[] #[]] w fun e w' => e = .returned (.tuple #[]) ∧
      ∃ l' : List RowT, l'.Perm l ∧ l'.Pairwise (fun a b => ¬ ltS b a) ∧ OwnG 42 35 rcs w' B A c l' ∧ w.grownBy w' (Value.slice A l.length c).ownBlock := by
  have eg : ∀ args w, (callFunc 74 args).run Tryz.prog w = .ok (.enter 74 args) w := enters_of Tryz.func74 (by kernel_rfl) rfl
  exact sort_of (Q := RowT.Ok) rcs 35 42 (fun _ h => rcs_length h) (by decide) ltS cfS (fun _ _ ha hb => cfS_lt ha hb) l ho h hsz (fun p cap W => AnyF.slices_SortFunc_none sortRow p cap _ W)
    (fun blk cap d W hH hb hd => AnyQ.slices_SortFunc sortRow 35 Tryz.isAgg42 Tryz.sizeOf42 (fun x : { x : RowT // x.Ok } => rcs x.1) (fun x => rcs_length x.2) (fun x v hv => by
      have := rcs_one (r := x.1)
      rw [Array.all_eq_true_iff_forall_mem] at this
      exact this v (by simpa using hv)) (fun x y => cfS x.1 y.1) (swo_of ltS cfS (fun _ _ ha hb => cfS_lt ha hb) (fun x h => by rcases h with h | h <;> omega) (fun x y z a b => by unfold ltS at *; omega) (fun x y z a b => by unfold ltS at *; omega)) 74 #[] blk 0 cap d W eg (fun m os dk _ x y => bySlot_any x.1 y.1 x.2 y.2 _) hH hb hd)
end
end Go.Proofs.YtoofhaoaogoomaaGreat
/- The landed index: Twins. No statement of the seat is proved here. -/
namespace Go.Proofs.YtoofhaoaogoomaaGreat
open Go Go.Maps Go.RowKit
set_option linter.unusedVariables false
set_option linter.unusedSimpArgs false
set_option maxRecDepth 100000

theorem below_of_grown {w w' : World} {B r : Nat} (h : w.grownBy w' (some r)) (hr : B ≤ r) (hB : B ≤ w.heap.size) : Below B w w' := ⟨h.os, h.tape, h.output, h.size, fun i hi => h.block i (by omega) fun e => by injection e with e; omega⟩
theorem grown_of_own {w w' : World} {B : Nat} {A : Option Addr} {n c : Nat} (h : w.grownBy w' (Value.slice A n c).ownBlock) (hl : ∀ k, (Value.slice A n c).ownBlock = some k → B ≤ k) (hB : B ≤ w.heap.size) : Below B w w' := ⟨h.os, h.tape, h.output, h.size, fun i hi => h.block i (by omega) fun e => by have := hl i e.symm; omega⟩
/-- A group's set, or nil where there is none. -/
theorem GrpT.grab {G : Type} [DecidableEq G] {t k0 : TypeId} {M : MK Tryz.prog t k0 128 G (Option Nat)} {w : World} {b : Nat} {F : Nat → Prop} {R : G → KeyT → Prop} {T : List (G × Nat)} (h : GrpT M w b F R T) (hz : M.zero = none) (d : G) :
    ∃ ob K, getM M (tm T) d = ob ∧ MapO mkS w ob (us K) ∧ K.Nodup ∧ (∀ k, k ∈ K ↔ R d k) ∧ ∀ x, ob = some x → F x := by
  by_cases hin : ∃ x, (d, x) ∈ T
  · obtain ⟨x, hx⟩ := hin
    obtain ⟨K, q1, q2, q3⟩ := h.each _ hx
    exact ⟨some x, K, h.get hx, q1, us_once q1, q3, fun y hy => by injection hy with hy; rw [← hy]; exact (h.blocks hx).2.2.1⟩
  · refine ⟨none, [], h.none_ hz fun x hx => hin ⟨x, hx⟩, rfl, List.nodup_nil, fun k => ⟨fun hk => (by cases hk), fun hk => ?_⟩, fun x hx => (by cases hx)⟩
    obtain ⟨x, hx⟩ := h.all _ _ hk
    exact absurd ⟨x, hx⟩ hin
theorem MapO.blk {α β : Type} {t k e : TypeId} {M : MK Tryz.prog t k e α β} {w w' : World} {ob : Option Nat} {L : List (α × β)} (h : MapO M w ob L) (hb : ∀ x, ob = some x → w'.heap[x]? = w.heap[x]?) : MapO M w' ob L := by
  cases ob with
  | none => exact h
  | some x => exact MapL.blk h (hb x rfl)
theorem twins_eq {L : List RowT} (h : RowsOk L) {d : List UInt8} {K l : List KeyT} (hn : K.Nodup) (hK : ∀ k, k ∈ K ↔ RT L d k) (hp : l.Perm K) (hs : l.Pairwise (fun a b => ¬ ordK b < ordK a)) : l = twinsX L d := by
  have hr : (twinsX L d).Pairwise (fun a b => ordK a < ordK b) := by
    unfold twinsX
    rw [List.pairwise_map]
    exact List.Pairwise.filter _ h.rise
  have hnd : (twinsX L d).Nodup := List.Pairwise.imp (fun hab e => by rw [e] at hab; omega) hr
  have hm : ∀ k, k ∈ l ↔ k ∈ twinsX L d := fun k => by
    rw [hp.mem_iff, hK k, mem_twinsX]
    rfl
  refine sorted_unique (lt := fun a b => ordK a < ordK b) (fun a ha b hb h1 h2 => ?_) ((List.perm_ext_iff_of_nodup (hp.nodup_iff.2 hn) hnd).2 hm) hs (hr.imp fun h => by omega)
  obtain ⟨_, p, hpa⟩ := mem_twinsX.1 ((hm a).1 ha)
  obtain ⟨_, q, hqb⟩ := mem_twinsX.1 ((hm b).1 hb)
  exact ordK_inj (h.key _ hpa) (h.key _ hqb) (by omega)
set_option maxRecDepth 100000 in
set_option maxHeartbeats 8000000 in
theorem twins_any (w : World) (s : Addr) (F : Nat → Prop) (L : List RowT) (h : Ist w s F L) (hl : L.length ≤ 10000) (d : List UInt8) (hd : d.length = 32) :
    Calls Tryz.prog 54 #[.pointer (some s), .agg (bv d).toArray] w fun e w' => ∃ A c, e = .returned (.slice A (twinsX L d).length c) ∧ RdK w' w'.heap.size A (twinsX L d) ∧ (twinsX L d).length ≤ c ∧ c ≤ maxLen ∧ (∀ ad, A = some ad → w.heap.size ≤ ad.block) ∧ Below w.heap.size w w' := by
  have hLok := h.ok
  obtain ⟨g, bp, bt, bs, FT, FH, rfl, hF, hi⟩ := h
  obtain ⟨S, hS⟩ : ∃ S, bv d = S := ⟨_, rfl⟩
  have hSl : S.length = 32 := by rw [← hS, bv_length]; exact hd
  obtain ⟨w1, hw1⟩ : ∃ w1, w.alloc (.cells S.toArray 26) = w1 := ⟨_, rfl⟩
  obtain ⟨sb, hsb⟩ : ∃ sb, w.heap.size = sb := ⟨_, rfl⟩
  have hs1 : w1.heap.size = sb + 1 := by rw [← hw1, ← hsb]; simp
  have hb1 : Below w.heap.size w w1 := hw1 ▸ (Below.refl _ _).alloc (Nat.le_refl _) _
  have hk1 : Blk w1 sb 26 S.toArray := by rw [← hsb, ← hw1]; exact Blk.new w _ _
  have hi1 := hi.on hb1
  obtain ⟨T, hT⟩ := hi1.tw
  obtain ⟨ob, K, hob, hO, hKn, hK, hobF⟩ := hT.grab rfl d
  have hKl : K.length ≤ 10000 := roomK (room_rt hl) hKn hK
  have hKok : ∀ k ∈ K, KeyT.Ok k := fun k hk => by
    obtain ⟨_, p, hp⟩ := (hK k).1 hk
    exact hLok.key _ hp
  have hobl : ∀ x, ob = some x → x < sb := fun x hx => hsb ▸ hi.tw.lt x (hobF x hx)
  obtain ⟨fs, es, hfs⟩ := sum_desc'
  obtain ⟨fk, hfk⟩ := key_desc'
  have c1 : w1.cell? ⟨g, 1, none⟩ = some (.map (some bt)) := hi1.blk.cell 1
  have HK := Lib.hid (And.intro hKn (And.intro hK (And.intro hKl hKok)))
  have HO := Lib.hid hO
  have HOL := Lib.hid hobl
  have HLK := Lib.hid (show (Instr.lookup 103 (.map (some bt)) (.agg S.toArray) false).run Tryz.prog w1.drew = .ok (.map ob) w1.drew from by
    have := (show MapL mkT w1.drew bt (tm T) from hT.map.blk rfl).look okT (q := d) hd
    rw [hob] at this
    rw [← hS]; exact this)
  have HW := Lib.hid (And.intro hw1 (And.intro hsb hs1))
  have HB := Lib.hid hb1
  have HK1 := Lib.hid hk1
  have HF := Lib.hid (And.intro hfs hfk)
  have HSS := Lib.hid (show (Tryz.prog.info? 26).map (·.size) = some S.length from by rw [hSl]; exact sum_size')
  have HLO := Lib.hid hLok
  rw [hS]
  clear hi hS hSl hw1 hsb hs1 hb1 hk1 hi1 hT hob hO hKn hK hobF hKl hKok hobl hfs hfk hLok hF
  go_enter Tryz.func54, Tryz.ntmps54
  go_upto_region 1 with fail
  rw [HW.out.1, HW.out.2.1]
  go_upto_region 4 with fail
  refine wp_region_still_tail 6 (by kernel_rfl) (by kernel_rfl) ?_
  simp only [List.take_succ_cons, List.take_zero, List.drop_succ_cons, List.drop_zero]
  still_step
  still_step
  still_step
  still_step
  refine wpStill_load_mid rfl 26 (.tmp 3) rfl sb 0 rfl S (.array fs es) (range_of_blk (show Blk w1.drew sb 26 S.toArray from HK1.out)) HF.out.1 rfl HSS.out ?_
  refine wpStill_look rfl 103 (.tmp 12) (.tmp 13) false rfl _ _ _ rfl rfl HLK.out ?_
  refine wpStill_nil ?_
  change wpList _ _ _ _ _ w1.drew
  refine wpList_range_g w1.drew rfl (.tmp 14) rfl okS ob rfl (HO.out.blk fun x _ => rfl) ?_
  intro w2 r1 r2 r3
  have r3 : w2.heap.size = w1.heap.size + 1 := r3
  have hr0 : (w1.drew).heap.size = w1.heap.size := rfl
  obtain ⟨rb, hrb⟩ : ∃ rb, w1.heap.size = rb := ⟨_, rfl⟩
  rw [hr0, hrb] at r1
  rw [hr0, hrb]
  have hb2 : Below rb w1 w2 := ⟨r2.os, r2.tape, r2.output, r2.size, fun i hi => r2.block i (by show i < w1.heap.size; omega) (by simp)⟩
  rw [hrb] at r3
  have HR1 := Lib.hid r1
  have HB2 := Lib.hid hb2
  have HRB := Lib.hid (And.intro hrb r3)
  clear r1 r2 r3 hr0 hrb hb2 c1
  go_frame
  go_wp2_with fail
  go_loopw [5] (fun v wr => ∃ (acc : List KeyT) (rest : List (KeyT × Unit)) (A : Option Addr) (c : Nat), v = .slice A acc.length c ∧ Hid (MapR mkS wr ob rb (us K) rest ∧ OwnG 29 33 kcs wr (rb + 1) A c acc ∧ (us acc ++ rest).Perm (us K) ∧ Below rb w1 wr)) (fun _ wr => leftO wr ob rb)
  case atStart => exact ⟨[], us K, none, 0, rfl, Lib.hid ⟨HR1.out, OwnG.nil _ _, List.Perm.refl _, HB2.out⟩⟩
  case round =>
    obtain ⟨acc, rest, A, c, rfl, hrel⟩ := hrel
    obtain ⟨hm, ho, hp, hb⟩ := hrel.out
    obtain ⟨n, hn⟩ : ∃ n, acc.length = n := ⟨_, rfl⟩
    rw [hn]
    have HN := Lib.hid hn
    have HM := Lib.hid hm
    have HOW := Lib.hid ho
    have HPM := Lib.hid hp
    have HBW := Lib.hid hb
    have hplen := hp.length_eq
    rw [List.length_append, us_length, us_length, hn] at hplen
    have HPL := Lib.hid hplen
    by_cases hne : rest = []
    · subst hne
      have HPA := Lib.hid (show acc.Perm K from by
        have := hp.map (·.1)
        rwa [List.append_nil, us_fst, us_fst] at this)
      have hok : ∀ x ∈ acc, KeyT.Ok x := fun x hx => HK.out.2.2.2 x (HPA.out.mem_iff.1 hx)
      have CS := Lib.hid (sort_keys acc hok ho (by have := HK.out.2.2.1; rw [← HPA.out.length_eq] at this; omega))
      rw [hn] at CS
      clear hm ho hp hb hn hplen hrel hok
      go_wp2_with (first
        | (refine wpList_next_g _ rfl (.tmp 15) rfl okS ob rb [] rfl HM.out (fun _ => ?_) (fun x c l' w' _ hpp => absurd hpp.length_eq (by simp)))
        | (go_at_call 73; (with_reducible refine CS.out.mono ?_); rintro e wq ⟨rfl, hq⟩; have HQ := Lib.hid hq; clear hq))
      go_ret
      obtain ⟨l', p1, p2, p3, p4⟩ := HQ.out
      have e1 := twins_eq HLO.out HK.out.1 HK.out.2.1 (p1.trans HPA.out) p2
      subst e1
      have hln : (twinsX L d).length = n := by rw [p1.length_eq, HN.out]
      have hok2 : ∀ x ∈ twinsX L d, KeyT.Ok x := fun x hx => HK.out.2.2.2 x (HPA.out.mem_iff.1 (p1.mem_iff.1 hx))
      have hrb := HRB.out
      have hbz : rb ≤ wr.heap.size := by have := HBW.out.size; omega
      have hbq : Below rb wr wq := grown_of_own p4 (fun k hk => by
        have hk2 : (Value.slice A acc.length c).ownBlock = some k := by rw [HN.out]; exact hk
        have := (HOW.out.lt hk2).1
        omega) hbz
      refine ⟨A, c, by rw [hln]; rfl, ⟨p3.rd keyE hok2, hok2⟩, p3.cap.1, p3.cap.2, fun ad hA => ?_, ?_⟩
      · have := (p3.adr ad hA).1
        rw [HW.out.2.1]
        have := HW.out.2.2
        omega
      · have e2 := HW.out.2.2
        have := (HBW.out.mono (B' := w.heap.size) (by rw [HW.out.2.1]; omega)).trans (hbq.mono (by rw [HW.out.2.1]; omega))
        exact HB.out.trans this
    · clear hm ho hp hb hn hplen hrel
      go_upto_region 6 with (refine wpList_next_g _ rfl (.tmp 15) rfl okS ob rb rest rfl HM.out (fun h => absurd h hne) ?_; intro y u rest' wn hyok hperm hmn hlt hgn hszn hen)
      have hyok : KeyT.Ok y := hyok
      obtain ⟨Y, hY⟩ : ∃ Y, kcs y = Y := ⟨_, rfl⟩
      have hYl : Y.length = 33 := by rw [← hY]; exact kcs_length hyok
      have hen2 : (Instr.entry (.pointer (some ⟨rb, 0, none⟩))).run Tryz.prog wn = .ok (.tuple #[.agg Y.toArray, .agg #[]]) wn := by rw [hen, ← hY]; rfl
      clear hen
      obtain ⟨wa, hwa⟩ : ∃ wa, wn.alloc (.cells Y.toArray 29) = wa := ⟨_, rfl⟩
      obtain ⟨wb, hwb⟩ : ∃ wb, wa.alloc (.cells (kcs y).toArray 29) = wb := ⟨_, rfl⟩
      have hrb := HRB.out
      have hbz : rb < wr.heap.size := HM.out.lt
      have hbn : Below rb wr wn := below_of_grown hgn (Nat.le_refl _) (by omega)
      have hba : Below wn.heap.size wn wa := hwa ▸ (Below.refl _ _).alloc (Nat.le_refl _) _
      have hbb : Below wa.heap.size wa wb := hwb ▸ (Below.refl _ _).alloc (Nat.le_refl _) _
      have hbab : Below wn.heap.size wn wb := hba.trans (hbb.mono hba.size)
      have hon : OwnG 29 33 kcs wn (rb + 1) A c acc := HOW.out.grown hgn fun k hk e => by
        have := (HOW.out.lt e).1
        injection hk with hk
        omega
      have hob : OwnG 29 33 kcs wb (rb + 1) A c acc := hon.on hbab
      have HBZ := Lib.hid (Blk.new wn 29 (kz 0))
      have HKS2 := Lib.hid (show (Tryz.prog.info? 29).map (·.size) = some Y.toArray.size from by rw [List.size_toArray, hYl]; exact key_size)
      have HOLD := Lib.hid (show (kz 0).size = Y.toArray.size from kz_size.trans (by rw [List.size_toArray, hYl]))
      have HONE := Lib.hid (show Y.toArray.all (·.oneCell') = true from by rw [← hY]; exact kcs_one)
      have HYS := Lib.hid (show (Tryz.prog.info? 29).map (·.size) = some Y.length from by rw [hYl]; exact key_size)
      have HWA := Lib.hid hwa
      have HWB := Lib.hid hwb
      have HY := Lib.hid hY
      have HYR := Lib.hid (show wa.rangeAt wn.heap.size 0 Y from range_of_blk (hwa ▸ Blk.new wn _ _))
      have HOB := Lib.hid hob
      have HRD := Lib.hid (show RdS wb wb.heap.size 33 (some ⟨wa.heap.size, 0, none⟩) ([y].map kcs) from by rw [← hwb]; exact rds_one wa y _ 33 kcs)
      have HY1 := Lib.hid hyok
      have HPE := Lib.hid hperm
      have HMN := Lib.hid hmn
      have HLT := Lib.hid hlt
      have HBN := Lib.hid (And.intro hbn hbab)
      have HRZ := Lib.hid (show rb + 1 ≤ wb.heap.size from by have := hbn.size; have := hbab.size; omega)
      have HNL := Lib.hid (show n ≤ 10000 by have := HPL.out; have := HK.out.2.2.1; omega)
      clear hyok hY hYl hwa hwb hbz hbn hba hbb hbab hon hob hperm hmn hlt hgn hszn hrb
      go_wp2_with (first
        | (refine wpList_store_row rfl 29 (.tmp 6) (.tmp 19) rfl wn.heap.size Y.toArray rfl rfl 29 (kz 0) HBZ.out HKS2.out HOLD.out HONE.out ?_; rw [setRow_alloc, HWA.out])
        | (refine wpList_load_mid rfl 29 (.tmp 6) rfl wn.heap.size 0 rfl Y (.struct fk) HYR.out HF.out.2 rfl HYS.out ?_)
        | (refine wpList_buildOne keyE rfl (.tmp 21) rfl (y := y) HY1.out (show _ = Value.agg (kcs y).toArray by rw [HY.out]; rfl) ?_; rw [HWB.out])
        | (refine wpList_append_g keyE rfl (.tmp 20) (.tmp 22) rfl (rb + 1) A c n acc HN.out rfl HOB.out wb.heap.size (some ⟨wa.heap.size, 0, none⟩) 1 1 [y] rfl rfl HRD.out (fun x hx => by rw [List.mem_singleton.1 hx]; exact HY1.out) (by have := HNL.out; omega) HRZ.out ?_; intro A' c' wc hoc hgc; have HOC := Lib.hid hoc; have HGC := Lib.hid hgc; clear hoc hgc))
      have hlow : ∀ k, (Value.slice A n c).ownBlock = some k → rb + 1 ≤ k := fun k hk => (HOW.out.lt (by rw [HN.out]; exact hk)).1
      have hbc := grown_of_own HGC.out hlow HRZ.out
      have hzn : rb + 1 ≤ wn.heap.size := HMN.out.lt
      have hbk : ∀ j, j < rb + 1 → wc.heap[j]? = wn.heap[j]? := fun j hj => (hbc.block j hj).trans (HBN.out.2.block j (by omega))
      have hobk : ∀ x, ob = some x → wc.heap[x]? = wn.heap[x]? := fun x hx => hbk x (by have := HOL.out x hx; have := HW.out.2.2; have := HRB.out.1; omega)
      refine ⟨⟨acc ++ [y], rest', A', c', by rw [List.length_append, HN.out]; rfl, Lib.hid ⟨HMN.out.kept hobk (hbk rb (by omega)), HOC.out, ?_, ?_⟩⟩, ?_⟩
      · have e1 : us (acc ++ [y]) = us acc ++ [(y, ())] := by simp [us]
        rw [e1, List.append_assoc]
        exact ((HPE.out.symm.append_left (us acc)).trans HPM.out)
      · exact ((HBW.out.trans HBN.out.1).trans (HBN.out.2.mono (by omega))).trans (hbc.mono (by omega))
      · rw [leftO_kept hobk (hbk rb (by omega))]
        exact HLT.out
end Go.Proofs.YtoofhaoaogoomaaGreat
