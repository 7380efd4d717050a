/- A struct built from two parts. No statement of the seat is proved here; nothing of the program is named. -/
import Derived.Test.YtoofhaoaogoomaaZMAC
import Derived.Test.YtoofhaoaogoomaaZMAW
import Derived.Test.YtoofhaoaogoomaaZMAE
import Derived.Test.YtoofhaoaogoomaaIxCmp
import Derived.Test.YtoofhaoaogoomaaZMAV
import Derived.OrdersHeld
import Derived.Laws.Tables
import Derived.Shelf.SlSortCmp.NoneTotal
namespace Go.Proofs.Ytoofhaoaogoomaa
open Go.RowKit
set_option linter.unusedVariables false
set_option linter.unusedSimpArgs false

theorem fold_head : ∀ (cs done rest tail : List Value), rest.length = cs.length → List.foldl (fun (z : Array Value) (x : Value × Nat) => z.setIfInBounds (0 + x.2) x.1) (done ++ (rest ++ tail)).toArray (cs.zipIdx done.length) = (done ++ (cs ++ tail)).toArray
  | [], done, rest, tail, h => by rw [List.eq_nil_of_length_eq_zero h]; rfl
  | c :: cs, done, [], tail, h => by simp at h
  | c :: cs, done, r :: rest, tail, h => by
    rw [List.zipIdx_cons, List.foldl_cons]
    have e : (done ++ (r :: rest ++ tail)).toArray.setIfInBounds (0 + done.length) c = ((done ++ [c]) ++ (rest ++ tail)).toArray := by
      rw [List.setIfInBounds_toArray, Nat.zero_add]
      congr 1
      rw [List.set_append_right _ _ (Nat.le_refl _)]
      simp
    show List.foldl _ ((done ++ (r :: rest ++ tail)).toArray.setIfInBounds (0 + done.length) c) _ = _
    rw [e, show done.length + 1 = (done ++ [c]).length by simp, fold_head cs (done ++ [c]) rest tail (by simpa using h)]
    simp
theorem yields_build {P : Program} {ops : Array Oper} {S : World → Prop} {op : Oper} {a : Act} (hw : Region.wanted op (yielded ops a.tmps) = true) (t : TypeId) (parts : Array (Nat × Operand)) (ho : op.op = .build t parts)
    (cells : Array Value) (hc : P.built t (parts.map fun (i, x) => (i, a.eval x)).toList = some cells) : YieldsIf P ops S op (.agg cells) a :=
  .inl ⟨hw, fun w hw' => by
    unfold execOp
    simp only [ho, Sem.run_bind, run_build w t _ cells hc, Result.andThen_ok, Sem.run_pure]⟩
theorem built_two {P : Program} {t : TypeId} {it : TypeInfo} {fields : Array Field} {z : Value} {places : List (Nat × Nat)} {v1 v2 : Value} {n1 o2 n2 : Nat} (r1 : Array Value) (hi : P.info? t = some it) (hu : P.underlying t = some (.struct fields)) (hz : it.zero = some z)
    (hp : fields.toList.mapM (fun f => (P.info? f.type).map fun i => (f.offset, i.size)) = some places) (h0 : places.toArray[0]? = some (0, n1)) (h1 : places.toArray[1]? = some (o2, n2)) (hv1 : v1.cells.size = n1) (hv2 : v2.cells.size = n2) (hn1 : n1 ≤ z.cells.size)
    (hr : v1.cells.zipIdx.foldl (fun cs (c, j) => cs.setIfInBounds (0 + j) c) z.cells = r1) (hn2 : o2 + n2 ≤ r1.size) :
    P.built t [(0, v1), (1, v2)] = some (v2.cells.zipIdx.foldl (fun cs (c, j) => cs.setIfInBounds (o2 + j) c) r1) := by
  unfold Program.built
  rw [hi, hu]
  simp only [hz, hp]
  unfold Instr.fill
  rw [h0]
  simp only [hv1]
  rw [if_neg (by simp; omega)]
  have hr' : v1.cells.zipIdx.foldl (fun cs (x : Value × Nat) => cs.setIfInBounds (0 + x.2) x.1) z.cells = r1 := hr
  unfold Instr.fill
  rw [h1]
  simp only [hv2]
  rw [hr', if_neg (by simp; omega)]
  rfl
end Go.Proofs.Ytoofhaoaogoomaa
/- Rows (api.Row) and keys (api.Key) as elements of slices of the call's own; parts of a list of rows around a key. No statement of the seat is proved here. -/
namespace Go.Proofs.Ytoofhaoaogoomaa
open Go.RowKit
set_option linter.unusedVariables false
set_option linter.unusedSimpArgs false

theorem rowE : Elem Try.prog 53 42 35 rcs RowT.Ok :=
  ⟨Try.underlying53, elem_info (by kernel_rfl), by decide, by decide, fun _ h => rcs_length h, fun r v hv => by
    have := rcs_one (r := r)
    rw [Array.all_eq_true_iff_forall_mem] at this
    exact this v (by simpa using hv)⟩
/-- What stands ahead of a key, and behind it. -/
theorem parts_at {L : List RowT} (h : RowsOk L) {k : List UInt8 × Nat} (hk : KeyOk k) : L.take (under L k).length = under L k ∧ (hasX L k = true → (under L k).length < L.length ∧ L.drop ((under L k).length + 1) = over L k) ∧ (hasX L k = false → L.drop (under L k).length = over L k) := by
  rcases rise_split h.rise hk h.key with ⟨h1, h2⟩ | ⟨p, h1, _, h2⟩
  · refine ⟨?_, fun e => (by rw [h1] at e; cases e), fun _ => ?_⟩
    · have := congrArg (List.take (under L k).length) h2
      rwa [List.take_left' rfl] at this
    · have := congrArg (List.drop (under L k).length) h2
      rwa [List.drop_left' rfl] at this
  · refine ⟨?_, fun _ => ⟨?_, ?_⟩, fun e => (by rw [h1] at e; cases e)⟩
    · have := congrArg (List.take (under L k).length) h2
      rwa [List.take_left' rfl] at this
    · have := congrArg List.length h2
      rw [List.length_append, List.length_cons] at this
      omega
    · have h3 : (under L k ++ (k, p) :: over L k).drop ((under L k).length + 1) = over L k := by
        rw [← List.drop_drop, List.drop_left' rfl]; rfl
      rw [← h2] at h3
      exact h3
theorem row_places : ∃ fields, Try.prog.underlying 42 = some (.struct fields) ∧ fields.toList.mapM (fun f => (Try.prog.info? f.type).map fun i => (f.offset, i.size)) = some [(0, 33), (33, 2)] := ⟨_, Try.underlying42, by kernel_rfl⟩
theorem info_row : (Try.prog.info? 42).map (fun i => i.zero) = some (some (.agg (kcs (List.replicate 32 0, 0) ++ [Value.int .i64 0, Value.int .i64 0]).toArray)) := by kernel_rfl
set_option maxRecDepth 100000 in
theorem built_row {k : KeyT} (hk : KeyT.Ok k) (p : Int × Int) : Try.prog.built 42 [(0, .agg (kcs k).toArray), (1, .agg (pvs p).toArray)] = some (rcs (k, p)).toArray := by
  obtain ⟨fields, hf, hm⟩ := row_places
  have hz := info_row
  cases hi : Try.prog.info? 42 with
  | none => rw [hi] at hz; cases hz
  | some it =>
    rw [hi] at hz
    simp only [Option.map_some, Option.some.injEq] at hz
    have hfold : ((kcs k).toArray.zipIdx.foldl (fun cs (c, j) => cs.setIfInBounds (0 + j) c) (Value.agg (kcs (List.replicate 32 0, 0) ++ [Value.int .i64 0, Value.int .i64 0]).toArray).cells) = (kcs k ++ [Value.int .i64 0, Value.int .i64 0]).toArray := by
      have := fold_head (kcs k) [] (kcs (List.replicate 32 0, 0)) [Value.int .i64 0, Value.int .i64 0] (by rw [kcs_length hk, kcs_length ⟨by simp, by decide⟩])
      rw [← Array.foldl_toList, Array.toList_zipIdx]
      exact this
    rw [built_two (v1 := .agg (kcs k).toArray) (v2 := .agg (pvs p).toArray) (n1 := 33) (o2 := 33) (n2 := 2) (kcs k ++ [Value.int .i64 0, Value.int .i64 0]).toArray hi hf hz hm rfl rfl (by show (kcs k).toArray.size = 33; simp [kcs_length hk]) rfl (by show 33 ≤ (kcs (List.replicate 32 0, 0) ++ [Value.int .i64 0, Value.int .i64 0]).toArray.size; rw [List.size_toArray, List.length_append, kcs_length ⟨by simp, by decide⟩]; exact Nat.le_add_right _ _) hfold (by simp [kcs_length hk])]
    congr 1
    show ((kcs k ++ [Value.int .i64 0, Value.int .i64 0]).toArray.setIfInBounds (33 + 0) (.int .i64 p.1)).setIfInBounds (33 + 1) (.int .i64 p.2) = _
    rw [List.setIfInBounds_toArray, List.setIfInBounds_toArray]
    congr 1
    rw [List.set_append_right _ _ (by rw [kcs_length hk]; omega), kcs_length hk, List.set_append_right _ _ (by rw [kcs_length hk]; omega), kcs_length hk]
    rfl
end Go.Proofs.Ytoofhaoaogoomaa
/- The sorts of package index. No statement of the seat is proved here. -/
namespace Go.Proofs.Ytoofhaoaogoomaa
open Go Go.RowKit Go.Sort Go.Lib
set_option linter.unusedVariables false
set_option linter.unusedSimpArgs false
set_option maxRecDepth 100000

theorem cmpB_val : ∀ (a b : List UInt8), a.length = b.length → (Lib.compareBytes a b < 0 ↔ val a < val b) ∧ (Lib.compareBytes a b = 0 ↔ val a = val b)
  | [], [], _ => by simp [Lib.compareBytes]
  | [], _ :: _, h => by simp at h
  | _ :: _, [], h => by simp at h
  | x :: a, y :: b, h => by
    have hl : a.length = b.length := by simpa using h
    obtain ⟨i1, i2⟩ := cmpB_val a b hl
    have v1 := val_lt a
    have v2 := val_lt b
    rw [hl] at v1
    rw [val_cons, val_cons, hl]
    unfold Lib.compareBytes
    generalize 256 ^ b.length = N at *
    by_cases h1 : x < y
    · rw [if_pos h1]
      have h1 : x.toNat < y.toNat := h1
      have h2 : (x.toNat + 1) * N ≤ y.toNat * N := Nat.mul_le_mul_right N h1
      rw [Nat.add_mul] at h2
      constructor <;> constructor <;> intro _ <;> omega
    · rw [if_neg h1]
      by_cases h3 : y < x
      · rw [if_pos h3]
        have h3 : y.toNat < x.toNat := h3
        have h2 : (y.toNat + 1) * N ≤ x.toNat * N := Nat.mul_le_mul_right N h3
        rw [Nat.add_mul] at h2
        constructor <;> constructor <;> intro _ <;> omega
      · rw [if_neg h3]
        have e : x = y := UInt8.toNat_inj.1 (by
          have h1 : ¬ x.toNat < y.toNat := h1
          have h3 : ¬ y.toNat < x.toNat := h3
          omega)
        subst e
        constructor
        · rw [i1]; constructor <;> intro _ <;> omega
        · rw [i2]; constructor <;> intro _ <;> omega
theorem cmpI_lt (x y : Int) : (cmpI x y < 0 ↔ x < y) ∧ (cmpI x y = 0 ↔ x = y) := by
  unfold cmpI
  by_cases h : x < y
  · rw [if_pos h]; constructor <;> constructor <;> intro _ <;> omega
  · rw [if_neg h]
    by_cases h2 : y < x
    · rw [if_pos h2]; constructor <;> constructor <;> intro _ <;> omega
    · rw [if_neg h2]; constructor <;> constructor <;> intro _ <;> omega
theorem cfK_lt {a b : KeyT} (ha : a.Ok) (hb : b.Ok) : cfK a b < 0 ↔ ordK a < ordK b := by
  obtain ⟨h1, h2⟩ := cmpB_val a.1 b.1 (by rw [ha.1, hb.1])
  obtain ⟨h3, _⟩ := cmpI_lt a.2 b.2
  have n1 : a.2 < 4294967296 := ha.2
  have n2 : b.2 < 4294967296 := hb.2
  unfold cfK orI ordK
  by_cases h : Lib.compareBytes a.1 b.1 = 0
  · rw [if_pos h, h3]
    have := h2.1 h
    omega
  · rw [if_neg h, h1]
    have : ¬ val a.1 = val b.1 := fun e => h (h2.2 e)
    omega
/-- One row stands ahead of another on a shelf. -/
def ltS (a b : RowT) : Prop := a.2.2 < b.2.2 ∨ (a.2.2 = b.2.2 ∧ ordK a.1 < ordK b.1)
theorem cfS_lt {a b : RowT} (ha : a.Ok) (hb : b.Ok) : cfS a b < 0 ↔ ltS a b := by
  obtain ⟨h3, h4⟩ := cmpI_lt a.2.2 b.2.2
  unfold cfS orI ltS
  by_cases h : cmpI a.2.2 b.2.2 = 0
  · rw [if_pos h, cfK_lt ha.key hb.key]
    have := h4.1 h
    constructor
    · exact fun h => .inr ⟨this, h⟩
    · rintro (h | h)
      · omega
      · exact h.2
  · rw [if_neg h, h3]
    have : ¬ a.2.2 = b.2.2 := fun e => h (h4.2 e)
    constructor
    · exact .inl
    · rintro (h | h)
      · exact h
      · exact absurd h.1 this
instance : Inhabited { k : KeyT // k.Ok } := ⟨⟨(List.replicate 32 0, 0), by simp [KeyT.Ok]⟩⟩
instance : Inhabited { r : RowT // r.Ok } := ⟨⟨((List.replicate 32 0, 0), (0, 0)), ⟨by simp [KeyT.Ok], by simp [In64], by simp [In64]⟩⟩⟩
/-- Sorting by a comparison that follows an order: what comes of it, told of the elements alone. -/
theorem sort_of {α : Type} {Q : α → Prop} [Inhabited { x : α // Q x }] (g : α → List Value) (k : Nat) (e : TypeId) (hk : ∀ x, Q x → (g x).length = k) (h0 : 0 < k) (lt : α → α → Prop) (cf : α → α → Int) (hc : ∀ a b, Q a → Q b → (cf a b < 0 ↔ lt a b))
    {P : Program} {f : FuncId} {fv : Value} {w : World} {B c : Nat} {A : Option Addr} (l : List α) (ho : ∀ x ∈ l, Q x) (h : OwnG e k g w B A c l) (hsz : l.length ≤ 1000000)
    (hnil : ∀ p cap W, Calls P f #[.slice p 0 cap, fv] W fun e w' => e = .returned (.tuple #[]) ∧ w' = W)
    (hcon : ∀ blk cap (d : Array { x : α // Q x }) W, HoldsK (fun x : { x : α // Q x } => g x.1) k W blk 0 d → blk < W.heap.size → d.size < 4611686018427387904 → Calls P f #[.slice (some ⟨blk, 0, none⟩) d.size cap, fv] W fun e w' => e = .returned (.tuple #[]) ∧
      ∃ d' n os, PermIn 0 d.size d d' ∧ SortedIn (ltOf fun x y : { x : α // Q x } => cf x.1 y.1) 0 d.size d' ∧ w' = sortWorldK (fun x : { x : α // Q x } => g x.1) k W blk 0 n d' os) :
    Calls P f #[.slice A l.length c, fv] w fun e' w' => e' = .returned (.tuple #[]) ∧ ∃ l' : List α, l'.Perm l ∧ l'.Pairwise (fun a b => ¬ lt b a) ∧ OwnG e k g w' B A c l' ∧ w.grownBy w' (Value.slice A l.length c).ownBlock := by
  have e1 : (l.attachWith Q ho).map (·.1) = l := by simp
  have h2 : OwnG e k (fun x : { x : α // Q x } => g x.1) w B A c (l.attachWith Q ho) := (own_val (Q := Q) (g := g) _).2 (by rw [e1]; exact h)
  have hl : (l.attachWith Q ho).length = l.length := by simp
  have := sort_own (fun x : { x : α // Q x } => hk x.1 x.2) h0 (ltOf fun x y : { x : α // Q x } => cf x.1 y.1) h2 hnil hcon (by rw [hl]; exact hsz)
  rw [hl] at this
  refine this.mono fun e' w' ⟨he, l', p1, p2, p3, p4⟩ => ⟨he, l'.map (·.1), ?_, ?_, (own_val l').1 p3, p4⟩
  · have := p1.map (·.1)
    rwa [e1] at this
  · rw [List.pairwise_map]
    refine p2.imp fun {a b} hab hlt => ?_
    have := (hc b.1 a.1 b.2 a.2).2 hlt
    simp [ltOf, this] at hab
theorem swo_of {α : Type} {Q : α → Prop} (lt : α → α → Prop) (cf : α → α → Int) (hc : ∀ a b, Q a → Q b → (cf a b < 0 ↔ lt a b)) (h1 : ∀ x, ¬ lt x x) (h2 : ∀ x y z, lt x y → lt y z → lt x z) (h3 : ∀ x y z, ¬ lt x y → ¬ lt y z → ¬ lt x z) : SWO (ltOf fun x y : { x : α // Q x } => cf x.1 y.1) where
  irrefl x := by
    have := hc x.1 x.1 x.2 x.2
    simp only [ltOf, decide_eq_false_iff_not, this]
    exact h1 _
  trans x y z a b := by
    simp only [ltOf, decide_eq_true_eq, hc _ _ x.2 y.2, hc _ _ y.2 z.2, hc _ _ x.2 z.2] at a b ⊢
    exact h2 _ _ _ a b
  ntrans x y z a b := by
    simp only [ltOf, decide_eq_false_iff_not, hc _ _ x.2 y.2, hc _ _ y.2 z.2, hc _ _ x.2 z.2] at a b ⊢
    exact h3 _ _ _ a b
section
variable {w : World} {B c : Nat} {A : Option Addr}
set_option maxRecDepth 100000 in
theorem sort_keys (l : List KeyT) (ho : ∀ x ∈ l, x.Ok) (h : OwnG 38 33 kcs w B A c l) (hsz : l.length ≤ 1000000) :
    Calls Try.prog 61 #[.slice A l.length c, .func (.func 40) #[] #[]] w fun e w' => e = .returned (.tuple #[]) ∧
      ∃ l' : List KeyT, l'.Perm l ∧ l'.Pairwise (fun a b => ¬ ordK b < ordK a) ∧ OwnG 38 33 kcs w' B A c l' ∧ w.grownBy w' (Value.slice A l.length c).ownBlock := by
  have eg : ∀ args w, (callFunc 40 args).run Try.prog w = .ok (.enter 40 args) w := enters_of Try.func40 (by kernel_rfl) rfl
  exact sort_of (Q := KeyT.Ok) kcs 33 38 (fun _ h => kcs_length h) (by decide) (fun a b => ordK a < ordK b) cfK (fun _ _ ha hb => cfK_lt ha hb) l ho h hsz (fun p cap W => AnyF.slices_SortFunc_none sortKey p cap _ W)
    (fun blk cap d W hH hb hd => AnyQ.slices_SortFunc sortKey 33 Try.isAgg38 Try.sizeOf38 (fun x : { x : KeyT // x.Ok } => kcs x.1) (fun x => kcs_length x.2) (fun x v hv => by
      have := kcs_one (k := x.1)
      rw [Array.all_eq_true_iff_forall_mem] at this
      exact this v (by simpa using hv)) (fun x y => cfK x.1 y.1) (swo_of (fun a b => ordK a < ordK b) cfK (fun _ _ ha hb => cfK_lt ha hb) (fun _ => Nat.lt_irrefl _) (fun _ _ _ => Nat.lt_trans) (fun _ _ _ a b => by omega)) 40 #[] blk 0 cap d W eg (fun m os dk _ x y => byKey_any x.1 y.1 x.2 y.2 _) hH hb hd)
set_option maxRecDepth 100000 in
theorem sort_rows (l : List RowT) (ho : ∀ x ∈ l, x.Ok) (h : OwnG 42 35 rcs w B A c l) (hsz : l.length ≤ 1000000) :
    Calls Try.prog 38 #[.slice A l.length c, .func (.func 39) #[] #[]] w fun e w' => e = .returned (.tuple #[]) ∧
      ∃ l' : List RowT, l'.Perm l ∧ l'.Pairwise (fun a b => ¬ ordK b.1 < ordK a.1) ∧ OwnG 42 35 rcs w' B A c l' ∧ w.grownBy w' (Value.slice A l.length c).ownBlock := by
  have eg : ∀ args w, (callFunc 39 args).run Try.prog w = .ok (.enter 39 args) w := enters_of Try.func39 (by kernel_rfl) rfl
  exact sort_of (Q := RowT.Ok) rcs 35 42 (fun _ h => rcs_length h) (by decide) (fun a b => ordK a.1 < ordK b.1) cfR (fun _ _ ha hb => cfK_lt ha.key hb.key) l ho h hsz (fun p cap W => AnyF.slices_SortFunc_none sortRow p cap _ W)
    (fun blk cap d W hH hb hd => AnyQ.slices_SortFunc sortRow 35 Try.isAgg42 Try.sizeOf42 (fun x : { x : RowT // x.Ok } => rcs x.1) (fun x => rcs_length x.2) (fun x v hv => by
      have := rcs_one (r := x.1)
      rw [Array.all_eq_true_iff_forall_mem] at this
      exact this v (by simpa using hv)) (fun x y => cfR x.1 y.1) (swo_of (fun a b : RowT => ordK a.1 < ordK b.1) cfR (fun _ _ ha hb => cfK_lt ha.key hb.key) (fun _ => Nat.lt_irrefl _) (fun _ _ _ => Nat.lt_trans) (fun _ _ _ a b => by omega)) 39 #[] blk 0 cap d W eg (fun m os dk _ x y => byRow_any x.1 y.1 x.2 y.2 _) hH hb hd)
set_option maxRecDepth 100000 in
theorem sort_slots (l : List RowT) (ho : ∀ x ∈ l, x.Ok) (h : OwnG 42 35 rcs w B A c l) (hsz : l.length ≤ 1000000) :
    Calls Try.prog 38 #[.slice A l.length c, .func (.func 62) #[] #[]] w fun e w' => e = .returned (.tuple #[]) ∧
      ∃ l' : List RowT, l'.Perm l ∧ l'.Pairwise (fun a b => ¬ ltS b a) ∧ OwnG 42 35 rcs w' B A c l' ∧ w.grownBy w' (Value.slice A l.length c).ownBlock := by
  have eg : ∀ args w, (callFunc 62 args).run Try.prog w = .ok (.enter 62 args) w := enters_of Try.func62 (by kernel_rfl) rfl
  exact sort_of (Q := RowT.Ok) rcs 35 42 (fun _ h => rcs_length h) (by decide) ltS cfS (fun _ _ ha hb => cfS_lt ha hb) l ho h hsz (fun p cap W => AnyF.slices_SortFunc_none sortRow p cap _ W)
    (fun blk cap d W hH hb hd => AnyQ.slices_SortFunc sortRow 35 Try.isAgg42 Try.sizeOf42 (fun x : { x : RowT // x.Ok } => rcs x.1) (fun x => rcs_length x.2) (fun x v hv => by
      have := rcs_one (r := x.1)
      rw [Array.all_eq_true_iff_forall_mem] at this
      exact this v (by simpa using hv)) (fun x y => cfS x.1 y.1) (swo_of ltS cfS (fun _ _ ha hb => cfS_lt ha hb) (fun x h => by rcases h with h | h <;> omega) (fun x y z a b => by unfold ltS at *; omega) (fun x y z a b => by unfold ltS at *; omega)) 62 #[] blk 0 cap d W eg (fun m os dk _ x y => bySlot_any x.1 y.1 x.2 y.2 _) hH hb hd)
end
end Go.Proofs.Ytoofhaoaogoomaa
