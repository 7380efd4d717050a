/- CacheTells' walk, told from what the package does. No statement of the seat is proved here. -/
import Derived.Test.YtmnjaocdhelebaaCcRoom
import Derived.Test.YtmnjaocdhelebaaCcTellM
import Derived.Test.YtmnjaocdhelebaaMapSl
import Derived.Test.YtmnjaocdhelebaaStTwoB
import Derived.Test.YtmnjaocdhelebaaIxEq
import Derived.Test.YtmnjaocdhelebaaMidWant
import Derived.Deep.DeepCutAuto
namespace Go.Proofs.Ytmnjaocdhelebaa
open Go.RowKit
set_option linter.unusedVariables false
set_option linter.unusedSimpArgs false

/-- The law's map, as a state. -/
def Mt (w : World) (t : Addr) (G : Nat → Prop) (m : Nat × (Int → Value)) : Prop := ∃ mb, t = ⟨mb, 0, none⟩ ∧ SlMap w mb m.1 m.2 ∧ ∀ g, G g ↔ g = mb
theorem mt_firm : Firm Mt := ⟨fun ⟨mb, _, h, hG⟩ g hg => by rw [(hG g).1 hg]; exact h.lt, fun ⟨mb, e, h, hG⟩ hk => ⟨mb, e, h.blk (hk mb ((hG mb).2 rfl)), hG⟩⟩
/-- What the map has of each shelf that is there: its rows. -/
def MRel (w0 : World) (S : CS) (M : Int → Value) : Prop := ∀ x ∈ S.t, ∃ A c, M x.1 = .slice A x.2.length c ∧ RdRw w0 w0.heap.size A x.2 ∧ x.2.length ≤ c ∧ c ≤ maxLen ∧ x.2.length ≤ 50
theorem MRel.nil (w0 : World) (n : Nat) (M : Int → Value) : MRel w0 ⟨n, []⟩ M := by intro x hx; simp at hx
theorem MRel.drop {w0 : World} {S : CS} {M : Int → Value} (h : MRel w0 S M) (sh : Int) : MRel w0 (dropC S sh) M := fun x hx => h x (List.mem_filter.1 hx).1
theorem MRel.load {w0 : World} {S : CS} {M : Int → Value} (h : MRel w0 S M) (sh : Int) {A : Option Addr} {R : List RowT} {c : Nat} (hr : RdRw w0 w0.heap.size A R) (hc : R.length ≤ c) (hm : c ≤ maxLen) (h50 : R.length ≤ 50) (d : Nat) :
    MRel w0 (loadC S sh R d) (if hasC S sh = true then M else fun y => if y = sh then .slice A R.length c else M y) := by
  by_cases hh : hasC S sh = true
  · rw [if_pos hh, loadC_had hh]; exact h
  · rw [if_neg hh]
    have hne : ∀ x ∈ S.t, x.1 ≠ sh := fun x hx e => hh (by rw [hasC_iff]; unfold shelvesC; exact List.mem_map.2 ⟨x, hx, e⟩)
    unfold loadC
    split
    · intro x hx
      show ∃ A' c', (if x.1 = sh then _ else M x.1) = _ ∧ _
      rw [if_neg (hne x hx)]
      exact h x hx
    · intro x hx
      have hx' : x ∈ S.t ∨ x = (sh, R) := by
        rcases List.mem_append.1 hx with hx | hx
        · left
          split at hx
          · exact List.mem_of_mem_eraseIdx hx
          · exact hx
        · right; simpa using hx
      show ∃ A' c', (if x.1 = sh then _ else M x.1) = _ ∧ _
      rcases hx' with hx' | rfl
      · rw [if_neg (hne x hx')]
        exact h x hx'
      · rw [if_pos rfl]
        exact ⟨A, c, rfl, hr, hc, hm, h50⟩
section
variable {Ct : World → Addr → (Nat → Prop) → CS → Prop} {w0 w : World} {s : Addr} {mb n : Nat} {M : Int → Value} {S : CS} {E : List (Nat × Obj)}
theorem map_put (hC : Firm Ct) (h : TwoB Ct Mt w0 w s ⟨mb, 0, none⟩ S (n, M) E) {x : Int} (hx : In64 x) {v : Value} (hv : Plain v) (hn : n < maxLen) :
    ∃ w', (Instr.mapUpdate 55 (.map (some mb)) (.int .i64 x) v).run Try.prog w = .ok () w' ∧ TwoB Ct Mt w0 w' s ⟨mb, 0, none⟩ S (n + 1, fun y => if y = x then v else M y) E := by
  obtain ⟨G, hG, ⟨mb', e, hm, hg⟩, back⟩ := h.right hC mt_firm (Below.refl _ _)
  injection e with e _ _
  subst e
  obtain ⟨w', h1, h2, h3⟩ := hm.put hx hv hn
  exact ⟨w', h1, back ⟨fun g => g = mb, ⟨mb, rfl, h2, fun g => Iff.rfl⟩, fun g hg' => .inl ((hg g).2 hg'), only_grown h3 ((hg mb).2 rfl)⟩⟩
theorem map_look (h : TwoB Ct Mt w0 w s ⟨mb, 0, none⟩ S (n, M) E) {x : Int} (hx : In64 x) : (Instr.lookup 55 (.map (some mb)) (.int .i64 x) false).run Try.prog w = .ok (M x) w := by
  obtain ⟨_, G, _, ⟨mb', e, hm, hg⟩, _⟩ := h
  injection e with e _ _
  subst e
  exact hm.look hx
theorem load2 (K : CachesOk Ct) (h : TwoB Ct Mt w0 w s ⟨mb, 0, none⟩ S (n, M) E) (sh : Int) (hs : In64 sh) (A : Option Addr) (ls : List RowT) (k c draw : Nat) (hd : draw < 18446744073709551616) (hl : ls.length = k) (hc : k ≤ c) (hm : c ≤ maxLen) (hn : k ≤ 1000) (hr : RdRw w0 w0.heap.size A ls) :
    Calls Try.prog 13 #[.pointer (some s), .int .i64 sh, .slice A k c, .int .u64 draw] w fun e w' => e = .returned (.tuple #[]) ∧ TwoB Ct Mt w0 w' s ⟨mb, 0, none⟩ (loadC S sh ls draw) (n, M) E := by
  obtain ⟨F, hF, h1, back⟩ := h.left K.firm mt_firm (Below.refl _ _)
  exact (K.load s F S sh A ls k c draw w h1 hs hd hl hc hm hn ((hr.below h.bel).more h.bel.size) (fun ad e h0 hf => by
    have a1 := hr.adr ad e (by omega)
    have a2 := (hF _ hf).2
    omega)).mono fun e w' ⟨he, ht⟩ => ⟨he, back ht⟩
theorem drop2 (K : CachesOk Ct) (h : TwoB Ct Mt w0 w s ⟨mb, 0, none⟩ S (n, M) E) (sh : Int) (hs : In64 sh) :
    Calls Try.prog 11 #[.pointer (some s), .int .i64 sh] w fun e w' => e = .returned (.bool (hasC S sh)) ∧ TwoB Ct Mt w0 w' s ⟨mb, 0, none⟩ (dropC S sh) (n, M) E := by
  obtain ⟨F, hF, h1, back⟩ := h.left K.firm mt_firm (Below.refl _ _)
  exact (K.drop s F S sh w h1 hs).mono fun e w' ⟨he, ht⟩ => ⟨he, back ht⟩
theorem has2 (K : CachesOk Ct) (h : TwoB Ct Mt w0 w s ⟨mb, 0, none⟩ S (n, M) E) (sh : Int) (hs : In64 sh) :
    Calls Try.prog 20 #[.pointer (some s), .int .i64 sh] w fun e w' => e = .returned (.bool (hasC S sh)) ∧ TwoB Ct Mt w0 w' s ⟨mb, 0, none⟩ S (n, M) E := by
  obtain ⟨F, _, h1, _⟩ := id h
  exact (K.has s F S sh w h1 hs).mono fun e w' ⟨he, hb⟩ => ⟨he, h.on K.firm mt_firm hb⟩
theorem get2 (K : CachesOk Ct) (h : TwoB Ct Mt w0 w s ⟨mb, 0, none⟩ S (n, M) E) (k : KeyT) (hk : k.Ok) :
    Calls Try.prog 15 #[.pointer (some s), kv k] w fun e w' => e = .returned (.tuple #[pv (getC S k), .bool (knowsC S k)]) ∧ TwoB Ct Mt w0 w' s ⟨mb, 0, none⟩ S (n, M) E := by
  obtain ⟨F, _, h1, _⟩ := id h
  exact (K.get s F S k w h1 hk).mono fun e w' ⟨he, hb⟩ => ⟨he, h.on K.firm mt_firm hb⟩
theorem shelves2 (K : CachesOk Ct) (h : TwoB Ct Mt w0 w s ⟨mb, 0, none⟩ S (n, M) E) :
    Calls Try.prog 18 #[.pointer (some s)] w fun e w' => ∃ A c, e = .returned (.slice A (shelvesC S).length c) ∧ OwnG 3 1 i1 w' w.heap.size A c (shelvesC S) ∧ TwoB Ct Mt w0 w' s ⟨mb, 0, none⟩ S (n, M) E := by
  obtain ⟨F, _, h1, _⟩ := id h
  exact (K.shelves s F S w h1).mono fun e w' ⟨A, c, he, ho, hb⟩ => ⟨A, c, he, ho, h.on K.firm mt_firm hb⟩
theorem good2 (K : CachesOk Ct) (h : TwoB Ct Mt w0 w s ⟨mb, 0, none⟩ S (n, M) E) : S.Ok := by
  obtain ⟨F, _, h1, _⟩ := h
  exact K.ok h1
theorem getC_ok {S : CS} (h : S.Ok) {k : KeyT} {p : Int × Int} (hp : getC S k = p) : In64 p.1 ∧ In64 p.2 := by
  rw [← hp]
  unfold getC
  cases hf : findC S k with
  | none => exact ⟨⟨by decide, by decide⟩, ⟨by decide, by decide⟩⟩
  | some r =>
    unfold findC at hf
    obtain ⟨x, hx, h2⟩ := List.exists_of_findSome?_eq_some hf
    have := (h.rows x hx).2 r (List.mem_of_find?_eq_some h2)
    exact ⟨this.shelf, this.slot⟩
/-- A cache and a map, both new. -/
theorem map_new (K : CachesOk Ct) {kb : Nat} {Y : List Value} {F : Nat → Prop} {w1 : World} (hb : Below w0.heap.size w0 w1) (hk : Blk w1 kb 27 Y.toArray) (h : Ct w s F S) (hF : ∀ g, F g → w1.heap.size ≤ g) (hb2 : Below w1.heap.size w1 w) (hmb : w.heap.size = mb) :
    TwoB Ct Mt w0 (w.alloc (.map #[] 0)) s ⟨mb, 0, none⟩ S (0, fun _ => .slice none 0 0) [(kb, Obj.cells Y.toArray 27 (0, 0))] := by
  subst hmb
  have hlt := K.lt h
  have ha := (Below.refl w.heap.size w).alloc (Nat.le_refl _) (.map #[] 0)
  have hkl := hk.lt
  refine ⟨F, fun g => g = w.heap.size, K.keep h fun g hg => ha.block g (hlt g hg), ⟨_, rfl, SlMap.made w, fun g => Iff.rfl⟩, fun g h1 h2 => by have := hlt g h1; omega, fun g hg => Nat.le_trans hb.size (hF g hg), fun g hg => by rw [hg]; exact Nat.le_trans hb.size hb2.size, (hb.trans (hb2.mono hb.size)).trans (ha.mono (Nat.le_trans hb.size hb2.size)), fun p hp => ?_⟩
  have hp := List.mem_singleton.1 hp
  subst hp
  refine ⟨?_, fun hf => ?_, fun hf => ?_⟩
  · exact ((hk.below hb2 hkl).below ha (Nat.lt_of_lt_of_le hkl hb2.size))
  · have := hF _ hf; simp only at this; omega
  · have := hb2.size; simp only at hf; omega
theorem mkMap_rows (W : World) : (Instr.makeMap 55 none).run Try.prog W = .ok (.map (some W.heap.size)) (W.alloc (.map #[] 0)) := by
  simp [Instr.makeMap, run_underlying Try.underlying55, asInt, go_sem]
set_option maxRecDepth 100000 in
set_option maxHeartbeats 16000000 in
theorem tells_walk (K : CachesOk Ct) (r : Nat) (hr8 : r ≤ 255) (A : Option Addr) (ls : List CAct) (n c : Nat) (hl : ls.length = n) (hc : n ≤ c) (hm : c ≤ maxLen) (ky : KeyT) (hky : ky.Ok) (w : World) (hr : RdC w w.heap.size A ls) :
    Calls Try.prog 5 #[.int .u8 r, .slice A n c, .agg (kcs ky).toArray] w fun e w' => e = .returned (.bool true) ∧ Below w.heap.size w w' := by
  obtain ⟨q, hq⟩ : ∃ q, r % 21 = q := ⟨_, rfl⟩
  have hq20 : q < 21 := by omega
  have hqi : (r : Int) % 21 = (q : Int) := by omega
  have HR := Lib.hid hr
  have HFEW := Lib.hid (fun W (hW : Below w.heap.size w W) => few_any A n c ls hl hc hm W ((hr.below hW).more hW.size))
  have HL := Lib.hid hl
  unfold maxLen at hm
  have cq : IntKind.i64.wrap (q : Int) = (q : Int) := by rw [IntKind.wrap_i64]; omega
  obtain ⟨fs, hfs⟩ := cact_desc
  obtain ⟨fk, hfk⟩ := key_desc
  obtain ⟨fr, hfr⟩ := row_desc
  obtain ⟨fp, hfp⟩ := place_desc
  have HF := Lib.hid (And.intro hfs (And.intro hfk (And.intro hfr hfp)))
  obtain ⟨Y, hY⟩ : ∃ Y, kcs ky = Y := ⟨_, rfl⟩
  have HYS := Lib.hid (show (Try.prog.info? 27).map (·.size) = some Y.length from by rw [← hY, kcs_length hky]; exact key_size)
  have HY := Lib.hid hY
  have HKY := Lib.hid hky
  rw [hY]
  obtain ⟨kb, hkb⟩ : ∃ kb, w.heap.size = kb := ⟨_, rfl⟩
  obtain ⟨w1, hw1⟩ : ∃ w1, w.alloc (.cells Y.toArray 27) = w1 := ⟨_, rfl⟩
  have HW1 := Lib.hid (And.intro hw1 hkb)
  have H1 := Lib.hid (show Below w.heap.size w w1 ∧ Blk w1 kb 27 Y.toArray from by
    rw [← hw1, ← hkb]
    exact ⟨(Below.refl _ _).alloc (Nat.le_refl _) _, Blk.new w _ _⟩)
  clear hr hl hq hfs hfk hfr hfp hY hky hw1 hkb
  go_enter Try.func5, Try.ntmps5
  go_wp2_with fail
  rw [HW1.out.1, HW1.out.2]
  refine (shown_any K w1).mono ?_
  rintro e w2 ⟨rfl, hb2⟩
  have H2 := Lib.hid (And.intro (H1.out.1.trans (hb2.mono H1.out.1.size)) (H1.out.2.below hb2 H1.out.2.lt))
  clear hb2 H1
  go_wp2_with fail
  refine (K.new q w2 (by omega)).mono ?_
  rintro e w3 ⟨s, F, rfl, h3, hF, hb3⟩
  obtain ⟨mb, hmb⟩ : ∃ mb, w3.heap.size = mb := ⟨_, rfl⟩
  obtain ⟨w4, hw4⟩ : ∃ w4, w3.alloc (.map #[] 0) = w4 := ⟨_, rfl⟩
  have H4 := Lib.hid (show TwoB Ct Mt w w4 s ⟨mb, 0, none⟩ ⟨q, []⟩ (0, fun _ => .slice none 0 0) [(kb, Obj.cells Y.toArray 27 (0, 0))] from hw4 ▸ map_new K H2.out.1 H2.out.2 h3 hF hb3 hmb)
  have HW4 := Lib.hid (And.intro hw4 hmb)
  clear h3 hF hb3 hmb hw4 H2
  have hmm := mkMap_rows w3
  go_wp2_with fail
  rw [HW4.out.1, HW4.out.2]
  clear hmm
  refine (HFEW.out _ H4.out.bel).mono ?_
  rintro e w5 ⟨k, hkn, hk100, hall, rfl, rfl⟩
  have HALL := Lib.hid hall
  clear hall HFEW
  go_wp2_with fail
  go_loopw [39] (fun i wr => ∃ (j n : Nat) (S : CS) (M : Int → Value), j ≤ k ∧ i = .int .i64 j ∧ Hid (TwoB Ct Mt w wr s ⟨mb, 0, none⟩ S (n, M) [(kb, Obj.cells Y.toArray 27 (0, 0))] ∧ S.room = q ∧ MRel w S M ∧ n ≤ j)) (fun i _ => k - (intOf i).toNat)
  case atStart => exact ⟨0, 0, _, _, Nat.zero_le _, rfl, Lib.hid ⟨H4.out, rfl, MRel.nil _ _ _, Nat.le_refl _⟩⟩
  case round =>
    clear H4 HW4 HW1
    obtain ⟨j, nm, S, M, hj, rfl, hst⟩ := hrel
    by_cases hlt : j < k
    · have hi1 : (0 : Int) ≤ (j : Int) := by omega
      have hi2 : (j : Int) < (k : Int) := by omega
      have hjl : j < ls.length := by rw [HL.out]; omega
      obtain ⟨g, off, ⟨gn, sh, ad, cp, R, dw⟩, hA, hra, hok, h50, _, hg⟩ := HR.out.get hst.out.1.bel hjl hlt HALL.out
      obtain ⟨nb, hnb⟩ : ∃ nb, R.length = nb := ⟨_, rfl⟩
      have HRA := Lib.hid (show wr.rangeAt g (off + j * 4) [.bool gn, .int .i64 sh, .slice ad nb cp, .int .u64 dw] from by rw [← hnb]; exact hra)
      have HKS := Lib.hid (show (Try.prog.info? 45).map (·.size) = some ([.bool gn, .int .i64 sh, .slice ad nb cp, .int .u64 dw] : List Value).length from cact_size)
      have HKS2 := Lib.hid (show (Try.prog.info? 45).map (·.size) = some (#[.bool gn, .int .i64 sh, .slice ad nb cp, .int .u64 dw] : Array Value).size from cact_size)
      have HONE := Lib.hid (show (#[.bool gn, .int .i64 sh, .slice ad nb cp, .int .u64 dw] : Array Value).all (·.oneCell') = true from by simp; exact ⟨rfl, rfl, rfl, rfl⟩)
      have HBZ := Lib.hid (Blk.new wr 45 #[.bool false, .int .i64 0, .slice none 0 0, .int .u64 0])
      have HOK := Lib.hid (And.intro hok (And.intro h50 (And.intro hnb (And.intro hst.out.2.1 (And.intro hst.out.2.2.1 hst.out.2.2.2)))))
      have hs64 : In64 sh := hok.shelf
      have HS64 := Lib.hid hs64
      obtain ⟨w5, ab, hw5, hab, hb5, hblk⟩ := cact_box wr #[.bool gn, .int .i64 sh, .slice ad nb cp, .int .u64 dw]
      have HW5 := Lib.hid (And.intro hw5 hab)
      have T5 := hst.out.1.box K.firm mt_firm hab hw5
      obtain ⟨EA, hEA⟩ : ∃ EA, ((ab, Obj.cells #[.bool gn, .int .i64 sh, .slice ad nb cp, .int .u64 dw] 45 (0, 0)) : Nat × Obj) = EA := ⟨_, rfl⟩
      obtain ⟨EK, hEK⟩ : ∃ EK, ((kb, Obj.cells Y.toArray 27 (0, 0)) : Nat × Obj) = EK := ⟨_, rfl⟩
      rw [hEA, hEK] at T5
      have HE := Lib.hid (And.intro hEA hEK)
      have HC := Lib.hid (show ∀ W S m E, TwoB Ct Mt w W s ⟨mb, 0, none⟩ S m E → EA ∈ E → Blk W ab 45 #[.bool gn, .int .i64 sh, .slice ad nb cp, .int .u64 dw] from fun _ _ _ _ h hm => h.blk (by rw [hEA]; exact hm))
      have hbk := HC.out _ _ _ _ T5 (List.mem_cons_self)
      have H5 := Lib.hid T5
      have k0 : w5.cell? ⟨ab, 0, none⟩ = some (.bool gn) := hbk.cell 0
      have k1 : w5.cell? ⟨ab, 1, none⟩ = some (.int .i64 sh) := hbk.cell 1
      have k2 : w5.cell? ⟨ab, 2, none⟩ = some (.slice ad nb cp) := hbk.cell 2
      have k3 : w5.cell? ⟨ab, 3, none⟩ = some (.int .u64 dw) := hbk.cell 3
      subst hA
      clear hra hok h50 hst hw5 hab hb5 hblk hnb hg hs64 T5 hEA hEK hbk
      cases gn with
      | true =>
        have KD := Lib.hid (drop2 K H5.out sh HS64.out)
        go_wp2_with (first
          | refine wpList_load_mid rfl 45 (.tmp 41) rfl g (off + j * 4) rfl [.bool true, .int .i64 sh, .slice ad nb cp, .int .u64 dw] (.struct fs) HRA.out HF.out.1 rfl HKS.out ?_
          | (refine wpList_store_row rfl 45 (.tmp 12) (.tmp 42) rfl wr.heap.size #[.bool true, .int .i64 sh, .slice ad nb cp, .int .u64 dw] rfl rfl 45 #[.bool false, .int .i64 0, .slice none 0 0, .int .u64 0] HBZ.out HKS2.out rfl HONE.out ?_; rw [setRow_alloc, HW5.out.1, HW5.out.2]))
        refine KD.out.mono ?_
        rintro e w6 ⟨rfl, h6⟩
        have H6 := Lib.hid h6.drop
        clear h6 KD k0 k1 k2 k3
        go_wp2_with fail
        go_roundw
        case rel => exact ⟨j + 1, nm, dropC S sh, M, by omega, by go_num, Lib.hid ⟨by rw [HE.out.2]; exact H6.out, HOK.out.2.2.2.1, HOK.out.2.2.2.2.1.drop sh, by have := HOK.out.2.2.2.2.2; omega⟩⟩
        case measure => simp [intOf]; omega
      | false =>
        have KH := Lib.hid (has2 K H5.out sh HS64.out)
        go_wp2_with (first
          | refine wpList_load_mid rfl 45 (.tmp 41) rfl g (off + j * 4) rfl [.bool false, .int .i64 sh, .slice ad nb cp, .int .u64 dw] (.struct fs) HRA.out HF.out.1 rfl HKS.out ?_
          | (refine wpList_store_row rfl 45 (.tmp 12) (.tmp 42) rfl wr.heap.size #[.bool false, .int .i64 sh, .slice ad nb cp, .int .u64 dw] rfl rfl 45 #[.bool false, .int .i64 0, .slice none 0 0, .int .u64 0] HBZ.out HKS2.out rfl HONE.out ?_; rw [setRow_alloc, HW5.out.1, HW5.out.2]))
        refine KH.out.mono ?_
        rintro e w6 ⟨rfl, h6⟩
        obtain ⟨hd, hhd⟩ : ∃ b, hasC S sh = b := ⟨_, rfl⟩
        rw [hhd]
        have HHD := Lib.hid hhd
        have H6 := Lib.hid h6
        have hbk := HC.out _ _ _ _ h6 (List.mem_cons_self)
        have k61 : w6.cell? ⟨ab, 1, none⟩ = some (.int .i64 sh) := hbk.cell 1
        have k62 : w6.cell? ⟨ab, 2, none⟩ = some (.slice ad nb cp) := hbk.cell 2
        clear h6 hbk KH k0 k1 k2 k3 hhd
        go_upto_if 53 with fail
        have HLD := Lib.hid (HOK.out.2.2.2.2.1.load sh HOK.out.1.rd HOK.out.1.le HOK.out.1.max HOK.out.2.1 dw)
        rw [HHD.out, HOK.out.2.2.1] at HLD
        have HNB := Lib.hid (show nm < maxLen from by have := HOK.out.2.2.2.2.2; unfold maxLen; omega)
        have HPL := Lib.hid (plain_any ad nb cp)
        go_cut [] from 54 to 58 (fun wx => Hid (∃ n' M', TwoB Ct Mt w wx s ⟨mb, 0, none⟩ S (n', M') [EA, EK] ∧ n' ≤ j + 1 ∧ MRel w (loadC S sh R dw) M'))
        case first =>
          cases hd with
          | true =>
            go_wp2_with fail
            go_meet
            exact Lib.hid ⟨nm, M, H6.out, by have := HOK.out.2.2.2.2.2; omega, HLD.out⟩
          | false =>
            obtain ⟨w7, hrun, h7⟩ := map_put K.firm H6.out HS64.out HPL.out HNB.out
            have H7 := Lib.hid h7
            clear h7
            go_wp2_with fail
            go_meet
            exact Lib.hid ⟨nm + 1, _, H7.out, by have := HOK.out.2.2.2.2.2; omega, HLD.out⟩
        case rest =>
          obtain ⟨n7, M7, h7, hn7, hrel7⟩ := hcut.out
          have H7 := Lib.hid (And.intro hn7 hrel7)
          have hbk := HC.out _ _ _ _ h7 (List.mem_cons_self)
          have k71 : wc.cell? ⟨ab, 1, none⟩ = some (.int .i64 sh) := hbk.cell 1
          have k72 : wc.cell? ⟨ab, 2, none⟩ = some (.slice ad nb cp) := hbk.cell 2
          have k73 : wc.cell? ⟨ab, 3, none⟩ = some (.int .u64 dw) := hbk.cell 3
          have KL := Lib.hid (load2 K h7 sh HS64.out ad R nb cp dw HOK.out.1.draw HOK.out.2.2.1 (by rw [← HOK.out.2.2.1]; exact HOK.out.1.le) HOK.out.1.max (by have h1 := HOK.out.2.1; have h2 := HOK.out.2.2.1; rw [← h2]; exact Nat.le_trans h1 (by omega)) HOK.out.1.rd)
          clear hcut h7 hn7 hrel7 hbk H6 HLD HPL HNB k61 k62
          go_wp2_with fail
          refine KL.out.mono ?_
          rintro e w8 ⟨rfl, h8⟩
          have hroom : (loadC S sh R dw).room = q := by rw [loadC_room]; exact HOK.out.2.2.2.1
          have hrel7 := H7.out.2
          obtain ⟨T, hT⟩ : ∃ T, loadC S sh R dw = T := ⟨_, rfl⟩
          rw [hT] at h8 hroom hrel7
          have hok8 := good2 K h8
          have KG := get2 K h8 ky HKY.out
          obtain ⟨⟨p1, p2⟩, hp⟩ : ∃ p, getC T ky = p := ⟨_, rfl⟩
          obtain ⟨is, his⟩ : ∃ is, knowsC T ky = is := ⟨_, rfl⟩
          unfold kv at KG
          rw [hp, his, HY.out] at KG
          replace KG := Lib.hid KG
          have HPI := Lib.hid (And.intro hp his)
          have RK := Lib.hid (show w8.rangeAt kb 0 Y from range_of_blk (h8.blk (by rw [HE.out.2]; simp)))
          have HT := Lib.hid (And.intro hroom (And.intro hrel7 hok8))
          clear h8 hT hroom hrel7 hok8 hp his KL k71 k72 k73
          go_wp2_with (refine wpList_load_mid rfl 27 (.tmp 5) rfl kb 0 rfl Y (.struct fk) RK.out HF.out.2.1 rfl HYS.out ?_)
          refine KG.out.mono ?_
          rintro e w9 ⟨rfl, h9⟩
          obtain ⟨pb, hpb⟩ : ∃ pb, w9.heap.size = pb := ⟨_, rfl⟩
          obtain ⟨w10, hw10⟩ : ∃ w10, w9.alloc (.cells #[.int .i64 p1, .int .i64 p2] 29) = w10 := ⟨_, rfl⟩
          have h10 := h9.box K.firm mt_firm hpb hw10
          have H10 := Lib.hid h10
          have HW10 := Lib.hid (And.intro hw10 hpb)
          have KS := Lib.hid (shelves2 K h10)
          clear h9 h10 hw10 hpb KG RK
          go_wp2_with fail
          rw [HW10.out.1, HW10.out.2]
          refine KS.out.mono ?_
          rintro e w11 ⟨A8, c8, rfl, ho8, h11⟩
          obtain ⟨m, hm11⟩ : ∃ m, (shelvesC T).length = m := ⟨_, rfl⟩
          have hmT : T.t.length = m := by rw [← hm11, shelves_len]
          have hmq : m ≤ 20 := by rw [← hmT]; have := HT.out.2.2.len; have := HT.out.1; omega
          have HRV := Lib.hid (show ∀ W, Below w11.heap.size w11 W → RdV W W.heap.size A8 (iv (shelvesC T)) from fun W hW => (ho8.rdv.below hW).more hW.size)
          rw [hm11]
          have H11 := Lib.hid h11
          have HM := Lib.hid (And.intro hm11 hmT)
          have HPB := Lib.hid (show ∀ W, Below w11.heap.size w11 W → W.rangeAt kb 0 Y ∧ W.rangeAt pb 0 [.int .i64 p1, .int .i64 p2] from fun W hW => by
            have h := h11.on K.firm mt_firm hW
            exact ⟨range_of_blk (h.blk (by rw [HE.out.2]; simp)), range_of_blk (cs := [.int .i64 p1, .int .i64 p2]) (h.blk List.mem_cons_self)⟩)
          have HPS2 := Lib.hid (show (Try.prog.info? 29).map (·.size) = some ([.int .i64 p1, .int .i64 p2] : List Value).length from place_size)
          clear ho8 h11 hm11 hmT KS
          go_wp2_with fail
          go_loopw [15, 16, 76] (fun tv av i wr => ∃ t : Nat, t ≤ m ∧ i = .int .i64 t ∧ tv = .bool (toldS ky (p1, p2) (T.t.take t)) ∧ av = .bool (anyS ky (T.t.take t)) ∧ Hid (Below w11.heap.size w11 wr)) (fun _ _ i _ => m - (intOf i).toNat)
          case atStart => exact ⟨0, Nat.zero_le _, rfl, rfl, rfl, Lib.hid (Below.refl _ _)⟩
          case round =>
            obtain ⟨t, ht, rfl, rfl, rfl, hbt⟩ := hrel
            by_cases htl : t < m
            · have htx : t < T.t.length := by rw [HM.out.2]; exact htl
              obtain ⟨⟨si, Ri⟩, hx⟩ : ∃ x, T.t[t] = x := ⟨_, rfl⟩
              have hxm : (si, Ri) ∈ T.t := by rw [← hx]; exact List.getElem_mem htx
              obtain ⟨Ai, ci, hMi, hRi, hci, hcm, hci50⟩ := HT.out.2.1 _ hxm
              have hs64 : In64 si := HT.out.2.2.shelf _ hxm
              have hst8 : t < (iv (shelvesC T)).length := by rw [iv_length, shelves_len]; exact htx
              have hsv : (iv (shelvesC T))[t] = .int .i64 si := by
                have : (iv (shelvesC T))[t]? = some (.int .i64 si) := by unfold iv shelvesC; simp [htx, hx]
                rw [List.getElem?_eq_getElem hst8] at this
                injection this
              obtain ⟨g8, o8, hA8, _, hc8⟩ := HRV.out wr hbt.out (by omega)
              have hcell := hc8 t hst8
              rw [hsv] at hcell
              obtain ⟨ni, hni⟩ : ∃ ni, Ri.length = ni := ⟨_, rfl⟩
              simp only [hni] at hMi hci hci50
              have h11t := H11.out.on K.firm mt_firm hbt.out
              have hlk := map_look h11t hs64
              rw [hMi] at hlk
              have HLK := Lib.hid hlk
              have HRR := Lib.hid (show ∀ W, Below w11.heap.size w11 W → RdRw W W.heap.size Ai Ri from fun W hW => by
                have hb := H11.out.bel.trans (hW.mono H11.out.bel.size)
                exact (hRi.below hb).more hb.size)
              have HNI := Lib.hid hni
              have HS1 := Lib.hid (show toldS ky (p1, p2) (T.t.take (t + 1)) = (toldS ky (p1, p2) (T.t.take t) || toldR ky (p1, p2) Ri) ∧ anyS ky (T.t.take (t + 1)) = (anyS ky (T.t.take t) || anyR ky Ri) from ⟨by rw [toldS_succ htx, hx], by rw [anyS_succ htx, hx]⟩)
              obtain ⟨td, htd⟩ : ∃ td, toldS ky (p1, p2) (T.t.take t) = td := ⟨_, rfl⟩
              obtain ⟨an, han⟩ : ∃ an, anyS ky (T.t.take t) = an := ⟨_, rfl⟩
              rw [htd, han] at HS1 ⊢
              subst hA8
              have ti1 : (0 : Int) ≤ (t : Int) := by omega
              have ti2 : (t : Int) < (m : Int) := by omega
              have hci9 : ci ≤ 9223372036854775807 := by unfold maxLen at hcm; omega
              clear hx hxm hMi hRi hcm hs64 hst8 hsv hc8 hni h11t hlk htd han htx
              have hlk := HLK.out
              go_wp2_with fail
              clear hlk hcell
              go_loopw [15, 16, 84] (fun tv av i wr => ∃ u : Nat, u ≤ ni ∧ i = .int .i64 u ∧ tv = .bool (td || toldR ky (p1, p2) (Ri.take u)) ∧ av = .bool (an || anyR ky (Ri.take u)) ∧ Hid (Below w11.heap.size w11 wr)) (fun _ _ i _ => ni - (intOf i).toNat)
              case atStart => exact ⟨0, Nat.zero_le _, rfl, by rw [List.take_zero]; simp [toldR], by rw [List.take_zero]; simp [anyR], hbt⟩
              case round =>
                clear hbt
                obtain ⟨u, hu, rfl, rfl, rfl, hbu⟩ := hrel
                by_cases hul : u < ni
                · have hux : u < Ri.length := by rw [HNI.out]; exact hul
                  obtain ⟨gi, oi, hAi, hgi, hri, hoi⟩ := (HRR.out wr hbu.out).at_ hux
                  obtain ⟨rw_, hrw⟩ : ∃ x, Ri[u] = x := ⟨_, rfl⟩
                  rw [hrw] at hri hoi
                  have HST1 := Lib.hid (show (td || toldR ky (p1, p2) (Ri.take (u + 1))) = ((td || toldR ky (p1, p2) (Ri.take u)) || (decide (rw_.1 = ky) && decide (rw_.2 = (p1, p2)))) from by rw [toldR_succ hux, hrw, Bool.or_assoc])
                  have HST2 := Lib.hid (show (an || anyR ky (Ri.take (u + 1))) = ((an || anyR ky (Ri.take u)) || decide (rw_.1 = ky)) from by rw [anyR_succ hux, hrw, Bool.or_assoc])
                  obtain ⟨tb, htb⟩ : ∃ tb, (td || toldR ky (p1, p2) (Ri.take u)) = tb := ⟨_, rfl⟩
                  obtain ⟨an2, hab⟩ : ∃ an2, (an || anyR ky (Ri.take u)) = an2 := ⟨_, rfl⟩
                  obtain ⟨rk, hrk⟩ : ∃ rk, decide (rw_.1 = ky) = rk := ⟨_, rfl⟩
                  obtain ⟨rp, hrp⟩ : ∃ rp, decide (rw_.2 = (p1, p2)) = rp := ⟨_, rfl⟩
                  rw [htb, hrk, hrp] at HST1
                  rw [hab, hrk] at HST2
                  rw [htb, hab]
                  obtain ⟨Zr, hZr⟩ : ∃ Zr, rcs rw_ = Zr := ⟨_, rfl⟩
                  have hZl : Zr.length = 35 := by rw [← hZr]; exact rcs_length hoi
                  obtain ⟨Yr, hYr⟩ : ∃ Yr, kcs rw_.1 = Yr := ⟨_, rfl⟩
                  obtain ⟨s1, hs1⟩ : ∃ s1, rw_.2.1 = s1 := ⟨_, rfl⟩
                  obtain ⟨s2, hs2⟩ : ∃ s2, rw_.2.2 = s2 := ⟨_, rfl⟩
                  have hpv : pvs rw_.2 = [.int .i64 s1, .int .i64 s2] := by rw [← hs1, ← hs2]
                  have HYR := Lib.hid (show (Try.prog.info? 27).map (·.size) = some Yr.length from by rw [← hYr, kcs_length hoi.key]; exact key_size)
                  have HPS1 := Lib.hid (show (Try.prog.info? 29).map (·.size) = some ([.int .i64 s1, .int .i64 s2] : List Value).length from place_size)
                  have QEK : ∀ W, (Op.equalIn 10000 27 (.agg Yr.toArray) (.agg Y.toArray)).run Try.prog W = .ok rk W := fun W => by rw [← hYr, ← HY.out, ← hrk]; exact key_eq_in hoi.key HKY.out W
                  have QGK : Try.prog.eqGuardType Try.prog.depth 27 = false := key_guard
                  have QEP : ∀ W : World, (Op.equalIn 10000 29 (.agg #[.int .i64 s1, .int .i64 s2]) (.agg #[.int .i64 p1, .int .i64 p2])).run Try.prog W = .ok rp W := fun W => by
                    have := place_eq (a := rw_.2) (b := (p1, p2)) ⟨hoi.shelf, hoi.slot⟩ (getC_ok HT.out.2.2 HPI.out.1) W
                    rw [hrp, hpv] at this
                    exact this
                  have QGP : Try.prog.eqGuardType Try.prog.depth 29 = false := place_guard
                  rw [hZr] at hri
                  have HRI := Lib.hid hri
                  have HQS := Lib.hid (show (Try.prog.info? 31).map (·.size) = some Zr.length from by rw [hZl]; exact row_size)
                  have HQS2 := Lib.hid (show (Try.prog.info? 31).map (·.size) = some Zr.toArray.size from by rw [List.size_toArray, hZl]; exact row_size)
                  have HQOLD := Lib.hid (show rz.size = Zr.toArray.size from rz_size.trans (by rw [List.size_toArray, hZl]))
                  have HQZ := Lib.hid (Blk.new wr 31 rz)
                  have HQONE := Lib.hid (show Zr.toArray.all (·.oneCell') = true from by rw [← hZr]; exact rcs_one)
                  obtain ⟨w12, hw12⟩ : ∃ w12, wr.alloc (.cells Zr.toArray 31) = w12 := ⟨_, rfl⟩
                  obtain ⟨rb, hrb⟩ : ∃ rb, wr.heap.size = rb := ⟨_, rfl⟩
                  have hb12 : Below wr.heap.size wr w12 := hw12 ▸ (Below.refl _ _).alloc (Nat.le_refl _) _
                  have hk12 : Blk w12 rb 31 Zr.toArray := by rw [← hw12, ← hrb]; exact Blk.new wr _ _
                  have HB12 := Lib.hid (hbu.out.trans (hb12.mono hbu.out.size))
                  have R12 := Lib.hid (show (w12.rangeAt rb 0 Yr ∧ w12.rangeAt rb 33 [.int .i64 s1, .int .i64 s2]) ∧ w12.rangeAt kb 0 Y ∧ w12.rangeAt pb 0 [.int .i64 p1, .int .i64 p2] from by
                    have h1 := range_of_blk hk12
                    rw [← hZr] at h1
                    have h2 := range_key h1
                    have h3 := range_place hoi h1
                    rw [hYr] at h2
                    rw [hpv] at h3
                    exact ⟨⟨h2, h3⟩, HPB.out w12 HB12.out⟩)
                  have HW12 := Lib.hid (And.intro hw12 hrb)
                  have HTB := Lib.hid (And.intro htb hab)
                  subst hAi
                  have ui1 : (0 : Int) ≤ (u : Int) := by omega
                  have ui2 : (u : Int) < (ni : Int) := by omega
                  clear hbu hri hoi hrw hux hgi htb hab hrk hrp hZr hZl hYr hs1 hs2 hpv hw12 hrb hb12 hk12
                  go_upto_region 22 with (first
                    | refine wpList_load_mid rfl 31 (.tmp 86) rfl gi (oi + u * 35) rfl Zr (.struct fr) HRI.out HF.out.2.2.1 rfl HQS.out ?_
                    | (refine wpList_store_row rfl 31 (.tmp 20) (.tmp 87) rfl wr.heap.size Zr.toArray rfl rfl 31 rz HQZ.out HQS2.out HQOLD.out HQONE.out ?_; rw [setRow_alloc, HW12.out.1, HW12.out.2]))
                  clear HRI HQZ
                  simp only [Act.put]
                  go_cut [16] from 88 to 94 (fun av wx => av = .bool (an2 || rk) ∧ wx = w12)
                  case first =>
                    cases an2 with
                    | true =>
                      go_wp2_with fail
                      go_meet
                      exact ⟨rfl, rfl⟩
                    | false =>
                      cases rk with
                      | true =>
                        go_wp2_with (first | refine wpList_mid_want (by rfl) 27 (.tmp 90) rfl rb 0 rfl Yr (.struct fk) R12.out.1.1 HF.out.2.1 rfl HYR.out ?_ | refine wpList_mid_want (by rfl) 27 (.tmp 5) rfl kb 0 rfl Y (.struct fk) R12.out.2.1 HF.out.2.1 rfl HYS.out ?_)
                        go_meet
                        exact ⟨rfl, rfl⟩
                      | false =>
                        go_wp2_with (first | refine wpList_mid_want (by rfl) 27 (.tmp 90) rfl rb 0 rfl Yr (.struct fk) R12.out.1.1 HF.out.2.1 rfl HYR.out ?_ | refine wpList_mid_want (by rfl) 27 (.tmp 5) rfl kb 0 rfl Y (.struct fk) R12.out.2.1 HF.out.2.1 rfl HYS.out ?_)
                        go_meet
                        exact ⟨rfl, rfl⟩
                  case rest =>
                    obtain ⟨rfl, rfl⟩ := hcut
                    clear QGK QGP
                    cases tb with
                    | true =>
                      go_wp2_with fail
                      go_roundw
                      case rel => exact ⟨u + 1, by omega, by go_num, by rw [HST1.out]; rfl, (by (rw [HST2.out]); all_goals (cases an2 <;> rfl)), HB12⟩
                      case measure => simp [intOf]; omega
                    | false =>
                      cases rk with
                      | false =>
                        have QGK : Try.prog.eqGuardType Try.prog.depth 27 = false := key_guard
                        go_wp2_with (first | refine wpList_mid_want (by rfl) 27 (.tmp 97) rfl rb 0 rfl Yr (.struct fk) R12.out.1.1 HF.out.2.1 rfl HYR.out ?_ | refine wpList_mid_want (by rfl) 27 (.tmp 5) rfl kb 0 rfl Y (.struct fk) R12.out.2.1 HF.out.2.1 rfl HYS.out ?_)
                        go_roundw
                        case rel => exact ⟨u + 1, by omega, by go_num, by rw [HST1.out]; rfl, (by (rw [HST2.out]); all_goals (cases an2 <;> rfl)), HB12⟩
                        case measure => simp [intOf]; omega
                      | true =>
                        have QGK : Try.prog.eqGuardType Try.prog.depth 27 = false := key_guard
                        have QGP : Try.prog.eqGuardType Try.prog.depth 29 = false := place_guard
                        cases rp with
                        | true =>
                          go_wp2_with (first | refine wpList_mid_want (by rfl) 27 (.tmp 97) rfl rb 0 rfl Yr (.struct fk) R12.out.1.1 HF.out.2.1 rfl HYR.out ?_ | refine wpList_mid_want (by rfl) 27 (.tmp 5) rfl kb 0 rfl Y (.struct fk) R12.out.2.1 HF.out.2.1 rfl HYS.out ?_ | refine wpList_mid_want (by rfl) 29 (.tmp 102) rfl rb 33 rfl [.int .i64 s1, .int .i64 s2] (.struct fp) R12.out.1.2 HF.out.2.2.2 rfl HPS1.out ?_ | refine wpList_mid_want (by rfl) 29 (.tmp 13) rfl pb 0 rfl [.int .i64 p1, .int .i64 p2] (.struct fp) R12.out.2.2 HF.out.2.2.2 rfl HPS2.out ?_)
                          go_roundw
                          case rel => exact ⟨u + 1, by omega, by go_num, by rw [HST1.out]; rfl, (by (rw [HST2.out]); all_goals (cases an2 <;> rfl)), HB12⟩
                          case measure => simp [intOf]; omega
                        | false =>
                          go_wp2_with (first | refine wpList_mid_want (by rfl) 27 (.tmp 97) rfl rb 0 rfl Yr (.struct fk) R12.out.1.1 HF.out.2.1 rfl HYR.out ?_ | refine wpList_mid_want (by rfl) 27 (.tmp 5) rfl kb 0 rfl Y (.struct fk) R12.out.2.1 HF.out.2.1 rfl HYS.out ?_ | refine wpList_mid_want (by rfl) 29 (.tmp 102) rfl rb 33 rfl [.int .i64 s1, .int .i64 s2] (.struct fp) R12.out.1.2 HF.out.2.2.2 rfl HPS1.out ?_ | refine wpList_mid_want (by rfl) 29 (.tmp 13) rfl pb 0 rfl [.int .i64 p1, .int .i64 p2] (.struct fp) R12.out.2.2 HF.out.2.2.2 rfl HPS2.out ?_)
                          go_roundw
                          case rel => exact ⟨u + 1, by omega, by go_num, by rw [HST1.out]; rfl, (by (rw [HST2.out]); all_goals (cases an2 <;> rfl)), HB12⟩
                          case measure => simp [intOf]; omega
                · obtain rfl : u = ni := by omega
                  have HS2 := Lib.hid (show (td || toldR ky (p1, p2) (Ri.take u)) = toldS ky (p1, p2) (T.t.take (t + 1)) ∧ (an || anyR ky (Ri.take u)) = anyS ky (T.t.take (t + 1)) from by
                    rw [List.take_of_length_le (by rw [HNI.out]; exact Nat.le_refl _)]
                    exact ⟨HS1.out.1.symm, HS1.out.2.symm⟩)
                  rw [HS2.out.1, HS2.out.2]
                  go_wp2_with fail
                  go_roundw
                  case rel => exact ⟨t + 1, by omega, by go_num, rfl, rfl, hbu⟩
                  case measure => simp [intOf]; omega
            · obtain rfl : t = m := by omega
              have h11t := H11.out.on K.firm mt_firm hbt.out
              have hall : T.t.take t = T.t := List.take_of_length_le (by rw [HM.out.2]; exact Nat.le_refl _)
              rw [hall]
              have hai : anyS ky T.t = is := by rw [anyS_knows]; exact HPI.out.2
              have hti : is = true → toldS ky (p1, p2) T.t = true := fun h => by
                have := toldS_knows (S := T) (k := ky) (HPI.out.2.trans h)
                rwa [HPI.out.1] at this
              rw [hai]
              obtain ⟨tb, htb⟩ : ∃ tb, toldS ky (p1, p2) T.t = tb := ⟨_, rfl⟩
              rw [htb] at hti ⊢
              have HN := Lib.hid (show TwoB Ct Mt w wr s ⟨mb, 0, none⟩ T (n7, M7) [EK] from h11t.drop.drop)
              clear hall hai htb h11t hbt
              cases is with
              | true =>
                obtain rfl := hti rfl
                clear hti
                go_wp2_with fail
                go_roundw
                case rel => exact ⟨j + 1, n7, T, M7, by omega, by go_num, Lib.hid ⟨by rw [HE.out.2]; exact HN.out, HT.out.1, HT.out.2.1, H7.out.1⟩⟩
                case measure => simp [intOf]; omega
              | false =>
                clear hti
                go_wp2_with fail
                go_roundw
                case rel => exact ⟨j + 1, n7, T, M7, by omega, by go_num, Lib.hid ⟨by rw [HE.out.2]; exact HN.out, HT.out.1, HT.out.2.1, H7.out.1⟩⟩
                case measure => simp [intOf]; omega
    · obtain rfl : j = k := by omega
      have HN := Lib.hid hst.out.1.bel
      clear hst
      go_wp2_with fail
      go_ret
      exact ⟨rfl, HN.out⟩
end
end Go.Proofs.Ytmnjaocdhelebaa
