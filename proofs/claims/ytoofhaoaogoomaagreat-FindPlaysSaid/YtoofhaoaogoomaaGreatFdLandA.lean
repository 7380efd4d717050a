/- The landed finder: a filter, a cache and an index behind a block (written by gen/gen_fdland.py). No statement of the seat is proved here. -/
import Derived.Test.YtoofhaoaogoomaaGreatZLBA
import Derived.Test.YtoofhaoaogoomaaGreatZLAV
import Derived.Test.YtoofhaoaogoomaaGreatZLAO
import Derived.Test.YtoofhaoaogoomaaGreatZLBL
import Derived.Test.YtoofhaoaogoomaaGreatZLBP
namespace Go.Proofs.YtoofhaoaogoomaaGreat
open Go.RowKit
set_option linter.unusedVariables false
set_option linter.unusedSimpArgs false
set_option maxRecDepth 100000

theorem Cst.firm : Firm Cst := cachesOk.firm
theorem Ist.firm : Firm Ist := indexesOk.firm
/-- The landed finder in w: its block, and what it points to. -/
def Fst (w : World) (s : Addr) (F : Nat → Prop) (f : FS) : Prop := ∃ d a b c, s = ⟨d, 0, none⟩ ∧ Blk w d 79 #[.pointer (some c), .pointer (some a), .pointer (some b), .int .i64 (f.asked : Nat), .int .i64 (f.loads : Nat)] ∧
  Tri Rv Cst Ist w d F a b c ⟨f.n, f.p, f.S⟩ f.C f.L ∧ f.Ok
theorem Fst.firm : Firm Fst where
  lt := fun ⟨_, _, _, _, _, _, h, _⟩ => Tri.lt h
  keep := fun {w w'} {s F f} ⟨d, a, b, c, hs, h, ht, hok⟩ hk => by
    have hl := still_lt (Tri.lt ht) hk
    refine ⟨d, a, b, c, hs, h.same (hk d (Tri.own ht)), ?_, hok⟩
    obtain ⟨Fa, Fb, Fc, h1, h2, h3, h4, h5⟩ := ht
    exact ⟨Fa, Fb, Fc, h1, Rv.firm.keep h2 fun g hg => hk g (h1.a g hg), Cst.firm.keep h3 fun g hg => hk g (h1.b g hg), Ist.firm.keep h4 fun g hg => hk g (h1.c g hg), hl⟩
/-- The three and the finder's block. -/
structure LfT (w0 : World) (F0 : Nat → Prop) (d : Nat) (a b c : Addr) (w : World) (f : FS) : Prop where
  tri : TriT Rv Cst Ist w0 F0 d w a b c ⟨f.n, f.p, f.S⟩ f.C f.L
  blk : Blk w d 79 #[.pointer (some c), .pointer (some a), .pointer (some b), .int .i64 (f.asked : Nat), .int .i64 (f.loads : Nat)]
section
variable {w0 w w' wY w8 w9 : World} {F0 F : Nat → Prop} {d : Nat} {a b c : Addr} {f f' : FS}
theorem LfT.on (h : LfT w0 F0 d a b c w f) (hb : Below w.heap.size w w') : LfT w0 F0 d a b c w' f :=
  ⟨(h.tri.on Rv.firm Cst.firm Ist.firm hb).1, h.blk.below hb h.blk.lt⟩
theorem LfT.again (h : LfT w0 F0 d a b c w f) : ∃ F, (∀ g, F g → g < w.heap.size) ∧ F d ∧ (∀ W, Below w.heap.size w W → LfT W F d a b c W f) ∧ ∀ W, Below w.heap.size w W → ∀ w' f', LfT W F d a b c w' f' → LfT w0 F0 d a b c w' f' := by
  obtain ⟨F, h1, h2, h3⟩ := h.tri
  refine ⟨F, h1.lt, h1.own, fun W hb => ⟨TriT.start (Tri.keep Rv.firm Cst.firm Ist.firm h1 (fun g hg _ => hb.block g (h1.lt g hg)) hb.size), h.blk.below hb h.blk.lt⟩, fun W hb w' f' h' => ⟨?_, h'.blk⟩⟩
  obtain ⟨F', t1, t2, t3⟩ := h'.tri
  exact ⟨F', t1, fun g hg => (t2 g hg).elim (fun h => h2 g h) fun h => .inr (Nat.le_trans h3.size (Nat.le_trans hb.size h)), (h3.trans (Only.of_below (F := F) hb) h2).trans t3 h2⟩
theorem LfT.start {s : Addr} (h : Fst w s F f) : ∃ d a b c, s = ⟨d, 0, none⟩ ∧ LfT w F d a b c w f ∧ f.Ok := by
  obtain ⟨d, a, b, c, hs, hb, ht, hok⟩ := h
  exact ⟨d, a, b, c, hs, ⟨TriT.start ht, hb⟩, hok⟩
theorem LfT.fin (h : LfT w0 F0 d a b c w' f') (hok : f'.Ok) : Turned Fst w0 ⟨d, 0, none⟩ F0 w' f' := by
  obtain ⟨F, h1, h2, h3⟩ := h.tri
  exact ⟨F, ⟨d, a, b, c, rfl, h.blk, h1, hok⟩, h2, h3⟩
theorem LfT.same (ht : TriT Rv Cst Ist w0 F0 d w' a b c ⟨f'.n, f'.p, f'.S⟩ f'.C f'.L) (h : LfT w0 F0 d a b c w f) (hd : w'.heap[d]? = w.heap[d]?) (h1 : f'.asked = f.asked) (h2 : f'.loads = f.loads) : LfT w0 F0 d a b c w' f' :=
  ⟨ht, by rw [h1, h2]; exact h.blk.same hd⟩
theorem LfT.old {g : Nat} {t : TypeId} {cs : Array Value} (h : LfT w0 F0 d a b c w f) (hg : Blk w0 g t cs) (hF : ¬ F0 g) : Blk w g t cs := hg.same (h.tri.only.block g hg.lt hF)
theorem LfT.up (h : LfT w F d a b c w f) (hb : Below w.heap.size w w') : LfT w' F d a b c w' f := by
  obtain ⟨F', h1, h2, h3⟩ := h.tri
  exact ⟨⟨F', Tri.keep Rv.firm Cst.firm Ist.firm h1 (fun g hg _ => hb.block g (h1.lt g hg)) hb.size, fun g hg => (h2 g hg).elim .inl fun h => absurd (h1.lt g hg) (by omega), only_refl _ _⟩, h.blk.below hb h.blk.lt⟩
theorem LfT.cost (h : LfT w F d a b c w f) {x y : Nat} (hb : Blk w' d 79 #[.pointer (some c), .pointer (some a), .pointer (some b), .int .i64 (x : Nat), .int .i64 (y : Nat)]) (ho : w.grownBy w' (some d)) : LfT w' F d a b c w' ⟨f.n, f.p, f.S, f.C, f.L, x, y⟩ := by
  obtain ⟨F', h1, h2, h3⟩ := h.tri
  exact ⟨⟨F', Tri.keep Rv.firm Cst.firm Ist.firm h1 (fun g hg hne => ho.block g (h1.lt g hg) fun e => hne (by injection e)) ho.size, fun g hg => (h2 g hg).elim .inl fun h => absurd (h1.lt g hg) (by omega), only_refl _ _⟩, hb⟩
theorem LfT.own (h : LfT w F d a b c w f) : F d := by
  obtain ⟨F', h1, h2, h3⟩ := h.tri
  exact (h2 d h1.own).elim id fun hh => absurd (h1.lt d h1.own) (by omega)
theorem LfT.box {g : Nat} (h : LfT w F d a b c w f) (gr : w.grownBy w' (some g)) (hF : ¬ F g) : LfT w' F d a b c w' f := by
  have hown := h.own
  obtain ⟨F', h1, h2, h3⟩ := h.tri
  have hsub : ∀ x, F' x → F x := fun x hx => (h2 x hx).elim id fun hh => absurd (h1.lt x hx) (by omega)
  have hne : ∀ x, F' x → x ≠ g := fun x hx e => hF (e ▸ hsub x hx)
  exact ⟨⟨F', Tri.keep Rv.firm Cst.firm Ist.firm h1 (fun x hx _ => gr.block x (h1.lt x hx) fun e => hne x hx (by injection e)) gr.size, fun x hx => .inl (hsub x hx), only_refl _ _⟩, h.blk.same (gr.block d h.blk.lt fun e => hF (by injection e with e; exact e ▸ hown))⟩
theorem LfT.end_ (ho : Only F w wY) (h : LfT wY F d a b c w' f') (hok : f'.Ok) : Turned Fst w ⟨d, 0, none⟩ F w' f' := by
  obtain ⟨F', h1, h2, h3⟩ := h.tri
  exact ⟨F', ⟨d, a, b, c, rfl, h.blk, h1, hok⟩, fun g hg => (h2 g hg).imp id fun h => Nat.le_trans ho.size h, ho.trans h3 fun g hg => .inl hg⟩
theorem LfT.endw {g : Nat} (ho : Only F w wY) (h : LfT wY F d a b c w8 f') (hok : f'.Ok) (gr : w8.grownBy w9 (some g)) (h1 : w.heap.size ≤ g) (h2 : g < wY.heap.size) (hF : ¬ F g) : Turned Fst w ⟨d, 0, none⟩ F w9 f' := by
  obtain ⟨F', t1, t2, t3⟩ := h.tri
  have hg : ¬ F' g := fun hf => (t2 g hf).elim hF fun h => by omega
  have hd : d ≠ g := fun e => hg (e ▸ t1.own)
  refine ⟨F', ⟨d, a, b, c, rfl, h.blk.same (gr.block d h.blk.lt fun e => hd (by injection e)), Tri.keep Rv.firm Cst.firm Ist.firm t1 (fun x hx _ => gr.block x (t1.lt x hx) fun e => hg (by injection e with e; rw [← e]; exact hx)) gr.size, hok⟩, fun x hx => (t2 x hx).imp id fun h => Nat.le_trans ho.size h, (ho.trans t3 fun x hx => .inl hx).trans (grown_only (F := fun x => x = g) gr rfl) fun x hx => .inr (hx ▸ h1)⟩
theorem lt_xput (h : LfT w0 F0 d a b c w f) (hl : f.L.length ≤ 9000) (k : KeyT) (hk : k.Ok) (q : Int × Int) (hq : PlOk q) :
    Calls Tryz.prog 32 #[.pointer (some c), .agg (kcs k).toArray, pv q] w fun e w' => e = .returned (.bool (hasX f.L k)) ∧ LfT w0 F0 d a b c w' ⟨f.n, f.p, f.S, f.C, putX f.L k q, f.asked, f.loads⟩ :=
  (h.tri.call3 Rv.firm Cst.firm Ist.firm fun F hF _ => indexesOk.put c F f.L k q w hF (by omega) hk hq).mono fun e w' ⟨he, ht, hd⟩ => ⟨he, LfT.same ht h hd rfl rfl⟩
theorem lt_xdrop (h : LfT w0 F0 d a b c w f) (hl : f.L.length ≤ 9000) (k : KeyT) (hk : k.Ok) :
    Calls Tryz.prog 39 #[.pointer (some c), .agg (kcs k).toArray] w fun e w' => e = .returned (.bool (hasX f.L k)) ∧ LfT w0 F0 d a b c w' ⟨f.n, f.p, f.S, f.C, dropX f.L k, f.asked, f.loads⟩ :=
  (h.tri.call3 Rv.firm Cst.firm Ist.firm fun F hF _ => indexesOk.drop c F f.L k w hF (by omega) hk).mono fun e w' ⟨he, ht, hd⟩ => ⟨he, LfT.same ht h hd rfl rfl⟩
theorem lt_cdrop (h : LfT w0 F0 d a b c w f) (sh : Int) (hs : In64 sh) :
    Calls Tryz.prog 34 #[.pointer (some b), .int .i64 sh] w fun e w' => e = .returned (.bool (hasC f.C sh)) ∧ LfT w0 F0 d a b c w' ⟨f.n, f.p, f.S, dropC f.C sh, f.L, f.asked, f.loads⟩ :=
  (h.tri.call2 Rv.firm Cst.firm Ist.firm fun F hF _ => cachesOk.drop b F f.C sh w hF hs).mono fun e w' ⟨he, ht, hd⟩ => ⟨he, LfT.same ht h hd rfl rfl⟩
theorem lt_badd (h : LfT w0 F0 d a b c w f) (k : KeyT) (hk : k.Ok) :
    Calls Tryz.prog 33 #[.pointer (some a), .agg (kcs k).toArray] w fun e w' => (∃ y, e = .returned y) ∧ LfT w0 F0 d a b c w' ⟨f.n, f.p, putL f.S (spotsK f.n f.p k), f.C, f.L, f.asked, f.loads⟩ :=
  (h.tri.call1 Rv.firm Cst.firm Ist.firm fun F hF _ => rv_add hF k hk).mono fun e w' ⟨he, ht, hd⟩ => ⟨he, LfT.same ht h hd rfl rfl⟩
theorem lt_bclear (h : LfT w0 F0 d a b c w f) :
    Calls Tryz.prog 49 #[.pointer (some a)] w fun e w' => (∃ y, e = .returned y) ∧ LfT w0 F0 d a b c w' ⟨f.n, f.p, fun _ => false, f.C, f.L, f.asked, f.loads⟩ :=
  (h.tri.call1 Rv.firm Cst.firm Ist.firm fun F hF _ => rv_clear hF).mono fun e w' ⟨he, ht, hd⟩ => ⟨he, LfT.same (f' := ⟨f.n, f.p, fun _ => false, f.C, f.L, f.asked, f.loads⟩) ht h hd rfl rfl⟩
theorem lt_bor (h : LfT w0 F0 d a b c w f) (A : Option Addr) (l : List UInt8) (nb cp : Nat) (hb : l.length = nb) (hm : nb ≤ 9223372036854775807) (hr : Rd w w.heap.size A l) (hF : ∀ ad, A = some ad → 0 < nb → ad.block < w0.heap.size ∧ ¬ F0 ad.block) :
    Calls Tryz.prog 50 #[.pointer (some a), .slice A nb cp] w fun e w' => (∃ y, e = .returned y) ∧ LfT w0 F0 d a b c w' (blurF f l) :=
  (h.tri.call1 Rv.firm Cst.firm Ist.firm fun F hF2 hFG => rv_or hF2 A l nb cp hb hm hr fun ad e h0 hf => by
    have a1 := hF ad e h0
    rcases (hFG _ hf).2 with h | h
    · exact a1.2 h
    · have := a1.1; omega).mono fun e w' ⟨he, ht, hd⟩ => ⟨he, LfT.same (f' := blurF f l) ht h hd rfl rfl⟩
theorem lt_xget (h : LfT w0 F0 d a b c w f) (hl : f.L.length ≤ 9000) (k : KeyT) (hk : k.Ok) :
    Calls Tryz.prog 43 #[.pointer (some c), .agg (kcs k).toArray] w fun e w' => e = .returned (.tuple #[pv (getX f.L k), .bool (hasX f.L k)]) ∧ Below w.heap.size w w' := by
  obtain ⟨F, hF⟩ := h.tri.get3
  exact indexesOk.get c F f.L k w hF (by omega) hk
theorem lt_bmay (h : LfT w0 F0 d a b c w f) (k : KeyT) (hk : k.Ok) :
    Calls Tryz.prog 41 #[.pointer (some a), .agg (kcs k).toArray] w fun e w' => e = .returned (.bool (mayF f k)) ∧ Below w.heap.size w w' := by
  obtain ⟨F, hF⟩ := h.tri.get1
  exact rv_may hF k hk
theorem lt_cget (h : LfT w0 F0 d a b c w f) (k : KeyT) (hk : k.Ok) :
    Calls Tryz.prog 42 #[.pointer (some b), .agg (kcs k).toArray] w fun e w' => e = .returned (.tuple #[pv (getC f.C k), .bool (knowsC f.C k)]) ∧ Below w.heap.size w w' := by
  obtain ⟨F, hF⟩ := h.tri.get2
  exact cachesOk.get b F f.C k w hF hk
theorem lt_xshelf (h : LfT w0 F0 d a b c w f) (hl : f.L.length ≤ 9000) (at_ : Int) (ha : In64 at_) :
    Calls Tryz.prog 55 #[.pointer (some c), .int .i64 at_] w fun e w' => ∃ A' c', e = .returned (.slice A' (shelfX f.L at_).length c') ∧ RdRw w' w'.heap.size A' (shelfX f.L at_) ∧ (shelfX f.L at_).length ≤ c' ∧ c' ≤ maxLen ∧ (∀ ad, A' = some ad → w.heap.size ≤ ad.block) ∧ Below w.heap.size w w' := by
  obtain ⟨F, hF⟩ := h.tri.get3
  exact indexesOk.shelf c F f.L at_ w hF (by omega) ha
theorem lt_xtwins (h : LfT w0 F0 d a b c w f) (hl : f.L.length ≤ 9000) (D : List UInt8) (hD : D.length = 32) :
    Calls Tryz.prog 54 #[.pointer (some c), .agg (bv D).toArray] w fun e w' => ∃ A' c', e = .returned (.slice A' (twinsX f.L D).length c') ∧ RdK w' w'.heap.size A' (twinsX f.L D) ∧ (twinsX f.L D).length ≤ c' ∧ c' ≤ maxLen ∧ (∀ ad, A' = some ad → w.heap.size ≤ ad.block) ∧ Below w.heap.size w w' := by
  obtain ⟨F, hF⟩ := h.tri.get3
  exact indexesOk.twins c F f.L D w hF (by omega) hD
theorem lt_xall (h : LfT w0 F0 d a b c w f) (hl : f.L.length ≤ 9000) :
    Calls Tryz.prog 52 #[.pointer (some c)] w fun e w' => ∃ A' c', e = .returned (.slice A' f.L.length c') ∧ RdRw w' w'.heap.size A' f.L ∧ f.L.length ≤ c' ∧ c' ≤ maxLen ∧ (∀ ad, A' = some ad → w.heap.size ≤ ad.block) ∧ Below w.heap.size w w' := by
  obtain ⟨F, hF⟩ := h.tri.get3
  exact indexesOk.all c F f.L w hF (by omega)
theorem lt_xlen (h : LfT w0 F0 d a b c w f) (hl : f.L.length ≤ 9000) :
    Calls Tryz.prog 53 #[.pointer (some c)] w fun e w' => e = .returned (.int .i64 (f.L.length : Nat)) ∧ Below w.heap.size w w' := by
  obtain ⟨F, hF⟩ := h.tri.get3
  exact indexesOk.len c F f.L w hF (by omega)
theorem lt_cload (h : LfT w F d a b c w' f) (sh : Int) (hs : In64 sh) (Al : Option Addr) (ls : List RowT) (n cl dr : Nat) (hd : dr < 18446744073709551616) (hl : ls.length = n) (hc : n ≤ cl) (hm : cl ≤ maxLen) (hn : n ≤ 1000) (hr : RdRw w' w'.heap.size Al ls)
    (hF : ∀ G : Nat → Prop, (∀ g, G g → F g ∨ w.heap.size ≤ g) → (∀ g, G g → g < w'.heap.size) → ∀ ad, Al = some ad → 0 < n → ¬ G ad.block) :
    Calls Tryz.prog 44 #[.pointer (some b), .int .i64 sh, .slice Al n cl, .int .u64 dr] w' fun e w'' => e = .returned (.tuple #[]) ∧ LfT w F d a b c w'' ⟨f.n, f.p, f.S, loadC f.C sh ls dr, f.L, f.asked, f.loads⟩ :=
  (h.tri.call2 Rv.firm Cst.firm Ist.firm fun G hG hGF => cachesOk.load b G f.C sh Al ls n cl dr w' hG hs hd hl hc hm hn hr (hF G (fun g hg => (hGF g hg).2) (Cst.firm.lt hG))).mono fun e w'' ⟨he, ht, hd⟩ => ⟨he, LfT.same ht h hd rfl rfl⟩
end
end Go.Proofs.YtoofhaoaogoomaaGreat
