/- The landed cache: Load (written by gen/gen_cclande.py). No statement of the seat is proved here. -/
import Derived.Test.YtoofhaoaogoomaaGreatZLBN
import Derived.Test.YtoofhaoaogoomaaGreatZLAM
import Derived.Deep.RegionHeld
namespace Go.Proofs.YtoofhaoaogoomaaGreat
open Go Go.Maps Go.RowKit Go.ChangeMaps Go.MapKept
set_option linter.unusedVariables false
set_option linter.unusedSimpArgs false
set_option maxRecDepth 100000

section
variable {α : Type} {P : Program} {t e : TypeId} {sz : Nat} {g : α → List Value} {Q : α → Prop}
theorem wpList_append_gat (E : Elem P t e sz g Q) {ops : Array Oper} {rest : List Oper} {o : Oper} {a : Act} {w : World} {R : Exit → Act → World → Prop} (hgd : o.guard = none) (s x : Operand) (ho : o.op = .call { callee := .builtin .append, args := #[s, x], argTypes := #[t, t] })
    (base : Nat) (A0 : Option Addr) (c0 k0 : Nat) (l0 : List α) (h0 : l0.length = k0) (hs : a.eval s = .slice A0 k0 c0) (hown : OwnG e sz g w base A0 c0 l0) (B : Nat) (A : Option Addr) (c k : Nat) (l : List α) (hx : a.eval x = .slice A k c) (hk : l.length = k) (hk0 : 0 < k)
    (hr : RdS w B sz A (l.map g)) (hq : ∀ x ∈ l, Q x) (hl : k0 + k ≤ 1000000) (hbase : base ≤ w.heap.size)
    (h : ∀ A' c' w', OwnG e sz g w' base A' c' (l0 ++ l) → w.grownBy w' (Value.slice A0 k0 c0).ownBlock → ((Value.slice A' (k0 + k) c').ownBlock = (Value.slice A0 k0 c0).ownBlock ∨ (Value.slice A' (k0 + k) c').ownBlock = some w.heap.size) → wpList P ops R rest (a.put o.dst (.slice A' (k0 + k) c')) w') : wpList P ops R (o :: rest) a w :=
  wpList_plain hgd fun _ hK => wp_append_gat E s x ho base A0 c0 k0 l0 h0 hs hown B A c k l hx hk hk0 hr hq hl hbase fun A' c' w' h1 h2 h3 => hK _ _ (h A' c' w' h1 h2 h3)
end
section
variable {P : Program} {t k e : TypeId} {α β : Type} [DecidableEq α] {M : MK P t k e α β} (w : World) {o : Oper} {a : Act} {b : Nat} {L : List (α × β)}
/-- 'm[q] = c', in a region that draws. -/
theorem wp_put_g {K : Act → World → Prop} {R : Exit → Act → World → Prop} (m x v : Operand) (hop : o.op = Op.mapUpdate t m x v) (O : M.Ok) (hm : a.eval m = .map (some b)) (h : MapL M w b L) (hl : L.length < maxLen) (q : α) (hq : M.okK q) (hx : a.eval x = M.encK q)
    (c : β) (hv : a.eval v = M.encV c) (hK : ∀ w', MapL M w' b (putM L q c) → w.grownBy w' (some b) → w'.heap.size = w.heap.size → K (a.put o.dst undef) w') : Oper.wp P o a w K R := by
  obtain ⟨D, h1, h2⟩ := h
  obtain ⟨w', hrun, r1, r2⟩ := h1.store O.keyed O.und hl (O.key hq) (O.val c)
  unfold Oper.wp
  simp [execOp, hop, hm, hx, hv, hrun, Result.andThen]
  refine hK w' (MapL.mk' O r1 (h2.put O h1.isMap hq c)) r2.grown ?_
  obtain ⟨_, _, _, _, _, rfl⟩ := r2
  simp [setBlock]
end
theorem rdrw_onlyC {w0 w : World} {N : Nat → Prop} {A : Option Addr} {ls : List RowT} (h : Only N w0 w) (hr : RdRw w0 w0.heap.size A ls) (ho : ∀ ad, A = some ad → 0 < ls.length → ¬ N ad.block) : RdRw w w0.heap.size A ls :=
  ⟨fun h0 => by
    obtain ⟨g, off, e, hg, hc⟩ := hr.rows h0
    exact ⟨g, off, e, hg, fun j hj i v hv => (World.cell?_of_block (h.block g hg (ho _ e (by simpa using h0)))).trans (hc j hj i v hv)⟩, hr.each⟩
section
variable {wx wc wz we wf : World} {g bt c m c' : Nat} {A A' : Option Addr} {U : List UT} {S : CS} {sh : Int} {ls : List RowT}
/-- Behind the append. -/
theorem cload_mid (h : CstB wx g bt A c U S) (hm : (shelvesC S).length = m) (hg : (wx.alloc (.cells #[.int .i64 sh] 3)).grownBy wc (Value.slice A m c).ownBlock) :
    Blk wc g 100 #[.int .i64 (S.room : Nat), .slice A m c, .map (some bt)] ∧ (∀ x, CstF g bt A U x → (∀ ad, A = some ad → ad.block ≠ x) → wc.heap[x]? = wx.heap[x]?) ∧ Only (CstF g bt A U) wx wc := by
  subst hm
  obtain ⟨q1, q2, q3⟩ := h.other
  have hb : Below wx.heap.size wx (wx.alloc (.cells #[.int .i64 sh] 3)) := (Below.refl _ _).alloc (Nat.le_refl _) _
  have hk : ∀ x, x < wx.heap.size → (∀ ad, A = some ad → ad.block ≠ x) → wc.heap[x]? = wx.heap[x]? := fun x hx hne => (hg.block x (Nat.lt_of_lt_of_le hx hb.size) fun e => by
    obtain ⟨ad, e1, e2⟩ := own_adr _ e.symm
    exact hne ad e1 e2).trans (hb.block x hx)
  refine ⟨h.blk.same (hk g h.blk.lt fun ad e => (q2 ad e).1), fun x hx hne => hk x (h.lt x hx) hne, only_trans (Only.of_below hb) ⟨hg.os, hg.tape, hg.output, hg.size, fun x hx hn => hg.block x hx fun e => ?_⟩⟩
  obtain ⟨ad, e1, e2⟩ := own_adr _ e.symm
  exact hn (.inr (.inr (.inl ⟨ad, e1, e2⟩)))
theorem cload_cells (h : CstB wx g bt A c U S) (hm : (shelvesC S).length = m) (hg : (wx.alloc (.cells #[.int .i64 sh] 3)).grownBy wc (Value.slice A m c).ownBlock) (v : Value) (hz : (wc.setCell ⟨g, 1, none⟩ v).grownBy wz none) :
    wz.cell? ⟨g, 2, none⟩ = some (.map (some bt)) ∧ MapL mkOT wz bt (tm (ut U)) ∧ Blk wz g 100 #[.int .i64 (S.room : Nat), v, .map (some bt)] ∧ (∀ u ∈ U, wz.heap[u.2]? = wx.heap[u.2]?) ∧ Only (CstF g bt A U) wx wz ∧ (∀ x, x < wx.heap.size → x < wz.heap.size) := by
  obtain ⟨h1, h2, h3⟩ := cload_mid h hm hg
  obtain ⟨q1, q2, q3⟩ := h.other
  have g3 := grown_cell wc g 1 v
  have hs : wc.heap.size ≤ wz.heap.size := Nat.le_trans g3.size hz.size
  have hk : ∀ x, x < wc.heap.size → x ≠ g → wz.heap[x]? = wc.heap[x]? := fun x hx hne => (hz.block x (Nat.lt_of_lt_of_le hx g3.size) (by simp)).trans (g3.block x hx fun e => hne (by injection e))
  have hb : Blk wz g 100 #[.int .i64 (S.room : Nat), v, .map (some bt)] := by
    have := (h1.set_ 1 v).same (hz.block g (Nat.lt_of_lt_of_le h1.lt g3.size) (by simp))
    simpa using this
  have lt : ∀ x, CstF g bt A U x → x < wc.heap.size := fun x hx => Nat.lt_of_lt_of_le (h.lt x hx) h3.size
  refine ⟨hb.cell 2, h.tabs.blk ((hk bt (lt bt (.inr (.inl rfl))) fun e => q1 e.symm).trans (h2 bt (.inr (.inl rfl)) fun ad e => (q2 ad e).2.1)), hb, fun u hu => ?_, ?_, fun x hx => Nat.lt_of_lt_of_le hx (Nat.le_trans h3.size hs)⟩
  · have hm : u.2 ∈ U.map (·.2) := List.mem_map.2 ⟨u, hu, rfl⟩
    exact (hk u.2 (lt _ (.inr (.inr (.inr hm)))) fun e => q3 (e ▸ hm)).trans (h2 u.2 (.inr (.inr (.inr hm))) fun ad e e2 => (q2 ad e).2.2 (e2 ▸ hm))
  · refine only_trans (only_trans h3 (only_grown g3 (.inl rfl))) ⟨hz.os, hz.tape, hz.output, hz.size, fun x hx _ => hz.block x hx (by simp)⟩
/-- Behind all. -/
theorem cload_fin {L : List (KeyT × (Int × Int))} (h : CstB wx g bt A c U S) (hm : (shelvesC S).length = m) (h0 : hasC S sh = false) (hok : CS.Ok ⟨S.room, S.t ++ [(sh, ls)]⟩) (hg : (wx.alloc (.cells #[.int .i64 sh] 3)).grownBy wc (Value.slice A m c).ownBlock)
    (ho : OwnG 3 1 i1 wc 0 A' c' (shelvesC S ++ [sh])) (hat : (Value.slice A' (m + 1) c').ownBlock = (Value.slice A m c).ownBlock ∨ (Value.slice A' (m + 1) c').ownBlock = some (wx.alloc (.cells #[.int .i64 sh] 3)).heap.size)
    (hz : (wc.setCell ⟨g, 1, none⟩ (.slice A' (m + 1) c')).grownBy wz none) (he : MapL mkPT we wz.heap.size L) (hf : Firsts L ls) (hb : Below wz.heap.size wz we)
    (hp : MapL mkOT wf bt (putM (tm (ut U)) sh (some wz.heap.size))) (hgf : we.grownBy wf (some bt)) :
    CstB wf g bt A' c' (U ++ [((sh, ls), wz.heap.size)]) ⟨S.room, S.t ++ [(sh, ls)]⟩ ∧ (∀ x, CstF g bt A' (U ++ [((sh, ls), wz.heap.size)]) x → CstF g bt A U x ∨ wx.heap.size ≤ x) ∧ Only (CstF g bt A U) wx wf := by
  obtain ⟨c1, c2, c3, c4, c5, c6⟩ := cload_cells h hm hg _ hz
  obtain ⟨q1, q2, q3⟩ := h.other
  have lt := h.lt
  have wzs : wx.heap.size ≤ wz.heap.size := c5.size
  have hk : ∀ x, x < wz.heap.size → x ≠ bt → wf.heap[x]? = wz.heap[x]? := fun x hx hne => (hgf.block x (Nat.lt_of_lt_of_le hx hb.size) fun e => hne (by injection e)).trans (hb.block x hx)
  have hA' : ∀ ad, A' = some ad → (∃ a2, A = some a2 ∧ a2.block = ad.block) ∨ wx.heap.size ≤ ad.block := fun ad e => by
    subst e
    have e9 : (Value.slice (some ad) (m + 1) c').ownBlock = some ad.block := rfl
    rcases hat with h | h
    · rw [e9] at h
      obtain ⟨a2, e1, e2⟩ := own_adr _ h.symm
      exact .inl ⟨a2, e1, e2⟩
    · rw [e9] at h
      injection h with h
      rw [h]
      exact .inr (by simp)
  have hln : (shelvesC S ++ [sh]).length = m + 1 := by rw [List.length_append, hm]; rfl
  have esh : shelvesC ⟨S.room, S.t ++ [(sh, ls)]⟩ = shelvesC S ++ [sh] := by unfold shelvesC; rw [List.map_append]; rfl
  have hAw : ∀ ad, A' = some ad → ad.block < wc.heap.size ∧ ad.block ≠ g := fun ad e => by
    refine ⟨(ho.adr ad e).2, fun e2 => ?_⟩
    subst e
    have e9 : (Value.slice (some ad) (shelvesC S ++ [sh]).length c').ownBlock = some ad.block := rfl
    obtain ⟨cur, hc⟩ := ho.kind e9
    obtain ⟨b1, _, _⟩ := cload_mid h hm hg
    exact blk_other hc b1 (by decide) e2
  have g3 := grown_cell wc g 1 (.slice A' (m + 1) c')
  have ho3 : OwnG 3 1 i1 wz 0 A' c' (shelvesC S ++ [sh]) := ho.same fun ad e => (hz.block _ (Nat.lt_of_lt_of_le (hAw ad e).1 g3.size) (by simp)).trans (g3.block _ (hAw ad e).1 fun e2 => (hAw ad e).2 (by injection e2))
  have hAz : ∀ ad, A' = some ad → ad.block < wz.heap.size ∧ ad.block ≠ bt := fun ad e => by
    refine ⟨(ho3.adr ad e).2, fun e2 => ?_⟩
    subst e
    have e9 : (Value.slice (some ad) (shelvesC S ++ [sh]).length c').ownBlock = some ad.block := rfl
    obtain ⟨cur, hc⟩ := ho3.kind e9
    exact map_ne_blk c2 hc e2.symm
  refine ⟨⟨?_, ?_, ?_, ?_, ?_, ?_, ?_, hok⟩, ?_, ?_⟩
  · rw [List.map_append, h.rows]; rfl
  · rw [esh, hln]
    exact c3.same (hk g c3.lt q1)
  · rw [esh]
    exact ho3.same fun ad e => hk _ (hAz ad e).1 (hAz ad e).2
  · have hd : delM (tm (ut U)) sh = tm (ut U) := by
      unfold delM
      refine List.filter_eq_self.2 fun y hy => ?_
      have hn : hasM (tm (ut U)) sh = false := by rw [h.has]; exact h0
      have : y.1 ≠ sh := fun e => hasM_false.1 hn y.2 (by rw [← e]; exact hy)
      simpa using this
    refine hp.perm ?_
    unfold putM
    rw [hd]
    have e2 : tm (ut (U ++ [((sh, ls), wz.heap.size)])) = tm (ut U) ++ [(sh, some wz.heap.size)] := by unfold tm ut; simp
    rw [e2]
    exact (List.perm_append_singleton _ _).symm
  · intro u hu
    rcases List.mem_append.1 hu with hu | hu
    · obtain ⟨L1, h1, h2⟩ := h.each u hu
      have hum : u.2 ∈ U.map (·.2) := List.mem_map.2 ⟨u, hu, rfl⟩
      exact ⟨L1, h1.blk ((hk u.2 (c6 _ h1.lt) fun e => h.far (e ▸ hum)).trans (c4 u hu)), h2⟩
    · rw [List.mem_singleton.1 hu]
      exact ⟨L, he.blk (hgf.block _ he.lt fun e => by injection e with e; have := lt bt (.inr (.inl rfl)); omega), hf⟩
  · rw [List.map_append, List.nodup_append]
    refine ⟨h.apart, by simp, fun a ha b hb2 e => ?_⟩
    have hb3 : b = wz.heap.size := by simpa using hb2
    have := lt a (.inr (.inr (.inr ha)))
    omega
  · rw [List.map_append, List.mem_append, not_or]
    refine ⟨h.far, fun hm2 => ?_⟩
    have hb3 : bt = wz.heap.size := by simpa using hm2
    have := lt bt (.inr (.inl rfl))
    omega
  · rintro x (rfl | rfl | ⟨ad, e, rfl⟩ | hx)
    · exact .inl (.inl rfl)
    · exact .inl (.inr (.inl rfl))
    · rcases hA' ad e with ⟨a2, e1, e2⟩ | h2
      · exact .inl (.inr (.inr (.inl ⟨a2, e1, e2⟩)))
      · exact .inr h2
    · rw [List.map_append, List.mem_append] at hx
      rcases hx with hx | hx
      · exact .inl (.inr (.inr (.inr hx)))
      · have hb3 : x = wz.heap.size := by simpa using hx
        exact .inr (by omega)
  · exact only_trans (c5.trans (Only.of_below (F := CstF g bt A U) hb) fun x hx => .inl hx) (only_grown hgf (.inr (.inl rfl)))
end
theorem grown_drew (w : World) : w.grownBy w.drew none := ⟨rfl, rfl, rfl, Nat.le_refl _, fun _ _ _ => rfl⟩
set_option maxHeartbeats 8000000 in
theorem cload_any (s : Addr) (F : Nat → Prop) (S : CS) (sh : Int) (Al : Option Addr) (ls : List RowT) (n cl draw : Nat) (w : World) (h : Cst w s F S) (hs : In64 sh) (hd : draw < 18446744073709551616) (hl : ls.length = n) (hc : n ≤ cl) (hm : cl ≤ maxLen) (hn : n ≤ 1000) (hr : RdRw w w.heap.size Al ls) (ho : ∀ ad, Al = some ad → 0 < n → ¬ F ad.block) :
    Calls Tryz.prog 44 #[.pointer (some s), .int .i64 sh, .slice Al n cl, .int .u64 draw] w fun e w' => e = .returned (.tuple #[]) ∧ Turned Cst w s F w' (loadC S sh ls draw) := by
  have hokl := h.ok.load hs (ls := ls) ⟨by omega, fun r hr' => ⟨(hr.each r hr').key, (hr.each r hr').shelf, (hr.each r hr').slot⟩⟩ draw
  have HT := Lib.hid (Turned.refl h)
  obtain ⟨g, bt, A, c, U, rfl, hF, hi⟩ := h
  obtain ⟨l1, l2, l3, l4, l5⟩ := hi.len
  have hr4 : S.room ≤ 4096 := hi.ok.room
  have hlr : S.t.length ≤ S.room := hi.ok.len
  obtain ⟨room, hrm⟩ : ∃ room, S.room = room := ⟨_, rfl⟩
  obtain ⟨m, hmm⟩ : ∃ m, (shelvesC S).length = m := ⟨_, rfl⟩
  have c0 : w.cell? ⟨g, 0, none⟩ = some (.int .i64 (room : Nat)) := by rw [← hrm]; exact hi.blk.cell 0
  have c1 : w.cell? ⟨g, 1, none⟩ = some (.slice A m c) := by rw [← hmm]; exact hi.blk.cell 1
  rw [hmm] at l1 l4
  rw [hrm] at hr4 hlr
  by_cases h0 : room = 0
  · have he : loadC S sh ls draw = S := by unfold loadC; rw [if_pos (.inl (by rw [hrm]; exact h0))]
    rw [he]
    subst h0
    clear hi hokl hr ho he hF l1 l2 l3 l4 l5 hrm hmm hr4 hlr
    go_enter Tryz.func44, Tryz.ntmps44
    go_wp2_with fail
    refine bodyPost_ret (results_none rfl _ _ _) rfl ?_
    exact ⟨rfl, HT.out⟩
  · have h0i : ¬ (room : Int) = 0 := by omega
    have CH := Lib.hid (chas_b w g bt c A U S hi sh hs)
    by_cases hh : hasC S sh = true
    · have he : loadC S sh ls draw = S := loadC_had hh ls draw
      rw [he]
      rw [hh] at CH
      clear hi hokl hr ho he hF l1 l2 l3 l4 l5 hrm hmm hr4 hlr
      go_enter Tryz.func44, Tryz.ntmps44
      go_wp2_with (go_at_call 60; (with_reducible refine CH.out.mono ?_); rintro _ w9 ⟨rfl, hw9⟩; obtain rfl : w = w9 := hw9.symm)
      refine bodyPost_ret (results_none rfl _ _ _) rfl ?_
      exact ⟨rfl, HT.out⟩
    · have hh : hasC S sh = false := by simpa using hh
      rw [hh] at CH
      have hS0 : S.room ≠ 0 := by rw [hrm]; exact h0
      have HNO := Lib.hid hh
      have HRD := Lib.hid (And.intro hr ho)
      have HL := Lib.hid (And.intro hl (And.intro hc (And.intro hm hn)))
      have HF := Lib.hid hF
      have HI := Lib.hid hi
      have HMM := Lib.hid (And.intro hmm hrm)
      have hmr : m ≤ room := by omega
      have hm4 : m ≤ 4096 := by omega
      by_cases hfull : m = room
      · obtain rfl : room = m := hfull.symm
        obtain ⟨k, hkk⟩ : ∃ k, draw % room = k := ⟨_, rfl⟩
        have hkm : k < room := by rw [← hkk]; exact Nat.mod_lt _ (by omega)
        have hrem : (draw : Int) % (room : Int) = (k : Int) := by rw [← hkk]; exact (Int.natCast_emod draw room).symm
        have CR := Lib.hid (remove_b w g bt c A U S hi k (by omega))
        have hleq : loadC S sh ls draw = ⟨S.room, S.t.eraseIdx k ++ [(sh, ls)]⟩ := by
          rw [loadC_new hS0 hh, if_pos (by omega), ← l1, hkk]
        rw [hleq] at hokl ⊢
        have HOK := Lib.hid hokl
        have HN2 := Lib.hid (show hasC ⟨S.room, S.t.eraseIdx k⟩ sh = false from by
          rw [Bool.eq_false_iff]
          intro h1
          rw [hasC_iff] at h1
          have : sh ∈ shelvesC S := ((List.eraseIdx_sublist _ _).map _).subset h1
          rw [← hasC_iff] at this
          rw [hh] at this
          cases this)
        have HL2 := Lib.hid (show (shelvesC ⟨S.room, S.t.eraseIdx k⟩).length = room - 1 from by
          rw [shelves_len]
          show (S.t.eraseIdx k).length = _
          rw [List.length_eraseIdx, if_pos (by omega), ← l1])
        have HF1 := Lib.hid (show ∀ x, CstF g bt A (U.eraseIdx k) x → F x from fun x hx => (hF x).2 (by
          rcases hx with h | h | h | h
          · exact .inl h
          · exact .inr (.inl h)
          · exact .inr (.inr (.inl h))
          · exact .inr (.inr (.inr (((List.eraseIdx_sublist _ _).map _).subset h)))))
        have ck : IntKind.i64.wrap (k : Int) = (k : Int) := by rw [IntKind.wrap_i64]; omega
        have cm : IntKind.u64.wrap (room : Int) = (room : Int) := by rw [IntKind.wrap_u64]; omega
        have hk0 : (0 : Int) ≤ (k : Int) := by omega
        have hk9 : (k : Int) < 4096 := by omega
        have hr9 : (room : Int) ≤ 4096 := by omega
        clear hi hokl hleq hr ho hF l1 l2 l3 l4 l5 hrm hmm hlr hkk hS0 hh hl hc hm hn hmr hm4
        go_enter Tryz.func44, Tryz.ntmps44
        go_upto_region 4 with (first
          | (go_at_call 60; (with_reducible refine CH.out.mono ?_); rintro _ w9 ⟨rfl, hw9⟩; obtain rfl : w = w9 := hw9.symm)
          | (go_at_call 61; (with_reducible refine CR.out.mono ?_); rintro _ wx ⟨rfl, hx1, hx2⟩; have HX := Lib.hid (And.intro hx1 hx2); clear hx1 hx2))
        have HB := Lib.hid HX.out.1
        have HON := Lib.hid (show Only F w wx from ⟨HX.out.2.os, HX.out.2.tape, HX.out.2.output, HX.out.2.size, fun x hx hn => HX.out.2.block x hx fun e => hn ((HF.out x).2 e)⟩)
        clear CH CR HX c0 c1
        obtain ⟨m1, hm1⟩ : ∃ m1, room - 1 = m1 := ⟨_, rfl⟩
        rw [hm1] at HL2
        have hm4 : m1 ≤ 4096 := by omega
        have cx1 : wx.cell? ⟨g, 1, none⟩ = some (.slice A m1 c) := by
          have := HB.out.blk.cell 1
          rw [HL2.out] at this
          exact this
        have HO := Lib.hid (show OwnG 3 1 i1 (wx.alloc (.cells #[.int .i64 sh] 3)) 0 A c (shelvesC ⟨S.room, S.t.eraseIdx k⟩) from HB.out.order.on ((Below.refl _ _).alloc (Nat.le_refl _) _))
        have HRI := Lib.hid (rds_int wx sh)
        have hm4i : (m1 : Int) ≤ 4096 := by omega
        go_upto_region 5 with (at_builtin; refine wpList_append_gat intE rfl (.tmp 45) (.tmp 47) rfl 0 A c m1 (shelvesC ⟨S.room, S.t.eraseIdx k⟩) HL2.out rfl HO.out _ (some ⟨wx.heap.size, 0, none⟩) 1 1 [sh] rfl rfl (by omega) HRI.out (fun _ _ => trivial) (by omega) (Nat.zero_le _) ?_; intro A2 c2 wc a1 a2 a3; have HC := Lib.hid (And.intro a1 (And.intro a2 a3)); obtain ⟨b1, b2, b3⟩ := cload_mid HB.out HL2.out a2; have cw1 : wc.cell? ⟨g, 1, none⟩ = some (.slice A m1 c) := b1.cell 1; have fw1 : wc.frozen? ⟨g, 1, none⟩ = false := b1.frozen 1; clear a1 a2 a3 b1 b2 b3 cx1)
        obtain ⟨v, hv⟩ : ∃ v, Value.slice A2 (m1 + 1) c2 = v := ⟨_, rfl⟩
        have HV := Lib.hid hv
        obtain ⟨wd, hwd⟩ : ∃ wd, wc.setCell ⟨g, 1, none⟩ (.slice A2 (m1 + 1) c2) = wd := ⟨_, rfl⟩
        have HWD := Lib.hid hwd
        have HZ := Lib.hid (show (wc.setCell ⟨g, 1, none⟩ (.slice A2 (m1 + 1) c2)).grownBy wd.drew none from hwd ▸ grown_drew _)
        obtain ⟨z1, z2, z3, z4, z5, z6⟩ := cload_cells HB.out HL2.out HC.out.2.1 _ HZ.out
        have HCEL := Lib.hid z1
        have HTB := Lib.hid z2
        have HCT := Lib.hid (table_any wd.drew Al cl n ls HL.out.1 HL.out.2.2.2 (by
          have h1 := rdrw_onlyC (N := F) (HON.out.trans z5 fun x hx => .inl (HF1.out x hx)) HRD.out.1 fun ad e h0 => HRD.out.2 ad e (by rw [← HL.out.1]; exact h0)
          exact h1.more (Nat.le_trans HON.out.size z5.size)) HL.out.2.1 HL.out.2.2.1)
        have HBT := Lib.hid (show bt < wd.drew.heap.size ∧ g < wd.drew.heap.size ∧ g ≠ bt from ⟨z2.lt, z3.lt, HB.out.other.1⟩)
        have HTL := Lib.hid (show (tm (ut (U.eraseIdx k))).length < maxLen from by
          have := HB.out.len
          unfold tm ut
          rw [List.length_map, List.length_map]
          unfold maxLen
          omega)
        clear z1 z2 z3 z4 z5 z6 cw1 fw1 hv
        simp only [hwd]
        clear hwd
        refine wp_region_held_drew (S := fun W => W.cell? ⟨g, 2, none⟩ = some (.map (some bt))) (by kernel_rfl) HCEL.out (fun hHeld => ?_)
        clear hHeld
        generalize wd.drew = wz at *
        refine wpAnyH_take (i := 0) (oi := _) (v := .pointer (some ⟨g, 0, none⟩)) rfl (by kernel_rfl) (by kernel_rfl) (by kernel_rfl) (fun _ _ _ h => h) (Or.inl ⟨by rfl, by intro w hSw; go_simp⟩) HCEL.out ?_
        simp only [List.getElem_toArray, List.getElem_cons_zero, List.getElem_cons_succ, Act.put, List.setIfInBounds_toArray, List.set_cons_zero, List.set_cons_succ]
        refine wpAnyH_take (i := 1) (oi := _) (v := .pointer (some ⟨g, 0, none⟩)) rfl (by kernel_rfl) (by kernel_rfl) (by kernel_rfl) (fun _ _ _ h => h) (Or.inl ⟨by rfl, by intro w hSw; go_simp⟩) HCEL.out ?_
        simp only [List.getElem_toArray, List.getElem_cons_zero, List.getElem_cons_succ, Act.put, List.setIfInBounds_toArray, List.set_cons_zero, List.set_cons_succ]
        refine wpAnyH_take (i := 2) (oi := _) (v := .pointer (some ⟨g, 2, none⟩)) rfl (by kernel_rfl) (by kernel_rfl) (by kernel_rfl) (fun _ _ _ h => h) (Or.inl ⟨by rfl, by intro w hSw; go_simp⟩) HCEL.out ?_
        simp only [List.getElem_toArray, List.getElem_cons_zero, List.getElem_cons_succ, Act.put, List.setIfInBounds_toArray, List.set_cons_zero, List.set_cons_succ]
        refine wpAnyH_take (i := 3) (oi := _) (v := .map (some bt)) rfl (by kernel_rfl) (by kernel_rfl) (by kernel_rfl) (fun _ _ _ h => h) (Or.inl ⟨by rfl, by intro w hSw; go_simp⟩) HCEL.out ?_
        simp only [List.getElem_toArray, List.getElem_cons_zero, List.getElem_cons_succ, Act.put, List.setIfInBounds_toArray, List.set_cons_zero, List.set_cons_succ]
        refine wpAnyH_take (i := 4) (oi := _) (v := .int .i64 sh) rfl (by kernel_rfl) (by kernel_rfl) (by kernel_rfl) (fun _ _ _ h => h) (Or.inl ⟨by rfl, by intro w hSw; go_simp⟩) HCEL.out ?_
        simp only [List.getElem_toArray, List.getElem_cons_zero, List.getElem_cons_succ, Act.put, List.setIfInBounds_toArray, List.set_cons_zero, List.set_cons_succ]
        refine wpAnyH_take (i := 5) (oi := _) (v := .slice Al n cl) rfl (by kernel_rfl) (by kernel_rfl) (by kernel_rfl) (fun _ _ _ h => h) (Or.inl ⟨by rfl, by intro w hSw; go_simp⟩) HCEL.out ?_
        simp only [List.getElem_toArray, List.getElem_cons_zero, List.getElem_cons_succ, Act.put, List.setIfInBounds_toArray, List.set_cons_zero, List.set_cons_succ]
        refine wpAnyH_ready (rs := [6]) (by kernel_rfl) (by simp) ?_
        refine AllReadyH.cons rfl (fun K hK => ?_) AllReadyH.nil
        go_simp
        (with_reducible refine HCT.out.mono ?_)
        rintro e we ⟨L, rfl, t1, t2, t3⟩
        have hcw : we.cell? ⟨g, 2, none⟩ = some (.map (some bt)) := (t3.cell (p := ⟨g, 2, none⟩) HBT.out.2.1).trans HCEL.out
        have HE := Lib.hid (And.intro t1 (And.intro t2 t3))
        have HTE := Lib.hid (show MapL mkOT we bt (tm (ut (U.eraseIdx k))) from HTB.out.blk (t3.block bt HBT.out.1))
        clear t1 t2 t3
        go_wp2_with fail
        refine hK.out _ _ hcw (fun _ => ?_)
        clear hK K
        try simp only [List.getElem_toArray, List.getElem_cons_zero, List.getElem_cons_succ, Act.put, List.setIfInBounds_toArray, List.set_cons_zero, List.set_cons_succ]
        refine wpAnyH_ready (rs := [7]) (by kernel_rfl) (by simp) ?_
        refine AllReadyH.cons rfl (fun K hK => ?_) AllReadyH.nil
        refine wp_put_g we (.tmp 54) (.tmp 55) (.tmp 57) rfl okOT rfl HTE.out HTL.out sh hs rfl (some wz.heap.size) rfl ?_
        intro wf p1 p2 p3
        have hcf : wf.cell? ⟨g, 2, none⟩ = some (.map (some bt)) := (World.cell?_of_block (p2.block g (Nat.lt_of_lt_of_le HBT.out.2.1 HE.out.2.2.size) fun e => HBT.out.2.2 (by injection e))).trans hcw
        have HP := Lib.hid (And.intro p1 p2)
        clear p1 p2 p3
        refine hK.out _ _ hcf (fun _ => ?_)
        clear hK K
        try simp only [List.getElem_toArray, List.getElem_cons_zero, List.getElem_cons_succ, Act.put, List.setIfInBounds_toArray, List.set_cons_zero, List.set_cons_succ]
        refine wpAnyH_done (by kernel_rfl) ?_ _
        (try simp only [Exit.inBlock, Exit.then])
        refine bodyPost_end (results_none rfl _ _ _) rfl ?_
        obtain ⟨f1, f2, f3⟩ := cload_fin HB.out HL2.out HN2.out HOK.out HC.out.2.1 HC.out.1 HC.out.2.2 HZ.out HE.out.1 HE.out.2.1 HE.out.2.2 HP.out.1 HP.out.2
        refine ⟨rfl, _, ⟨g, bt, A2, c2, _, rfl, fun x => Iff.rfl, f1⟩, fun x hx => ?_, ?_⟩
        · rcases f2 x hx with h | h
          · exact .inl (HF1.out x h)
          · exact .inr (Nat.le_trans HON.out.size h)
        · exact HON.out.trans f3 fun x hx => .inl (HF1.out x hx)
      · have hleq : loadC S sh ls draw = ⟨S.room, S.t ++ [(sh, ls)]⟩ := by
          rw [loadC_new hS0 hh, if_neg (by omega)]
        rw [hleq] at hokl ⊢
        have HOK := Lib.hid hokl
        have HN2 := HNO
        have HL2 := Lib.hid hmm
        have HF1 := Lib.hid (show ∀ x, CstF g bt A U x → F x from fun x hx => (hF x).2 hx)
        have hmne : ¬ (m : Int) = (room : Int) := by omega
        have hm9 : (m : Int) ≤ 4096 := by omega
        clear hi hokl hleq hr ho hF l1 l2 l3 l4 l5 hrm hmm hlr hS0 hh hl hc hm hn hmr
        go_enter Tryz.func44, Tryz.ntmps44
        go_upto_region 4 with (go_at_call 60; (with_reducible refine CH.out.mono ?_); rintro _ w9 ⟨rfl, hw9⟩; obtain rfl : w = w9 := hw9.symm)
        have HB := HI
        have HON := Lib.hid (only_refl F w)
        clear CH c0 c1
        have cx1 : w.cell? ⟨g, 1, none⟩ = some (.slice A m c) := by
          have := HB.out.blk.cell 1
          rw [HL2.out] at this
          exact this
        have HO := Lib.hid (show OwnG 3 1 i1 (w.alloc (.cells #[.int .i64 sh] 3)) 0 A c (shelvesC S) from HB.out.order.on ((Below.refl _ _).alloc (Nat.le_refl _) _))
        have HRI := Lib.hid (rds_int w sh)
        have hm4i : (m : Int) ≤ 4096 := by omega
        go_upto_region 5 with (at_builtin; refine wpList_append_gat intE rfl (.tmp 45) (.tmp 47) rfl 0 A c m (shelvesC S) HL2.out rfl HO.out _ (some ⟨w.heap.size, 0, none⟩) 1 1 [sh] rfl rfl (by omega) HRI.out (fun _ _ => trivial) (by omega) (Nat.zero_le _) ?_; intro A2 c2 wc a1 a2 a3; have HC := Lib.hid (And.intro a1 (And.intro a2 a3)); obtain ⟨b1, b2, b3⟩ := cload_mid HB.out HL2.out a2; have cw1 : wc.cell? ⟨g, 1, none⟩ = some (.slice A m c) := b1.cell 1; have fw1 : wc.frozen? ⟨g, 1, none⟩ = false := b1.frozen 1; clear a1 a2 a3 b1 b2 b3 cx1)
        obtain ⟨v, hv⟩ : ∃ v, Value.slice A2 (m + 1) c2 = v := ⟨_, rfl⟩
        have HV := Lib.hid hv
        obtain ⟨wd, hwd⟩ : ∃ wd, wc.setCell ⟨g, 1, none⟩ (.slice A2 (m + 1) c2) = wd := ⟨_, rfl⟩
        have HWD := Lib.hid hwd
        have HZ := Lib.hid (show (wc.setCell ⟨g, 1, none⟩ (.slice A2 (m + 1) c2)).grownBy wd.drew none from hwd ▸ grown_drew _)
        obtain ⟨z1, z2, z3, z4, z5, z6⟩ := cload_cells HB.out HL2.out HC.out.2.1 _ HZ.out
        have HCEL := Lib.hid z1
        have HTB := Lib.hid z2
        have HCT := Lib.hid (table_any wd.drew Al cl n ls HL.out.1 HL.out.2.2.2 (by
          have h1 := rdrw_onlyC (N := F) (HON.out.trans z5 fun x hx => .inl (HF1.out x hx)) HRD.out.1 fun ad e h0 => HRD.out.2 ad e (by rw [← HL.out.1]; exact h0)
          exact h1.more (Nat.le_trans HON.out.size z5.size)) HL.out.2.1 HL.out.2.2.1)
        have HBT := Lib.hid (show bt < wd.drew.heap.size ∧ g < wd.drew.heap.size ∧ g ≠ bt from ⟨z2.lt, z3.lt, HB.out.other.1⟩)
        have HTL := Lib.hid (show (tm (ut U)).length < maxLen from by
          have := HB.out.len
          unfold tm ut
          rw [List.length_map, List.length_map]
          unfold maxLen
          omega)
        clear z1 z2 z3 z4 z5 z6 cw1 fw1 hv
        simp only [hwd]
        clear hwd
        refine wp_region_held_drew (S := fun W => W.cell? ⟨g, 2, none⟩ = some (.map (some bt))) (by kernel_rfl) HCEL.out (fun hHeld => ?_)
        clear hHeld
        generalize wd.drew = wz at *
        refine wpAnyH_take (i := 0) (oi := _) (v := .pointer (some ⟨g, 0, none⟩)) rfl (by kernel_rfl) (by kernel_rfl) (by kernel_rfl) (fun _ _ _ h => h) (Or.inl ⟨by rfl, by intro w hSw; go_simp⟩) HCEL.out ?_
        simp only [List.getElem_toArray, List.getElem_cons_zero, List.getElem_cons_succ, Act.put, List.setIfInBounds_toArray, List.set_cons_zero, List.set_cons_succ]
        refine wpAnyH_take (i := 1) (oi := _) (v := .pointer (some ⟨g, 0, none⟩)) rfl (by kernel_rfl) (by kernel_rfl) (by kernel_rfl) (fun _ _ _ h => h) (Or.inl ⟨by rfl, by intro w hSw; go_simp⟩) HCEL.out ?_
        simp only [List.getElem_toArray, List.getElem_cons_zero, List.getElem_cons_succ, Act.put, List.setIfInBounds_toArray, List.set_cons_zero, List.set_cons_succ]
        refine wpAnyH_take (i := 2) (oi := _) (v := .pointer (some ⟨g, 2, none⟩)) rfl (by kernel_rfl) (by kernel_rfl) (by kernel_rfl) (fun _ _ _ h => h) (Or.inl ⟨by rfl, by intro w hSw; go_simp⟩) HCEL.out ?_
        simp only [List.getElem_toArray, List.getElem_cons_zero, List.getElem_cons_succ, Act.put, List.setIfInBounds_toArray, List.set_cons_zero, List.set_cons_succ]
        refine wpAnyH_take (i := 3) (oi := _) (v := .map (some bt)) rfl (by kernel_rfl) (by kernel_rfl) (by kernel_rfl) (fun _ _ _ h => h) (Or.inl ⟨by rfl, by intro w hSw; go_simp⟩) HCEL.out ?_
        simp only [List.getElem_toArray, List.getElem_cons_zero, List.getElem_cons_succ, Act.put, List.setIfInBounds_toArray, List.set_cons_zero, List.set_cons_succ]
        refine wpAnyH_take (i := 4) (oi := _) (v := .int .i64 sh) rfl (by kernel_rfl) (by kernel_rfl) (by kernel_rfl) (fun _ _ _ h => h) (Or.inl ⟨by rfl, by intro w hSw; go_simp⟩) HCEL.out ?_
        simp only [List.getElem_toArray, List.getElem_cons_zero, List.getElem_cons_succ, Act.put, List.setIfInBounds_toArray, List.set_cons_zero, List.set_cons_succ]
        refine wpAnyH_take (i := 5) (oi := _) (v := .slice Al n cl) rfl (by kernel_rfl) (by kernel_rfl) (by kernel_rfl) (fun _ _ _ h => h) (Or.inl ⟨by rfl, by intro w hSw; go_simp⟩) HCEL.out ?_
        simp only [List.getElem_toArray, List.getElem_cons_zero, List.getElem_cons_succ, Act.put, List.setIfInBounds_toArray, List.set_cons_zero, List.set_cons_succ]
        refine wpAnyH_ready (rs := [6]) (by kernel_rfl) (by simp) ?_
        refine AllReadyH.cons rfl (fun K hK => ?_) AllReadyH.nil
        go_simp
        (with_reducible refine HCT.out.mono ?_)
        rintro e we ⟨L, rfl, t1, t2, t3⟩
        have hcw : we.cell? ⟨g, 2, none⟩ = some (.map (some bt)) := (t3.cell (p := ⟨g, 2, none⟩) HBT.out.2.1).trans HCEL.out
        have HE := Lib.hid (And.intro t1 (And.intro t2 t3))
        have HTE := Lib.hid (show MapL mkOT we bt (tm (ut U)) from HTB.out.blk (t3.block bt HBT.out.1))
        clear t1 t2 t3
        go_wp2_with fail
        refine hK.out _ _ hcw (fun _ => ?_)
        clear hK K
        try simp only [List.getElem_toArray, List.getElem_cons_zero, List.getElem_cons_succ, Act.put, List.setIfInBounds_toArray, List.set_cons_zero, List.set_cons_succ]
        refine wpAnyH_ready (rs := [7]) (by kernel_rfl) (by simp) ?_
        refine AllReadyH.cons rfl (fun K hK => ?_) AllReadyH.nil
        refine wp_put_g we (.tmp 54) (.tmp 55) (.tmp 57) rfl okOT rfl HTE.out HTL.out sh hs rfl (some wz.heap.size) rfl ?_
        intro wf p1 p2 p3
        have hcf : wf.cell? ⟨g, 2, none⟩ = some (.map (some bt)) := (World.cell?_of_block (p2.block g (Nat.lt_of_lt_of_le HBT.out.2.1 HE.out.2.2.size) fun e => HBT.out.2.2 (by injection e))).trans hcw
        have HP := Lib.hid (And.intro p1 p2)
        clear p1 p2 p3
        refine hK.out _ _ hcf (fun _ => ?_)
        clear hK K
        try simp only [List.getElem_toArray, List.getElem_cons_zero, List.getElem_cons_succ, Act.put, List.setIfInBounds_toArray, List.set_cons_zero, List.set_cons_succ]
        refine wpAnyH_done (by kernel_rfl) ?_ _
        (try simp only [Exit.inBlock, Exit.then])
        refine bodyPost_end (results_none rfl _ _ _) rfl ?_
        obtain ⟨f1, f2, f3⟩ := cload_fin HB.out HL2.out HN2.out HOK.out HC.out.2.1 HC.out.1 HC.out.2.2 HZ.out HE.out.1 HE.out.2.1 HE.out.2.2 HP.out.1 HP.out.2
        refine ⟨rfl, _, ⟨g, bt, A2, c2, _, rfl, fun x => Iff.rfl, f1⟩, fun x hx => ?_, ?_⟩
        · rcases f2 x hx with h | h
          · exact .inl (HF1.out x h)
          · exact .inr (Nat.le_trans HON.out.size h)
        · exact HON.out.trans f3 fun x hx => .inl (HF1.out x hx)
end Go.Proofs.YtoofhaoaogoomaaGreat
