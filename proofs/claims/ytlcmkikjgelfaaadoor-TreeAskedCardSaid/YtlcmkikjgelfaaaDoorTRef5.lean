/-
  The document's Apply. Conditions: the tree is one, in memory, of at most a thousand nodes and steps; names of at most a thousand bytes.
-/
import Derived.Test.YtlcmkikjgelfaaaDoorTRef4
namespace Go.Proofs.YtlcmkikjgelfaaaDoor
open Go.RowKit Go.Maps
set_option linter.unusedVariables false
set_option linter.unusedSimpArgs false
set_option maxRecDepth 100000

def RapRel (w w1 : World) (g : Nat) (vL vW : Value) (vs : List Value) (L : List Kd) (r : List (List Kd)) (o : O5) (fs : List Nat) (wx : World) : Prop :=
  ∃ gx cx, Rm wx g vL (.slice (some ⟨gx, 0, none⟩) (vs.length + 1) cx) (vL :: vs) L (L :: r) ∧ wx.heap[w.heap.size]? = some (.cells #[.int .i64 o.n, .int .i64 o.r, .int .i64 o.d, .int .i64 o.t, .string (bs o.l)] 37 (0, 0)) ∧ Mod fs w wx ∧ (vW.ownBlock = some gx ∨ gx = w1.heap.size + 1)
theorem rap_end {w w1 w2 : World} {g : Nat} {vL vW : Value} {vs : List Value} {L : List Kd} {r : List (List Kd)} {o : O5} {fs : List Nat} {gx cx : Nat} {ob : Obj}
    (hT : Rm w1 g vL vW vs L r) (hX : w1.heap[w.heap.size]? = some (.cells #[.int .i64 o.n, .int .i64 o.r, .int .i64 o.d, .int .i64 o.t, .string (bs o.l)] 37 (0, 0))) (hM : Mod fs w w1) (hfs : fs = g :: vW.ownBlock.toList) (hlt : ∀ k ∈ fs, k < w.heap.size)
    (hown : w2.ownsRow 0 29 1 (.slice (some ⟨gx, 0, none⟩) (vs.length + 1) cx) (vs.length + 1) (vs.reverse ++ [vL])) (hgr : (w1.alloc ob).drew.grownBy w2 vW.ownBlock) (hat : vW.ownBlock = some gx ∨ gx = w1.heap.size + 1) :
    RapRel w w1 g vL vW vs L r o fs (w2.setCell ⟨g, 1, none⟩ (.slice (some ⟨gx, 0, none⟩) (vs.length + 1) cx)) := by
  have lw : w.heap.size < w1.heap.size := (Array.getElem?_eq_some_iff.1 hX).1
  have lg := hT.rl.lt
  have hgs := hlt g (by rw [hfs]; simp)
  have M2 : Mod fs w1 w2 := (((Mod.refl fs w1).alloc ob).drew).trans (fs' := vW.ownBlock.toList) (Mod.of_grown hgr (fun k hk => by rw [hk]; simp)) (fun k hk => .inl (by rw [hfs]; simp [hk]))
  have MX : Mod fs w1 (w2.setCell ⟨g, 1, none⟩ (.slice (some ⟨gx, 0, none⟩) (vs.length + 1) cx)) := M2.setCell (.inl (by rw [hfs]; simp)) _
  have hgW : vW.ownBlock ≠ some g := by
    intro e
    obtain ⟨cu, hcu⟩ := hT.row.block e
    rw [hT.rl.blk] at hcu
    simp at hcu
  have hb2 : w2.heap[g]? = some (.cells #[vL, vW] 32 (0, 0)) :=
    ((hgr.block g (by show g < (w1.alloc ob).heap.size; simp; omega) (fun e => hgW e.symm)).trans (Below.heap_alloc w1 _ g lg)).trans hT.rl.blk
  have hgx : gx ≠ g := by
    rintro rfl
    rcases hown.2 with ⟨e, _⟩ | ⟨g', cap, cur, e, _, h3, _⟩
    · cases e
    · cases e
      rw [hb2] at h3
      simp at h3
  rw [hfs] at MX
  have hk := fun v ks h => hT.kids MX v ks h
  refine ⟨gx, cx, ⟨⟨?_, hk _ _ hT.rl.lst⟩, ?_, hk _ _ hT.rl.lst, hT.was.kept hk⟩, ?_, ?_, hat⟩
  · exact block_set1 hb2
  · show World.ownsRow _ 0 29 1 _ (vs.length + 1) (vL :: vs).reverse
    rw [List.reverse_cons]
    refine ⟨hown.1, ?_⟩
    rcases hown.2 with ⟨e, _⟩ | ⟨g', cap, cur, e, h2, h3, h4⟩
    · cases e
    · cases e
      exact .inr ⟨gx, cx, cur, rfl, h2, (Below.heap_setCell w2 _ _ gx (by show gx ≠ g; exact hgx)).trans h3, h4⟩
  · rw [MX.block _ lw (fun hkk => by have := hlt _ (by rw [hfs]; exact hkk); omega)]
    exact hX
  · rw [← hfs] at MX
    exact hM.trans MX (fun k hk => .inl hk)
theorem news_one (w : World) (v : Value) (t : TypeId) : ∀ j u, [v][j]? = some u → (w.alloc (.cells #[v] t)).cell? ((⟨w.heap.size, 0, none⟩ : Addr).add j) = some u := by
  intro j u hu
  rw [Addr.add_lit, Nat.zero_add, cell_of_row _ w.heap.size j _ _ (0, 0) (heap_alloc_new w _)]
  simpa using hu
theorem block_set0 {w : World} {g : Nat} {a b c : Value} {t : TypeId} (h : w.heap[g]? = some (.cells #[a, b] t (0, 0))) : (w.setCell ⟨g, 0, none⟩ c).heap[g]? = some (.cells #[c, b] t (0, 0)) := by
  have := Joins.block_setCell (i := 0) h c
  simpa using this
/-- Another list is put in. -/
theorem Rm.set_list {w : World} {g : Nat} {vL vW v' : Value} {vs : List Value} {L M : List Kd} {r : List (List Kd)} (h : Rm w g vL vW vs L r) (hk : OwnKids w 0 v' M) : Rm (w.setCell ⟨g, 0, none⟩ v') g v' vW vs M r := by
  have hm : Mod (g :: vW.ownBlock.toList) w (w.setCell ⟨g, 0, none⟩ v') := (Mod.refl _ _).setCell (.inl (by simp)) _
  refine ⟨⟨block_set0 h.rl.blk, h.kids hm _ _ hk⟩, h.row.kept fun b hb => Below.heap_setCell _ _ _ _ ?_, h.was.kept (h.kids hm)⟩
  show b ≠ g
  rintro rfl
  obtain ⟨cu, hcu⟩ := h.row.block hb
  rw [h.rl.blk] at hcu
  simp at hcu
def RfRel (w : World) (L : List Kd) (n : Int) (v i : Value) (wr : World) : Prop :=
  ∃ k : Nat, k ≤ L.length ∧ i = .int .i64 (k : Int) ∧ OwnKids wr w.heap.size v ((L.take k).filter fun x => x.nd != n) ∧ Below w.heap.size w wr
set_option maxHeartbeats 4000000 in
theorem rapply_right (g : Nat) (vL vW : Value) (vs : List Value) (L : List Kd) (r : List (List Kd)) (o : O5) (hl : o.l.length ≤ 1000) (hR : o.R = true) (hL : L.length ≤ 900) (hr : vs.length ≤ 900) (w : World) (h : Rm w g vL vW vs L r) :
    Calls Tryd.prog 17 #[.pointer (some ⟨g, 0, none⟩), opv o.n o.r o.d o.t o.l] w (RmRet (.bool (can L o)) g (app L o) (L :: r) (g :: vW.ownBlock.toList) w) := by
  have K := hide (orefRight_any o.n o.r o.d o.t o.l (w.alloc (.cells #[.int .i64 o.n, .int .i64 o.r, .int .i64 o.d, .int .i64 o.t, .string (bs o.l)] 37)) hl)
  have e : opR o.n o.r o.d o.t o.l = true := hR
  rw [e] at K
  clear e
  obtain ⟨fs, hfs⟩ : ∃ fs, fs = g :: vW.ownBlock.toList := ⟨_, rfl⟩
  rw [← hfs]
  have HFS := hide hfs
  have HBX := hide (heap_alloc_new w (.cells #[.int .i64 o.n, .int .i64 o.r, .int .i64 o.d, .int .i64 o.t, .string (bs o.l)] 37))
  have Bz := (Below.refl w.heap.size w).alloc (Nat.le_refl _) (.cells #[.int .i64 o.n, .int .i64 o.r, .int .i64 o.d, .int .i64 o.t, .string (bs o.l)] 37)
  have HT0 := hide (h.below Bz)
  have HLT := hide (show ∀ k ∈ fs, k < w.heap.size by rw [hfs]; exact h.lt)
  have HB0 := hide Bz
  have sz1 : w.heap.size < (w.alloc (.cells #[.int .i64 o.n, .int .i64 o.r, .int .i64 o.d, .int .i64 o.t, .string (bs o.l)] 37)).heap.size := by simp
  clear Bz h hR hfs
  unfold opv at K ⊢
  go_enter Tryd.func17, Tryd.ntmps17
  go_wp2_with fail
  refine K.out.mono ?_
  rintro e w1 ⟨rfl, hb⟩
  have HX1 := hide ((hb.block _ sz1).trans HBX.out)
  have HT := hide (HT0.out.below hb)
  have HM := hide (Mod.of_below (fs := fs) (HB0.out.trans (hb.mono (Nat.le_of_lt sz1))))
  clear hb HBX HT0 HB0 K sz1
  have c0 := HT.out.rl.cell0
  have c1 := HT.out.rl.cell1
  have f1 := Joins.unfrozen_of_block HT.out.rl.blk 1
  have lg := HT.out.rl.lt
  obtain ⟨A, c, rfl, k1, k2, k3⟩ := HT.out.rl.lst.kids
  clear k1 k2 k3
  obtain ⟨i0, hi0, hz0, hz1, hz2⟩ := info_parts slinfo
  have HP := hide (show w1.drew.ownsRow 0 29 1 vW vs.length vs.reverse from HT.out.row.kept (fun _ _ => rfl))
  have HNW := hide (news_one w1.drew (.slice A L.length c) 29)
  have HXS := hide (show ([Value.slice A L.length c] : List Value).length = 1 * 1 from rfl)
  have HX2 := hide (show ∀ u ∈ [Value.slice A L.length c], u.oneCell' = true by simp [Value.oneCell'])
  have c1a := (HT.out.below ((Below.refl _ _).alloc (Nat.le_refl _) (.cells #[.slice A L.length c] 29))).rl.cell1
  have c0a := (HT.out.below ((Below.refl _ _).alloc (Nat.le_refl _) (.cells #[.slice A L.length c] 29))).rl.cell0
  have KE := hide (fun w2 gx cx => rap_end (o := o) (w := w) (w2 := w2) (gx := gx) (cx := cx) (ob := .cells #[.slice A L.length c] 29) HT.out HX1.out HM.out HFS.out HLT.out)
  have HBG := hide HT.out.rl.blk
  have NX := hide (show ∀ b, vW.ownBlock = some b → b ≠ g from fun b hb e => by
    subst e
    obtain ⟨cu, hcu⟩ := HT.out.row.block hb
    rw [HT.out.rl.blk] at hcu
    simp at hcu)
  go_upto_region 4 with (fail)
  go_cut [4] (fun s4 wx => s4 = .bool false ∧ RapRel w w1 g (.slice A L.length c) vW vs L r o fs wx)
  case first =>
    go_region_law (refine step_append_lies _ (by rfl) _ _ _ (by rfl) 0 29 i0 _ 1 24 Tryd.underlying30 hi0 hz0 hz1 hz2 rfl (by omega) vW vs.length vs.reverse (by rfl) (HP.out.alloc _) ⟨w1.heap.size, 0, none⟩ 1 1 [.slice A L.length c] (by rfl) HXS.out HNW.out HX2.out (by omega) (by simp only [maxLen]; omega) (by omega) (Nat.zero_le _) (w1.heap.size + 1) (by simp) ?_
                   intro gx cx w2 hown2 hgrow2 hat2 hlt2
                   have hg2 := ((hgrow2.block g (by simp; omega) (fun e => NX.out g e.symm rfl)).trans (Below.heap_alloc w1 _ g lg)).trans HBG.out
                   have k1 := cell_of_row _ _ 1 _ _ (0, 0) hg2
                   have fk := Joins.unfrozen_of_block hg2 1
                   simp at k1
                   have HE := hide (KE.out w2 gx cx hown2 hgrow2 hat2)
                   clear hg2 hown2 hat2 hgrow2)
    all_goals
      go_wp2_with fail
      go_meet
      exact ⟨rfl, HE.out⟩
  case rest =>
    obtain ⟨rfl, gx, cx, T3, X3, M3, A3⟩ := hcut
    clear c0 c1 f1 HP HNW HXS HX2 hi0 hz0 hz1 hz2 c1a c0a KE HBG NX
    rename World => wc
    have HT3 := hide T3
    have HM3 := hide M3
    have HX3 := hide X3
    have HA := hide (show ∀ k ∈ g :: (Value.slice (some ⟨gx, 0, none⟩) (vs.length + 1) cx).ownBlock.toList, k ∈ fs ∨ w.heap.size ≤ k from fun k hk => by
      have lw : w.heap.size < w1.heap.size := (Array.getElem?_eq_some_iff.1 HX1.out).1
      rcases List.mem_cons.1 hk with rfl | hk
      · exact .inl (by rw [HFS.out]; simp)
      · have e : k = gx := by simpa [Value.ownBlock] using hk
        subst e
        rcases A3 with h | h
        · exact .inl (by rw [HFS.out]; simp [h])
        · exact .inr (by omega))
    have KN := hide (rknown_any g _ _ L o.t (by omega) wc T3.rl)
    have KA := hide (rabove_any g _ _ L o.d o.t (by omega) wc T3.rl)
    have lx : w.heap.size < wc.heap.size := (Array.getElem?_eq_some_iff.1 X3).1
    have y2 := cell_of_row _ _ 2 _ _ (0, 0) X3
    have y3 := cell_of_row _ _ 3 _ _ (0, 0) X3
    simp at y2 y3
    clear T3 X3 M3 A3 HX1 HT HM lg
    go_wp2_with fail
    refine KN.out.mono ?_
    rintro e w4 ⟨rfl, hw⟩
    subst hw
    go_wp2_with fail
    refine KA.out.mono ?_
    rintro e w5 ⟨rfl, hw⟩
    subst hw
    clear KN KA
    cases hc : can L o with
    | false =>
      have EC := hide hc
      have EA := hide (show app L o = L by unfold app; rw [hc]; simp)
      have hkb : isKn L o.t = false ∨ abv L o.d o.t = true := by
        unfold can at hc
        cases h1 : isKn L o.t with
        | false => exact .inl rfl
        | true => rw [h1] at hc; exact .inr (by simpa using hc)
      clear hc
      cases h1 : isKn L o.t with
      | false =>
        generalize abv L o.d o.t = bb
        clear h1 hkb
        go_wp2
        go_ret
        exact ⟨by rw [EC.out]; rfl, _, _, _, by rw [EA.out]; exact HT3.out, HM3.out, HA.out⟩
      | true =>
        have h2 : abv L o.d o.t = true := by
          rcases hkb with h | h
          · rw [h1] at h; cases h
          · exact h
        rw [h2]
        clear h1 h2 hkb
        go_wp2
        go_ret
        exact ⟨by rw [EC.out]; rfl, _, _, _, by rw [EA.out]; exact HT3.out, HM3.out, HA.out⟩
    | true =>
      have EC := hide hc
      obtain ⟨h1, h2⟩ := can_t hc
      have EA := hide (show app L o = L.filter (fun k => k.nd != o.d) ++ [o.kd] by unfold app; rw [hc]; simp [putS])
      rw [h1, h2]
      clear hc h1 h2
      obtain ⟨A9, c9, he, h1, h2, h3⟩ := HT3.out.rl.lst.kids
      cases he
      have H3 := hide h3
      unfold maxLen at h2
      clear h3
      go_wp2_with fail
      go_loopw [8, 9] (RfRel w5 L o.d) (fun _ i _ => L.length - (intOf i).toNat)
      case atStart => exact ⟨0, Nat.zero_le _, rfl, OwnKids.nil _ _, Below.refl _ _⟩
      case round =>
        rename World => wi
        obtain ⟨k, hk, rfl, ho, hb⟩ := hrel
        have O := hide ho
        have B := hide hb
        have sz := hb.size
        have TI := hide (HT3.out.below hb)
        have d0 := TI.out.rl.cell0
        have XI := (hb.block _ lx).trans HX3.out
        have z2 := cell_of_row _ _ 2 _ _ (0, 0) XI
        have z3 := cell_of_row _ _ 3 _ _ (0, 0) XI
        have z4 := cell_of_row _ _ 4 _ _ (0, 0) XI
        simp at z2 z3 z4
        clear ho hb XI y2 y3
        by_cases hlt : k < L.length
        · obtain ⟨b, oo, rfl, hat⟩ := H3.out (by omega)
          obtain ⟨r0, r1, r2⟩ := (hat.below B.out).three k hlt
          have i1 : (k : Int) < (L.length : Int) := by omega
          have i0 : (0 : Int) ≤ (k : Int) := by omega
          have FS := hide (show (L.take (k + 1)).filter (fun x => x.nd != o.d) = (L.take k).filter (fun x => x.nd != o.d) ++ (if L[k].nd = o.d then [] else [L[k]]) by
            rw [List.take_succ_eq_append_getElem hlt, List.filter_append]
            congr 1
            by_cases e : L[k].nd = o.d
            · simp [e]
            · simp [e])
          have hfl : ((L.take k).filter fun x => x.nd != o.d).length ≤ 1000000 := Nat.le_trans (List.length_filter_le _ _) (by rw [List.length_take]; omega)
          generalize L[k] = x at r0 r1 r2 FS
          generalize (L.take k).filter (fun x => x.nd != o.d) = qs at O FS hfl
          clear hat
          by_cases hx : x.nd = o.d
          · have hx1 : (x.nd != o.d) = false := by simp [hx]
            have hx2 : (x.nd == o.d) = true := by simp [hx]
            have FE := hide (show (L.take (k + 1)).filter (fun x => x.nd != o.d) = qs by rw [FS.out, if_pos hx, List.append_nil])
            clear hx FS
            go_wp2_with fail
            go_region
            go_wp2_with fail
            go_roundw
            case rel => exact ⟨k + 1, by omega, by go_num, by rw [FE.out]; exact O.out.below ((Below.refl _ _).drew), B.out.drew⟩
            case measure => simp [intOf]; omega
          · have hx1 : (x.nd != o.d) = true := by simp [hx]
            have hx2 : (x.nd == o.d) = false := by simp [hx]
            have FE := hide (show (L.take (k + 1)).filter (fun x => x.nd != o.d) = qs ++ [x] by rw [FS.out, if_neg hx])
            clear hx FS
            go_wp2_with fail
            go_region
            have OD := hide (O.out.below (Below.refl wi.heap.size wi).drew)
            have BD := hide B.out.drew
            have TD := (TI.out.below (Below.refl wi.heap.size wi).drew).rl.cell0
            have e0 : wi.drew.cell? ⟨b, oo + k * 3, none⟩ = _ := r0
            have e1 : wi.drew.cell? ⟨b, oo + k * 3 + 1, none⟩ = _ := r1
            have e2 : wi.drew.cell? ⟨b, oo + k * 3 + 2, none⟩ = _ := r2
            have szd : w5.heap.size ≤ wi.drew.heap.size := sz
            clear O B TI d0 z2 z3 z4 r0 r1 r2 sz hx1 hx2
            generalize wi.drew = wd at OD BD TD e0 e1 e2 szd ⊢
            have Bz := (Below.refl wd.heap.size wd).alloc (Nat.le_refl _) (.cells #[.int .i64 x.to, .string (bs x.nm), .int .i64 x.nd] 56)
            have O2 := hide (OD.out.below Bz)
            have B2 := hide (BD.out.trans (Bz.mono szd))
            have N2 := hide (kid_new wd x)
            have lz := Bz.size
            clear Bz OD
            go_wp2_with (at_builtin; refine wpList_append_kid _ rfl _ _ rfl w5.heap.size _ qs rfl O2.out ⟨wd.heap.size, 0, none⟩ 1 x rfl N2.out (by omega) (by omega) ?_)
            intro v6 w6 hown6 hg6 hat6
            have O6 := hide hown6
            have B6 := hide (B2.out.grown hg6 (by omega) (fun k hk => (O2.out.lt hk).1))
            clear hown6 hg6 hat6 O2 B2 N2 e0 e1 e2 TD
            go_wp2_with fail
            go_roundw
            case rel => exact ⟨k + 1, by omega, by go_num, by rw [FE.out]; exact O6.out, B6.out⟩
            case measure => simp [intOf]; omega
        · obtain rfl : k = L.length := by omega
          have O1 := O.out
          rw [List.take_length] at O1
          have hfl : (L.filter fun x => x.nd != o.d).length ≤ 1000000 := Nat.le_trans (List.length_filter_le _ _) (by omega)
          have Bz := (Below.refl wi.heap.size wi).alloc (Nat.le_refl _) (.cells #[.int .i64 o.t, .string (bs o.l), .int .i64 o.d] 56)
          have O2 := hide (O1.below Bz)
          have B2 := hide (B.out.trans (Bz.mono sz))
          have N2 := hide (kid_new wi o.kd)
          have lz := Bz.size
          clear Bz O O1
          go_wp2_with (at_builtin; refine wpList_append_kid _ rfl _ _ rfl w5.heap.size _ (L.filter fun x => x.nd != o.d) rfl O2.out ⟨wi.heap.size, 0, none⟩ 1 o.kd rfl N2.out hfl (by omega) ?_)
          intro v6 w6 hown6 hg6 hat6
          rw [← EA.out] at hown6
          obtain ⟨A6, c6, rfl, _, _, _⟩ := hown6.form
          have O6 := hide (hown6.base (Nat.zero_le _))
          have B6 := hide (B2.out.grown hg6 (by omega) (fun k hk => (O2.out.lt hk).1))
          have T6 := hide (HT3.out.below B6.out)
          have x0 := T6.out.rl.cell0
          have fz := Joins.unfrozen_of_block T6.out.rl.blk 0
          have TF := hide (T6.out.set_list O6.out)
          have MF := hide ((HM3.out.trans (fs' := []) (Mod.of_below B6.out) (by simp)).setCell (p := ⟨g, 0, none⟩) (.inl (by rw [HFS.out]; simp)) (.slice A6 (app L o).length c6))
          clear hown6 hg6 hat6 O2 B2 N2 d0 z2 z3 z4
          go_wp2
          go_ret
          exact ⟨by rw [EC.out]; rfl, _, _, _, TF.out, MF.out, HA.out⟩
end Go.Proofs.YtlcmkikjgelfaaaDoor
