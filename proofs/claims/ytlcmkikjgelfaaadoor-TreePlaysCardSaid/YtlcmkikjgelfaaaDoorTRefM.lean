/-
  The document's tree in memory, whole: its list, and a row of all that it was; Apply. Conditions: the tree is one, in memory, of at most a thousand nodes and steps; names of at most a thousand bytes.
  The document's Apply. Conditions: the tree is one, in memory, of at most a thousand nodes and steps; names of at most a thousand bytes.
  The document's tree to which operations are applied, in order. Conditions: at most five hundred operations, names of at most a thousand bytes.
  The document's Undo. Conditions: the tree is one, in memory, of at most a thousand steps.
  The program's tree and the document's, side by side at one state: what is done to one leaves the other. Conditions: both are trees, in memory, their blocks apart.
  Undo as a step of a state, for the program's tree and the document's. Conditions: at most nine hundred steps are remembered.
-/
import Derived.Test.YtlcmkikjgelfaaaDoorTRef3
import Derived.Test.YtlcmkikjgelfaaaDoorORef
import Derived.Maps.AppendAt
import Derived.Deep.RegionLaw
import Derived.Deep.DeepCutAuto
import Derived.Deep.AppendLies
namespace Go.Proofs.YtlcmkikjgelfaaaDoor
open Go.RowKit Go.Maps
set_option linter.unusedVariables false
set_option linter.unusedSimpArgs false
set_option maxRecDepth 100000

/-- Rows that read as lists. -/
def Wl (w : World) : List Value → List (List Kd) → Prop
  | [], [] => True
  | v :: vs, l :: r => OwnKids w 0 v l ∧ Wl w vs r
  | _, _ => False
theorem Wl.len {w : World} : ∀ {vs : List Value} {r : List (List Kd)}, Wl w vs r → vs.length = r.length
  | [], [], _ => rfl
  | v :: vs, l :: r, h => by simp [Wl.len h.2]
  | [], _ :: _, h => h.elim
  | _ :: _, [], h => h.elim
theorem Wl.kept {w w' : World} : ∀ {vs : List Value} {r : List (List Kd)}, Wl w vs r → (∀ v ks, OwnKids w 0 v ks → OwnKids w' 0 v ks) → Wl w' vs r
  | [], [], _, _ => trivial
  | v :: vs, l :: r, h, hk => ⟨hk v l h.1, Wl.kept h.2 hk⟩
  | [], _ :: _, h, _ => h.elim
  | _ :: _, [], h, _ => h.elim
theorem Wl.one {w : World} : ∀ {vs : List Value} {r : List (List Kd)}, Wl w vs r → ∀ v ∈ vs, v.oneCell' = true
  | [], [], _, v, hv => by simp at hv
  | x :: vs, l :: r, h, v, hv => by
    rcases List.mem_cons.1 hv with rfl | hv
    · obtain ⟨A, c, rfl, _⟩ := h.1.form
      rfl
    · exact Wl.one h.2 v hv
  | [], _ :: _, h, _, _ => h.elim
  | _ :: _, [], h, _, _ => h.elim
/-- The row of what was. -/
def Wr (w : World) (vW : Value) (vs : List Value) : Prop := w.ownsRow 0 29 1 vW vs.length vs.reverse
/-- The document's tree, whole. -/
structure Rm (w : World) (g : Nat) (vL vW : Value) (vs : List Value) (L : List Kd) (r : List (List Kd)) : Prop where
  rl : Rl w g vL vW L
  row : Wr w vW vs
  was : Wl w vs r
theorem Wr.block {w : World} {vW : Value} {vs : List Value} (h : Wr w vW vs) {b : Nat} (hb : vW.ownBlock = some b) : ∃ cur, w.heap[b]? = some (.cells cur 29 (0, 0)) := by
  rcases h.2 with ⟨rfl, _⟩ | ⟨g, cap, cur, rfl, _, h3, _⟩
  · cases hb
  · cases hb; exact ⟨cur, h3⟩
theorem Wr.kept {w w' : World} {vW : Value} {vs : List Value} (h : Wr w vW vs) (hk : ∀ b, vW.ownBlock = some b → w'.heap[b]? = w.heap[b]?) : Wr w' vW vs := by
  refine ⟨h.1, ?_⟩
  rcases h.2 with h0 | ⟨g, cap, cur, rfl, h2, h3, h4⟩
  · exact .inl h0
  · exact .inr ⟨g, cap, cur, rfl, h2, (hk g rfl).trans h3, h4⟩
theorem OwnKids.block {w : World} {base : Nat} {v : Value} {ks : List Kd} (h : OwnKids w base v ks) {b : Nat} (hb : v.ownBlock = some b) : ∃ cur, w.heap[b]? = some (.cells cur 56 (0, 0)) := by
  rcases h.2 with ⟨rfl, _⟩ | ⟨g, cap, cur, rfl, _, h3, _⟩
  · cases hb
  · cases hb; exact ⟨cur, h3⟩
/-- What a change to the tree's own blocks leaves: all rows of nodes. -/
theorem Rm.kids {w w' : World} {g : Nat} {vL vW : Value} {vs : List Value} {L : List Kd} {r : List (List Kd)} (h : Rm w g vL vW vs L r) (hm : Mod (g :: vW.ownBlock.toList) w w') (v : Value) (ks : List Kd) (hk : OwnKids w 0 v ks) : OwnKids w' 0 v ks :=
  hk.mod hm fun b hb hf => by
    obtain ⟨cur, hc⟩ := hk.block hb
    rcases List.mem_cons.1 hf with rfl | hf
    · rw [h.rl.blk] at hc
      simp at hc
    · obtain ⟨cu, hcu⟩ := h.row.block (b := b) (by simpa using hf)
      rw [hcu] at hc
      simp at hc
theorem Rm.lt {w : World} {g : Nat} {vL vW : Value} {vs : List Value} {L : List Kd} {r : List (List Kd)} (h : Rm w g vL vW vs L r) : ∀ k ∈ g :: vW.ownBlock.toList, k < w.heap.size := fun k hk => by
  rcases List.mem_cons.1 hk with rfl | hk
  · exact h.rl.lt
  · obtain ⟨cur, hc⟩ := h.row.block (b := k) (by simpa using hk)
    exact (Array.getElem?_eq_some_iff.1 hc).1
theorem Rm.below {w w' : World} {g : Nat} {vL vW : Value} {vs : List Value} {L : List Kd} {r : List (List Kd)} (h : Rm w g vL vW vs L r) (hb : Below w.heap.size w w') : Rm w' g vL vW vs L r :=
  ⟨h.rl.below hb, h.row.kept fun b hb' => hb.block _ (h.lt b (by simp [hb'])), h.was.kept fun v ks hk => hk.below hb⟩
theorem slinfo : (Tryd.prog.info? 29).map (fun i => (i.zero, i.size, i.bytes)) = some (some (.slice none 0 0), 1, 24) := by kernel_rfl
/-- What Apply and Undo leave. -/
def RmRet (v : Value) (g : Nat) (L : List Kd) (r : List (List Kd)) (fs : List Nat) (w : World) (e : Ending) (w' : World) : Prop :=
  e = .returned v ∧ ∃ vL vW vs, Rm w' g vL vW vs L r ∧ Mod fs w w' ∧ ∀ k ∈ g :: vW.ownBlock.toList, k ∈ fs ∨ w.heap.size ≤ k
set_option maxHeartbeats 2000000 in
theorem rundo_none (g : Nat) (vL vW : Value) (vs : List Value) (L : List Kd) (w : World) (h : Rm w g vL vW vs L []) : Calls Tryd.prog 15 #[.pointer (some ⟨g, 0, none⟩)] w (fun e w' => e = .returned (.bool false) ∧ w' = w) := by
  have c1 := h.rl.cell1
  have hl := h.was.len
  have hv : vs = [] := List.eq_nil_of_length_eq_zero hl
  subst hv
  obtain ⟨A, c, rfl⟩ : ∃ A c, vW = .slice A 0 c := by
    rcases h.row.2 with ⟨rfl, _⟩ | ⟨b, cap, cur, rfl, _⟩
    · exact ⟨_, _, rfl⟩
    · exact ⟨_, _, rfl⟩
  clear h hl
  go_enter Tryd.func15, Tryd.ntmps15
  go_wp2
  go_ret
  exact ⟨rfl, rfl⟩
set_option maxHeartbeats 2000000 in
theorem rapply_wrong (g : Nat) (o : O5) (hl : o.l.length ≤ 1000) (hR : o.R = false) (w : World) :
    Calls Tryd.prog 17 #[.pointer (some ⟨g, 0, none⟩), opv o.n o.r o.d o.t o.l] w (BoolRet false w) := by
  have K := hide (orefRight_any o.n o.r o.d o.t o.l (w.alloc (.cells #[.int .i64 o.n, .int .i64 o.r, .int .i64 o.d, .int .i64 o.t, .string (bs o.l)] 37)) hl)
  have e : opR o.n o.r o.d o.t o.l = false := hR
  rw [e] at K
  clear e hR
  unfold opv at K ⊢
  go_enter Tryd.func17, Tryd.ntmps17
  go_wp2_with fail
  refine K.out.mono ?_
  rintro e w1 ⟨rfl, hb⟩
  have B := hide (((Below.refl w.heap.size w).alloc (Nat.le_refl _) _).trans (hb.mono (by simp)))
  clear hb
  go_wp2
  go_ret
  exact ⟨rfl, B.out⟩
end Go.Proofs.YtlcmkikjgelfaaaDoor
namespace Go.Proofs.YtlcmkikjgelfaaaDoor
open Go.RowKit Go.Maps
set_option linter.unusedVariables false
set_option linter.unusedSimpArgs false
set_option maxRecDepth 100000

def RapRel (w w1 : World) (g : Nat) (vL vW : Value) (vs : List Value) (L : List Kd) (r : List (List Kd)) (o : O5) (fs : List Nat) (wx : World) : Prop :=
  ∃ gx cx, Rm wx g vL (.slice (some ⟨gx, 0, none⟩) (vs.length + 1) cx) (vL :: vs) L (L :: r) ∧ wx.heap[w.heap.size]? = some (.cells #[.int .i64 o.n, .int .i64 o.r, .int .i64 o.d, .int .i64 o.t, .string (bs o.l)] 37 (0, 0)) ∧ Mod fs w wx ∧ (vW.ownBlock = some gx ∨ gx = w1.heap.size + 1)
theorem rap_end {w w1 w2 : World} {g : Nat} {vL vW : Value} {vs : List Value} {L : List Kd} {r : List (List Kd)} {o : O5} {fs : List Nat} {gx cx : Nat} {ob : Obj}
    (hT : Rm w1 g vL vW vs L r) (hX : w1.heap[w.heap.size]? = some (.cells #[.int .i64 o.n, .int .i64 o.r, .int .i64 o.d, .int .i64 o.t, .string (bs o.l)] 37 (0, 0))) (hM : Mod fs w w1) (hfs : fs = g :: vW.ownBlock.toList) (hlt : ∀ k ∈ fs, k < w.heap.size)
    (hown : w2.ownsRow 0 29 1 (.slice (some ⟨gx, 0, none⟩) (vs.length + 1) cx) (vs.length + 1) (vs.reverse ++ [vL])) (hgr : (w1.alloc ob).drew.grownBy w2 vW.ownBlock) (hat : vW.ownBlock = some gx ∨ gx = w1.heap.size + 1) :
    RapRel w w1 g vL vW vs L r o fs (w2.setCell ⟨g, 1, none⟩ (.slice (some ⟨gx, 0, none⟩) (vs.length + 1) cx)) := by
  have lw : w.heap.size < w1.heap.size := (Array.getElem?_eq_some_iff.1 hX).1
  have lg := hT.rl.lt
  have hgs := hlt g (by rw [hfs]; simp)
  have M2 : Mod fs w1 w2 := (((Mod.refl fs w1).alloc ob).drew).trans (fs' := vW.ownBlock.toList) (Mod.of_grown hgr (fun k hk => by rw [hk]; simp)) (fun k hk => .inl (by rw [hfs]; simp [hk]))
  have MX : Mod fs w1 (w2.setCell ⟨g, 1, none⟩ (.slice (some ⟨gx, 0, none⟩) (vs.length + 1) cx)) := M2.setCell (.inl (by rw [hfs]; simp)) _
  have hgW : vW.ownBlock ≠ some g := by
    intro e
    obtain ⟨cu, hcu⟩ := hT.row.block e
    rw [hT.rl.blk] at hcu
    simp at hcu
  have hb2 : w2.heap[g]? = some (.cells #[vL, vW] 32 (0, 0)) :=
    ((hgr.block g (by show g < (w1.alloc ob).heap.size; simp; omega) (fun e => hgW e.symm)).trans (Below.heap_alloc w1 _ g lg)).trans hT.rl.blk
  have hgx : gx ≠ g := by
    rintro rfl
    rcases hown.2 with ⟨e, _⟩ | ⟨g', cap, cur, e, _, h3, _⟩
    · cases e
    · cases e
      rw [hb2] at h3
      simp at h3
  rw [hfs] at MX
  have hk := fun v ks h => hT.kids MX v ks h
  refine ⟨gx, cx, ⟨⟨?_, hk _ _ hT.rl.lst⟩, ?_, hk _ _ hT.rl.lst, hT.was.kept hk⟩, ?_, ?_, hat⟩
  · exact block_set1 hb2
  · show World.ownsRow _ 0 29 1 _ (vs.length + 1) (vL :: vs).reverse
    rw [List.reverse_cons]
    refine ⟨hown.1, ?_⟩
    rcases hown.2 with ⟨e, _⟩ | ⟨g', cap, cur, e, h2, h3, h4⟩
    · cases e
    · cases e
      exact .inr ⟨gx, cx, cur, rfl, h2, (Below.heap_setCell w2 _ _ gx (by show gx ≠ g; exact hgx)).trans h3, h4⟩
  · rw [MX.block _ lw (fun hkk => by have := hlt _ (by rw [hfs]; exact hkk); omega)]
    exact hX
  · rw [← hfs] at MX
    exact hM.trans MX (fun k hk => .inl hk)
theorem news_one (w : World) (v : Value) (t : TypeId) : ∀ j u, [v][j]? = some u → (w.alloc (.cells #[v] t)).cell? ((⟨w.heap.size, 0, none⟩ : Addr).add j) = some u := by
  intro j u hu
  rw [Addr.add_lit, Nat.zero_add, cell_of_row _ w.heap.size j _ _ (0, 0) (heap_alloc_new w _)]
  simpa using hu
theorem block_set0 {w : World} {g : Nat} {a b c : Value} {t : TypeId} (h : w.heap[g]? = some (.cells #[a, b] t (0, 0))) : (w.setCell ⟨g, 0, none⟩ c).heap[g]? = some (.cells #[c, b] t (0, 0)) := by
  have := Joins.block_setCell (i := 0) h c
  simpa using this
/-- Another list is put in. -/
theorem Rm.set_list {w : World} {g : Nat} {vL vW v' : Value} {vs : List Value} {L M : List Kd} {r : List (List Kd)} (h : Rm w g vL vW vs L r) (hk : OwnKids w 0 v' M) : Rm (w.setCell ⟨g, 0, none⟩ v') g v' vW vs M r := by
  have hm : Mod (g :: vW.ownBlock.toList) w (w.setCell ⟨g, 0, none⟩ v') := (Mod.refl _ _).setCell (.inl (by simp)) _
  refine ⟨⟨block_set0 h.rl.blk, h.kids hm _ _ hk⟩, h.row.kept fun b hb => Below.heap_setCell _ _ _ _ ?_, h.was.kept (h.kids hm)⟩
  show b ≠ g
  rintro rfl
  obtain ⟨cu, hcu⟩ := h.row.block hb
  rw [h.rl.blk] at hcu
  simp at hcu
def RfRel (w : World) (L : List Kd) (n : Int) (v i : Value) (wr : World) : Prop :=
  ∃ k : Nat, k ≤ L.length ∧ i = .int .i64 (k : Int) ∧ OwnKids wr w.heap.size v ((L.take k).filter fun x => x.nd != n) ∧ Below w.heap.size w wr
set_option maxHeartbeats 4000000 in
theorem rapply_right (g : Nat) (vL vW : Value) (vs : List Value) (L : List Kd) (r : List (List Kd)) (o : O5) (hl : o.l.length ≤ 1000) (hR : o.R = true) (hL : L.length ≤ 900) (hr : vs.length ≤ 900) (w : World) (h : Rm w g vL vW vs L r) :
    Calls Tryd.prog 17 #[.pointer (some ⟨g, 0, none⟩), opv o.n o.r o.d o.t o.l] w (RmRet (.bool (can L o)) g (app L o) (L :: r) (g :: vW.ownBlock.toList) w) := by
  have K := hide (orefRight_any o.n o.r o.d o.t o.l (w.alloc (.cells #[.int .i64 o.n, .int .i64 o.r, .int .i64 o.d, .int .i64 o.t, .string (bs o.l)] 37)) hl)
  have e : opR o.n o.r o.d o.t o.l = true := hR
  rw [e] at K
  clear e
  obtain ⟨fs, hfs⟩ : ∃ fs, fs = g :: vW.ownBlock.toList := ⟨_, rfl⟩
  rw [← hfs]
  have HFS := hide hfs
  have HBX := hide (heap_alloc_new w (.cells #[.int .i64 o.n, .int .i64 o.r, .int .i64 o.d, .int .i64 o.t, .string (bs o.l)] 37))
  have Bz := (Below.refl w.heap.size w).alloc (Nat.le_refl _) (.cells #[.int .i64 o.n, .int .i64 o.r, .int .i64 o.d, .int .i64 o.t, .string (bs o.l)] 37)
  have HT0 := hide (h.below Bz)
  have HLT := hide (show ∀ k ∈ fs, k < w.heap.size by rw [hfs]; exact h.lt)
  have HB0 := hide Bz
  have sz1 : w.heap.size < (w.alloc (.cells #[.int .i64 o.n, .int .i64 o.r, .int .i64 o.d, .int .i64 o.t, .string (bs o.l)] 37)).heap.size := by simp
  clear Bz h hR hfs
  unfold opv at K ⊢
  go_enter Tryd.func17, Tryd.ntmps17
  go_wp2_with fail
  refine K.out.mono ?_
  rintro e w1 ⟨rfl, hb⟩
  have HX1 := hide ((hb.block _ sz1).trans HBX.out)
  have HT := hide (HT0.out.below hb)
  have HM := hide (Mod.of_below (fs := fs) (HB0.out.trans (hb.mono (Nat.le_of_lt sz1))))
  clear hb HBX HT0 HB0 K sz1
  have c0 := HT.out.rl.cell0
  have c1 := HT.out.rl.cell1
  have f1 := Joins.unfrozen_of_block HT.out.rl.blk 1
  have lg := HT.out.rl.lt
  obtain ⟨A, c, rfl, k1, k2, k3⟩ := HT.out.rl.lst.kids
  clear k1 k2 k3
  obtain ⟨i0, hi0, hz0, hz1, hz2⟩ := info_parts slinfo
  have HP := hide (show w1.drew.ownsRow 0 29 1 vW vs.length vs.reverse from HT.out.row.kept (fun _ _ => rfl))
  have HNW := hide (news_one w1.drew (.slice A L.length c) 29)
  have HXS := hide (show ([Value.slice A L.length c] : List Value).length = 1 * 1 from rfl)
  have HX2 := hide (show ∀ u ∈ [Value.slice A L.length c], u.oneCell' = true by simp [Value.oneCell'])
  have c1a := (HT.out.below ((Below.refl _ _).alloc (Nat.le_refl _) (.cells #[.slice A L.length c] 29))).rl.cell1
  have c0a := (HT.out.below ((Below.refl _ _).alloc (Nat.le_refl _) (.cells #[.slice A L.length c] 29))).rl.cell0
  have KE := hide (fun w2 gx cx => rap_end (o := o) (w := w) (w2 := w2) (gx := gx) (cx := cx) (ob := .cells #[.slice A L.length c] 29) HT.out HX1.out HM.out HFS.out HLT.out)
  have HBG := hide HT.out.rl.blk
  have NX := hide (show ∀ b, vW.ownBlock = some b → b ≠ g from fun b hb e => by
    subst e
    obtain ⟨cu, hcu⟩ := HT.out.row.block hb
    rw [HT.out.rl.blk] at hcu
    simp at hcu)
  go_upto_region 4 with (fail)
  go_cut [4] (fun s4 wx => s4 = .bool false ∧ RapRel w w1 g (.slice A L.length c) vW vs L r o fs wx)
  case first =>
    go_region_law (refine step_append_lies _ (by rfl) _ _ _ (by rfl) 0 29 i0 _ 1 24 Tryd.underlying30 hi0 hz0 hz1 hz2 rfl (by omega) vW vs.length vs.reverse (by rfl) (HP.out.alloc _) ⟨w1.heap.size, 0, none⟩ 1 1 [.slice A L.length c] (by rfl) HXS.out HNW.out HX2.out (by omega) (by simp only [maxLen]; omega) (by omega) (Nat.zero_le _) (w1.heap.size + 1) (by simp) ?_
                   intro gx cx w2 hown2 hgrow2 hat2 hlt2
                   have hg2 := ((hgrow2.block g (by simp; omega) (fun e => NX.out g e.symm rfl)).trans (Below.heap_alloc w1 _ g lg)).trans HBG.out
                   have k1 := cell_of_row _ _ 1 _ _ (0, 0) hg2
                   have fk := Joins.unfrozen_of_block hg2 1
                   simp at k1
                   have HE := hide (KE.out w2 gx cx hown2 hgrow2 hat2)
                   clear hg2 hown2 hat2 hgrow2)
    all_goals
      go_wp2_with fail
      go_meet
      exact ⟨rfl, HE.out⟩
  case rest =>
    obtain ⟨rfl, gx, cx, T3, X3, M3, A3⟩ := hcut
    clear c0 c1 f1 HP HNW HXS HX2 hi0 hz0 hz1 hz2 c1a c0a KE HBG NX
    rename World => wc
    have HT3 := hide T3
    have HM3 := hide M3
    have HX3 := hide X3
    have HA := hide (show ∀ k ∈ g :: (Value.slice (some ⟨gx, 0, none⟩) (vs.length + 1) cx).ownBlock.toList, k ∈ fs ∨ w.heap.size ≤ k from fun k hk => by
      have lw : w.heap.size < w1.heap.size := (Array.getElem?_eq_some_iff.1 HX1.out).1
      rcases List.mem_cons.1 hk with rfl | hk
      · exact .inl (by rw [HFS.out]; simp)
      · have e : k = gx := by simpa [Value.ownBlock] using hk
        subst e
        rcases A3 with h | h
        · exact .inl (by rw [HFS.out]; simp [h])
        · exact .inr (by omega))
    have KN := hide (rknown_any g _ _ L o.t (by omega) wc T3.rl)
    have KA := hide (rabove_any g _ _ L o.d o.t (by omega) wc T3.rl)
    have lx : w.heap.size < wc.heap.size := (Array.getElem?_eq_some_iff.1 X3).1
    have y2 := cell_of_row _ _ 2 _ _ (0, 0) X3
    have y3 := cell_of_row _ _ 3 _ _ (0, 0) X3
    simp at y2 y3
    clear T3 X3 M3 A3 HX1 HT HM lg
    go_wp2_with fail
    refine KN.out.mono ?_
    rintro e w4 ⟨rfl, hw⟩
    subst hw
    go_wp2_with fail
    refine KA.out.mono ?_
    rintro e w5 ⟨rfl, hw⟩
    subst hw
    clear KN KA
    cases hc : can L o with
    | false =>
      have EC := hide hc
      have EA := hide (show app L o = L by unfold app; rw [hc]; simp)
      have hkb : isKn L o.t = false ∨ abv L o.d o.t = true := by
        unfold can at hc
        cases h1 : isKn L o.t with
        | false => exact .inl rfl
        | true => rw [h1] at hc; exact .inr (by simpa using hc)
      clear hc
      cases h1 : isKn L o.t with
      | false =>
        generalize abv L o.d o.t = bb
        clear h1 hkb
        go_wp2
        go_ret
        exact ⟨by rw [EC.out]; rfl, _, _, _, by rw [EA.out]; exact HT3.out, HM3.out, HA.out⟩
      | true =>
        have h2 : abv L o.d o.t = true := by
          rcases hkb with h | h
          · rw [h1] at h; cases h
          · exact h
        rw [h2]
        clear h1 h2 hkb
        go_wp2
        go_ret
        exact ⟨by rw [EC.out]; rfl, _, _, _, by rw [EA.out]; exact HT3.out, HM3.out, HA.out⟩
    | true =>
      have EC := hide hc
      obtain ⟨h1, h2⟩ := can_t hc
      have EA := hide (show app L o = L.filter (fun k => k.nd != o.d) ++ [o.kd] by unfold app; rw [hc]; simp [putS])
      rw [h1, h2]
      clear hc h1 h2
      obtain ⟨A9, c9, he, h1, h2, h3⟩ := HT3.out.rl.lst.kids
      cases he
      have H3 := hide h3
      unfold maxLen at h2
      clear h3
      go_wp2_with fail
      go_loopw [8, 9] (RfRel w5 L o.d) (fun _ i _ => L.length - (intOf i).toNat)
      case atStart => exact ⟨0, Nat.zero_le _, rfl, OwnKids.nil _ _, Below.refl _ _⟩
      case round =>
        rename World => wi
        obtain ⟨k, hk, rfl, ho, hb⟩ := hrel
        have O := hide ho
        have B := hide hb
        have sz := hb.size
        have TI := hide (HT3.out.below hb)
        have d0 := TI.out.rl.cell0
        have XI := (hb.block _ lx).trans HX3.out
        have z2 := cell_of_row _ _ 2 _ _ (0, 0) XI
        have z3 := cell_of_row _ _ 3 _ _ (0, 0) XI
        have z4 := cell_of_row _ _ 4 _ _ (0, 0) XI
        simp at z2 z3 z4
        clear ho hb XI y2 y3
        by_cases hlt : k < L.length
        · obtain ⟨b, oo, rfl, hat⟩ := H3.out (by omega)
          obtain ⟨r0, r1, r2⟩ := (hat.below B.out).three k hlt
          have i1 : (k : Int) < (L.length : Int) := by omega
          have i0 : (0 : Int) ≤ (k : Int) := by omega
          have FS := hide (show (L.take (k + 1)).filter (fun x => x.nd != o.d) = (L.take k).filter (fun x => x.nd != o.d) ++ (if L[k].nd = o.d then [] else [L[k]]) by
            rw [List.take_succ_eq_append_getElem hlt, List.filter_append]
            congr 1
            by_cases e : L[k].nd = o.d
            · simp [e]
            · simp [e])
          have hfl : ((L.take k).filter fun x => x.nd != o.d).length ≤ 1000000 := Nat.le_trans (List.length_filter_le _ _) (by rw [List.length_take]; omega)
          generalize L[k] = x at r0 r1 r2 FS
          generalize (L.take k).filter (fun x => x.nd != o.d) = qs at O FS hfl
          clear hat
          by_cases hx : x.nd = o.d
          · have hx1 : (x.nd != o.d) = false := by simp [hx]
            have hx2 : (x.nd == o.d) = true := by simp [hx]
            have FE := hide (show (L.take (k + 1)).filter (fun x => x.nd != o.d) = qs by rw [FS.out, if_pos hx, List.append_nil])
            clear hx FS
            go_wp2_with fail
            go_region
            go_wp2_with fail
            go_roundw
            case rel => exact ⟨k + 1, by omega, by go_num, by rw [FE.out]; exact O.out.below ((Below.refl _ _).drew), B.out.drew⟩
            case measure => simp [intOf]; omega
          · have hx1 : (x.nd != o.d) = true := by simp [hx]
            have hx2 : (x.nd == o.d) = false := by simp [hx]
            have FE := hide (show (L.take (k + 1)).filter (fun x => x.nd != o.d) = qs ++ [x] by rw [FS.out, if_neg hx])
            clear hx FS
            go_wp2_with fail
            go_region
            have OD := hide (O.out.below (Below.refl wi.heap.size wi).drew)
            have BD := hide B.out.drew
            have TD := (TI.out.below (Below.refl wi.heap.size wi).drew).rl.cell0
            have e0 : wi.drew.cell? ⟨b, oo + k * 3, none⟩ = _ := r0
            have e1 : wi.drew.cell? ⟨b, oo + k * 3 + 1, none⟩ = _ := r1
            have e2 : wi.drew.cell? ⟨b, oo + k * 3 + 2, none⟩ = _ := r2
            have szd : w5.heap.size ≤ wi.drew.heap.size := sz
            clear O B TI d0 z2 z3 z4 r0 r1 r2 sz hx1 hx2
            generalize wi.drew = wd at OD BD TD e0 e1 e2 szd ⊢
            have Bz := (Below.refl wd.heap.size wd).alloc (Nat.le_refl _) (.cells #[.int .i64 x.to, .string (bs x.nm), .int .i64 x.nd] 56)
            have O2 := hide (OD.out.below Bz)
            have B2 := hide (BD.out.trans (Bz.mono szd))
            have N2 := hide (kid_new wd x)
            have lz := Bz.size
            clear Bz OD
            go_wp2_with (at_builtin; refine wpList_append_kid _ rfl _ _ rfl w5.heap.size _ qs rfl O2.out ⟨wd.heap.size, 0, none⟩ 1 x rfl N2.out (by omega) (by omega) ?_)
            intro v6 w6 hown6 hg6 hat6
            have O6 := hide hown6
            have B6 := hide (B2.out.grown hg6 (by omega) (fun k hk => (O2.out.lt hk).1))
            clear hown6 hg6 hat6 O2 B2 N2 e0 e1 e2 TD
            go_wp2_with fail
            go_roundw
            case rel => exact ⟨k + 1, by omega, by go_num, by rw [FE.out]; exact O6.out, B6.out⟩
            case measure => simp [intOf]; omega
        · obtain rfl : k = L.length := by omega
          have O1 := O.out
          rw [List.take_length] at O1
          have hfl : (L.filter fun x => x.nd != o.d).length ≤ 1000000 := Nat.le_trans (List.length_filter_le _ _) (by omega)
          have Bz := (Below.refl wi.heap.size wi).alloc (Nat.le_refl _) (.cells #[.int .i64 o.t, .string (bs o.l), .int .i64 o.d] 56)
          have O2 := hide (O1.below Bz)
          have B2 := hide (B.out.trans (Bz.mono sz))
          have N2 := hide (kid_new wi o.kd)
          have lz := Bz.size
          clear Bz O O1
          go_wp2_with (at_builtin; refine wpList_append_kid _ rfl _ _ rfl w5.heap.size _ (L.filter fun x => x.nd != o.d) rfl O2.out ⟨wi.heap.size, 0, none⟩ 1 o.kd rfl N2.out hfl (by omega) ?_)
          intro v6 w6 hown6 hg6 hat6
          rw [← EA.out] at hown6
          obtain ⟨A6, c6, rfl, _, _, _⟩ := hown6.form
          have O6 := hide (hown6.base (Nat.zero_le _))
          have B6 := hide (B2.out.grown hg6 (by omega) (fun k hk => (O2.out.lt hk).1))
          have T6 := hide (HT3.out.below B6.out)
          have x0 := T6.out.rl.cell0
          have fz := Joins.unfrozen_of_block T6.out.rl.blk 0
          have TF := hide (T6.out.set_list O6.out)
          have MF := hide ((HM3.out.trans (fs' := []) (Mod.of_below B6.out) (by simp)).setCell (p := ⟨g, 0, none⟩) (.inl (by rw [HFS.out]; simp)) (.slice A6 (app L o).length c6))
          clear hown6 hg6 hat6 O2 B2 N2 d0 z2 z3 z4
          go_wp2
          go_ret
          exact ⟨by rw [EC.out]; rfl, _, _, _, TF.out, MF.out, HA.out⟩
end Go.Proofs.YtlcmkikjgelfaaaDoor
namespace Go.Proofs.YtlcmkikjgelfaaaDoor
open Go.RowKit Go.Maps
set_option linter.unusedVariables false
set_option linter.unusedSimpArgs false
set_option maxRecDepth 100000

/-- The document's tree, made since a world. -/
def Rw (w0 w : World) (g : Nat) (s : St) : Prop := ∃ vL vW vs, Rm w g vL vW vs s.1 s.2 ∧ (∀ k ∈ g :: vW.ownBlock.toList, w0.heap.size ≤ k) ∧ Below w0.heap.size w0 w
theorem Rw.below {w0 w w' : World} {g : Nat} {s : St} (h : Rw w0 w g s) (hb : Below w.heap.size w w') : Rw w0 w' g s := by
  obtain ⟨vL, vW, vs, h1, h2, h3⟩ := h
  exact ⟨vL, vW, vs, h1.below hb, h2, h3.trans (hb.mono h3.size)⟩
theorem Rw.bel {w0 w : World} {g : Nat} {s : St} (h : Rw w0 w g s) : Below w0.heap.size w0 w := by
  obtain ⟨vL, vW, vs, h1, h2, h3⟩ := h
  exact h3
theorem rapply_any (w0 : World) (g : Nat) (s : St) (o : O5) (hl : o.l.length ≤ 1000) (h1 : s.1.length ≤ 900) (h2 : s.2.length ≤ 900) (w : World) (h : Rw w0 w g s) :
    Calls Tryd.prog 17 #[.pointer (some ⟨g, 0, none⟩), opv o.n o.r o.d o.t o.l] w (fun e w' => e = .returned (.bool (apB s o)) ∧ Rw w0 w' g (stp s o)) := by
  cases hR : o.R with
  | false =>
    refine (rapply_wrong g o hl hR w).mono ?_
    rintro e w' ⟨rfl, hb⟩
    refine ⟨by unfold apB; rw [hR]; rfl, ?_⟩
    have e : stp s o = s := by unfold stp; rw [hR]; simp
    rw [e]
    exact h.below hb
  | true =>
    obtain ⟨vL, vW, vs, k1, k2, k3⟩ := h
    have hl2 := k1.was.len
    refine (rapply_right g vL vW vs s.1 s.2 o hl hR h1 (by omega) w k1).mono ?_
    rintro e w' ⟨rfl, vL', vW', vs', r1, r2, r3⟩
    refine ⟨by unfold apB; rw [hR]; rfl, ?_⟩
    have e : stp s o = (app s.1 o, s.1 :: s.2) := by unfold stp; rw [hR]; simp
    rw [e]
    refine ⟨vL', vW', vs', r1, fun k hk => ?_, k3.trans (r2.below k3.size k2)⟩
    rcases r3 k hk with h | h
    · exact k2 k h
    · exact Nat.le_trans k3.size h
def OfRet (w : World) (s : St) (e : Ending) (w' : World) : Prop := ∃ g, e = .returned (.pointer (some ⟨g, 0, none⟩)) ∧ Rw w w' g s
def OfRel (w : World) (g : Nat) (os : List O5) (i : Value) (wr : World) : Prop := ∃ k : Nat, k ≤ os.length ∧ i = .int .i64 (k : Int) ∧ Rw w wr g (runS (os.take k))
theorem Rw.new (w : World) : Rw w (w.alloc (.cells #[.slice none 0 0, .slice none 0 0] 32)) w.heap.size ([], []) :=
  ⟨.slice none 0 0, .slice none 0 0, [], ⟨⟨heap_alloc_new w _, OwnKids.nil _ _⟩, World.ownsRow_nil _ _ _ _, trivial⟩, fun k hk => by simp [Value.ownBlock] at hk; omega, (Below.refl _ _).alloc (Nat.le_refl _) _⟩
set_option maxHeartbeats 1000000 in
theorem rof_any (A : Option Addr) (c : Nat) (os : List O5) (w : World) (hn : os.length ≤ 500) (hm : ∀ o ∈ os, o.l.length ≤ 1000) (h : Ops w A c os) :
    Calls Tryd.prog 29 #[.slice A os.length c] w (OfRet w (runS os)) := by
  have HO := hide h
  have HM := hide hm
  have S1 := hide (show OfRel w w.heap.size os (.int .i64 0) (w.alloc (.cells #[.slice none 0 0, .slice none 0 0] 32)) from ⟨0, Nat.zero_le _, rfl, Rw.new w⟩)
  clear h hm
  go_enter Tryd.func29, Tryd.ntmps29
  go_wp2_with fail
  go_loopw [4] (OfRel w w.heap.size os) (fun i _ => os.length - (intOf i).toNat)
  case atStart => exact S1.out
  case round =>
    rename World => wi
    obtain ⟨k, hk, rfl, hL⟩ := hrel
    have HL := hide hL
    clear hL S1
    by_cases hlt : k < os.length
    · obtain ⟨b, o, rfl, hat⟩ := (HO.out.below HL.out.bel).lit (by omega)
      obtain ⟨c0, c1, c2, c3, c4⟩ := hat.five k hlt
      have HS := hide (show runS (os.take (k + 1)) = stp (runS (os.take k)) os[k] by rw [List.take_succ_eq_append_getElem hlt, runS_snoc])
      have hx := HM.out _ (List.getElem_mem hlt)
      have hr2 : (runS (os.take k)).2.length ≤ 500 := by
        have := runS_len (os.take k)
        simp at this
        omega
      have hr1 : (runS (os.take k)).1.length ≤ 500 := Nat.le_trans (runS_hst (os.take k)).len hr2
      have KA := hide (rapply_any w w.heap.size (runS (os.take k)) os[k] hx (by omega) (by omega) wi HL.out)
      rw [← HS.out] at KA
      generalize os[k] = x at c0 c1 c2 c3 c4 KA hx HS
      clear hat
      go_wp2_with fail
      refine KA.out.mono ?_
      rintro e w2 ⟨rfl, hret⟩
      have HL' := hide hret
      clear hret KA c0 c1 c2 c3 c4
      go_wp2_with fail
      go_roundw
      case rel => exact ⟨k + 1, by omega, by go_num, HL'.out⟩
      case measure => simp [intOf]; omega
    · obtain rfl : k = os.length := by omega
      go_wp2
      go_ret
      refine ⟨_, rfl, ?_⟩
      have := HL.out
      rwa [List.take_length] at this
end Go.Proofs.YtlcmkikjgelfaaaDoor
namespace Go.Proofs.YtlcmkikjgelfaaaDoor
open Go.RowKit Go.Maps
set_option linter.unusedVariables false
set_option linter.unusedSimpArgs false
set_option maxRecDepth 100000

theorem rwSize (w : World) : (Go.sizeOf 29).run Tryd.prog w = .ok 1 w := by kernel_rfl
theorem rwElem : Tryd.prog.elem 30 = 29 := by simp [Program.elem, Tryd.underlying30]
theorem rwUnder : Tryd.prog.underlying 30 = some (.slice (Tryd.prog.elem 30)) := by rw [rwElem]; exact Tryd.underlying30
theorem rw_head (ad : Addr) (n c q : Nat) (hq : q ≤ c) (w : World) :
    (Instr.slice 30 (.slice (some ad) n c) none (some (.int .i64 (q : Int))) none).run Tryd.prog w = .ok (.slice (some ad) q c) w := by
  rw [run_slice_h w _ _ _ _ rwUnder .i64 _ (by omega) (by omega), rwElem, rwSize]
  simp [Result.andThen, sliced, Addr.add]
/-- The last that was is taken off. -/
theorem Rm.set_row {w : World} {g b cap : Nat} {vL v0 : Value} {vs : List Value} {L M : List Kd} {r : List (List Kd)} (h : Rm w g vL (.slice (some ⟨b, 0, none⟩) (vs.length + 1) cap) (v0 :: vs) L (M :: r)) :
    Rm (w.setCell ⟨g, 1, none⟩ (.slice (some ⟨b, 0, none⟩) vs.length cap)) g vL (.slice (some ⟨b, 0, none⟩) vs.length cap) vs L r := by
  have hm : Mod (g :: (Value.slice (some ⟨b, 0, none⟩) (vs.length + 1) cap).ownBlock.toList) w (w.setCell ⟨g, 1, none⟩ (.slice (some ⟨b, 0, none⟩) vs.length cap)) := (Mod.refl _ _).setCell (.inl (by simp)) _
  have hbg : b ≠ g := by
    rintro rfl
    obtain ⟨cu, hcu⟩ := h.row.block (b := b) rfl
    rw [h.rl.blk] at hcu
    simp at hcu
  refine ⟨⟨block_set1 h.rl.blk, h.kids hm _ _ h.rl.lst⟩, ?_, h.was.2.kept (h.kids hm)⟩
  rcases h.row.2 with ⟨e, _⟩ | ⟨g', cap', cur, e, h2, h3, h4, h5, h6, h7⟩
  · cases e
  · cases e
    refine ⟨by simp, .inr ⟨b, cap, cur, rfl, h2, (Below.heap_setCell w _ _ b (by show b ≠ g; exact hbg)).trans h3, ?_, h5, h6, ?_⟩⟩
    · simp at h4; omega
    · have e2 : cur.toList.take (vs.length * 1) = (cur.toList.take ((v0 :: vs).length * 1)).take (vs.length * 1) := by
        rw [List.take_take]
        congr 1
        simp
      rw [e2, h7, List.reverse_cons, List.take_append_of_le_length (by simp), List.take_of_length_le (by simp)]
theorem Wr.last {w : World} {b cap : Nat} {v0 : Value} {vs : List Value} (h : Wr w (.slice (some ⟨b, 0, none⟩) (vs.length + 1) cap) (v0 :: vs)) : w.cell? ⟨b, vs.length, none⟩ = some v0 := by
  rcases h.2 with ⟨e, _⟩ | ⟨g', cap', cur, e, h2, h3, h4, h5, h6, h7⟩
  · cases e
  · cases e
    rw [cell_of_row w b vs.length _ _ (0, 0) h3, ← Array.getElem?_toList]
    have e2 : cur.toList[vs.length]? = (cur.toList.take ((v0 :: vs).length * 1))[vs.length]? := by rw [List.getElem?_take, if_pos (by simp)]
    rw [e2, h7, List.reverse_cons, List.getElem?_append_right (by simp)]
    simp
set_option maxHeartbeats 2000000 in
theorem rundo_some (g : Nat) (vL vW : Value) (vs : List Value) (L M : List Kd) (r : List (List Kd)) (hr : r.length ≤ 900) (w : World) (h : Rm w g vL vW vs L (M :: r)) :
    Calls Tryd.prog 15 #[.pointer (some ⟨g, 0, none⟩)] w (RmRet (.bool true) g M r (g :: vW.ownBlock.toList) w) := by
  have hlen := h.was.len
  obtain ⟨v0, vs, rfl⟩ : ∃ a b, vs = a :: b := by
    cases vs with
    | nil => simp at hlen
    | cons a b => exact ⟨a, b, rfl⟩
  simp at hlen
  have hvl : vs.length ≤ 900 := by omega
  clear hlen
  obtain ⟨b, cap, rfl, hcap⟩ : ∃ b cap, vW = .slice (some ⟨b, 0, none⟩) (vs.length + 1) cap ∧ vs.length + 1 ≤ cap := by
    rcases h.row.2 with ⟨_, e⟩ | ⟨b, cap, cur, e, _, _, h4, _⟩
    · simp at e
    · exact ⟨b, cap, e, h4⟩
  have h0 := h.was.1
  have cl := h.row.last
  have c0 := h.rl.cell0
  have c1 := h.rl.cell1
  have f0 := Joins.unfrozen_of_block h.rl.blk 0
  have T1 := h.set_list h0
  have HT1 := hide T1
  have HM := hide (show Mod (g :: (Value.slice (some ⟨b, 0, none⟩) (vs.length + 1) cap).ownBlock.toList) w (w.setCell ⟨g, 0, none⟩ v0) from (Mod.refl _ _).setCell (.inl (by simp)) _)
  obtain ⟨A0, k0, rfl, _, _, _⟩ := h0.form
  have hn1 : IntKind.i64.wrap ((vs.length : Int) + 1 - 1) = (vs.length : Int) := by
    rw [show (vs.length : Int) + 1 - 1 = (vs.length : Int) by omega]
    exact IntWalk.i64_in _ (by omega)
  have i1 : (vs.length : Int) < (vs.length : Int) + 1 := by omega
  have i0 : (0 : Int) ≤ (vs.length : Int) := by omega
  clear h T1 h0
  go_enter Tryd.func15, Tryd.ntmps15
  go_upto_region 5 with (fail)
  generalize w.setCell ⟨g, 0, none⟩ (.slice A0 M.length k0) = w1 at HT1 HM ⊢
  clear c0 c1 f0 cl
  have d1 := HT1.out.rl.cell1
  have f1 := Joins.unfrozen_of_block HT1.out.rl.blk 1
  have hs := rw_head ⟨b, 0, none⟩ (vs.length + 1) cap vs.length (by omega) w1
  have T2 := hide HT1.out.set_row
  have M2 := hide (HM.out.setCell (p := ⟨g, 1, none⟩) (.inl (by simp)) (.slice (some ⟨b, 0, none⟩) vs.length cap))
  go_wp2
  go_ret
  exact ⟨rfl, _, _, _, T2.out, M2.out, fun k hk => .inl hk⟩
end Go.Proofs.YtlcmkikjgelfaaaDoor
namespace Go.Proofs.YtlcmkikjgelfaaaDoor
open Go.RowKit Go.Maps
set_option linter.unusedVariables false
set_option linter.unusedSimpArgs false

/-- No block of the program's tree is a row of nodes. -/
theorem Tr.nokid {w : World} {g : Nat} {L : List Kd} {r : List (List Kd)} {fs : List Nat} (h : Tr w g L r fs) : ∀ k ∈ fs, ∀ cur, w.heap[k]? ≠ some (.cells cur 56 (0, 0)) := by
  obtain ⟨_, bm, vp, p, T, _, rfl⟩ := h
  intro k hk cur e
  rcases mem_fs.1 hk with rfl | rfl | hb
  · rw [T.blk] at e
    simp at e
  · obtain ⟨es, c, h, _⟩ := T.map
    rw [h] at e
    cases e
  · obtain ⟨cu, hcu⟩ := T.past.block hb
    rw [hcu] at e
    simp at e
theorem Rm.mod {w w' : World} {g : Nat} {vL vW : Value} {vs : List Value} {L : List Kd} {r : List (List Kd)} {fs : List Nat} (h : Rm w g vL vW vs L r) (hm : Mod fs w w') (hd : ∀ k ∈ g :: vW.ownBlock.toList, k ∉ fs) (hk : ∀ k ∈ fs, ∀ cur, w.heap[k]? ≠ some (.cells cur 56 (0, 0))) : Rm w' g vL vW vs L r := by
  have hrow : ∀ v ks, OwnKids w 0 v ks → OwnKids w' 0 v ks := fun v ks ho => ho.mod hm fun b hb hf => by
    obtain ⟨cur, hc⟩ := ho.block hb
    exact hk b hf cur hc
  exact ⟨⟨(hm.block _ h.rl.lt (hd g (by simp))).trans h.rl.blk, hrow _ _ h.rl.lst⟩, h.row.kept fun b hb => hm.block b (h.lt b (by simp [hb])) (hd b (by simp [hb])), h.was.kept hrow⟩
/-- Both at their states. -/
structure Duo (w0 w : World) (g1 g2 : Nat) (s t : St) (fs : List Nat) (vL vW : Value) (vs : List Value) : Prop where
  a : Lw w0 w g1 s fs
  b : Rm w g2 vL vW vs t.1 t.2
  c : ∀ k ∈ g2 :: vW.ownBlock.toList, w0.heap.size ≤ k ∧ k ∉ fs
theorem Duo.below {w0 w w' : World} {g1 g2 : Nat} {s t : St} {fs : List Nat} {vL vW : Value} {vs : List Value} (h : Duo w0 w g1 g2 s t fs vL vW vs) (hb : Below w.heap.size w w') : Duo w0 w' g1 g2 s t fs vL vW vs :=
  ⟨h.a.below hb, h.b.below hb, h.c⟩
/-- Something was done to the program's. -/
theorem Duo.retA {w0 w w' : World} {g1 g2 : Nat} {s s' t : St} {fs : List Nat} {vL vW : Value} {vs : List Value} {v : Value} {e : Ending} (h : Duo w0 w g1 g2 s t fs vL vW vs) (hr : TrRet v g1 s'.1 s'.2 fs w e w') : e = .returned v ∧ ∃ fs', Duo w0 w' g1 g2 s' t fs' vL vW vs := by
  obtain ⟨h1, fs', h2, h3, h4⟩ := h.a.ret hr
  refine ⟨h1, fs', h2, h.b.mod h3 (fun k hk => (h.c k hk).2) h.a.tr.nokid, fun k hk => ⟨(h.c k hk).1, fun hf => ?_⟩⟩
  rcases h4 k hf with h5 | h5
  · exact (h.c k hk).2 h5
  · have := h.b.lt k hk
    omega
/-- Something was done to the document's. -/
theorem Duo.retB {w0 w w' : World} {g1 g2 : Nat} {s t t' : St} {fs : List Nat} {vL vW : Value} {vs : List Value} {v : Value} {e : Ending} (h : Duo w0 w g1 g2 s t fs vL vW vs) (hr : RmRet v g2 t'.1 t'.2 (g2 :: vW.ownBlock.toList) w e w') : e = .returned v ∧ ∃ vL' vW' vs', Duo w0 w' g1 g2 s t' fs vL' vW' vs' := by
  obtain ⟨h1, vL', vW', vs', h2, h3, h4⟩ := hr
  refine ⟨h1, vL', vW', vs', ⟨h.a.tr.mod h3 (fun k hk hf => (h.c k hf).2 hk), h.a.fs, h.a.bel.trans (h3.below h.a.bel.size (fun k hk => (h.c k hk).1))⟩, h2, fun k hk => ?_⟩
  rcases h4 k hk with h5 | h5
  · exact h.c k h5
  · refine ⟨Nat.le_trans h.a.bel.size h5, fun hf => ?_⟩
    have := h.a.tr.lt k hf
    omega
end Go.Proofs.YtlcmkikjgelfaaaDoor
namespace Go.Proofs.YtlcmkikjgelfaaaDoor
open Go.RowKit Go.Maps
set_option linter.unusedVariables false

def und (s : St) : St := match s.2 with
  | [] => s
  | M :: r => (M, r)
def undB (s : St) : Bool := !s.2.isEmpty
theorem und_hst {s : St} (h : Hst s.1 s.2) : Hst (und s).1 (und s).2 := by
  obtain ⟨L, r⟩ := s
  cases r with
  | nil => exact h
  | cons M r => exact h.back.1
theorem und_len (s : St) : (und s).2.length ≤ s.2.length := by
  obtain ⟨L, r⟩ := s
  cases r with
  | nil => exact Nat.le_refl _
  | cons M r => simp [und]
theorem tund_any (g : Nat) (s : St) (fs : List Nat) (hr : s.2.length ≤ 900) (w : World) (h : Tr w g s.1 s.2 fs) :
    Calls Tryd.prog 14 #[.pointer (some ⟨g, 0, none⟩)] w (TrRet (.bool (undB s)) g (und s).1 (und s).2 fs w) := by
  obtain ⟨L, r⟩ := s
  cases r with
  | nil =>
    refine (tundo_none g L fs w h).mono ?_
    rintro e w' ⟨rfl, rfl⟩
    exact ⟨rfl, fs, h, Mod.refl _ _, fun k hk => .inl hk⟩
  | cons M r => exact tundo_some g L M r fs (by simp at hr; omega) w h
theorem rund_any (g : Nat) (vL vW : Value) (vs : List Value) (s : St) (hr : s.2.length ≤ 900) (w : World) (h : Rm w g vL vW vs s.1 s.2) :
    Calls Tryd.prog 15 #[.pointer (some ⟨g, 0, none⟩)] w (RmRet (.bool (undB s)) g (und s).1 (und s).2 (g :: vW.ownBlock.toList) w) := by
  obtain ⟨L, r⟩ := s
  cases r with
  | nil =>
    refine (rundo_none g vL vW vs L w h).mono ?_
    rintro e w' ⟨rfl, rfl⟩
    exact ⟨rfl, vL, vW, vs, h, Mod.refl _ _, fun k hk => .inl hk⟩
  | cons M r => exact rundo_some g vL vW vs L M r (by simp at hr; omega) w h
end Go.Proofs.YtlcmkikjgelfaaaDoor
