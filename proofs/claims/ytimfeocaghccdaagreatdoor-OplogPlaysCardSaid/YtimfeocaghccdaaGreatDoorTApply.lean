/-
  The contract of the tree's Apply. Conditions: the tree is one, in memory, and not more than a million operations are remembered; the library's tables are as the program's text lays them.
-/
import Derived.Test.YtimfeocaghccdaaGreatDoorTUndo
import Derived.Test.YtimfeocaghccdaaGreatDoorStrC
import Derived.Test.YtimfeocaghccdaaGreatDoorORight
import Derived.Maps.AppendAt
import Derived.Deep.RegionLaw
import Derived.Deep.RegionHeld3
import Derived.Deep.DeepCutAuto
import Derived.Deep.AppendLies
namespace Go.Proofs.YtimfeocaghccdaaGreatDoor
set_option maxRecDepth 100000
open Go.RowKit Go.Maps
set_option linter.unusedVariables false
set_option linter.unusedSimpArgs false
set_option maxRecDepth 100000

def O5.v' (o : O5) : Value := opv o.n o.r o.d o.t o.l
theorem step_new (w : World) (x : Int × Option Kd) : ∀ j u, (stc x)[j]? = some u → (w.alloc (.cells #[.int .i64 x.1, .bool (spI x.2), .int .i64 (spT x.2), .string (bs (spN x.2))] 93)).cell? ((⟨w.heap.size, 0, none⟩ : Addr).add j) = some u := by
  intro j u hu
  rw [Addr.add_lit, Nat.zero_add, cell_of_row _ w.heap.size j _ _ (0, 0) (heap_alloc_new w _)]
  have e : stc x = (#[.int .i64 x.1, .bool (spI x.2), .int .i64 (spT x.2), .string (bs (spN x.2))] : Array Value).toList := by simp [stc]
  rw [e] at hu
  simpa using hu
theorem right_len {l : List UInt8} (h : right l = true) : l.length ≤ 20 := by
  unfold right at h
  simp at h
  omega
set_option maxHeartbeats 2000000 in
theorem tapply_wrong (g : Nat) (L : List Kd) (r : List (List Kd)) (fs : List Nat) (o : O5) (hl : o.l.length ≤ maxLen) (hR : o.R = false) (w : World) (hE : Env w) :
    Calls Tryz.prog 25 #[.pointer (some ⟨g, 0, none⟩), opv o.n o.r o.d o.t o.l] w (BoolRet false w) := by
  have K := hide (oright_any o.n o.r o.d o.t o.l (w.alloc (.cells #[.int .i64 o.n, .int .i64 o.r, .int .i64 o.d, .int .i64 o.t, .string (bs o.l)] 50)) hl (hE.alloc _))
  have e : opR o.n o.r o.d o.t o.l = false := hR
  rw [e] at K
  clear e hR
  unfold opv at K ⊢
  go_enter Tryz.func25, Tryz.ntmps25
  go_wp2_with fail
  refine K.out.mono ?_
  rintro e w1 ⟨rfl, hb⟩
  have B := hide (((Below.refl w.heap.size w).alloc (Nat.le_refl _) _).trans (hb.mono (by simp)))
  clear hb
  go_wp2
  go_ret
  exact ⟨rfl, B.out⟩
/-- Where Apply stands behind the remembering. -/
def ApRel (w w1 : World) (g bm : Nat) (vp : Value) (L : List Kd) (p : List (Int × Option Kd)) (o : O5) (fs : List Nat) (wx : World) : Prop :=
  ∃ gx cx, Tm wx g bm (.slice (some ⟨gx, 0, none⟩) (p.length + 1) cx) L ((o.d, fnd L o.d) :: p) ∧ wx.heap[w.heap.size]? = some (.cells #[.int .i64 o.n, .int .i64 o.r, .int .i64 o.d, .int .i64 o.t, .string (bs o.l)] 50 (0, 0)) ∧ Mod fs w wx ∧ (vp.ownBlock = some gx ∨ gx = w1.heap.size + 1)
theorem ap_end {w w1 w2 : World} {g bm : Nat} {vp : Value} {L : List Kd} {p : List (Int × Option Kd)} {o : O5} {fs : List Nat} {gx cx : Nat} {ob : Obj}
    (hT : Tm w1 g bm vp L p) (hX : w1.heap[w.heap.size]? = some (.cells #[.int .i64 o.n, .int .i64 o.r, .int .i64 o.d, .int .i64 o.t, .string (bs o.l)] 50 (0, 0))) (hM : Mod fs w w1) (hfs : fs = g :: bm :: vp.ownBlock.toList) (hlt : ∀ k ∈ fs, k < w.heap.size)
    (hown : w2.ownsRow 0 93 4 (.slice (some ⟨gx, 0, none⟩) (p.length + 1) cx) (p.length + 1) (stcs p.reverse ++ stc (o.d, fnd L o.d))) (hgr : (w1.alloc ob).drew.grownBy w2 vp.ownBlock) (hat : vp.ownBlock = some gx ∨ gx = w1.heap.size + 1) :
    ApRel w w1 g bm vp L p o fs (w2.setCell ⟨g, 1, none⟩ (.slice (some ⟨gx, 0, none⟩) (p.length + 1) cx)) := by
  have lw : w.heap.size < w1.heap.size := (Array.getElem?_eq_some_iff.1 hX).1
  have lg := hT.lt
  have hgs := hlt g (by rw [hfs]; simp)
  have nx : ∀ b, vp.ownBlock = some b → b ≠ g ∧ b ≠ bm ∧ b ≠ w.heap.size := by
    intro b hb
    have h1 := hT.neP hb
    have h2 := hlt b (by rw [hfs]; exact mem_fs.2 (.inr (.inr hb)))
    exact ⟨h1.1, h1.2, by omega⟩
  have hb2 : ∀ b, b < w1.heap.size → b = g ∨ b = bm ∨ b = w.heap.size → w2.heap[b]? = w1.heap[b]? := by
    intro b hb hb'
    refine (hgr.block b (by show b < (w1.alloc ob).heap.size; simp; omega) ?_).trans (Below.heap_alloc w1 _ b hb)
    intro e
    have := nx b e.symm
    omega
  refine ⟨gx, cx, Tm.set_past (p := p) ((hb2 g lg (.inl rfl)).trans hT.blk) (hT.map.kept (hb2 bm hT.map.lt (.inr (.inl rfl)))) ?_, ?_, ?_, hat⟩
  · show w2.ownsRow 0 93 4 _ (p.length + 1) (stcs ((o.d, fnd L o.d) :: p).reverse)
    rw [List.reverse_cons, stcs_append]
    have e : stcs [(o.d, fnd L o.d)] = stc (o.d, fnd L o.d) := by simp [stcs]
    rw [e]
    exact hown
  · rw [Below.heap_setCell w2 _ _ w.heap.size (by show w.heap.size ≠ g; omega)]
    exact (hb2 w.heap.size lw (.inr (.inr rfl))).trans hX
  · refine Mod.setCell ?_ (.inl (by rw [hfs]; simp)) _
    refine ((hM.alloc ob).drew).trans (fs' := vp.ownBlock.toList) (Mod.of_grown hgr (fun k hk => by rw [hk]; simp)) (fun k hk => .inl ?_)
    rw [hfs]
    simp [hk]
set_option maxHeartbeats 4000000 in
theorem tapply_right (g : Nat) (L : List Kd) (r : List (List Kd)) (fs : List Nat) (o : O5) (hl : o.l.length ≤ maxLen) (hR : o.R = true) (hr : r.length < 900000) (w : World) (hE : Env w) (h : Tr w g L r fs) :
    Calls Tryz.prog 25 #[.pointer (some ⟨g, 0, none⟩), opv o.n o.r o.d o.t o.l] w (TrRet (.bool (can L o)) g (app L o) (L :: r) fs w) := by
  have hW := h.hst.wf
  have hlen := h.hst.len
  obtain ⟨r1, r2, r3⟩ := O5.R_t hR
  have hd : i64B o.d := by unfold i64B; omega
  have ht : i64B o.t := by unfold i64B; omega
  have K := hide (oright_any o.n o.r o.d o.t o.l (w.alloc (.cells #[.int .i64 o.n, .int .i64 o.r, .int .i64 o.d, .int .i64 o.t, .string (bs o.l)] 50)) hl (hE.alloc _))
  have e : opR o.n o.r o.d o.t o.l = true := hR
  rw [e] at K
  clear e
  have bx := heap_alloc_new w (.cells #[.int .i64 o.n, .int .i64 o.r, .int .i64 o.d, .int .i64 o.t, .string (bs o.l)] 50)
  have hT1 := h.below ((Below.refl _ _).alloc (Nat.le_refl _) (.cells #[.int .i64 o.n, .int .i64 o.r, .int .i64 o.d, .int .i64 o.t, .string (bs o.l)] 50))
  have hM1 := (Mod.refl fs w).alloc (.cells #[.int .i64 o.n, .int .i64 o.r, .int .i64 o.d, .int .i64 o.t, .string (bs o.l)] 50)
  have hlt := h.lt
  have HLT := hide hlt
  have HST := hide h.hst
  have HBX := hide bx
  have HT1 := hide hT1
  have HM1 := hide hM1
  have HW := hide hW
  have HR := hide hR
  have HTO := hide r2
  have sz1 : w.heap.size < (w.alloc (.cells #[.int .i64 o.n, .int .i64 o.r, .int .i64 o.d, .int .i64 o.t, .string (bs o.l)] 50)).heap.size := by simp
  clear bx hT1 hM1 hlt h hW hR hE r2
  unfold opv at K ⊢
  go_enter Tryz.func25, Tryz.ntmps25
  go_wp2_with fail
  refine K.out.mono ?_
  rintro e w1 ⟨rfl, hb⟩
  have HBX1 := hide ((hb.block _ sz1).trans HBX.out)
  have HT := hide (HT1.out.below hb)
  have HM := hide (HM1.out.trans (fs' := []) (Mod.of_below hb) (by simp))
  have sz := hb.size
  clear hb HBX HT1 HM1 K
  generalize hz : w.alloc (.cells #[.int .i64 o.n, .int .i64 o.r, .int .i64 o.d, .int .i64 o.t, .string (bs o.l)] 50) = w0 at sz sz1
  clear hz
  obtain ⟨_, bm, vp, p, T, hs, hfs⟩ := HT.out
  have hpl := hs.len
  have HS := hide hs
  have HF := hide hfs
  have HTm := hide T
  have c0 := T.cell0
  have c1 := T.cell1
  have f1 := T.free1
  have hlk := T.map.look HW.out.ok o.d hd
  have x2 := cell_of_row _ _ 2 _ _ (0, 0) HBX1.out
  have x3 := cell_of_row _ _ 3 _ _ (0, 0) HBX1.out
  have x4 := cell_of_row _ _ 4 _ _ (0, 0) HBX1.out
  simp at x2 x3 x4
  clear T hs hfs HT
  have hpl' : p.length < 900000 := by omega
  clear hpl
  unfold spv at hlk
  have hlk' : (Instr.lookup 89 (.map (some bm)) (.int .i64 o.d) false).run Tryz.prog w1.drew = .ok (.agg #[.bool (spI (fnd L o.d)), .int .i64 (spT (fnd L o.d)), .string (bs (spN (fnd L o.d)))]) w1.drew := (HTm.out.below ((Below.refl _ _).drew)).map.look HW.out.ok o.d hd
  clear hlk
  obtain ⟨i0, hi0, hz0, hz1, hz2⟩ := info_parts stepinfo
  have HP := hide (show w1.drew.ownsRow 0 93 4 vp p.length (stcs p.reverse) from HTm.out.past.kept (fun _ _ => rfl))
  have HNW := hide (step_new w1.drew (o.d, fnd L o.d))
  have HXS := hide (show (stc (o.d, fnd L o.d)).length = 1 * 4 from rfl)
  have HX1 := hide (show ∀ u ∈ stc (o.d, fnd L o.d), u.oneCell' = true by
    have := stcs_one [(o.d, fnd L o.d)]
    simpa [stcs] using this)
  have lg := HTm.out.lt
  have lw : w.heap.size < w1.heap.size := by omega
  have obA : ∃ ob, ob = Obj.cells #[.int .i64 o.d, .bool (spI (fnd L o.d)), .int .i64 (spT (fnd L o.d)), .string (bs (spN (fnd L o.d)))] 93 (0, 0) := ⟨_, rfl⟩
  have c1a := (HTm.out.alloc (.cells #[.int .i64 o.d, .bool (spI (fnd L o.d)), .int .i64 (spT (fnd L o.d)), .string (bs (spN (fnd L o.d)))] 93)).cell1
  have KE := hide (fun w2 gx cx => ap_end (w2 := w2) (gx := gx) (cx := cx) (ob := .cells #[.int .i64 o.d, .bool (spI (fnd L o.d)), .int .i64 (spT (fnd L o.d)), .string (bs (spN (fnd L o.d)))] 93) HTm.out HBX1.out HM.out HF.out HLT.out)
  have nx : ∀ b, vp.ownBlock = some b → b ≠ g := fun b hb => (HTm.out.neP hb).1
  have NX := hide nx
  have HB := hide HTm.out.blk
  clear nx obA
  go_upto_region 3 with (fail)
  go_cut [4] (fun s4 wx => s4 = .bool false ∧ ApRel w w1 g bm vp L p o fs wx)
  case first =>
    go_region_law (refine step_append_lies _ (by rfl) _ _ _ (by rfl) 0 93 i0 _ 4 40 Tryz.underlying88 hi0 hz0 hz1 hz2 rfl (by omega) vp p.length (stcs p.reverse) (by rfl) (HP.out.alloc _) ⟨w1.heap.size, 0, none⟩ 1 1 (stc (o.d, fnd L o.d)) (by rfl) HXS.out HNW.out HX1.out (by omega) (by simp only [maxLen]; omega) (by omega) (Nat.zero_le _) (w1.heap.size + 1) (by simp) ?_
                   intro gx cx w2 hown2 hgrow2 hat2 hlt2
                   have hg2 := ((hgrow2.block g (by simp; omega) (fun e => NX.out g e.symm rfl)).trans (Below.heap_alloc w1 _ g lg)).trans HB.out
                   have k1 := cell_of_row _ _ 1 _ _ (0, 0) hg2
                   have fk := Joins.unfrozen_of_block hg2 1
                   simp at k1
                   have HE := hide (KE.out w2 gx cx hown2 hgrow2 hat2)
                   clear hg2 hown2 hat2 hgrow2)
    all_goals
      go_wp2_with fail
      go_meet
      exact ⟨rfl, HE.out⟩
  case rest =>
    obtain ⟨rfl, gx, cx, T3, X3, M3, A3⟩ := hcut
    clear c0 c1 f1 x2 x3 x4 hlk' HP HNW HXS HX1 hi0 hz0 hz1 hz2 c1a KE NX HB HBX1 HM
    have HT3 := hide T3
    have HM3 := hide M3
    have HX3 := hide X3
    have KN := hide (tknown_m g bm _ L _ HW.out.ok o.t ht wc T3)
    have KA := hide (tabove_m g bm _ L _ HW.out o.d o.t hd ht wc T3)
    have y2 := cell_of_row _ _ 2 _ _ (0, 0) X3
    have y3 := cell_of_row _ _ 3 _ _ (0, 0) X3
    have y4 := cell_of_row _ _ 4 _ _ (0, 0) X3
    simp at y2 y3 y4
    have HStp := hide (HS.out.app HW.out HR.out)
    have HHst := hide (Hst.app o HST.out HR.out)
    have HFS := hide (show ∀ k ∈ [g, bm, gx], k ∈ fs ∨ w.heap.size ≤ k by
      intro k hk
      rw [HF.out]
      simp only [List.mem_cons, List.not_mem_nil, or_false] at hk
      rcases hk with rfl | rfl | rfl
      · simp
      · simp
      · rcases A3 with h | h
        · exact .inl (by rw [h]; simp)
        · exact .inr (by omega))
    have HBL := hide (show bm < w.heap.size from HLT.out bm (by rw [HF.out]; simp))
    clear T3 M3 X3 A3 HTm HS HF
    go_wp2_with fail
    refine KN.out.mono ?_
    rintro e w3 ⟨rfl, hw3⟩
    subst hw3
    cases hk : isKn L o.t with
    | false =>
      have E1 := hide (show can L o = false by unfold can; rw [hk]; rfl)
      have E2 := hide (show app L o = L by unfold app; rw [E1.out]; simp)
      clear hk
      go_wp2
      go_ret
      rw [E1.out]
      have hh := HHst.out
      have hs := HStp.out
      rw [E2.out] at hh hs ⊢
      exact ⟨rfl, [g, bm, gx], ⟨hh, bm, _, _, HT3.out, hs, rfl⟩, HM3.out, HFS.out⟩
    | true =>
      have HK := hide hk
      clear hk
      go_wp2_with fail
      refine KA.out.mono ?_
      rintro e w4 ⟨rfl, hb4⟩
      have HT4 := hide (HT3.out.below hb4)
      have HM4 := hide (HM3.out.trans (fs' := []) (Mod.of_below hb4) (by simp))
      have lx : w.heap.size < w3.heap.size := (Array.getElem?_eq_some_iff.1 HX3.out).1
      have X4 := (hb4.block _ lx).trans HX3.out
      have z2 := cell_of_row _ _ 2 _ _ (0, 0) X4
      have z3 := cell_of_row _ _ 3 _ _ (0, 0) X4
      have z4 := cell_of_row _ _ 4 _ _ (0, 0) X4
      simp at z2 z3 z4
      have HX4 := hide X4
      have lx4 : w.heap.size < w4.heap.size := by have := hb4.size; omega
      clear hb4 X4 y2 y3 y4 HT3 HM3 HX3 KN KA lx
      cases ha : abv L o.d o.t with
      | true =>
        have E1 := hide (show can L o = false by unfold can; rw [ha]; simp)
        have E2 := hide (show app L o = L by unfold app; rw [E1.out]; simp)
        clear ha
        go_wp2
        go_ret
        rw [E1.out]
        have hh := HHst.out
        have hs := HStp.out
        rw [E2.out] at hh hs ⊢
        exact ⟨rfl, [g, bm, gx], ⟨hh, bm, _, _, HT4.out, hs, rfl⟩, HM4.out, HFS.out⟩
      | false =>
        have E1 := hide (show can L o = true by unfold can; rw [ha, HK.out]; rfl)
        have E2 := hide (show app L o = putS L o.d (some o.kd) by unfold app; rw [E1.out]; simp)
        clear ha
        have hl48 : o.l.length ≤ 281474976710656 := by
          have := right_len r3
          omega
        have KC := hide (fun W => clone_any o.l W hl48)
        have KP := hide (fun W (hW : Tm W g bm _ L _) => tput_any g bm (.slice (some ⟨gx, 0, none⟩) (p.length + 1) cx) L ((o.d, fnd L o.d) :: p) o.d (some o.kd) (kd_nd o) hd HW.out.ok (by omega) W hW)
        have e : spv (some o.kd) = .agg #[.bool true, .int .i64 o.t, .string (bs o.l)] := rfl
        rw [e] at KP
        clear e
        have hS4 := And.intro z2 (And.intro z3 z4)
        have nbm : w.heap.size ≠ bm := by
          have := HBL.out
          omega
        go_wp2_with fail
        go_region_held3 (fun w' => w'.cell? ⟨w.heap.size, 2, none⟩ = some (.int .i64 o.d) ∧ w'.cell? ⟨w.heap.size, 3, none⟩ = some (.int .i64 o.t) ∧ w'.cell? ⟨w.heap.size, 4, none⟩ = some (.string (bs o.l)))
          (first | with_reducible exact hS7 | with_reducible exact hS6 | with_reducible exact hS4 | go_keep)
          (first
            | (go_at_call 33
               (with_reducible refine (KC.out _).mono ?_)
               rintro e w6 ⟨rfl, hb6⟩
               have hb6' : Below w4.heap.size w4 w6 := ⟨hb6.os, hb6.tape, hb6.output, hb6.size, hb6.block⟩
               have HT6 := hide (HT4.out.below hb6')
               have HM6 := hide (HM4.out.trans (fs' := []) (Mod.of_below hb6') (by simp))
               have X6 := (hb6'.block _ lx4).trans HX4.out
               have hS6 := And.intro (cell_of_row _ _ 2 _ _ (0, 0) X6) (And.intro (cell_of_row _ _ 3 _ _ (0, 0) X6) (cell_of_row _ _ 4 _ _ (0, 0) X6))
               simp at hS6
               have HX6 := hide X6
               have lx6 : w.heap.size < w6.heap.size := by have := hb6'.size; omega
               clear X6 hb6 hb6')
            | (go_at_call 48
               (with_reducible refine (KP.out _ HT6.out).mono ?_)
               rintro e w7 ⟨rfl, hT7, hM7⟩
               have HT7 := hide hT7
               have HM7 := hide (HM6.out.trans hM7 (fun k hk => HFS.out k (by simp at hk; simp [hk])))
               have X7 := (hM7.block _ lx6 (by simp [nbm])).trans HX6.out
               have hS7 := And.intro (cell_of_row _ _ 2 _ _ (0, 0) X7) (And.intro (cell_of_row _ _ 3 _ _ (0, 0) X7) (cell_of_row _ _ 4 _ _ (0, 0) X7))
               simp at hS7
               clear hT7 hM7 X7))
        go_wp2
        go_ret
        rw [E1.out]
        have hh := HHst.out
        have hs := HStp.out
        rw [E2.out] at hh hs ⊢
        exact ⟨rfl, [g, bm, gx], ⟨hh, bm, _, _, HT7.out, hs, rfl⟩, HM7.out, HFS.out⟩
end Go.Proofs.YtimfeocaghccdaaGreatDoor
