/-
  Contracts of slices.Clone of what is remembered, and of the tree's Clone. Conditions: the tree is one, in memory, and not more than a million operations are remembered.
-/
import Derived.Test.YtimfeocaghccdaaGreatDoorTUndo
import Derived.Test.YtimfeocaghccdaaGreatDoorShelf
import Derived.Shelf.SlMaps.Clone
import Derived.Maps.AppendAt
import Derived.Deep.RegionHeld3
import Derived.Lib.LazyBuf
namespace Go.Proofs.YtimfeocaghccdaaGreatDoor
set_option maxRecDepth 100000
open Go.RowKit Go.Maps Go.Shelf
set_option linter.unusedVariables false
set_option linter.unusedSimpArgs false
set_option maxRecDepth 100000

theorem own_empty (w : World) : (w.alloc (.cells #[] 93)).ownsRow w.heap.size 93 4 (.slice (some ⟨w.heap.size, 0, none⟩) 0 0) 0 [] :=
  ⟨rfl, .inr ⟨w.heap.size, 0, #[], rfl, Nat.le_refl _, heap_alloc_new w _, Nat.le_refl _, by simp [maxLen], rfl, rfl⟩⟩
theorem own_base4 {w : World} {base base' : Nat} {v : Value} {n : Nat} {xs : List Value} (h : w.ownsRow base 93 4 v n xs) (hb : base' ≤ base) : w.ownsRow base' 93 4 v n xs := by
  refine ⟨h.1, ?_⟩
  rcases h.2 with h0 | ⟨g, cap, cur, h1, h2, h3⟩
  · exact .inl h0
  · exact .inr ⟨g, cap, cur, h1, by omega, h3⟩
theorem own_row4 {w : World} {base : Nat} {v : Value} {n : Nat} {xs : List Value} (h : w.ownsRow base 93 4 v n xs) : ∀ b, v.ownBlock = some b → base ≤ b := by
  intro b hb
  rcases h.2 with ⟨rfl, _⟩ | ⟨g, cap, cur, rfl, h2, h3⟩
  · simp [Value.ownBlock] at hb
  · simp [Value.ownBlock] at hb
    omega
def SCloneRet (w : World) (p : List (Int × Option Kd)) (e : Ending) (w' : World) : Prop := ∃ v', e = .returned v' ∧ Past w' v' p ∧ (∀ b, v'.ownBlock = some b → w.heap.size ≤ b) ∧ (∃ A c, v' = .slice A p.length c) ∧ Below w.heap.size w w'
set_option maxHeartbeats 1000000 in
theorem sclone_any (v : Value) (p : List (Int × Option Kd)) (hp : p.length < 1000000) (w : World) (h : Past w v p) : Calls Tryz.prog 67 #[v] w (SCloneRet w p) := by
  have h' := h
  rcases h'.2 with ⟨rfl, h0⟩ | ⟨g, cap, cur, rfl, h2, h3, h4, h5, h6, h7⟩
  · have e : p = [] := List.length_eq_zero_iff.1 h0
    subst e
    clear h h' h0 hp
    have hq := run_eql_slice_nil (P := Tryz.prog) w 88 93 none 0 0 Tryz.underlying88
    go_enter Tryz.func67, Tryz.ntmps67
    go_wp2
    go_ret
    exact ⟨_, rfl, Past.nil _, by simp [Value.ownBlock], ⟨_, _, rfl⟩, Below.refl _ _⟩
  · obtain ⟨i0, hi0, hz0, hz1, hz2⟩ := info_parts stepinfo
    have HO := hide (own_empty w)
    have Bz := (Below.refl w.heap.size w).alloc (Nat.le_refl _) (.cells #[] 93)
    have HC := hide (show ∀ j u, (stcs p.reverse)[j]? = some u → (w.alloc (.cells #[] 93)).cell? ((⟨g, 0, none⟩ : Addr).add j) = some u from fun j u hu => by
      have := World.ownsRow.cells (g := g) h rfl j u hu
      exact (Bz.cell (World.block_lt_of_cell? w _ this)).trans this)
    have HB := hide Bz
    have hl : (stcs p.reverse).length = p.length * 4 := by rw [stcs_length]; simp
    have HLN := hide hl
    clear h h' h2 h3 h6 h7 Bz hl
    have hq := run_eql_slice_nil (P := Tryz.prog) w 88 93 (some ⟨g, 0, none⟩) p.length cap Tryz.underlying88
    go_enter Tryz.func67, Tryz.ntmps67
    go_wp2_with (at_builtin; refine wpList_append_own_at _ rfl _ _ 88 rfl w.heap.size 93 i0 _ 4 40 Tryz.underlying88 hi0 hz0 hz1 hz2 rfl (by decide) _ 0 [] rfl HO.out ⟨g, 0, none⟩ p.length cap (stcs p.reverse) rfl HLN.out HC.out (stcs_one _) (by unfold maxLen; omega) (by omega) (by simp) ?_)
    intro v' w' hown hgr hnil hat
    have HW := hide hown
    have HB2 := hide (HB.out.grown hgr (by simp) (fun k hk => by simp [Value.ownBlock] at hk; omega))
    have HF := hide (show ∃ A c, v' = .slice A p.length c by
      rcases hown.2 with ⟨rfl, h0⟩ | ⟨g', cap', cur', rfl, _⟩
      · exact ⟨none, 0, by rw [h0]⟩
      · exact ⟨_, _, rfl⟩)
    clear hown hgr hnil hat HO HC HB HLN
    go_wp2
    go_ret
    exact ⟨_, rfl, own_base4 HW.out (Nat.zero_le _), own_row4 HW.out, HF.out, HB2.out⟩
theorem mclone_any (b : Nat) (L : List Kd) (w : World) (h : Mp w b L) : Calls Tryz.prog 66 #[.map (some b)] w (fun e w' => e = .returned (.map (some w.heap.size)) ∧ Mp w' w.heap.size L ∧ Below w.heap.size w w') := by
  have hc := AnyW.maps_Clone_owns Tryz.cloneM 3 spotElem b L.length (dOf L) w h
  have hc' : Calls Tryz.prog 66 #[.map (some b)] w _ := hc
  refine hc'.mono ?_
  rintro e w' ⟨rfl, h1, _, h3⟩
  exact ⟨rfl, h1, h3⟩
def CloneRet (w : World) (L : List Kd) (r : List (List Kd)) (e : Ending) (w' : World) : Prop := ∃ g' fs', e = .returned (.pointer (some ⟨g', 0, none⟩)) ∧ Tr w' g' L r fs' ∧ (∀ k ∈ fs', w.heap.size ≤ k) ∧ Below w.heap.size w w'
set_option maxHeartbeats 2000000 in
theorem tclone_any (g : Nat) (L : List Kd) (r : List (List Kd)) (fs : List Nat) (hr : r.length < 900000) (w : World) (h : Tr w g L r fs) : Calls Tryz.prog 38 #[.pointer (some ⟨g, 0, none⟩)] w (CloneRet w L r) := by
  obtain ⟨hst, bm, vp, p, T, hs, rfl⟩ := h
  have hpl := hs.len
  have c0 := T.cell0
  have c1 := T.cell1
  have KM := hide (fun W (hW : Mp W bm L) => mclone_any bm L W hW)
  have KS := hide (fun W (hW : Past W vp p) => sclone_any vp p (by omega) W hW)
  have HT := hide T
  have HS := hide hs
  have HH := hide hst
  have TD := hide (T.below ((Below.refl _ _).drew))
  have hS0 := And.intro c0 c1
  clear T hs hst hpl
  go_enter Tryz.func38, Tryz.ntmps38
  go_wp2_with fail
  go_region_held3 (fun w' => w'.cell? ⟨g, 0, none⟩ = some (.map (some bm)) ∧ w'.cell? ⟨g, 1, none⟩ = some vp)
    (first | with_reducible exact hS2 | with_reducible exact hS1 | with_reducible exact hS0 | go_keep)
    (first
      | (go_at_call 66
         (with_reducible refine (KM.out _ ?hm).mono ?_)
         case hm => exact TD.out.map
         rintro e w1 ⟨rfl, hm1, hb1⟩
         have hb1' : Below w.heap.size w w1 := ⟨hb1.os, hb1.tape, hb1.output, hb1.size, hb1.block⟩
         have T1 := HT.out.below hb1'
         have hS1 := And.intro T1.cell0 T1.cell1
         have M1 := hide hm1
         have B1 := hide hb1'
         have HT1 := hide T1
         have lm := hm1.lt
         clear hm1 hb1 hb1' T1)
      | (go_at_call 67
         (with_reducible refine (KS.out _ HT1.out.past).mono ?_)
         rintro e w2 ⟨v', rfl, hp2, hv2, hf2, hb2⟩
         obtain ⟨A2, k2, rfl⟩ := hf2
         have T2 := HT1.out.below hb2
         have hS2 := And.intro T2.cell0 T2.cell1
         have M2 := hide (M1.out.kept (hb2.block _ lm))
         have B2 := hide (B1.out.trans (hb2.mono B1.out.size))
         have P2 := hide hp2
         have V2 := hide (show ∀ b, (Value.slice A2 p.length k2).ownBlock = some b → w.heap.size ≤ b from fun b hb => Nat.le_trans B1.out.size (hv2 b hb))
         clear hp2 hv2 hb2 T2))
  have Bz := (Below.refl w2.heap.size w2).alloc (Nat.le_refl _) (.cells #[.map (some w.heap.size), .slice A2 p.length k2] 91)
  have TF := hide (show Tr (w2.alloc (.cells #[.map (some w.heap.size), .slice A2 p.length k2] 91)) w2.heap.size L r (w2.heap.size :: w.heap.size :: (Value.slice A2 p.length k2).ownBlock.toList) from
    ⟨HH.out, w.heap.size, _, p, ⟨heap_alloc_new w2 _, (show Mp w2 w.heap.size L from M2.out).kept (Bz.block _ M2.out.lt), P2.out.kept fun b hb => Bz.block _ (P2.out.lt hb)⟩, HS.out, rfl⟩)
  have BF := hide (B2.out.alloc B2.out.size (.cells #[.map (some w.heap.size), .slice A2 p.length k2] 91))
  have sz := B2.out.size
  clear Bz
  go_wp2
  go_ret
  refine ⟨_, _, rfl, TF.out, fun k hk => ?_, BF.out⟩
  rcases mem_fs.1 hk with rfl | rfl | hb
  · exact sz
  · exact Nat.le_refl _
  · exact V2.out k hb
end Go.Proofs.YtimfeocaghccdaaGreatDoor
