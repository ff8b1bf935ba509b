/-
  Contracts of package tree: put, and slices.Delete of the last one that is remembered. Conditions: the tree is one, in memory; the numbers are of the machine's.
-/
import Derived.Test.YtimfeocaghccdaaGreatDoorTSmall
import Derived.StillTailTactics
import Derived.Deep.CutRange
namespace Go.Proofs.YtimfeocaghccdaaGreatDoor
set_option maxRecDepth 100000
open Go.RowKit Go.Maps
set_option linter.unusedVariables false
set_option maxRecDepth 100000

theorem Tm.map_turned {w w' : World} {g bm : Nat} {vp : Value} {L M : List Kd} {p : List (Int × Option Kd)} (h : Tm w g bm vp L p) (ht : w.mapTurned w' bm) (hm : Mp w' bm M) : Tm w' g bm vp M p := by
  have hg := ht.grown
  have hne := h.ne
  refine ⟨(hg.block g h.lt (by simp [hne])).trans h.blk, hm, h.past.kept fun b hb => ?_⟩
  have := h.neP hb
  exact hg.block b (h.past.lt hb) (by simp [this.2])
set_option maxHeartbeats 1000000 in
theorem tput_any (g bm : Nat) (vp : Value) (L : List Kd) (p : List (Int × Option Kd)) (n : Int) (s : Option Kd) (hs : ∀ k, s = some k → k.nd = n) (hn : i64B n) (hL : Ok L) (hlen : L.length < 1000000) (w : World) (h : Tm w g bm vp L p) :
    Calls Tryz.prog 48 #[.pointer (some ⟨g, 0, none⟩), .int .i64 n, spv s] w (fun e w' => e = .returned (.tuple #[]) ∧ Tm w' g bm vp (putS L n s) p ∧ Mod [bm] w w') := by
  cases s with
  | none =>
    have e : spv none = .agg #[.bool false, .int .i64 0, .string ⟨#[]⟩] := rfl
    rw [e]
    clear e
    have T1 := h.alloc (.cells #[.bool false, .int .i64 0, .string ⟨#[]⟩] 74)
    have M1 := (Mod.refl [bm] w).alloc (.cells #[.bool false, .int .i64 0, .string ⟨#[]⟩] 74)
    have HT := hide T1
    have HM := hide M1
    have HD := hide (dOf_del hL n)
    have hown := T1.map
    unfold Mp at hown
    have HO := hide hown
    have c0 := T1.cell0
    clear T1 M1 hown h
    go_enter Tryz.func48, Tryz.ntmps48
    go_wp2_with (at_delete; refine wpList_delete_own _ rfl _ _ 89 3 rfl 74 law Tryz.underlying89 spotElem bm L.length (dOf L) rfl HO.out _ _ rfl (keyI hn) ?_; intro w2 hown2 ht2)
    rw [HD.out] at hown2
    have HO2 := hide (Mp.of hown2)
    have HT2 := hide (HT.out.map_turned ht2 HO2.out)
    have HM2 := hide (HM.out.trans (fs' := [bm]) (Mod.of_grown ht2.grown (by simp)) (by simp))
    clear hown2 ht2 HD HO HT HM c0
    go_end0
    exact ⟨rfl, HT2.out, HM2.out⟩
  | some k =>
    have hk := hs k rfl
    subst hk
    have e : spv (some k) = .agg #[.bool true, .int .i64 k.to, .string (bs k.nm)] := rfl
    have HV := hide (spotElem_mk k)
    rw [e] at HV ⊢
    clear e hs
    have T1 := h.alloc (.cells #[.bool true, .int .i64 k.to, .string (bs k.nm)] 74)
    have M1 := (Mod.refl [bm] w).alloc (.cells #[.bool true, .int .i64 k.to, .string (bs k.nm)] 74)
    have HT := hide T1
    have HM := hide M1
    have HD := hide (dOf_put hL hn)
    have hown := T1.map
    unfold Mp at hown
    have HO := hide hown
    have c0 := T1.cell0
    clear T1 M1 hown h
    go_enter Tryz.func48, Tryz.ntmps48
    go_upto_region 2 with (fail)
    have bx := heap_alloc_new w (.cells #[.bool true, .int .i64 k.to, .string (bs k.nm)] 74)
    generalize w.alloc (.cells #[.bool true, .int .i64 k.to, .string (bs k.nm)] 74) = w1 at HT HM HO c0 bx ⊢
    have b0 := cell_of_row w1 w.heap.size 0 _ _ (0, 0) bx
    have b1 := cell_of_row w1 w.heap.size 1 _ _ (0, 0) bx
    have b2 := cell_of_row w1 w.heap.size 2 _ _ (0, 0) bx
    clear bx
    simp at b0 b1 b2
    go_wp2_with fail
    go_still_tail 6, (by kernel_rfl)
    change wpList _ _ _ _ _ w1.drew
    go_wp2_with (at_mapUpdate; refine wpList_mapUpdate_in _ rfl _ _ _ 89 rfl 3 74 law Tryz.underlying89 spotElem bm L.length (dOf L) rfl HO.out (by unfold maxLen; omega) _ _ _ rfl rfl (keyI hn) _ [] HV.out ?_; intro w2 hown2 ht2)
    have e1 := HD.out
    unfold ent at e1
    rw [e1] at hown2
    have HO2 := hide (Mp.of hown2)
    have HT1 : Tm w1.drew g bm vp L p := HT.out.below ((Below.refl _ _).drew)
    have HT2 := hide (HT1.map_turned ht2 HO2.out)
    have HM2 := hide (HM.out.drew.trans (fs' := [bm]) (Mod.of_grown ht2.grown (by simp)) (by simp))
    clear hown2 ht2 HD HO HT HM c0 e1 HT1
    go_end0
    exact ⟨rfl, HT2.out, HM2.out⟩
end Go.Proofs.YtimfeocaghccdaaGreatDoor
