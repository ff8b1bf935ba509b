/-
  Contracts of the tree's list, All and Kids. Conditions: the tree is one, in memory, of not more than a million nodes.
-/
import Derived.Test.YtimfeocaghccdaaGreatDoorTSort
import Derived.Test.YtimfeocaghccdaaGreatDoorTSmall
import Derived.Shelf.Abstract
namespace Go.Proofs.YtimfeocaghccdaaGreatDoor
set_option maxRecDepth 100000
open Go.RowKit Go.Maps
set_option linter.unusedVariables false
set_option linter.unusedSimpArgs false
set_option maxRecDepth 100000

theorem grown_of_below {w w' : World} (h : Below w.heap.size w w') : w.grownBy w' none := ⟨h.os, h.tape, h.output, h.size, fun k hk _ => h.block k hk⟩
/-- Going through the spots of a tree. -/
def Rng (w : World) (bm r : Nat) (L : List Kd) (left : Lit → Bool) (cnt : Nat) : Prop := w.ranges Tryz.prog 3 spotElem bm r L.length (dOf L) left cnt
theorem Rng.below {w w' : World} {bm r : Nat} {L : List Kd} {left : Lit → Bool} {cnt : Nat} (h : Rng w bm r L left cnt) (hb : Below w.heap.size w w') : Rng w' bm r L left cnt := World.ranges.kept h (grown_of_below hb) (by simp) (by simp)
theorem Rng.grown {w w' : World} {bm r : Nat} {L : List Kd} {left : Lit → Bool} {cnt : Nat} {row : Option Nat} (h : Rng w bm r L left cnt) (hg : w.grownBy w' row) (h1 : some bm ≠ row) (h2 : some r ≠ row) : Rng w' bm r L left cnt := World.ranges.kept h hg h1 h2
/-- A kid's spot as the map tells it. -/
def mkS (c : Int × List UInt8) : Value := .agg #[.bool true, .int .i64 c.1, .string (bs c.2)]
theorem invK (key : Value) (kl : Lit) (h : keyOf Tryz.prog 3 key = some kl) : ∃ x, key = Value.int .i64 x := by
  obtain ⟨x, hx, _⟩ := Maps.keyOf_int_inv Tryz.underlying3 h
  exact ⟨x, hx⟩
theorem invV (v : Value) (y : DataW Unit × List MemPlace) (h : spotElem v = some y) : ∃ c, v = mkS c := by
  obtain ⟨t, l, hv, _⟩ := spotElem_inv h
  exact ⟨(t, l), hv⟩
/-- What a step tells: a node that is still to come. -/
theorem rng_step {L : List Kd} (hL : Ok L) {x t : Int} {l : List UInt8} {kl : Lit} {y1 : DataW Unit} {y2 : List MemPlace} (hkey : keyOf Tryz.prog 3 (.int .i64 x) = some kl) (hv : spotElem (mkS (t, l)) = some (y1, y2)) (hat : ∀ zd, (dOf L).atKey kl zd = y1) :
    ∃ k ∈ L, kl = .int .i64 k.nd ∧ x = k.nd ∧ t = k.to ∧ l = k.nm := by
  obtain ⟨x', ex, rfl, _⟩ := Maps.keyOf_int_inv Tryz.underlying3 hkey
  cases ex
  obtain ⟨k, hk, hn, he⟩ := step_kd hL hv hat
  have e : mkS (t, l) = mkS (k.to, k.nm) := he
  unfold mkS at e
  simp at e
  exact ⟨k, hk, by rw [hn], hn.symm, e.1, bs_inj e.2⟩
/-- Where list stands. -/
def ListRel (w : World) (bm : Nat) (L : List Kd) (q : Kd → Bool) (v : Value) (wr : World) : Prop :=
  ∃ left cnt done, Rng wr bm w.heap.size L left cnt ∧ Coll L left done ∧ OwnKids wr (w.heap.size + 1) v (done.filter q) ∧ Below w.heap.size w wr ∧ w.heap.size < wr.heap.size
theorem Coll.len {L : List Kd} {left : Lit → Bool} {done : List Kd} (h : Coll L left done) : done.length ≤ L.length := by
  have := pigeon (done.map (·.nd)) (L.map (·.nd)) h.one (fun x hx => by
    obtain ⟨k, hk, rfl⟩ := List.mem_map.1 hx
    exact List.mem_map.2 ⟨k, (h.mem k hk).1, rfl⟩)
  simpa using this
set_option maxHeartbeats 4000000 in
theorem tlist_any (g : Nat) (L : List Kd) (r : List (List Kd)) (fs : List Nat) (f : Nat) (cb : Array Value) (q : Kd → Bool) (hn : L.length ≤ 1000000) (w : World) (h : Tr w g L r fs)
    (ef : ∀ args w, (callFunc f args).run Tryz.prog w = .ok (.enter f args) w)
    (KF : ∀ W, Below w.heap.size w W → ∀ k : Kd, Calls Tryz.prog f (#[.agg #[.int .i64 k.to, .string (bs k.nm), .int .i64 k.nd]] ++ cb) W (BoolRet (q k) W)) :
    Calls Tryz.prog 40 #[.pointer (some ⟨g, 0, none⟩), .func (.func f) #[] cb] w (fun e w' => ∃ v, e = .returned v ∧ OwnKids w' w.heap.size v (sortK (L.filter q)) ∧ Below w.heap.size w w') := by
  have hL := h.ok
  obtain ⟨_, bm, vp, p, T, _, rfl⟩ := h
  have c0 := T.cell0
  have hown := T.map
  unfold Mp at hown
  have HO := hide hown
  have HL := hide hL
  have HKF := hide KF
  have lb := T.map.lt
  have HS := hide (Coll.start L)
  clear T hown hL KF
  go_enter Tryz.func40, Tryz.ntmps40
  go_wp2_with (at_range; refine wpList_range_own _ rfl _ 89 rfl 3 74 law Tryz.underlying89 spotElem bm L.length (dOf L) rfl HO.out ?_; intro w0 hrg0 hg0 hs0)
  have R0 := hide (show ListRel w bm L q (.slice none 0 0) w0 from ⟨_, _, [], hrg0, HS.out, OwnKids.nil _ _, ⟨hg0.os, hg0.tape, hg0.output, hg0.size, fun k hk => hg0.block k hk (by simp)⟩, by omega⟩)
  clear hrg0 hg0 hs0 HS HO c0
  go_frame
  go_loopw [5] (fun v wr => ListRel w bm L q v wr) (fun _ wr => wr.rangeLeft bm w.heap.size)
  case atStart => exact R0.out
  case round =>
    obtain ⟨left, cnt, done, hrg, hC, hown, hB, hz⟩ := hrel
    have HR := hide hrg
    have HC := hide hC
    have HW := hide hown
    have HB := hide hB
    have hlen := hC.len
    clear hrg hC hown hB
    go_wp2_with (at_next; refine wpList_next_ranges _ rfl _ rfl 3 law spotElem (Value.int .i64) mkS invK invV bm w.heap.size L.length _ _ _ rfl HR.out ?_ ?_)
    · intro hc0 hl0
      have HP := hide (HC.out.done HL.out hl0)
      clear hc0 hl0
      have KS := hide (sort_any (w.heap.size + 1) u5 _ wr HW.out (Nat.le_trans (List.length_filter_le _ _) (by omega)))
      go_wp2_with fail
      refine KS.out.mono ?_
      rintro e w2 ⟨rfl, hk2, hg2⟩
      have HK := hide hk2
      have HB2 := hide (HB.out.grown hg2 (by omega) (fun k hk => by have := (HW.out.lt hk).1; omega))
      clear hk2 hg2
      go_wp2
      go_ret
      refine ⟨_, rfl, ?_, HB2.out⟩
      have e : sortK (done.filter q) = sortK (L.filter q) := sortK_of_perm (HP.out.filter q)
      rw [← e]
      exact HK.out.base (by omega)
    · intro x ct cl kl y1 y2 w1 cnt1 hkey hlk hv hat hrg1 hlt hg1 hs1 hen
      obtain ⟨k, hk, rfl, rfl, rfl, rfl⟩ := rng_step HL.out hkey hv hat
      have HR1 := hide (show Rng w1 bm w.heap.size L _ cnt1 from hrg1)
      have HC1 := hide (HC.out.step HL.out hk hlk)
      have HW1 := hide (HW.out.kept (fun b hb => hg1.block b (HW.out.lt hb).2 (by
        intro e
        cases e
        have := (HW.out.lt hb).1
        omega)))
      have HB1 := hide (HB.out.grown hg1 (by omega) (fun j hj => by cases hj; exact Nat.le_refl _))
      have HLT := hide hlt
      have HD := hide (HR.out)
      have sz1 : wr.heap.size ≤ w1.heap.size := hg1.size
      unfold mkS at hen
      clear hkey hlk hv hat hrg1 hlt hg1 hs1 HC HW HB HR
      go_wp2_with fail
      have Bz := ((Below.refl w1.heap.size w1).alloc (Nat.le_refl _) (.cells #[.bool true, .int .i64 k.to, .string (bs k.nm)] 74)).alloc (by simp) (.cells #[.int .i64 k.to, .string (bs k.nm), .int .i64 k.nd] 79)
      have bk := heap_alloc_new (w1.alloc (.cells #[.bool true, .int .i64 k.to, .string (bs k.nm)] 74)) (.cells #[.int .i64 k.to, .string (bs k.nm), .int .i64 k.nd] 79)
      rw [show (w1.alloc (.cells #[.bool true, .int .i64 k.to, .string (bs k.nm)] 74)).heap.size = w1.heap.size + 1 by simp] at bk
      have R2 := HR1.out.below Bz
      have W2 := HW1.out.below Bz
      have B2 := HB1.out.trans (Bz.mono (by omega))
      have sz2 := Bz.size
      clear HR1 HW1 HB1 Bz hen
      generalize (w1.alloc (.cells #[.bool true, .int .i64 k.to, .string (bs k.nm)] 74)).alloc (.cells #[.int .i64 k.to, .string (bs k.nm), .int .i64 k.nd] 79) = wA at R2 W2 B2 bk sz2 ⊢
      refine (HKF.out wA B2 k).mono ?_
      rintro e w2 ⟨rfl, hb2⟩
      have HR2 := hide (R2.below hb2)
      have HW2 := hide (W2.below hb2)
      have HB2 := hide (B2.trans (hb2.mono (by omega)))
      have bk2 := (hb2.block _ (Array.getElem?_eq_some_iff.1 bk).1).trans bk
      have y0 := cell_of_row _ _ 0 _ _ (0, 0) bk2
      have y1 := cell_of_row _ _ 1 _ _ (0, 0) bk2
      have y2 := cell_of_row _ _ 2 _ _ (0, 0) bk2
      simp at y0 y1 y2
      have sz3 := hb2.size
      clear R2 W2 B2 bk bk2 hb2
      cases hq : q k with
      | false =>
        have HF := hide (show (done ++ [k]).filter q = done.filter q by simp [hq])
        clear hq
        go_wp2_with fail
        go_roundw
        case rel =>
          refine ⟨_, cnt1, done ++ [k], HR2.out, HC1.out, ?_, HB2.out, by omega⟩
          rw [HF.out]
          exact HW2.out
        case measure => rw [World.ranges.left_eq HR2.out, World.ranges.left_eq HD.out]; exact HLT.out
      | true =>
        have HF := hide (show (done ++ [k]).filter q = done.filter q ++ [k] by simp [hq])
        clear hq
        have Bz := (Below.refl w2.heap.size w2).alloc (Nat.le_refl _) (.cells #[.int .i64 k.to, .string (bs k.nm), .int .i64 k.nd] 79)
        have R3 := hide (HR2.out.below Bz)
        have W3 := hide (HW2.out.below Bz)
        have B3 := hide (HB2.out.trans (Bz.mono (by omega)))
        have N3 := hide (kid_new w2 k)
        have sz4 := Bz.size
        have hfl : (done.filter q).length ≤ 1000000 := Nat.le_trans (List.length_filter_le _ _) (by omega)
        clear Bz HR2 HW2 HB2
        generalize hw3 : w2.alloc (.cells #[.int .i64 k.to, .string (bs k.nm), .int .i64 k.nd] 79) = w3 at R3 W3 B3 N3 sz4
        go_wp2_with (at_builtin; refine wpList_append_kid _ rfl _ _ rfl (w.heap.size + 1) _ (done.filter q) rfl W3.out ⟨w2.heap.size, 0, none⟩ 1 k rfl N3.out hfl (by omega) ?_)
        intro v4 w4 hown4 hg4 hat4
        have R4 := hide (R3.out.grown hg4 (by
          intro e
          have := (W3.out.lt e.symm).1
          omega) (by
          intro e
          have := (W3.out.lt e.symm).1
          omega))
        have B4 := hide (B3.out.grown hg4 (by omega) (fun j hj => by have := (W3.out.lt hj).1; omega))
        have O4 := hide hown4
        have sz5 := hg4.size
        clear hown4 hg4 hat4 R3 W3 B3 N3 hw3 y0 y1 y2
        go_wp2_with fail
        go_roundw
        case rel =>
          refine ⟨_, cnt1, done ++ [k], R4.out, HC1.out, ?_, B4.out, by omega⟩
          rw [HF.out]
          exact O4.out
        case measure => rw [World.ranges.left_eq R4.out, World.ranges.left_eq HD.out]; exact HLT.out
/-- Kids are answered in a new row, all that was there is as it was. -/
def KidsRet (w : World) (ks : List Kd) (e : Ending) (w' : World) : Prop := ∃ v, e = .returned v ∧ OwnKids w' w.heap.size v ks ∧ Below w.heap.size w w'
theorem all1_any (k : Kd) (w : World) : Calls Tryz.prog 41 #[.agg #[.int .i64 k.to, .string (bs k.nm), .int .i64 k.nd]] w (BoolRet true w) := by
  go_enter Tryz.func41, Tryz.ntmps41
  go_wp2
  go_ret
  exact ⟨rfl, (Below.refl _ _).alloc (Nat.le_refl _) _⟩
theorem tall_any (g : Nat) (L : List Kd) (r : List (List Kd)) (fs : List Nat) (hn : L.length ≤ 1000000) (w : World) (h : Tr w g L r fs) :
    Calls Tryz.prog 19 #[.pointer (some ⟨g, 0, none⟩)] w (KidsRet w (sortK L)) := by
  have K := hide (tlist_any g L r fs 41 #[] (fun _ => true) hn w h (enters_of Tryz.func41 (by kernel_rfl) rfl) (fun W _ k => all1_any k W))
  rw [List.filter_eq_self.2 (fun _ _ => rfl)] at K
  clear h
  go_enter Tryz.func19, Tryz.ntmps19
  go_wp2_with fail
  refine K.out.mono ?_
  rintro e w1 ⟨v, rfl, h1, h2⟩
  have H1 := hide h1
  have H2 := hide h2
  clear h1 h2
  go_wp2
  go_ret
  exact ⟨_, rfl, H1.out, H2.out⟩
end Go.Proofs.YtimfeocaghccdaaGreatDoor
