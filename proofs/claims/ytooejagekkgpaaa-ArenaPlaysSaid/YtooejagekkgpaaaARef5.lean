/-
  The document's arena: the contract of Put. Conditions: the arena is one, in memory, of not more than a million puts, and tells what the program's tells.
-/
import Derived.Test.YtooejagekkgpaaaARef4
namespace Go.Proofs.Ytooejagekkgpaaa
open Go.RowKit
set_option linter.unusedVariables false
set_option linter.unusedSimpArgs false
set_option maxRecDepth 100000

theorem putinfo : (Try.prog.info? 35).map (fun i => (i.zero, i.size, i.bytes)) = some (some (.agg #[.int .i64 0, .int .i64 0, .int .i64 0, .bool false, .int .i64 0]), 5, 40) := by kernel_rfl
theorem rput_full (W : World) (g most N : Nat) (L : List En) (A : Ar) (x : Int) (hT : Tied A L N) (hf : ¬ A.live < most) (hL : L.length ≤ 1000000) (w : World) (h : Dd W w g most L N) : Calls Try.prog 11 #[.pointer (some ⟨g, 0, none⟩), .int .i64 x] w (PutNo w) := by
  obtain ⟨hw, v, hM, hg0, hv0⟩ := h
  have D := (Below.refl w.heap.size w).alloc (Nat.le_refl _) (.cells #[.int .i64 0, .int .i64 0] 31)
  have bx := heap_alloc_new w (.cells #[.int .i64 0, .int .i64 0] 31)
  have lx : w.heap.size < (w.alloc (.cells #[.int .i64 0, .int .i64 0] 31)).heap.size := by simp
  have H1 := hide (hM.below D)
  have B := hide D
  have HX := hide bx
  have hge : most ≤ liN L := by rw [hT.liv]; omega
  clear D bx hM hT hw hf
  go_enter Try.func11, Try.ntmps11
  go_upto_region 1 with (fail)
  generalize w.alloc (.cells #[.int .i64 0, .int .i64 0] 31) = w1 at B HX lx H1 ⊢
  have K := hide (fun V (hb : Below w1.heap.size w1 V) => rlive_any g most N v L hL V (H1.out.below hb))
  obtain ⟨c0, -, -⟩ := H1.out.cells
  generalize liN L = n at K hge
  have d : decide ((n : Int) ≥ (most : Int)) = true := by simp; omega
  go_wp2_with fail
  go_region_held3 (fun w' => w'.cell? ⟨g, 0, none⟩ = some (.int .i64 (most : Int)))
    (first | with_reducible exact hS1 | with_reducible exact c0 | go_keep)
    (first
      | (go_at_call 17
         (with_reducible refine (K.out _ (Below.refl _ w1).drew).mono ?_)
         rintro e w2 ⟨rfl, hb⟩
         have hb' : Below w1.heap.size w1 w2 := ⟨hb.os, hb.tape, hb.output, hb.size, hb.block⟩
         have hS1 := cell_b hb' c0
         have B2 := hide hb'
         clear hb hb'))
  have HB := hide (B.out.trans (B2.out.mono B.out.size))
  have bx2 := (B2.out.block _ lx).trans HX.out
  have y0 := cell_of_row _ _ 0 _ _ (0, 0) bx2
  have y1 := cell_of_row _ _ 1 _ _ (0, 0) bx2
  have f0 := Joins.unfrozen_of_block bx2 0
  have f1 := Joins.unfrozen_of_block bx2 1
  simp at y0 y1
  clear K bx2 HX hS1 c0
  go_wp2_with fail
  refine bodyPost_ret (v := .tuple #[.agg #[.int .i64 0, .int .i64 0], .bool false]) ?_ rfl ⟨rfl, (HB.out.setCell (p := ⟨w.heap.size, 0, none⟩) (by simp) _).setCell (p := ⟨w.heap.size, 1, none⟩) (by simp) _⟩
  rw [results_cell_tmp rfl]
  go_simp
/-- What is left behind the append. -/
def PtRel (W w : World) (g most N kh : Nat) (s t : Int) (L' : List En) (wx : World) : Prop := Dd W wx g most L' N ∧ Kd w wx ∧ Hb wx kh s t
theorem rput_end {W w w5 : World} {g most N gx cx c : Nat} {a1 : Option Addr} {s n : Nat} {x : Int} {L : List En} {kh : Nat} {hs ht : Int} (hw : Below W.heap.size W w) (h : Dm w g most (.slice a1 L.length c) L N) (hg0 : W.heap.size ≤ g) (hv0 : ∀ b, (Value.slice a1 L.length c).ownBlock = some b → W.heap.size ≤ b) (hh : Hb w kh hs ht)
    (ho : w5.ownsRow 0 35 5 (.slice (some ⟨gx, 0, none⟩) (L.length + 1) cx) (L.length + 1) (ecs L ++ ecv ⟨s, n, x, true, 0⟩))
    (hg : (w.drew.alloc (.cells #[.int .i64 (s : Int), .int .i64 (n : Int), .int .i64 x, .bool true, .int .i64 0] 35)).grownBy w5 (Value.slice a1 L.length c).ownBlock)
    (hat : (Value.slice a1 L.length c).ownBlock = some gx ∨ gx = w.heap.size + 1) :
    w5.cell? ⟨g, 1, none⟩ = some (.slice a1 L.length c) ∧ w5.frozen? ⟨g, 1, none⟩ = false ∧ PtRel W w g most N kh hs ht (L ++ [⟨s, n, x, true, 0⟩]) (w5.setCell ⟨g, 1, none⟩ (.slice (some ⟨gx, 0, none⟩) (L.length + 1) cx)) := by
  have D : Below w.heap.size w (w.drew.alloc (.cells #[.int .i64 (s : Int), .int .i64 (n : Int), .int .i64 x, .bool true, .int .i64 0] 35)) := ((Below.refl _ w).drew).alloc (Nat.le_refl _) _
  have h1 := h.below D
  have hb := (hg.block g h1.lt (fun e => h.ne e.symm)).trans h1.blk
  have e : ecs (L ++ [⟨s, n, x, true, 0⟩]) = ecs L ++ ecv ⟨s, n, x, true, 0⟩ := by rw [ecs_append]; simp [ecs]
  have hlo : W.heap.size ≤ gx := by
    rcases hat with h2 | h2
    · exact hv0 _ h2
    · have := hw.size
      omega
  have hbw : Below W.heap.size W w5 := (hw.trans (D.mono hw.size)).trans ⟨hg.os, hg.tape, hg.output, hg.size, fun k hk => hg.block k (by have := hw.size; have := D.size; omega) (fun e => by have := hv0 k e.symm; omega)⟩
  have hKd : Kd w w5 := ⟨Nat.le_trans D.size hg.size, fun k cs t z hk t1 t2 => by
    have hkl := (Array.getElem?_eq_some_iff.1 hk).1
    have hk2 := (D.block k hkl).trans hk
    refine (hg.block k (by have := D.size; omega) (fun e => ?_)).trans hk2
    exact row_ne h.row hk t2 e.symm⟩
  have hkg : ∀ {k : Nat} {cs : Array Value} {t : TypeId} {z : Nat × Nat}, w.heap[k]? = some (Obj.cells cs t z) → t ≠ 29 → k ≠ g := by
    intro k cs t z hk t1 e
    subst e
    have := h.blk
    rw [hk] at this
    simp at this
    exact t1 this.2.1
  refine ⟨cell_of_row w5 g 1 _ _ (0, 0) hb, Joins.unfrozen_of_block hb 1, ⟨hbw.setCell (p := ⟨g, 1, none⟩) hg0 _, .slice (some ⟨gx, 0, none⟩) (L.length + 1) cx, ⟨?_, row_kept (by rw [List.length_append, e]; exact ho) fun k hk => Below.heap_setCell _ _ _ _ ?_⟩, hg0, fun b hb' => ?_⟩, ⟨?_, fun k cs t z hk t1 t2 => ?_⟩, ?_⟩
  · have := Joins.block_setCell (i := 1) hb (.slice (some ⟨gx, 0, none⟩) (L.length + 1) cx)
    simpa using this
  · rintro rfl
    exact row_ne ho hb (by decide) hk
  · simp [Value.ownBlock] at hb'
    subst hb'
    exact hlo
  · have : (w5.setCell ⟨g, 1, none⟩ (.slice (some ⟨gx, 0, none⟩) (L.length + 1) cx)).heap.size = w5.heap.size := by simp [World.setCell]
    rw [this]
    exact hKd.1
  · exact (Below.heap_setCell _ _ _ _ (hkg hk t1)).trans (hKd.2 k cs t z hk t1 t2)
  · have := hh.kd hKd
    exact (Below.heap_setCell _ _ _ _ (hkg hh (by decide))).trans this
theorem Dd.dm {W w : World} {g most N : Nat} {L : List En} (h : Dd W w g most L N) : ∃ a c, Dm w g most (.slice a L.length c) L N ∧ W.heap.size ≤ g ∧ ∀ b, (Value.slice a L.length c).ownBlock = some b → W.heap.size ≤ b := by
  obtain ⟨_, v, h2, h3, h4⟩ := h
  obtain ⟨a, c, rfl⟩ := row_form h2.row
  exact ⟨a, c, h2, h3, h4⟩
theorem Dd.setH {W w : World} {g most N k : Nat} {L : List En} {s t : Int} (h : Dd W w g most L N) (hb : Hb w k s t) (hk : W.heap.size ≤ k) (u v : Value) : Dd W ((w.setCell ⟨k, 0, none⟩ u).setCell ⟨k, 1, none⟩ v) g most L N := by
  obtain ⟨h1, x, h2, h3, h4⟩ := h
  refine ⟨(h1.setCell (p := ⟨k, 0, none⟩) hk u).setCell (p := ⟨k, 1, none⟩) hk v, x, h2.kept fun b hb' => ?_, h3, h4⟩
  have hne : b ≠ k := by
    rintro rfl
    rcases hb' with rfl | hb'
    · have := h2.blk
      rw [show w.heap[b]? = _ from hb] at this
      simp at this
    · exact row_ne h2.row hb (by decide) hb'
  rw [Below.heap_setCell _ _ _ _ hne, Below.heap_setCell _ _ _ _ hne]
set_option maxHeartbeats 4000000 in
theorem rput_any (W : World) (g most N : Nat) (L : List En) (A : Ar) (x : Int) (hT : Tied A L N) (hf : A.live < most) (hL : L.length ≤ 100000) (hS : A.sl.length ≤ 100000) (hN : N ≤ 100000) (w : World) (h : Dd W w g most L N) : Calls Try.prog 11 #[.pointer (some ⟨g, 0, none⟩), .int .i64 x] w (DdRet (.tuple #[.agg #[.int .i64 A.nxt.1, .int .i64 A.nxt.2], .bool true]) W g most (L ++ [⟨A.nxt.1, A.nxt.2, x, true, 0⟩]) N w) := by
  have D := (Below.refl w.heap.size w).alloc (Nat.le_refl _) (.cells #[.int .i64 0, .int .i64 0] 31)
  have bx := heap_alloc_new w (.cells #[.int .i64 0, .int .i64 0] 31)
  have lx : w.heap.size < (w.alloc (.cells #[.int .i64 0, .int .i64 0] 31)).heap.size := by simp
  have H1 := hide (h.below D)
  have HW0 := hide h.bel.size
  have B := hide D
  have HX := hide bx
  have HT := hide hT
  have hlt : liN L < most := by rw [hT.liv]; exact hf
  have E2 := hide (hT.put x).2
  have hus : usN L A.nxt.1 ≤ L.length := List.length_filter_le _ _
  clear D bx hT hf h
  go_enter Try.func11, Try.ntmps11
  go_upto_region 1 with (fail)
  generalize w.alloc (.cells #[.int .i64 0, .int .i64 0] 31) = w1 at B HX lx H1 ⊢
  obtain ⟨a1, c, hM, hg0, hv0⟩ := H1.out.dm
  have HM1 := hide hM
  have K := hide (fun V (hb : Below w1.heap.size w1 V) => rlive_any g most N _ L (by omega) V (HM1.out.below hb))
  obtain ⟨c0, -, -⟩ := HM1.out.cells
  have KN := hide (fun V (hb : Below w1.heap.size w1 V) => rnext_any g most N _ L A HT.out (by omega) (by omega) (by omega) V (HM1.out.below hb))
  have KU := hide (fun V (hb : Below w1.heap.size w1 V) => ruses_any g most N _ L (by omega) A.nxt.1 V (HM1.out.below hb))
  rw [show usN L A.nxt.1 = A.nxt.2 - 1 by have := E2.out; omega] at KU
  have e2 := E2.out
  generalize A.nxt = q at *
  obtain ⟨q1, q2⟩ := q
  simp only at KU e2 KN hus
  generalize usL L q1 = ul at KU
  obtain ⟨u, rfl⟩ : ∃ u, q2 = u + 1 := ⟨q2 - 1, by omega⟩
  rw [Nat.add_sub_cancel] at KU
  have hu : u ≤ 100000 := by omega
  generalize liN L = n at K hlt
  have d : decide ((n : Int) ≥ (most : Int)) = false := by simp; omega
  clear hM E2 e2 hus
  go_wp2_with fail
  go_region_held3 (fun w' => w'.cell? ⟨g, 0, none⟩ = some (.int .i64 (most : Int)))
    (first | with_reducible exact hS1 | with_reducible exact c0 | go_keep)
    (first
      | (go_at_call 17
         (with_reducible refine (K.out _ (Below.refl _ w1).drew).mono ?_)
         rintro e w2 ⟨rfl, hb⟩
         have hb' : Below w1.heap.size w1 w2 := ⟨hb.os, hb.tape, hb.output, hb.size, hb.block⟩
         have hS1 := cell_b hb' c0
         have B2 := hide hb'
         clear hb hb'))
  clear K hS1 c0 d
  go_wp2_with fail
  refine (KN.out w2 B2.out).mono ?_
  rintro e w3 ⟨rfl, hb⟩
  have B3 := hide (B2.out.trans (hb.mono B2.out.size))
  clear hb KN B2
  go_wp2_with fail
  refine (KU.out w3 B3.out).mono ?_
  rintro e w4 ⟨rfl, hb⟩
  have B4 := hide (B3.out.trans (hb.mono B3.out.size))
  clear hb KU B3
  have wu : IntKind.i64.wrap ((u : Int) + 1) = (u : Int) + 1 := wrap_in _ (by omega) (by omega)
  go_upto_region 6 with (fail)
  have D5 := (Below.refl w4.heap.size w4).alloc (Nat.le_refl _) (.cells #[.int .i64 (q1 : Int), .int .i64 ((u : Int) + 1)] 31)
  have X5 := hide (Hb.new w4 (q1 : Int) ((u : Int) + 1))
  have B5 := hide (B4.out.trans (D5.mono B4.out.size))
  have HR5 := hide ((B5.out.block _ lx).trans HX.out)
  generalize w4.heap.size = kh at X5 ⊢
  generalize w4.alloc (.cells #[.int .i64 (q1 : Int), .int .i64 ((u : Int) + 1)] 31) = w5 at X5 B5 HR5 ⊢
  clear D5 B4 HX
  have hW5 := H1.out.bel.trans (B5.out.mono H1.out.bel.size)
  have hM5 := HM1.out.below B5.out
  have HM5 := hide hM5
  have HWW := hide hW5
  obtain ⟨x0, x1⟩ := X5.out.two
  obtain ⟨-, y1, -⟩ := hM5.cells
  have y1a := (hM5.below ((Below.refl _ w5).alloc (Nat.le_refl _) (.cells #[.int .i64 (q1 : Int), .int .i64 ((u : Int) + 1), .int .i64 x, .bool true, .int .i64 0] 35))).cells.2.1
  have x0a := (X5.out.alloc (.cells #[.int .i64 (q1 : Int), .int .i64 ((u : Int) + 1), .int .i64 x, .bool true, .int .i64 0] 35)).two.1
  have x1a := (X5.out.alloc (.cells #[.int .i64 (q1 : Int), .int .i64 ((u : Int) + 1), .int .i64 x, .bool true, .int .i64 0] 35)).two.2
  obtain ⟨i9, hi0, hz0, hz1, hz2⟩ := info_parts putinfo
  have HP := hide (show w5.drew.ownsRow 0 35 5 (.slice a1 L.length c) L.length (ecs L) from hM5.row)
  have HNW := hide (World.news_of_block (heap_alloc_new w5.drew (.cells #[.int .i64 (q1 : Int), .int .i64 ((u : Int) + 1), .int .i64 x, .bool true, .int .i64 0] 35)))
  have HX1 := hide (show ∀ v ∈ ecv ⟨q1, u + 1, x, true, 0⟩, v.oneCell' = true by have := ecs_one [⟨q1, u + 1, x, true, 0⟩]; simpa [ecs] using this)
  have KE := hide (fun (w6 : World) (gx cx : Nat) ho hg hat => rput_end (w5 := w6) (gx := gx) (cx := cx) (s := q1) (n := u + 1) (x := x) hW5 hM5 hg0 hv0 X5.out ho hg hat)
  clear hM5 hW5
  have HV := hide (show ecv ⟨q1, u + 1, x, true, 0⟩ = [.int .i64 (q1 : Int), .int .i64 ((u : Int) + 1), .int .i64 x, .bool true, .int .i64 0] by simp [ecv])
  rw [HV.out] at HX1
  rw [HV.out, show ((u + 1 : Nat) : Int) = (u : Int) + 1 by omega] at KE
  go_cut [4, 5, 9] (fun s4 s5 s9 wx => s4 = .pointer (some ⟨w.heap.size, 0, none⟩) ∧ s9 = .pointer (some ⟨kh, 0, none⟩) ∧ PtRel W w5 g most N kh q1 ((u : Int) + 1) (L ++ [⟨q1, u + 1, x, true, 0⟩]) wx)
  case first =>
    go_region_law (refine step_append_lies _ (by rfl) _ _ _ (by rfl) 0 35 i9 _ 5 40 Try.underlying27 hi0 hz0 hz1 hz2 rfl (by omega) (.slice a1 L.length c) L.length (ecs L) (by rfl) (HP.out.alloc _) ⟨w5.heap.size, 0, none⟩ 1 1 [.int .i64 (q1 : Int), .int .i64 ((u : Int) + 1), .int .i64 x, .bool true, .int .i64 0] (by rfl) rfl HNW.out HX1.out (by omega) (by simp only [maxLen]; omega) (by omega) (Nat.zero_le _) (w5.heap.size + 1) (by simp) ?_
                   intro gx cx w6 hown6 hgrow6 hat6 hlt6
                   obtain ⟨k1, fk, e1⟩ := KE.out w6 gx cx hown6 hgrow6 hat6
                   have E1 := hide e1
                   clear hown6 hgrow6 hat6 hlt6 e1)
    all_goals
      go_wp2_with fail
      go_meet
      exact ⟨rfl, rfl, E1.out⟩
  case rest =>
    obtain ⟨rfl, rfl, hD, hK, hX⟩ := hcut
    have HD := hide hD
    have HK := hide hK
    have hR := Hb.kd (k := w.heap.size) (s := 0) (t := 0) HR5.out hK
    obtain ⟨x0, x1⟩ := hX.two
    obtain ⟨r0, r1⟩ := hR.two
    have t0 := Joins.unfrozen_of_block hR 0
    have t1 := Joins.unfrozen_of_block hR 1
    have HR := hide hR
    clear hD hK hX hR y1 y1a x0a x1a HP HNW HX1 hi0 KE
    go_wp2_with fail
    refine bodyPost_ret (v := .tuple #[.agg #[.int .i64 (q1 : Int), .int .i64 ((u : Int) + 1)], .bool true]) ?_ rfl ⟨by simp, (HD.out.setH HR.out HW0.out (.int .i64 (q1 : Int)) (.int .i64 ((u : Int) + 1))), ?_, fun k cs t z hk n1 n2 => ?_⟩
    · rw [results_cell_tmp rfl]
      go_simp
    · have e0 : ((wc.setCell ⟨w.heap.size, 0, none⟩ (.int .i64 (q1 : Int))).setCell ⟨w.heap.size, 1, none⟩ (.int .i64 ((u : Int) + 1))).heap.size = wc.heap.size := by simp [World.setCell]
      rw [e0]
      have h1 := B.out.size
      have h2 := B5.out.size
      have h3 := HK.out.1
      omega
    · have hkl := (Array.getElem?_eq_some_iff.1 hk).1
      have hne : k ≠ w.heap.size := by omega
      rw [Below.heap_setCell _ _ _ _ hne, Below.heap_setCell _ _ _ _ hne]
      have h1 := B.out.size
      exact HK.out.2 k cs t z ((B5.out.block k (by omega)).trans ((B.out.block k hkl).trans hk)) n1 n2
end Go.Proofs.Ytooejagekkgpaaa
