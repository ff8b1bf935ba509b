/-
  An arena of texts from which nothing is freed, in memory: contracts of New, Live, Room, next, Put. Conditions: the arena is one, in memory; not more than a million things are put.
-/
import Derived.Test.YtooejagekkgpaaaALaw
namespace Go.Proofs.Ytooejagekkgpaaa
open Go.RowKit
set_option linter.unusedVariables false
set_option linter.unusedSimpArgs false
set_option maxRecDepth 100000

theorem strslot : (Try.prog.info? 68).map (fun i => (i.zero, i.size, i.bytes)) = some (some (.agg #[.string ⟨#[]⟩, .bool false, .int .i64 0]), 3, 32) := by kernel_rfl
/-- An arena of so many texts, none freed. -/
structure Sm (w : World) (g most : Nat) (vs : Value) (n : Nat) (xs : List Value) : Prop where
  blk : w.heap[g]? = some (.cells #[.int .i64 (most : Int), vs, .slice none 0 0] 65 (0, 0))
  sl : w.ownsRow 0 68 3 vs n xs
structure Sn (w0 w : World) (g most n : Nat) : Prop where
  bel : Below w0.heap.size w0 w
  le : n ≤ most
  mle : most ≤ 1048576
  mem : ∃ vs xs, Sm w g most vs n xs ∧ w0.heap.size ≤ g ∧ ∀ b, vs.ownBlock = some b → w0.heap.size ≤ b
theorem Sm.lt {w : World} {g most n : Nat} {vs : Value} {xs : List Value} (h : Sm w g most vs n xs) : g < w.heap.size := (Array.getElem?_eq_some_iff.1 h.blk).1
theorem Sm.kept {w w' : World} {g most n : Nat} {vs : Value} {xs : List Value} (h : Sm w g most vs n xs) (hk : ∀ b, b = g ∨ vs.ownBlock = some b → w'.heap[b]? = w.heap[b]?) : Sm w' g most vs n xs :=
  ⟨(hk g (.inl rfl)).trans h.blk, row_kept h.sl fun b hb => hk b (.inr hb)⟩
theorem Sm.below {w w' : World} {g most n : Nat} {vs : Value} {xs : List Value} (h : Sm w g most vs n xs) (hb : Below w.heap.size w w') : Sm w' g most vs n xs :=
  h.kept fun b hb' => hb.block b (by
    rcases hb' with rfl | hb'
    · exact h.lt
    · exact row_lt h.sl hb')
theorem Sm.ne {w : World} {g most n : Nat} {vs : Value} {xs : List Value} (h : Sm w g most vs n xs) : vs.ownBlock ≠ some g := row_ne h.sl h.blk (by decide)
theorem Sn.below {w0 w w' : World} {g most n : Nat} (h : Sn w0 w g most n) (hb : Below w.heap.size w w') : Sn w0 w' g most n := by
  obtain ⟨h1, h2, h3, vs, xs, h4, h5, h6⟩ := h
  exact ⟨h1.trans (hb.mono h1.size), h2, h3, vs, xs, h4.below hb, h5, h6⟩
def SRet (v : Value) (w0 : World) (g most n : Nat) (w : World) (e : Ending) (w' : World) : Prop := e = .returned v ∧ Sn w0 w' g most n
theorem snew_any (n : Int) (hn : i64B n) (w : World) : Calls Try.prog 19 #[.int .i64 n] w (fun e w' => Below w.heap.size w w' ∧ if 0 ≤ n ∧ n ≤ 1048576 then e = .returned (.pointer (some ⟨w.heap.size, 0, none⟩)) ∧ Sn w w' w.heap.size n.toNat 0 else e = .returned (.pointer none)) := by
  by_cases h0 : n < 0
  · have hif : ¬ (0 ≤ n ∧ n ≤ 1048576) := by omega
    simp only [if_neg hif]
    have B := hide (Below.refl w.heap.size w)
    clear hif
    go_enter Try.func19, Try.ntmps19
    go_wp2
    go_ret
    exact ⟨B.out, rfl⟩
  · by_cases h1 : 1048576 < n
    · have hif : ¬ (0 ≤ n ∧ n ≤ 1048576) := by omega
      simp only [if_neg hif]
      have B := hide (Below.refl w.heap.size w)
      clear hif
      go_enter Try.func19, Try.ntmps19
      go_wp2
      go_ret
      exact ⟨B.out, rfl⟩
    · obtain ⟨m, rfl⟩ : ∃ m : Nat, n = m := ⟨n.toNat, by omega⟩
      have hif : 0 ≤ (m : Int) ∧ (m : Int) ≤ 1048576 := by omega
      simp only [if_pos hif]
      have hB := (Below.refl w.heap.size w).alloc (Nat.le_refl _) (.cells #[.int .i64 (m : Int), .slice none 0 0, .slice none 0 0] 65)
      have B := hide hB
      have T := hide (show Sn w (w.alloc (.cells #[.int .i64 (m : Int), .slice none 0 0, .slice none 0 0] 65)) w.heap.size (m : Int).toNat 0 from ⟨hB, Nat.zero_le _, by omega, .slice none 0 0, [], ⟨heap_alloc_new w _, World.ownsRow_nil ..⟩, Nat.le_refl _, fun b hb => by cases hb⟩)
      clear hif hB
      go_enter Try.func19, Try.ntmps19
      go_wp2
      go_ret
      exact ⟨B.out, rfl, T.out⟩
theorem slive_any (w0 : World) (g most n : Nat) (w : World) (h : Sn w0 w g most n) : Calls Try.prog 21 #[.pointer (some ⟨g, 0, none⟩)] w (IntRet .i64 n w) := by
  have hl := h.le
  have hm := h.mle
  obtain ⟨vs, xs, M, _, _⟩ := h.mem
  obtain ⟨a1, d1, rfl⟩ := row_form M.sl
  have c1 := cell_of_row _ _ 1 _ _ (0, 0) M.blk
  have c2 := cell_of_row _ _ 2 _ _ (0, 0) M.blk
  simp at c1 c2
  have B := hide (Below.refl w.heap.size w)
  have b1 : n ≤ 1000000000 := by omega
  clear h M
  go_enter Try.func21, Try.ntmps21
  go_wp2_with fail
  go_quiet (fail)
  go_wp2
  go_ret
  exact ⟨rfl, below_q B.out _⟩
theorem sroom_any (w0 : World) (g most n : Nat) (w : World) (h : Sn w0 w g most n) : Calls Try.prog 20 #[.pointer (some ⟨g, 0, none⟩)] w (IntRet .i64 (most - n) w) := by
  have hl := h.le
  have hm := h.mle
  have K := hide (fun W (hb : Below w.heap.size w W) => slive_any w0 g most n W (h.below hb))
  obtain ⟨vs, xs, M, _, _⟩ := h.mem
  have c0 := cell_of_row _ _ 0 _ _ (0, 0) M.blk
  simp at c0
  have E := hide (show ((most : Int) - (n : Int)) = ((most - n : Nat) : Int) by omega)
  clear h M
  go_enter Try.func20, Try.ntmps20
  go_wp2_with fail
  go_region_held3 (fun w' => w'.cell? ⟨g, 0, none⟩ = some (.int .i64 (most : Int)))
    (first | with_reducible exact hS1 | with_reducible exact c0 | go_keep)
    (first
      | (go_at_call 21
         (with_reducible refine (K.out _ (Below.refl _ w).drew).mono ?_)
         rintro e w2 ⟨rfl, hb⟩
         have hb' : Below w.heap.size w w2 := ⟨hb.os, hb.tape, hb.output, hb.size, hb.block⟩
         have hS1 := cell_b hb' c0
         have B2 := hide hb'
         clear hb hb'))
  go_wp2
  go_ret
  exact ⟨ret_int ((wrap_in _ (by omega) (by omega)).trans E.out), B2.out⟩
theorem snext_end {w0 w w2 : World} {g most b c d1 n : Nat} {a1 : Option Addr} {xs : List Value} (hw0 : Below w0.heap.size w0 w) (h0 : w0.heap.size ≤ g) (h00 : ∀ b, (Value.slice a1 n d1).ownBlock = some b → w0.heap.size ≤ b) (h : Sm w g most (.slice a1 n d1) n xs)
    (ho : w2.ownsRow 0 68 3 (.slice (some ⟨b, 0, none⟩) (n + 1) c) (n + 1) (xs ++ [.string ⟨#[]⟩, .bool false, .int .i64 0]))
    (hg : (w.alloc (.cells #[.string ⟨#[]⟩, .bool false, .int .i64 0] 68)).grownBy w2 (Value.slice a1 n d1).ownBlock) (hat : (Value.slice a1 n d1).ownBlock = some b ∨ b = w.heap.size + 1) :
    w2.cell? ⟨g, 1, none⟩ = some (.slice a1 n d1) ∧ w2.frozen? ⟨g, 1, none⟩ = false ∧
    Sm (w2.setCell ⟨g, 1, none⟩ (.slice (some ⟨b, 0, none⟩) (n + 1) c)) g most (.slice (some ⟨b, 0, none⟩) (n + 1) c) (n + 1) (xs ++ [.string ⟨#[]⟩, .bool false, .int .i64 0]) ∧
    Mod (g :: (Value.slice a1 n d1).ownBlock.toList) w (w2.setCell ⟨g, 1, none⟩ (.slice (some ⟨b, 0, none⟩) (n + 1) c)) ∧ w0.heap.size ≤ b ∧ b ≠ g := by
  have h1 := h.below ((Below.refl _ w).alloc (Nat.le_refl _) (.cells #[.string ⟨#[]⟩, .bool false, .int .i64 0] 68))
  have hb := (hg.block g h1.lt (fun e => h.ne e.symm)).trans h1.blk
  have M1 : Mod (g :: (Value.slice a1 n d1).ownBlock.toList) w w2 := ((Mod.refl (g :: (Value.slice a1 n d1).ownBlock.toList) w).alloc (.cells #[.string ⟨#[]⟩, .bool false, .int .i64 0] 68)).trans (Mod.of_grown (fs := g :: (Value.slice a1 n d1).ownBlock.toList) hg (fun k hk => by simp [hk])) (fun k hk => .inl hk)
  have hbg : (Value.slice (some ⟨b, 0, none⟩) (n + 1) c).ownBlock ≠ some g := row_ne ho hb (by decide)
  refine ⟨cell_of_row w2 g 1 _ _ (0, 0) hb, Joins.unfrozen_of_block hb 1, ⟨?_, row_kept ho fun k hk => Below.heap_setCell _ _ _ _ ?_⟩, M1.setCell (.inl (by simp)) _, ?_, fun e => hbg (by rw [← e]; rfl)⟩
  · have := Joins.block_setCell (i := 1) hb (.slice (some ⟨b, 0, none⟩) (n + 1) c)
    simpa using this
  · rintro rfl
    exact hbg hk
  · rcases hat with h2 | h2
    · exact h00 _ h2
    · have := hw0.size
      omega
/-- What next leaves. -/
structure SNx (w0 : World) (g most n : Nat) (w w' : World) (b c : Nat) (xs : List Value) : Prop where
  bel : Below w0.heap.size w0 w'
  sm : Sm w' g most (.slice (some ⟨b, 0, none⟩) (n + 1) c) (n + 1) (xs ++ [.string ⟨#[]⟩, .bool false, .int .i64 0])
  lo : w0.heap.size ≤ b
  ne : b ≠ g
  kp : ∀ (k : Nat) (cs : Array Value) (z : Nat × Nat), w.heap[k]? = some (.cells cs 31 z) → w'.heap[k]? = some (.cells cs 31 z)
set_option maxHeartbeats 1000000 in
theorem snext_any (w0 : World) (g most n : Nat) (hn : n ≤ 1000000) (w : World) (h : Sn w0 w g most n) : Calls Try.prog 29 #[.pointer (some ⟨g, 0, none⟩)] w (fun e w' => e = .returned (.int .i64 ((n : Int) + 1)) ∧ ∃ b c xs, SNx w0 g most n w w' b c xs) := by
  obtain ⟨hw, _, _, vs, xs, M, h0, h00⟩ := h
  obtain ⟨i0, hi0, hz0, hz1, hz2⟩ := info_parts strslot
  obtain ⟨a1, d1, rfl⟩ := row_form M.sl
  have H0 := hide M
  have HA := hide (M.below ((Below.refl _ w).alloc (Nat.le_refl _) (.cells #[.string ⟨#[]⟩, .bool false, .int .i64 0] 68)))
  have bx := heap_alloc_new w (.cells #[.string ⟨#[]⟩, .bool false, .int .i64 0] 68)
  have HNW := hide (World.news_of_block bx)
  have HX1 := hide (show ∀ u ∈ [Value.string ⟨#[]⟩, .bool false, .int .i64 0], u.oneCell' = true by simp [Value.oneCell'])
  have c1 := cell_of_row _ _ 1 _ _ (0, 0) M.blk
  have c2 := cell_of_row _ _ 2 _ _ (0, 0) M.blk
  simp at c1 c2
  have KE := hide (fun (w2 : World) (b c : Nat) ho hg hat => snext_end (w2 := w2) (b := b) (c := c) hw h0 h00 M ho hg hat)
  have HW := hide hw
  have H00 := hide h00
  clear M bx hw h00
  go_enter Try.func29, Try.ntmps29
  go_wp2_with (at_builtin; refine wpList_append_lies _ rfl _ _ _ rfl 0 68 i0 _ 3 32 Try.underlying63 hi0 hz0 hz1 hz2 rfl (by omega) (.slice a1 n d1) n xs rfl HA.out.sl ⟨w.heap.size, 0, none⟩ 1 1 [.string ⟨#[]⟩, .bool false, .int .i64 0] rfl rfl HNW.out HX1.out (by omega) (by simp only [maxLen]; omega) (by omega) (Nat.zero_le _) (w.heap.size + 1) (by simp) ?_; intro b c w2 hown2 hgrow2 hat2 hlt2; obtain ⟨k1, fk, k2, M2, lo, ne⟩ := KE.out w2 b c hown2 hgrow2 hat2; have HK2 := hide k2; have HM2 := hide M2; have HL := hide lo; have HN := hide ne; clear hown2 hgrow2 hat2 hlt2 k2 M2 lo ne)
  go_ret
  refine ⟨rfl, b, c, xs, HW.out.trans (HM2.out.below HW.out.size (fun k hk => ?_)), HK2.out, HL.out, HN.out, fun k cs z hk => ?_⟩
  · simp only [List.mem_cons, Option.mem_toList] at hk
    rcases hk with rfl | hk
    · exact h0
    · exact H00.out _ hk
  · refine (HM2.out.block k (Array.getElem?_eq_some_iff.1 hk).1 (fun hm => ?_)).trans hk
    simp only [List.mem_cons, Option.mem_toList] at hm
    rcases hm with rfl | hm
    · have := H0.out.blk
      rw [hk] at this
      simp at this
    · exact row_ne H0.out.sl hk (by decide) hm
theorem sput_full (w0 : World) (g most n : Nat) (x : List UInt8) (hf : n = most) (w : World) (h : Sn w0 w g most n) : Calls Try.prog 22 #[.pointer (some ⟨g, 0, none⟩), .string ⟨x.toArray⟩] w (SRet (.tuple #[.agg #[.int .i64 0, .int .i64 0], .bool false]) w0 g most n w) := by
  have Bz := (Below.refl w.heap.size w).alloc (Nat.le_refl _) (.cells #[.int .i64 0, .int .i64 0] 31)
  have bx := heap_alloc_new w (.cells #[.int .i64 0, .int .i64 0] 31)
  have K := hide (sroom_any w0 g most n _ (h.below Bz))
  have B := hide Bz
  have HX := hide bx
  have HA := hide h
  have lx : w.heap.size < (w.alloc (.cells #[.int .i64 0, .int .i64 0] 31)).heap.size := by simp
  rw [hf, Nat.sub_self] at K
  clear Bz bx h hf
  go_enter Try.func22, Try.ntmps22
  go_upto_region 1 with (fail)
  generalize w.alloc (.cells #[.int .i64 0, .int .i64 0] 31) = w1 at K B HX lx ⊢
  go_wp2_with fail
  refine K.out.mono ?_
  rintro e w2 ⟨rfl, hb⟩
  have HB := hide (B.out.trans (hb.mono B.out.size))
  have bx2 := (hb.block _ lx).trans HX.out
  have y0 := cell_of_row _ _ 0 _ _ (0, 0) bx2
  have y1 := cell_of_row _ _ 1 _ _ (0, 0) bx2
  have f0 := Joins.unfrozen_of_block bx2 0
  have f1 := Joins.unfrozen_of_block bx2 1
  simp at y0 y1
  clear hb K bx2 HX
  go_wp2_with fail
  refine bodyPost_ret (v := .tuple #[.agg #[.int .i64 0, .int .i64 0], .bool false]) ?_ rfl ⟨rfl, HA.out.below ((HB.out.setCell (p := ⟨w.heap.size, 0, none⟩) (by simp) _).setCell (p := ⟨w.heap.size, 1, none⟩) (by simp) _)⟩
  rw [results_cell_tmp rfl]
  go_simp
set_option maxHeartbeats 2000000 in
theorem sput_any (w0 : World) (g most n : Nat) (x : List UInt8) (hn : n ≤ 1000000) (hf : n < most) (w : World) (h : Sn w0 w g most n) : Calls Try.prog 22 #[.pointer (some ⟨g, 0, none⟩), .string ⟨x.toArray⟩] w (SRet (.tuple #[.agg #[.int .i64 ((n : Int) + 1), .int .i64 1], .bool true]) w0 g most (n + 1) w) := by
  have Bz := (Below.refl w.heap.size w).alloc (Nat.le_refl _) (.cells #[.int .i64 0, .int .i64 0] 31)
  have bx := heap_alloc_new w (.cells #[.int .i64 0, .int .i64 0] 31)
  have hA1 := h.below Bz
  have K := hide (sroom_any w0 g most n _ hA1)
  have HA1 := hide hA1
  have HA := hide h
  have B := hide Bz
  have HX := hide bx
  have hm := h.mle
  have lx : w.heap.size < (w.alloc (.cells #[.int .i64 0, .int .i64 0] 31)).heap.size := by simp
  obtain ⟨q, hq⟩ : ∃ q, most - n = q + 1 := ⟨most - n - 1, by omega⟩
  rw [hq] at K
  have d0 : (((q + 1 : Nat) : Int) == 0) = false := by simp; omega
  clear Bz bx h hA1
  go_enter Try.func22, Try.ntmps22
  go_upto_region 1 with (fail)
  generalize w.alloc (.cells #[.int .i64 0, .int .i64 0] 31) = w1 at K B HX lx HA1 ⊢
  go_wp2_with fail
  refine K.out.mono ?_
  rintro e w2 ⟨rfl, hb⟩
  have HX2 := hide ((hb.block _ lx).trans HX.out)
  have K2 := hide (snext_any w0 g most n hn w2 (HA1.out.below hb))
  clear hb K HX HA1 B lx
  go_wp2_with fail
  refine K2.out.mono ?_
  rintro e w3 ⟨rfl, b, c, xs, hN⟩
  have HN := hide hN
  have hr := hN.sm.sl
  have hxl : xs.length = n * 3 := by
    have := hr.1
    simp at this
    omega
  have c1 := cell_of_row _ _ 1 _ _ (0, 0) hN.sm.blk
  have z0 := hr.cellAt (n * 3) (by omega)
  have z1 := hr.cellAt (n * 3 + 1) (by omega)
  have z2 := hr.cellAt (n * 3 + 2) (by omega)
  rw [List.getElem?_append_right (by omega), hxl] at z0 z1 z2
  rw [show n * 3 - n * 3 = 0 by omega] at z0
  rw [show n * 3 + 1 - n * 3 = 1 by omega] at z1
  rw [show n * 3 + 2 - n * 3 = 2 by omega] at z2
  have f0 := hr.frozenAt (n * 3)
  have f1 := hr.frozenAt (n * 3 + 1)
  have f2 := hr.frozenAt (n * 3 + 2)
  have HX3 := hide (hN.kp _ _ _ HX2.out)
  have bne : b ≠ w.heap.size := by
    rintro rfl
    obtain ⟨cur, h2⟩ := row_block hr (b := w.heap.size) rfl
    rw [HX3.out] at h2
    simp at h2
  have gne : g ≠ w.heap.size := by
    rintro rfl
    have := hN.sm.blk
    rw [HX3.out] at this
    simp at this
  have i0 : (0 : Int) ≤ (n : Int) := by omega
  have i2 : (n : Int) < ((n + 1 : Nat) : Int) := by omega
  have wk : IntKind.i64.wrap ((n : Int) + 1 - 1) = (n : Int) := (wrap_in _ (by omega) (by omega)).trans (by omega)
  simp at c1 z0 z1 z2
  have r1 := (hr.stored (n * 3) (.string ⟨x.toArray⟩)).1
  have r2 := (r1.stored (n * 3 + 1) (.bool true)).1
  have HR3 := hide (r2.stored (n * 3 + 2) (.int .i64 1)).1
  clear K2 hN HX2 hr r1 r2
  go_upto_region 7 with (fail)
  have hk : ∀ k, k ≠ b → (((w3.setCell ⟨b, n * 3, none⟩ (.string ⟨x.toArray⟩)).setCell ⟨b, n * 3 + 1, none⟩ (.bool true)).setCell ⟨b, n * 3 + 2, none⟩ (.int .i64 1)).heap[k]? = w3.heap[k]? := fun k hk => by
    rw [Below.heap_setCell _ _ _ _ hk, Below.heap_setCell _ _ _ _ hk, Below.heap_setCell _ _ _ _ hk]
  have HX4 := hide ((hk _ (fun e => bne e.symm)).trans HX3.out)
  have HG4 := hide ((hk _ (fun e => HN.out.ne e.symm)).trans HN.out.sm.blk)
  have B4 := hide (((HN.out.bel.setCell (p := ⟨b, n * 3, none⟩) HN.out.lo (.string ⟨x.toArray⟩)).setCell (p := ⟨b, n * 3 + 1, none⟩) HN.out.lo (.bool true)).setCell (p := ⟨b, n * 3 + 2, none⟩) HN.out.lo (.int .i64 1))
  have q2 := HR3.out.cellAt (n * 3 + 2) (by omega)
  rw [List.getElem?_set_self (by simp; omega)] at q2
  clear hk z0 z1 z2 f0 f1 f2 c1 HX3
  generalize (((w3.setCell ⟨b, n * 3, none⟩ (.string ⟨x.toArray⟩)).setCell ⟨b, n * 3 + 1, none⟩ (.bool true)).setCell ⟨b, n * 3 + 2, none⟩ (.int .i64 1)) = w4 at *
  have r0 := cell_of_row _ _ 0 _ _ (0, 0) HX4.out
  have r1 := cell_of_row _ _ 1 _ _ (0, 0) HX4.out
  have t0 := Joins.unfrozen_of_block HX4.out 0
  have t1 := Joins.unfrozen_of_block HX4.out 1
  simp at r0 r1
  obtain ⟨hw0, hg0⟩ : w0.heap.size ≤ w.heap.size ∧ w0.heap.size ≤ g := by
    obtain ⟨h1, _, _, vs, xs, _, h5, _⟩ := HA.out
    exact ⟨h1.size, h5⟩
  go_wp2_with fail
  have hk5 : ∀ k, k ≠ w.heap.size → ((w4.setCell ⟨w.heap.size, 0, none⟩ (.int .i64 ((n : Int) + 1))).setCell ⟨w.heap.size, 1, none⟩ (.int .i64 1)).heap[k]? = w4.heap[k]? := fun k hk => by
    rw [Below.heap_setCell _ _ _ _ hk, Below.heap_setCell _ _ _ _ hk]
  refine bodyPost_ret (v := .tuple #[.agg #[.int .i64 ((n : Int) + 1), .int .i64 1], .bool true]) ?_ rfl ⟨rfl, (B4.out.setCell (p := ⟨w.heap.size, 0, none⟩) hw0 _).setCell (p := ⟨w.heap.size, 1, none⟩) hw0 _, by omega, hm, _, _, ⟨(hk5 g gne).trans HG4.out, row_kept HR3.out fun k hk => hk5 k ?_⟩, hg0, ?_⟩
  · rw [results_cell_tmp rfl]
    go_simp
  · simp [Value.ownBlock] at hk
    rw [← hk]
    exact bne
  · intro k hk
    simp [Value.ownBlock] at hk
    rw [← hk]
    exact HN.out.lo
end Go.Proofs.Ytooejagekkgpaaa
