/-
  The walk of ArenaOnce. No conditions.
-/
import Derived.Test.YtooejagekkgpaaaAOwnPure
import Derived.Test.YtooejagekkgpaaaAOncePure
import Derived.Test.YtooejagekkgpaaaAIn
namespace Go.Proofs.Ytooejagekkgpaaa
open Go.RowKit Go.Maps
set_option linter.unusedVariables false
set_option linter.unusedSimpArgs false
set_option maxRecDepth 100000

/-- Two rows of handles: those that lie, those that are gone. -/
structure Rw (W w : World) (al go : List (Nat × Nat)) (va vg : Value) : Prop where
  oa : OwnH w W.heap.size va (nis al)
  og : OwnH w W.heap.size vg (nis go)
  dj : ∀ b, va.ownBlock = some b → vg.ownBlock ≠ some b
theorem Rw.below {W w w' : World} {al go : List (Nat × Nat)} {va vg : Value} (h : Rw W w al go va vg) (hb : Below w.heap.size w w') : Rw W w' al go va vg := ⟨h.oa.below hb, h.og.below hb, h.dj⟩
theorem Rw.kp {W w w' : World} {al go : List (Nat × Nat)} {va vg : Value} (h : Rw W w al go va vg) (hb : Kp w w') : Rw W w' al go va vg := ⟨h.oa.kp hb, h.og.kp hb, h.dj⟩
theorem OwnH.apart {w w' : World} {base : Nat} {v v' : Value} {l : List (Int × Int)} (h : OwnH w base v l) (hg : w.grownBy w' v'.ownBlock) (hd : ∀ b, v'.ownBlock = some b → v.ownBlock ≠ some b) : OwnH w' base v l :=
  row_kept h fun b hb => hg.block b (row_lt h hb) (fun e => hd b e.symm hb)
theorem OwnH.form {w : World} {base n c : Nat} {A : Option Addr} {l : List (Int × Int)} (h : OwnH w base (.slice A n c) l) : n = l.length ∧ Hs w A c l := by
  obtain ⟨A', c', e, hh⟩ := h.hs
  simp at e
  obtain ⟨rfl, rfl, rfl⟩ := e
  exact ⟨rfl, hh⟩
theorem OwnH.head {w : World} {base n c : Nat} {A : Option Addr} {l : List (Int × Int)} (h : OwnH w base (.slice A n c) l) (hp : 0 < l.length) : ∃ g, A = some ⟨g, 0, none⟩ := by
  obtain ⟨g, cap, e, _, _⟩ := World.ownsRow.form h hp
  simp at e
  exact ⟨g, e.1⟩
theorem OwnH.two {w : World} {base g n c : Nat} {l : List (Int × Int)} (h : OwnH w base (.slice (some ⟨g, 0, none⟩) n c) l) (k : Nat) (hk : k < l.length) : w.cell? ⟨g, k * 2, none⟩ = some (.int .i64 l[k].1) ∧ w.cell? ⟨g, k * 2 + 1, none⟩ = some (.int .i64 l[k].2) := by
  obtain ⟨b, o, e, hat⟩ := h.form.2.lit (by omega)
  simp at e
  obtain ⟨rfl, rfl⟩ := e
  have := hat.two k hk
  simpa using this
/-- The first row is appended to. -/
theorem Rw.putA {W w w' : World} {al go al' : List (Nat × Nat)} {va va' vg : Value} (h : Rw W w al go va vg) (hg : w.grownBy w' va.ownBlock) (ho : OwnH w' W.heap.size va' (nis al')) (hn : va'.ownBlock = va.ownBlock ∨ va'.ownBlock = some w.heap.size) : Rw W w' al' go va' vg := by
  refine ⟨ho, h.og.apart hg h.dj, fun b hb => ?_⟩
  rcases hn with e | e
  · rw [e] at hb
    exact h.dj b hb
  · rw [e] at hb
    injection hb with hb
    intro hc
    have := row_lt h.og hc
    omega
/-- The second row is appended to. -/
theorem Rw.putG {W w w' : World} {al go go' : List (Nat × Nat)} {va vg vg' : Value} (h : Rw W w al go va vg) (hg : w.grownBy w' vg.ownBlock) (ho : OwnH w' W.heap.size vg' (nis go')) (hn : vg'.ownBlock = vg.ownBlock ∨ vg'.ownBlock = some w.heap.size) : Rw W w' al go' va vg' := by
  refine ⟨h.oa.apart hg fun b hb hc => h.dj b hc hb, ho, fun b hb hc => ?_⟩
  rcases hn with e | e
  · rw [e] at hc
    exact h.dj b hb hc
  · rw [e] at hc
    injection hc with hc
    have := row_lt h.oa hb
    omega
/-- The first row is made anew. -/
theorem Rw.newA {W w w' : World} {al go al' : List (Nat × Nat)} {va va' vg : Value} (h : Rw W w al go va vg) (hW : W.heap.size ≤ w.heap.size) (hb : Below w.heap.size w w') (ho : OwnH w' w.heap.size va' (nis al')) : Rw W w' al' go va' vg := by
  refine ⟨⟨ho.1, ?_⟩, h.og.below hb, fun b hb' hc => ?_⟩
  · rcases ho.2 with h0 | ⟨g, cap, cur, h1, h2, h3⟩
    · exact .inl h0
    · exact .inr ⟨g, cap, cur, h1, by omega, h3⟩
  · have h1 := (World.ownsRow.lt ho b hb').1
    have h2 := row_lt h.og hc
    omega
theorem nis_own {w : World} {base c : Nat} {A : Option Addr} {l : List (Nat × Nat)} {q : Nat × Nat} (h : OwnH w base (.slice A (nis l ++ [((q.1 : Int), (q.2 : Int))]).length c) (nis l ++ [((q.1 : Int), (q.2 : Int))])) : OwnH w base (.slice A (l.length + 1) c) (nis (l ++ [q])) := by
  have e : (nis l ++ [((q.1 : Int), (q.2 : Int))]).length = l.length + 1 := by rw [List.length_append, nis_length]; rfl
  have e2 : nis l ++ [((q.1 : Int), (q.2 : Int))] = nis (l ++ [q]) := by rw [nis_append]; rfl
  rw [e, e2] at h
  exact h
theorem nis_blk {A : Option Addr} {n m c : Nat} {v : Value} {k : Nat} (h : (Value.slice A n c).ownBlock = v.ownBlock ∨ (Value.slice A n c).ownBlock = some k) : (Value.slice A m c).ownBlock = v.ownBlock ∨ (Value.slice A m c).ownBlock = some k := by
  cases A <;> exact h
theorem Az.told {w0 w : World} {g m U : Nat} {A : Ar} (h : Az w0 w g m U A) {s t : Nat} (ht : Told A s t) : s ≤ U ∧ t ≤ U := by
  obtain ⟨_, fs, h2, _⟩ := h
  obtain ⟨h3, h4, k, hk, hle⟩ := ht
  have h5 := (List.getElem?_eq_some_iff.1 hk).1
  have h6 := h2.use k (List.mem_of_getElem? hk)
  have h7 := h2.len
  omega
/-- All that a round hands on. -/
def ObRel (W : World) (g m n : Nat) (va vg vi : Value) (wr : World) : Prop := ∃ (i : Nat) (al go : List (Nat × Nat)), i ≤ n ∧ vi = .int .i64 (i : Int) ∧ al.length + go.length ≤ i ∧ Rw W wr al go va vg ∧ ∃ A, Az W wr g m i A ∧ Onc A al go
def FiRel (W : World) (g m U n : Nat) (A : Ar) (al go : List (Nat × Nat)) (va vg vi : Value) (wr : World) : Prop := ∃ j : Nat, j ≤ n ∧ vi = .int .i64 (j : Int) ∧ Rw W wr al go va vg ∧ Az W wr g m U A
set_option maxHeartbeats 4000000 in
theorem arenaOnce_walk (a : Int) (p : Option Addr) (len cap : Nat) (zs : List Int) (W : World) (ha : (Lit.int .u8 a).wf = true) (h : IsRow .u8 W p len cap zs) :
    Calls Try.prog 5 #[.int .u8 a, .slice p len cap] W (TrueRet W) := by
  have ha := bounds_u8 ha
  obtain ⟨a, rfl⟩ : ∃ n : Nat, a = n := ⟨a.toNat, by omega⟩
  obtain ⟨c1, c2, f, hF⟩ := h.ints
  obtain rfl := hF.leq
  unfold maxLen at c2
  have HF := hide hF
  clear hF h
  obtain ⟨m, hm⟩ : ∃ m : Nat, (1 + (a : Int) % 8).toNat = m := ⟨_, rfl⟩
  have m1 : 1 ≤ m := by omega
  have KN := hide (fun (W w : World) (hb : Below W.heap.size W w) => znew_any (w0 := W) (w := w) (1 + (a : Int) % 8) (by omega) (by omega) hb)
  rw [hm] at KN
  clear hm
  go_enter Try.func5, Try.ntmps5
  go_wp2_with fail
  refine (awake_any W).mono ?_
  rintro e w1 ⟨rfl, hb1⟩
  have B1 := hide hb1
  clear hb1
  by_cases h2 : 40 < f.length
  · have e2 : decide ((f.length : Int) > 40) = true := by simp; omega
    go_wp2
    go_ret
    exact ⟨rfl, B1.out⟩
  have e2 : decide ((f.length : Int) > 40) = false := by simp; omega
  go_wp2_with fail
  refine (KN.out W w1 B1.out).mono ?_
  rintro e w2 ⟨rfl, hz, hb2⟩
  have S2 := hide (show Rw W w2 [] [] (.slice none 0 0) (.slice none 0 0) ∧ ∃ A, Az W w2 w1.heap.size m 0 A ∧ Onc A [] [] from ⟨⟨OwnH.nil _ _, OwnH.nil _ _, fun b hb => by cases hb⟩, _, hz, Onc.start⟩)
  clear hz hb2 B1 KN
  generalize w1.heap.size = g at S2 ⊢
  go_wp2_with fail
  go_loopw [7, 8, 9] (ObRel W g m f.length) (fun _ _ i _ => f.length - (intOf i).toNat)
  case atStart => exact ⟨0, [], [], Nat.zero_le _, rfl, Nat.le_refl _, S2.out.1, S2.out.2⟩
  case round =>
    obtain ⟨i, al, go, hi, rfl, hlen, hR, A, hz, hon⟩ := hrel
    have HR := hide hR
    have HZ := hide hz
    have HON := hide hon
    obtain ⟨pa, ca, rfl⟩ := row_form hR.oa
    obtain ⟨pg, cg, rfl⟩ := row_form hR.og
    rw [nis_length, nis_length] at HR ⊢
    by_cases hlt : i < f.length
    · obtain ⟨b, o, rfl, hc⟩ := (HF.out.below hz.bel).lit (by omega)
      have x0 := hc i hlt
      have hx := bounds_u8 (HF.out.wf f[i] (List.getElem_mem hlt))
      generalize f[i] = x at x0 hx
      obtain ⟨x, rfl⟩ : ∃ n : Nat, x = n := ⟨x.toNat, by omega⟩
      have i0 : (0 : Int) ≤ (i : Int) := by omega
      have i1 : (i : Int) < (f.length : Int) := by omega
      clear hc hR hz hon
      by_cases hput : 0 < x % 3 ∨ (¬ 0 < x % 3 ∧ al.length = 0)
      · by_cases hf : A.live < m
        · have KP := hide (zput_any (i : Int) (by omega) HZ.out hf)
          obtain ⟨n1, n2, n3, n4⟩ := HON.out.new (i : Int)
          have HN := hide (HON.out.put (i : Int))
          have D1 := hide (show decide (((A.nxt.1 : Int), (A.nxt.2 : Int)) ∈ nis al) = false from decide_eq_false (fun h => n1 (nis_mem.1 h)))
          have D2 := hide (show decide (((A.nxt.1 : Int), (A.nxt.2 : Int)) ∈ nis go) = false from decide_eq_false (fun h => n2 (nis_mem.1 h)))
          generalize A.put (i : Int) = A' at KP HN
          generalize A.nxt = q at *
          clear n1 n2 HZ HON
          have hput' : 0 < x % 3 ∨ (¬ 0 < x % 3 ∧ ((al.length : Int) == 0) = true) := hput.imp id (fun h => ⟨h.1, by rw [h.2]; rfl⟩)
          clear hput
          rcases hput' with d | ⟨d, d'⟩
          all_goals
            go_wp2_with fail
            try clear d'
            refine KP.out.mono ?_
            rintro e w3 ⟨rfl, hz, hk⟩
            have D := (Below.refl w3.heap.size w3).alloc (Nat.le_refl _) (.cells #[.int .i64 (q.1 : Int), .int .i64 (q.2 : Int)] 31)
            have HZ3 := hide (hz.below D)
            have HR3 := hide ((HR.out.kp hk).below D)
            have X3 := hide (Hb.new w3 (q.1 : Int) (q.2 : Int))
            clear hz hk D KP HR x0
            go_upto_region 14 with (fail)
            generalize w3.heap.size = k3 at X3 ⊢
            generalize w3.alloc (.cells #[.int .i64 (q.1 : Int), .int .i64 (q.2 : Int)] 31) = w4 at HZ3 X3 HR3 ⊢
            obtain ⟨x0, x1⟩ := X3.out.two
            have K1 := hide (rin_any pa ca (nis al) (q.1 : Int) (q.2 : Int) (by rw [nis_length]; omega) w4 HR3.out.oa.form.2)
            rw [D1.out, nis_length] at K1
            go_wp2_with fail
            refine K1.out.mono ?_
            rintro e w5 ⟨rfl, hb5⟩
            have HZ5 := hide (HZ3.out.below hb5)
            have HR5 := hide (HR3.out.below hb5)
            have X5 := hide (X3.out.below hb5)
            clear hb5 K1 HZ3 HR3 X3 x0 x1
            obtain ⟨x0, x1⟩ := X5.out.two
            have K2 := hide (rin_any pg cg (nis go) (q.1 : Int) (q.2 : Int) (by rw [nis_length]; omega) w5 HR5.out.og.form.2)
            rw [D2.out, nis_length] at K2
            go_wp2_with fail
            refine K2.out.mono ?_
            rintro e w6 ⟨rfl, hb6⟩
            have HZ6 := hide (HZ5.out.below hb6)
            have HR6 := hide (HR5.out.below hb6)
            have X6 := hide (X5.out.below hb6)
            clear hb6 K2 HZ5 HR5 X5 x0 x1
            obtain ⟨x0, x1⟩ := X6.out.two
            have q1 : decide ((q.1 : Int) < 1) = false := decide_eq_false (by omega)
            have q2 : decide ((q.2 : Int) < 1) = false := decide_eq_false (by omega)
            have D := (Below.refl w6.heap.size w6).alloc (Nat.le_refl _) (.cells #[.int .i64 (q.1 : Int), .int .i64 (q.2 : Int)] 31)
            have HZ7 := hide (HZ6.out.below D)
            have HR7 := hide (HR6.out.below D)
            have NB := hide (Hb.new w6 (q.1 : Int) (q.2 : Int)).hs
            have hbs := HZ7.out.bel.size
            have OA := hide (show OwnH (w6.alloc (.cells #[.int .i64 (q.1 : Int), .int .i64 (q.2 : Int)] 31)) W.heap.size (.slice pa al.length ca) (nis al) from HR7.out.oa)
            clear D HZ6 HR6 X6
            go_upto_region 18 with (fail)
            go_wp2_with (at_builtin; refine wpList_append_h _ rfl _ _ rfl W.heap.size (.slice pa al.length ca) (nis al) rfl OA.out (some ⟨w6.heap.size, 0, none⟩) 1 [((q.1 : Int), (q.2 : Int))] rfl NB.out (by simp only [nis_length, List.length_singleton]; omega) hbs ?_; intro A8 c8 w8 hown8 hg8 hn8; have HZ8 := hide (HZ7.out.grownH OA.out hg8); have HR8 := hide (HR7.out.putA hg8 (nis_own hown8) (nis_blk hn8)); clear hown8 hg8 hn8)
            go_roundw
            case rel => exact ⟨i + 1, al ++ [q], go, by omega, by go_num, by simp; omega, by rw [nis_length]; exact HR8.out, A', HZ8.out, HN.out⟩
            case measure => simp [intOf]; omega
        · have KP := hide (zput_full (i : Int) (by omega) HZ.out hf)
          have hput' : 0 < x % 3 ∨ (¬ 0 < x % 3 ∧ ((al.length : Int) == 0) = true) := hput.imp id (fun h => ⟨h.1, by rw [h.2]; rfl⟩)
          clear hput
          rcases hput' with d | ⟨d, d'⟩
          all_goals
            go_wp2_with fail
            try clear d'
            refine KP.out.mono ?_
            rintro e w3 ⟨rfl, hz, hb⟩
            have D := (Below.refl w3.heap.size w3).alloc (Nat.le_refl _) (.cells #[.int .i64 0, .int .i64 0] 31)
            have HZ3 := hide (hz.below D)
            have HR3 := hide ((HR.out.below hb).below D)
            clear hz hb D KP HR x0 HZ
            go_wp2_with fail
            go_roundw
            case rel => exact ⟨i + 1, al, go, by omega, by go_num, by omega, HR3.out, A, HZ3.out.up (by omega), HON.out⟩
            case measure => simp [intOf]; omega
      · have d : ¬ 0 < x % 3 := fun h => hput (.inl h)
        have d' : ((al.length : Int) == 0) = false := by
          have : al.length ≠ 0 := fun h => hput (.inr ⟨d, h⟩)
          simp
          exact fun e => this (by rw [e]; rfl)
        have hpos : 0 < al.length := by
          rcases Nat.eq_zero_or_pos al.length with h | h
          · exact absurd (.inr ⟨d, h⟩) hput
          · exact h
        obtain ⟨y, hy⟩ : ∃ y : Nat, y = x / 3 := ⟨_, rfl⟩
        obtain ⟨k, hk⟩ : ∃ k : Nat, k = y % al.length := ⟨_, rfl⟩
        have hkl : k < al.length := by rw [hk]; exact Nat.mod_lt _ hpos
        have t1 : Int.tdiv (x : Int) 3 = (y : Int) := by rw [hy]; rfl
        have t3 : (x : Int) / 3 = (y : Int) := by omega
        have t4 : IntKind.i64.wrap (y : Int) = (y : Int) := wrap_in _ (by omega) (by omega)
        have t2 : Int.tmod (y : Int) (al.length : Int) = (k : Int) := by rw [hk]; rfl
        have i2 : (0 : Int) ≤ (k : Int) := by omega
        have i3 : (k : Int) < (al.length : Int) := by omega
        clear hy
        clear hput hk
        obtain ⟨gA, rfl⟩ := HR.out.oa.head (by rw [nis_length]; exact hpos)
        obtain ⟨y0, y1⟩ := HR.out.oa.two k (by rw [nis_length]; exact hkl)
        rw [nis_at al k hkl] at y0 y1
        obtain ⟨v, hv⟩ := HON.out.there al[k] (List.getElem_mem hkl)
        have HN := hide (HON.out.free k hkl)
        have hq2 := (HZ.out.told (HON.out.told al[k] (List.mem_append_left _ (List.getElem_mem hkl)))).2
        have KF := hide (zfree_any _ _ v (by unfold i64B; omega) (by omega) HZ.out hv)
        rw [Int.toNat_natCast] at KF
        generalize hA' : A.free al[k].1 = A' at KF HN
        have HQ := hide (show ∀ V, Kp wr V → V.cell? ⟨gA, k * 2, none⟩ = some (.int .i64 (al[k].1 : Int)) ∧ V.cell? ⟨gA, k * 2 + 1, none⟩ = some (.int .i64 (al[k].2 : Int)) from fun V hk => by
          have := (HR.out.oa.kp hk).two k (by rw [nis_length]; exact hkl)
          rw [nis_at al k hkl] at this
          exact this)
        generalize al[k] = q at *
        clear hv hq2 hA' HZ HON
        go_wp2_with fail
        refine KF.out.mono ?_
        rintro e w3 ⟨rfl, hz, hk⟩
        obtain ⟨y0, y1⟩ := HQ.out w3 hk
        have HR3 := hide (HR.out.kp hk)
        have HZ3 := hide hz
        clear hz hk KF HR x0 HQ
        have D := (Below.refl w3.heap.size w3).alloc (Nat.le_refl _) (.cells #[.int .i64 (q.1 : Int), .int .i64 (q.2 : Int)] 31)
        have HZ4 := hide (HZ3.out.below D)
        have HR4 := hide (HR3.out.below D)
        have NB := hide (Hb.new w3 (q.1 : Int) (q.2 : Int)).hs
        have hbs := HZ4.out.bel.size
        have OG := hide (show OwnH (w3.alloc (.cells #[.int .i64 (q.1 : Int), .int .i64 (q.2 : Int)] 31)) W.heap.size (.slice pg go.length cg) (nis go) from HR4.out.og)
        clear D HZ3 HR3
        go_wp2_with (at_builtin; refine wpList_append_h _ rfl _ _ rfl W.heap.size (.slice pg go.length cg) (nis go) rfl OG.out (some ⟨w3.heap.size, 0, none⟩) 1 [((q.1 : Int), (q.2 : Int))] rfl NB.out (by simp only [nis_length, List.length_singleton]; omega) hbs ?_; intro A8 c8 w8 hown8 hg8 hn8; have HZ8 := hide (HZ4.out.grownH OG.out hg8); have HR8 := hide (HR4.out.putG hg8 (nis_own hown8) (nis_blk hn8)); clear hown8 hg8 hn8)
        rw [nis_length]
        obtain ⟨T, hT⟩ : ∃ T, (nis al).take k = T := ⟨_, rfl⟩
        obtain ⟨D, hD⟩ : ∃ D, (nis al).drop (k + 1) = D := ⟨_, rfl⟩
        have hTl : T.length = k := by rw [← hT, List.length_take, nis_length]; omega
        have hDl : D.length + (k + 1) = al.length := by rw [← hD, List.length_drop, nis_length]; omega
        have hfm := HR8.out.oa.form.2
        have hcle := hfm.le
        have hcm := hfm.most
        unfold maxLen at hcm
        rw [nis_length] at hcle
        obtain ⟨AD, r2, hsD⟩ := hs_tail hfm (k + 1) (by rw [nis_length]; omega)
        have hsT := hfm.head k
        rw [hT] at hsT
        rw [hD] at hsD
        rw [nis_length, hD, show ((k + 1 : Nat) : Int) = (k : Int) + 1 by omega] at r2
        have r1 : ∀ V, (Instr.slice 48 (.slice (some ⟨gA, 0, none⟩) al.length ca) none (some (.int .i64 (k : Int))) none).run Try.prog V = .ok (.slice (some ⟨gA, 0, none⟩) T.length ca) V := fun V => by
          rw [hTl]
          exact run_hs_head _ _ _ _ (by omega) V
        have D0 := (Below.refl w8.heap.size w8).drew.alloc (Nat.le_refl _) (.cells #[] 31)
        have HT := hide (hsT.below D0)
        have HD := hide hsD
        have O1 := hide (show OwnH (w8.drew.alloc (.cells #[] 31)) w8.heap.size (.slice (some ⟨w8.heap.size, 0, none⟩) 0 0) [] from World.ownsRow_made w8.drew #[] 0 (Nat.le_refl _) (by simp [maxLen]) rfl)
        have B0 := hide D0
        have bs0 := D0.size
        have HTD := hide (show T ++ D = nis (al.take k ++ al.drop (k + 1)) by rw [nis_append, nis_take, nis_drop, hT, hD])
        have HTl := hide hTl
        have HDl := hide hDl
        have tl : T.length + D.length ≤ 1000000 := by omega
        have wk1 : IntKind.i64.wrap ((k : Int) + 1) = (k : Int) + 1 := wrap_in _ (by omega) (by omega)
        have tr : True := trivial
        clear hT hD hTl hDl hfm hsT hsD D0 y0 y1
        go_wp2_with fail
        go_region_held3 (fun w' => w'.heap.size = w'.heap.size)
          (first | rfl | go_keep)
          (first
            | (refine step_append_h _ (by rfl) _ _ (by rfl) w8.heap.size (.slice (some ⟨w8.heap.size, 0, none⟩) 0 0) [] (by rfl) O1.out (some ⟨gA, 0, none⟩) ca T (by rfl) HT.out (by simp; omega) bs0 ?_
               intro A9 c9 w9 hown9 hg9 hn9
               have B9 := hide (B0.out.grown hg9 bs0 (fun k hk => (World.ownsRow.lt O1.out k hk).1))
               have HD9 := hide (HD.out.below B9.out)
               have bs9 := B9.out.size
               generalize hot : [] ++ T = ot at hown9 ⊢
               have HOT := hide hot
               have hol : ot.length + D.length ≤ 1000000 := by rw [← hot]; exact tl
               have O9 := hide hown9
               clear hn9 hg9 hot hown9)
            | (refine step_append_h _ (by rfl) _ _ (by rfl) w8.heap.size (.slice A9 ot.length c9) ot (by rfl) O9.out AD (ca - (k + 1)) D (by rfl) HD9.out hol bs9 ?_
               intro A10 c10 w10 hown10 hg10 hn10
               have B10 := hide (B9.out.grown hg10 bs9 (fun k hk => (World.ownsRow.lt O9.out k hk).1))
               generalize hzz : ot ++ D = zz at hown10 ⊢
               have HZZ := hide hzz
               have O10 := hide hown10
               clear hn10 hg10 hzz hown10))
        all_goals
          go_wp2_with fail
          go_roundw
          case rel =>
            have e : nis (al.take k ++ al.drop (k + 1)) = zz := by rw [← HTD.out, ← HZZ.out, ← HOT.out]; rfl
            exact ⟨i + 1, al.take k ++ al.drop (k + 1), go ++ [q], by omega, by go_num, by simp; omega, HR8.out.newA HZ8.out.bel.size B10.out (by rw [e]; exact O10.out), A', (HZ8.out.below B10.out).up (by omega), HN.out⟩
          case measure => simp [intOf]; omega
    · obtain rfl : i = f.length := by omega
      clear hR hz hon
      go_wp2_with fail
      go_loopw [15] (FiRel W g m f.length go.length A al go (.slice pa al.length ca) (.slice pg go.length cg)) (fun i _ => go.length - (intOf i).toNat)
      case atStart => exact ⟨0, Nat.zero_le _, rfl, HR.out, HZ.out⟩
      case round =>
        rename World => wi
        obtain ⟨j, hj, rfl, hR, hz⟩ := hrel
        have HRi := hide hR
        have HZi := hide hz
        clear hR hz
        by_cases hlt2 : j < go.length
        · obtain ⟨gG, rfl⟩ := HRi.out.og.head (by rw [nis_length]; omega)
          obtain ⟨y0, y1⟩ := HRi.out.og.two j (by rw [nis_length]; exact hlt2)
          rw [nis_at go j hlt2] at y0 y1
          have hv := HON.out.gone go[j] (List.getElem_mem hlt2)
          have hq2 := HZi.out.told (HON.out.told go[j] (List.mem_append_right _ (List.getElem_mem hlt2)))
          have i0 : (0 : Int) ≤ (j : Int) := by omega
          have i1 : (j : Int) < (go.length : Int) := by omega
          have hb1 : i64B (go[j].1 : Int) := by unfold i64B; omega
          have hb2 : i64B (go[j].2 : Int) := by unfold i64B; omega
          have K1 := hide (zget_any _ _ hb1 hb2 (by omega) HZi.out)
          rw [hv] at K1
          have KF := hide (fun V (h : Az W V g m f.length A) => zfree_no _ _ hb1 hb2 (by omega) h hv)
          generalize go[j] = q at *
          clear hv hq2 hb1 hb2
          go_wp2_with fail
          refine K1.out.mono ?_
          rintro e w5 ⟨rfl, hz, hb⟩
          have HZ5 := hide hz
          have HR5 := hide (HRi.out.below hb)
          have y0 := cell_b hb y0
          have y1 := cell_b hb y1
          clear hz hb K1 HZi HRi
          go_wp2_with fail
          refine (KF.out w5 HZ5.out).mono ?_
          rintro e w6 ⟨rfl, hz, hb⟩
          have HZ6 := hide hz
          have HR6 := hide (HR5.out.below hb)
          clear hz hb KF HZ5 HR5 y0 y1
          go_wp2_with fail
          go_roundw
          case rel => exact ⟨j + 1, by omega, by go_num, HR6.out, HZ6.out⟩
          case measure => simp [intOf]; omega
        · obtain rfl : j = go.length := by omega
          clear HR HZ
          go_wp2_with fail
          go_loopw [19] (FiRel W g m f.length al.length A al go (.slice pa al.length ca) (.slice pg go.length cg)) (fun i _ => al.length - (intOf i).toNat)
          case atStart => exact ⟨0, Nat.zero_le _, rfl, HRi.out, HZi.out⟩
          case round =>
            rename World => wj
            obtain ⟨j, hj3, rfl, hR, hz⟩ := hrel
            have HRj := hide hR
            have HZj := hide hz
            clear hR hz HRi HZi
            by_cases hlt3 : j < al.length
            · obtain ⟨gA, rfl⟩ := HRj.out.oa.head (by rw [nis_length]; omega)
              obtain ⟨y0, y1⟩ := HRj.out.oa.two j (by rw [nis_length]; exact hlt3)
              rw [nis_at al j hlt3] at y0 y1
              obtain ⟨v, hv⟩ := HON.out.there al[j] (List.getElem_mem hlt3)
              have hq2 := HZj.out.told (HON.out.told al[j] (List.mem_append_left _ (List.getElem_mem hlt3)))
              have i0 : (0 : Int) ≤ (j : Int) := by omega
              have i1 : (j : Int) < (al.length : Int) := by omega
              have hb1 : i64B (al[j].1 : Int) := by unfold i64B; omega
              have hb2 : i64B (al[j].2 : Int) := by unfold i64B; omega
              have K1 := hide (zget_any _ _ hb1 hb2 (by omega) HZj.out)
              rw [hv] at K1
              generalize al[j] = q at *
              clear hv hq2 hb1 hb2
              go_wp2_with fail
              refine K1.out.mono ?_
              rintro e w5 ⟨rfl, hz, hb⟩
              have HZ5 := hide hz
              have HR5 := hide (HRj.out.below hb)
              clear hz hb K1 HZj HRj y0 y1
              go_wp2_with fail
              go_roundw
              case rel => exact ⟨j + 1, by omega, by go_num, HR5.out, HZ5.out⟩
              case measure => simp [intOf]; omega
            · obtain rfl : j = al.length := by omega
              have K1 := hide (zlive_any (by omega) HZj.out)
              rw [HON.out.liv] at K1
              go_wp2_with fail
              refine K1.out.mono ?_
              rintro e w5 ⟨rfl, hz, hb⟩
              have B := hide hz.bel
              clear hz hb K1 HZj HRj
              go_wp2
              go_ret
              exact ⟨by simp, B.out⟩
end Go.Proofs.Ytooejagekkgpaaa
