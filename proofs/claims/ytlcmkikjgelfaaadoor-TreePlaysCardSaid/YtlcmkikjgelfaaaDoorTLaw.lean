/-
  Contracts of what the statements of layer 7 share: Same, awake, grown; a tree that a statement has made. Conditions: what is read can be read; not more than a thousand operations; the library's tables are as the program's text lays them.
-/
import Derived.Test.YtlcmkikjgelfaaaDoorTApply
import Derived.Test.YtlcmkikjgelfaaaDoorTFind
import Derived.Test.YtlcmkikjgelfaaaDoorTClone
import Derived.Test.YtlcmkikjgelfaaaDoorWTiny
import Derived.Deep.QuietTactic
import Derived.BigQuiet
namespace Go.Proofs.YtlcmkikjgelfaaaDoor
open Go.RowKit Go.Maps
set_option linter.unusedVariables false
set_option linter.unusedSimpArgs false
set_option maxRecDepth 100000

/-- Kids that can be read. -/
def Kids (w : World) (v : Value) (ks : List Kd) : Prop := ∃ A c, v = .slice A ks.length c ∧ ks.length ≤ c ∧ c ≤ maxLen ∧ (0 < ks.length → ∃ b o, A = some ⟨b, o, none⟩ ∧ KidsAt w b o ks)
theorem OwnKids.kids {w : World} {base : Nat} {v : Value} {ks : List Kd} (h : OwnKids w base v ks) : Kids w v ks := by
  obtain ⟨A, c, h1, h2, h3, h4⟩ := h.form
  exact ⟨A, c, h1, h2, h3, fun hp => by obtain ⟨b, e, h5⟩ := h4 hp; exact ⟨b, 0, e, h5⟩⟩
theorem KidsAt.below {w w' : World} {b o : Nat} {ks : List Kd} (h : KidsAt w b o ks) (hb : Below w.heap.size w w') : KidsAt w' b o ks := fun j u hu => by
  have := h j u hu
  exact (hb.cell (World.block_lt_of_cell? w _ this)).trans this
theorem Kids.below {w w' : World} {v : Value} {ks : List Kd} (h : Kids w v ks) (hb : Below w.heap.size w w') : Kids w' v ks := by
  obtain ⟨A, c, h1, h2, h3, h4⟩ := h
  exact ⟨A, c, h1, h2, h3, fun hp => by obtain ⟨b, o, e, h5⟩ := h4 hp; exact ⟨b, o, e, h5.below hb⟩⟩
theorem OwnKids.mod {w w' : World} {base : Nat} {v : Value} {ks : List Kd} {fs : List Nat} (h : OwnKids w base v ks) (hm : Mod fs w w') (hd : ∀ b, v.ownBlock = some b → b ∉ fs) : OwnKids w' base v ks :=
  h.kept fun b hb => hm.block b (h.lt hb).2 (hd b hb)
def KSameRel (w : World) (a b : List Kd) (i : Value) (wr : World) : Prop := ∃ k : Nat, k ≤ a.length ∧ i = .int .i64 (k : Int) ∧ decide (a.drop k = b.drop k) = decide (a = b) ∧ Below w.heap.size w wr
theorem ksame_step (a b : List Kd) (k : Nat) (h : k < a.length) (h' : k < b.length) : decide (a.drop k = b.drop k) = (decide (a[k] = b[k]) && decide (a.drop (k + 1) = b.drop (k + 1))) := by
  rw [List.drop_eq_getElem_cons h, List.drop_eq_getElem_cons h']
  simp only [List.cons.injEq, Bool.decide_and]
theorem belowD' {B : Nat} {a w : World} (h : Below B a w) (q : Nat) : Below B a (w.drewN q) := ⟨h.os, h.tape, h.output, h.size, h.block⟩
set_option maxHeartbeats 1000000 in
theorem ksame_any (v v' : Value) (a b : List Kd) (w : World) (hn : a.length ≤ 1000000) (hn' : b.length ≤ 1000000) (h : Kids w v a) (h' : Kids w v' b) :
    Calls Tryd.prog 22 #[v, v'] w (BoolRet (decide (a = b)) w) := by
  have HA := hide h
  have HB := hide h'
  obtain ⟨A, c, rfl, _, _, _⟩ := h
  obtain ⟨A', c', rfl, _, _, _⟩ := h'
  go_enter Tryd.func22, Tryd.ntmps22
  by_cases hl : a.length = b.length
  · have HL := hide hl
    have d0 : ((a.length : Int) != (b.length : Int)) = false := by simp; omega
    clear hl
    go_wp2_with fail
    go_loopw [5] (KSameRel w a b) (fun i _ => a.length - (intOf i).toNat)
    case atStart => exact ⟨0, Nat.zero_le _, rfl, rfl, Below.refl _ _⟩
    case round =>
      obtain ⟨k, hk, rfl, hs, hb⟩ := hrel
      have HS := hide hs
      have BB := hide hb
      clear hs hb
      by_cases hlt : k < a.length
      · have hlt' : k < b.length := by have := HL.out; omega
        obtain ⟨A1, c1, e1, _, _, hp1⟩ := HA.out.below BB.out
        obtain ⟨A2, c2, e2, _, _, hp2⟩ := HB.out.below BB.out
        cases e1
        cases e2
        obtain ⟨g, o, rfl, hat⟩ := hp1 (by omega)
        obtain ⟨g', o', rfl, hat'⟩ := hp2 (by omega)
        obtain ⟨c0, c1, c2⟩ := hat.three k hlt
        obtain ⟨e0, e1, e2⟩ := hat'.three k hlt'
        have ST := hide (ksame_step a b k hlt hlt')
        generalize a[k]'hlt = x at c0 c1 c2 ST
        generalize b[k]'hlt' = y at e0 e1 e2 ST
        have hq := kid_neq x y
        clear hat hat' hp1 hp2
        have i1 : (k : Int) < (a.length : Int) := by omega
        have i2 : (k : Int) < (b.length : Int) := by omega
        have i0 : (0 : Int) ≤ (k : Int) := by omega
        by_cases hxy : x = y
        · have E := hide (show decide (a.drop (k + 1) = b.drop (k + 1)) = decide (a = b) by rw [← HS.out, ST.out, decide_eq_true hxy, Bool.true_and])
          rw [decide_eq_true hxy] at hq
          clear hxy ST
          go_wp2_with fail
          go_quiet (fail)
          go_wp2
          go_roundw
          case rel => exact ⟨k + 1, by omega, by go_num, E.out, belowD' BB.out _⟩
          case measure => simp [intOf]; omega
        · have E := hide (show decide (a = b) = false by rw [← HS.out, ST.out, decide_eq_false hxy, Bool.false_and])
          rw [decide_eq_false hxy] at hq
          clear hxy ST
          go_wp2_with fail
          go_quiet (fail)
          go_wp2
          go_ret
          rw [E.out]
          exact ⟨rfl, belowD' BB.out _⟩
      · obtain rfl : k = a.length := by omega
        have E := hide (show decide (a = b) = true by
          rw [← HS.out, List.drop_length]
          have := HL.out
          rw [List.drop_eq_nil_of_le (by omega)]
          rfl)
        go_wp2
        go_ret
        rw [E.out]
        exact ⟨rfl, BB.out⟩
  · have E := hide (show decide (a = b) = false from decide_eq_false fun e => hl (by rw [e]))
    have d0 : ((a.length : Int) != (b.length : Int)) = true := by simp; omega
    clear hl
    go_wp2
    go_ret
    rw [E.out]
    exact ⟨rfl, Below.refl _ _⟩
/-! ### a tree that grows -/
abbrev St := List Kd × List (List Kd)
/-- What an operation makes of a tree and of what it was. -/
def stp (s : St) (o : O5) : St := if o.R = true then (app s.1 o, s.1 :: s.2) else s
def apB (s : St) (o : O5) : Bool := o.R && can s.1 o
def runS (os : List O5) : St := os.foldl stp ([], [])
theorem runS_snoc (os : List O5) (o : O5) : runS (os ++ [o]) = stp (runS os) o := by simp [runS]
theorem stp_hst {s : St} (h : Hst s.1 s.2) (o : O5) : Hst (stp s o).1 (stp s o).2 := by
  unfold stp
  split
  · exact .app o h (by assumption)
  · exact h
theorem stp_len (s : St) (o : O5) : (stp s o).2.length ≤ s.2.length + 1 := by
  unfold stp
  split <;> simp
theorem foldS_len : ∀ (os : List O5) (s : St), (os.foldl stp s).2.length ≤ s.2.length + os.length
  | [], s => Nat.le_refl _
  | o :: os, s => by
    have h1 := foldS_len os (stp s o)
    have h2 := stp_len s o
    simp only [List.foldl_cons, List.length_cons]
    omega
theorem runS_len (os : List O5) : (runS os).2.length ≤ os.length := by
  have := foldS_len os ([], [])
  simpa [runS] using this
theorem foldS_hst : ∀ (os : List O5) (s : St), Hst s.1 s.2 → Hst (os.foldl stp s).1 (os.foldl stp s).2
  | [], s, h => h
  | o :: os, s, h => foldS_hst os (stp s o) (stp_hst h o)
theorem runS_hst (os : List O5) : Hst (runS os).1 (runS os).2 := foldS_hst os ([], []) .nil
/-- A tree in memory that is new since a world. -/
structure Lw (w0 w : World) (g : Nat) (s : St) (fs : List Nat) : Prop where
  tr : Tr w g s.1 s.2 fs
  fs : ∀ k ∈ fs, w0.heap.size ≤ k
  bel : Below w0.heap.size w0 w
theorem Lw.below {w0 w w' : World} {g : Nat} {s : St} {fs : List Nat} (h : Lw w0 w g s fs) (hb : Below w.heap.size w w') : Lw w0 w' g s fs :=
  ⟨h.tr.below hb, h.fs, h.bel.trans (hb.mono h.bel.size)⟩
theorem Lw.ret {w0 w w' : World} {g : Nat} {s s' : St} {fs : List Nat} {v : Value} {e : Ending} (h : Lw w0 w g s fs) (hr : TrRet v g s'.1 s'.2 fs w e w') : e = .returned v ∧ ∃ fs', Lw w0 w' g s' fs' ∧ Mod fs w w' ∧ ∀ k ∈ fs', k ∈ fs ∨ w.heap.size ≤ k := by
  obtain ⟨rfl, fs', h1, h2, h3⟩ := hr
  refine ⟨rfl, fs', ⟨h1, fun k hk => ?_, h.bel.trans (h2.below h.bel.size h.fs)⟩, h2, h3⟩
  rcases h3 k hk with hk | hk
  · exact h.fs k hk
  · exact Nat.le_trans h.bel.size hk
theorem Lw.env {w0 w : World} {g : Nat} {s : St} {fs : List Nat} (h : Lw w0 w g s fs) (hE : Env w0) : Env w := hE.below h.bel
theorem tapply_any (g : Nat) (s : St) (fs : List Nat) (o : O5) (hl : o.l.length ≤ maxLen) (hr : s.2.length < 900000) (w : World) (hE : Env w) (h : Tr w g s.1 s.2 fs) :
    Calls Tryd.prog 16 #[.pointer (some ⟨g, 0, none⟩), .agg #[.int .i64 o.n, .int .i64 o.r, .int .i64 o.d, .int .i64 o.t, .string (bs o.l)]] w (TrRet (.bool (apB s o)) g (stp s o).1 (stp s o).2 fs w) := by
  cases hR : o.R with
  | false =>
    have e1 : apB s o = false := by unfold apB; rw [hR]; rfl
    have e2 : stp s o = s := by unfold stp; rw [hR]; simp
    rw [e1, e2]
    refine (tapply_wrong g s.1 s.2 fs o hl hR w hE).mono ?_
    rintro e w' ⟨rfl, hb⟩
    exact ⟨rfl, fs, h.below hb, Mod.of_below hb, fun k hk => .inl hk⟩
  | true =>
    have e1 : apB s o = can s.1 o := by unfold apB; rw [hR]; rfl
    have e2 : stp s o = (app s.1 o, s.1 :: s.2) := by unfold stp; rw [hR]; simp
    rw [e1, e2]
    exact tapply_right g s.1 s.2 fs o hl hR hr w hE h
def GrowRet (w : World) (s : St) (e : Ending) (w' : World) : Prop := ∃ g fs, e = .returned (.pointer (some ⟨g, 0, none⟩)) ∧ Lw w w' g s fs
def GrowRel (w : World) (g : Nat) (os : List O5) (i : Value) (wr : World) : Prop := ∃ (k : Nat) (fs : List Nat), k ≤ os.length ∧ i = .int .i64 (k : Int) ∧ Lw w wr g (runS (os.take k)) fs
set_option maxHeartbeats 1000000 in
theorem grown_any (A : Option Addr) (c : Nat) (os : List O5) (w : World) (hn : os.length ≤ 1000) (hm : ∀ o ∈ os, o.l.length ≤ maxLen) (hE : Env w) (h : Ops w A c os) :
    Calls Tryd.prog 28 #[.slice A os.length c] w (GrowRet w (runS os)) := by
  have HO := hide h
  have HE := hide hE
  have HM := hide hm
  clear h hE hm
  go_enter Tryd.func28, Tryd.ntmps28
  go_wp2_with fail
  refine (tnew_any w).mono ?_
  rintro e w1 ⟨rfl, hT, hB⟩
  have S1 := hide (show GrowRel w (w.heap.size + 1) os (.int .i64 0) w1 from ⟨0, _, Nat.zero_le _, rfl, ⟨hT, by simp, hB⟩⟩)
  clear hT hB
  go_wp2_with fail
  go_loopw [4] (GrowRel w (w.heap.size + 1) os) (fun i _ => os.length - (intOf i).toNat)
  case atStart => exact S1.out
  case round =>
    obtain ⟨k, fs, hk, rfl, hL⟩ := hrel
    have HL := hide hL
    clear hL S1
    by_cases hlt : k < os.length
    · obtain ⟨b, o, rfl, hat⟩ := (HO.out.below HL.out.bel).lit (by omega)
      obtain ⟨c0, c1, c2, c3, c4⟩ := hat.five k hlt
      have HS := hide (show runS (os.take (k + 1)) = stp (runS (os.take k)) os[k] by rw [List.take_succ_eq_append_getElem hlt, runS_snoc])
      have hx := HM.out _ (List.getElem_mem hlt)
      have hr : (runS (os.take k)).2.length < 900000 := by
        have := runS_len (os.take k)
        simp at this
        omega
      have KA := hide (tapply_any (w.heap.size + 1) (runS (os.take k)) fs os[k] hx hr wr (HL.out.env HE.out) HL.out.tr)
      rw [← HS.out] at KA
      generalize os[k] = x at c0 c1 c2 c3 c4 KA hx HS
      clear hat
      go_wp2_with fail
      refine KA.out.mono ?_
      rintro e w2 hret
      obtain ⟨rfl, fs', hL', _, _⟩ := HL.out.ret hret
      have HL' := hide hL'
      clear hret hL' KA c0 c1 c2 c3 c4
      go_wp2_with fail
      go_roundw
      case rel => exact ⟨k + 1, fs', by omega, by go_num, HL'.out⟩
      case measure => simp [intOf]; omega
    · obtain rfl : k = os.length := by omega
      go_wp2
      go_ret
      refine ⟨_, fs, rfl, ?_⟩
      have := HL.out
      rwa [List.take_length] at this
/-! ### awake -/
def aw1 : O5 := ⟨1, 0, 256, 0, [97]⟩
def aw2 : O5 := ⟨1, 0, 257, 256, [98]⟩
def aw3 : O5 := ⟨1, 0, 256, 257, [99]⟩
def awL1 : List Kd := [⟨0, [97], 256⟩]
def awL2 : List Kd := [⟨0, [97], 256⟩, ⟨256, [98], 257⟩]
theorem aw_s1 : stp ([], []) aw1 = (awL1, [[]]) := by decide
theorem aw_s2 : stp (awL1, [[]]) aw2 = (awL2, [awL1, []]) := by decide
theorem aw_s3 : stp (awL2, [awL1, []]) aw3 = (awL2, [awL2, awL1, []]) := by decide
theorem aw_b1 : apB ([], []) aw1 = true := by decide
theorem aw_b2 : apB (awL1, [[]]) aw2 = true := by decide
theorem aw_b3 : apB (awL2, [awL1, []]) aw3 = false := by decide
theorem aw_sp : splitP [47, 97, 47, 98] = some [[97], [98]] := by decide
theorem aw_l1 : leastK awL2 0 [97] = some 256 := leastK_eq ⟨⟨⟨0, [97], 256⟩, by simp [awL2], rfl, rfl, rfl⟩, by simp [awL2]⟩
theorem aw_l2 : leastK awL2 256 [98] = some 257 := leastK_eq ⟨⟨⟨256, [98], 257⟩, by simp [awL2], rfl, rfl, rfl⟩, by simp [awL2]⟩
theorem aw_d : down awL2 0 [[97], [98]] = some 257 := by
  unfold down
  rw [aw_l1]
  simp only
  unfold down
  rw [aw_l2]
  rfl
theorem aw_f : findN awL2 [47, 97, 47, 98] = 257 ∧ findE awL2 [47, 97, 47, 98] = 0 := by
  unfold findN findE
  rw [aw_sp]
  simp [aw_d]
theorem aw_u : abv awL2 256 257 = true := by decide
set_option maxHeartbeats 2000000 in
theorem awake_any (w : World) (hE : Env w) : Calls Tryd.prog 11 #[] w (TrueRet w) := by
  have HE := hide hE
  clear hE
  go_enter Tryd.func11, Tryd.ntmps11
  go_wp2_with fail
  refine (tnew_any w).mono ?_
  rintro e w1 ⟨rfl, hT, hB⟩
  have L0 : Lw w w1 (w.heap.size + 1) ([], []) [w.heap.size + 1, w.heap.size] := ⟨hT, by simp, hB⟩
  have Bz := (Below.refl w1.heap.size w1).alloc (Nat.le_refl _) (.cells #[.int .i64 1, .int .i64 0] 35)
  have L1 := hide (L0.below Bz)
  have bx := heap_alloc_new w1 (.cells #[.int .i64 1, .int .i64 0] 35)
  have HX := hide bx
  have s1 := Bz.size
  have lx : w1.heap.size < (w1.alloc (.cells #[.int .i64 1, .int .i64 0] 35)).heap.size := by simp
  have NF := hide (show w1.heap.size ∉ [w.heap.size + 1, w.heap.size] from fun hk => by have := L0.tr.lt _ hk; omega)
  clear hT hB L0 Bz bx
  have HEa := hide (L1.out.env HE.out)
  have K1 := hide (tapply_any (w.heap.size + 1) ([], []) [w.heap.size + 1, w.heap.size] aw1 (by decide) (by decide) _ HEa.out L1.out.tr)
  rw [aw_b1, aw_s1] at K1
  go_wp2_with fail
  refine K1.out.mono ?_
  rintro e w2 hr
  obtain ⟨rfl, fs1, hL2, hM2, hF2⟩ := L1.out.ret (s' := (awL1, [[]])) hr
  have X2 := (hM2.block _ lx NF.out).trans HX.out
  have a0 := cell_of_row _ _ 0 _ _ (0, 0) X2
  have a1 := cell_of_row _ _ 1 _ _ (0, 0) X2
  simp at a0 a1
  have HX2 := hide X2
  have NF2 := hide (show w1.heap.size ∉ fs1 from fun hk => by
    rcases hF2 _ hk with h | h
    · exact NF.out h
    · omega)
  have L2 := hide hL2
  have lx2 : w1.heap.size < w2.heap.size := (Array.getElem?_eq_some_iff.1 X2).1
  have K2 := hide (tapply_any (w.heap.size + 1) (awL1, [[]]) fs1 aw2 (by decide) (by decide) w2 (hL2.env HE.out) hL2.tr)
  rw [aw_b2, aw_s2] at K2
  clear hr hL2 hM2 hF2 X2 K1 L1 HX NF HEa lx s1
  go_wp2_with fail
  refine K2.out.mono ?_
  rintro e w3 hr
  obtain ⟨rfl, fs2, hL3, hM3, hF3⟩ := L2.out.ret (s' := (awL2, [awL1, []])) hr
  have X3 := (hM3.block _ lx2 NF2.out).trans HX2.out
  have L3 := hide hL3
  have KF := hide (tfind_any (w.heap.size + 1) awL2 [awL1, []] fs2 [47, 97, 47, 98] (by decide) w3 (hL3.env HE.out) hL3.tr)
  rw [aw_f.1, aw_f.2] at KF
  have HX3 := hide X3
  have NF3 := hide (show w1.heap.size ∉ fs2 from fun hk => by
    rcases hF3 _ hk with h | h
    · exact NF2.out h
    · omega)
  have lx3 : w1.heap.size < w3.heap.size := (Array.getElem?_eq_some_iff.1 X3).1
  clear hr hL3 hM3 hF3 X3 K2 L2 HX2 NF2 lx2 a0 a1
  have eb : bs [47, 97, 47, 98] = { data := #[47, 97, 47, 98] } := rfl
  rw [eb] at KF
  go_wp2_with fail
  refine KF.out.mono ?_
  rintro e w4 ⟨rfl, hb4⟩
  have L4 := hide (L3.out.below hb4)
  have X4 := (hb4.block _ lx3).trans HX3.out
  have b0 := cell_of_row _ _ 0 _ _ (0, 0) X4
  have b1 := cell_of_row _ _ 1 _ _ (0, 0) X4
  simp at b0 b1
  have K3 := hide (tapply_any (w.heap.size + 1) (awL2, [awL1, []]) fs2 aw3 (by decide) (by decide) w4 (L4.out.env HE.out) L4.out.tr)
  rw [aw_b3, aw_s3] at K3
  clear hb4 X4 KF L3 HX3 eb lx3
  go_wp2_with fail
  refine K3.out.mono ?_
  rintro e w5 hr
  obtain ⟨rfl, fs3, hL5, _, _⟩ := L4.out.ret (s' := (awL2, [awL2, awL1, []])) hr
  have L5 := hide hL5
  have KA := hide (tabove_any (w.heap.size + 1) awL2 [awL2, awL1, []] fs3 256 257 (by unfold i64B; omega) (by unfold i64B; omega) w5 hL5.tr)
  rw [aw_u] at KA
  clear hr hL5 K3 L4 b0 b1
  go_wp2_with fail
  refine KA.out.mono ?_
  rintro e w6 ⟨rfl, hb6⟩
  have B6 := hide (L5.out.below hb6).bel
  clear hb6 KA L5
  go_wp2
  go_ret
  exact ⟨rfl, B6.out⟩
end Go.Proofs.YtlcmkikjgelfaaaDoor
