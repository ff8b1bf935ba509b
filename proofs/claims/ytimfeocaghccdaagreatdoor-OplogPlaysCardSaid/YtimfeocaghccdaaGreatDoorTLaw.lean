/-
  Contracts of what the statements of layer 7 share: Same, awake, grown; a tree that a statement has made. Conditions: what is read can be read; not more than a thousand operations; the library's tables are as the program's text lays them.
-/
import Derived.Test.YtimfeocaghccdaaGreatDoorTApply
import Derived.Test.YtimfeocaghccdaaGreatDoorTFind
import Derived.Test.YtimfeocaghccdaaGreatDoorTClone
import Derived.Test.YtimfeocaghccdaaGreatDoorWTiny
import Derived.Deep.QuietTactic
import Derived.BigQuiet
namespace Go.Proofs.YtimfeocaghccdaaGreatDoor
set_option maxRecDepth 100000
open Go.RowKit Go.Maps
set_option linter.unusedVariables false
set_option linter.unusedSimpArgs false
set_option maxRecDepth 100000

/-- Kids that can be read. -/
def Kids (w : World) (v : Value) (ks : List Kd) : Prop := ∃ A c, v = .slice A ks.length c ∧ ks.length ≤ c ∧ c ≤ maxLen ∧ (0 < ks.length → ∃ b o, A = some ⟨b, o, none⟩ ∧ KidsAt w b o ks)
theorem OwnKids.kids {w : World} {base : Nat} {v : Value} {ks : List Kd} (h : OwnKids w base v ks) : Kids w v ks := by
  obtain ⟨A, c, h1, h2, h3, h4⟩ := h.form
  exact ⟨A, c, h1, h2, h3, fun hp => by obtain ⟨b, e, h5⟩ := h4 hp; exact ⟨b, 0, e, h5⟩⟩
theorem KidsAt.below {w w' : World} {b o : Nat} {ks : List Kd} (h : KidsAt w b o ks) (hb : Below w.heap.size w w') : KidsAt w' b o ks := fun j u hu => by
  have := h j u hu
  exact (hb.cell (World.block_lt_of_cell? w _ this)).trans this
theorem Kids.below {w w' : World} {v : Value} {ks : List Kd} (h : Kids w v ks) (hb : Below w.heap.size w w') : Kids w' v ks := by
  obtain ⟨A, c, h1, h2, h3, h4⟩ := h
  exact ⟨A, c, h1, h2, h3, fun hp => by obtain ⟨b, o, e, h5⟩ := h4 hp; exact ⟨b, o, e, h5.below hb⟩⟩
theorem OwnKids.mod {w w' : World} {base : Nat} {v : Value} {ks : List Kd} {fs : List Nat} (h : OwnKids w base v ks) (hm : Mod fs w w') (hd : ∀ b, v.ownBlock = some b → b ∉ fs) : OwnKids w' base v ks :=
  h.kept fun b hb => hm.block b (h.lt hb).2 (hd b hb)
def KSameRel (w : World) (a b : List Kd) (i : Value) (wr : World) : Prop := ∃ k : Nat, k ≤ a.length ∧ i = .int .i64 (k : Int) ∧ decide (a.drop k = b.drop k) = decide (a = b) ∧ Below w.heap.size w wr
theorem ksame_step (a b : List Kd) (k : Nat) (h : k < a.length) (h' : k < b.length) : decide (a.drop k = b.drop k) = (decide (a[k] = b[k]) && decide (a.drop (k + 1) = b.drop (k + 1))) := by
  rw [List.drop_eq_getElem_cons h, List.drop_eq_getElem_cons h']
  simp only [List.cons.injEq, Bool.decide_and]
theorem belowD' {B : Nat} {a w : World} (h : Below B a w) (q : Nat) : Below B a (w.drewN q) := ⟨h.os, h.tape, h.output, h.size, h.block⟩
set_option maxHeartbeats 1000000 in
theorem ksame_any (v v' : Value) (a b : List Kd) (w : World) (hn : a.length ≤ 1000000) (hn' : b.length ≤ 1000000) (h : Kids w v a) (h' : Kids w v' b) :
    Calls Tryz.prog 18 #[v, v'] w (BoolRet (decide (a = b)) w) := by
  have HA := hide h
  have HB := hide h'
  obtain ⟨A, c, rfl, _, _, _⟩ := h
  obtain ⟨A', c', rfl, _, _, _⟩ := h'
  go_enter Tryz.func18, Tryz.ntmps18
  by_cases hl : a.length = b.length
  · have HL := hide hl
    have d0 : ((a.length : Int) != (b.length : Int)) = false := by simp; omega
    clear hl
    go_wp2_with fail
    go_loopw [5] (KSameRel w a b) (fun i _ => a.length - (intOf i).toNat)
    case atStart => exact ⟨0, Nat.zero_le _, rfl, rfl, Below.refl _ _⟩
    case round =>
      obtain ⟨k, hk, rfl, hs, hb⟩ := hrel
      have HS := hide hs
      have BB := hide hb
      clear hs hb
      by_cases hlt : k < a.length
      · have hlt' : k < b.length := by have := HL.out; omega
        obtain ⟨A1, c1, e1, _, _, hp1⟩ := HA.out.below BB.out
        obtain ⟨A2, c2, e2, _, _, hp2⟩ := HB.out.below BB.out
        cases e1
        cases e2
        obtain ⟨g, o, rfl, hat⟩ := hp1 (by omega)
        obtain ⟨g', o', rfl, hat'⟩ := hp2 (by omega)
        obtain ⟨c0, c1, c2⟩ := hat.three k hlt
        obtain ⟨e0, e1, e2⟩ := hat'.three k hlt'
        have ST := hide (ksame_step a b k hlt hlt')
        generalize a[k]'hlt = x at c0 c1 c2 ST
        generalize b[k]'hlt' = y at e0 e1 e2 ST
        have hq := kid_neq x y
        clear hat hat' hp1 hp2
        have i1 : (k : Int) < (a.length : Int) := by omega
        have i2 : (k : Int) < (b.length : Int) := by omega
        have i0 : (0 : Int) ≤ (k : Int) := by omega
        by_cases hxy : x = y
        · have E := hide (show decide (a.drop (k + 1) = b.drop (k + 1)) = decide (a = b) by rw [← HS.out, ST.out, decide_eq_true hxy, Bool.true_and])
          rw [decide_eq_true hxy] at hq
          clear hxy ST
          go_wp2_with fail
          go_quiet (fail)
          go_wp2
          go_roundw
          case rel => exact ⟨k + 1, by omega, by go_num, E.out, belowD' BB.out _⟩
          case measure => simp [intOf]; omega
        · have E := hide (show decide (a = b) = false by rw [← HS.out, ST.out, decide_eq_false hxy, Bool.false_and])
          rw [decide_eq_false hxy] at hq
          clear hxy ST
          go_wp2_with fail
          go_quiet (fail)
          go_wp2
          go_ret
          rw [E.out]
          exact ⟨rfl, belowD' BB.out _⟩
      · obtain rfl : k = a.length := by omega
        have E := hide (show decide (a = b) = true by
          rw [← HS.out, List.drop_length]
          have := HL.out
          rw [List.drop_eq_nil_of_le (by omega)]
          rfl)
        go_wp2
        go_ret
        rw [E.out]
        exact ⟨rfl, BB.out⟩
  · have E := hide (show decide (a = b) = false from decide_eq_false fun e => hl (by rw [e]))
    have d0 : ((a.length : Int) != (b.length : Int)) = true := by simp; omega
    clear hl
    go_wp2
    go_ret
    rw [E.out]
    exact ⟨rfl, Below.refl _ _⟩
/-! ### a tree that grows -/
abbrev St := List Kd × List (List Kd)
/-- What an operation makes of a tree and of what it was. -/
def stp (s : St) (o : O5) : St := if o.R = true then (app s.1 o, s.1 :: s.2) else s
def apB (s : St) (o : O5) : Bool := o.R && can s.1 o
def runS (os : List O5) : St := os.foldl stp ([], [])
theorem runS_snoc (os : List O5) (o : O5) : runS (os ++ [o]) = stp (runS os) o := by simp [runS]
theorem stp_hst {s : St} (h : Hst s.1 s.2) (o : O5) : Hst (stp s o).1 (stp s o).2 := by
  unfold stp
  split
  · exact .app o h (by assumption)
  · exact h
theorem stp_len (s : St) (o : O5) : (stp s o).2.length ≤ s.2.length + 1 := by
  unfold stp
  split <;> simp
theorem foldS_len : ∀ (os : List O5) (s : St), (os.foldl stp s).2.length ≤ s.2.length + os.length
  | [], s => Nat.le_refl _
  | o :: os, s => by
    have h1 := foldS_len os (stp s o)
    have h2 := stp_len s o
    simp only [List.foldl_cons, List.length_cons]
    omega
theorem runS_len (os : List O5) : (runS os).2.length ≤ os.length := by
  have := foldS_len os ([], [])
  simpa [runS] using this
theorem foldS_hst : ∀ (os : List O5) (s : St), Hst s.1 s.2 → Hst (os.foldl stp s).1 (os.foldl stp s).2
  | [], s, h => h
  | o :: os, s, h => foldS_hst os (stp s o) (stp_hst h o)
theorem runS_hst (os : List O5) : Hst (runS os).1 (runS os).2 := foldS_hst os ([], []) .nil
/-- A tree in memory that is new since a world. -/
structure Lw (w0 w : World) (g : Nat) (s : St) (fs : List Nat) : Prop where
  tr : Tr w g s.1 s.2 fs
  fs : ∀ k ∈ fs, w0.heap.size ≤ k
  bel : Below w0.heap.size w0 w
theorem Lw.below {w0 w w' : World} {g : Nat} {s : St} {fs : List Nat} (h : Lw w0 w g s fs) (hb : Below w.heap.size w w') : Lw w0 w' g s fs :=
  ⟨h.tr.below hb, h.fs, h.bel.trans (hb.mono h.bel.size)⟩
theorem Lw.ret {w0 w w' : World} {g : Nat} {s s' : St} {fs : List Nat} {v : Value} {e : Ending} (h : Lw w0 w g s fs) (hr : TrRet v g s'.1 s'.2 fs w e w') : e = .returned v ∧ ∃ fs', Lw w0 w' g s' fs' ∧ Mod fs w w' ∧ ∀ k ∈ fs', k ∈ fs ∨ w.heap.size ≤ k := by
  obtain ⟨rfl, fs', h1, h2, h3⟩ := hr
  refine ⟨rfl, fs', ⟨h1, fun k hk => ?_, h.bel.trans (h2.below h.bel.size h.fs)⟩, h2, h3⟩
  rcases h3 k hk with hk | hk
  · exact h.fs k hk
  · exact Nat.le_trans h.bel.size hk
theorem Lw.env {w0 w : World} {g : Nat} {s : St} {fs : List Nat} (h : Lw w0 w g s fs) (hE : Env w0) : Env w := hE.below h.bel
theorem tapply_any (g : Nat) (s : St) (fs : List Nat) (o : O5) (hl : o.l.length ≤ maxLen) (hr : s.2.length < 900000) (w : World) (hE : Env w) (h : Tr w g s.1 s.2 fs) :
    Calls Tryz.prog 25 #[.pointer (some ⟨g, 0, none⟩), .agg #[.int .i64 o.n, .int .i64 o.r, .int .i64 o.d, .int .i64 o.t, .string (bs o.l)]] w (TrRet (.bool (apB s o)) g (stp s o).1 (stp s o).2 fs w) := by
  cases hR : o.R with
  | false =>
    have e1 : apB s o = false := by unfold apB; rw [hR]; rfl
    have e2 : stp s o = s := by unfold stp; rw [hR]; simp
    rw [e1, e2]
    refine (tapply_wrong g s.1 s.2 fs o hl hR w hE).mono ?_
    rintro e w' ⟨rfl, hb⟩
    exact ⟨rfl, fs, h.below hb, Mod.of_below hb, fun k hk => .inl hk⟩
  | true =>
    have e1 : apB s o = can s.1 o := by unfold apB; rw [hR]; rfl
    have e2 : stp s o = (app s.1 o, s.1 :: s.2) := by unfold stp; rw [hR]; simp
    rw [e1, e2]
    exact tapply_right g s.1 s.2 fs o hl hR hr w hE h
def GrowRet (w : World) (s : St) (e : Ending) (w' : World) : Prop := ∃ g fs, e = .returned (.pointer (some ⟨g, 0, none⟩)) ∧ Lw w w' g s fs
def GrowRel (w : World) (g : Nat) (os : List O5) (i : Value) (wr : World) : Prop := ∃ (k : Nat) (fs : List Nat), k ≤ os.length ∧ i = .int .i64 (k : Int) ∧ Lw w wr g (runS (os.take k)) fs
/-! ### awake -/
def aw1 : O5 := ⟨1, 0, 256, 0, [97]⟩
def aw2 : O5 := ⟨1, 0, 257, 256, [98]⟩
def aw3 : O5 := ⟨1, 0, 256, 257, [99]⟩
def awL1 : List Kd := [⟨0, [97], 256⟩]
def awL2 : List Kd := [⟨0, [97], 256⟩, ⟨256, [98], 257⟩]
theorem aw_s1 : stp ([], []) aw1 = (awL1, [[]]) := by decide
theorem aw_s2 : stp (awL1, [[]]) aw2 = (awL2, [awL1, []]) := by decide
theorem aw_s3 : stp (awL2, [awL1, []]) aw3 = (awL2, [awL2, awL1, []]) := by decide
theorem aw_b1 : apB ([], []) aw1 = true := by decide
theorem aw_b2 : apB (awL1, [[]]) aw2 = true := by decide
theorem aw_b3 : apB (awL2, [awL1, []]) aw3 = false := by decide
theorem aw_sp : splitP [47, 97, 47, 98] = some [[97], [98]] := by decide
theorem aw_l1 : leastK awL2 0 [97] = some 256 := leastK_eq ⟨⟨⟨0, [97], 256⟩, by simp [awL2], rfl, rfl, rfl⟩, by simp [awL2]⟩
theorem aw_l2 : leastK awL2 256 [98] = some 257 := leastK_eq ⟨⟨⟨256, [98], 257⟩, by simp [awL2], rfl, rfl, rfl⟩, by simp [awL2]⟩
theorem aw_d : down awL2 0 [[97], [98]] = some 257 := by
  unfold down
  rw [aw_l1]
  simp only
  unfold down
  rw [aw_l2]
  rfl
theorem aw_f : findN awL2 [47, 97, 47, 98] = 257 ∧ findE awL2 [47, 97, 47, 98] = 0 := by
  unfold findN findE
  rw [aw_sp]
  simp [aw_d]
theorem aw_u : abv awL2 256 257 = true := by decide
end Go.Proofs.YtimfeocaghccdaaGreatDoor
