/-
  Contracts under package epoch's Free: the closure, slices.IndexFunc with it, slices.Clone of those that wait. Conditions: what they read can be read; epochs up to a million.
-/
import Derived.Test.YtbfbnfnjjlibbaaESmall
import Derived.Lib.LazyBuf
namespace Go.Proofs.Ytbfbnfnjjlibbaa
open Go.RowKit Go.Maps
set_option linter.unusedVariables false
set_option linter.unusedSimpArgs false
set_option maxRecDepth 100000

theorem estays_any (g now b0 b1 : Nat) (least p q : Int) (ep : Nat) (hnow : now ≤ 1000000) (hep : ep ≤ 1000000) (w : World) (c0 : w.cell? ⟨b0, 0, none⟩ = some (.int .i64 least)) (c1 : w.cell? ⟨b1, 0, none⟩ = some (.pointer (some ⟨g, 0, none⟩))) (c2 : w.cell? ⟨g, 0, none⟩ = some (.int .i64 (now : Int))) :
    Calls Try.prog 20 #[.agg #[.int .i64 p, .int .i64 q, .int .i64 (ep : Int)], .pointer (some ⟨b0, 0, none⟩), .pointer (some ⟨b1, 0, none⟩)] w (BoolRet (!may least now ep) w) := by
  have we : IntKind.i64.wrap ((now : Int) - 2) = (now : Int) - 2 := wrap_in _ (by omega) (by omega)
  have D0 := (Below.refl w.heap.size w).alloc (Nat.le_refl _) (.cells #[.int .i64 p, .int .i64 q, .int .i64 (ep : Int)] 49)
  have HD := hide D0
  have y0 := cell_b D0 c0
  have y1 := cell_b D0 c1
  have y2 := cell_b D0 c2
  have y3 := cell_of_row _ _ 2 _ _ (0, 0) (heap_alloc_new w (.cells #[.int .i64 p, .int .i64 q, .int .i64 (ep : Int)] 49))
  clear D0 c0 c1 c2
  go_enter Try.func20, Try.ntmps20
  go_upto_region 1 with (fail)
  generalize w.alloc (.cells #[.int .i64 p, .int .i64 q, .int .i64 (ep : Int)] 49) = w1 at *
  by_cases h1 : (ep : Int) < least
  · have d1 : decide ((ep : Int) ≥ least) = false := decide_eq_false (by omega)
    have d1' : decide (least ≤ (ep : Int)) = false := decide_eq_false (by omega)
    by_cases h2 : (ep : Int) + 2 ≤ now
    · have d2 : decide ((ep : Int) > (now : Int) - 2) = false := decide_eq_false (by omega)
      have d2' : decide ((now : Int) - 2 < (ep : Int)) = false := decide_eq_false (by omega)
      have HY := hide (show (!may least now ep) = false by simp [may]; omega)
      clear h1 h2
      go_quiet (fail)
      go_wp2
      go_ret
      exact ⟨by rw [HY.out]; rfl, below_q HD.out _⟩
    · have d2 : decide ((ep : Int) > (now : Int) - 2) = true := decide_eq_true (by omega)
      have d2' : decide ((now : Int) - 2 < (ep : Int)) = true := decide_eq_true (by omega)
      have HY := hide (show (!may least now ep) = true by simp [may]; omega)
      clear h1 h2
      go_quiet (fail)
      go_wp2
      go_ret
      exact ⟨by rw [HY.out]; rfl, below_q HD.out _⟩
  · have d1 : decide ((ep : Int) ≥ least) = true := decide_eq_true (by omega)
    have d1' : decide (least ≤ (ep : Int)) = true := decide_eq_true (by omega)
    have HY := hide (show (!may least now ep) = true by simp [may]; omega)
    clear h1
    go_quiet (fail)
    go_wp2
    go_ret
    exact ⟨by rw [HY.out]; rfl, below_q HD.out _⟩
/-- Where the first one stands that stays, as slices.IndexFunc tells it. -/
def idxV (k n : Nat) : Int := if k < n then (k : Int) else -1
def EiRel (w : World) (k : Nat) (vi : Value) (wr : World) : Prop := ∃ i : Nat, i ≤ k ∧ vi = .int .i64 (i : Int) ∧ Below w.heap.size w wr
set_option maxHeartbeats 1000000 in
theorem eidx_any (g now b0 b1 : Nat) (least : Int) (hnow : now ≤ 1000000) (A : Option Addr) (c : Nat) (l : List Wp) (hn : l.length ≤ 100000) (hep : ∀ x ∈ l, x.2 ≤ 1000000) (k : Nat) (hk : k ≤ l.length) (hlo : ∀ i (h : i < l.length), i < k → may least now l[i].2 = true) (hhi : ∀ h : k < l.length, may least now l[k].2 = false) (w : World) (h : Ws w A c l) (c0 : w.cell? ⟨b0, 0, none⟩ = some (.int .i64 least)) (c1 : w.cell? ⟨b1, 0, none⟩ = some (.pointer (some ⟨g, 0, none⟩))) (c2 : w.cell? ⟨g, 0, none⟩ = some (.int .i64 (now : Int))) :
    Calls Try.prog 21 #[.slice A l.length c, .func (.func 20) #[] #[.pointer (some ⟨b0, 0, none⟩), .pointer (some ⟨b1, 0, none⟩)]] w (fun e w' => e = .returned (.int .i64 (idxV k l.length)) ∧ Below w.heap.size w w') := by
  have H := hide h
  have m1 := h.le
  have m2 := h.most
  unfold maxLen at m2
  have KS := hide (fun (p q : Int) (ep : Nat) (he : ep ≤ 1000000) (W : World) (hb : Below w.heap.size w W) => estays_any g now b0 b1 least p q ep hnow he W (cell_b hb c0) (cell_b hb c1) (cell_b hb c2))
  clear h c0 c1 c2
  go_enter Try.func21, Try.ntmps21
  go_wp2_with fail
  go_loopw [8] (EiRel w k) (fun i _ => l.length - (intOf i).toNat)
  case atStart => exact ⟨0, Nat.zero_le _, rfl, Below.refl _ _⟩
  case round =>
    obtain ⟨i, hi, rfl, hb⟩ := hrel
    have HB := hide hb
    by_cases hlt : i < l.length
    · obtain ⟨b, o, rfl, hat⟩ := (H.out.below hb).lit (by omega)
      obtain ⟨z0, z1, z2⟩ := hat.three i hlt
      have i0 : (0 : Int) ≤ (i : Int) := by omega
      have i1 : (i : Int) < (l.length : Int) := by omega
      have HP := hide (hep _ (List.getElem_mem hlt))
      by_cases hik : i < k
      · have HM := hide (hlo i hlt hik)
        obtain ⟨⟨⟨p, q⟩, ep⟩, hpq⟩ : ∃ pq, l[i] = pq := ⟨_, rfl⟩
        rw [hpq] at z0 z1 z2 HM HP
        simp only at z0 z1 z2
        have K := hide (KS.out p q ep HP.out wr HB.out)
        simp only at HM
        rw [HM.out] at K
        clear hb hat hpq
        go_wp2_with fail
        refine K.out.mono ?_
        rintro e w1 ⟨rfl, hb⟩
        have HB := hide (HB.out.trans (hb.mono HB.out.size))
        clear hb z0 z1 z2
        go_wp2_with fail
        go_roundw
        case rel => exact ⟨i + 1, by omega, by go_num, HB.out⟩
        case measure => simp [intOf]; omega
      · obtain rfl : i = k := by omega
        have HM := hide (hhi hlt)
        obtain ⟨⟨⟨p, q⟩, ep⟩, hpq⟩ : ∃ pq, l[i] = pq := ⟨_, rfl⟩
        rw [hpq] at z0 z1 z2 HM HP
        simp only at z0 z1 z2
        have K := hide (KS.out p q ep HP.out wr HB.out)
        simp only at HM
        rw [HM.out] at K
        have HV := hide (show (i : Int) = idxV i l.length by unfold idxV; rw [if_pos hlt])
        clear hb hat hpq
        go_wp2_with fail
        refine K.out.mono ?_
        rintro e w1 ⟨rfl, hb⟩
        have HB := hide (HB.out.trans (hb.mono HB.out.size))
        clear hb z0 z1 z2
        go_wp2_with fail
        go_ret
        exact ⟨ret_int HV.out, HB.out⟩
    · obtain rfl : i = l.length := by omega
      have HV := hide (show (-1 : Int) = idxV k l.length by unfold idxV; rw [if_neg (by omega)])
      clear hb
      go_wp2_with fail
      go_ret
      exact ⟨ret_int HV.out, HB.out⟩
theorem own_empty3 (w : World) : (w.alloc (.cells #[] 49)).ownsRow w.heap.size 49 3 (.slice (some ⟨w.heap.size, 0, none⟩) 0 0) 0 [] :=
  ⟨rfl, .inr ⟨w.heap.size, 0, #[], rfl, Nat.le_refl _, heap_alloc_new w _, Nat.le_refl _, by simp [maxLen], rfl, rfl⟩⟩
def ECloneRet (w : World) (os : List Wp) (e : Ending) (w' : World) : Prop := ∃ v, e = .returned v ∧ OwnW w' w.heap.size v os ∧ Below w.heap.size w w'
set_option maxHeartbeats 1000000 in
theorem eclone_any (A : Option Addr) (c : Nat) (os : List Wp) (hp : os.length ≤ 100000) (w : World) (h : Ws w A c os) : Calls Try.prog 23 #[.slice A os.length c] w (ECloneRet w os) := by
  cases A with
  | none =>
    have e : os = [] := (h.nil rfl).1
    subst e
    have hq := run_eql_slice_nil (P := Try.prog) w 45 49 none 0 c Try.underlying45
    clear h hp
    go_enter Try.func23, Try.ntmps23
    go_wp2
    go_ret
    exact ⟨_, rfl, OwnW.nil _ _, Below.refl _ _⟩
  | some ad =>
    obtain ⟨i0, hi0, hz0, hz1, hz2⟩ := info_parts winfo
    have HO := hide (own_empty3 w)
    have Bz := (Below.refl w.heap.size w).alloc (Nat.le_refl _) (.cells #[] 49)
    have HC := hide (show ∀ j u, (wcs os)[j]? = some u → (w.alloc (.cells #[] 49)).cell? (ad.add j) = some u from fun j u hu => by
      have hl := wcs_length os
      have hj : j < (wcs os).length := (List.getElem?_eq_some_iff.1 hu).1
      obtain ⟨b, o, e, hat⟩ := h.lit (by omega)
      cases e
      have := hat j u hu
      rw [Addr.add_lit]
      exact (Bz.cell (World.block_lt_of_cell? w _ this)).trans this)
    have HB := hide Bz
    have hl : (wcs os).length = os.length * 3 := wcs_length os
    have HLN := hide hl
    clear h Bz hl
    have hq := run_eql_slice_nil (P := Try.prog) w 45 49 (some ad) os.length c Try.underlying45
    go_enter Try.func23, Try.ntmps23
    go_wp2_with (at_builtin; refine wpList_append_own_at _ rfl _ _ 45 rfl w.heap.size 49 i0 _ 3 24 Try.underlying45 hi0 hz0 hz1 hz2 rfl (by decide) _ 0 [] rfl HO.out ad os.length c (wcs os) rfl HLN.out HC.out (wcs_one _) (by unfold maxLen; omega) (by omega) (by simp) ?_)
    intro v' w' hown hgr hnil hat
    have HW := hide (show OwnW w' w.heap.size v' os by unfold OwnW; simpa using hown)
    have HB2 := hide (HB.out.grown hgr (by simp) (fun k hk => by simp [Value.ownBlock] at hk; omega))
    have HF := hide (show ∃ A c, v' = .slice A os.length c by
      obtain ⟨A, c, e, _⟩ := HW.out.ws
      exact ⟨A, c, e⟩)
    clear hown hgr hnil hat HO HC HB HLN
    go_wp2
    go_ret
    exact ⟨_, rfl, HW.out, HB2.out⟩
end Go.Proofs.Ytbfbnfnjjlibbaa
