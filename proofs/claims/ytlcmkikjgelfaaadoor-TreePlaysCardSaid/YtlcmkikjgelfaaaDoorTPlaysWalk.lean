/-
  The walk of TreePlays. Conditions: those of the statement.
-/
import Derived.Test.YtlcmkikjgelfaaaDoorTRefM
import Derived.Test.YtlcmkikjgelfaaaDoorWShort
import Derived.Test.YtlcmkikjgelfaaaDoorWArg
import Derived.OwnWalk
import Derived.Deep.DeepCutAuto
import Derived.Deep.RegionHeld3
import Derived.Deep.CutRange
import Derived.Deep.Grids
namespace Go.Proofs.YtlcmkikjgelfaaaDoor
open Go.RowKit Go.Maps
set_option linter.unusedVariables false
set_option linter.unusedSimpArgs false
set_option maxRecDepth 100000

/-- A slice of truths that can be read. -/
def IsBls (w : World) (a : Option Addr) (len cap : Nat) (B : Nat → Bool) : Prop := len ≤ cap ∧ cap ≤ maxLen ∧ (0 < len → ∃ ad, a = some ad ∧ ∀ i, i < len → w.cell? (ad.add i) = some (.bool (B i)))
theorem IsBls.below {w w' : World} {a : Option Addr} {len cap : Nat} {B : Nat → Bool} (h : IsBls w a len cap B) (hb : Below w.heap.size w w') : IsBls w' a len cap B := by
  obtain ⟨h1, h2, h3⟩ := h
  refine ⟨h1, h2, fun hp => ?_⟩
  obtain ⟨ad, e, hc⟩ := h3 hp
  exact ⟨ad, e, fun i hi => (hb.cell (World.block_lt_of_cell? w _ (hc i hi))).trans (hc i hi)⟩
theorem open_raw1 {H : Type} {enc : TypeId × Value → H} {base : Nat} {held : Bool} {d : DataW H} {p : List MemPlace} (w : World) (a : Option Addr) (len cap : Nat)
    (h : DataW.Trod enc Tryd.prog w base (fun _ => true) held 23 (.slice a len cap) d p) : ∃ B, IsBls w a len cap B := by
  obtain ⟨fuel, hf⟩ := h
  rcases Go.Deep.open_bools Tryd.underlying23 Tryd.underlying4 (by kernel_rfl) hf with ⟨hcs, _⟩ | ⟨x, l, c, B, hcs, _, hl, hm, _, hcell⟩
  · simp [Value.cells] at hcs
    obtain ⟨rfl, rfl, rfl⟩ := hcs
    exact ⟨fun _ => false, Nat.le_refl _, Nat.zero_le _, fun h => by omega⟩
  · simp [Value.cells] at hcs
    obtain ⟨rfl, rfl, rfl⟩ := hcs
    exact ⟨B, hl, hm, fun _ => ⟨_, rfl, fun i hi => hcell i (by omega)⟩⟩
/-- A slice of operations that came in, their numbers within bounds. -/
def IsOpsB (w : World) (a : Option Addr) (len cap : Nat) (os : List O5) : Prop := IsOps w a len cap os ∧ ∀ o ∈ os, i64B o.d ∧ i64B o.t
theorem open_opsB {H : Type} {enc : TypeId × Value → H} {base : Nat} {spare : Nat → Bool} {held : Bool} {d : DataW H} {p : List MemPlace} (w : World) (a : Option Addr) (len cap : Nat)
    (h : DataW.Trod enc Tryd.prog w base spare held 22 (.slice a len cap) d p) : ∃ os, IsOpsB w a len cap os := by
  obtain ⟨os, hos⟩ := open_ops w a len cap h
  refine ⟨os, hos, ?_⟩
  obtain ⟨rfl, hO, _⟩ := hos
  obtain ⟨fuel, hf⟩ := h
  rcases Go.Deep.open_slice Tryd.underlying22 hf with ⟨hcs, _⟩ | ⟨x, l, c, m, n, D, Pl, hcs, _, hl, hm, hmm, _, hi⟩
  · simp [Value.cells] at hcs
    intro o ho
    have : os = [] := hcs.2.1
    subst this
    simp at ho
  · simp [Value.cells] at hcs
    obtain ⟨rfl, rfl, rfl⟩ := hcs
    have hlm : os.length ≤ m := by rw [hmm]; split <;> omega
    intro ob hob
    obtain ⟨i, hilt, rfl⟩ := List.getElem_of_mem hob
    obtain ⟨b, o, e, hat⟩ := hO.lit (by omega)
    cases e
    obtain ⟨_, _, k2, k3, _⟩ := hat.five i hilt
    obtain ⟨cs', hc, ht⟩ := hi i (by omega)
    rw [cells_op] at hc
    obtain ⟨_, hcl, hcat⟩ := World.cells?_some hc
    match cs', hcl with
    | [u0, u1, u2, u3, u4], _ =>
      obtain ⟨y0, y1, y2, y3, n', _, _, h0, h1, h2, h3⟩ := Joins.trod_struct4 Tryd.underlying37 ht
      simp [cells_st, cells_in, cells_sg] at h0 h1 h2 h3
      obtain ⟨q2, e2, _, f2⟩ := DataW.trod_int Tryd.underlying3 h1
      obtain ⟨q3, e3, _, f3⟩ := DataW.trod_int Tryd.underlying3 h2
      simp at e2 e3
      subst e2 e3
      have a2 := hcat 2 (by omega)
      have a3 := hcat 3 (by omega)
      simp only [Addr.add_lit] at a2 a3
      have e2 := k2.symm.trans (show w.cell? ⟨b, o + i * 5 + 2, none⟩ = some (.int .i64 q2) from a2)
      have e3 := k3.symm.trans (show w.cell? ⟨b, o + i * 5 + 3, none⟩ = some (.int .i64 q3) from a3)
      simp at e2 e3
      rw [e2, e3]
      have f2 := bounds_i64 f2
      have f3 := bounds_i64 f3
      unfold i64B
      omega
theorem Duo.new (w w1 : World) (h1 : Tr w1 (w.heap.size + 1) [] [] [w.heap.size + 1, w.heap.size]) (h2 : Below w.heap.size w w1) :
    Duo w (w1.alloc (.cells #[.slice none 0 0, .slice none 0 0] 32)) (w.heap.size + 1) w1.heap.size ([], []) ([], []) [w.heap.size + 1, w.heap.size] (.slice none 0 0) (.slice none 0 0) [] := by
  have Bz := (Below.refl w1.heap.size w1).alloc (Nat.le_refl _) (.cells #[.slice none 0 0, .slice none 0 0] 32)
  have hL : Lw w w1 (w.heap.size + 1) ([], []) [w.heap.size + 1, w.heap.size] := ⟨h1, by simp, h2⟩
  have hlt : ∀ k ∈ [w.heap.size + 1, w.heap.size], k < w1.heap.size := h1.lt
  refine ⟨hL.below Bz, ⟨⟨heap_alloc_new w1 _, OwnKids.nil _ _⟩, World.ownsRow_nil _ _ _ _, trivial⟩, fun k hk => ?_⟩
  simp [Value.ownBlock] at hk
  subst hk
  exact ⟨h2.size, fun hk => Nat.lt_irrefl _ (hlt _ hk)⟩
theorem rapp_any (g : Nat) (vL vW : Value) (vs : List Value) (s : St) (o : O5) (hl : o.l.length ≤ 1000) (h1 : s.1.length ≤ 900) (h2 : s.2.length ≤ 900) (w : World) (h : Rm w g vL vW vs s.1 s.2) :
    Calls Tryd.prog 17 #[.pointer (some ⟨g, 0, none⟩), .agg #[.int .i64 o.n, .int .i64 o.r, .int .i64 o.d, .int .i64 o.t, .string (bs o.l)]] w (RmRet (.bool (apB s o)) g (stp s o).1 (stp s o).2 (g :: vW.ownBlock.toList) w) := by
  cases hR : o.R with
  | false =>
    have e1 : apB s o = false := by unfold apB; rw [hR]; rfl
    have e2 : stp s o = s := by unfold stp; rw [hR]; simp
    rw [e1, e2]
    refine (rapply_wrong g o hl hR w).mono ?_
    rintro e w' ⟨rfl, hb⟩
    exact ⟨rfl, vL, vW, vs, h.below hb, Mod.of_below hb, fun k hk => .inl hk⟩
  | true =>
    have e1 : apB s o = can s.1 o := by unfold apB; rw [hR]; rfl
    have e2 : stp s o = (app s.1 o, s.1 :: s.2) := by unfold stp; rw [hR]; simp
    have hl2 := h.was.len
    rw [e1, e2]
    exact rapply_right g vL vW vs s.1 s.2 o hl hR h1 (by omega) w h
/-- Both trees at one state, of at most so many steps. -/
def PlS (w0 : World) (g1 g2 n : Nat) (wx : World) : Prop :=
  ∃ (s : St) (fs : List Nat) (vL vW : Value) (vs : List Value), Duo w0 wx g1 g2 s s fs vL vW vs ∧ Hst s.1 s.2 ∧ s.2.length ≤ n
/-- Where the playing stands. -/
def PlRel (w0 : World) (g1 g2 n : Nat) (i : Value) (wr : World) : Prop := ∃ k : Nat, k ≤ n ∧ i = .int .i64 (k : Int) ∧ PlS w0 g1 g2 k wr
set_option maxHeartbeats 8000000 in
theorem treePlays_walk (a : Option Addr) (len cap : Nat) (os : List O5) (a1 : Option Addr) (len1 cap1 : Nat) (B : Nat → Bool) (W : World) (h : IsOpsB W a len cap os) (hB : IsBls W a1 len1 cap1 B) (hE : Env W) :
    Calls Tryd.prog 3 #[.slice a len cap, .slice a1 len1 cap1] W (TrueRet W) := by
  obtain ⟨⟨rfl, hops, hnm⟩, hbd⟩ := h
  have HBD := hide hbd
  have HO := hide hops
  have HE := hide hE
  have HN := hide hnm
  have HB := hide hB
  have hle : os.length ≤ 9223372036854775807 := by
    have h1 := hops.le
    have h2 := hops.most
    unfold maxLen at h2
    omega
  have hle1 : len1 ≤ 9223372036854775807 := by
    have h1 := hB.1
    have h2 := hB.2.1
    unfold maxLen at h2
    omega
  clear hops hE hnm hB hbd
  go_enter Tryd.func3, Tryd.ntmps3
  go_wp2_with fail
  refine (awake_any W HE.out).mono ?_
  rintro e w1 ⟨rfl, hb⟩
  have B1 := hide hb
  have O1 := hide (HO.out.below hb)
  have U1 := hide (HB.out.below hb)
  clear hb HO HB
  go_wp2_with fail
  refine (shortOps_any a cap os w1 hle HN.out O1.out).mono ?_
  rintro e w2 ⟨rfl, hw⟩
  subst hw
  by_cases h1 : os.length ≤ 30
  · have d1 : decide ((os.length : Int) > 30) = false := by simp; omega
    cases hs : shO os with
    | false =>
      clear hs
      go_wp2
      go_ret
      exact ⟨rfl, B1.out⟩
    | true =>
      have HSH := hide (show ∀ x ∈ os, x.l.length ≤ 60 by
        intro x hx
        have := List.all_eq_true.1 hs x hx
        simpa using this)
      clear hs
      go_wp2_with fail
      clear d1
      refine (tnew_any w2).mono ?_
      rintro e w3 ⟨rfl, hT, hb⟩
      have S0 := hide (show PlRel w2 (w2.heap.size + 1) w3.heap.size os.length (.int .i64 0) (w3.alloc (.cells #[.slice none 0 0, .slice none 0 0] 32)) from ⟨0, Nat.zero_le _, rfl, ([], []), _, _, _, _, Duo.new w2 w3 hT hb, .nil, Nat.le_refl _⟩)
      clear hT hb
      go_wp2_with fail
      generalize w3.alloc (.cells #[.slice none 0 0, .slice none 0 0] 32) = w4 at S0 ⊢
      generalize w2.heap.size + 1 = g1 at S0 ⊢
      generalize w3.heap.size = g2 at S0 ⊢
      go_loopw [9] (PlRel w2 g1 g2 os.length) (fun i _ => os.length - (intOf i).toNat)
      case atStart => exact S0.out
      case round =>
        obtain ⟨k, hk, rfl, hP⟩ := hrel
        have HP := hide hP
        clear hP S0
        by_cases hlt : k < os.length
        · obtain ⟨b, o, rfl, hat⟩ := O1.out.lit (by omega)
          have HAT := hide hat
          clear hat
          have i0 : (0 : Int) ≤ (k : Int) := by omega
          have i1 : (k : Int) < (os.length : Int) := by omega
          go_upto_if 37 with (fail)
          go_cut [10] (fun s10 wx => ∃ bk : Bool, s10 = .bool bk ∧ wx = wr)
          case first =>
            by_cases hl : k < len1
            · have UW := hide (U1.out.below (show Below w2.heap.size w2 wr by obtain ⟨s, fs, vL, vW, vs, D, _, _⟩ := HP.out; exact D.a.bel))
              obtain ⟨_, _, hp⟩ := UW.out
              obtain ⟨ad, rfl, hcell⟩ := hp (by omega)
              have c0 := hcell k hl
              have i2 : (k : Int) < (len1 : Int) := by omega
              clear hcell hp
              go_wp2_with fail
              go_meet
              exact ⟨B k, rfl, rfl⟩
            · have i2 : ¬ (k : Int) < (len1 : Int) := by omega
              go_wp2_with fail
              go_meet
              exact ⟨false, rfl, rfl⟩
          case rest =>
            obtain ⟨bk, rfl, rfl⟩ := hcut
            rename World => wx
            go_upto_if 42 with (fail)
            go_cut [4] (fun _ wy => PlS w2 g1 g2 (k + 1) wy)
            case first =>
              obtain ⟨s, fs, vL, vW, vs, hD, hH, hsl⟩ := HP.out
              have D0 := hide hD
              have hll := hH.len
              clear hD HP
              cases bk with
              | true =>
                have N1 := hide (show Hst (und s).1 (und s).2 ∧ (und s).2.length ≤ k + 1 from ⟨und_hst hH, by have := und_len s; omega⟩)
                clear hH
                have K1 := hide (tund_any g1 s fs (by omega) _ D0.out.a.tr)
                have K2 := hide (fun W h => rund_any g2 vL vW vs s (by omega) W h)
                generalize undB s = ub at K1 K2
                generalize und s = s' at K1 K2 N1
                go_wp2_with fail
                refine K1.out.mono ?_
                rintro e w5 hr
                obtain ⟨rfl, fs1, hD⟩ := D0.out.retA hr
                have D1 := hide hD
                clear hr hD K1 D0
                go_wp2_with fail
                refine (K2.out _ D1.out.b).mono ?_
                rintro e w6 hr
                obtain ⟨rfl, vL2, vW2, vs2, hD⟩ := D1.out.retB hr
                have D2 := hide hD
                clear hr hD K2 D1
                have q1 : (ub != ub) = false := by simp
                go_wp2_with fail
                go_meet
                exact ⟨s', fs1, vL2, vW2, vs2, D2.out, N1.out.1, N1.out.2⟩
              | false =>
                have hx := HSH.out _ (List.getElem_mem hlt)
                have N1 := hide (show Hst (stp s os[k]).1 (stp s os[k]).2 ∧ (stp s os[k]).2.length ≤ k + 1 from ⟨stp_hst hH _, by have := stp_len s os[k]; omega⟩)
                have K1 := hide (fun W (h : Duo w2 W g1 g2 s s fs vL vW vs) => (tapply_any g1 s fs os[k] (by unfold maxLen; omega) (by omega) W (h.a.env (HE.out.below B1.out)) h.a.tr).mono (fun e w' hr => h.retA hr))
                have K2 := hide (fun W fs1 (h : Duo w2 W g1 g2 (stp s os[k]) s fs1 vL vW vs) => (rapp_any g2 vL vW vs s os[k] (by omega) (by omega) (by omega) W h.b).mono (fun e w' hr => h.retB hr))
                clear hH
                have CC := hide (fun W (h : Below w2.heap.size w2 W) => (HAT.out.below h).five k hlt)
                generalize apB s os[k] = ub at K1 K2
                generalize stp s os[k] = s' at K1 K2 N1
                generalize os[k] = x at K1 K2 CC hx
                have D0d := hide (D0.out.below ((Below.refl _ _).drew))
                have hS0 := CC.out _ D0d.out.a.bel
                have q1 : (ub != ub) = false := by simp
                go_wp2_with fail
                go_region_held3 (fun w' => w'.cell? ⟨b, o + k * 5, none⟩ = some (.int .i64 x.n) ∧ w'.cell? ⟨b, o + k * 5 + 1, none⟩ = some (.int .i64 x.r) ∧ w'.cell? ⟨b, o + k * 5 + 2, none⟩ = some (.int .i64 x.d) ∧ w'.cell? ⟨b, o + k * 5 + 3, none⟩ = some (.int .i64 x.t) ∧ w'.cell? ⟨b, o + k * 5 + 4, none⟩ = some (.string (bs x.l)))
                  (first | with_reducible exact hS2 | with_reducible exact hS1 | with_reducible exact hS0 | go_keep)
                  (first
                    | (go_at_call 16
                       (with_reducible refine (K1.out _ ?hd).mono ?_)
                       case hd => exact D0d.out
                       rintro e w5 ⟨rfl, fs1, hD⟩
                       have D1 := hide hD
                       have hS1 := CC.out _ hD.a.bel
                       clear hD)
                    | (go_at_call 17
                       (with_reducible refine (K2.out _ _ D1.out).mono ?_)
                       rintro e w6 ⟨rfl, vL2, vW2, vs2, hD⟩
                       have D2 := hide hD
                       have hS2 := CC.out _ hD.a.bel
                       clear hD))
                go_wp2_with fail
                go_meet
                exact ⟨s', fs1, vL2, vW2, vs2, D2.out, N1.out.1, N1.out.2⟩
            case rest =>
              have HQ := hide hcut
              clear hcut HP
              rename World => wy
              obtain ⟨s, fs, vL, vW, vs, hD, hH, hsl⟩ := HQ.out
              have hll := hH.len
              have hbx := HBD.out _ (List.getElem_mem hlt)
              have DY := hide (fun W (h : Below wy.heap.size wy W) => show PlS w2 g1 g2 (k + 1) W from ⟨s, fs, vL, vW, vs, hD.below h, hH, hsl⟩)
              have CC := hide (fun W (h : Below wy.heap.size wy W) => (HAT.out.below (hD.below h).a.bel).five k hlt)
              generalize os[k] = x at CC hbx
              have hLn : s.1.length ≤ 31 := by omega
              have KA1 := hide (fun W (h : Below wy.heap.size wy W) => tspot_any g1 s.1 s.2 fs x.d hbx.1 W (hD.below h).a.tr)
              have KB1 := hide (fun W (h : Below wy.heap.size wy W) => rspot_any g2 vL vW s.1 x.d (by omega) W (hD.below h).b.rl)
              have KA2 := hide (fun W (h : Below wy.heap.size wy W) => tknown_any g1 s.1 s.2 fs x.t hbx.2 W (hD.below h).a.tr)
              have KB2 := hide (fun W (h : Below wy.heap.size wy W) => rknown_any g2 vL vW s.1 x.t (by omega) W (hD.below h).b.rl)
              have KA3 := hide (fun W (h : Below wy.heap.size wy W) => tall_any g1 s.1 s.2 fs (by omega) W (hD.below h).a.tr)
              have KB3 := hide (fun W (h : Below wy.heap.size wy W) => rall_any g2 vL vW s.1 (by omega) W (hD.below h).b.rl)
              have KA4 := hide (fun W (h : Below wy.heap.size wy W) => tkids_any g1 s.1 s.2 fs x.t (by omega) W (hD.below h).a.tr)
              have KB4 := hide (fun W (h : Below wy.heap.size wy W) => rkids_any g2 vL vW s.1 x.t (by omega) W (hD.below h).b.rl)
              have l3 : (sortK s.1).length ≤ 1000000 := by rw [sortK_length]; omega
              have l4 : (sortK (s.1.filter fun k => k.to == x.t)).length ≤ 1000000 := by
                rw [sortK_length]
                have := List.length_filter_le (fun k : Kd => k.to == x.t) s.1
                omega
              have L3 := hide l3
              have L4 := hide l4
              generalize sortK s.1 = k3 at KA3 KB3 L3
              generalize sortK (s.1.filter fun k => k.to == x.t) = k4 at KA4 KB4 L4
              generalize isKn s.1 x.t = kn at KA2 KB2
              unfold SpotRet spv at KA1 KB1
              generalize spI (fnd s.1 x.d) = sI at KA1 KB1
              generalize spT (fnd s.1 x.d) = sT at KA1 KB1
              generalize spN (fnd s.1 x.d) = sN at KA1 KB1
              have hq := spot_neq sI sI sT sT sN sN
              simp only [and_self, decide_true, Bool.not_true] at hq
              have q2 : (kn != kn) = false := by simp
              clear hD hH hsl hll hLn l3 l4 HQ hbx
              have hq' : (decide (k3 = k3)) = true := by simp
              have hS0 := (CC.out wy (Below.refl _ _)).2.2.2.1
              have hN0 := (CC.out wy (Below.refl _ _)).2.2.1
              go_wp2_with fail
              go_region_held3 (fun w' => w'.cell? ⟨b, o + k * 5 + 3, none⟩ = some (.int .i64 x.t))
                (first | with_reducible exact hSS4 | with_reducible exact hSB4 | with_reducible exact hSA4 | with_reducible exact hSS3 | with_reducible exact hSB3 | with_reducible exact hSA3 | with_reducible exact hSB1 | with_reducible exact hSA1 | with_reducible exact hS0 | go_keep)
                (first
                  | (go_at_call 18
                     (with_reducible refine (KA1.out _ ?hz).mono ?_)
                     case hz => exact ((Below.refl wy.heap.size wy).drew)
                     rintro e wA1 ⟨rfl, hb⟩
                     have ZA1 := hide (show Below wy.heap.size wy wA1 from ⟨hb.os, hb.tape, hb.output, hb.size, hb.block⟩)
                     have hSA1 := (CC.out _ ZA1.out).2.2.2.1
                     clear hb)
                  | (go_at_call 19
                     (with_reducible refine (KB1.out _ ZA1.out).mono ?_)
                     rintro e wB1 ⟨rfl, hb⟩
                     have ZB1 := hide (ZA1.out.trans (hb.mono ZA1.out.size))
                     have hSB1 := (CC.out _ ZB1.out).2.2.2.1
                     clear hb)
                  | (go_at_call 20
                     (with_reducible refine (KA2.out _ ZB1.out).mono ?_)
                     rintro e wA2 ⟨rfl, hw⟩
                     subst hw)
                  | (go_at_call 21
                     (with_reducible refine (KB2.out _ ZB1.out).mono ?_)
                     rintro e wB2 ⟨rfl, hw⟩
                     subst hw)
                  | (go_at_call 23
                     (with_reducible refine (KA3.out _ ZB1.out).mono ?_)
                     rintro e wA3 ⟨vA3, rfl, hown, hb⟩
                     have PA3 := hide hown.kids
                     have QA3 := hide hb
                     have ZA3 := hide (ZB1.out.trans (hb.mono ZB1.out.size))
                     have hSA3 := (CC.out _ ZA3.out).2.2.2.1
                     clear hb hown)
                  | (go_at_call 24
                     (with_reducible refine (KB3.out _ ZA3.out).mono ?_)
                     rintro e wB3 ⟨vB3, rfl, hown, hb⟩
                     have PB3 := hide hown.kids
                     have QB3 := hide hb
                     have ZB3 := hide (ZA3.out.trans (hb.mono ZA3.out.size))
                     have hSB3 := (CC.out _ ZB3.out).2.2.2.1
                     clear hb hown)
                  | (go_at_call 22
                     (with_reducible refine (ksame_any _ _ k3 k3 _ L3.out L3.out ?ha ?hb).mono ?_)
                     case ha => exact PA3.out.below QB3.out
                     case hb => exact PB3.out
                     rintro e wS3 ⟨rfl, hb⟩
                     have ZS3 := hide (ZB3.out.trans (hb.mono ZB3.out.size))
                     have hSS3 := (CC.out _ ZS3.out).2.2.2.1
                     clear hb)
                  | (go_at_call 25
                     (with_reducible refine (KA4.out _ ZS3.out).mono ?_)
                     rintro e wA4 ⟨vA4, rfl, hown, hb⟩
                     have PA4 := hide hown.kids
                     have QA4 := hide hb
                     have ZA4 := hide (ZS3.out.trans (hb.mono ZS3.out.size))
                     have hSA4 := (CC.out _ ZA4.out).2.2.2.1
                     clear hb hown)
                  | (go_at_call 26
                     (with_reducible refine (KB4.out _ ZA4.out).mono ?_)
                     rintro e wB4 ⟨vB4, rfl, hown, hb⟩
                     have PB4 := hide hown.kids
                     have QB4 := hide hb
                     have ZB4 := hide (ZA4.out.trans (hb.mono ZA4.out.size))
                     have hSB4 := (CC.out _ ZB4.out).2.2.2.1
                     clear hb hown)
                  | (go_at_call 22
                     (with_reducible refine (ksame_any _ _ k4 k4 _ L4.out L4.out ?ha ?hb).mono ?_)
                     case ha => exact PA4.out.below QB4.out
                     case hb => exact PB4.out
                     rintro e wS4 ⟨rfl, hb⟩
                     have ZS4 := hide (ZB4.out.trans (hb.mono ZB4.out.size))
                     have hSS4 := (CC.out _ ZS4.out).2.2.2.1
                     clear hb))
              go_wp2_with fail
              go_roundw
              case rel => exact ⟨k + 1, by omega, by go_num, DY.out _ ZS4.out⟩
              case measure => simp [intOf]; omega
        · obtain rfl : k = os.length := by omega
          have BZ := hide (show Below w2.heap.size w2 wr by obtain ⟨s, fs, vL, vW, vs, D, _, _⟩ := HP.out; exact D.a.bel)
          go_wp2
          go_ret
          exact ⟨rfl, B1.out.trans (BZ.out.mono B1.out.size)⟩
  · have d1 : decide ((os.length : Int) > 30) = true := by simp; omega
    go_wp2
    go_ret
    exact ⟨rfl, B1.out⟩
end Go.Proofs.YtlcmkikjgelfaaaDoor
