/-
  The walk of ArenaPlays. No conditions.
-/
import Derived.Test.YtooejagekkgpaaaAPlays
namespace Go.Proofs.Ytooejagekkgpaaa
open Go.RowKit
set_option linter.unusedVariables false
set_option linter.unusedSimpArgs false
set_option maxRecDepth 100000

theorem Tied.g_le {A : Ar} {L : List En} {N : Nat} (h : Tied A L N) {e : En} (he : e ∈ L) : e.g ≤ L.length := by
  have hr := h.rng e he
  obtain ⟨k, _, hS⟩ := h.slot hr.1 hr.2
  obtain ⟨j, hj, e2⟩ := List.getElem_of_mem (mem_fl.2 ⟨he, rfl⟩ : e ∈ fl L e.s)
  have h1 := hS.gens j hj
  rw [e2] at h1
  have h2 : (fl L e.s).length ≤ L.length := List.length_filter_le _ _
  omega
/-- Both arenas, side by side. -/
def Ps (W w : World) (g1 g2 m i : Nat) : Prop := ∃ A L N, Az W w g1 m i A ∧ Tied A L N ∧ Dd W w g2 m L N ∧ L.length ≤ i ∧ N ≤ i
def PsRel (W : World) (g1 g2 m n : Nat) (vi : Value) (wr : World) : Prop := ∃ i : Nat, i ≤ n ∧ vi = .int .i64 (i : Int) ∧ Ps W wr g1 g2 m i
theorem Az.le {w0 w : World} {g m U : Nat} {A : Ar} (h : Az w0 w g m U A) : A.sl.length ≤ U ∧ A.live ≤ m := by
  obtain ⟨_, fs, h2, _⟩ := h
  exact ⟨h2.len, h2.le⟩
theorem Hb.set {w : World} {k : Nat} {s t p q : Int} (h : Hb w k s t) : Hb ((w.setCell ⟨k, 0, none⟩ (.int .i64 p)).setCell ⟨k, 1, none⟩ (.int .i64 q)) k p q := by
  have h1 := Joins.block_setCell (i := 0) h (.int .i64 p)
  have h2 := Joins.block_setCell (i := 1) h1 (.int .i64 q)
  unfold Hb
  simpa using h2
theorem Az.setH {W w : World} {g m U k : Nat} {A : Ar} {s t : Int} (h : Az W w g m U A) (hb : Hb w k s t) (hk : W.heap.size ≤ k) (u v : Value) : Az W ((w.setCell ⟨k, 0, none⟩ u).setCell ⟨k, 1, none⟩ v) g m U A :=
  h.mod (fs' := [k]) (((Mod.refl [k] w).setCell (p := ⟨k, 0, none⟩) (.inl (by simp)) u).setCell (p := ⟨k, 1, none⟩) (.inl (by simp)) v) fun j hj => by
    rw [List.mem_singleton.1 hj]
    exact ⟨hk, _, _, _, hb, by decide, by decide, by decide⟩
set_option maxHeartbeats 8000000 in
theorem arenaPlays_walk (a : Int) (p : Option Addr) (len cap : Nat) (l : List Ac) (W : World) (ha : (Lit.int .u8 a).wf = true) (h : IsActs W p len cap l) :
    Calls Try.prog 3 #[.int .u8 a, .slice p len cap] W (TrueRet W) := by
  have ha := bounds_u8 ha
  obtain ⟨a, rfl⟩ : ∃ n : Nat, a = n := ⟨a.toNat, by omega⟩
  obtain rfl := h.leq
  have c1 := h.le
  have c2 := h.most
  unfold maxLen at c2
  have HI := hide h
  clear h
  obtain ⟨m, hm⟩ : ∃ m : Nat, (a : Int) % 21 = (m : Int) := ⟨a % 21, by omega⟩
  have m1 : m ≤ 20 := by omega
  have KN := hide (fun (W w : World) (hb : Below W.heap.size W w) => znew_any (w0 := W) (w := w) (m : Int) (by omega) (by omega) hb)
  go_enter Try.func3, Try.ntmps3
  go_wp2_with fail
  refine (awake_any W).mono ?_
  rintro e w1 ⟨rfl, hb1⟩
  have B1 := hide hb1
  clear hb1
  by_cases h2 : 40 < l.length
  · have e2 : decide ((l.length : Int) > 40) = true := by simp; omega
    go_wp2
    go_ret
    exact ⟨rfl, B1.out⟩
  have e2 : decide ((l.length : Int) > 40) = false := by simp; omega
  go_wp2_with fail
  refine (KN.out W w1 B1.out).mono ?_
  rintro e w2 ⟨rfl, hz, hb2⟩
  rw [Int.toNat_natCast] at hz
  have D := (Below.refl w2.heap.size w2).alloc (Nat.le_refl _) (.cells #[.int .i64 (m : Int), .slice none 0 0, .int .i64 0] 29)
  have S2 := hide (show Ps W (w2.alloc (.cells #[.int .i64 (m : Int), .slice none 0 0, .int .i64 0] 29)) w1.heap.size w2.heap.size m 0 from ⟨_, [], 0, hz.below D, Tied.start, ⟨(hz.below D).bel, .slice none 0 0, ⟨heap_alloc_new w2 _, World.ownsRow_nil ..⟩, hz.bel.size, fun b hb => by cases hb⟩, Nat.le_refl _, Nat.le_refl _⟩)
  clear hz hb2 B1 KN D
  generalize w1.heap.size = g1 at S2 ⊢
  generalize hm2 : w2.heap.size = g2 at S2 ⊢
  go_upto_region 7 with (fail)
  generalize w2.alloc (.cells #[.int .i64 (m : Int), .slice none 0 0, .int .i64 0] 29) = w3 at S2 ⊢
  go_wp2_with fail
  go_loopw [9] (PsRel W g1 g2 m l.length) (fun i _ => l.length - (intOf i).toNat)
  case atStart => exact ⟨0, Nat.zero_le _, rfl, S2.out⟩
  case round =>
    obtain ⟨i, hi, rfl, hP⟩ := hrel
    obtain ⟨A, L, N, hz, hT, hD, hL, hN⟩ := hP
    have HZ := hide hz
    have HT := hide hT
    have HD := hide hD
    by_cases hlt : i < l.length
    · obtain ⟨b, o, rfl, hc⟩ := HI.out.lit (by omega)
      obtain ⟨w0, w1', w2', w3'⟩ := hc i hlt
      have x0 := cell_b hz.bel w0
      have x1 := cell_b hz.bel w1'
      have x2 := cell_b hz.bel w2'
      have x3 := cell_b hz.bel w3'
      have HXW := hide (fun (V : World) (hb : Below W.heap.size W V) => cell_b hb w1')
      clear w0 w1' w2' w3'
      obtain ⟨o1, o2, o3, o4⟩ := HI.out.ok l[i] (List.getElem_mem hlt)
      have i0 : (0 : Int) ≤ (i : Int) := by omega
      have i1 : (i : Int) < (l.length : Int) := by omega
      clear hz hT hD hc
      generalize l[i] = ac at *
      obtain ⟨kd, n, s, t⟩ := ac
      simp only at x0 x1 x2 x3 o1 o2 o3 o4
      go_upto_region 13 with (fail)
      have D1 := (Below.refl wr.heap.size wr).alloc (Nat.le_refl _) (.cells #[.int .i64 s, .int .i64 t] 31)
      have hbk : b < wr.heap.size := World.block_lt_of_cell? wr _ x0
      have hWk : W.heap.size ≤ wr.heap.size := HZ.out.bel.size
      have x0 := cell_b D1 x0
      have x1 := cell_b D1 x1
      have X1 := hide (Hb.new wr s t)
      have HZ1 := hide (HZ.out.below D1)
      have HD1 := hide (HD.out.below D1)
      clear D1 HZ HD x2 x3
      generalize wr.heap.size = kh at X1 hbk hWk ⊢
      generalize wr.alloc (.cells #[.int .i64 s, .int .i64 t] 31) = wz at HZ1 HD1 X1 x0 x1 ⊢
      obtain ⟨a2, cL, hM, hg0, hv0⟩ := HD1.out.dm
      obtain ⟨-, y1, -⟩ := hM.cells
      go_cut [66] (fun s66 wx => ∃ bk : Bool, s66 = .bool bk ∧ (bk = true → 0 ≤ n ∧ 0 < L.length) ∧ wx = wz)
      case first =>
        by_cases q1 : kd = 3
        · have d1 : (kd == 3) = true := by simpa using q1
          go_wp2_with fail
          go_meet
          exact ⟨false, rfl, fun h => (by cases h), rfl⟩
        · have d1 : (kd == 3) = false := by simpa using q1
          by_cases q2 : 0 < L.length
          · have d2 : decide ((L.length : Int) > 0) = true := decide_eq_true (by omega)
            by_cases q3 : 0 ≤ n
            · have d3 : decide (n ≥ 0) = true := by simpa using q3
              go_wp2_with fail
              go_meet
              exact ⟨kd != 3, rfl, fun _ => ⟨q3, q2⟩, rfl⟩
            · have d3 : decide (n ≥ 0) = false := by simpa using q3
              go_wp2_with fail
              go_meet
              exact ⟨false, rfl, fun h => (by cases h), rfl⟩
          · have d2 : decide ((L.length : Int) > 0) = false := decide_eq_false (by omega)
            go_wp2_with fail
            go_meet
            exact ⟨false, rfl, fun h => (by cases h), rfl⟩
      case rest =>
        obtain ⟨bk, rfl, hbb, rfl⟩ := hcut
        have HBK := hide hbb
        clear hbb
        go_upto_if 66 with (fail)
        go_cut [10] (fun s10 wx => s10 = .pointer (some ⟨kh, 0, none⟩) ∧ ∃ p q, i64B p ∧ i64B q ∧ Hb wx kh p q ∧ Az W wx g1 m i A ∧ Dd W wx g2 m L N ∧ wx.cell? ⟨b, o + i * 4, none⟩ = some (.int .i64 kd) ∧ wx.cell? ⟨b, o + i * 4 + 1, none⟩ = some (.int .i64 n))
        case first =>
          cases bk with
          | false =>
            go_wp2_with fail
            go_meet
            exact ⟨rfl, s, t, o3, o4, X1.out, HZ1.out, HD1.out, x0, x1⟩
          | true =>
            obtain ⟨n0, l0⟩ := HBK.out rfl
            obtain ⟨nn, rfl⟩ : ∃ nn : Nat, n = nn := ⟨n.toNat, by omega⟩
            obtain ⟨bL, cL', eL, hbg⟩ := hM.head l0
            injection eL with eL1 eL2 eL3
            subst eL1 eL3
            obtain ⟨kk, hkk⟩ : ∃ kk : Nat, kk = nn % L.length := ⟨_, rfl⟩
            have hkl : kk < L.length := by rw [hkk]; exact Nat.mod_lt _ l0
            have tk : Int.tmod (nn : Int) (L.length : Int) = (kk : Int) := by rw [hkk]; rfl
            obtain ⟨z0, z1, -, -, -⟩ := hM.five kk hkl
            have hr := HT.out.rng L[kk] (List.getElem_mem hkl)
            have hg := HT.out.g_le (List.getElem_mem hkl : L[kk] ∈ L)
            have hsl := HZ1.out.le.1
            have k0 : (0 : Int) ≤ (kk : Int) := by omega
            have k1 : (kk : Int) < (L.length : Int) := by omega
            obtain ⟨r0, r1⟩ := X1.out.two
            have f0 := Joins.unfrozen_of_block X1.out 0
            have f1 := Joins.unfrozen_of_block X1.out 1
            have b1 : i64B (L[kk].s : Int) := by unfold i64B; omega
            have b2 : i64B (L[kk].g : Int) := by unfold i64B; omega
            generalize L[kk].s = p at *
            generalize L[kk].g = q at *
            clear hkk hM hr hg eL2
            go_wp2_with fail
            go_region
            go_wp2_with fail
            go_meet
            refine ⟨rfl, (p : Int), (q : Int), b1, b2, ?_, ?_, ?_, ?_, ?_⟩
            · exact X1.out.set.below ((Below.refl _ _).drew)
            · exact (HZ1.out.setH X1.out hWk _ _).below ((Below.refl _ _).drew)
            · exact (HD1.out.setH X1.out hWk _ _).below ((Below.refl _ _).drew)
            · exact (World.cell?_of_block ((Below.heap_setCell _ _ _ _ (by show b ≠ kh; omega)).trans (Below.heap_setCell _ _ _ _ (by show b ≠ kh; omega)))).trans x0
            · exact (World.cell?_of_block ((Below.heap_setCell _ _ _ _ (by show b ≠ kh; omega)).trans (Below.heap_setCell _ _ _ _ (by show b ≠ kh; omega)))).trans x1
        case rest =>
          obtain ⟨rfl, p, q, b1, b2, hX, hZ, hDD, x0, x1⟩ := hcut
          have HX := hide hX
          have HZ2 := hide hZ
          have HD2 := hide hDD
          clear hX hZ hDD HZ1 HD1 X1 HBK hM hv0
          go_upto_region 15 with (fail)
          go_cut [89] (fun s89 wx => s89 = .int .i64 kd ∧ wx = wc)
          case first =>
            go_wp2_with fail
            go_meet
            exact ⟨rfl, rfl⟩
          case rest =>
            obtain ⟨rfl, rfl⟩ := hcut
            apply_assumption
            go_cut [9] (fun s9 wx => s9 = .int .i64 (i : Int) ∧ Ps W wx g1 g2 m (i + 1))
            case first =>
              by_cases q0 : kd = 0
              · subst q0
                by_cases hf : A.live < m
                · have K1 := hide (zput_any n (by omega) HZ2.out hf)
                  have hTp := (HT.out.put n).1
                  have HTP := hide hTp
                  have K2 := hide (fun V (h : Dd W V g2 m L N) => rput_any W g2 m N L A n HT.out hf (by omega) (by have := HZ2.out.le.1; omega) (by omega) V h)
                  have hlen : (L ++ [(⟨A.nxt.1, A.nxt.2, n, true, 0⟩ : En)]).length ≤ i + 1 := by simp; omega
                  have HL := hide hlen
                  clear hTp hlen
                  generalize A.put n = A' at *
                  generalize hq : A.nxt = qq at *
                  have hnq := fun V => handle_neq (qq.1 : Int) (qq.2 : Int) V
                  clear hq
                  go_wp2_with fail
                  refine K1.out.mono ?_
                  rintro e w4 ⟨rfl, hz, hk⟩
                  have D4 := (Below.refl w4.heap.size w4).alloc (Nat.le_refl _) (.cells #[.int .i64 (qq.1 : Int), .int .i64 (qq.2 : Int)] 31)
                  have HZ4 := hide (hz.below D4)
                  have HD4 := hide ((HD2.out.kp hk hz.bel).below D4)
                  have X4 := hide (Hb.new w4 (qq.1 : Int) (qq.2 : Int))
                  have x1 := HXW.out _ (hz.below D4).bel
                  clear hz hk D4 K1 HZ2 HD2 x0
                  go_upto_region 22 with (fail)
                  generalize w4.heap.size = k4 at X4 ⊢
                  generalize w4.alloc (.cells #[.int .i64 (qq.1 : Int), .int .i64 (qq.2 : Int)] 31) = w5 at HZ4 HD4 X4 x1 ⊢
                  go_wp2_with fail
                  refine (K2.out w5 HD4.out).mono ?_
                  rintro e w6 ⟨rfl, hD, hk⟩
                  have D6 := (Below.refl w6.heap.size w6).alloc (Nat.le_refl _) (.cells #[.int .i64 (qq.1 : Int), .int .i64 (qq.2 : Int)] 31)
                  have HZ6 := hide ((HZ4.out.kd hk hD.bel).below D6)
                  have HD6 := hide (hD.below D6)
                  have X6 := hide ((X4.out.kd hk).below D6)
                  have Y6 := hide (Hb.new w6 (qq.1 : Int) (qq.2 : Int))
                  clear hD hk D6 K2 HZ4 HD4 X4 x1
                  go_upto_region 23 with (fail)
                  generalize w6.heap.size = k6 at Y6 ⊢
                  generalize w6.alloc (.cells #[.int .i64 (qq.1 : Int), .int .i64 (qq.2 : Int)] 31) = w7 at HZ6 HD6 X6 Y6 ⊢
                  obtain ⟨x0, x1⟩ := X6.out.two
                  obtain ⟨y0, y1⟩ := Y6.out.two
                  go_wp2_with fail
                  go_meet
                  exact ⟨rfl, A', _, N, HZ6.out, HTP.out, HD6.out, HL.out, by omega⟩
                · have K1 := hide (zput_full n (by omega) HZ2.out hf)
                  have K2 := hide (fun V (h : Dd W V g2 m L N) => rput_full W g2 m N L A n HT.out hf (by omega) V h)
                  go_wp2_with fail
                  refine K1.out.mono ?_
                  rintro e w4 ⟨rfl, hz, hb⟩
                  have D4 := (Below.refl w4.heap.size w4).alloc (Nat.le_refl _) (.cells #[.int .i64 0, .int .i64 0] 31)
                  have HZ4 := hide (hz.below D4)
                  have HD4 := hide ((HD2.out.below hb).below D4)
                  have X4 := hide (Hb.new w4 0 0)
                  have x1 := HXW.out _ (hz.below D4).bel
                  clear hz hb D4 K1 HZ2 HD2 x0
                  go_upto_region 22 with (fail)
                  generalize w4.heap.size = k4 at X4 ⊢
                  generalize w4.alloc (.cells #[.int .i64 0, .int .i64 0] 31) = w5 at HZ4 HD4 X4 x1 ⊢
                  go_wp2_with fail
                  refine (K2.out w5 HD4.out).mono ?_
                  rintro e w6 ⟨rfl, hb⟩
                  have D6 := (Below.refl w6.heap.size w6).alloc (Nat.le_refl _) (.cells #[.int .i64 0, .int .i64 0] 31)
                  have HZ6 := hide ((HZ4.out.below hb).below D6)
                  have HD6 := hide ((HD4.out.below hb).below D6)
                  have X6 := hide ((X4.out.below hb).below D6)
                  have Y6 := hide (Hb.new w6 0 0)
                  clear hb D6 K2 HZ4 HD4 X4 x1
                  go_upto_region 23 with (fail)
                  generalize w6.heap.size = k6 at Y6 ⊢
                  generalize w6.alloc (.cells #[.int .i64 0, .int .i64 0] 31) = w7 at HZ6 HD6 X6 Y6 ⊢
                  obtain ⟨x0, x1⟩ := X6.out.two
                  obtain ⟨y0, y1⟩ := Y6.out.two
                  go_wp2_with fail
                  go_meet
                  exact ⟨rfl, A, L, N, HZ6.out.up (by omega), HT.out, HD6.out, by omega, by omega⟩
              · have d0 : (kd == 0) = false := by simpa using q0
                by_cases q1 : kd = 1
                · subst q1
                  clear d0
                  have KA := hide (fun V (hz : Az W V g1 m i A) (hD : Dd W V g2 m L N) (hX : Hb V kh p q) => pl_freeA b1 b2 (by omega) hz hD hX)
                  have KD := hide (fun V (hz : Az W V g1 m i (frA A p q)) (hD : Dd W V g2 m L N) (hX : Hb V kh p q) => pl_freeD HT.out hL hN (by omega) hz hD hX)
                  obtain ⟨y0, y1⟩ := HX.out.two
                  have HZd := hide (HZ2.out.below ((Below.refl _ _).drew))
                  have HDd := hide (HD2.out.below ((Below.refl _ _).drew))
                  have HXd := hide (HX.out.below ((Below.refl _ _).drew))
                  generalize frA A p q = A1 at KA KD
                  generalize (A.get p q).isSome = r at KA KD
                  have hrr : (r != r) = false := by simp
                  clear HZ2 HD2 HX x0 x1
                  go_wp2_with fail
                  go_region_held3 (fun w' => w'.cell? ⟨kh, 0, none⟩ = some (.int .i64 p) ∧ w'.cell? ⟨kh, 1, none⟩ = some (.int .i64 q))
                    (first | with_reducible exact hS2 | with_reducible exact hS1 | with_reducible exact ⟨y0, y1⟩ | go_keep)
                    (first
                      | (go_at_call 12
                         (with_reducible refine (KA.out _ HZd.out HDd.out HXd.out).mono ?_)
                         rintro e w4 ⟨rfl, hz, hD, hX⟩
                         have HZ4 := hide hz
                         have HD4 := hide hD
                         have HX4 := hide hX
                         have hS1 := hX.two
                         clear hz hD hX)
                      | (go_at_call 13
                         (with_reducible refine (KD.out _ HZ4.out HD4.out HX4.out).mono ?_)
                         rintro e w5 ⟨rfl, hE, hz, hX⟩
                         have HZ5 := hide hz
                         have HE5 := hide hE
                         have hS2 := hX.two
                         clear hz hX hE))
                  go_wp2_with fail
                  go_meet
                  obtain ⟨L1, N1, h1, h2, h3, h4⟩ := HE5.out
                  exact ⟨rfl, A1, L1, N1, HZ5.out.up (by omega), h1, h4, h2, h3⟩
                · have d1 : (kd == 1) = false := by simpa using q1
                  obtain ⟨a', c', hM', -, -⟩ := HD2.out.dm
                  have K1 := hide (zget_any p q b1 b2 (by omega) HZ2.out)
                  have K2 := hide (fun V (h : Dm V g2 m (.slice a' L.length c') L N) => rget_any g2 m N (.slice a' L.length c') L A p q HT.out (by omega) V h)
                  unfold GetRet at K2
                  have HM := hide hM'
                  generalize (A.get p q).getD 0 = z at K1 K2
                  generalize (A.get p q).isSome = r at K1 K2
                  have hrr : (r != r) = false := by simp
                  have hzz : (z != z) = false := by simp
                  obtain ⟨y0, y1⟩ := HX.out.two
                  clear hM' x0 x1
                  go_wp2_with fail
                  refine K1.out.mono ?_
                  rintro e w4 ⟨rfl, hz, hb⟩
                  have HZ4 := hide hz
                  have HD4 := hide (HD2.out.below hb)
                  have HM4 := hide (HM.out.below hb)
                  have y0 := cell_b hb y0
                  have y1 := cell_b hb y1
                  clear hz hb K1 HZ2 HD2 HM HX
                  go_wp2_with fail
                  refine (K2.out w4 HM4.out).mono ?_
                  rintro e w5 ⟨rfl, hb⟩
                  have HZ5 := hide (HZ4.out.below hb)
                  have HD5 := hide (HD4.out.below hb)
                  clear hb K2 HZ4 HD4 HM4 y0 y1
                  go_wp2_with fail
                  go_meet
                  exact ⟨rfl, A, L, N, HZ5.out.up (by omega), HT.out, HD5.out, by omega, by omega⟩
            case rest =>
              obtain ⟨rfl, A', L', N', hz, hT, hD, hL', hN'⟩ := hcut
              obtain ⟨a', c', hM', -, -⟩ := hD.dm
              have hle := hz.le.2
              have K1 := hide (zlive_any (by omega) hz)
              have K2 := hide (fun V (h : Dm V g2 m (.slice a' L'.length c') L' N') => rlive_any g2 m N' (.slice a' L'.length c') L' (by omega) V h)
              have K3 := hide (fun V (h : Az W V g1 m (i + 1) A') => zroom_any (by omega) h)
              rw [hT.liv] at K2
              have HM := hide hM'
              have HD' := hide hD
              have HT' := hide hT
              clear hz hT hD hM'
              obtain ⟨n1, hn1⟩ : ∃ n1, A'.live = n1 := ⟨_, rfl⟩
              rw [hn1] at K1 K2 K3 hle
              rw [show ((m - n1 : Nat) : Int) = (m : Int) - (n1 : Int) by omega] at K3
              clear hn1
              have wk : IntKind.i64.wrap ((m : Int) - (n1 : Int)) = (m : Int) - (n1 : Int) := wrap_in _ (by omega) (by omega)
              go_wp2_with fail
              refine K1.out.mono ?_
              rintro e w4 ⟨rfl, hz, hb⟩
              have HZ4 := hide hz
              have HM4 := hide (HM.out.below hb)
              have HD4 := hide (HD'.out.below hb)
              clear hz hb K1 HM HD'
              go_wp2_with fail
              refine (K2.out w4 HM4.out).mono ?_
              rintro e w5 ⟨rfl, hb⟩
              have HZ5 := hide (HZ4.out.below hb)
              have HM5 := hide (HM4.out.below hb)
              have HD5 := hide (HD4.out.below hb)
              clear hb HZ4 HM4 HD4
              go_wp2_with fail
              refine (K3.out w5 HZ5.out).mono ?_
              rintro e w6 ⟨rfl, hz, hb⟩
              have HZ6 := hide hz
              have HM6 := hide (HM5.out.below hb)
              have HD6 := hide (HD5.out.below hb)
              clear hz hb K3 HZ5 HM5 HD5
              go_wp2_with fail
              refine (K2.out w6 HM6.out).mono ?_
              rintro e w7 ⟨rfl, hb⟩
              have HZ7 := hide (HZ6.out.below hb)
              have HD7 := hide (HD6.out.below hb)
              clear hb HZ6 HM6 HD6 K2
              go_wp2_with fail
              go_roundw
              case rel => exact ⟨i + 1, by omega, by go_num, A', L', N', HZ7.out, HT'.out, HD7.out, hL', hN'⟩
              case measure => simp [intOf]; omega
    · obtain rfl : i = l.length := by omega
      have K1 := hide (zroom_any (by omega) hz)
      have K2 := hide (fun V (h : Az W V g1 m l.length A) => zlive_any (by omega) h)
      have hle := hz.le.2
      clear hz hT hD
      go_wp2_with fail
      refine K1.out.mono ?_
      rintro e w4 ⟨rfl, hz, hb⟩
      have HZ4 := hide hz
      clear hz hb K1
      go_wp2_with fail
      refine (K2.out w4 HZ4.out).mono ?_
      rintro e w5 ⟨rfl, hz, hb⟩
      have B := hide hz.bel
      clear hz hb K2
      rw [show ((m - A.live : Nat) : Int) = (m : Int) - (A.live : Int) by omega]
      have wk : IntKind.i64.wrap ((m : Int) - (A.live : Int)) = (m : Int) - (A.live : Int) := wrap_in _ (by omega) (by omega)
      go_wp2
      go_ret
      exact ⟨by simp, B.out⟩
end Go.Proofs.Ytooejagekkgpaaa
