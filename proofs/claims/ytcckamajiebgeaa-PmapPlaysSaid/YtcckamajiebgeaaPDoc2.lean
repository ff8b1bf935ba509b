/-
  Contracts of the document's Same, Find over pairs, of Minus, Sets over handles, of Digits. Conditions: the lists can be read, and are not longer than a hundred thousand.
-/
import Derived.Test.YtcckamajiebgeaaPDoc1
import Derived.Test.YtcckamajiebgeaaPIn
namespace Go.Proofs.Ytcckamajiebgeaa
open Go.RowKit Go.Maps
set_option linter.unusedVariables false
set_option linter.unusedSimpArgs false
set_option maxRecDepth 100000

theorem pair_ne (a b c d : Int) (w : World) : (binOp .neq 65 (.agg #[.int .i64 a, .int .i64 b]) (.agg #[.int .i64 c, .int .i64 d])).run Try.prog w = .ok (.bool (!decide ((a, b) = (c, d)))) w := by
  have u3 := Try.underlying3
  have a3 := Try.isAgg3
  have z3 := Try.sizeOf3
  have e : decide ((a, b) = (c, d)) = decide (a = c ∧ b = d) := by simp
  rw [e, run_neq_struct, show (10000 : Nat) = 9998 + 1 + 1 from rfl, run_equalIn_agg w (9998 + 1) 65 _ _ (by kernel_rfl) (by kernel_rfl)]
  simp only [Program.fieldsOf, Try.underlying65]
  go_simp
  by_cases h1 : a = c <;> by_cases h2 : b = d <;> simp [h1, h2]
def PaRel (w : World) (a b : List (Int × Int)) (i : Value) (wr : World) : Prop := ∃ k : Nat, k ≤ a.length ∧ i = .int .i64 (k : Int) ∧ a.take k = b.take k ∧ Below w.heap.size w wr
set_option maxHeartbeats 1000000 in
theorem psame_any (A : Option Addr) (c : Nat) (a : List (Int × Int)) (B : Option Addr) (d : Nat) (b : List (Int × Int)) (hn : a.length ≤ 1000000) (hn2 : b.length ≤ 1000000) (w : World) (ha : Hs w A c a) (hb : Hs w B d b) :
    Calls Try.prog 17 #[.slice A a.length c, .slice B b.length d] w (BoolRet (decide (a = b)) w) := by
  have HA := hide ha
  have HB := hide hb
  have B0 := hide (Below.refl w.heap.size w)
  clear ha hb
  by_cases hl : a.length = b.length
  · have HL := hide hl
    have d0 : ((a.length : Int) != (b.length : Int)) = false := by simp [hl]
    clear hl
    go_enter Try.func17, Try.ntmps17
    go_wp2_with fail
    go_loopw [5] (PaRel w a b) (fun i _ => a.length - (intOf i).toNat)
    case atStart => exact ⟨0, Nat.zero_le _, rfl, by simp, Below.refl _ _⟩
    case round =>
      obtain ⟨k, hk, rfl, ht, hb⟩ := hrel
      have HBl := hide hb
      have HT := hide ht
      by_cases hlt : k < a.length
      · have hlt2 : k < b.length := by have := HL.out; omega
        obtain ⟨b1, o1, rfl, hat⟩ := (HA.out.below hb).lit (by omega)
        obtain ⟨b2, o2, rfl, hat2⟩ := (HB.out.below hb).lit (by omega)
        obtain ⟨y0, y1⟩ := hat.two k hlt
        obtain ⟨z0, z1⟩ := hat2.two k hlt2
        have i0 : (0 : Int) ≤ (k : Int) := by omega
        have i1 : (k : Int) < (a.length : Int) := by omega
        have i2 : (k : Int) < (b.length : Int) := by omega
        have e1 := List.take_succ_eq_append_getElem hlt
        have e2 := List.take_succ_eq_append_getElem hlt2
        have hne := HL.out
        obtain ⟨⟨p, q⟩, hpq⟩ : ∃ pq, a[k] = pq := ⟨_, rfl⟩
        obtain ⟨⟨s, t⟩, hst⟩ : ∃ st, b[k] = st := ⟨_, rfl⟩
        rw [hpq] at y0 y1 e1
        rw [hst] at z0 z1 e2
        have hq := fun V => pair_ne p q s t V
        simp only at y0 y1 z0 z1
        have HPQ := hide hpq
        have HST := hide hst
        have E1 := hide e1
        have E2 := hide e2
        clear hb ht hat hat2 hpq hst e1 e2 hne
        by_cases e : (p, q) = (s, t)
        · have hd : (!decide ((p, q) = (s, t))) = false := by simpa using e
          have HY := hide (show a.take (k + 1) = b.take (k + 1) by rw [E1.out, E2.out, HT.out, e])
          simp only [hd] at hq
          clear e
          go_wp2_with fail
          go_quiet (fail)
          go_wp2
          go_roundw
          case rel => exact ⟨k + 1, by omega, by go_num, HY.out, below_q HBl.out _⟩
          case measure => simp [intOf]; omega
        · have hd : (!decide ((p, q) = (s, t))) = true := by rw [decide_eq_false e]; rfl
          have HY := hide (show decide (a = b) = false by
            refine decide_eq_false fun h => e ?_
            subst h
            exact HPQ.out.symm.trans HST.out)
          simp only [hd] at hq
          clear e
          go_wp2_with fail
          go_quiet (fail)
          go_wp2
          go_ret
          exact ⟨by rw [HY.out]; rfl, below_q HBl.out _⟩
      · obtain rfl : k = a.length := by omega
        have HY := hide (show decide (a = b) = true by
          have h1 := HT.out
          rw [List.take_length, HL.out, List.take_length] at h1
          simpa using h1)
        clear hb ht
        go_wp2
        go_ret
        exact ⟨by rw [HY.out]; rfl, HBl.out⟩
  · have HY := hide (show decide (a = b) = false from decide_eq_false fun h => hl (by rw [h]))
    have d0 : ((a.length : Int) != (b.length : Int)) = true := by simp; omega
    go_enter Try.func17, Try.ntmps17
    go_wp2
    go_ret
    exact ⟨by rw [HY.out]; rfl, B0.out⟩
def FiRelP (w : World) (k : Int) (l : List Pp) (i : Value) (wr : World) : Prop := ∃ j : Nat, j ≤ l.length ∧ i = .int .i64 (j : Int) ∧ fiP k (l.take j) = none ∧ wr = w
set_option maxHeartbeats 1000000 in
theorem pfind_any (A : Option Addr) (c : Nat) (l : List Pp) (k : Int) (hn : l.length ≤ 100000) (w : World) (h : Hs w A c l) :
    Calls Try.prog 22 #[.slice A l.length c, .int .i64 k] w (fun e w' => e = .returned (.tuple #[.int .i64 ((fiP k l).getD 0), .bool (fiP k l).isSome]) ∧ Below w.heap.size w w') := by
  have H := hide h
  have B := hide (Below.refl w.heap.size w)
  clear h
  go_enter Try.func22, Try.ntmps22
  go_wp2_with fail
  go_loopw [6] (FiRelP w k l) (fun i _ => l.length - (intOf i).toNat)
  case atStart => exact ⟨0, Nat.zero_le _, rfl, rfl, rfl⟩
  case round =>
    obtain ⟨i, hi, rfl, hno, rfl⟩ := hrel
    have HN := hide hno
    by_cases hlt : i < l.length
    · obtain ⟨b, o, rfl, hat⟩ := H.out.lit (by omega)
      obtain ⟨z0, z1⟩ := hat.two i hlt
      have i0 : (0 : Int) ≤ (i : Int) := by omega
      have i1 : (i : Int) < (l.length : Int) := by omega
      have HW := hide (show fiP k (l.take (i + 1)) = if l[i].1 = k then some l[i].2 else none by rw [List.take_succ_eq_append_getElem hlt, fiP_snoc, hno]; rfl)
      have HF := hide (fun (x : Int) (h : fiP k (l.take (i + 1)) = some x) => show fiP k l = some x from by
        unfold fiP at h ⊢
        have e : l = l.take (i + 1) ++ l.drop (i + 1) := (List.take_append_drop _ _).symm
        rw [e, List.find?_append]
        cases hq : (l.take (i + 1)).find? (fun x => x.1 == k) with
        | none => rw [hq] at h; simp at h
        | some y => rw [hq] at h; simpa using h)
      generalize l[i] = x at *
      obtain ⟨p, q⟩ := x
      simp only at z0 z1 HW
      clear hat hno
      by_cases e : p = k
      · have d0 : (p == k) = true := by simpa using e
        have HY := hide (HF.out q (by rw [HW.out, if_pos e]))
        clear e
        go_wp2_with fail
        go_ret2
        exact ⟨by rw [HY.out]; rfl, B.out⟩
      · have d0 : (p == k) = false := by simpa using e
        have HY := hide (show fiP k (l.take (i + 1)) = none by rw [HW.out, if_neg e])
        clear e
        go_wp2_with fail
        go_roundw
        case rel => exact ⟨i + 1, by omega, by go_num, HY.out, rfl⟩
        case measure => simp [intOf]; omega
    · obtain rfl : i = l.length := by omega
      have HY := hide (show fiP k l = none by rw [← hno, List.take_length])
      clear hno
      go_wp2_with fail
      go_ret2
      exact ⟨by rw [HY.out]; rfl, B.out⟩
def MiRel (w : World) (a b : List (Int × Int)) (vo vi : Value) (wr : World) : Prop := ∃ i : Nat, i ≤ a.length ∧ vi = .int .i64 (i : Int) ∧ (∃ out, out = miH (a.take i) b ∧ OwnH wr w.heap.size vo out) ∧ Below w.heap.size w wr
set_option maxHeartbeats 1000000 in
theorem minus_any (A : Option Addr) (c : Nat) (a : List (Int × Int)) (B : Option Addr) (d : Nat) (b : List (Int × Int)) (hn : a.length ≤ 100000) (hn2 : b.length ≤ 100000) (w : World) (ha : Hs w A c a) (hb : Hs w B d b) :
    Calls Try.prog 19 #[.slice A a.length c, .slice B b.length d] w (HsRet (miH a b) w) := by
  have HA := hide ha
  have HBb := hide hb
  clear ha hb
  go_enter Try.func19, Try.ntmps19
  go_wp2_with fail
  go_loopw [5, 6] (MiRel w a b) (fun _ i _ => a.length - (intOf i).toNat)
  case atStart => exact ⟨0, Nat.zero_le _, rfl, ⟨[], rfl, OwnH.nil _ _⟩, Below.refl _ _⟩
  case round =>
    obtain ⟨i, hi, rfl, ⟨out, hout, ho⟩, hb⟩ := hrel
    have HB := hide hb
    have HO := hide ho
    obtain ⟨ao, co, rfl⟩ := row_form ho
    by_cases hlt : i < a.length
    · obtain ⟨bk, o, rfl, hat⟩ := HA.out.lit (by omega)
      have i0 : (0 : Int) ≤ (i : Int) := by omega
      have i1 : (i : Int) < (a.length : Int) := by omega
      have hol : out.length ≤ i := by rw [hout]; exact Nat.le_trans (miH_length _ _) (by rw [List.length_take]; omega)
      have HW := hide (show miH (a.take (i + 1)) b = if a[i] ∈ b then out else out ++ [a[i]] by rw [List.take_succ_eq_append_getElem hlt, miH_snoc, ← hout])
      have KX := hide (fun (V : World) (hV : Below w.heap.size w V) => (hat.below hV).two i hlt)
      have KI := hide (fun (s t : Int) => rin_any B d b s t (by omega) wr (HBb.out.below hb))
      obtain ⟨z0, z1⟩ := KX.out wr hb
      clear hb ho hat hout
      generalize a[i] = x at *
      obtain ⟨p, q⟩ := x
      simp only at z0 z1 HW KX
      have K := hide (KI.out p q)
      clear KI
      by_cases e : (p, q) ∈ b
      · have HY := hide (show miH (a.take (i + 1)) b = out by rw [HW.out, if_pos e])
        rw [decide_eq_true e] at K
        clear e
        go_wp2_with fail
        refine K.out.mono ?_
        rintro e w3 ⟨rfl, hb3⟩
        have HB3 := hide (HB.out.trans (hb3.mono HB.out.size))
        have HO3 := hide (HO.out.below hb3)
        clear hb3 K z0 z1
        go_wp2_with fail
        go_roundw
        case rel => exact ⟨i + 1, by omega, by go_num, ⟨_, HY.out.symm, HO3.out⟩, HB3.out⟩
        case measure => simp [intOf]; omega
      · have HY := hide (show miH (a.take (i + 1)) b = out ++ [(p, q)] by rw [HW.out, if_neg e])
        rw [decide_eq_false e] at K
        clear e
        go_wp2_with fail
        refine K.out.mono ?_
        rintro e w3 ⟨rfl, hb3⟩
        have HB3 := hide (HB.out.trans (hb3.mono HB.out.size))
        have HO3 := hide (HO.out.below hb3)
        obtain ⟨z0, z1⟩ := KX.out w3 HB3.out
        have D1 := (Below.refl w3.heap.size w3).alloc (Nat.le_refl _) (.cells #[.int .i64 p, .int .i64 q] 28)
        have OA := hide (HO3.out.below D1)
        have NB := hide (Hb.new w3 p q).hs
        have B1 := hide (HB3.out.trans (D1.mono HB3.out.size))
        have hbs := B1.out.size
        clear hb3 K D1
        go_wp2_with (at_builtin; refine wpList_append_h _ rfl _ _ rfl w.heap.size (.slice ao out.length co) out rfl OA.out (some ⟨w3.heap.size, 0, none⟩) 1 [(p, q)] rfl NB.out (by simp only [List.length_singleton]; omega) hbs ?_; intro A5 c5 w5 hown5 hg5 _; have B5 := hide (B1.out.grown hg5 hbs (fun k hk => (World.ownsRow.lt OA.out k hk).1)); have HO5 := hide hown5; clear hown5 hg5)
        go_roundw
        case rel => exact ⟨i + 1, by omega, by go_num, ⟨_, HY.out.symm, by simpa using HO5.out⟩, B5.out⟩
        case measure => simp [intOf]; omega
    · obtain rfl : i = a.length := by omega
      rw [List.take_length] at hout
      have HE := hide hout
      clear hb ho hout
      go_wp2_with fail
      go_ret
      exact ⟨_, rfl, by rw [← HE.out]; exact HO.out, HB.out⟩
set_option maxHeartbeats 1000000 in
theorem sets_any (A : Option Addr) (c : Nat) (a : List (Int × Int)) (B : Option Addr) (d : Nat) (b : List (Int × Int)) (hn : a.length ≤ 100000) (hn2 : b.length ≤ 100000) (hl : a.length = b.length) (h1 : ∀ x ∈ a, x ∈ b) (h2 : ∀ x ∈ b, x ∈ a) (w : World) (ha : Hs w A c a) (hb : Hs w B d b) :
    Calls Try.prog 18 #[.slice A a.length c, .slice B b.length d] w (BoolRet true w) := by
  have K1 := hide (minus_any A c a B d b hn hn2 w ha hb)
  have K2 := hide (fun (V : World) (hV : Below w.heap.size w V) => minus_any B d b A c a hn2 hn V (hb.below hV) (ha.below hV))
  rw [miH_none.2 h1] at K1
  rw [miH_none.2 h2] at K2
  have HL := hide hl
  have d0 : ((a.length : Int) != (b.length : Int)) = false := by simp [hl]
  clear ha hb hl h1 h2
  go_enter Try.func18, Try.ntmps18
  go_wp2_with fail
  refine K1.out.mono ?_
  rintro e w3 ⟨v3, rfl, ho, hb3⟩
  obtain ⟨a3, c3, rfl⟩ := row_form ho
  have HB3 := hide hb3
  clear ho hb3 K1
  go_wp2_with fail
  refine (K2.out w3 HB3.out).mono ?_
  rintro e w4 ⟨v4, rfl, ho, hb4⟩
  obtain ⟨a4, c4, rfl⟩ := row_form ho
  have HB4 := hide (HB3.out.trans (hb4.mono HB3.out.size))
  clear ho hb4 K2
  go_wp2_with fail
  go_ret
  exact ⟨rfl, HB4.out⟩
def DgRel (w : World) (n : Nat) (vn vk : Value) (wr : World) : Prop := ∃ m k : Nat, m ≤ n ∧ k ≤ 64 ∧ dgN m + k = dgN n ∧ vn = .int .i64 (m : Int) ∧ vk = .int .i64 (k : Int) ∧ wr = w
theorem dgN_succ (m : Nat) (h : 0 < m) : dgN m = dgN (m / 2) + 1 := by
  cases m with
  | zero => omega
  | succ m => rw [dgN]
theorem dgN_le : ∀ (b n : Nat), n < 2 ^ b → dgN n ≤ b
  | 0, n, h => by
    obtain rfl : n = 0 := by omega
    simp [dgN]
  | b + 1, n, h => by
    by_cases h0 : n = 0
    · subst h0; simp [dgN]
    · rw [dgN_succ n (by omega)]
      have := dgN_le b (n / 2) (by omega)
      omega
theorem digits_any (n : Nat) (hn : n ≤ 100000) (w : World) : Calls Try.prog 26 #[.int .i64 (n : Int)] w (IntRet .i64 (dgN n) w) := by
  have B := hide (Below.refl w.heap.size w)
  have H17 := hide (dgN_le 17 n (by omega))
  go_enter Try.func26, Try.ntmps26
  go_wp2_with fail
  go_loopw [0, 3] (DgRel w n) (fun m _ _ => (intOf m).toNat)
  case atStart => exact ⟨n, 0, Nat.le_refl _, by omega, rfl, rfl, rfl, rfl⟩
  case round =>
    obtain ⟨m, k, hm, hk, he, rfl, rfl, rfl⟩ := hrel
    have HE := hide he
    have hk17 : k ≤ 17 := by have := H17.out; omega
    clear he
    by_cases h0 : 0 < m
    · have d0 : decide ((m : Int) > 0) = true := decide_eq_true (by omega)
      have m0 : (0 : Int) < (m : Int) := by omega
      have dq : (m : Int).tdiv 2 = ((m / 2 : Nat) : Int) := by rw [Int.tdiv_eq_ediv_of_nonneg (by omega)]; omega
      have HS := hide (dgN_succ m h0)
      go_wp2_with fail
      go_roundw
      case rel => exact ⟨m / 2, k + 1, by omega, by omega, by have := HE.out; have := HS.out; omega, by go_num, by go_num, rfl⟩
      case measure => simp [intOf]; omega
    · obtain rfl : m = 0 := by omega
      have HY := hide (show (k : Int) = (dgN n : Nat) by have := HE.out; simp [dgN] at this; omega)
      go_wp2_with fail
      go_ret
      exact ⟨ret_int HY.out, B.out⟩
end Go.Proofs.Ytcckamajiebgeaa
