/-
  The document's functions on texts: tails, Formed, Right. They answer as the plain functions say; nothing that was there is changed. No conditions beyond those that each statement bears.
-/
import Derived.Test.YtimfeocaghccdaaGreatDoorNBase
namespace Go.Proofs.YtimfeocaghccdaaGreatDoor
set_option maxRecDepth 100000
open Go.RowKit
set_option linter.unusedVariables false

def TailsRet (c : Nat) (w : World) (e : Ending) (w' : World) : Prop := e = .returned (.tuple #[.int .i64 (((tl c).1 : Int) - 1), .int .u8 ((tl c).2.1 : Int), .int .u8 ((tl c).2.2 : Int)]) ∧ w' = w
set_option maxHeartbeats 1000000 in
set_option maxRecDepth 100000 in
theorem tails_any (c : Nat) (w : World) (h : c < 256) : Calls Tryz.prog 113 #[.int .u8 (c : Int)] w (TailsRet c w) := by
  unfold TailsRet
  rcases tl_cases c with ⟨e, p⟩ | ⟨e, p⟩ | ⟨e, p⟩ | ⟨e, p⟩ | ⟨e, p⟩ | ⟨e, p⟩ | ⟨e, p⟩ | ⟨e, p⟩ | ⟨e, p⟩
  all_goals rw [e]; clear e
  · have p1 : (c : Int) < 128 := by omega
    clear p
    go_enter Tryz.func113, Tryz.ntmps113
    go_wp2
    go_ret3
    exact ⟨rfl, rfl⟩
  · have p0 : ¬ (c : Int) < 128 := by omega
    have p1 : (194 : Int) ≤ (c : Int) := by omega
    have p2 : (c : Int) ≤ 223 := by omega
    clear p
    go_enter Tryz.func113, Tryz.ntmps113
    go_wp2
    go_ret3
    exact ⟨rfl, rfl⟩
  · subst p
    go_enter Tryz.func113, Tryz.ntmps113
    go_wp2
    go_ret3
    exact ⟨rfl, rfl⟩
  · subst p
    go_enter Tryz.func113, Tryz.ntmps113
    go_wp2
    go_ret3
    exact ⟨rfl, rfl⟩
  · have p0 : ¬ (c : Int) < 128 := by omega
    have p1 : (194 : Int) ≤ (c : Int) := by omega
    have p2 : ¬ (c : Int) ≤ 223 := by omega
    have p3 : ((c : Int) == 224) = false := by simp only [beq_eq_false_iff_ne, ne_eq]; omega
    have p4 : ((c : Int) == 237) = false := by simp only [beq_eq_false_iff_ne, ne_eq]; omega
    have p5 : (225 : Int) ≤ (c : Int) := by omega
    have p6 : (c : Int) ≤ 239 := by omega
    clear p
    go_enter Tryz.func113, Tryz.ntmps113
    go_wp2
    go_ret3
    exact ⟨rfl, rfl⟩
  · subst p
    go_enter Tryz.func113, Tryz.ntmps113
    go_wp2
    go_ret3
    exact ⟨rfl, rfl⟩
  · have p0 : ¬ (c : Int) < 128 := by omega
    have p1 : (194 : Int) ≤ (c : Int) := by omega
    have p2 : ¬ (c : Int) ≤ 223 := by omega
    have p3 : ((c : Int) == 224) = false := by simp only [beq_eq_false_iff_ne, ne_eq]; omega
    have p4 : ((c : Int) == 237) = false := by simp only [beq_eq_false_iff_ne, ne_eq]; omega
    have p5 : (225 : Int) ≤ (c : Int) := by omega
    have p6 : ¬ (c : Int) ≤ 239 := by omega
    have p7 : ((c : Int) == 240) = false := by simp only [beq_eq_false_iff_ne, ne_eq]; omega
    have p8 : (241 : Int) ≤ (c : Int) := by omega
    have p9 : (c : Int) ≤ 243 := by omega
    clear p
    go_enter Tryz.func113, Tryz.ntmps113
    go_wp2
    go_ret3
    exact ⟨rfl, rfl⟩
  · subst p
    go_enter Tryz.func113, Tryz.ntmps113
    go_wp2
    go_ret3
    exact ⟨rfl, rfl⟩
  · have p0 : ¬ (c : Int) < 128 := by omega
    have p3 : ((c : Int) == 224) = false := by simp only [beq_eq_false_iff_ne, ne_eq]; omega
    have p4 : ((c : Int) == 237) = false := by simp only [beq_eq_false_iff_ne, ne_eq]; omega
    have p7 : ((c : Int) == 240) = false := by simp only [beq_eq_false_iff_ne, ne_eq]; omega
    have p8 : ((c : Int) == 244) = false := by simp only [beq_eq_false_iff_ne, ne_eq]; omega
    rcases p with ⟨q1, q2⟩ | q
    · have p1 : ¬ (194 : Int) ≤ (c : Int) := by omega
      have p2 : ¬ (225 : Int) ≤ (c : Int) := by omega
      have p9 : ¬ (241 : Int) ≤ (c : Int) := by omega
      clear q1 q2
      go_enter Tryz.func113, Tryz.ntmps113
      go_wp2
      go_ret3
      exact ⟨rfl, rfl⟩
    · have p1 : (194 : Int) ≤ (c : Int) := by omega
      have p2 : (225 : Int) ≤ (c : Int) := by omega
      have p9 : (241 : Int) ≤ (c : Int) := by omega
      have q1 : ¬ (c : Int) ≤ 223 := by omega
      have q2 : ¬ (c : Int) ≤ 239 := by omega
      have q3 : ¬ (c : Int) ≤ 243 := by omega
      clear q
      go_enter Tryz.func113, Tryz.ntmps113
      go_wp2
      go_ret3
      exact ⟨rfl, rfl⟩
theorem okT_short (n lo hi : Nat) (t : List UInt8) (h : t.length < n) : okT n lo hi t = false := by
  induction n generalizing lo hi t with
  | zero => omega
  | succ n ih =>
    cases t with
    | nil => rfl
    | cons c t =>
      rw [okT, ih 128 191 t (by simp at h; omega)]
      simp
theorem okT_get (n lo hi : Nat) (t : List UInt8) (j : Nat) (h : j < t.length) : okT (n + 1) lo hi (t.drop j) = (decide (lo ≤ t[j].toNat ∧ t[j].toNat ≤ hi) && okT n 128 191 (t.drop (j + 1))) := by
  rw [List.drop_eq_getElem_cons h, okT]
/-- What is well-formed from a place on. -/
def fAt (l : List UInt8) (i : Nat) : Bool := formed (l.drop i)
/-- Are the bytes behind a place's as they must be? -/
def tAt (l : List UInt8) (i n lo hi : Nat) : Bool := okT n lo hi (l.drop i)
theorem tAt_short (l : List UInt8) (i n lo hi : Nat) (h : l.length < i + n) (h0 : i ≤ l.length) : tAt l i n lo hi = false := okT_short _ _ _ _ (by rw [List.length_drop]; omega)
theorem tAt_step (l : List UInt8) (i n lo hi : Nat) (h : i < l.length) : tAt l i (n + 1) lo hi = (decide (lo ≤ l[i].toNat ∧ l[i].toNat ≤ hi) && tAt l (i + 1) n 128 191) := okT_get n lo hi l i h
theorem drop_ne (l : List UInt8) (i : Nat) (h : i < l.length) : l.drop i ≠ [] := fun e => by have := List.drop_eq_nil_iff.1 e; omega
theorem fAt_none (l : List UInt8) (i : Nat) (h : i < l.length) (h0 : (tl l[i].toNat).1 = 0) : fAt l i = false := by
  unfold fAt
  rw [formed_step _ (drop_ne l i h), List.drop_eq_getElem_cons h]
  simp [oneW, h0]
theorem fAt_bad (l : List UInt8) (i n : Nat) (h : i < l.length) (h0 : (tl l[i].toNat).1 = n + 1) (h1 : tAt l (i + 1) n (tl l[i].toNat).2.1 (tl l[i].toNat).2.2 = false) : fAt l i = false := by
  unfold fAt
  unfold tAt at h1
  rw [formed_step _ (drop_ne l i h), List.drop_eq_getElem_cons h]
  simp [oneW, h0, h1]
theorem fAt_good (l : List UInt8) (i n : Nat) (h : i < l.length) (h0 : (tl l[i].toNat).1 = n + 1) (h1 : tAt l (i + 1) n (tl l[i].toNat).2.1 (tl l[i].toNat).2.2 = true) : fAt l i = fAt l (i + 1 + n) := by
  have e : oneW (l.drop i) = n + 1 := by
    rw [List.drop_eq_getElem_cons h]
    unfold tAt at h1
    simp [oneW, h0, h1]
  unfold fAt
  rw [formed_step _ (drop_ne l i h), e, List.drop_drop]
  simp [Nat.add_assoc, Nat.add_comm 1 n]
theorem tl_le (c : Nat) : (tl c).1 ≤ 4 ∧ (tl c).2.1 < 256 ∧ (tl c).2.2 < 256 := by
  rcases tl_cases c with ⟨e, _⟩ | ⟨e, _⟩ | ⟨e, _⟩ | ⟨e, _⟩ | ⟨e, _⟩ | ⟨e, _⟩ | ⟨e, _⟩ | ⟨e, _⟩ | ⟨e, _⟩
  all_goals rw [e]; decide

/-- Yes or no is answered, the world is as it was. -/
def PureBool (b : Bool) (w : World) (e : Ending) (w' : World) : Prop := e = .returned (.bool b) ∧ w' = w
def FormedRel (l : List UInt8) (v : Value) : Prop := ∃ i, i ≤ l.length ∧ v = .int .i64 (i : Int) ∧ fAt l i = formed l
def TailRel (l : List UInt8) (i n : Nat) (V : Bool) (a b c : Value) : Prop :=
  ∃ k lo hi : Nat, 1 ≤ k ∧ k ≤ n + 1 ∧ lo < 256 ∧ hi < 256 ∧ a = .int .u8 (lo : Int) ∧ b = .int .u8 (hi : Int) ∧ c = .int .i64 (k : Int) ∧ tAt l (i + k) (n + 1 - k) lo hi = V
set_option maxHeartbeats 4000000 in
set_option maxRecDepth 100000 in
theorem formed_any (l : List UInt8) (w : World) (hl : l.length ≤ 1000) : Calls Tryz.prog 87 #[.string (bs l)] w (PureBool (formed l) w) := by
  have hsz := bs_size l
  go_enter Tryz.func87, Tryz.ntmps87
  go_wp2_with fail
  go_loop [3] (FormedRel l) (fun a => l.length - (intOf a).toNat)
  case atStart => exact ⟨0, Nat.zero_le _, rfl, rfl⟩
  case round =>
    obtain ⟨i, hi, rfl, he⟩ := hrel
    have HE := hide he
    clear he
    by_cases hlt : i < l.length
    · have hx := at_bs l i hlt
      have hc := tails_any l[i].toNat w l[i].toNat_lt
      have hb := tl_le l[i].toNat
      have F0 := hide (fAt_none l i hlt)
      have F1 := hide (fun n => fAt_bad l i n hlt)
      have F2 := hide (fun n => fAt_good l i n hlt)
      revert hx hc hb F0 F1 F2
      generalize l[i].toNat = c
      intro hx hc hb F0 F1 F2
      by_cases h0 : (tl c).1 = 0
      · have e := hide (show formed l = false by rw [← HE.out]; exact F0.out h0)
        clear F0 F1 F2 HE
        go_wp2_with fail
        refine hc.mono ?_
        rintro e w' ⟨rfl, rfl⟩
        rw [h0]
        go_wp2
        go_ret
        exact ⟨ret_bool e.out.symm, rfl⟩
      · obtain ⟨n, hn⟩ : ∃ n, (tl c).1 = n + 1 := ⟨(tl c).1 - 1, by omega⟩
        have G1 := hide (F1.out n hn)
        have G2 := hide (F2.out n hn)
        have e1 : ((tl c).1 : Int) - 1 = (n : Int) := by omega
        have hcc : Calls Tryz.prog 113 #[.int .u8 (c : Int)] w fun e w' => e = .returned (.tuple #[.int .i64 (n : Int), .int .u8 ((tl c).2.1 : Int), .int .u8 ((tl c).2.2 : Int)]) ∧ w' = w := by
          rw [← e1]
          exact hc
        have hn4 : n ≤ 3 := by omega
        clear hc F0 F1 F2 h0 hn e1
        obtain ⟨hb0, hb1, hb2⟩ := hb
        clear hb0
        revert hcc G1 G2 hb1 hb2
        generalize (tl c).2.1 = lo
        generalize (tl c).2.2 = hi'
        intro G1 G2 hcc hb1 hb2
        go_wp2_with fail
        refine hcc.mono ?_
        rintro e w' ⟨rfl, rfl⟩
        clear hcc
        by_cases hfit : i + n < l.length
        · have hf1 : (i : Int) + (n : Int) < (l.length : Int) := by omega
          obtain ⟨V, hV⟩ : ∃ V, tAt l (i + 1) n lo hi' = V := ⟨_, rfl⟩
          rw [hV] at G1 G2
          have HV := hide hV
          clear hV
          go_wp2_with fail
          go_loop [5, 6, 7] (TailRel l i n V) (fun _ _ k => n + 1 - (intOf k).toNat)
          case atStart => exact ⟨1, lo, hi', Nat.le_refl _, by omega, hb1, hb2, rfl, rfl, rfl, HV.out⟩
          case round =>
            obtain ⟨k, lo1, hi1, hk1, hk2, hlo, hhi, rfl, rfl, rfl, ht⟩ := hrel
            have HT := hide ht
            clear ht
            by_cases hk : k ≤ n
            · have hik : i + k < l.length := by omega
              have hst := tAt_step l (i + k) (n - k) lo1 hi1 hik
              rw [show n - k + 1 = n + 1 - k by omega, HT.out] at hst
              obtain ⟨x, ex⟩ : ∃ x : UInt8, l[i + k] = x := ⟨_, rfl⟩
              obtain ⟨d, ed⟩ : ∃ d : Nat, x.toNat = d := ⟨_, rfl⟩
              have hx2 : ∀ h, ((bs l)[i + k]'h).toNat = d := fun h => by rw [bs_get l (i + k) h, ← ed]; exact congrArg _ ex
              have hd : d < 256 := by rw [← ed]; exact x.toNat_lt
              rw [ex, ed] at hst
              clear ex ed
              by_cases h1 : lo1 ≤ d
              · have h1i : ¬ (d : Int) < (lo1 : Int) := by omega
                by_cases h2 : d ≤ hi1
                · have h2i : ¬ (hi1 : Int) < (d : Int) := by omega
                  have HS := hide (show tAt l (i + (k + 1)) (n + 1 - (k + 1)) 128 191 = V by rw [hst, decide_eq_true ⟨h1, h2⟩, Bool.true_and, Nat.add_assoc, show n + 1 - (k + 1) = n - k by omega])
                  clear hst h1 h2 HT G1 G2 HE HV
                  go_wp2_with fail
                  refine ⟨⟨k + 1, 128, 191, by omega, by omega, by omega, by omega, rfl, rfl, by go_num, HS.out⟩, ?_⟩
                  simp [intOf]
                  omega
                · have h2i : (hi1 : Int) < (d : Int) := by omega
                  have e := hide (show formed l = false by rw [← HE.out]; exact G1.out (by rw [hst, decide_eq_false (by omega)]; rfl))
                  clear hst h1 h2 HT G1 G2 HE HV
                  go_wp2
                  go_ret
                  exact ⟨ret_bool e.out.symm, rfl⟩
              · have h1i : (d : Int) < (lo1 : Int) := by omega
                have e := hide (show formed l = false by rw [← HE.out]; exact G1.out (by rw [hst, decide_eq_false (by omega)]; rfl))
                clear hst h1 HT G1 G2 HE HV
                go_wp2
                go_ret
                exact ⟨ret_bool e.out.symm, rfl⟩
            · have hk3 : k = n + 1 := by omega
              subst hk3
              have hVt : V = true := by rw [← HT.out, Nat.sub_self]; rfl
              have HS := hide (show fAt l (i + 1 + n) = formed l by rw [← G2.out hVt]; exact HE.out)
              clear HT G1 G2 HE HV hVt
              go_wp2_with fail
              refine ⟨⟨i + 1 + n, by omega, by go_num, HS.out⟩, ?_⟩
              simp [intOf]
              omega
        · have e := hide (show formed l = false by rw [← HE.out]; exact G1.out (tAt_short l (i + 1) n lo hi' (by omega) (by omega)))
          clear HE G1 G2
          go_wp2
          go_ret
          exact ⟨ret_bool e.out.symm, rfl⟩
    · have hi2 : i = l.length := by omega
      subst hi2
      have e := hide (show formed l = true by rw [← HE.out]; unfold fAt; rw [List.drop_length]; rfl)
      go_wp2
      go_ret
      exact ⟨ret_bool e.out.symm, rfl⟩
end Go.Proofs.YtimfeocaghccdaaGreatDoor
