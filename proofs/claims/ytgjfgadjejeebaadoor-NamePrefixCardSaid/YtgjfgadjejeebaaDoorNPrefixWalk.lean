/-
  The walk of the law NamePrefix: it answers true at every input, and changes nothing that was there. Conditions: Env (the library's variables).
-/
import Derived.Test.YtgjfgadjejeebaaDoorNAwake
import Derived.Test.YtgjfgadjejeebaaDoorNLongPure
namespace Go.Proofs.YtgjfgadjejeebaaDoor
open Go.RowKit Go.Shelf
set_option linter.unusedVariables false

/-- Where the first loop stands. -/
def AheadRel (w : World) (l : List UInt8) (v : Value) (wr : World) : Prop := ∃ i, 1 ≤ i ∧ i ≤ l.length ∧ v = .int .i64 ((i : Nat) : Int) ∧ Below w.heap.size w wr
/-- Where the second loop stands: what is left of the path. -/
def LeftRel (w : World) (L : List (List UInt8)) (a b : Value) (wr : World) : Prop := ∃ k, k ≤ L.length ∧ b = .int .i64 ((k : Nat) : Int) ∧ a = .string (bs (pathOf (L.take (L.length - k)))) ∧ Below w.heap.size w wr
theorem left_step (l : List UInt8) (L : List (List UInt8)) (h : splitP l = some L) (k : Nat) (hk : k < L.length) :
    ∃ x, cutP (pathOf (L.take (L.length - k))) = some (pathOf (L.take (L.length - (k + 1))), x) ∧ (pathOf (L.take (L.length - k))).length ≤ 400 := by
  have h1 := split_take l L h (L.length - k)
  have hj : L.length - (k + 1) < L.length := by omega
  have e : L.take (L.length - k) = L.take (L.length - (k + 1)) ++ [L[L.length - (k + 1)]] := by
    rw [show L.length - k = (L.length - (k + 1)) + 1 by omega, List.take_succ_eq_append_getElem hj]
  refine ⟨L[L.length - (k + 1)], ?_, (splitP_some _ _ h1).2.2.1⟩
  refine cut_some _ _ _ ?_
  rw [h1, e]
set_option maxHeartbeats 4000000 in
set_option maxRecDepth 100000 in
theorem nPrefix_in (l : List UInt8) (w : World) (hl : l.length ≤ maxLen) (hE : Env w) : Calls Tryd.prog 8 #[.string (bs l)] w (TrueRet w) := by
  have hm : maxLen = 9223372036854775807 := rfl
  have hsz := bs_size l
  have EN := hide hE
  clear hE
  go_enter Tryd.func8, Tryd.ntmps8
  go_wp2_with fail
  refine (awake_any w EN.out).mono ?_
  rintro e w1 ⟨rfl, hb⟩
  have B1 := hide hb
  have s1 := hb.size
  clear hb
  by_cases h5 : 500 < l.length
  · have h5i : (500 : Int) < (l.length : Int) := by omega
    go_wp2
    go_ret
    exact ⟨rfl, B1.out⟩
  · have h5i : ¬ (500 : Int) < (l.length : Int) := by omega
    go_wp2_with fail
    refine (split_any l w1 (by omega) (EN.out.below B1.out)).mono ?_
    rintro e w2 ⟨v2, rfl, htx, hb⟩
    have T2 := hide htx
    have B2 := hide (B1.out.trans (hb.mono s1))
    clear hb htx B1 s1
    cases hsp : splitP l with
    | none =>
      rw [hsp] at T2
      clear hsp
      rw [errN_none]
      obtain ⟨A, c, rfl, -, -, -⟩ := (show Tx w2 v2 [] from T2.out)
      clear T2
      go_wp2
      go_ret
      exact ⟨rfl, B2.out⟩
    | some L =>
      rw [hsp] at T2
      rw [errN_some]
      obtain ⟨A, c, rfl, -, -, -⟩ := (show Tx w2 v2 L from T2.out)
      have hL4 := split_count l L hsp
      have hp : 1 ≤ l.length := by
        rcases Nat.eq_zero_or_pos l.length with h | h
        · have e : l = [] := List.length_eq_zero_iff.1 h
          subst e
          cases hsp
        · exact h
      have hpath := (splitP_some l L hsp).1
      have HS := hide hsp
      have HP := hide hpath
      clear hsp hpath T2
      go_wp2_with fail
      go_loopw [6] (AheadRel w l) (fun k _ => l.length - (intOf k).toNat)
      case atStart => exact ⟨1, Nat.le_refl _, hp, rfl, B2.out⟩
      case round =>
        obtain ⟨i, hi1, hi2, rfl, hb⟩ := hrel
        have HB := hide hb
        have s3 := hb.size
        clear hb
        by_cases hlt : i < l.length
        · obtain ⟨y, ey⟩ : ∃ y : UInt8, l[i] = y := ⟨_, rfl⟩
          obtain ⟨d, ed⟩ : ∃ d : Nat, y.toNat = d := ⟨_, rfl⟩
          have hx3 : ∀ h, ((bs l)[i]'h).toNat = d := fun h => by rw [bs_get l i h, ← ed]; exact congrArg _ ey
          by_cases h47 : d = 47
          · obtain ⟨m, hm1, hm2⟩ := split_ahead l L HS.out i hi1 hlt (by rw [ey]; exact UInt8.toNat_inj.1 (by rw [ed, h47]; rfl))
            subst h47
            clear ed ey
            have k3 := split_any (l.take i) wr (by rw [List.length_take]; omega) (EN.out.below HB.out)
            rw [hm1] at k3
            clear hm1
            have he : (bs l).extract 0 i = bs (l.take i) := by rw [bs_extract]; simp
            generalize l.take i = u at k3 he
            have hm3 : ¬ (L.length : Int) ≤ (m.length : Int) := by omega
            go_wp2_with fail
            refine k3.mono ?_
            rintro e w3 ⟨v3, rfl, htx, hb⟩
            obtain ⟨A3, c3, rfl, -, -, -⟩ := (show Tx w3 v3 m from htx)
            have B3 := hide (HB.out.trans (hb.mono s3))
            clear hb htx HB s3 k3
            rw [errN_some]
            go_wp2_with fail
            refine ⟨⟨i + 1, by omega, by omega, by go_num, B3.out⟩, ?_⟩
            simp [intOf]
            omega
          · have h47i : ((d : Int) == 47) = false := by simp only [beq_eq_false_iff_ne, ne_eq]; omega
            clear ed ey
            go_wp2_with fail
            refine ⟨⟨i + 1, by omega, by omega, by go_num, HB.out⟩, ?_⟩
            simp [intOf]
            omega
        · have hlt3 : ¬ (i : Int) < (l.length : Int) := by omega
          go_wp2_with fail
          go_loopw [9, 10] (LeftRel w L) (fun _ k _ => L.length - (intOf k).toNat)
          case atStart => exact ⟨0, Nat.zero_le _, rfl, by rw [Nat.sub_zero, List.take_length, ← HP.out], HB.out⟩
          case round =>
            clear HB s3
            obtain ⟨k, hk, rfl, rfl, hb⟩ := hrel
            have HB := hide hb
            have s3 := hb.size
            clear hb
            by_cases hkl : k < L.length
            · obtain ⟨x, hcut, hul⟩ := left_step l L HS.out k hkl
              have k3 := cut_any (pathOf (L.take (L.length - k))) wr (by omega) (EN.out.below HB.out)
              rw [hcut] at k3
              have k3 : Calls Tryd.prog 17 #[.string (bs (pathOf (L.take (L.length - k))))] wr fun e w' => e = .returned (.tuple #[.string (bs (pathOf (L.take (L.length - (k + 1))))), .string (bs x), .int .i64 0]) ∧ Below wr.heap.size wr w' := k3
              clear hcut hul
              obtain ⟨u2, hu2⟩ : ∃ u2, pathOf (L.take (L.length - (k + 1))) = u2 := ⟨_, rfl⟩
              rw [hu2] at k3
              have HU := hide hu2
              clear hu2
              revert k3
              generalize pathOf (L.take (L.length - k)) = u
              intro k3
              go_wp2_with fail
              refine k3.mono ?_
              rintro e w3 ⟨rfl, hb⟩
              have B3 := hide (HB.out.trans (hb.mono s3))
              clear hb HB s3 k3
              go_wp2_with fail
              refine ⟨⟨k + 1, by omega, by go_num, by rw [HU.out], B3.out⟩, ?_⟩
              simp [intOf]
              omega
            · have e0 : L.length - k = 0 := by omega
              rw [e0, List.take_zero]
              have e1 : bs (pathOf []) = bs [47] := rfl
              rw [e1]
              have hq : ((bs [47]).toList == [47]) = true := by rw [bs_list]; rfl
              clear e0 e1
              go_wp2
              go_ret
              exact ⟨rfl, HB.out⟩
theorem namePrefix_walk (a0 : ByteArray) (w : World) (w0 : a0.size ≤ maxLen) (hE : Env w) : Calls Tryd.prog 8 #[.string a0] w (TrueRet w) := by
  rw [← bs_of a0]
  exact nPrefix_in a0.data.toList w w0 hE
end Go.Proofs.YtgjfgadjejeebaaDoor
