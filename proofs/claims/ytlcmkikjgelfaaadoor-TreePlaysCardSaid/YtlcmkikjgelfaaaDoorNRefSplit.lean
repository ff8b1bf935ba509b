/-
  The document's Split and Join: they answer as the plain functions say; nothing that was there is changed. Conditions: texts of at most a thousand bytes.
-/
import Derived.Test.YtlcmkikjgelfaaaDoorNSplit
import Derived.Laws.AppendOwn
import Derived.Deep.CutRange
namespace Go.Proofs.YtlcmkikjgelfaaaDoor
set_option maxRecDepth 100000
open Go.RowKit Go.Shelf
set_option linter.unusedVariables false

def JoinRel2 (ls : List (List UInt8)) (a b : Value) : Prop :=
  ∃ i, i ≤ ls.length ∧ b = .int .i64 (i : Int) ∧ a = .string (bs (J (ls.take i))) ∧ (J (ls.take i)).length ≤ 400 ∧ (ls.take i).all right = true
theorem join_step (ls : List (List UInt8)) (i : Nat) (h : i < ls.length) : bs (J (ls.take i)) ++ { data := #[47] } ++ bs ls[i] = bs (J (ls.take (i + 1))) := by
  have e : ({ data := #[47] } : ByteArray) = bs [47] := rfl
  rw [e, bs_add, bs_add, List.take_succ_eq_append_getElem h, J_append]
  congr 1
  simp [J]
theorem empty_bs : ({ data := #[] } : ByteArray) = bs [] := rfl
/-- A part of a text. -/
def piece (l : List UInt8) (a b : Nat) : List UInt8 := (l.drop a).take (b - a)
theorem piece_self (l : List UInt8) (a : Nat) : piece l a a = [] := by simp [piece]
theorem piece_step (l : List UInt8) (a b : Nat) (h : a ≤ b) (hb : b < l.length) : piece l a (b + 1) = piece l a b ++ [l[b]] := by
  unfold piece
  rw [show b + 1 - a = (b - a) + 1 by omega, List.take_succ_eq_append_getElem (by rw [List.length_drop]; omega), List.getElem_drop]
  congr 2
  simp only [show a + (b - a) = b by omega]
theorem piece_cut (l : List UInt8) (a b : Nat) (h : a ≤ b) (hb : b < l.length) (h47 : l[b] = 47) : l.drop a = piece l a b ++ 47 :: l.drop (b + 1) := by
  unfold piece
  conv => lhs; rw [← List.take_append_drop (b - a) (l.drop a)]
  rw [List.drop_drop, show a + (b - a) = b by omega, List.drop_eq_getElem_cons hb, h47]
theorem piece_end (l : List UInt8) (a : Nat) : piece l a l.length = l.drop a := by
  unfold piece
  rw [List.take_of_length_le (by rw [List.length_drop]; omega)]
theorem piece_len (l : List UInt8) (a b : Nat) : (piece l a b).length ≤ b - a := by
  unfold piece
  rw [List.length_take]
  omega
/-- Where the document's loop stands. -/
inductive Stand (l t : List UInt8) (i fr : Nat) (done : List (List UInt8)) : Prop
  | on (h1 : 1 ≤ fr) (h2 : fr ≤ i) (h3 : i ≤ l.length) (h4 : 47 ∉ piece l fr i) (h5 : splitS t = done ++ splitS (l.drop fr)) : Stand l t i fr done
  | off (h1 : i = l.length + 1) (h2 : fr = l.length + 1) (h5 : splitS t = done) : Stand l t i fr done
theorem Stand.go {l t : List UInt8} {i fr : Nat} {done : List (List UInt8)} (h1 : 1 ≤ fr) (h2 : fr ≤ i) (h3 : i < l.length) (h4 : 47 ∉ piece l fr i) (h5 : splitS t = done ++ splitS (l.drop fr)) (hx : l[i] ≠ 47) : Stand l t (i + 1) fr done := by
  refine .on h1 (by omega) (by omega) ?_ h5
  rw [piece_step l fr i h2 h3, List.mem_append, List.mem_singleton, not_or]
  exact ⟨h4, fun e => hx e.symm⟩
theorem Stand.cut {l t : List UInt8} {i fr : Nat} {done : List (List UInt8)} (h1 : 1 ≤ fr) (h2 : fr ≤ i) (h3 : i < l.length) (h4 : 47 ∉ piece l fr i) (h5 : splitS t = done ++ splitS (l.drop fr)) (hx : l[i] = 47) :
    Stand l t (i + 1) (i + 1) (done ++ [piece l fr i]) := by
  refine .on (by omega) (Nat.le_refl _) (by omega) (by rw [piece_self]; simp) ?_
  rw [h5, piece_cut l fr i h2 h3 hx, splitS_app, splitS_free _ h4, List.append_assoc]
theorem Stand.stop {l t : List UInt8} {fr : Nat} {done : List (List UInt8)} (h2 : fr ≤ l.length) (h4 : 47 ∉ piece l fr l.length) (h5 : splitS t = done ++ splitS (l.drop fr)) :
    Stand l t (l.length + 1) (l.length + 1) (done ++ [piece l fr l.length]) := by
  refine .off rfl rfl ?_
  rw [piece_end] at h4 ⊢
  rw [h5, splitS_free _ h4]
theorem Stand.mem {l t : List UInt8} {i fr : Nat} {done : List (List UInt8)} {x : List UInt8} (h : Stand l t i fr (done ++ [x])) : x ∈ splitS t := by
  cases h with
  | on h1 h2 h3 h4 h5 => rw [h5]; simp
  | off h1 h2 h5 => rw [h5]; simp
theorem Stand.count {l t : List UInt8} {i fr : Nat} {done : List (List UInt8)} (h : Stand l t i fr done) : done.length ≤ (splitS t).length := by
  cases h with
  | on h1 h2 h3 h4 h5 => rw [h5]; simp
  | off h1 h2 h5 => rw [h5]; exact Nat.le_refl _
/-- Texts as values. -/
def tv (ls : List (List UInt8)) : List Value := ls.map fun x => Value.string (bs x)
theorem tv_append (a b : List (List UInt8)) : tv (a ++ b) = tv a ++ tv b := by simp [tv]
theorem strinfo : (Tryd.prog.info? 9).map (fun i => (i.zero, i.size, i.bytes)) = some (some (.string ByteArray.empty), 1, 16) := by kernel_rfl
theorem Tx.of_own {w : World} {base : Nat} {v : Value} {ls : List (List UInt8)} (h : w.ownsRow base 9 1 v ls.length (tv ls)) : Tx w v ls := by
  rcases h.2 with ⟨rfl, h0⟩ | ⟨g, cap, cur, rfl, _, hg, hn, hm, hs, ht⟩
  · rw [List.eq_nil_of_length_eq_zero h0]
    exact Tx.nil w
  · refine ⟨_, cap, rfl, hn, hm, .inr ⟨g, 0, rfl, fun j hj => ?_⟩⟩
    rw [Nat.zero_add, cell_of_row w g j cur _ (0, 0) hg]
    have e : (tv ls)[j]? = some (.string (bs ls[j])) := by simp [tv, hj]
    rw [← ht, List.getElem?_take, if_pos (by omega)] at e
    simpa using e
theorem cell_newS (wr : World) (x : List UInt8) :
    ∀ j u, (tv [x])[j]? = some u → (wr.alloc (.cells #[.string (bs x)] 9)).cell? ((⟨wr.heap.size, 0, none⟩ : Addr).add j) = some u := by
  intro j u hu
  rcases j with _ | j
  · simp [tv] at hu
    subst hu
    exact (cell_one_new _ _ _) 0 _ rfl
  · simp [tv] at hu
theorem tv_one (ls : List (List UInt8)) : ∀ u ∈ tv ls, u.oneCell' = true := by
  intro u hu
  obtain ⟨_, _, rfl⟩ := List.mem_map.1 hu
  rfl
def SplitRel2 (w : World) (l t : List UInt8) (a b c : Value) (wr : World) : Prop :=
  ∃ i fr done, b = .int .i64 ((fr : Nat) : Int) ∧ c = .int .i64 ((i : Nat) : Int) ∧ i ≤ l.length + 1 ∧ fr ≤ i ∧ Stand l t i fr done ∧ done.all right = true ∧ wr.ownsRow w.heap.size 9 1 a done.length (tv done) ∧ Below w.heap.size w wr
theorem splitP_over (l : List UInt8) (h : 400 < l.length) : splitP l = none := by
  unfold splitP
  rw [if_neg (by intro e; subst e; simp at h), if_neg (by rintro ⟨e, _⟩; omega)]
theorem mem_bad (ls : List (List UInt8)) (x : List UInt8) (h : x ∈ ls) (hb : right x = false) : ls.all right = false := by
  cases hq : ls.all right with
  | false => rfl
  | true =>
    have := List.all_eq_true.1 hq x h
    rw [hb] at this
    cases this
set_option maxHeartbeats 4000000 in
set_option maxRecDepth 100000 in
theorem refSplit_any (l : List UInt8) (w : World) (hl : l.length ≤ 1000) : Calls Tryd.prog 48 #[.string (bs l)] w (SplitRet w (splitP l)) := by
  have hm : maxLen = 9223372036854775807 := rfl
  have hsz := bs_size l
  by_cases h0 : l = []
  · subst h0
    go_enter Tryd.func48, Tryd.ntmps48
    go_wp2
    go_ret2
    exact ⟨_, rfl, Tx.nil _, Below.refl _ _⟩
  · have hp := List.length_pos_iff.2 h0
    have hz : ((l.length : Int) == 0) = false := by simp only [beq_eq_false_iff_ne, ne_eq]; omega
    by_cases h4 : 400 < l.length
    · have h4i : (400 : Int) < (l.length : Int) := by omega
      have E := hide (splitP_over l h4)
      go_enter Tryd.func48, Tryd.ntmps48
      go_wp2
      go_ret2
      rw [E.out]
      exact ⟨_, rfl, Tx.nil _, Below.refl _ _⟩
    · have h4i : ¬ (400 : Int) < (l.length : Int) := by omega
      obtain ⟨x, ex⟩ : ∃ x : UInt8, l[0] = x := ⟨_, rfl⟩
      obtain ⟨d, ed⟩ : ∃ d : Nat, x.toNat = d := ⟨_, rfl⟩
      have hx2 : ∀ h, ((bs l)[0]'h).toNat = d := fun h => by rw [bs_get l 0 h, ← ed]; exact congrArg _ ex
      have hhd : l.head? = some x := by rw [← ex, List.head?_eq_getElem?, List.getElem?_eq_getElem hp]
      by_cases h47 : d = 47
      · have hx47 : x = 47 := UInt8.toNat_inj.1 (by rw [ed, h47]; rfl)
        subst h47
        rw [hx47] at hhd
        obtain ⟨t, hlt⟩ : ∃ t, l = 47 :: t := by
          cases l with
          | nil => cases hhd
          | cons c t => injection hhd with hhd; subst hhd; exact ⟨t, rfl⟩
        by_cases h1 : l.length = 1
        · have ht : t = [] := by rw [hlt] at h1; simpa using h1
          have E := hide (show splitP l = some [] by rw [hlt, ht]; rfl)
          have h1i : ((l.length : Int) == 1) = true := by rw [h1]; rfl
          clear hlt ex ed hhd
          go_enter Tryd.func48, Tryd.ntmps48
          go_wp2
          go_ret2
          rw [E.out]
          exact ⟨_, rfl, Tx.nil _, Below.refl _ _⟩
        · have h1i : ((l.length : Int) == 1) = false := by simp only [beq_eq_false_iff_ne, ne_eq]; omega
          have ht : t ≠ [] := fun e => h1 (by rw [hlt, e]; rfl)
          have hsn := splitS_len t
          have htl : t.length < 400 := by rw [hlt, List.length_cons] at h4; omega
          have S1 := hide (show (splitS t).all right = false → splitP l = none by rw [hlt]; exact splitP_bad t ht)
          have S2 := hide (show (splitS t).all right = true → splitP l = some (splitS t) by rw [hlt]; exact splitP_good t ht (by rw [← hlt]; omega))
          have D1 := hide (show l.drop 1 = t by rw [hlt]; rfl)
          clear hlt ex ed hhd hx47
          obtain ⟨i0, hi0, hz0, hz1, hz2⟩ := info_parts strinfo
          go_enter Tryd.func48, Tryd.ntmps48
          go_wp2_with fail
          go_loopw [4, 5, 6] (SplitRel2 w l t) (fun _ _ k _ => l.length + 1 - (intOf k).toNat)
          case atStart => exact ⟨1, 1, [], rfl, rfl, by omega, Nat.le_refl _, .on (Nat.le_refl _) (Nat.le_refl _) (by omega) (by rw [piece_self]; simp) (by rw [D1.out]; rfl), rfl, World.ownsRow_nil _ _ _ _, Below.refl _ _⟩
          case round =>
            obtain ⟨i, fr, done, rfl, rfl, hi, hfr, hst, hal, hown, hbw⟩ := hrel
            have OW := hide hown
            have HB := hide hbw
            have HA := hide hal
            have hdn := hst.count
            clear hown hbw hal hx2
            cases hst with
            | off e1 e2 e3 =>
              subst e1 e2
              have E := hide (S2.out (by rw [e3]; exact HA.out))
              rw [e3] at E
              clear e3 HA
              go_wp2
              go_ret2
              rw [E.out]
              exact ⟨_, rfl, Tx.of_own OW.out, HB.out⟩
            | on e1 e2 e3 e4 e5 =>
              have fri : (fr : Int) ≤ (i : Int) := by omega
              by_cases hil : i < l.length
              · obtain ⟨y, ey⟩ : ∃ y : UInt8, l[i] = y := ⟨_, rfl⟩
                obtain ⟨d, ed⟩ : ∃ d : Nat, y.toNat = d := ⟨_, rfl⟩
                have hx3 : ∀ h, ((bs l)[i]'h).toNat = d := fun h => by rw [bs_get l i h, ← ed]; exact congrArg _ ey
                by_cases h47 : d = 47
                · have NX := hide (Stand.cut e1 e2 hil e4 e5 (by rw [ey]; exact UInt8.toNat_inj.1 (by rw [ed, h47]; rfl)))
                  subst h47
                  clear ed ey
                  have he : (bs l).extract fr i = bs (piece l fr i) := bs_extract l fr i
                  have hpl := piece_len l fr i
                  have U1 := hide (fun hb => S1.out (mem_bad _ _ NX.out.mem hb))
                  have UC := NX.out.count
                  clear e1 e4 e5
                  revert he hpl U1 UC NX
                  generalize piece l fr i = x
                  intro NX he hpl U1 UC
                  rw [List.length_append] at UC
                  go_wp2_with fail
                  refine (refRight_any x wr (by omega)).mono ?_
                  rintro e w3 ⟨rfl, rfl⟩
                  rcases hrt : right x with _ | _
                  · have E := hide (U1.out hrt)
                    clear hrt U1
                    go_wp2
                    go_ret2
                    rw [E.out]
                    exact ⟨_, rfl, Tx.nil _, HB.out⟩
                  · have hs3 := HB.out.size
                    have HR := hide hrt
                    clear hrt U1
                    go_wp2_with (at_builtin; refine wpList_append_own _ rfl _ _ 77 rfl w.heap.size 9 i0 (.string ByteArray.empty) 1 16 Tryd.underlying77 hi0 hz0 hz1 hz2 rfl (by decide) _ _ _ rfl (OW.out.alloc _) _ _ _ (tv [x]) rfl ?a1 ?a2 ?a3 ?a4 ?a5 ?a6 ?_)
                    case a1 => rfl
                    case a2 => exact cell_newS _ x
                    case a3 => exact tv_one _
                    case a4 => simp only [maxLen]; simp at UC; omega
                    case a5 => simp at UC; omega
                    case a6 => simp; omega
                    intro v1 w1 hown1 hg1 hn1
                    have O1 := hide hown1
                    have B1 := hide ((HB.out.alloc hs3 _).grown hg1 (by simp; omega) (fun q hq => (OW.out.lt q hq).1))
                    clear hown1 hg1 hn1 OW HB hs3
                    go_wp2_with fail
                    refine ⟨⟨i + 1, i + 1, done ++ [x], by go_num, by go_num, by omega, Nat.le_refl _, NX.out, ?_, ?_, B1.out⟩, ?_⟩
                    · rw [List.all_append, HA.out]
                      simp [HR.out]
                    · rw [tv_append, List.length_append]
                      exact O1.out
                    · simp [intOf]
                      omega
                · have h47i : ((d : Int) == 47) = false := by simp only [beq_eq_false_iff_ne, ne_eq]; omega
                  have NX := hide (Stand.go e1 e2 hil e4 e5 (by rw [ey]; intro e; subst e; exact h47 ed.symm))
                  clear e4 e5 ed ey
                  go_wp2_with fail
                  refine ⟨⟨i + 1, fr, done, rfl, by go_num, by omega, by omega, NX.out, HA.out, OW.out, HB.out⟩, ?_⟩
                  simp [intOf]
                  omega
              · have hil2 : i = l.length := by omega
                have NX := hide (Stand.stop (l := l) (fr := fr) (by omega) (by rw [← hil2]; exact e4) e5)
                rw [← hil2] at NX
                have hil3 : ¬ (i : Int) < (l.length : Int) := by omega
                clear hil2
                have he : (bs l).extract fr i = bs (piece l fr i) := bs_extract l fr i
                have hpl := piece_len l fr i
                have U1 := hide (fun hb => S1.out (mem_bad _ _ NX.out.mem hb))
                have UC := NX.out.count
                clear e1 e4 e5
                revert he hpl U1 UC NX
                generalize piece l fr i = x
                intro NX he hpl U1 UC
                rw [List.length_append] at UC
                go_wp2_with fail
                refine (refRight_any x wr (by omega)).mono ?_
                rintro e w3 ⟨rfl, rfl⟩
                rcases hrt : right x with _ | _
                · have E := hide (U1.out hrt)
                  clear hrt U1
                  go_wp2
                  go_ret2
                  rw [E.out]
                  exact ⟨_, rfl, Tx.nil _, HB.out⟩
                · have hs3 := HB.out.size
                  have HR := hide hrt
                  clear hrt U1
                  go_wp2_with (at_builtin; refine wpList_append_own _ rfl _ _ 77 rfl w.heap.size 9 i0 (.string ByteArray.empty) 1 16 Tryd.underlying77 hi0 hz0 hz1 hz2 rfl (by decide) _ _ _ rfl (OW.out.alloc _) _ _ _ (tv [x]) rfl ?a1 ?a2 ?a3 ?a4 ?a5 ?a6 ?_)
                  case a1 => rfl
                  case a2 => exact cell_newS _ x
                  case a3 => exact tv_one _
                  case a4 => simp only [maxLen]; simp at UC; omega
                  case a5 => simp at UC; omega
                  case a6 => simp; omega
                  intro v1 w1 hown1 hg1 hn1
                  have O1 := hide hown1
                  have B1 := hide ((HB.out.alloc hs3 _).grown hg1 (by simp; omega) (fun q hq => (OW.out.lt q hq).1))
                  clear hown1 hg1 hn1 OW HB hs3
                  go_wp2_with fail
                  refine ⟨⟨i + 1, i + 1, done ++ [x], by go_num, by go_num, by omega, Nat.le_refl _, NX.out, ?_, ?_, B1.out⟩, ?_⟩
                  · rw [List.all_append, HA.out]
                    simp [HR.out]
                  · rw [tv_append, List.length_append]
                    exact O1.out
                  · simp [intOf]
                    omega
      · have h47i : ((d : Int) == 47) = false := by simp only [beq_eq_false_iff_ne, ne_eq]; omega
        have E := hide (splitP_head l (by rw [hhd]; intro e; injection e with e; subst e; exact h47 ed.symm))
        clear ex ed hhd
        go_enter Tryd.func48, Tryd.ntmps48
        go_wp2
        go_ret2
        rw [E.out]
        exact ⟨_, rfl, Tx.nil _, Below.refl _ _⟩
end Go.Proofs.YtlcmkikjgelfaaaDoor
