/-
  The program's Join and Cut: they answer names' path, a path cut, or the error; nothing that was there is changed. Conditions: Env (the library's variables), and texts of at most a million bytes.
-/
import Derived.Test.YtgjfgadjejeebaaDoorNSplit
namespace Go.Proofs.YtgjfgadjejeebaaDoor
open Go.RowKit Go.Shelf
set_option linter.unusedVariables false

theorem J_take (ls : List (List UInt8)) (i : Nat) (h : i < ls.length) : (J (ls.take (i + 1))).length = (J (ls.take i)).length + (1 + ls[i].length) := by
  rw [List.take_succ_eq_append_getElem h, J_append, List.length_append]
  simp [J]
  omega
theorem J_take_le (ls : List (List UInt8)) (i : Nat) : (J (ls.take i)).length ≤ (J ls).length := by
  conv => rhs; rw [← List.take_append_drop i ls, J_append, List.length_append]
  omega
theorem J_count (ls : List (List UInt8)) : ls.length ≤ (J ls).length := by
  induction ls with
  | nil => exact Nat.zero_le _
  | cons n ls ih => rw [J_cons]; simp; omega
theorem joinP_long (ls : List (List UInt8)) (h : 400 < (J ls).length) : joinP ls = none := by
  unfold joinP
  rw [if_neg (by rintro ⟨_, e⟩; omega)]
theorem joinP_bad (ls : List (List UInt8)) (h : ls.all right = false) : joinP ls = none := by
  unfold joinP
  rw [if_neg (by rintro ⟨e, _⟩; rw [h] at e; cases e)]
theorem joinP_good (ls : List (List UInt8)) (h : ls.all right = true) (hl : (J ls).length ≤ 400) : joinP ls = some (pathOf ls) := by
  unfold joinP
  rw [if_pos ⟨h, hl⟩]
theorem path_cons (ls : List (List UInt8)) : bs [47] ++ bs (J ls).tail = bs (pathOf ls) := by
  rw [bs_add]
  unfold pathOf
  split
  · rename_i e
    subst e
    rfl
  · rename_i h0
    rw [J_head ls h0]
    rfl
def JoinRel (w : World) (ls : List (List UInt8)) (a b : Value) (wr : World) : Prop :=
  ∃ i z, i ≤ ls.length ∧ b = .int .i64 (i : Int) ∧ a = .int .i64 ((z : Nat) : Int) ∧ z = (J (ls.take i)).length ∧ z ≤ 400 ∧ Below w.heap.size w wr ∧ (ls.take i).all right = true
set_option maxHeartbeats 2000000 in
set_option maxRecDepth 100000 in
theorem join_any (v : Value) (ls : List (List UInt8)) (w : World) (hv : Tx w v ls) (hx : ∀ x ∈ ls, x.length ≤ 1000000) (hE : Env w) : Calls Tryd.prog 15 #[v] w (JoinRet w (joinP ls)) := by
  have hm : maxLen = 9223372036854775807 := rfl
  have EN := hide hE
  have TX := hide hv
  have HX := hide hx
  clear hE hx
  obtain ⟨A, c, rfl, hc, hcm, hcell⟩ := hv
  have C := hide hcell
  clear hcell
  go_enter Tryd.func15, Tryd.ntmps15
  go_wp2_with fail
  go_loopw [4, 9] (JoinRel w ls) (fun _ k _ => ls.length - (intOf k).toNat)
  case atStart => exact ⟨0, 0, Nat.zero_le _, rfl, rfl, rfl, Nat.zero_le _, Below.refl _ _, rfl⟩
  case round =>
    obtain ⟨i, z, hi, rfl, rfl, hz, hz4, hb, ha⟩ := hrel
    have HB := hide hb
    have HA := hide ha
    have HZ := hide hz
    clear hb ha hz
    by_cases hlt : i < ls.length
    · obtain ⟨g, o, rfl, hcell⟩ := C.out.resolve_left (by intro h; rw [h] at hlt; simp at hlt)
      have k1 := hcell i hlt
      have c1 : wr.cell? ⟨g, o + i, none⟩ = some (.string (bs ls[i])) := (HB.out.cell (World.block_lt_of_cell? w _ k1)).trans k1
      have x1 := HX.out ls[i] (List.getElem_mem hlt)
      have T1 := hide (J_take ls i hlt)
      have T2 := hide (J_take_le ls (i + 1))
      have T3 := hide (fun hb => joinP_bad ls (all_at ls i hlt hb))
      have T4 := hide (fun hb : right ls[i] = true => show (ls.take (i + 1)).all right = true by rw [List.take_succ_eq_append_getElem hlt, List.all_append, HA.out]; simp [hb])
      clear k1 hcell HA
      revert c1 x1 T1 T2 T3 T4
      generalize ls[i] = x
      intro c1 x1 T1 T2 T3 T4
      have xz := bs_size x
      by_cases h4 : 400 < z + (1 + x.length)
      · have h4i : (400 : Int) < (z : Int) + (1 + (x.length : Int)) := by omega
        have E := hide (joinP_long ls (by have := T1.out; have := T2.out; have := HZ.out; omega))
        clear T1 T2 T3 T4
        go_wp2
        go_ret2
        rw [E.out]
        exact ⟨rfl, HB.out⟩
      · have h4i : ¬ (400 : Int) < (z : Int) + (1 + (x.length : Int)) := by omega
        go_wp2_with fail
        refine (right_any x wr (by omega) (EN.out.below HB.out)).mono ?_
        rintro e w3 ⟨rfl, hb3⟩
        have B3 := hide (HB.out.trans (hb3.mono HB.out.size))
        clear hb3 HB c1
        rcases hrt : right x with _ | _
        · have E := hide (T3.out hrt)
          clear hrt T1 T2 T3 T4
          go_wp2
          go_ret2
          rw [E.out]
          exact ⟨rfl, B3.out⟩
        · have U := hide (T4.out hrt)
          clear hrt T3 T4
          have eJ := T1.out
          rw [← HZ.out] at eJ
          have EJ := hide eJ
          clear eJ T1
          go_wp2_with fail
          refine ⟨⟨i + 1, z + (1 + x.length), by omega, by go_num, by go_num, EJ.out.symm, by omega, B3.out, U.out⟩, ?_⟩
          simp [intOf]
          omega
    · have e1 : ls.take i = ls := by rw [show i = ls.length by omega, List.take_length]
      have hj : (J ls).length ≤ 400 := by have := HZ.out; rw [e1] at this; omega
      have E := hide (joinP_good ls (by have := HA.out; rwa [e1] at this) hj)
      have hn := J_count ls
      clear e1 HA HZ
      go_wp2_with fail
      refine (lib_join _ ls wr (TX.out.below HB.out) (by omega) (by omega)).mono ?_
      rintro e w3 ⟨rfl, hb3⟩
      have B3 := hide (HB.out.trans (hb3.mono HB.out.size))
      clear hb3 HB
      have P := hide (path_cons ls)
      have hl2 : (J ls).tail.length ≤ 400 := by rw [List.length_tail]; omega
      have hl3 := bs_size (J ls).tail
      revert P hl2 hl3
      generalize (J ls).tail = y
      intro P hl2 hl3
      go_wp2
      go_ret2
      rw [E.out]
      refine ⟨?_, B3.out⟩
      have e : (bs [47] : ByteArray) = { data := #[47] } := rfl
      show _ = Ending.returned (.tuple #[.string (bs (pathOf ls)), .int .i64 0])
      rw [← P.out, e]
      rfl

theorem run_headS (g o n c q : Nat) (hq : q ≤ c) (w : World) :
    (Instr.slice 23 (.slice (some ⟨g, o, none⟩) n c) none (some (.int .i64 (q : Int))) none).run Tryd.prog w = .ok (.slice (some ⟨g, o, none⟩) q c) w := by
  have ht' : Tryd.prog.underlying 23 = some (.slice (Tryd.prog.elem 23)) := by simp [Program.elem, Tryd.underlying23]
  have he : Tryd.prog.elem 23 = 9 := by simp [Program.elem, Tryd.underlying23]
  rw [run_slice_h w _ _ _ _ ht' .i64 _ (by omega) (by omega), he, Tryd.sizeOf9]
  simp [Result.andThen, sliced, Addr.add]
theorem split_short (l : List UInt8) (m : List (List UInt8)) (h : splitP l = some m) : m.all right = true ∧ (J m).length ≤ 400 := by
  obtain ⟨h1, h2, h3, h4⟩ := splitP_some l m h
  refine ⟨h2, ?_⟩
  by_cases h0 : m = []
  · subst h0
    simp [J]
  · rw [h1] at h3
    unfold pathOf at h3
    rwa [if_neg h0] at h3
theorem right_len (x : List UInt8) (h : right x = true) : x.length ≤ 20 := by
  simp only [right, Bool.and_eq_true, decide_eq_true_eq] at h
  exact h.1.2
set_option maxHeartbeats 2000000 in
set_option maxRecDepth 100000 in
theorem cut_any (l : List UInt8) (w : World) (hl : l.length < 4294967281) (hE : Env w) : Calls Tryd.prog 17 #[.string (bs l)] w (CutRet w (cutP l)) := by
  have hm : maxLen = 9223372036854775807 := rfl
  have EN := hide hE
  clear hE
  go_enter Tryd.func17, Tryd.ntmps17
  go_wp2_with fail
  refine (split_any l w hl EN.out).mono ?_
  rintro e w1 ⟨v, rfl, htx, hb⟩
  have B1 := hide hb
  clear hb
  cases hs : splitP l with
  | none =>
    have E := hide (cut_none l hs)
    rw [hs] at htx
    clear hs
    rw [errN_none]
    obtain ⟨A, c, rfl, _, _, _⟩ := htx
    go_wp2
    go_ret3
    rw [E.out]
    exact ⟨rfl, B1.out⟩
  | some m =>
    rw [hs] at htx
    rw [errN_some]
    have htx' : Tx w1 v m := htx
    clear htx
    rcases List.eq_nil_or_concat m with h0 | ⟨m0, x, h0⟩
    · subst h0
      have E := hide (show cutP l = none by unfold cutP; rw [hs]; rfl)
      clear hs
      obtain ⟨A, c, rfl, _, _, _⟩ := htx'
      go_wp2
      go_ret3
      rw [E.out]
      exact ⟨rfl, B1.out⟩
    · rw [List.concat_eq_append] at h0
      subst h0
      have E := hide (cut_some l m0 x hs)
      obtain ⟨q1, q2⟩ := split_short l _ hs
      clear hs
      obtain ⟨A, c, rfl, hc, hcm, hcell⟩ := htx'
      obtain ⟨g, o, hA, hcl⟩ := hcell.resolve_left (by simp)
      subst hA
      clear hcell
      have hx : w1.cell? ⟨g, o + m0.length, none⟩ = some (.string (bs x)) := by
        have := hcl m0.length (by simp)
        simpa using this
      have T0 := hide (show Tx w1 (.slice (some ⟨g, o, none⟩) m0.length c) m0 from ⟨_, c, rfl, by simp at hc; omega, hcm, .inr ⟨g, o, rfl, fun j hj => by
        have := hcl j (by simp; omega)
        simpa [List.getElem_append_left hj] using this⟩⟩)
      have hq : m0.all right = true ∧ (J m0).length ≤ 400 := by
        refine ⟨?_, ?_⟩
        · rw [List.all_append, Bool.and_eq_true] at q1
          exact q1.1
        · rw [J_append, List.length_append] at q2
          omega
      have hj := hide (joinP_good m0 hq.1 hq.2)
      have hx2 := hide (fun y (hy : y ∈ m0) => Nat.le_trans (right_len y (List.all_eq_true.1 hq.1 y hy)) (show 20 ≤ 1000000 by omega))
      have hlen : (m0 ++ [x]).length = m0.length + 1 := by simp
      rw [hlen] at hc ⊢
      have hsl := run_headS g o (m0.length + 1) c m0.length (by omega)
      have hcap : m0.length + 1 ≤ 9223372036854775807 := by omega
      have X1 := hide hx
      clear q1 q2 hq hcl hx hlen
      go_wp2_with fail
      refine (join_any _ m0 w1 T0.out hx2.out (EN.out.below B1.out)).mono ?_
      rintro e w2 ⟨rfl, hb2⟩
      rw [hj.out]
      have B2 := hide (B1.out.trans (hb2.mono B1.out.size))
      have c2 : w2.cell? ⟨g, o + m0.length, none⟩ = some (.string (bs x)) := (hb2.cell (World.block_lt_of_cell? w1 _ X1.out)).trans X1.out
      clear hb2 B1 X1 T0 hj hx2 hsl
      have eu : (some (pathOf m0)).getD [] = pathOf m0 := rfl
      rw [eu, errN_some]
      go_wp2_with fail
      go_region
      go_wp2
      go_ret3
      rw [E.out]
      exact ⟨rfl, B2.out.drew⟩
end Go.Proofs.YtgjfgadjejeebaaDoor
