/-
  The walk of the law NameJoins: it answers true at every input, and changes nothing that was there. Conditions: Env (the library's variables).
-/
import Derived.Test.YtgjfgadjejeebaaDoorNAwake
namespace Go.Proofs.YtgjfgadjejeebaaDoor
open Go.RowKit Go.Shelf
set_option linter.unusedVariables false

def SmallRel (ls : List (List UInt8)) (v : Value) : Prop := ∃ i, i ≤ ls.length ∧ v = .int .i64 (i : Int) ∧ ∀ x ∈ ls.take i, x.length ≤ 100
theorem small_step (ls : List (List UInt8)) (i : Nat) (h : i < ls.length) (hs : ∀ x ∈ ls.take i, x.length ≤ 100) (hx : ls[i].length ≤ 100) : ∀ x ∈ ls.take (i + 1), x.length ≤ 100 := by
  intro x hm
  rw [List.take_succ_eq_append_getElem h, List.mem_append, List.mem_singleton] at hm
  rcases hm with hm | rfl
  · exact hs x hm
  · exact hx
set_option maxHeartbeats 2000000 in
set_option maxRecDepth 100000 in
theorem nJoins_in (A : Option Addr) (c : Nat) (ls : List (List UInt8)) (w : World) (hv : Tx w (.slice A ls.length c) ls) (hx : ∀ x ∈ ls, x.length ≤ maxLen) (hE : Env w) : Calls Tryd.prog 4 #[.slice A ls.length c] w (TrueRet w) := by
  have hm : maxLen = 9223372036854775807 := rfl
  have EN := hide hE
  have TX := hide hv
  have HX := hide hx
  obtain ⟨A', c', heq, hc, hcm, hcell⟩ := hv
  injection heq with e1 _ e2
  subst e1 e2
  clear hE hx hcell
  go_enter Tryd.func4, Tryd.ntmps4
  go_wp2_with fail
  refine (awake_any w EN.out).mono ?_
  rintro e w1 ⟨rfl, hb⟩
  have B1 := hide hb
  have s1 := hb.size
  have T1 := hide (TX.out.below hb)
  clear hb
  by_cases h3 : 30 < ls.length
  · have h3i : (30 : Int) < (ls.length : Int) := by omega
    go_wp2
    go_ret
    exact ⟨rfl, B1.out⟩
  · have h3i : ¬ (30 : Int) < (ls.length : Int) := by omega
    go_wp2_with fail
    go_loop [4] (SmallRel ls) (fun k => ls.length - (intOf k).toNat)
    case atStart => exact ⟨0, Nat.zero_le _, rfl, by simp⟩
    case round =>
      obtain ⟨i, hi, rfl, hs⟩ := hrel
      have HS := hide hs
      clear hs
      by_cases hlt : i < ls.length
      · obtain ⟨A', c', heq, _, _, hcell⟩ := T1.out
        injection heq with e1 _ e2
        subst e1 e2
        obtain ⟨g, o, hA, hcl⟩ := hcell.resolve_left (by intro h; rw [h] at hlt; simp at hlt)
        subst hA
        have c1 := hcl i hlt
        have x1 := HX.out ls[i] (List.getElem_mem hlt)
        have S1 := hide (small_step ls i hlt HS.out)
        clear hcl hcell
        revert c1 x1 S1
        generalize ls[i] = x
        intro c1 x1 S1
        have xz := bs_size x
        by_cases h1 : 100 < x.length
        · have h1i : (100 : Int) < (x.length : Int) := by omega
          go_wp2
          go_ret
          exact ⟨rfl, B1.out⟩
        · have h1i : ¬ (100 : Int) < (x.length : Int) := by omega
          have S2 := hide (S1.out (by omega))
          clear S1
          go_wp2_with fail
          refine ⟨⟨i + 1, by omega, by go_num, S2.out⟩, ?_⟩
          simp [intOf]
          omega
      · have hsm : ∀ x ∈ ls, x.length ≤ 100 := by have := HS.out; rwa [show i = ls.length by omega, List.take_length] at this
        have SM := hide hsm
        clear hsm HS
        go_wp2_with fail
        refine (join_any _ ls w1 T1.out (fun x h => Nat.le_trans (SM.out x h) (by omega)) (EN.out.below B1.out)).mono ?_
        rintro e w2 ⟨rfl, hb⟩
        have T2 := hide (T1.out.below hb)
        have B2 := hide (B1.out.trans (hb.mono s1))
        have s2 := B2.out.size
        clear hb B1 s1 T1
        go_wp2_with fail
        refine (refJoin_any _ ls w2 T2.out (fun x h => Nat.le_trans (SM.out x h) (by omega))).mono ?_
        rintro e w3 ⟨rfl, hb⟩
        have B3 := hide (B2.out.trans (hb.mono s2))
        clear hb B2 s2 T2
        have hq2 : (errN (joinP ls) == errN (joinP ls)) = true := beq_self_eq_true _
        have hq : ((bs ((joinP ls).getD [])).toList == (bs ((joinP ls).getD [])).toList) = true := beq_self_eq_true _
        revert hq hq2
        generalize errN (joinP ls) = n
        generalize (joinP ls).getD [] = y
        intro hq hq2
        go_wp2
        go_ret
        exact ⟨rfl, B3.out⟩
theorem nameJoins_walk (a0 : Option Addr) (len0 cap0 : Nat) (z0 : List ByteArray) (w : World) (w0 : IsStrs w a0 len0 cap0 z0) (hE : Env w) : Calls Tryd.prog 4 #[.slice a0 len0 cap0] w (TrueRet w) := by
  obtain ⟨h1, h2, h3⟩ := Tx.of_arg w0
  revert h1 h2 h3
  generalize ((z0.take len0).map fun s => s.data.toList) = ls
  intro h1 h2 h3
  subst h2
  exact nJoins_in a0 cap0 ls w h1 h3 hE
end Go.Proofs.YtgjfgadjejeebaaDoor
