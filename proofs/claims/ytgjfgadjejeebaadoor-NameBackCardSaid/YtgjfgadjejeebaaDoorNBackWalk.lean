/-
  The walk of the law NameBack: it answers true at every input, and changes nothing that was there. Conditions: Env (the library's variables).
-/
import Derived.Test.YtgjfgadjejeebaaDoorNJoinsWalk
namespace Go.Proofs.YtgjfgadjejeebaaDoor
open Go.RowKit Go.Shelf
set_option linter.unusedVariables false

set_option maxHeartbeats 4000000 in
set_option maxRecDepth 100000 in
theorem nBack_in (l : List UInt8) (A : Option Addr) (c : Nat) (ls : List (List UInt8)) (w : World) (hl : l.length ≤ maxLen) (hv : Tx w (.slice A ls.length c) ls) (hx : ∀ x ∈ ls, x.length ≤ maxLen) (hE : Env w) :
    Calls Tryd.prog 5 #[.string (bs l), .slice A ls.length c] w (TrueRet w) := by
  have hm : maxLen = 9223372036854775807 := rfl
  have hsz := bs_size l
  have EN := hide hE
  have TX := hide hv
  have HX := hide hx
  obtain ⟨A', c', heq, hc, hcm, hcell⟩ := hv
  injection heq with e1 _ e2
  subst e1 e2
  clear hE hx hcell
  go_enter Tryd.func5, Tryd.ntmps5
  go_wp2_with fail
  refine (awake_any w EN.out).mono ?_
  rintro e w1 ⟨rfl, hb⟩
  have B1 := hide hb
  have s1 := hb.size
  have T1 := hide (TX.out.below hb)
  clear hb
  by_cases h5 : 500 < l.length
  · have h5i : (500 : Int) < (l.length : Int) := by omega
    go_wp2
    go_ret
    exact ⟨rfl, B1.out⟩
  · have h5i : ¬ (500 : Int) < (l.length : Int) := by omega
    by_cases h3 : 30 < ls.length
    · have h3i : (30 : Int) < (ls.length : Int) := by omega
      go_wp2
      go_ret
      exact ⟨rfl, B1.out⟩
    · have h3i : ¬ (30 : Int) < (ls.length : Int) := by omega
      go_wp2_with fail
      go_loop [6] (SmallRel ls) (fun k => ls.length - (intOf k).toNat)
      case atStart => exact ⟨0, Nat.zero_le _, rfl, by simp⟩
      case round =>
        obtain ⟨i, hi, rfl, hs⟩ := hrel
        have HS := hide hs
        clear hs
        by_cases hlt : i < ls.length
        · obtain ⟨A', c', heq, _, _, hcell⟩ := T1.out
          injection heq with e1 _ e2
          subst e1 e2
          obtain ⟨g, o, hA, hcl⟩ := hcell.resolve_left (by intro h; rw [h] at hlt; simp at hlt)
          subst hA
          have c1 := hcl i hlt
          have x1 := HX.out ls[i] (List.getElem_mem hlt)
          have S1 := hide (small_step ls i hlt HS.out)
          clear hcl hcell
          revert c1 x1 S1
          generalize ls[i] = x
          intro c1 x1 S1
          have xz := bs_size x
          by_cases h1 : 100 < x.length
          · have h1i : (100 : Int) < (x.length : Int) := by omega
            go_wp2
            go_ret
            exact ⟨rfl, B1.out⟩
          · have h1i : ¬ (100 : Int) < (x.length : Int) := by omega
            have S2 := hide (S1.out (by omega))
            clear S1
            go_wp2_with fail
            refine ⟨⟨i + 1, by omega, by go_num, S2.out⟩, ?_⟩
            simp [intOf]
            omega
        · have hsm : ∀ x ∈ ls, x.length ≤ 100 := by have := HS.out; rwa [show i = ls.length by omega, List.take_length] at this
          have SM := hide hsm
          clear hsm HS
          go_wp2_with fail
          refine (split_any l w1 (by omega) (EN.out.below B1.out)).mono ?_
          rintro e w2 ⟨v2, rfl, htx, hb⟩
          have U2 := hide htx
          have T2 := hide (T1.out.below hb)
          have B2 := hide (B1.out.trans (hb.mono s1))
          have s2 := B2.out.size
          clear hb htx T1 B1 s1
          cases hsp : splitP l with
          | none =>
            clear hsp U2
            rw [errN_none]
            have T3 := T2
            have B3 := B2
            have s3 := s2
            clear T2 B2 s2
            revert T3 B3 s3
            generalize w2 = w3
            intro T3 B3 s3
            go_wp2_with fail
            refine (join_any _ ls w3 T3.out (fun x h => Nat.le_trans (SM.out x h) (by omega)) (EN.out.below B3.out)).mono ?_
            rintro e w4 ⟨rfl, hb⟩
            have T4 := hide (T3.out.below hb)
            have B4 := hide (B3.out.trans (hb.mono s3))
            have s4 := B4.out.size
            clear hb T3 B3 s3
            cases hj : joinP ls with
            | none =>
              clear hj
              rw [errN_none]
              have hq : ((bs []).toList == []) = true := by rw [bs_list]; rfl
              have eu : (none : Option (List UInt8)).getD [] = [] := rfl
              rw [eu]
              go_wp2
              go_ret
              exact ⟨rfl, B4.out⟩
            | some t =>
              have hsp := back_join ls t hj
              have ht4 : t.length ≤ 400 := (splitP_some t ls hsp).2.2.1
              clear hj
              rw [errN_some]
              have eu : (some t).getD [] = t := rfl
              rw [eu]
              have k5 := split_any t w4 (by omega) (EN.out.below B4.out)
              rw [hsp] at k5
              clear hsp
              go_wp2_with fail
              refine k5.mono ?_
              rintro e w5 ⟨v5, rfl, htx, hb⟩
              have T5 := hide (T4.out.below hb)
              have U5 := hide (show Tx w5 v5 ls from htx)
              have B5 := hide (B4.out.trans (hb.mono s4))
              have s5 := B5.out.size
              clear hb htx T4 B4 s4 k5
              rw [errN_some]
              have k6 := texts_any v5 _ ls ls w5 U5.out T5.out
              rw [decide_eq_true rfl] at k6
              go_wp2_with fail
              refine k6.mono ?_
              rintro e w6 ⟨rfl, hb⟩
              have B6 := hide (B5.out.trans (hb.mono s5))
              clear hb k6 B5 s5
              go_wp2
              go_ret
              exact ⟨rfl, B6.out⟩
          | some m =>
            rw [hsp] at U2
            rw [errN_some]
            have hbk := back_split l m hsp
            have hsh := split_short l m hsp
            have k3 := join_any v2 m w2 U2.out (fun y hy => Nat.le_trans (right_len y (List.all_eq_true.1 hsh.1 y hy)) (by omega)) (EN.out.below B2.out)
            rw [hbk] at k3
            clear hsp hbk hsh U2
            go_wp2_with fail
            refine k3.mono ?_
            rintro e w3 ⟨rfl, hb⟩
            have T3 := hide (T2.out.below hb)
            have B3 := hide (B2.out.trans (hb.mono s2))
            have s3 := B3.out.size
            clear hb T2 B2 s2 k3
            rw [errN_some]
            have eu : (some l).getD [] = l := rfl
            rw [eu]
            have hq : ((bs l).toList == (bs l).toList) = true := beq_self_eq_true _
            go_wp2_with fail
            refine (join_any _ ls w3 T3.out (fun x h => Nat.le_trans (SM.out x h) (by omega)) (EN.out.below B3.out)).mono ?_
            rintro e w4 ⟨rfl, hb⟩
            have T4 := hide (T3.out.below hb)
            have B4 := hide (B3.out.trans (hb.mono s3))
            have s4 := B4.out.size
            clear hb T3 B3 s3
            cases hj : joinP ls with
            | none =>
              clear hj
              rw [errN_none]
              have hq : ((bs []).toList == []) = true := by rw [bs_list]; rfl
              have eu : (none : Option (List UInt8)).getD [] = [] := rfl
              rw [eu]
              go_wp2
              go_ret
              exact ⟨rfl, B4.out⟩
            | some t =>
              have hsp := back_join ls t hj
              have ht4 : t.length ≤ 400 := (splitP_some t ls hsp).2.2.1
              clear hj
              rw [errN_some]
              have eu : (some t).getD [] = t := rfl
              rw [eu]
              have k5 := split_any t w4 (by omega) (EN.out.below B4.out)
              rw [hsp] at k5
              clear hsp
              go_wp2_with fail
              refine k5.mono ?_
              rintro e w5 ⟨v5, rfl, htx, hb⟩
              have T5 := hide (T4.out.below hb)
              have U5 := hide (show Tx w5 v5 ls from htx)
              have B5 := hide (B4.out.trans (hb.mono s4))
              have s5 := B5.out.size
              clear hb htx T4 B4 s4 k5
              rw [errN_some]
              have k6 := texts_any v5 _ ls ls w5 U5.out T5.out
              rw [decide_eq_true rfl] at k6
              go_wp2_with fail
              refine k6.mono ?_
              rintro e w6 ⟨rfl, hb⟩
              have B6 := hide (B5.out.trans (hb.mono s5))
              clear hb k6 B5 s5
              go_wp2
              go_ret
              exact ⟨rfl, B6.out⟩
theorem nameBack_walk (a0 : ByteArray) (a1 : Option Addr) (len1 cap1 : Nat) (z1 : List ByteArray) (w : World) (w0 : a0.size ≤ maxLen) (w1 : IsStrs w a1 len1 cap1 z1) (hE : Env w) :
    Calls Tryd.prog 5 #[.string a0, .slice a1 len1 cap1] w (TrueRet w) := by
  obtain ⟨h1, h2, h3⟩ := Tx.of_arg w1
  revert h1 h2 h3
  generalize ((z1.take len1).map fun s => s.data.toList) = ls
  intro h1 h2 h3
  subst h2
  rw [← bs_of a0]
  exact nBack_in a0.data.toList a1 cap1 ls w w0 h1 h3 hE
end Go.Proofs.YtgjfgadjejeebaaDoor
