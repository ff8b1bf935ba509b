/-
  The document's tree: Kids, All, Find. Conditions: the tree is one, in memory, of at most a thousand nodes.
-/
import Derived.Test.YtlcmkikjgelfaaaDoorTRef2
import Derived.Test.YtlcmkikjgelfaaaDoorNRefSplit
namespace Go.Proofs.YtlcmkikjgelfaaaDoor
open Go.RowKit Go.Maps
set_option linter.unusedVariables false
set_option linter.unusedSimpArgs false
set_option maxRecDepth 100000

set_option maxHeartbeats 2000000 in
theorem rall_any (g : Nat) (vL vW : Value) (L : List Kd) (hn : L.length ≤ 1000) (w : World) (T : Rl w g vL vW L) : Calls Tryd.prog 24 #[.pointer (some ⟨g, 0, none⟩)] w (KidsRet w (sortK L)) := by
  have c0 := T.cell0
  have K := hide (rsorted_any vL L w hn T.lst.kids)
  obtain ⟨A, c, rfl, h1, h2, h3⟩ := T.lst.kids
  clear T h1 h2 h3
  go_enter Tryd.func24, Tryd.ntmps24
  go_wp2_with fail
  refine K.out.mono ?_
  rintro e w1 ⟨v, rfl, hv, hb⟩
  have V := hide hv
  have B := hide hb
  clear hv hb
  go_wp2
  go_ret
  exact ⟨_, rfl, V.out, B.out⟩
def KdRel (w : World) (L : List Kd) (n : Int) (v i : Value) (wr : World) : Prop :=
  ∃ k : Nat, k ≤ L.length ∧ i = .int .i64 (k : Int) ∧ OwnKids wr w.heap.size v ((L.take k).filter fun x => x.to == n) ∧ Below w.heap.size w wr
set_option maxHeartbeats 4000000 in
theorem rkids_any (g : Nat) (vL vW : Value) (L : List Kd) (n : Int) (hn : L.length ≤ 1000) (w : World) (T : Rl w g vL vW L) : Calls Tryd.prog 26 #[.pointer (some ⟨g, 0, none⟩), .int .i64 n] w (KidsRet w (sortK (L.filter fun k => k.to == n))) := by
  have c0 := T.cell0
  have hg := T.lt
  have HT := hide T
  obtain ⟨A, c, rfl, h1, h2, h3⟩ := T.lst.kids
  have H3 := hide h3
  unfold maxLen at h2
  clear T h3
  go_enter Tryd.func26, Tryd.ntmps26
  go_wp2_with fail
  go_loopw [5, 6] (KdRel w L n) (fun _ i _ => L.length - (intOf i).toNat)
  case atStart => exact ⟨0, Nat.zero_le _, rfl, OwnKids.nil _ _, Below.refl _ _⟩
  case round =>
    rename World => wi
    obtain ⟨k, hk, rfl, ho, hb⟩ := hrel
    have O := hide ho
    have B := hide hb
    have sz := hb.size
    have d0 := (HT.out.below hb).cell0
    clear ho hb c0
    by_cases hlt : k < L.length
    · obtain ⟨b, oo, rfl, hat⟩ := H3.out (by omega)
      obtain ⟨r0, r1, r2⟩ := (hat.below B.out).three k hlt
      have i1 : (k : Int) < (L.length : Int) := by omega
      have i0 : (0 : Int) ≤ (k : Int) := by omega
      have FS := hide (show (L.take (k + 1)).filter (fun x => x.to == n) = (L.take k).filter (fun x => x.to == n) ++ (if L[k].to = n then [L[k]] else []) by
        rw [List.take_succ_eq_append_getElem hlt, List.filter_append]
        congr 1
        by_cases e : L[k].to = n
        · simp [e]
        · simp [e])
      have hfl : ((L.take k).filter fun x => x.to == n).length ≤ 1000000 := Nat.le_trans (List.length_filter_le _ _) (by rw [List.length_take]; omega)
      generalize L[k] = x at r0 r1 r2 FS
      generalize (L.take k).filter (fun x => x.to == n) = qs at O FS hfl
      clear hat
      by_cases hx : x.to = n
      · have hx1 : (x.to == n) = true := by simp [hx]
        have FE := hide (show (L.take (k + 1)).filter (fun x => x.to == n) = qs ++ [x] by rw [FS.out, if_pos hx])
        have Bz := (Below.refl wi.heap.size wi).alloc (Nat.le_refl _) (.cells #[.int .i64 x.to, .string (bs x.nm), .int .i64 x.nd] 56)
        have O2 := hide (O.out.below Bz)
        have B2 := hide (B.out.trans (Bz.mono sz))
        have N2 := hide (kid_new wi x)
        have lz := Bz.size
        clear Bz hx FS O
        go_wp2_with (at_builtin; refine wpList_append_kid _ rfl _ _ rfl w.heap.size _ qs rfl O2.out ⟨wi.heap.size, 0, none⟩ 1 x rfl N2.out (by omega) (by omega) ?_)
        intro v6 w6 hown6 hg6 hat6
        have O6 := hide hown6
        have B6 := hide (B2.out.grown hg6 (by omega) (fun k hk => (O2.out.lt hk).1))
        clear hown6 hg6 hat6 O2 B2 N2 r0 r1 r2 d0
        go_wp2_with fail
        go_roundw
        case rel => exact ⟨k + 1, by omega, by go_num, by rw [FE.out]; exact O6.out, B6.out⟩
        case measure => simp [intOf]; omega
      · have hx1 : (x.to == n) = false := by simp [hx]
        have FE := hide (show (L.take (k + 1)).filter (fun x => x.to == n) = qs by rw [FS.out, if_neg hx, List.append_nil])
        clear hx FS
        go_wp2_with fail
        go_roundw
        case rel => exact ⟨k + 1, by omega, by go_num, by rw [FE.out]; exact O.out, B.out⟩
        case measure => simp [intOf]; omega
    · obtain rfl : k = L.length := by omega
      have O2 := O.out
      rw [List.take_length] at O2
      have hfl : (L.filter fun x => x.to == n).length ≤ 1000 := Nat.le_trans (List.length_filter_le _ _) hn
      have K := hide (rsorted_any _ _ wi hfl O2.kids)
      obtain ⟨A', c', rfl, _, _, _⟩ := O2.kids
      clear O2 O
      go_wp2_with fail
      refine K.out.mono ?_
      rintro e w1 ⟨v, rfl, hv, hb⟩
      have V := hide (hv.base sz)
      have B1 := hide (B.out.trans (hb.mono sz))
      clear hv hb
      go_wp2
      go_ret
      exact ⟨_, rfl, V.out, B1.out⟩
/-- Where the search of a name stands. -/
def FnRel (w : World) (kids : List Kd) (s : List UInt8) (n0 : Int) (v f i : Value) (wr : World) : Prop :=
  ∃ m : Nat, m ≤ kids.length ∧ i = .int .i64 (m : Int) ∧ Below w.heap.size w wr ∧
    ((f = .bool false ∧ v = .int .i64 n0 ∧ (kids.find? fun k => k.nm == s) = (kids.drop m).find? fun k => k.nm == s) ∨ ∃ x : Kd, f = .bool true ∧ v = .int .i64 x.nd ∧ (kids.find? fun k => k.nm == s) = some x)
theorem find_step (kids : List Kd) (s : List UInt8) (m : Nat) (h : m < kids.length) : ((kids.drop m).find? fun k => k.nm == s) = if kids[m].nm = s then some kids[m] else (kids.drop (m + 1)).find? fun k => k.nm == s := by
  rw [List.drop_eq_getElem_cons h, List.find?_cons]
  by_cases e : kids[m].nm = s
  · simp [e]
  · rw [if_neg e, show (kids[m].nm == s) = false from by simpa using e]
set_option maxHeartbeats 4000000 in
theorem rfind_any (g : Nat) (vL vW : Value) (L : List Kd) (l : List UInt8) (hl : l.length ≤ 1000) (hn : L.length ≤ 1000) (w : World) (T : Rl w g vL vW L) :
    Calls Tryd.prog 31 #[.pointer (some ⟨g, 0, none⟩), .string (bs l)] w (FindRet w (findN L l) (findE L l)) := by
  have K := hide (refSplit_any l w hl)
  have HT := hide T
  clear T
  cases hs : splitP l with
  | none =>
    have E1 := hide (show findN L l = 0 by unfold findN; rw [hs])
    have E2 := hide (show findE L l = 4 by unfold findE; rw [hs])
    rw [hs] at K
    clear hs
    rw [E1.out, E2.out]
    go_enter Tryd.func31, Tryd.ntmps31
    go_wp2_with fail
    refine K.out.mono ?_
    rintro e w1 ⟨v, rfl, hv, hb⟩
    have B := hide hb
    clear hb hv
    rw [errN_none]
    go_wp2
    go_ret2
    exact ⟨rfl, B.out⟩
  | some ls =>
    have E1 := hide (show findN L l = (down L 0 ls).getD 0 by unfold findN; rw [hs])
    have E2 := hide (show findE L l = if (down L 0 ls).isSome then 0 else 9 by unfold findE; rw [hs])
    rw [hs] at K
    clear hs
    go_enter Tryd.func31, Tryd.ntmps31
    go_wp2_with fail
    refine K.out.mono ?_
    rintro e w1 ⟨v, rfl, hv, hb⟩
    have B1 := hide hb
    have HT1 := hide (HT.out.below hb)
    have sz1 := hb.size
    clear hb K HT
    rw [errN_some]
    simp only [Option.getD_some] at hv
    obtain ⟨A, c, rfl, h1, h2, h3⟩ := hv
    have H3 := hide h3
    clear h3
    unfold maxLen at h2
    go_wp2_with fail
    go_loopw [8, 9] (fun a i wr => FindRel L w1 ls a i wr) (fun _ i _ => ls.length - (intOf i).toNat)
    case atStart => exact ⟨0, 0, Nat.zero_le _, rfl, rfl, rfl, Below.refl _ _⟩
    case round =>
      rename World => wi
      obtain ⟨n, k, hk, rfl, rfl, hd, hb⟩ := hrel
      have HD := hide hd
      have B := hide hb
      have HT2 := hide (HT1.out.below hb)
      have sz2 := hb.size
      clear hd hb
      by_cases hlt : k < ls.length
      · have hc : ∃ b o, A = some ⟨b, o, none⟩ ∧ w1.cell? ⟨b, o + k, none⟩ = some (.string (bs ls[k])) := by
          rcases H3.out with h0 | ⟨b, o, e, h4⟩
          · exfalso
            simp [h0] at hlt
          · exact ⟨b, o, e, h4 k hlt⟩
        obtain ⟨b, o, rfl, hc⟩ := hc
        have HC := hide hc
        have HS := hide (down_step L n ls k hlt)
        generalize hx : ls[k] = x at hc HC HS
        have i1 : (k : Int) < (ls.length : Int) := by omega
        have i0 : (0 : Int) ≤ (k : Int) := by omega
        clear hx hc
        have KK := hide (rkids_any g vL vW L n hn wi HT2.out)
        have LK := hide (show leastK L n x = ((sortK (L.filter fun k => k.to == n)).find? fun k => k.nm == x).map (·.nd) from rfl)
        go_wp2_with fail
        refine KK.out.mono ?_
        rintro e w2 ⟨v2, rfl, hk2, hb2⟩
        have B2 := hide (B.out.trans (hb2.mono sz2))
        have sz3 := B2.out.size
        generalize sortK (L.filter fun k => k.to == n) = kids at hk2 LK
        obtain ⟨A2, c2, rfl, g1, g2, g3⟩ := hk2.kids
        have G3 := hide g3
        unfold maxLen at g2
        clear hb2 KK hk2 g3
        go_wp2_with fail
        go_loopw [8, 11, 12] (FnRel w2 kids x n) (fun _ _ i _ => kids.length - (intOf i).toNat)
        case atStart => exact ⟨0, Nat.zero_le _, rfl, Below.refl _ _, .inl ⟨rfl, rfl, rfl⟩⟩
        case round =>
          rename World => wj
          obtain ⟨m, hm, rfl, hb, hf⟩ := hrel
          have BJ := hide hb
          have BT := hide (B2.out.trans (hb.mono sz3))
          clear hb
          rcases hf with ⟨rfl, rfl, hfd⟩ | ⟨z, rfl, rfl, hfd⟩
          · by_cases hmt : m < kids.length
            · obtain ⟨b9, o9, rfl, hat9⟩ := G3.out (by omega)
              obtain ⟨r0, r1, r2⟩ := (hat9.below BJ.out).three m hmt
              have cx := (BT.out.cell (World.block_lt_of_cell? _ _ HC.out)).trans HC.out
              have j1 : (m : Int) < (kids.length : Int) := by omega
              have j0 : (0 : Int) ≤ (m : Int) := by omega
              have FS := hide (find_step kids x m hmt)
              have FD := hide hfd
              generalize kids[m] = z at r0 r1 r2 FS
              clear hat9 hfd
              by_cases hzn : z.nm = x
              · have hs1 : ((bs z.nm).toList == (bs x).toList) = true := by rw [hzn]; simp
                have FE := hide (show (kids.find? fun k => k.nm == x) = some z by rw [FD.out, FS.out, if_pos hzn])
                clear hzn FS FD
                go_wp2_with fail
                go_region
                go_wp2_with fail
                go_roundw
                case rel => exact ⟨m + 1, by omega, by go_num, BJ.out.drew, .inr ⟨z, rfl, rfl, FE.out⟩⟩
                case measure => simp [intOf]; omega
              · have hs1 : ((bs z.nm).toList == (bs x).toList) = false := by rw [bs_list, bs_list]; simp [hzn]
                have FE := hide (show (kids.find? fun k => k.nm == x) = (kids.drop (m + 1)).find? fun k => k.nm == x by rw [FD.out, FS.out, if_neg hzn])
                clear hzn FS FD
                go_wp2_with fail
                go_region
                go_wp2_with fail
                go_roundw
                case rel => exact ⟨m + 1, by omega, by go_num, BJ.out.drew, .inl ⟨rfl, rfl, FE.out⟩⟩
                case measure => simp [intOf]; omega
            · obtain rfl : m = kids.length := by omega
              have FN := hide (show leastK L n x = none by rw [LK.out, hfd, List.drop_length]; rfl)
              have E := hide (show down L 0 ls = none by rw [HD.out, HS.out, FN.out])
              clear hfd
              go_wp2
              go_ret2
              rw [E1.out, E2.out, E.out]
              exact ⟨rfl, B1.out.trans (BT.out.mono sz1)⟩
          · have FN := hide (show leastK L n x = some z.nd by rw [LK.out, hfd]; rfl)
            have E := hide (show down L 0 ls = down L z.nd (ls.drop (k + 1)) by rw [HD.out, HS.out, FN.out])
            clear hfd
            by_cases hmt : m < kids.length
            · go_wp2_with fail
              go_roundw
              case rel => exact ⟨z.nd, k + 1, by omega, rfl, by go_num, E.out, BT.out⟩
              case measure => simp [intOf]; omega
            · go_wp2_with fail
              go_roundw
              case rel => exact ⟨z.nd, k + 1, by omega, rfl, by go_num, E.out, BT.out⟩
              case measure => simp [intOf]; omega
      · obtain rfl : k = ls.length := by omega
        have E := hide (show down L 0 ls = some n by rw [HD.out, List.drop_length]; rfl)
        go_wp2
        go_ret2
        rw [E1.out, E2.out, E.out]
        exact ⟨rfl, B1.out.trans (B.out.mono sz1)⟩
end Go.Proofs.YtlcmkikjgelfaaaDoor
