/-
  The document's tree, what only reads: where a node is in the list, Spot, Known, Above. Conditions: the tree is one, in memory.
-/
import Derived.Test.YtlcmkikjgelfaaaDoorTLaw
import Derived.StillTailTactics
namespace Go.Proofs.YtlcmkikjgelfaaaDoor
open Go.RowKit Go.Maps
set_option linter.unusedVariables false
set_option linter.unusedSimpArgs false
set_option maxRecDepth 100000

/-- The document's tree in a block: its list, and a row of what it was. -/
structure Rl (w : World) (g : Nat) (vL vW : Value) (L : List Kd) : Prop where
  blk : w.heap[g]? = some (.cells #[vL, vW] 32 (0, 0))
  lst : OwnKids w 0 vL L
theorem Rl.lt {w : World} {g : Nat} {vL vW : Value} {L : List Kd} (h : Rl w g vL vW L) : g < w.heap.size := (Array.getElem?_eq_some_iff.1 h.blk).1
theorem Rl.below {w w' : World} {g : Nat} {vL vW : Value} {L : List Kd} (h : Rl w g vL vW L) (hb : Below w.heap.size w w') : Rl w' g vL vW L := ⟨(hb.block _ h.lt).trans h.blk, h.lst.below hb⟩
theorem Rl.cell0 {w : World} {g : Nat} {vL vW : Value} {L : List Kd} (h : Rl w g vL vW L) : w.cell? ⟨g, 0, none⟩ = some vL := cell_of_row w g 0 _ _ (0, 0) h.blk
theorem Rl.cell1 {w : World} {g : Nat} {vL vW : Value} {L : List Kd} (h : Rl w g vL vW L) : w.cell? ⟨g, 1, none⟩ = some vW := cell_of_row w g 1 _ _ (0, 0) h.blk
def AtRet (w : World) (L : List Kd) (n : Int) (e : Ending) (w' : World) : Prop :=
  w' = w ∧ ((e = .returned (.int .i64 (-1)) ∧ fnd L n = none) ∨ ∃ (k : Nat) (h : k < L.length), e = .returned (.int .i64 (k : Int)) ∧ fnd L n = some L[k])
def AtRel (L : List Kd) (n : Int) (i : Value) : Prop := ∃ k : Nat, k ≤ L.length ∧ i = .int .i64 (k : Int) ∧ fnd L n = fnd (L.drop k) n
theorem fnd_step (L : List Kd) (n : Int) (k : Nat) (h : k < L.length) : fnd (L.drop k) n = if L[k].nd = n then some L[k] else fnd (L.drop (k + 1)) n := by
  rw [List.drop_eq_getElem_cons h]
  unfold fnd
  rw [List.find?_cons]
  by_cases e : L[k].nd = n
  · simp [e]
  · rw [if_neg e, show (L[k].nd == n) = false from by simpa using e]
set_option maxHeartbeats 2000000 in
theorem rat_any (v : Value) (L : List Kd) (n : Int) (w : World) (hn : L.length ≤ 1000000) (h : Kids w v L) : Calls Tryd.prog 41 #[v, .int .i64 n] w (AtRet w L n) := by
  obtain ⟨A, c, rfl, h1, h2, h3⟩ := h
  unfold maxLen at h2
  have H3 := hide h3
  clear h3
  go_enter Tryd.func41, Tryd.ntmps41
  go_wp2_with fail
  go_loop [5] (AtRel L n) (fun i => L.length - (intOf i).toNat)
  case atStart => exact ⟨0, Nat.zero_le _, rfl, rfl⟩
  case round =>
    obtain ⟨k, hk, rfl, he⟩ := hrel
    have E := hide he
    clear he
    by_cases hlt : k < L.length
    · obtain ⟨b, o, rfl, hat⟩ := H3.out (by omega)
      obtain ⟨r0, r1, r2⟩ := hat.three k hlt
      have FS := hide (fnd_step L n k hlt)
      have i1 : (k : Int) < (L.length : Int) := by omega
      have i0 : (0 : Int) ≤ (k : Int) := by omega
      by_cases hx : L[k].nd = n
      · have hx1 : (L[k].nd == n) = true := by simp [hx]
        have R := hide (show fnd L n = some L[k] by rw [E.out, FS.out, if_pos hx])
        clear hx FS E
        go_wp2
        go_ret
        exact ⟨rfl, .inr ⟨k, hlt, rfl, R.out⟩⟩
      · have hx1 : (L[k].nd == n) = false := by simp [hx]
        have R := hide (show fnd L n = fnd (L.drop (k + 1)) n by rw [E.out, FS.out, if_neg hx])
        clear hx FS E
        go_wp2_with fail
        go_round
        case rel => exact ⟨k + 1, by omega, by go_num, R.out⟩
        case measure => simp [intOf]; omega
    · obtain rfl : k = L.length := by omega
      have R := hide (show fnd L n = none by rw [E.out, List.drop_length]; rfl)
      go_wp2
      go_ret
      exact ⟨rfl, .inl ⟨rfl, R.out⟩⟩
set_option maxHeartbeats 2000000 in
theorem rknown_any (g : Nat) (vL vW : Value) (L : List Kd) (n : Int) (hn : L.length ≤ 1000000) (w : World) (T : Rl w g vL vW L) : Calls Tryd.prog 21 #[.pointer (some ⟨g, 0, none⟩), .int .i64 n] w (fun e w' => e = .returned (.bool (isKn L n)) ∧ w' = w) := by
  have c0 := T.cell0
  have K := hide (rat_any vL L n w hn T.lst.kids)
  have E := hide (show isKn L n = (n == 0 || n == 1 || (fnd L n).isSome) from rfl)
  clear T
  by_cases h0 : n = 0
  · subst h0
    go_enter Tryd.func21, Tryd.ntmps21
    go_wp2
    go_ret
    exact ⟨rfl, rfl⟩
  · by_cases h1 : n = 1
    · subst h1
      go_enter Tryd.func21, Tryd.ntmps21
      go_wp2
      go_ret
      exact ⟨rfl, rfl⟩
    · have z0 : (n == 0) = false := by simp [h0]
      have z1 : (n == 1) = false := by simp [h1]
      rw [E.out, z0, z1]
      clear h0 h1 E
      go_enter Tryd.func21, Tryd.ntmps21
      go_wp2_with fail
      refine K.out.mono ?_
      rintro e w1 ⟨rfl, hr⟩
      rcases hr with ⟨rfl, hf⟩ | ⟨k, hk, rfl, hf⟩
      · have F := hide hf
        clear hf
        go_wp2
        go_ret
        exact ⟨by rw [F.out]; rfl, rfl⟩
      · have F := hide hf
        have hk0 : decide ((k : Int) ≥ 0) = true := by simp
        clear hf
        go_wp2
        go_ret
        exact ⟨by rw [F.out]; rfl, rfl⟩
/-- Where Above stands. -/
def RaRel (L : List Kd) (a b : Int) (v i : Value) : Prop :=
  ∃ (x : Int) (k : Nat), k ≤ L.length + 1 ∧ v = .int .i64 x ∧ i = .int .i64 (k : Int) ∧ upF L (L.length + 1) a b = upF L (L.length + 1 - k) a x
theorem upF_step (L : List Kd) (m : Nat) (a x : Int) (h : 0 < m) : upF L m a x = if a = x then true else match fnd L x with
    | none => false
    | some k => upF L (m - 1) a k.to := by
  obtain ⟨f, rfl⟩ : ∃ f, m = f + 1 := ⟨m - 1, by omega⟩
  rfl
set_option maxHeartbeats 4000000 in
theorem rabove_any (g : Nat) (vL vW : Value) (L : List Kd) (a b : Int) (hn : L.length ≤ 1000000) (w : World) (T : Rl w g vL vW L) : Calls Tryd.prog 33 #[.pointer (some ⟨g, 0, none⟩), .int .i64 a, .int .i64 b] w (fun e w' => e = .returned (.bool (abv L a b)) ∧ w' = w) := by
  have c0 := T.cell0
  have KK := hide (rknown_any g vL vW L b hn w T)
  have HK := hide T.lst.kids
  have KA := hide (fun n => rat_any vL L n w hn T.lst.kids)
  obtain ⟨A, c, rfl, h1, h2, h3⟩ := T.lst.kids
  have H3 := hide h3
  unfold maxLen at h2
  clear T h3
  cases hkn : isKn L b with
  | false =>
    have E := hide (show abv L a b = false by unfold abv; rw [hkn]; rfl)
    rw [hkn] at KK
    rw [E.out]
    clear hkn
    go_enter Tryd.func33, Tryd.ntmps33
    go_wp2_with fail
    refine KK.out.mono ?_
    rintro e w1 ⟨rfl, hw⟩
    subst hw
    go_wp2
    go_ret
    exact ⟨rfl, rfl⟩
  | true =>
    have E := hide (show abv L a b = upF L (L.length + 1) a b by unfold abv; rw [hkn]; rfl)
    rw [hkn] at KK
    rw [E.out]
    clear hkn E
    go_enter Tryd.func33, Tryd.ntmps33
    go_wp2_with fail
    refine KK.out.mono ?_
    rintro e w1 ⟨rfl, hw⟩
    subst hw
    clear KK
    go_wp2_with fail
    go_loop [2, 8] (RaRel L a b) (fun _ i => L.length + 1 - (intOf i).toNat)
    case atStart => exact ⟨b, 0, Nat.zero_le _, rfl, rfl, rfl⟩
    case round =>
      obtain ⟨x, k, hk, rfl, rfl, he⟩ := hrel
      have E := hide he
      clear he
      by_cases hlt : k ≤ L.length
      · have hl1 : (k : Int) ≤ (L.length : Int) := by omega
        have hl2 : decide ((k : Int) ≤ (L.length : Int)) = true := by simp; omega
        have US := hide (upF_step L (L.length + 1 - k) a x (by omega))
        by_cases hax : a = x
        · have ha1 : (a == x) = true := by simp [hax]
          have R := hide (show upF L (L.length + 1) a b = true by rw [E.out, US.out, if_pos hax])
          clear hax US E
          go_wp2
          go_ret
          exact ⟨by rw [R.out]; rfl, rfl⟩
        · have ha1 : (a == x) = false := by simp [hax]
          have R := hide (show upF L (L.length + 1) a b = match fnd L x with
            | none => false
            | some q => upF L (L.length + 1 - k - 1) a q.to by rw [E.out, US.out, if_neg hax])
          clear hax US E
          go_wp2_with fail
          refine (KA.out x).mono ?_
          rintro e w2 ⟨rfl, hr⟩
          rcases hr with ⟨rfl, hf⟩ | ⟨j, hj, rfl, hf⟩
          · have R2 := hide (show upF L (L.length + 1) a b = false by rw [R.out, hf])
            clear hf R
            go_wp2
            go_ret
            exact ⟨by rw [R2.out]; rfl, rfl⟩
          · have R2 := hide (show upF L (L.length + 1) a b = upF L (L.length + 1 - (k + 1)) a L[j].to by rw [R.out, hf]; rfl)
            obtain ⟨b', o, rfl, hat⟩ := H3.out (by omega)
            obtain ⟨r0, r1, r2⟩ := hat.three j hj
            have i1 : (j : Int) < (L.length : Int) := by omega
            have i0 : (0 : Int) ≤ (j : Int) := by omega
            have j0 : decide ((j : Int) < 0) = false := by simp
            generalize L[j] = y at r0 r1 r2 R2
            clear hf R hat
            go_wp2_with fail
            go_round
            case rel => exact ⟨y.to, k + 1, by omega, rfl, by go_num, R2.out⟩
            case measure => simp [intOf]; omega
      · obtain rfl : k = L.length + 1 := by omega
        have R := hide (show upF L (L.length + 1) a b = false by rw [E.out, Nat.sub_self]; rfl)
        have hl2 : decide ((L.length : Int) + 1 ≤ (L.length : Int)) = false := by simp; omega
        clear E
        go_wp2
        go_ret
        exact ⟨by rw [R.out]; rfl, rfl⟩
theorem set_at {w wk : World} {cs : Array Value} {t : TypeId} (hb : Below w.heap.size w wk) (h : wk.heap[w.heap.size]? = some (.cells cs t (0, 0))) (j : Nat) (v : Value) :
    Below w.heap.size w (wk.setCell ⟨w.heap.size, j, none⟩ v) ∧ (wk.setCell ⟨w.heap.size, j, none⟩ v).heap[w.heap.size]? = some (.cells (cs.setIfInBounds j v) t (0, 0)) :=
  ⟨hb.setCell (p := ⟨w.heap.size, j, none⟩) (Nat.le_refl _) v, Joins.block_setCell h v⟩
theorem spot_end {w wk : World} {t : TypeId} {c0 c1 c2 : Value} (hb : Below w.heap.size w wk) (h : wk.heap[w.heap.size]? = some (.cells #[c0, c1, c2] t (0, 0))) (v0 v1 v2 : Value) (W : World)
    (hW : W = ((wk.setCell ⟨w.heap.size, 0, none⟩ v0).setCell ⟨w.heap.size, 1, none⟩ v1).setCell ⟨w.heap.size, 2, none⟩ v2) :
    Below w.heap.size w W ∧ W.cell? ⟨w.heap.size, 0, none⟩ = some v0 ∧ W.cell? ⟨w.heap.size, 1, none⟩ = some v1 ∧ W.cell? ⟨w.heap.size, 2, none⟩ = some v2 := by
  have p0 := set_at hb h 0 v0
  have p1 := set_at p0.1 p0.2 1 v1
  have p2 := set_at p1.1 p1.2 2 v2
  rw [← hW] at p2
  exact ⟨p2.1, cell_of_row W _ 0 _ _ (0, 0) p2.2, cell_of_row W _ 1 _ _ (0, 0) p2.2, cell_of_row W _ 2 _ _ (0, 0) p2.2⟩
set_option maxHeartbeats 2000000 in
theorem rspot_any (g : Nat) (vL vW : Value) (L : List Kd) (n : Int) (hn : L.length ≤ 1000000) (w : World) (T : Rl w g vL vW L) : Calls Tryd.prog 19 #[.pointer (some ⟨g, 0, none⟩), .int .i64 n] w (SpotRet (fnd L n) w) := by
  have T1 := T.below ((Below.refl _ _).alloc (Nat.le_refl _) (.cells #[.bool false, .int .i64 0, .string ⟨#[]⟩] 39))
  have HBX := hide (heap_alloc_new w (.cells #[.bool false, .int .i64 0, .string ⟨#[]⟩] 39))
  have HB := hide ((Below.refl w.heap.size w).alloc (Nat.le_refl _) (.cells #[.bool false, .int .i64 0, .string ⟨#[]⟩] 39))
  have hg := T.lt
  have c0 := T1.cell0
  have K := hide (rat_any vL L n _ hn T1.lst.kids)
  have HT := hide T1
  obtain ⟨A, c, rfl, h1, h2, h3⟩ := T1.lst.kids
  have H3 := hide h3
  unfold maxLen at h2
  clear T T1 h3
  go_enter Tryd.func19, Tryd.ntmps19
  go_upto_region 1 with (fail)
  generalize w.alloc (.cells #[.bool false, .int .i64 0, .string ⟨#[]⟩] 39) = w1 at HBX HB c0 K HT H3 ⊢
  have f0 := Joins.unfrozen_of_block HBX.out 0
  have f1 := Joins.unfrozen_of_block HBX.out 1
  have f2 := Joins.unfrozen_of_block HBX.out 2
  have b0 := cell_of_row _ _ 0 _ _ (0, 0) HBX.out
  have b1 := cell_of_row _ _ 1 _ _ (0, 0) HBX.out
  have b2 := cell_of_row _ _ 2 _ _ (0, 0) HBX.out
  simp at b0 b1 b2
  go_wp2_with fail
  refine K.out.mono ?_
  rintro e w2 ⟨rfl, hr⟩
  rcases hr with ⟨rfl, hf⟩ | ⟨k, hk, rfl, hf⟩
  · have FF := hide hf
    clear hf K
    go_wp2_with fail
    obtain ⟨b9, e0, e1, e2⟩ := spot_end HB.out HBX.out (.bool false) (.int .i64 0) (.string ⟨#[]⟩) _ rfl
    have B9 := hide b9
    clear b9 b0 b1 b2 f0 f1 f2
    revert e0 e1 e2 B9
    generalize ((w2.setCell ⟨w.heap.size, 0, none⟩ (.bool false)).setCell ⟨w.heap.size, 1, none⟩ (.int .i64 0)).setCell ⟨w.heap.size, 2, none⟩ (.string ⟨#[]⟩) = w3
    intro e0 e1 e2 B9
    (try simp only [Exit.inBlock, Exit.then])
    refine bodyPost_ret (v := spv none) ?_ rfl ⟨by rw [FF.out], B9.out⟩
    rw [results_one rfl]
    unfold spv
    go_simp
    exact ⟨rfl, rfl, rfl⟩
  · have FF := hide hf
    obtain ⟨b, o, rfl, hat⟩ := H3.out (by omega)
    obtain ⟨r0, r1, r2⟩ := hat.three k hk
    have i1 : (k : Int) < (L.length : Int) := by omega
    have i0 : (0 : Int) ≤ (k : Int) := by omega
    have j0 : decide ((k : Int) < 0) = false := by simp
    generalize L[k] = y at r0 r1 r2 FF
    clear hf K hat
    go_wp2_with fail
    go_region
    obtain ⟨b9, e0, e1, e2⟩ := spot_end HB.out HBX.out (.bool true) (.int .i64 y.to) (.string (bs y.nm)) _ rfl
    have B9 := hide b9
    clear b9 b0 b1 b2 f0 f1 f2
    revert e0 e1 e2 B9
    generalize ((w2.setCell ⟨w.heap.size, 0, none⟩ (.bool true)).setCell ⟨w.heap.size, 1, none⟩ (.int .i64 y.to)).setCell ⟨w.heap.size, 2, none⟩ (.string (bs y.nm)) = w3
    intro e0 e1 e2 B9
    go_wp2
    (try simp only [Exit.inBlock, Exit.then])
    refine bodyPost_ret (v := spv (some y)) ?_ rfl ⟨by rw [FF.out], B9.out.drew⟩
    rw [results_one rfl]
    have es : spv (some y) = .agg #[.bool true, .int .i64 y.to, .string (bs y.nm)] := rfl
    rw [es]
    go_simp
end Go.Proofs.YtlcmkikjgelfaaaDoor
