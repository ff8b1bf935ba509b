/-
  The document's tree, its order: what stands ahead of what, and the sorting by choice of the least. Conditions: a list that can be read, of at most a thousand.
-/
import Derived.Test.YtlcmkikjgelfaaaDoorTRef1
import Derived.OwnWalk
import Derived.Laws.OwnMore
import Derived.Deep.RegionHeld3
namespace Go.Proofs.YtlcmkikjgelfaaaDoor
open Go.RowKit Go.Maps
set_option linter.unusedVariables false
set_option linter.unusedSimpArgs false
set_option maxRecDepth 100000

set_option maxHeartbeats 2000000 in
theorem rless_any (a b : Kd) (w : World) : Calls Tryd.prog 63 #[.agg #[.int .i64 a.to, .string (bs a.nm), .int .i64 a.nd], .agg #[.int .i64 b.to, .string (bs b.nm), .int .i64 b.nd]] w (BoolRet (ltOf kF a b) w) := by
  have B := hide (below_two w (.cells #[.int .i64 a.to, .string (bs a.nm), .int .i64 a.nd] 56) (.cells #[.int .i64 b.to, .string (bs b.nm), .int .i64 b.nd] 56))
  have E := hide (kLt a b)
  rw [E.out]
  have EK := hide (kF_eq a b)
  clear E
  by_cases h1 : a.to = b.to
  · have t1 : (a.to != b.to) = false := by simp [h1]
    have e1 : cm a.to b.to = 0 := by rw [h1]; exact cm_self _
    by_cases h2 : a.nm = b.nm
    · have t2 : ((bs a.nm).toList == (bs b.nm).toList) = true := by rw [h2]; simp
      have R := hide (show decide (kF a b < 0) = decide (a.nd < b.nd) by
        rw [EK.out, e1, h2, cN_self]
        simp only [ne_eq, not_true_eq_false, if_false]
        unfold cm
        by_cases h : a.nd < b.nd
        · simp [h]
        · rw [if_neg h]
          split <;> simp [h])
      rw [R.out]
      clear h1 h2 e1 EK R
      go_enter Tryd.func63, Tryd.ntmps63
      go_wp2
      go_ret
      exact ⟨rfl, B.out⟩
    · have t2 : ((bs a.nm).toList == (bs b.nm).toList) = false := by rw [bs_list, bs_list]; simp [h2]
      have R := hide (show decide (kF a b < 0) = Op.bytesLess (bs a.nm).toList (bs b.nm).toList by
        rw [bs_list, bs_list, EK.out, e1]
        have hne : cN a.nm b.nm ≠ 0 := fun h => h2 (cN_eq _ _ h)
        simp only [ne_eq, not_true_eq_false, if_false, hne, not_false_eq_true, if_true]
        cases hb : Op.bytesLess a.nm b.nm with
        | true => rw [cN_less _ _ hb]; rfl
        | false => rw [cN_more _ _ hb h2]; rfl)
      rw [R.out]
      clear h1 h2 e1 EK R
      go_enter Tryd.func63, Tryd.ntmps63
      go_wp2
      go_ret
      exact ⟨rfl, B.out⟩
  · have t1 : (a.to != b.to) = true := by simp [h1]
    have R := hide (show decide (kF a b < 0) = decide (a.to < b.to) by
      rw [EK.out]
      unfold cm
      by_cases h : a.to < b.to
      · simp [h]
      · have h' : b.to < a.to := by omega
        simp [h, h'])
    rw [R.out]
    clear h1 EK R
    go_enter Tryd.func63, Tryd.ntmps63
    go_wp2
    go_ret
    exact ⟨rfl, B.out⟩

/-! ### choosing the least -/
/-- What isn't used yet. -/
def lft : List Kd → (Nat → Bool) → List Kd
  | [], _ => []
  | x :: l, U => (if U 0 = true then [] else [x]) ++ lft l (fun i => U (i + 1))
def usd (U : Nat → Bool) (b : Nat) : Nat → Bool := fun i => if i = b then true else U i
theorem lft_none : ∀ l : List Kd, lft l (fun _ => false) = l
  | [] => rfl
  | x :: l => by simp [lft, lft_none l]
theorem lft_take : ∀ (l : List Kd) (U : Nat → Bool) (b : Nat) (h : b < l.length), U b = false → (lft l U).Perm (l[b] :: lft l (usd U b))
  | [], U, b, h, _ => by simp at h
  | x :: l, U, 0, h, hu => by
    have e : (fun i => usd U 0 (i + 1)) = fun i => U (i + 1) := by funext i; simp [usd]
    unfold lft
    rw [e, hu, show usd U 0 0 = true from rfl]
    simp
  | x :: l, U, b + 1, h, hu => by
    have e : (fun i => usd U (b + 1) (i + 1)) = usd (fun i => U (i + 1)) b := by funext i; simp [usd]
    unfold lft
    rw [e, show usd U (b + 1) 0 = U 0 from by simp [usd], List.getElem_cons_succ]
    exact ((lft_take l (fun i => U (i + 1)) b (by simpa using h) hu).append_left _).trans List.perm_middle
theorem lft_mem : ∀ (l : List Kd) (U : Nat → Bool) (y : Kd), y ∈ lft l U → ∃ (i : Nat) (h : i < l.length), U i = false ∧ l[i] = y
  | [], U, y, h => by simp [lft] at h
  | x :: l, U, y, h => by
    unfold lft at h
    rcases List.mem_append.1 h with h | h
    · split at h
      · simp at h
      · rename_i hu
        exact ⟨0, by simp, by simpa using hu, by simpa using (List.mem_singleton.1 h).symm⟩
    · obtain ⟨i, hi, hu, e⟩ := lft_mem l _ y h
      exact ⟨i + 1, by simpa using hi, hu, by simpa using e⟩
structure Sel (l : List Kd) (U : Nat → Bool) (out : List Kd) : Prop where
  perm : (out ++ lft l U).Perm l
  srt : out.Pairwise fun x y => (!ltOf kF y x) = true
  low : ∀ x ∈ out, ∀ y ∈ lft l U, (!ltOf kF y x) = true
theorem Sel.start (l : List Kd) : Sel l (fun _ => false) [] := ⟨by rw [lft_none]; exact List.Perm.refl _, List.Pairwise.nil, by simp⟩
theorem Sel.step {l : List Kd} {U : Nat → Bool} {out : List Kd} (h : Sel l U out) {b : Nat} (hb : b < l.length) (hu : U b = false) (hl : ∀ (j : Nat) (hj : j < l.length), U j = false → (!ltOf kF l[j] l[b]) = true) : Sel l (usd U b) (out ++ [l[b]]) := by
  have hp := lft_take l U b hb hu
  have hsub : ∀ y ∈ lft l (usd U b), y ∈ lft l U := fun y hy => hp.mem_iff.2 (by simp [hy])
  have hbm : l[b] ∈ lft l U := hp.mem_iff.2 (by simp)
  refine ⟨?_, ?_, ?_⟩
  · rw [List.append_assoc]
    exact ((hp.append_left out).symm).trans h.perm
  · rw [List.pairwise_append]
    exact ⟨h.srt, by simp, fun x hx y hy => by rw [List.mem_singleton.1 hy]; exact h.low x hx _ hbm⟩
  · intro x hx y hy
    rcases List.mem_append.1 hx with hx | hx
    · exact h.low x hx y (hsub y hy)
    · rw [List.mem_singleton.1 hx]
      obtain ⟨i, hi, hui, e⟩ := lft_mem l U y (hsub y hy)
      rw [← e]
      exact hl i hi hui
theorem Sel.done {l : List Kd} {U : Nat → Bool} {out : List Kd} (h : Sel l U out) (hn : out.length = l.length) : out = sortK l := by
  have e := h.perm.length_eq
  rw [List.length_append] at e
  have e2 : lft l U = [] := List.eq_nil_of_length_eq_zero (by omega)
  have hp := h.perm
  rw [e2, List.append_nil] at hp
  exact sorted_eq (hp.trans (sortK_perm l).symm) h.srt (sortK_sorted l)
theorem Sel.more {l : List Kd} {U : Nat → Bool} {out : List Kd} (h : Sel l U out) (hn : out.length < l.length) : ∃ (i : Nat), i < l.length ∧ U i = false := by
  have e := h.perm.length_eq
  rw [List.length_append] at e
  obtain ⟨y, hy⟩ : ∃ y, y ∈ lft l U := by
    cases hl : lft l U with
    | nil => rw [hl] at e; simp at e; omega
    | cons y t => exact ⟨y, by simp⟩
  obtain ⟨i, hi, hu, _⟩ := lft_mem l U y hy
  exact ⟨i, hi, hu⟩
/-! ### a row of marks -/
def Us (w : World) (b n : Nat) (U : Nat → Bool) : Prop := ∃ cur : Array Value, w.heap[b]? = some (.cells cur 4 (0, 0)) ∧ cur.size = n ∧ ∀ j, j < n → cur[j]? = some (.bool (U j))
theorem Us.kept {w w' : World} {b n : Nat} {U : Nat → Bool} (h : Us w b n U) (e : w'.heap[b]? = w.heap[b]?) : Us w' b n U := by
  obtain ⟨cur, h1, h2⟩ := h
  exact ⟨cur, e.trans h1, h2⟩
theorem Us.lt {w : World} {b n : Nat} {U : Nat → Bool} (h : Us w b n U) : b < w.heap.size := by
  obtain ⟨cur, h1, h2⟩ := h
  exact (Array.getElem?_eq_some_iff.1 h1).1
theorem Us.below {w w' : World} {b n : Nat} {U : Nat → Bool} (h : Us w b n U) (hb : Below w.heap.size w w') : Us w' b n U := h.kept (hb.block _ h.lt)
theorem Us.cell {w : World} {b n : Nat} {U : Nat → Bool} (h : Us w b n U) {j : Nat} (hj : j < n) : w.cell? ⟨b, j, none⟩ = some (.bool (U j)) := by
  obtain ⟨cur, h1, h2, h3⟩ := h
  rw [cell_of_row w b j _ _ (0, 0) h1]
  exact h3 j hj
theorem Us.free {w : World} {b n : Nat} {U : Nat → Bool} (h : Us w b n U) (j : Nat) : w.frozen? ⟨b, j, none⟩ = false := by
  obtain ⟨cur, h1, h2, h3⟩ := h
  exact Joins.unfrozen_of_block h1 j
theorem Us.set {w : World} {b n : Nat} {U : Nat → Bool} (h : Us w b n U) (k : Nat) : Us (w.setCell ⟨b, k, none⟩ (.bool true)) b n (usd U k) := by
  obtain ⟨cur, h1, h2, h3⟩ := h
  refine ⟨_, heap_setCell_same w b k cur _ _ h1, by simpa using h2, fun j hj => ?_⟩
  rw [Array.getElem?_setIfInBounds]
  by_cases e : k = j
  · subst e
    simp [h2, hj, usd]
  · rw [if_neg e, h3 j hj]
    have e' : ¬ j = k := fun x => e x.symm
    simp [usd, e']
theorem usinfo : (Tryd.prog.info? 4).map (fun i => (i.zero, i.size, i.bytes)) = some (some (.bool false), 1, 1) := by kernel_rfl
theorem Us.made {w : World} {base b n : Nat} (h : w.ownsRow base 4 1 (.slice (some ⟨b, 0, none⟩) n n) n (madeCells #[.bool false] n).toList) : Us w b n (fun _ => false) := by
  rcases h.2 with ⟨e, _⟩ | ⟨g, cap, cur, e, _, hb, _, _, hs, ht⟩
  · cases e
  · cases e
    refine ⟨cur, hb, by omega, fun j hj => ?_⟩
    have e1 : (madeCells #[Value.bool false] n).toList = List.replicate n (.bool false) := toList_madeCells_one (.bool false) n
    rw [e1] at ht
    have e2 : cur.toList[j]? = (cur.toList.take (n * 1))[j]? := by rw [List.getElem?_take, if_pos (by omega)]
    rw [← Array.getElem?_toList, e2, ht, List.getElem?_replicate, if_pos (by omega)]
theorem Us.ne {w : World} {b n base : Nat} {U : Nat → Bool} {v : Value} {ks : List Kd} (h : Us w b n U) (hk : OwnKids w base v ks) : v.ownBlock ≠ some b := by
  intro e
  obtain ⟨cur, h1, _⟩ := h
  rcases hk.2 with ⟨rfl, _⟩ | ⟨g, cap, cu, rfl, _, hb, _⟩
  · cases e
  · cases e
    rw [h1] at hb
    simp at hb
/-- Where the choosing stands. -/
def BsRel (w : World) (l : List Kd) (U : Nat → Bool) (v i : Value) (wr : World) : Prop :=
  ∃ m : Nat, m ≤ l.length ∧ i = .int .i64 (m : Int) ∧ Below w.heap.size w wr ∧
    ((v = .int .i64 (-1) ∧ ∀ j, j < m → U j = true) ∨ ∃ (b : Nat) (hb : b < l.length), v = .int .i64 (b : Int) ∧ U b = false ∧ ∀ (j : Nat) (hj : j < l.length), j < m → U j = false → (!ltOf kF l[j] l[b]) = true)
/-- Where the sorting stands. -/
def SoRel (w : World) (bu : Nat) (l : List Kd) (v i : Value) (wr : World) : Prop :=
  ∃ (out : List Kd) (U : Nat → Bool), out.length ≤ l.length ∧ i = .int .i64 (out.length : Int) ∧ OwnKids wr w.heap.size v out ∧ Us wr bu l.length U ∧ Sel l U out ∧ Below w.heap.size w wr
set_option maxHeartbeats 8000000 in
theorem rsorted_any (v : Value) (l : List Kd) (w : World) (hn : l.length ≤ 1000) (h : Kids w v l) : Calls Tryd.prog 44 #[v] w (KidsRet w (sortK l)) := by
  have HK := hide h
  obtain ⟨A, c, rfl, h1, h2, h3⟩ := h
  have H3 := hide h3
  unfold maxLen at h2
  clear h3
  obtain ⟨i0, hi0, hz0, hz1, hz2⟩ := info_parts usinfo
  have MB := hide (show i0.bytes * l.length ≤ 281474976710656 by rw [hz2]; omega)
  go_enter Tryd.func44, Tryd.ntmps44
  go_wp2_with (at_make; refine wpList_make_full _ rfl _ _ 23 rfl 0 4 i0 (.bool false) 1 Tryd.underlying23 hi0 hz0 hz1 .i64 .i64 _ _ l.length (by rfl) (by rfl) (by rfl) (by rfl) MB.out (by unfold maxLen; omega) (Nat.zero_le _) ?_)
  intro w1 hown1 hgr1
  have B1 := hide ((Below.refl w.heap.size w).grown hgr1 (Nat.le_refl _) (fun k hk => by cases hk))
  have S1 := hide (show SoRel w w.heap.size l (.slice none 0 0) (.int .i64 0) w1 from ⟨[], fun _ => false, Nat.zero_le _, rfl, OwnKids.nil _ _, Us.made hown1, Sel.start l, B1.out⟩)
  generalize hbu : w.heap.size = bu at S1 ⊢
  have HBU := hide hbu
  clear hown1 hgr1 hi0 hz0 hz1 hz2 MB B1 hbu
  go_wp2_with fail
  go_loopw [3, 5] (SoRel w bu l) (fun _ i _ => l.length - (intOf i).toNat)
  case atStart => exact S1.out
  case round =>
    rename World => wo
    clear S1
    obtain ⟨out, U, hol, rfl, hO, hU, hS, hb⟩ := hrel
    have OO := hide hO
    have UU := hide hU
    have SS := hide hS
    have BO := hide hb
    clear hO hU hS hb
    by_cases hlt : out.length < l.length
    · go_wp2_with fail
      go_loopw [6, 7] (BsRel wo l U) (fun _ i _ => l.length - (intOf i).toNat)
      case atStart => exact ⟨0, Nat.zero_le _, rfl, Below.refl _ _, .inl ⟨rfl, fun j hj => by omega⟩⟩
      case round =>
        rename World => wi
        obtain ⟨m, hm, rfl, hb, hbest⟩ := hrel
        have BI := hide hb
        clear hb
        by_cases hmt : m < l.length
        · have u1 := (UU.out.below BI.out).cell hmt
          have j1 : (m : Int) < (l.length : Int) := by omega
          have j0 : (0 : Int) ≤ (m : Int) := by omega
          cases hu : U m with
          | true =>
            rw [hu] at u1
            rcases hbest with ⟨rfl, ha⟩ | ⟨b, hbl, rfl, hub, hbe⟩
            · have N := hide (show ∀ j, j < m + 1 → U j = true from fun j hj => by
                by_cases e : j = m
                · rw [e]; exact hu
                · exact ha j (by omega))
              clear ha hu
              go_wp2_with fail
              go_roundw
              case rel => exact ⟨m + 1, by omega, by go_num, BI.out, .inl ⟨rfl, N.out⟩⟩
              case measure => simp [intOf]; omega
            · have N := hide (show ∀ (j : Nat) (hj : j < l.length), j < m + 1 → U j = false → (!ltOf kF l[j] l[b]) = true from fun j hj hjm huj => by
                by_cases e : j = m
                · rw [e, hu] at huj; cases huj
                · exact hbe j hj (by omega) huj)
              have NB := hide hub
              clear hbe hu hub
              go_wp2_with fail
              go_roundw
              case rel => exact ⟨m + 1, by omega, by go_num, BI.out, .inr ⟨b, hbl, rfl, NB.out, N.out⟩⟩
              case measure => simp [intOf]; omega
          | false =>
            rw [hu] at u1
            rcases hbest with ⟨rfl, ha⟩ | ⟨b, hbl, rfl, hub, hbe⟩
            · have N := hide (show ∀ (j : Nat) (hj : j < l.length), j < m + 1 → U j = false → (!ltOf kF l[j] l[m]) = true from fun j hj hjm huj => by
                by_cases e : j = m
                · subst e
                  simp [kLt, kF_order.same]
                · rw [ha j (by omega)] at huj; cases huj)
              have NB := hide hu
              clear ha hu
              go_wp2_with fail
              go_roundw
              case rel => exact ⟨m + 1, by omega, by go_num, BI.out, .inr ⟨m, hmt, rfl, NB.out, N.out⟩⟩
              case measure => simp [intOf]; omega
            · obtain ⟨bb, oo, rfl, hat⟩ := H3.out (by omega)
              have BT := (BO.out.trans (BI.out.mono BO.out.size))
              have AT := hide hat
              obtain ⟨r0, r1, r2⟩ := (hat.below BT).three m hmt
              obtain ⟨q0, q1, q2⟩ := (hat.below BT).three b hbl
              have k1 : (b : Int) < (l.length : Int) := by omega
              have k0 : (0 : Int) ≤ (b : Int) := by omega
              have kn : decide ((b : Int) < 0) = false := by simp
              have NB := hide hub
              have NM := hide hu
              have NE := hide hbe
              have KL := hide (fun W => rless_any l[m] l[b] W)
              obtain ⟨x, hx⟩ : ∃ x, x = l[m] := ⟨_, rfl⟩
              obtain ⟨y, hy⟩ : ∃ y, y = l[b] := ⟨_, rfl⟩
              rw [← hx] at r0 r1 r2
              rw [← hy] at q0 q1 q2
              rw [← hx, ← hy] at KL
              have EX := hide hx
              have EY := hide hy
              have hS0 := And.intro r0 (And.intro r1 (And.intro r2 (And.intro q0 (And.intro q1 q2))))
              clear hub hu hbe hx hy hat BT
              go_wp2_with fail
              go_region_held3 (fun w' => w'.cell? ⟨bb, oo + m * 3, none⟩ = some (.int .i64 x.to) ∧ w'.cell? ⟨bb, oo + m * 3 + 1, none⟩ = some (.string (bs x.nm)) ∧ w'.cell? ⟨bb, oo + m * 3 + 2, none⟩ = some (.int .i64 x.nd) ∧ w'.cell? ⟨bb, oo + b * 3, none⟩ = some (.int .i64 y.to) ∧ w'.cell? ⟨bb, oo + b * 3 + 1, none⟩ = some (.string (bs y.nm)) ∧ w'.cell? ⟨bb, oo + b * 3 + 2, none⟩ = some (.int .i64 y.nd))
                (first | with_reducible exact hS1 | with_reducible exact hS0 | go_keep)
                (first
                  | (go_at_call 63
                     (with_reducible refine (KL.out _).mono ?_)
                     rintro e w9 ⟨rfl, hb⟩
                     have hb' : Below wi.heap.size wi w9 := ⟨hb.os, hb.tape, hb.output, hb.size, hb.block⟩
                     have B9 := hide (BI.out.trans (hb'.mono BI.out.size))
                     have BT := (BO.out.trans (B9.out.mono BO.out.size))
                     obtain ⟨s0, s1, s2⟩ := (AT.out.below BT).three m hmt
                     obtain ⟨t0, t1, t2⟩ := (AT.out.below BT).three b hbl
                     rw [← EX.out] at s0 s1 s2
                     rw [← EY.out] at t0 t1 t2
                     have hS1 := And.intro s0 (And.intro s1 (And.intro s2 (And.intro t0 (And.intro t1 t2))))
                     clear hb hb' BT))
              clear hS0 hS1 r0 r1 r2 q0 q1 q2 s0 s1 s2 t0 t1 t2 u1
              cases hxy : ltOf kF x y with
              | true =>
                have N := hide (show ∀ (j : Nat) (hj : j < l.length), j < m + 1 → U j = false → (!ltOf kF l[j] l[m]) = true from fun j hj hjm huj => by
                  by_cases e : j = m
                  · subst e
                    simp [kLt, kF_order.same]
                  · have h5 := NE.out j hj (by omega) huj
                    have h6 : (!ltOf kF l[b] l[m]) = true := by
                      rw [← EX.out, ← EY.out]
                      have h7 := le_total' y x
                      rw [hxy] at h7
                      simpa using h7
                    exact le_trans' _ _ _ h6 h5)
                clear hxy
                go_wp2_with fail
                go_roundw
                case rel => exact ⟨m + 1, by omega, by go_num, B9.out, .inr ⟨m, hmt, rfl, NM.out, N.out⟩⟩
                case measure => simp [intOf]; omega
              | false =>
                have N := hide (show ∀ (j : Nat) (hj : j < l.length), j < m + 1 → U j = false → (!ltOf kF l[j] l[b]) = true from fun j hj hjm huj => by
                  by_cases e : j = m
                  · subst e
                    rw [← EX.out, ← EY.out, hxy]
                    rfl
                  · exact NE.out j hj (by omega) huj)
                clear hxy
                go_wp2_with fail
                go_roundw
                case rel => exact ⟨m + 1, by omega, by go_num, B9.out, .inr ⟨b, hbl, rfl, NB.out, N.out⟩⟩
                case measure => simp [intOf]; omega
        · obtain rfl : m = l.length := by omega
          rcases hbest with ⟨_, ha⟩ | ⟨b, hbl, rfl, hub, hbe⟩
          · exfalso
            obtain ⟨i, hi, hui⟩ := SS.out.more hlt
            rw [ha i hi] at hui
            cases hui
          have SN := hide (SS.out.step hbl hub (fun j hj hu => hbe j hj hj hu))
          obtain ⟨bb, oo, rfl, hat⟩ := H3.out (by omega)
          have BT := (BO.out.trans (BI.out.mono BO.out.size))
          have UI := hide (UU.out.below BI.out)
          have OI := hide (OO.out.below BI.out)
          have hnb := UI.out.ne OI.out
          have f1 := UI.out.free b
          have c1 := UI.out.cell hbl
          have k1 : (b : Int) < (l.length : Int) := by omega
          have k0 : (0 : Int) ≤ (b : Int) := by omega
          have UX := hide (UI.out.set b)
          have OX := hide (OI.out.kept (w' := wi.setCell ⟨bu, b, none⟩ (.bool true)) (fun b' hb' => heap_setCell_other wi _ b' _ (by rintro rfl; exact hnb hb')))
          have BX := hide (BT.setCell (p := ⟨bu, b, none⟩) (by show w.heap.size ≤ bu; rw [HBU.out]; exact Nat.le_refl _) (.bool true))
          have AT := hide hat
          clear hub hbe hat BT
          go_upto_region 17 with (fail)
          generalize wi.setCell ⟨bu, b, none⟩ (.bool true) = wx at UX OX BX ⊢
          clear f1 c1 UI OI
          have lw : w.heap.size ≤ wx.heap.size := BX.out.size
          obtain ⟨r0, r1, r2⟩ := (AT.out.below BX.out).three b hbl
          generalize l[b] = y at r0 r1 r2 SN
          have Bz := (Below.refl wx.heap.size wx).alloc (Nat.le_refl _) (.cells #[.int .i64 y.to, .string (bs y.nm), .int .i64 y.nd] 56)
          have O2 := hide (OX.out.below Bz)
          have U2 := hide (UX.out.below Bz)
          have B2 := hide (BX.out.trans (Bz.mono lw))
          have N2 := hide (kid_new wx y)
          have lz := Bz.size
          clear Bz
          go_wp2_with (at_builtin; refine wpList_append_kid _ rfl _ _ rfl w.heap.size _ out rfl O2.out ⟨wx.heap.size, 0, none⟩ 1 y rfl N2.out (by omega) (by omega) ?_)
          intro v6 w6 hown6 hg6 hat6
          have O6 := hide hown6
          have U6 := hide (U2.out.kept (hg6.block _ U2.out.lt (fun e => U2.out.ne O2.out e.symm)))
          have B6 := hide (B2.out.grown hg6 (by omega) (fun k hk => (O2.out.lt hk).1))
          have hln : (out ++ [y]).length = out.length + 1 := by simp
          have HLN := hide hln
          clear hown6 hg6 hat6 O2 U2 B2 N2 r0 r1 r2 hln
          go_wp2_with fail
          go_roundw
          case rel => exact ⟨out ++ [y], usd U b, by rw [HLN.out]; omega, by rw [HLN.out]; go_num, O6.out, U6.out, SN.out, B6.out⟩
          case measure => simp [intOf]; omega
    · have hoe : out.length = l.length := by omega
      have ES := hide (SS.out.done hoe)
      have HOE := hide hoe
      obtain ⟨A', c', hv, _, _, _⟩ := OO.out.form
      have hlt' : ¬ out.length < l.length := hlt
      clear hoe
      go_wp2
      go_ret
      refine ⟨_, rfl, ?_, BO.out⟩
      rw [← ES.out]
      exact OO.out
end Go.Proofs.YtlcmkikjgelfaaaDoor
