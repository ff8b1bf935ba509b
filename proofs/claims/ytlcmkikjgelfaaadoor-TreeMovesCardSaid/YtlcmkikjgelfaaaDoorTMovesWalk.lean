/-
  The walk of TreeMoves. Conditions: those of the statement.
-/
import Derived.Test.YtlcmkikjgelfaaaDoorTUpWalk
import Derived.OwnWalk
import Derived.Deep.DeepCutAuto
import Derived.Deep.RegionHeld3
namespace Go.Proofs.YtlcmkikjgelfaaaDoor
open Go.RowKit Go.Maps
set_option linter.unusedVariables false
set_option linter.unusedSimpArgs false
set_option maxRecDepth 100000

/-! ### what a moving leaves -/
theorem app_stays {L : List Kd} (h : Wf L) {o : O5} {k : Kd} (hk : k ∈ L) (hd : k.nd ≠ o.d ∨ can L o = false) : fnd (app L o) k.nd = some k := by
  unfold app
  split
  · rename_i hc
    rw [fnd_moved, if_neg (by rcases hd with hd | hd; exact hd; rw [hc] at hd; cases hd)]
    exact fnd_mem h.one hk
  · exact fnd_mem h.one hk
theorem app_moved {L : List Kd} {o : O5} (hc : can L o = true) : fnd (app L o) o.d = some o.kd := by
  unfold app
  rw [hc]
  simp only [if_true]
  rw [fnd_moved, if_pos rfl]
theorem app_not {L : List Kd} {o : O5} (hc : can L o = false) : app L o = L := by
  unfold app
  rw [hc]
  simp
theorem anc_moved {L : List Kd} {o : O5} {n : Int} : Anc (putS L o.d (some o.kd)) o.d n ↔ Anc L o.d n ∨ n = o.d := by
  constructor
  · intro h
    induction h with
    | self => exact .inr rfl
    | @up b k hf _ ih =>
      by_cases hb : b = o.d
      · exact .inr hb
      · rw [fnd_moved, if_neg hb] at hf
        refine .inl (.up hf ?_)
        rcases ih with ih | ih
        · exact ih
        · rw [ih]; exact .self
  · rintro (h | h)
    · induction h with
      | self => exact .self
      | @up b k hf _ ih =>
        by_cases hb : b = o.d
        · rw [hb]; exact .self
        · exact .up (k := k) (by rw [fnd_moved, if_neg hb]; exact hf) ih
    · rw [h]; exact .self
/-- What is below a node goes with it. -/
theorem app_under {L : List Kd} (h : Wf L) {o : O5} (hr : o.R = true) {k : Kd} (hk : k ∈ L) : abv (app L o) o.d k.nd = (abv L o.d k.nd || k.nd == o.d) := by
  have hW := h.app hr
  have hkn : isKn L k.nd = true := by unfold isKn; rw [fnd_mem h.one hk]; simp
  have hkn' : isKn (app L o) k.nd = true := by
    by_cases hd : k.nd = o.d
    · cases hc : can L o with
      | true => unfold isKn; rw [hd, app_moved hc]; simp
      | false => rw [app_not hc]; exact hkn
    · unfold isKn; rw [app_stays h hk (.inl hd)]; simp
  have e : abv (app L o) o.d k.nd = true ↔ (abv L o.d k.nd || k.nd == o.d) = true := by
    rw [hW.abv, Bool.or_eq_true, h.abv, beq_iff_eq]
    have hA : Anc (app L o) o.d k.nd ↔ Anc L o.d k.nd ∨ k.nd = o.d := by
      unfold app
      split
      · exact anc_moved
      · refine ⟨.inl, fun hx => ?_⟩
        rcases hx with hx | hx
        · exact hx
        · rw [hx]; exact .self
    rw [hA]
    constructor
    · rintro ⟨_, hx | hx⟩
      · exact .inl ⟨hkn, hx⟩
      · exact .inr hx
    · rintro (⟨_, hx⟩ | hx)
      · exact ⟨hkn', .inl hx⟩
      · exact ⟨hkn', .inr hx⟩
  exact Bool.eq_iff_iff.2 e
theorem self_above {L : List Kd} (h : Wf L) {k : Kd} (hk : k ∈ L) : abv L k.nd k.nd = true :=
  (h.abv _ _).2 ⟨by unfold isKn; rw [fnd_mem h.one hk]; simp, .self⟩
/-! ### a row of truths -/
/-- The first k of n truths are told. -/
def Bl (w : World) (b n : Nat) (f : Nat → Bool) (k : Nat) : Prop := ∃ cur : Array Value, w.heap[b]? = some (.cells cur 4 (0, 0)) ∧ cur.size = n ∧ ∀ j, j < k → cur[j]? = some (.bool (f j))
theorem Bl.kept {w w' : World} {b n k : Nat} {f : Nat → Bool} (h : Bl w b n f k) (e : w'.heap[b]? = w.heap[b]?) : Bl w' b n f k := by
  obtain ⟨cur, h1, h2⟩ := h
  exact ⟨cur, e.trans h1, h2⟩
theorem Bl.lt {w : World} {b n k : Nat} {f : Nat → Bool} (h : Bl w b n f k) : b < w.heap.size := by
  obtain ⟨cur, h1, h2⟩ := h
  exact (Array.getElem?_eq_some_iff.1 h1).1
theorem Bl.below {w w' : World} {b n k : Nat} {f : Nat → Bool} (h : Bl w b n f k) (hb : Below w.heap.size w w') : Bl w' b n f k := h.kept (hb.block _ h.lt)
theorem Bl.cell {w : World} {b n k : Nat} {f : Nat → Bool} (h : Bl w b n f k) {j : Nat} (hj : j < k) : w.cell? ⟨b, j, none⟩ = some (.bool (f j)) := by
  obtain ⟨cur, h1, h2, h3⟩ := h
  rw [cell_of_row w b j _ _ (0, 0) h1]
  exact h3 j hj
theorem Bl.any {w : World} {b n k : Nat} {f : Nat → Bool} (h : Bl w b n f k) {j : Nat} (hj : j < n) : ∃ u, w.cell? ⟨b, j, none⟩ = some u := by
  obtain ⟨cur, h1, h2, h3⟩ := h
  rw [cell_of_row w b j _ _ (0, 0) h1]
  exact ⟨cur[j], Array.getElem?_eq_getElem (by omega)⟩
theorem Bl.free {w : World} {b n k : Nat} {f : Nat → Bool} (h : Bl w b n f k) (j : Nat) : w.frozen? ⟨b, j, none⟩ = false := by
  obtain ⟨cur, h1, h2, h3⟩ := h
  exact Joins.unfrozen_of_block h1 j
theorem Bl.set {w : World} {b n k : Nat} {f : Nat → Bool} (h : Bl w b n f k) (hk : k < n) : Bl (w.setCell ⟨b, k, none⟩ (.bool (f k))) b n f (k + 1) := by
  obtain ⟨cur, h1, h2, h3⟩ := h
  refine ⟨_, heap_setCell_same w b k cur _ _ h1, by simpa using h2, fun j hj => ?_⟩
  rw [Array.getElem?_setIfInBounds]
  by_cases e : k = j
  · subst e
    simp [h2, hk]
  · rw [if_neg e]
    exact h3 j (by omega)
theorem cell_other (w : World) (p q : Addr) (u : Value) (h : q.block ≠ p.block) : (w.setCell p u).cell? q = w.cell? q := by
  unfold World.cell?
  rw [heap_setCell_other w p q.block u h]
theorem boolinfo : (Tryd.prog.info? 4).map (fun i => (i.zero, i.size, i.bytes)) = some (some (.bool false), 1, 1) := by kernel_rfl
theorem Bl.made {w : World} {base b n : Nat} {xs : List Value} (h : w.ownsRow base 4 1 (.slice (some ⟨b, 0, none⟩) n n) n xs) (f : Nat → Bool) : Bl w b n f 0 := by
  rcases h.2 with ⟨e, _⟩ | ⟨g, cap, cur, e, _, hb, _, _, hs, _⟩
  · cases e
  · cases e
    exact ⟨cur, hb, by omega, fun j hj => by omega⟩
/-- Where the asking stands. -/
def MvRel (w : World) (b n : Nat) (f : Nat → Bool) (i : Value) (wr : World) : Prop := ∃ k : Nat, k ≤ n ∧ i = .int .i64 (k : Int) ∧ Bl wr b n f k ∧ Below w.heap.size w wr
set_option maxHeartbeats 8000000 in
theorem treeMoves_walk (a : Option Addr) (len cap : Nat) (ts : List T5) (ta tb tc te tf : Int) (W : World) (h : IsTns W a len cap ts)
    (ha : (Lit.int .u8 ta).wf = true) (hb : (Lit.int .u8 tb).wf = true) (hc : (Lit.int .u8 tc).wf = true) (he : (Lit.int .u8 te).wf = true) (hf : (Lit.int .u8 tf).wf = true) (hE : Env W) :
    Calls Tryd.prog 7 #[.slice a len cap, .agg #[.int .u8 ta, .int .u8 tb, .int .u8 tc, .int .u8 te, .int .u8 tf]] W (TrueRet W) := by
  obtain ⟨rfl, hts, hok⟩ := h
  have ha := bounds_u8 ha
  have hb := bounds_u8 hb
  have hc := bounds_u8 hc
  have he := bounds_u8 he
  have hf := bounds_u8 hf
  obtain ⟨ta, rfl⟩ : ∃ n : Nat, ta = n := ⟨ta.toNat, by omega⟩
  obtain ⟨tb, rfl⟩ : ∃ n : Nat, tb = n := ⟨tb.toNat, by omega⟩
  obtain ⟨tc, rfl⟩ : ∃ n : Nat, tc = n := ⟨tc.toNat, by omega⟩
  obtain ⟨te, rfl⟩ : ∃ n : Nat, te = n := ⟨te.toNat, by omega⟩
  obtain ⟨tf, rfl⟩ : ∃ n : Nat, tf = n := ⟨tf.toNat, by omega⟩
  have KO := hide (fun W => of_any ta tb tc te tf W (by omega) (by omega) (by omega) (by omega) (by omega))
  obtain ⟨t, ht⟩ : ∃ t : T5, t = ⟨ta, tb, tc, te, tf⟩ := ⟨_, rfl⟩
  have hx : ofT t = ⟨1 + (ta : Int) % 40, (tb : Int) % 4, 256 + (tc : Int) % 8, toOf te, [b8 (97 + tf % 8)]⟩ := by rw [ht]; rfl
  have EX := hide hx
  clear ht hx ha hb hc he hf
  have Bz := (Below.refl W.heap.size W).alloc (Nat.le_refl _) (.cells #[.int .u8 (ta : Int), .int .u8 (tb : Int), .int .u8 (tc : Int), .int .u8 (te : Int), .int .u8 (tf : Int)] 59)
  have bx := heap_alloc_new W (.cells #[.int .u8 (ta : Int), .int .u8 (tb : Int), .int .u8 (tc : Int), .int .u8 (te : Int), .int .u8 (tf : Int)] 59)
  have HBX := hide bx
  have B0 := hide Bz
  have HT := hide hts
  have HK := hide hok
  have HE := hide hE
  have lx : W.heap.size < (W.alloc (.cells #[.int .u8 (ta : Int), .int .u8 (tb : Int), .int .u8 (tc : Int), .int .u8 (te : Int), .int .u8 (tf : Int)] 59)).heap.size := by simp
  clear Bz bx hts hok hE
  go_enter Tryd.func7, Tryd.ntmps7
  go_wp2_with fail
  refine (awake_any _ (HE.out.below B0.out)).mono ?_
  rintro e w1 ⟨rfl, hb⟩
  have B1 := hide (B0.out.trans (hb.mono (by simp)))
  have X1 := hide ((hb.block _ lx).trans HBX.out)
  clear hb B0 HBX lx
  by_cases h1 : ts.length ≤ 30
  · have d1 : decide ((ts.length : Int) > 30) = false := by simp; omega
    go_wp2_with fail
    clear d1
    refine (all_any a cap ts w1 (by omega) HK.out (HT.out.below B1.out)).mono ?_
    rintro e w2 ⟨v2, rfl, hown, hb⟩
    have B2 := hide (B1.out.trans (hb.mono B1.out.size))
    have X2 := hide ((hb.block _ (Array.getElem?_eq_some_iff.1 X1.out).1).trans X1.out)
    obtain ⟨A2, c2, rfl, p2⟩ := hown.ops
    have P2 := hide p2
    have KG := hide (grown_any A2 c2 (ts.map ofT) w2 (by simp; omega) (ofT_name ts) (HE.out.below B2.out) p2)
    have hrl := runS_len (ts.map ofT)
    have HH := hide (runS_hst (ts.map ofT))
    have hml : (ts.map ofT).length ≤ 30 := by simpa using h1
    generalize ts.map ofT = os at KG P2 hrl HH hml
    clear hown hb p2 B1 X1
    go_wp2_with fail
    refine KG.out.mono ?_
    rintro e w3 ⟨g, fs, rfl, hL⟩
    have L3 := hide hL
    have X3 := (hL.bel.block _ (Array.getElem?_eq_some_iff.1 X2.out).1).trans X2.out
    have y0 := cell_of_row _ _ 0 _ _ (0, 0) X3
    have y1 := cell_of_row _ _ 1 _ _ (0, 0) X3
    have y2 := cell_of_row _ _ 2 _ _ (0, 0) X3
    have y3 := cell_of_row _ _ 3 _ _ (0, 0) X3
    have y4 := cell_of_row _ _ 4 _ _ (0, 0) X3
    simp at y0 y1 y2 y3 y4
    generalize runS os = s at L3 HH hrl
    obtain ⟨L, r⟩ := s
    simp only at hrl
    have HW := hide HH.out.wf
    have hLn : L.length ≤ 30 := by
      have := HH.out.len
      simp only at this
      omega
    have hr30 : r.length ≤ 30 := by omega
    clear hL KG P2 X3 X2 hrl hml
    go_wp2_with fail
    refine (KO.out _).mono ?_
    rintro e w4 ⟨rfl, hb⟩
    have L4 := hide (L3.out.below hb)
    clear hb KO L3 y0 y1 y2 y3 y4
    obtain ⟨o, ho⟩ : ∃ o : O5, o = ofT t := ⟨_, rfl⟩
    have hR : o.R = true := by rw [ho]; exact ofT_R t
    have e1 : o.n = 1 + (ta : Int) % 40 := by rw [ho, EX.out]
    have e2 : o.r = (tb : Int) % 4 := by rw [ho, EX.out]
    have e3 : o.d = 256 + (tc : Int) % 8 := by rw [ho, EX.out]
    have e4 : o.t = toOf te := by rw [ho, EX.out]
    have e5 : o.l = [b8 (97 + tf % 8)] := by rw [ho, EX.out]
    have hdd := (O5.R_t hR).1
    have htt := (O5.R_t hR).2.1
    have hod : i64B o.d := by unfold i64B; omega
    have hot : i64B o.t := by unfold i64B; omega
    unfold opv
    rw [← e1, ← e2, ← e3, ← e4, ← e5]
    have HR := hide hR
    clear ho hR e1 e2 e3 e4 e5 EX
    have Bz := (Below.refl w4.heap.size w4).alloc (Nat.le_refl _) (.cells #[.int .i64 o.n, .int .i64 o.r, .int .i64 o.d, .int .i64 o.t, .string (bs o.l)] 37)
    have bx := heap_alloc_new w4 (.cells #[.int .i64 o.n, .int .i64 o.r, .int .i64 o.d, .int .i64 o.t, .string (bs o.l)] 37)
    have L5 := hide (L4.out.below Bz)
    have HX := hide bx
    have NF := hide (show w4.heap.size ∉ fs from fun hk => by have := L4.out.tr.lt _ hk; omega)
    have lx : w4.heap.size < (w4.alloc (.cells #[.int .i64 o.n, .int .i64 o.r, .int .i64 o.d, .int .i64 o.t, .string (bs o.l)] 37)).heap.size := by simp
    clear Bz bx L4 hdd htt
    go_upto_region 8 with (fail)
    generalize w4.alloc (.cells #[.int .i64 o.n, .int .i64 o.r, .int .i64 o.d, .int .i64 o.t, .string (bs o.l)] 37) = w5 at L5 HX lx ⊢
    generalize hbo : w4.heap.size = bo at HX NF lx ⊢
    clear hbo
    have z2 := cell_of_row _ _ 2 _ _ (0, 0) HX.out
    have z3 := cell_of_row _ _ 3 _ _ (0, 0) HX.out
    simp at z2 z3
    go_cut [8] (fun s8 wx => s8 = .bool (can L o) ∧ Below w5.heap.size w5 wx)
    case first =>
      have K0 := hide (tknown_any g L r fs o.t hot w5 L5.out.tr)
      have K1 := hide (tabove_any g L r fs o.d o.t hod hot w5 L5.out.tr)
      cases hkn : isKn L o.t with
      | false =>
        have EC := hide (show can L o = false by unfold can; rw [hkn]; rfl)
        rw [hkn] at K0
        clear hkn
        go_wp2_with fail
        refine K0.out.mono ?_
        rintro e w6 ⟨rfl, hw⟩
        subst hw
        go_wp2_with fail
        go_meet
        exact ⟨by rw [EC.out], Below.refl _ _⟩
      | true =>
        have EC := hide (show can L o = !abv L o.d o.t by unfold can; rw [hkn]; rfl)
        rw [hkn] at K0
        clear hkn
        go_wp2_with fail
        refine K0.out.mono ?_
        rintro e w6 ⟨rfl, hw⟩
        subst hw
        go_wp2_with fail
        refine K1.out.mono ?_
        rintro e w7 ⟨rfl, hb⟩
        have B7 := hide hb
        clear hb
        go_wp2_with fail
        go_meet
        exact ⟨by rw [EC.out], B7.out⟩
    case rest =>
      obtain ⟨rfl, hb⟩ := hcut
      have L6 := hide (L5.out.below hb)
      have X6 := (hb.block _ lx).trans HX.out
      have HX6 := hide X6
      have lx6 : bo < wc.heap.size := (Array.getElem?_eq_some_iff.1 X6).1
      clear hb X6 z2 z3 HX lx L5
      rename World => w6
      have KA := hide (tall_any g L r fs (by omega) w6 L6.out.tr)
      go_wp2_with fail
      refine KA.out.mono ?_
      rintro e w7 ⟨v7, rfl, hk7, hb⟩
      have L7 := hide (L6.out.below hb)
      have X7 := (hb.block _ lx6).trans HX6.out
      have HX7 := hide X7
      have lx7 : bo < w7.heap.size := (Array.getElem?_eq_some_iff.1 X7).1
      have hko : (sortK L).length ≤ 30 := by rw [sortK_length]; omega
      have PM := hide (sortK_perm L)
      have NV := hide (show ∀ b, v7.ownBlock = some b → b ∉ fs from fun b hb' hk => by
        have h2 := (hk7.lt hb').1
        have h3 := L6.out.tr.lt b hk
        omega)
      generalize hks : sortK L = ks at hk7 hko PM
      have EK := hide hks
      have K7 := hide (hk7.base (Nat.zero_le _))
      have LK := hide (show ∀ b, v7.ownBlock = some b → b < w7.heap.size from fun b hb' => (hk7.lt hb').2)
      obtain ⟨A7, c7, rfl, g1, g2, g3⟩ := hk7.kids
      have G7 := hide g3
      unfold maxLen at g2
      clear hk7 hb g3 KA L6 HX6 lx6 X7 hks
      obtain ⟨i0, hi0, hz0, hz1, hz2⟩ := info_parts boolinfo
      have MB := hide (show i0.bytes * ks.length ≤ 281474976710656 by rw [hz2]; omega)
      go_wp2_with (at_make; refine wpList_make_full _ rfl _ _ 23 rfl 0 4 i0 (.bool false) 1 Tryd.underlying23 hi0 hz0 hz1 .i64 .i64 _ _ ks.length (by rfl) (by rfl) (by rfl) (by rfl) MB.out (by unfold maxLen; omega) (Nat.zero_le _) ?_)
      intro w8 hown8 hgr8
      have B8 := hide ((Below.refl w7.heap.size w7).grown hgr8 (Nat.le_refl _) (fun k hk => by cases hk))
      obtain ⟨f, hf⟩ : ∃ f : Nat → Bool, f = fun j => abv L o.d (ks.getD j default).nd := ⟨_, rfl⟩
      have HF := hide (show ∀ j (h : j < ks.length), f j = abv L o.d ks[j].nd from fun j h => by rw [hf]; simp [List.getD, h])
      have S8 := hide (show MvRel w7 w7.heap.size ks.length f (.int .i64 0) w8 from ⟨0, Nat.zero_le _, rfl, Bl.made hown8 f, B8.out⟩)
      have NB := hide (show w7.heap.size ∉ fs from fun hk => by have := L7.out.tr.lt _ hk; omega)
      have hbu : w7.heap.size ≤ w7.heap.size := Nat.le_refl _
      have HLK := hide (show ∀ b, (Value.slice A7 ks.length c7).ownBlock = some b → b < w7.heap.size from LK.out)
      generalize hb7 : w7.heap.size = bu at S8 NB lx7 LK ⊢
      have HB7 := hide hb7
      clear hown8 hgr8 hi0 hz0 hz1 hz2 MB hf B8 hbu hb7 HLK
      go_wp2_with fail
      go_loopw [11] (MvRel w7 bu ks.length f) (fun i _ => ks.length - (intOf i).toNat)
      case atStart => exact S8.out
      case round =>
        rename World => wi
        clear S8
        obtain ⟨k, hk, rfl, hbl, hb⟩ := hrel
        have BB := hide hbl
        have BI := hide hb
        have LI := hide (L7.out.below hb)
        have XI := (hb.block _ (by rw [HB7.out]; exact lx7)).trans HX7.out
        have HXI := hide XI
        have z2 := cell_of_row _ _ 2 _ _ (0, 0) XI
        simp at z2
        clear hbl XI
        by_cases hlt : k < ks.length
        · obtain ⟨b, oo, rfl, hat⟩ := G7.out (by omega)
          obtain ⟨r0, r1, r2⟩ := (hat.below hb).three k hlt
          have AT := hide hat
          have i1 : (k : Int) < (ks.length : Int) := by omega
          have i0 : (0 : Int) ≤ (k : Int) := by omega
          obtain ⟨x, hx⟩ : ∃ x : Kd, x = ks[k] := ⟨_, rfl⟩
          rw [← hx] at r0 r1 r2
          have XL := hide (show x ∈ L by rw [hx]; exact PM.out.mem_iff.1 (List.getElem_mem hlt))
          have EF := hide (show abv L o.d x.nd = f k by rw [hx, HF.out k hlt])
          have hxd : i64B x.nd := by have := HW.out.lo x XL.out; unfold i64B; omega
          have KA := hide (fun W hW => tabove_any g L r fs o.d x.nd hod hxd W hW)
          rw [EF.out] at KA
          have n1 : bo ≠ bu := by omega
          have n2 : b ≠ bu := by
            have := LK.out b rfl
            omega
          have hS0 := And.intro z2 r2
          have LD := hide (LI.out.tr.below ((Below.refl _ _).drew))
          clear hx hb hat r0 r1
          go_wp2_with fail
          go_region_held3 (fun w' => w'.cell? ⟨bo, 2, none⟩ = some (.int .i64 o.d) ∧ w'.cell? ⟨b, oo + k * 3 + 2, none⟩ = some (.int .i64 x.nd))
            (first | with_reducible exact hS2 | with_reducible exact hS1 | with_reducible exact hS0 | go_keep)
            (first
              | (go_at_call 32
                 (with_reducible refine (KA.out _ ?hm).mono ?_)
                 case hm => exact LD.out
                 rintro e w9 ⟨rfl, hb⟩
                 have hb' : Below wi.heap.size wi w9 := ⟨hb.os, hb.tape, hb.output, hb.size, hb.block⟩
                 have B9 := hide (BB.out.below hb')
                 have BJ := hide (BI.out.trans (hb'.mono BI.out.size))
                 have X9 := (hb'.block _ (Array.getElem?_eq_some_iff.1 HXI.out).1).trans HXI.out
                 obtain ⟨r0, r1, r2'⟩ := (AT.out.below BJ.out).three k hlt
                 have r2' := (hb'.cell (p := ⟨b, oo + k * 3 + 2, none⟩) (World.block_lt_of_cell? _ _ r2)).trans r2
                 have hS1 := And.intro (cell_of_row _ _ 2 _ _ (0, 0) X9) r2'
                 simp at hS1
                 have hS2 := And.intro ((cell_other w9 ⟨bu, k, none⟩ ⟨bo, 2, none⟩ (.bool (f k)) n1).trans hS1.1) ((cell_other w9 ⟨bu, k, none⟩ ⟨b, oo + k * 3 + 2, none⟩ (.bool (f k)) n2).trans hS1.2)
                 obtain ⟨u, hu⟩ := B9.out.any hlt
                 have hz := B9.out.free k
                 clear hb hb' X9 r0 r1))
          have BL := hide (B9.out.set hlt)
          have BE := hide (BJ.out.setCell (p := ⟨bu, k, none⟩) (by show w7.heap.size ≤ bu; rw [HB7.out]; exact Nat.le_refl _) (.bool (f k)))
          clear hS0 hS1 hu hz z2 r2 r2'
          generalize w9.setCell ⟨bu, k, none⟩ (.bool (f k)) = wx at BL BE ⊢
          go_wp2_with fail
          go_roundw
          case rel => exact ⟨k + 1, by omega, by go_num, BL.out, BE.out⟩
          case measure => simp [intOf]; omega
        · obtain rfl : k = ks.length := by omega
          have eA : apB (L, r) o = can L o := by unfold apB; rw [HR.out]; rfl
          have eS : stp (L, r) o = (app L o, L :: r) := by unfold stp; rw [HR.out]; simp
          have KP := hide (tapply_any g (L, r) fs o (by have := right_len (O5.R_t HR.out).2.2; unfold maxLen; omega) (by show r.length < 900000; omega) wi ((HE.out.below B2.out).below LI.out.bel) LI.out.tr)
          rw [eA, eS] at KP
          have FZ := hide (show ∀ x ∈ L, ∃ z, fnd (app L o) x.nd = some z ∧ ((x.nd ≠ o.d ∨ can L o = false) → z = x) from fun x hx => by
            by_cases hd : x.nd ≠ o.d ∨ can L o = false
            · exact ⟨x, app_stays HW.out hx hd, fun _ => rfl⟩
            · have hd1 : x.nd = o.d := Classical.byContradiction fun h => hd (.inl h)
              have hd2 : can L o = true := by
                cases hc : can L o with
                | true => rfl
                | false => exact absurd (.inr hc) hd
              exact ⟨o.kd, by rw [hd1]; exact app_moved hd2, fun h => absurd h hd⟩)
          have FU := hide (fun x (hx : x ∈ L) => app_under HW.out HR.out hx)
          have FT := hide (fun h : can L o = true => app_moved h)
          have FN := hide (fun h : can L o = false => app_not h)
          have FQ := hide (show ∀ x ∈ L, x.nd = o.d → abv L o.d x.nd = true from fun x hx e => by rw [← e]; exact self_above HW.out hx)
          have hMn : (app L o).length ≤ 31 := by have := app_len L o; omega
          have z0 := cell_of_row _ _ 0 _ _ (0, 0) HXI.out
          have z1 := cell_of_row _ _ 1 _ _ (0, 0) HXI.out
          have z3 := cell_of_row _ _ 3 _ _ (0, 0) HXI.out
          have z4 := cell_of_row _ _ 4 _ _ (0, 0) HXI.out
          simp at z0 z1 z3 z4
          have KW := hide (K7.out.below hb)
          clear eA eS hb
          go_wp2_with fail
          refine KP.out.mono ?_
          rintro e w11 hr
          obtain ⟨rfl, fs6, hL6, hM6, _⟩ := LI.out.ret (s' := (app L o, L :: r)) hr
          have L11 := hide hL6
          have B11 := hide (BB.out.kept (hM6.block _ BB.out.lt NB.out))
          have X11 := (hM6.block _ (Array.getElem?_eq_some_iff.1 HXI.out).1 NF.out).trans HXI.out
          have HX11 := hide X11
          have lx11 : bo < w11.heap.size := (Array.getElem?_eq_some_iff.1 X11).1
          have KV := hide (KW.out.mod hM6 NV.out)
          generalize can L o = cc at FZ FT FN ⊢
          generalize app L o = M at L11 FZ FU FT FN hMn ⊢
          obtain ⟨A', c', he', g1', g2', g3'⟩ := KV.out.kids
          cases he'
          have G11 := hide g3'
          clear hr hL6 hM6 X11 KP KW LI BB BI HXI z0 z1 z2 z3 z4 g1' g2' g3' G7 K7 LK NB HX7 lx7 L7 HB7 NF NV
          go_wp2_with fail
          go_loopw [13] (UpRel w11 ks.length) (fun i _ => ks.length - (intOf i).toNat)
          case atStart => exact ⟨0, Nat.zero_le _, rfl, Below.refl _ _⟩
          case round =>
            rename World => wj
            obtain ⟨k, hk, rfl, hb⟩ := hrel
            have BI := hide hb
            have LJ := hide (L11.out.below hb)
            clear hb
            by_cases hlt : k < ks.length
            · obtain ⟨b, oo, rfl, hat⟩ := G11.out (by omega)
              obtain ⟨r0, r1, r2⟩ := (hat.below BI.out).three k hlt
              have AT := hide (hat.below BI.out)
              have i1 : (k : Int) < (ks.length : Int) := by omega
              have i0 : (0 : Int) ≤ (k : Int) := by omega
              obtain ⟨x, hx⟩ : ∃ x : Kd, x = ks[k] := ⟨_, rfl⟩
              rw [← hx] at r0 r1 r2
              have XE := hide hx
              have XL := hide (show x ∈ L by rw [hx]; exact PM.out.mem_iff.1 (List.getElem_mem hlt))
              have EF := hide (show f k = abv L o.d x.nd by rw [hx, HF.out k hlt])
              have hxd : i64B x.nd := by have := HW.out.lo x XL.out; unfold i64B; omega
              obtain ⟨z, hz, hzx⟩ := FZ.out x XL.out
              have KS := hide (tspot_any g M (L :: r) fs6 x.nd hxd wj LJ.out.tr)
              rw [hz] at KS
              have ZX := hide hzx
              clear hat hx hz hzx
              go_wp2_with fail
              refine KS.out.mono ?_
              rintro e w12 ⟨rfl, hb⟩
              have es : spv (some z) = .agg #[.bool true, .int .i64 z.to, .string (bs z.nm)] := rfl
              rw [es]
              have Bz := (Below.refl w12.heap.size w12).alloc (Nat.le_refl _) (.cells #[.bool true, .int .i64 z.to, .string (bs z.nm)] 39)
              have bx := heap_alloc_new w12 (.cells #[.bool true, .int .i64 z.to, .string (bs z.nm)] 39)
              have B12 := hide (BI.out.trans (hb.mono BI.out.size))
              have B13 := hide (B12.out.trans (Bz.mono B12.out.size))
              have L13 := hide ((LJ.out.below hb).below Bz)
              have A13 := hide ((AT.out.below hb).below Bz)
              have HBX := hide bx
              clear hb KS Bz bx es B12 LJ AT r0 r1 r2 BI
              go_upto_region 23 with (fail)
              generalize w12.alloc (.cells #[.bool true, .int .i64 z.to, .string (bs z.nm)] 39) = w13 at B13 L13 A13 HBX ⊢
              have y0 := cell_of_row _ _ 0 _ _ (0, 0) HBX.out
              have y1 := cell_of_row _ _ 1 _ _ (0, 0) HBX.out
              have y2 := cell_of_row _ _ 2 _ _ (0, 0) HBX.out
              simp at y0 y1 y2
              obtain ⟨r0, r1, r2⟩ := A13.out.three k hlt
              rw [← XE.out] at r0 r1 r2
              go_cut [16] from 71 to 136 (fun s16 wx => ∃ st : Bool, s16 = .bool st ∧ (x.nd ≠ o.d ∨ cc = false → st = true) ∧ Below w13.heap.size w13 wx)
              case first =>
                by_cases ht : z.to = x.to
                · have ht1 : (z.to == x.to) = true := by simp [ht]
                  have ht2 : decide (z.to = x.to) = true := by simp [ht]
                  by_cases hn : z.nm = x.nm
                  · have hs1 : ((bs z.nm).toList == (bs x.nm).toList) = true := by rw [hn]; simp
                    have hs2 : decide ((bs z.nm).toList = (bs x.nm).toList) = true := by rw [hn]; simp
                    clear ht hn
                    go_wp2_with fail
                    go_quiet (fail)
                    go_wp2
                    go_meet
                    exact ⟨true, rfl, fun _ => rfl, belowD' (Below.refl _ _) _⟩
                  · have hs1 : ((bs z.nm).toList == (bs x.nm).toList) = false := by rw [bs_list, bs_list]; simp [hn]
                    have hs2 : decide ((bs z.nm).toList = (bs x.nm).toList) = false := by rw [bs_list, bs_list]; simp [hn]
                    have ZN := hide (show x.nd ≠ o.d ∨ cc = false → false = true from fun h => absurd (by rw [ZX.out h]) hn)
                    clear ht hn
                    go_wp2_with fail
                    go_quiet (fail)
                    go_wp2
                    go_meet
                    exact ⟨false, rfl, ZN.out, belowD' (Below.refl _ _) _⟩
                · have ht1 : (z.to == x.to) = false := by simp [ht]
                  have ht2 : decide (z.to = x.to) = false := by simp [ht]
                  have ZN := hide (show x.nd ≠ o.d ∨ cc = false → false = true from fun h => absurd (by rw [ZX.out h]) ht)
                  clear ht
                  go_wp2_with fail
                  go_quiet (fail)
                  go_wp2
                  go_meet
                  exact ⟨false, rfl, ZN.out, belowD' (Below.refl _ _) _⟩
              case rest =>
                obtain ⟨st, rfl, hst, hb⟩ := hcut
                rename World => wm
                have ST := hide hst
                have BM := hide (B13.out.trans (hb.mono B13.out.size))
                have LM := hide (L13.out.below hb)
                have XM := (BM.out.block _ lx11).trans HX11.out
                have HXM := hide XM
                have BLM := hide (B11.out.below BM.out)
                have z1 := cell_of_row _ _ 2 _ _ (0, 0) XM
                simp at z1
                have u1 := BLM.out.cell hlt
                have KA := hide (fun W hW => tabove_any g M (L :: r) fs6 o.d x.nd hod hxd W hW)
                rw [FU.out x XL.out, ← EF.out] at KA
                have LD := hide (LM.out.tr.below ((Below.refl _ _).drew))
                have FQx := hide (show x.nd = o.d → f k = true from fun e => by rw [EF.out]; exact FQ.out x XL.out e)
                clear hst hb XM y0 y1 y2 r0 r1 r2 A13 L13 B13 ZX
                have hS0 := And.intro z1 u1
                by_cases hxo : x.nd = o.d
                · have hfk := FQx.out hxo
                  rw [hxo] at KA
                  rw [hfk] at KA u1 hS0
                  simp only [Bool.true_or] at KA
                  rw [hxo]
                  have STX := hide (show cc = false → st = true from fun h => ST.out (.inr h))
                  clear hfk ST FQx hxo hxd
                  cases cc with
                  | false =>
                    have hst := STX.out rfl
                    subst hst
                    go_wp2_with fail
                    refine wp_region_held_drew (S := fun w' => w'.cell? ⟨bo, 2, none⟩ = some (.int .i64 o.d) ∧ w'.cell? ⟨bu, k, none⟩ = some (.bool true)) (by kernel_rfl) hS0 (fun hHeld => ?_)
                    refine wpAnyH_take (i := 0) (oi := ⟨_, _, _, _, _, _⟩) (v := ?_) rfl (by kernel_rfl) (by kernel_rfl) (by kernel_rfl) (fun _ _ _ h => h) (Or.inl ⟨by rfl, ?_⟩) hHeld ?_
                    rotate_left
                    · (intro w' hSw; (try dsimp only at hSw); go_simp; try with_reducible rfl)
                    try simp only [Act.put, List.setIfInBounds_toArray, List.set_cons_zero, List.set_cons_succ]
                    refine wpAnyH_take (i := 1) (oi := ⟨_, _, _, _, _, _⟩) (v := ?_) rfl (by kernel_rfl) (by kernel_rfl) (by kernel_rfl) (fun _ _ _ h => h) (Or.inl ⟨by rfl, ?_⟩) hHeld ?_
                    rotate_left
                    · (intro w' hSw; (try dsimp only at hSw); go_simp; try with_reducible rfl)
                    try simp only [Act.put, List.setIfInBounds_toArray, List.set_cons_zero, List.set_cons_succ]
                    refine wpAnyH_take (i := 2) (oi := ⟨_, _, _, _, _, _⟩) (v := ?_) rfl (by kernel_rfl) (by kernel_rfl) (by kernel_rfl) (fun _ _ _ h => h) (Or.inl ⟨by rfl, ?_⟩) hHeld ?_
                    rotate_left
                    · (intro w' hSw; (try dsimp only at hSw); go_simp; try with_reducible rfl)
                    try simp only [Act.put, List.setIfInBounds_toArray, List.set_cons_zero, List.set_cons_succ]
                    refine wpAnyH_take (i := 3) (oi := ⟨_, _, _, _, _, _⟩) (v := ?_) rfl (by kernel_rfl) (by kernel_rfl) (by kernel_rfl) (fun _ _ _ h => h) (Or.inl ⟨by rfl, ?_⟩) hHeld ?_
                    rotate_left
                    · (intro w' hSw; (try dsimp only at hSw); go_simp; try with_reducible rfl)
                    try simp only [Act.put, List.setIfInBounds_toArray, List.set_cons_zero, List.set_cons_succ]
                    refine wpAnyH_take (i := 4) (oi := ⟨_, _, _, _, _, _⟩) (v := ?_) rfl (by kernel_rfl) (by kernel_rfl) (by kernel_rfl) (fun _ _ _ h => h) (Or.inl ⟨by rfl, ?_⟩) hHeld ?_
                    rotate_left
                    · (intro w' hSw; (try dsimp only at hSw); go_simp; try with_reducible rfl)
                    try simp only [Act.put, List.setIfInBounds_toArray, List.set_cons_zero, List.set_cons_succ]
                    refine wpAnyH_take (i := 5) (oi := ⟨_, _, _, _, _, _⟩) (v := ?_) rfl (by kernel_rfl) (by kernel_rfl) (by kernel_rfl) (fun _ _ _ h => h) (Or.inl ⟨by rfl, ?_⟩) hHeld ?_
                    rotate_left
                    · (intro w' hSw; (try dsimp only at hSw); go_simp; try with_reducible rfl)
                    try simp only [Act.put, List.setIfInBounds_toArray, List.set_cons_zero, List.set_cons_succ]
                    refine wpAnyH_take (i := 6) (oi := ⟨_, _, _, _, _, _⟩) (v := ?_) rfl (by kernel_rfl) (by kernel_rfl) (by kernel_rfl) (fun _ _ _ h => h) (Or.inl ⟨by rfl, ?_⟩) hHeld ?_
                    rotate_left
                    · (intro w' hSw; (try dsimp only at hSw); go_simp; try with_reducible rfl)
                    try simp only [Act.put, List.setIfInBounds_toArray, List.set_cons_zero, List.set_cons_succ]
                    refine wpAnyH_take (i := 7) (oi := ⟨_, _, _, _, _, _⟩) (v := ?_) rfl (by kernel_rfl) (by kernel_rfl) (by kernel_rfl) (fun _ _ _ h => h) (Or.inl ⟨by rfl, ?_⟩) hHeld ?_
                    rotate_left
                    · (intro w' hSw; (try dsimp only at hSw); go_simp; try with_reducible rfl)
                    try simp only [Act.put, List.setIfInBounds_toArray, List.set_cons_zero, List.set_cons_succ]
                    refine wpAnyH_take (i := 8) (oi := ⟨_, _, _, _, _, _⟩) (v := ?_) rfl (by kernel_rfl) (by kernel_rfl) (by kernel_rfl) (fun _ _ _ h => h) (Or.inl ⟨by rfl, ?_⟩) hHeld ?_
                    rotate_left
                    · (intro w' hSw; (try dsimp only at hSw); go_simp; try with_reducible rfl)
                    try simp only [Act.put, List.setIfInBounds_toArray, List.set_cons_zero, List.set_cons_succ]
                    refine wpAnyH_take (i := 9) (oi := ⟨_, _, _, _, _, _⟩) (v := ?_) rfl (by kernel_rfl) (by kernel_rfl) (by kernel_rfl) (fun _ _ _ h => h) (Or.inl ⟨by rfl, ?_⟩) hHeld ?_
                    rotate_left
                    · (intro w' hSw; (try dsimp only at hSw); go_simp; try with_reducible rfl)
                    try simp only [Act.put, List.setIfInBounds_toArray, List.set_cons_zero, List.set_cons_succ]
                    refine wpAnyH_take (i := 10) (oi := ⟨_, _, _, _, _, _⟩) (v := ?_) rfl (by kernel_rfl) (by kernel_rfl) (by kernel_rfl) (fun _ _ _ h => h) (Or.inl ⟨by rfl, ?_⟩) hHeld ?_
                    rotate_left
                    · (intro w' hSw; (try dsimp only at hSw); go_simp; try with_reducible rfl)
                    try simp only [Act.put, List.setIfInBounds_toArray, List.set_cons_zero, List.set_cons_succ]
                    refine wpAnyH_take (i := 11) (oi := ⟨_, _, _, _, _, _⟩) (v := ?_) rfl (by kernel_rfl) (by kernel_rfl) (by kernel_rfl) (fun _ _ _ h => h) (Or.inl ⟨by rfl, ?_⟩) hHeld ?_
                    rotate_left
                    · (intro w' hSw; (try dsimp only at hSw); go_simp; try with_reducible rfl)
                    try simp only [Act.put, List.setIfInBounds_toArray, List.set_cons_zero, List.set_cons_succ]
                    refine wpAnyH_take (i := 12) (oi := ⟨_, _, _, _, _, _⟩) (v := ?_) rfl (by kernel_rfl) (by kernel_rfl) (by kernel_rfl) (fun _ _ _ h => h) (Or.inl ⟨by rfl, ?_⟩) hHeld ?_
                    rotate_left
                    · (intro w' hSw; (try dsimp only at hSw); go_simp; try with_reducible rfl)
                    try simp only [Act.put, List.setIfInBounds_toArray, List.set_cons_zero, List.set_cons_succ]
                    refine wpAnyH_take (i := 13) (oi := ⟨_, _, _, _, _, _⟩) (v := ?_) rfl (by kernel_rfl) (by kernel_rfl) (by kernel_rfl) (fun _ _ _ h => h) (Or.inl ⟨by rfl, ?_⟩) hHeld ?_
                    rotate_left
                    · (intro w' hSw; (try dsimp only at hSw); go_simp; try with_reducible rfl)
                    try simp only [Act.put, List.setIfInBounds_toArray, List.set_cons_zero, List.set_cons_succ]
                    refine wpAnyH_take (i := 14) (oi := ⟨_, _, _, _, _, _⟩) (v := ?_) rfl (by kernel_rfl) (by kernel_rfl) (by kernel_rfl) (fun _ _ _ h => h) (Or.inl ⟨by rfl, ?_⟩) hHeld ?_
                    rotate_left
                    · (intro w' hSw; (try dsimp only at hSw); go_simp; try with_reducible rfl)
                    try simp only [Act.put, List.setIfInBounds_toArray, List.set_cons_zero, List.set_cons_succ]
                    refine wpAnyH_take (i := 15) (oi := ⟨_, _, _, _, _, _⟩) (v := ?_) rfl (by kernel_rfl) (by kernel_rfl) (by kernel_rfl) (fun _ _ _ h => h) (Or.inl ⟨by rfl, ?_⟩) hHeld ?_
                    rotate_left
                    · (intro w' hSw; (try dsimp only at hSw); go_simp; try with_reducible rfl)
                    try simp only [Act.put, List.setIfInBounds_toArray, List.set_cons_zero, List.set_cons_succ]
                    refine wpAnyH_take (i := 16) (oi := ⟨_, _, _, _, _, _⟩) (v := ?_) rfl (by kernel_rfl) (by kernel_rfl) (by kernel_rfl) (fun _ _ _ h => h) (Or.inl ⟨by rfl, ?_⟩) hHeld ?_
                    rotate_left
                    · (intro w' hSw; (try dsimp only at hSw); go_simp; try with_reducible rfl)
                    try simp only [Act.put, List.setIfInBounds_toArray, List.set_cons_zero, List.set_cons_succ]
                    refine wpAnyH_take (i := 18) (oi := ⟨_, _, _, _, _, _⟩) (v := ?_) rfl (by kernel_rfl) (by kernel_rfl) (by kernel_rfl) (fun _ _ _ h => h) (Or.inl ⟨by rfl, ?_⟩) hHeld ?_
                    rotate_left
                    · (intro w' hSw; (try dsimp only at hSw); go_simp; try with_reducible rfl)
                    try simp only [Act.put, List.setIfInBounds_toArray, List.set_cons_zero, List.set_cons_succ]
                    refine wpAnyH_take (i := 19) (oi := ⟨_, _, _, _, _, _⟩) (v := ?_) rfl (by kernel_rfl) (by kernel_rfl) (by kernel_rfl) (fun _ _ _ h => h) (Or.inl ⟨by rfl, ?_⟩) hHeld ?_
                    rotate_left
                    · (intro w' hSw; (try dsimp only at hSw); go_simp; try with_reducible rfl)
                    try simp only [Act.put, List.setIfInBounds_toArray, List.set_cons_zero, List.set_cons_succ]
                    refine wpAnyH_take (i := 20) (oi := ⟨_, _, _, _, _, _⟩) (v := ?_) rfl (by kernel_rfl) (by kernel_rfl) (by kernel_rfl) (fun _ _ _ h => h) (Or.inl ⟨by rfl, ?_⟩) hHeld ?_
                    rotate_left
                    · (intro w' hSw; (try dsimp only at hSw); go_simp; try with_reducible rfl)
                    try simp only [Act.put, List.setIfInBounds_toArray, List.set_cons_zero, List.set_cons_succ]
                    refine wpAnyH_take (i := 21) (oi := ⟨_, _, _, _, _, _⟩) (v := ?_) rfl (by kernel_rfl) (by kernel_rfl) (by kernel_rfl) (fun _ _ _ h => h) (Or.inl ⟨by rfl, ?_⟩) hHeld ?_
                    rotate_left
                    · (intro w' hSw; (try dsimp only at hSw); go_simp; try with_reducible rfl)
                    try simp only [Act.put, List.setIfInBounds_toArray, List.set_cons_zero, List.set_cons_succ]
                    refine wpAnyH_ready (rs := [17]) (by kernel_rfl) (by simp) ?_
                    refine AllReadyH.cons (o := ⟨_, _, _, _, _, _⟩) rfl (fun K hK => ?_) AllReadyH.nil
                    go_simp
                    refine (KA.out _ LD.out).mono ?_
                    rintro e w14 ⟨rfl, hb⟩
                    have hb' : Below wm.heap.size wm w14 := ⟨hb.os, hb.tape, hb.output, hb.size, hb.block⟩
                    have BN := hide (BM.out.trans (hb'.mono BM.out.size))
                    have q1 := (hb'.cell (p := ⟨bo, 2, none⟩) (World.block_lt_of_cell? _ _ z1)).trans z1
                    have q2 := (hb'.cell (p := ⟨bu, k, none⟩) (World.block_lt_of_cell? _ _ u1)).trans u1
                    clear hb hb'
                    go_wp2_with fail
                    refine hK.out _ _ ⟨q1, q2⟩ (fun hHeld => ?_)
                    clear hK K
                    try simp only [Act.put, List.setIfInBounds_toArray, List.set_cons_zero, List.set_cons_succ]
                    refine wpAnyH_take (i := 22) (oi := ⟨_, _, _, _, _, _⟩) (v := ?_) rfl (by kernel_rfl) (by kernel_rfl) (by kernel_rfl) (fun _ _ _ h => h) (Or.inl ⟨by rfl, ?_⟩) hHeld ?_
                    rotate_left
                    · (intro w' hSw; (try dsimp only at hSw); go_simp; try with_reducible rfl)
                    try simp only [Act.put, List.setIfInBounds_toArray, List.set_cons_zero, List.set_cons_succ]
                    refine wpAnyH_take (i := 23) (oi := ⟨_, _, _, _, _, _⟩) (v := undef) rfl (by kernel_rfl) (by kernel_rfl) (by kernel_rfl) (fun _ _ _ h => h) (Or.inr ⟨by rfl, rfl⟩) hHeld ?_
                    try simp only [Act.put, List.setIfInBounds_toArray, List.set_cons_zero, List.set_cons_succ]
                    refine wpAnyH_take (i := 24) (oi := ⟨_, _, _, _, _, _⟩) (v := undef) rfl (by kernel_rfl) (by kernel_rfl) (by kernel_rfl) (fun _ _ _ h => h) (Or.inr ⟨by rfl, rfl⟩) hHeld ?_
                    try simp only [Act.put, List.setIfInBounds_toArray, List.set_cons_zero, List.set_cons_succ]
                    refine wpAnyH_take (i := 25) (oi := ⟨_, _, _, _, _, _⟩) (v := undef) rfl (by kernel_rfl) (by kernel_rfl) (by kernel_rfl) (fun _ _ _ h => h) (Or.inr ⟨by rfl, rfl⟩) hHeld ?_
                    try simp only [Act.put, List.setIfInBounds_toArray, List.set_cons_zero, List.set_cons_succ]
                    refine wpAnyH_take (i := 26) (oi := ⟨_, _, _, _, _, _⟩) (v := undef) rfl (by kernel_rfl) (by kernel_rfl) (by kernel_rfl) (fun _ _ _ h => h) (Or.inr ⟨by rfl, rfl⟩) hHeld ?_
                    try simp only [Act.put, List.setIfInBounds_toArray, List.set_cons_zero, List.set_cons_succ]
                    refine wpAnyH_take (i := 27) (oi := ⟨_, _, _, _, _, _⟩) (v := ?_) rfl (by kernel_rfl) (by kernel_rfl) (by kernel_rfl) (fun _ _ _ h => h) (Or.inl ⟨by rfl, ?_⟩) hHeld ?_
                    rotate_left
                    · (intro w' hSw; (try dsimp only at hSw); go_simp; try with_reducible rfl)
                    try simp only [Act.put, List.setIfInBounds_toArray, List.set_cons_zero, List.set_cons_succ]
                    refine wpAnyH_take (i := 28) (oi := ⟨_, _, _, _, _, _⟩) (v := ?_) rfl (by kernel_rfl) (by kernel_rfl) (by kernel_rfl) (fun _ _ _ h => h) (Or.inl ⟨by rfl, ?_⟩) hHeld ?_
                    rotate_left
                    · (intro w' hSw; (try dsimp only at hSw); go_simp; try with_reducible rfl)
                    try simp only [Act.put, List.setIfInBounds_toArray, List.set_cons_zero, List.set_cons_succ]
                    refine wpAnyH_take (i := 29) (oi := ⟨_, _, _, _, _, _⟩) (v := ?_) rfl (by kernel_rfl) (by kernel_rfl) (by kernel_rfl) (fun _ _ _ h => h) (Or.inl ⟨by rfl, ?_⟩) hHeld ?_
                    rotate_left
                    · (intro w' hSw; (try dsimp only at hSw); go_simp; try with_reducible rfl)
                    try simp only [Act.put, List.setIfInBounds_toArray, List.set_cons_zero, List.set_cons_succ]
                    refine wpAnyH_done (by kernel_rfl) ?_ _
                    go_wp2_with fail
                    go_roundw
                    case rel => exact ⟨k + 1, by omega, by go_num, BN.out⟩
                    case measure => simp [intOf]; omega
                  | true =>
                    go_wp2_with fail
                    refine wp_region_held_drew (S := fun w' => w'.cell? ⟨bo, 2, none⟩ = some (.int .i64 o.d) ∧ w'.cell? ⟨bu, k, none⟩ = some (.bool true)) (by kernel_rfl) hS0 (fun hHeld => ?_)
                    refine wpAnyH_take (i := 0) (oi := ⟨_, _, _, _, _, _⟩) (v := ?_) rfl (by kernel_rfl) (by kernel_rfl) (by kernel_rfl) (fun _ _ _ h => h) (Or.inl ⟨by rfl, ?_⟩) hHeld ?_
                    rotate_left
                    · (intro w' hSw; (try dsimp only at hSw); go_simp; try with_reducible rfl)
                    try simp only [Act.put, List.setIfInBounds_toArray, List.set_cons_zero, List.set_cons_succ]
                    refine wpAnyH_take (i := 1) (oi := ⟨_, _, _, _, _, _⟩) (v := ?_) rfl (by kernel_rfl) (by kernel_rfl) (by kernel_rfl) (fun _ _ _ h => h) (Or.inl ⟨by rfl, ?_⟩) hHeld ?_
                    rotate_left
                    · (intro w' hSw; (try dsimp only at hSw); go_simp; try with_reducible rfl)
                    try simp only [Act.put, List.setIfInBounds_toArray, List.set_cons_zero, List.set_cons_succ]
                    refine wpAnyH_take (i := 2) (oi := ⟨_, _, _, _, _, _⟩) (v := ?_) rfl (by kernel_rfl) (by kernel_rfl) (by kernel_rfl) (fun _ _ _ h => h) (Or.inl ⟨by rfl, ?_⟩) hHeld ?_
                    rotate_left
                    · (intro w' hSw; (try dsimp only at hSw); go_simp; try with_reducible rfl)
                    try simp only [Act.put, List.setIfInBounds_toArray, List.set_cons_zero, List.set_cons_succ]
                    refine wpAnyH_take (i := 3) (oi := ⟨_, _, _, _, _, _⟩) (v := ?_) rfl (by kernel_rfl) (by kernel_rfl) (by kernel_rfl) (fun _ _ _ h => h) (Or.inl ⟨by rfl, ?_⟩) hHeld ?_
                    rotate_left
                    · (intro w' hSw; (try dsimp only at hSw); go_simp; try with_reducible rfl)
                    try simp only [Act.put, List.setIfInBounds_toArray, List.set_cons_zero, List.set_cons_succ]
                    refine wpAnyH_take (i := 4) (oi := ⟨_, _, _, _, _, _⟩) (v := ?_) rfl (by kernel_rfl) (by kernel_rfl) (by kernel_rfl) (fun _ _ _ h => h) (Or.inl ⟨by rfl, ?_⟩) hHeld ?_
                    rotate_left
                    · (intro w' hSw; (try dsimp only at hSw); go_simp; try with_reducible rfl)
                    try simp only [Act.put, List.setIfInBounds_toArray, List.set_cons_zero, List.set_cons_succ]
                    refine wpAnyH_take (i := 5) (oi := ⟨_, _, _, _, _, _⟩) (v := ?_) rfl (by kernel_rfl) (by kernel_rfl) (by kernel_rfl) (fun _ _ _ h => h) (Or.inl ⟨by rfl, ?_⟩) hHeld ?_
                    rotate_left
                    · (intro w' hSw; (try dsimp only at hSw); go_simp; try with_reducible rfl)
                    try simp only [Act.put, List.setIfInBounds_toArray, List.set_cons_zero, List.set_cons_succ]
                    refine wpAnyH_take (i := 6) (oi := ⟨_, _, _, _, _, _⟩) (v := ?_) rfl (by kernel_rfl) (by kernel_rfl) (by kernel_rfl) (fun _ _ _ h => h) (Or.inl ⟨by rfl, ?_⟩) hHeld ?_
                    rotate_left
                    · (intro w' hSw; (try dsimp only at hSw); go_simp; try with_reducible rfl)
                    try simp only [Act.put, List.setIfInBounds_toArray, List.set_cons_zero, List.set_cons_succ]
                    refine wpAnyH_take (i := 7) (oi := ⟨_, _, _, _, _, _⟩) (v := ?_) rfl (by kernel_rfl) (by kernel_rfl) (by kernel_rfl) (fun _ _ _ h => h) (Or.inl ⟨by rfl, ?_⟩) hHeld ?_
                    rotate_left
                    · (intro w' hSw; (try dsimp only at hSw); go_simp; try with_reducible rfl)
                    try simp only [Act.put, List.setIfInBounds_toArray, List.set_cons_zero, List.set_cons_succ]
                    refine wpAnyH_take (i := 8) (oi := ⟨_, _, _, _, _, _⟩) (v := ?_) rfl (by kernel_rfl) (by kernel_rfl) (by kernel_rfl) (fun _ _ _ h => h) (Or.inl ⟨by rfl, ?_⟩) hHeld ?_
                    rotate_left
                    · (intro w' hSw; (try dsimp only at hSw); go_simp; try with_reducible rfl)
                    try simp only [Act.put, List.setIfInBounds_toArray, List.set_cons_zero, List.set_cons_succ]
                    refine wpAnyH_take (i := 9) (oi := ⟨_, _, _, _, _, _⟩) (v := undef) rfl (by kernel_rfl) (by kernel_rfl) (by kernel_rfl) (fun _ _ _ h => h) (Or.inr ⟨by rfl, rfl⟩) hHeld ?_
                    try simp only [Act.put, List.setIfInBounds_toArray, List.set_cons_zero, List.set_cons_succ]
                    refine wpAnyH_take (i := 10) (oi := ⟨_, _, _, _, _, _⟩) (v := undef) rfl (by kernel_rfl) (by kernel_rfl) (by kernel_rfl) (fun _ _ _ h => h) (Or.inr ⟨by rfl, rfl⟩) hHeld ?_
                    try simp only [Act.put, List.setIfInBounds_toArray, List.set_cons_zero, List.set_cons_succ]
                    refine wpAnyH_take (i := 11) (oi := ⟨_, _, _, _, _, _⟩) (v := ?_) rfl (by kernel_rfl) (by kernel_rfl) (by kernel_rfl) (fun _ _ _ h => h) (Or.inl ⟨by rfl, ?_⟩) hHeld ?_
                    rotate_left
                    · (intro w' hSw; (try dsimp only at hSw); go_simp; try with_reducible rfl)
                    try simp only [Act.put, List.setIfInBounds_toArray, List.set_cons_zero, List.set_cons_succ]
                    refine wpAnyH_take (i := 12) (oi := ⟨_, _, _, _, _, _⟩) (v := ?_) rfl (by kernel_rfl) (by kernel_rfl) (by kernel_rfl) (fun _ _ _ h => h) (Or.inl ⟨by rfl, ?_⟩) hHeld ?_
                    rotate_left
                    · (intro w' hSw; (try dsimp only at hSw); go_simp; try with_reducible rfl)
                    try simp only [Act.put, List.setIfInBounds_toArray, List.set_cons_zero, List.set_cons_succ]
                    refine wpAnyH_take (i := 13) (oi := ⟨_, _, _, _, _, _⟩) (v := ?_) rfl (by kernel_rfl) (by kernel_rfl) (by kernel_rfl) (fun _ _ _ h => h) (Or.inl ⟨by rfl, ?_⟩) hHeld ?_
                    rotate_left
                    · (intro w' hSw; (try dsimp only at hSw); go_simp; try with_reducible rfl)
                    try simp only [Act.put, List.setIfInBounds_toArray, List.set_cons_zero, List.set_cons_succ]
                    refine wpAnyH_take (i := 14) (oi := ⟨_, _, _, _, _, _⟩) (v := ?_) rfl (by kernel_rfl) (by kernel_rfl) (by kernel_rfl) (fun _ _ _ h => h) (Or.inl ⟨by rfl, ?_⟩) hHeld ?_
                    rotate_left
                    · (intro w' hSw; (try dsimp only at hSw); go_simp; try with_reducible rfl)
                    try simp only [Act.put, List.setIfInBounds_toArray, List.set_cons_zero, List.set_cons_succ]
                    refine wpAnyH_take (i := 15) (oi := ⟨_, _, _, _, _, _⟩) (v := ?_) rfl (by kernel_rfl) (by kernel_rfl) (by kernel_rfl) (fun _ _ _ h => h) (Or.inl ⟨by rfl, ?_⟩) hHeld ?_
                    rotate_left
                    · (intro w' hSw; (try dsimp only at hSw); go_simp; try with_reducible rfl)
                    try simp only [Act.put, List.setIfInBounds_toArray, List.set_cons_zero, List.set_cons_succ]
                    refine wpAnyH_take (i := 16) (oi := ⟨_, _, _, _, _, _⟩) (v := ?_) rfl (by kernel_rfl) (by kernel_rfl) (by kernel_rfl) (fun _ _ _ h => h) (Or.inl ⟨by rfl, ?_⟩) hHeld ?_
                    rotate_left
                    · (intro w' hSw; (try dsimp only at hSw); go_simp; try with_reducible rfl)
                    try simp only [Act.put, List.setIfInBounds_toArray, List.set_cons_zero, List.set_cons_succ]
                    refine wpAnyH_take (i := 18) (oi := ⟨_, _, _, _, _, _⟩) (v := ?_) rfl (by kernel_rfl) (by kernel_rfl) (by kernel_rfl) (fun _ _ _ h => h) (Or.inl ⟨by rfl, ?_⟩) hHeld ?_
                    rotate_left
                    · (intro w' hSw; (try dsimp only at hSw); go_simp; try with_reducible rfl)
                    try simp only [Act.put, List.setIfInBounds_toArray, List.set_cons_zero, List.set_cons_succ]
                    refine wpAnyH_take (i := 19) (oi := ⟨_, _, _, _, _, _⟩) (v := ?_) rfl (by kernel_rfl) (by kernel_rfl) (by kernel_rfl) (fun _ _ _ h => h) (Or.inl ⟨by rfl, ?_⟩) hHeld ?_
                    rotate_left
                    · (intro w' hSw; (try dsimp only at hSw); go_simp; try with_reducible rfl)
                    try simp only [Act.put, List.setIfInBounds_toArray, List.set_cons_zero, List.set_cons_succ]
                    refine wpAnyH_take (i := 20) (oi := ⟨_, _, _, _, _, _⟩) (v := ?_) rfl (by kernel_rfl) (by kernel_rfl) (by kernel_rfl) (fun _ _ _ h => h) (Or.inl ⟨by rfl, ?_⟩) hHeld ?_
                    rotate_left
                    · (intro w' hSw; (try dsimp only at hSw); go_simp; try with_reducible rfl)
                    try simp only [Act.put, List.setIfInBounds_toArray, List.set_cons_zero, List.set_cons_succ]
                    refine wpAnyH_take (i := 21) (oi := ⟨_, _, _, _, _, _⟩) (v := ?_) rfl (by kernel_rfl) (by kernel_rfl) (by kernel_rfl) (fun _ _ _ h => h) (Or.inl ⟨by rfl, ?_⟩) hHeld ?_
                    rotate_left
                    · (intro w' hSw; (try dsimp only at hSw); go_simp; try with_reducible rfl)
                    try simp only [Act.put, List.setIfInBounds_toArray, List.set_cons_zero, List.set_cons_succ]
                    refine wpAnyH_ready (rs := [17]) (by kernel_rfl) (by simp) ?_
                    refine AllReadyH.cons (o := ⟨_, _, _, _, _, _⟩) rfl (fun K hK => ?_) AllReadyH.nil
                    go_simp
                    refine (KA.out _ LD.out).mono ?_
                    rintro e w14 ⟨rfl, hb⟩
                    have hb' : Below wm.heap.size wm w14 := ⟨hb.os, hb.tape, hb.output, hb.size, hb.block⟩
                    have BN := hide (BM.out.trans (hb'.mono BM.out.size))
                    have q1 := (hb'.cell (p := ⟨bo, 2, none⟩) (World.block_lt_of_cell? _ _ z1)).trans z1
                    have q2 := (hb'.cell (p := ⟨bu, k, none⟩) (World.block_lt_of_cell? _ _ u1)).trans u1
                    clear hb hb'
                    go_wp2_with fail
                    refine hK.out _ _ ⟨q1, q2⟩ (fun hHeld => ?_)
                    clear hK K
                    try simp only [Act.put, List.setIfInBounds_toArray, List.set_cons_zero, List.set_cons_succ]
                    refine wpAnyH_take (i := 22) (oi := ⟨_, _, _, _, _, _⟩) (v := ?_) rfl (by kernel_rfl) (by kernel_rfl) (by kernel_rfl) (fun _ _ _ h => h) (Or.inl ⟨by rfl, ?_⟩) hHeld ?_
                    rotate_left
                    · (intro w' hSw; (try dsimp only at hSw); go_simp; try with_reducible rfl)
                    try simp only [Act.put, List.setIfInBounds_toArray, List.set_cons_zero, List.set_cons_succ]
                    refine wpAnyH_take (i := 23) (oi := ⟨_, _, _, _, _, _⟩) (v := undef) rfl (by kernel_rfl) (by kernel_rfl) (by kernel_rfl) (fun _ _ _ h => h) (Or.inr ⟨by rfl, rfl⟩) hHeld ?_
                    try simp only [Act.put, List.setIfInBounds_toArray, List.set_cons_zero, List.set_cons_succ]
                    refine wpAnyH_take (i := 24) (oi := ⟨_, _, _, _, _, _⟩) (v := undef) rfl (by kernel_rfl) (by kernel_rfl) (by kernel_rfl) (fun _ _ _ h => h) (Or.inr ⟨by rfl, rfl⟩) hHeld ?_
                    try simp only [Act.put, List.setIfInBounds_toArray, List.set_cons_zero, List.set_cons_succ]
                    refine wpAnyH_take (i := 25) (oi := ⟨_, _, _, _, _, _⟩) (v := undef) rfl (by kernel_rfl) (by kernel_rfl) (by kernel_rfl) (fun _ _ _ h => h) (Or.inr ⟨by rfl, rfl⟩) hHeld ?_
                    try simp only [Act.put, List.setIfInBounds_toArray, List.set_cons_zero, List.set_cons_succ]
                    refine wpAnyH_take (i := 26) (oi := ⟨_, _, _, _, _, _⟩) (v := undef) rfl (by kernel_rfl) (by kernel_rfl) (by kernel_rfl) (fun _ _ _ h => h) (Or.inr ⟨by rfl, rfl⟩) hHeld ?_
                    try simp only [Act.put, List.setIfInBounds_toArray, List.set_cons_zero, List.set_cons_succ]
                    refine wpAnyH_take (i := 27) (oi := ⟨_, _, _, _, _, _⟩) (v := ?_) rfl (by kernel_rfl) (by kernel_rfl) (by kernel_rfl) (fun _ _ _ h => h) (Or.inl ⟨by rfl, ?_⟩) hHeld ?_
                    rotate_left
                    · (intro w' hSw; (try dsimp only at hSw); go_simp; try with_reducible rfl)
                    try simp only [Act.put, List.setIfInBounds_toArray, List.set_cons_zero, List.set_cons_succ]
                    refine wpAnyH_take (i := 28) (oi := ⟨_, _, _, _, _, _⟩) (v := ?_) rfl (by kernel_rfl) (by kernel_rfl) (by kernel_rfl) (fun _ _ _ h => h) (Or.inl ⟨by rfl, ?_⟩) hHeld ?_
                    rotate_left
                    · (intro w' hSw; (try dsimp only at hSw); go_simp; try with_reducible rfl)
                    try simp only [Act.put, List.setIfInBounds_toArray, List.set_cons_zero, List.set_cons_succ]
                    refine wpAnyH_take (i := 29) (oi := ⟨_, _, _, _, _, _⟩) (v := ?_) rfl (by kernel_rfl) (by kernel_rfl) (by kernel_rfl) (fun _ _ _ h => h) (Or.inl ⟨by rfl, ?_⟩) hHeld ?_
                    rotate_left
                    · (intro w' hSw; (try dsimp only at hSw); go_simp; try with_reducible rfl)
                    try simp only [Act.put, List.setIfInBounds_toArray, List.set_cons_zero, List.set_cons_succ]
                    refine wpAnyH_done (by kernel_rfl) ?_ _
                    go_wp2_with fail
                    go_roundw
                    case rel => exact ⟨k + 1, by omega, by go_num, BN.out⟩
                    case measure => simp [intOf]; omega
                · have hst := ST.out (.inl hxo)
                  subst hst
                  have hx1 : (x.nd != o.d) = true := by simp [hxo]
                  have hx2 : (x.nd == o.d) = false := by simp [hxo]
                  rw [hx2, Bool.or_false] at KA
                  clear hxo ST FQx
                  generalize f k = fk at KA u1 hS0
                  cases fk with
                  | false =>
                    go_wp2_with fail
                    refine wp_region_held_drew (S := fun w' => w'.cell? ⟨bo, 2, none⟩ = some (.int .i64 o.d) ∧ w'.cell? ⟨bu, k, none⟩ = some (.bool false)) (by kernel_rfl) hS0 (fun hHeld => ?_)
                    refine wpAnyH_take (i := 0) (oi := ⟨_, _, _, _, _, _⟩) (v := ?_) rfl (by kernel_rfl) (by kernel_rfl) (by kernel_rfl) (fun _ _ _ h => h) (Or.inl ⟨by rfl, ?_⟩) hHeld ?_
                    rotate_left
                    · (intro w' hSw; (try dsimp only at hSw); go_simp; try with_reducible rfl)
                    try simp only [Act.put, List.setIfInBounds_toArray, List.set_cons_zero, List.set_cons_succ]
                    refine wpAnyH_take (i := 1) (oi := ⟨_, _, _, _, _, _⟩) (v := ?_) rfl (by kernel_rfl) (by kernel_rfl) (by kernel_rfl) (fun _ _ _ h => h) (Or.inl ⟨by rfl, ?_⟩) hHeld ?_
                    rotate_left
                    · (intro w' hSw; (try dsimp only at hSw); go_simp; try with_reducible rfl)
                    try simp only [Act.put, List.setIfInBounds_toArray, List.set_cons_zero, List.set_cons_succ]
                    refine wpAnyH_take (i := 2) (oi := ⟨_, _, _, _, _, _⟩) (v := ?_) rfl (by kernel_rfl) (by kernel_rfl) (by kernel_rfl) (fun _ _ _ h => h) (Or.inl ⟨by rfl, ?_⟩) hHeld ?_
                    rotate_left
                    · (intro w' hSw; (try dsimp only at hSw); go_simp; try with_reducible rfl)
                    try simp only [Act.put, List.setIfInBounds_toArray, List.set_cons_zero, List.set_cons_succ]
                    refine wpAnyH_take (i := 3) (oi := ⟨_, _, _, _, _, _⟩) (v := ?_) rfl (by kernel_rfl) (by kernel_rfl) (by kernel_rfl) (fun _ _ _ h => h) (Or.inl ⟨by rfl, ?_⟩) hHeld ?_
                    rotate_left
                    · (intro w' hSw; (try dsimp only at hSw); go_simp; try with_reducible rfl)
                    try simp only [Act.put, List.setIfInBounds_toArray, List.set_cons_zero, List.set_cons_succ]
                    refine wpAnyH_take (i := 4) (oi := ⟨_, _, _, _, _, _⟩) (v := ?_) rfl (by kernel_rfl) (by kernel_rfl) (by kernel_rfl) (fun _ _ _ h => h) (Or.inl ⟨by rfl, ?_⟩) hHeld ?_
                    rotate_left
                    · (intro w' hSw; (try dsimp only at hSw); go_simp; try with_reducible rfl)
                    try simp only [Act.put, List.setIfInBounds_toArray, List.set_cons_zero, List.set_cons_succ]
                    refine wpAnyH_take (i := 5) (oi := ⟨_, _, _, _, _, _⟩) (v := undef) rfl (by kernel_rfl) (by kernel_rfl) (by kernel_rfl) (fun _ _ _ h => h) (Or.inr ⟨by rfl, rfl⟩) hHeld ?_
                    try simp only [Act.put, List.setIfInBounds_toArray, List.set_cons_zero, List.set_cons_succ]
                    refine wpAnyH_take (i := 6) (oi := ⟨_, _, _, _, _, _⟩) (v := undef) rfl (by kernel_rfl) (by kernel_rfl) (by kernel_rfl) (fun _ _ _ h => h) (Or.inr ⟨by rfl, rfl⟩) hHeld ?_
                    try simp only [Act.put, List.setIfInBounds_toArray, List.set_cons_zero, List.set_cons_succ]
                    refine wpAnyH_take (i := 7) (oi := ⟨_, _, _, _, _, _⟩) (v := ?_) rfl (by kernel_rfl) (by kernel_rfl) (by kernel_rfl) (fun _ _ _ h => h) (Or.inl ⟨by rfl, ?_⟩) hHeld ?_
                    rotate_left
                    · (intro w' hSw; (try dsimp only at hSw); go_simp; try with_reducible rfl)
                    try simp only [Act.put, List.setIfInBounds_toArray, List.set_cons_zero, List.set_cons_succ]
                    refine wpAnyH_take (i := 8) (oi := ⟨_, _, _, _, _, _⟩) (v := ?_) rfl (by kernel_rfl) (by kernel_rfl) (by kernel_rfl) (fun _ _ _ h => h) (Or.inl ⟨by rfl, ?_⟩) hHeld ?_
                    rotate_left
                    · (intro w' hSw; (try dsimp only at hSw); go_simp; try with_reducible rfl)
                    try simp only [Act.put, List.setIfInBounds_toArray, List.set_cons_zero, List.set_cons_succ]
                    refine wpAnyH_take (i := 9) (oi := ⟨_, _, _, _, _, _⟩) (v := ?_) rfl (by kernel_rfl) (by kernel_rfl) (by kernel_rfl) (fun _ _ _ h => h) (Or.inl ⟨by rfl, ?_⟩) hHeld ?_
                    rotate_left
                    · (intro w' hSw; (try dsimp only at hSw); go_simp; try with_reducible rfl)
                    try simp only [Act.put, List.setIfInBounds_toArray, List.set_cons_zero, List.set_cons_succ]
                    refine wpAnyH_take (i := 10) (oi := ⟨_, _, _, _, _, _⟩) (v := ?_) rfl (by kernel_rfl) (by kernel_rfl) (by kernel_rfl) (fun _ _ _ h => h) (Or.inl ⟨by rfl, ?_⟩) hHeld ?_
                    rotate_left
                    · (intro w' hSw; (try dsimp only at hSw); go_simp; try with_reducible rfl)
                    try simp only [Act.put, List.setIfInBounds_toArray, List.set_cons_zero, List.set_cons_succ]
                    refine wpAnyH_take (i := 11) (oi := ⟨_, _, _, _, _, _⟩) (v := ?_) rfl (by kernel_rfl) (by kernel_rfl) (by kernel_rfl) (fun _ _ _ h => h) (Or.inl ⟨by rfl, ?_⟩) hHeld ?_
                    rotate_left
                    · (intro w' hSw; (try dsimp only at hSw); go_simp; try with_reducible rfl)
                    try simp only [Act.put, List.setIfInBounds_toArray, List.set_cons_zero, List.set_cons_succ]
                    refine wpAnyH_take (i := 12) (oi := ⟨_, _, _, _, _, _⟩) (v := ?_) rfl (by kernel_rfl) (by kernel_rfl) (by kernel_rfl) (fun _ _ _ h => h) (Or.inl ⟨by rfl, ?_⟩) hHeld ?_
                    rotate_left
                    · (intro w' hSw; (try dsimp only at hSw); go_simp; try with_reducible rfl)
                    try simp only [Act.put, List.setIfInBounds_toArray, List.set_cons_zero, List.set_cons_succ]
                    refine wpAnyH_take (i := 13) (oi := ⟨_, _, _, _, _, _⟩) (v := ?_) rfl (by kernel_rfl) (by kernel_rfl) (by kernel_rfl) (fun _ _ _ h => h) (Or.inl ⟨by rfl, ?_⟩) hHeld ?_
                    rotate_left
                    · (intro w' hSw; (try dsimp only at hSw); go_simp; try with_reducible rfl)
                    try simp only [Act.put, List.setIfInBounds_toArray, List.set_cons_zero, List.set_cons_succ]
                    refine wpAnyH_take (i := 14) (oi := ⟨_, _, _, _, _, _⟩) (v := ?_) rfl (by kernel_rfl) (by kernel_rfl) (by kernel_rfl) (fun _ _ _ h => h) (Or.inl ⟨by rfl, ?_⟩) hHeld ?_
                    rotate_left
                    · (intro w' hSw; (try dsimp only at hSw); go_simp; try with_reducible rfl)
                    try simp only [Act.put, List.setIfInBounds_toArray, List.set_cons_zero, List.set_cons_succ]
                    refine wpAnyH_take (i := 15) (oi := ⟨_, _, _, _, _, _⟩) (v := ?_) rfl (by kernel_rfl) (by kernel_rfl) (by kernel_rfl) (fun _ _ _ h => h) (Or.inl ⟨by rfl, ?_⟩) hHeld ?_
                    rotate_left
                    · (intro w' hSw; (try dsimp only at hSw); go_simp; try with_reducible rfl)
                    try simp only [Act.put, List.setIfInBounds_toArray, List.set_cons_zero, List.set_cons_succ]
                    refine wpAnyH_take (i := 16) (oi := ⟨_, _, _, _, _, _⟩) (v := ?_) rfl (by kernel_rfl) (by kernel_rfl) (by kernel_rfl) (fun _ _ _ h => h) (Or.inl ⟨by rfl, ?_⟩) hHeld ?_
                    rotate_left
                    · (intro w' hSw; (try dsimp only at hSw); go_simp; try with_reducible rfl)
                    try simp only [Act.put, List.setIfInBounds_toArray, List.set_cons_zero, List.set_cons_succ]
                    refine wpAnyH_take (i := 18) (oi := ⟨_, _, _, _, _, _⟩) (v := ?_) rfl (by kernel_rfl) (by kernel_rfl) (by kernel_rfl) (fun _ _ _ h => h) (Or.inl ⟨by rfl, ?_⟩) hHeld ?_
                    rotate_left
                    · (intro w' hSw; (try dsimp only at hSw); go_simp; try with_reducible rfl)
                    try simp only [Act.put, List.setIfInBounds_toArray, List.set_cons_zero, List.set_cons_succ]
                    refine wpAnyH_take (i := 19) (oi := ⟨_, _, _, _, _, _⟩) (v := ?_) rfl (by kernel_rfl) (by kernel_rfl) (by kernel_rfl) (fun _ _ _ h => h) (Or.inl ⟨by rfl, ?_⟩) hHeld ?_
                    rotate_left
                    · (intro w' hSw; (try dsimp only at hSw); go_simp; try with_reducible rfl)
                    try simp only [Act.put, List.setIfInBounds_toArray, List.set_cons_zero, List.set_cons_succ]
                    refine wpAnyH_take (i := 20) (oi := ⟨_, _, _, _, _, _⟩) (v := ?_) rfl (by kernel_rfl) (by kernel_rfl) (by kernel_rfl) (fun _ _ _ h => h) (Or.inl ⟨by rfl, ?_⟩) hHeld ?_
                    rotate_left
                    · (intro w' hSw; (try dsimp only at hSw); go_simp; try with_reducible rfl)
                    try simp only [Act.put, List.setIfInBounds_toArray, List.set_cons_zero, List.set_cons_succ]
                    refine wpAnyH_take (i := 21) (oi := ⟨_, _, _, _, _, _⟩) (v := ?_) rfl (by kernel_rfl) (by kernel_rfl) (by kernel_rfl) (fun _ _ _ h => h) (Or.inl ⟨by rfl, ?_⟩) hHeld ?_
                    rotate_left
                    · (intro w' hSw; (try dsimp only at hSw); go_simp; try with_reducible rfl)
                    try simp only [Act.put, List.setIfInBounds_toArray, List.set_cons_zero, List.set_cons_succ]
                    refine wpAnyH_ready (rs := [17]) (by kernel_rfl) (by simp) ?_
                    refine AllReadyH.cons (o := ⟨_, _, _, _, _, _⟩) rfl (fun K hK => ?_) AllReadyH.nil
                    go_simp
                    refine (KA.out _ LD.out).mono ?_
                    rintro e w14 ⟨rfl, hb⟩
                    have hb' : Below wm.heap.size wm w14 := ⟨hb.os, hb.tape, hb.output, hb.size, hb.block⟩
                    have BN := hide (BM.out.trans (hb'.mono BM.out.size))
                    have q1 := (hb'.cell (p := ⟨bo, 2, none⟩) (World.block_lt_of_cell? _ _ z1)).trans z1
                    have q2 := (hb'.cell (p := ⟨bu, k, none⟩) (World.block_lt_of_cell? _ _ u1)).trans u1
                    clear hb hb'
                    go_wp2_with fail
                    refine hK.out _ _ ⟨q1, q2⟩ (fun hHeld => ?_)
                    clear hK K
                    try simp only [Act.put, List.setIfInBounds_toArray, List.set_cons_zero, List.set_cons_succ]
                    refine wpAnyH_take (i := 22) (oi := ⟨_, _, _, _, _, _⟩) (v := ?_) rfl (by kernel_rfl) (by kernel_rfl) (by kernel_rfl) (fun _ _ _ h => h) (Or.inl ⟨by rfl, ?_⟩) hHeld ?_
                    rotate_left
                    · (intro w' hSw; (try dsimp only at hSw); go_simp; try with_reducible rfl)
                    try simp only [Act.put, List.setIfInBounds_toArray, List.set_cons_zero, List.set_cons_succ]
                    refine wpAnyH_take (i := 23) (oi := ⟨_, _, _, _, _, _⟩) (v := ?_) rfl (by kernel_rfl) (by kernel_rfl) (by kernel_rfl) (fun _ _ _ h => h) (Or.inl ⟨by rfl, ?_⟩) hHeld ?_
                    rotate_left
                    · (intro w' hSw; (try dsimp only at hSw); go_simp; try with_reducible rfl)
                    try simp only [Act.put, List.setIfInBounds_toArray, List.set_cons_zero, List.set_cons_succ]
                    refine wpAnyH_take (i := 24) (oi := ⟨_, _, _, _, _, _⟩) (v := ?_) rfl (by kernel_rfl) (by kernel_rfl) (by kernel_rfl) (fun _ _ _ h => h) (Or.inl ⟨by rfl, ?_⟩) hHeld ?_
                    rotate_left
                    · (intro w' hSw; (try dsimp only at hSw); go_simp; try with_reducible rfl)
                    try simp only [Act.put, List.setIfInBounds_toArray, List.set_cons_zero, List.set_cons_succ]
                    refine wpAnyH_take (i := 25) (oi := ⟨_, _, _, _, _, _⟩) (v := ?_) rfl (by kernel_rfl) (by kernel_rfl) (by kernel_rfl) (fun _ _ _ h => h) (Or.inl ⟨by rfl, ?_⟩) hHeld ?_
                    rotate_left
                    · (intro w' hSw; (try dsimp only at hSw); go_simp; try with_reducible rfl)
                    try simp only [Act.put, List.setIfInBounds_toArray, List.set_cons_zero, List.set_cons_succ]
                    refine wpAnyH_take (i := 26) (oi := ⟨_, _, _, _, _, _⟩) (v := ?_) rfl (by kernel_rfl) (by kernel_rfl) (by kernel_rfl) (fun _ _ _ h => h) (Or.inl ⟨by rfl, ?_⟩) hHeld ?_
                    rotate_left
                    · (intro w' hSw; (try dsimp only at hSw); go_simp; try with_reducible rfl)
                    try simp only [Act.put, List.setIfInBounds_toArray, List.set_cons_zero, List.set_cons_succ]
                    refine wpAnyH_take (i := 27) (oi := ⟨_, _, _, _, _, _⟩) (v := ?_) rfl (by kernel_rfl) (by kernel_rfl) (by kernel_rfl) (fun _ _ _ h => h) (Or.inl ⟨by rfl, ?_⟩) hHeld ?_
                    rotate_left
                    · (intro w' hSw; (try dsimp only at hSw); go_simp; try with_reducible rfl)
                    try simp only [Act.put, List.setIfInBounds_toArray, List.set_cons_zero, List.set_cons_succ]
                    refine wpAnyH_take (i := 28) (oi := ⟨_, _, _, _, _, _⟩) (v := ?_) rfl (by kernel_rfl) (by kernel_rfl) (by kernel_rfl) (fun _ _ _ h => h) (Or.inl ⟨by rfl, ?_⟩) hHeld ?_
                    rotate_left
                    · (intro w' hSw; (try dsimp only at hSw); go_simp; try with_reducible rfl)
                    try simp only [Act.put, List.setIfInBounds_toArray, List.set_cons_zero, List.set_cons_succ]
                    refine wpAnyH_take (i := 29) (oi := ⟨_, _, _, _, _, _⟩) (v := ?_) rfl (by kernel_rfl) (by kernel_rfl) (by kernel_rfl) (fun _ _ _ h => h) (Or.inl ⟨by rfl, ?_⟩) hHeld ?_
                    rotate_left
                    · (intro w' hSw; (try dsimp only at hSw); go_simp; try with_reducible rfl)
                    try simp only [Act.put, List.setIfInBounds_toArray, List.set_cons_zero, List.set_cons_succ]
                    refine wpAnyH_done (by kernel_rfl) ?_ _
                    go_wp2_with fail
                    go_roundw
                    case rel => exact ⟨k + 1, by omega, by go_num, BN.out⟩
                    case measure => simp [intOf]; omega
                  | true =>
                    go_wp2_with fail
                    refine wp_region_held_drew (S := fun w' => w'.cell? ⟨bo, 2, none⟩ = some (.int .i64 o.d) ∧ w'.cell? ⟨bu, k, none⟩ = some (.bool true)) (by kernel_rfl) hS0 (fun hHeld => ?_)
                    refine wpAnyH_take (i := 0) (oi := ⟨_, _, _, _, _, _⟩) (v := ?_) rfl (by kernel_rfl) (by kernel_rfl) (by kernel_rfl) (fun _ _ _ h => h) (Or.inl ⟨by rfl, ?_⟩) hHeld ?_
                    rotate_left
                    · (intro w' hSw; (try dsimp only at hSw); go_simp; try with_reducible rfl)
                    try simp only [Act.put, List.setIfInBounds_toArray, List.set_cons_zero, List.set_cons_succ]
                    refine wpAnyH_take (i := 1) (oi := ⟨_, _, _, _, _, _⟩) (v := ?_) rfl (by kernel_rfl) (by kernel_rfl) (by kernel_rfl) (fun _ _ _ h => h) (Or.inl ⟨by rfl, ?_⟩) hHeld ?_
                    rotate_left
                    · (intro w' hSw; (try dsimp only at hSw); go_simp; try with_reducible rfl)
                    try simp only [Act.put, List.setIfInBounds_toArray, List.set_cons_zero, List.set_cons_succ]
                    refine wpAnyH_take (i := 2) (oi := ⟨_, _, _, _, _, _⟩) (v := ?_) rfl (by kernel_rfl) (by kernel_rfl) (by kernel_rfl) (fun _ _ _ h => h) (Or.inl ⟨by rfl, ?_⟩) hHeld ?_
                    rotate_left
                    · (intro w' hSw; (try dsimp only at hSw); go_simp; try with_reducible rfl)
                    try simp only [Act.put, List.setIfInBounds_toArray, List.set_cons_zero, List.set_cons_succ]
                    refine wpAnyH_take (i := 3) (oi := ⟨_, _, _, _, _, _⟩) (v := ?_) rfl (by kernel_rfl) (by kernel_rfl) (by kernel_rfl) (fun _ _ _ h => h) (Or.inl ⟨by rfl, ?_⟩) hHeld ?_
                    rotate_left
                    · (intro w' hSw; (try dsimp only at hSw); go_simp; try with_reducible rfl)
                    try simp only [Act.put, List.setIfInBounds_toArray, List.set_cons_zero, List.set_cons_succ]
                    refine wpAnyH_take (i := 4) (oi := ⟨_, _, _, _, _, _⟩) (v := ?_) rfl (by kernel_rfl) (by kernel_rfl) (by kernel_rfl) (fun _ _ _ h => h) (Or.inl ⟨by rfl, ?_⟩) hHeld ?_
                    rotate_left
                    · (intro w' hSw; (try dsimp only at hSw); go_simp; try with_reducible rfl)
                    try simp only [Act.put, List.setIfInBounds_toArray, List.set_cons_zero, List.set_cons_succ]
                    refine wpAnyH_take (i := 5) (oi := ⟨_, _, _, _, _, _⟩) (v := undef) rfl (by kernel_rfl) (by kernel_rfl) (by kernel_rfl) (fun _ _ _ h => h) (Or.inr ⟨by rfl, rfl⟩) hHeld ?_
                    try simp only [Act.put, List.setIfInBounds_toArray, List.set_cons_zero, List.set_cons_succ]
                    refine wpAnyH_take (i := 6) (oi := ⟨_, _, _, _, _, _⟩) (v := undef) rfl (by kernel_rfl) (by kernel_rfl) (by kernel_rfl) (fun _ _ _ h => h) (Or.inr ⟨by rfl, rfl⟩) hHeld ?_
                    try simp only [Act.put, List.setIfInBounds_toArray, List.set_cons_zero, List.set_cons_succ]
                    refine wpAnyH_take (i := 7) (oi := ⟨_, _, _, _, _, _⟩) (v := ?_) rfl (by kernel_rfl) (by kernel_rfl) (by kernel_rfl) (fun _ _ _ h => h) (Or.inl ⟨by rfl, ?_⟩) hHeld ?_
                    rotate_left
                    · (intro w' hSw; (try dsimp only at hSw); go_simp; try with_reducible rfl)
                    try simp only [Act.put, List.setIfInBounds_toArray, List.set_cons_zero, List.set_cons_succ]
                    refine wpAnyH_take (i := 8) (oi := ⟨_, _, _, _, _, _⟩) (v := ?_) rfl (by kernel_rfl) (by kernel_rfl) (by kernel_rfl) (fun _ _ _ h => h) (Or.inl ⟨by rfl, ?_⟩) hHeld ?_
                    rotate_left
                    · (intro w' hSw; (try dsimp only at hSw); go_simp; try with_reducible rfl)
                    try simp only [Act.put, List.setIfInBounds_toArray, List.set_cons_zero, List.set_cons_succ]
                    refine wpAnyH_take (i := 9) (oi := ⟨_, _, _, _, _, _⟩) (v := ?_) rfl (by kernel_rfl) (by kernel_rfl) (by kernel_rfl) (fun _ _ _ h => h) (Or.inl ⟨by rfl, ?_⟩) hHeld ?_
                    rotate_left
                    · (intro w' hSw; (try dsimp only at hSw); go_simp; try with_reducible rfl)
                    try simp only [Act.put, List.setIfInBounds_toArray, List.set_cons_zero, List.set_cons_succ]
                    refine wpAnyH_take (i := 10) (oi := ⟨_, _, _, _, _, _⟩) (v := ?_) rfl (by kernel_rfl) (by kernel_rfl) (by kernel_rfl) (fun _ _ _ h => h) (Or.inl ⟨by rfl, ?_⟩) hHeld ?_
                    rotate_left
                    · (intro w' hSw; (try dsimp only at hSw); go_simp; try with_reducible rfl)
                    try simp only [Act.put, List.setIfInBounds_toArray, List.set_cons_zero, List.set_cons_succ]
                    refine wpAnyH_take (i := 11) (oi := ⟨_, _, _, _, _, _⟩) (v := ?_) rfl (by kernel_rfl) (by kernel_rfl) (by kernel_rfl) (fun _ _ _ h => h) (Or.inl ⟨by rfl, ?_⟩) hHeld ?_
                    rotate_left
                    · (intro w' hSw; (try dsimp only at hSw); go_simp; try with_reducible rfl)
                    try simp only [Act.put, List.setIfInBounds_toArray, List.set_cons_zero, List.set_cons_succ]
                    refine wpAnyH_take (i := 12) (oi := ⟨_, _, _, _, _, _⟩) (v := ?_) rfl (by kernel_rfl) (by kernel_rfl) (by kernel_rfl) (fun _ _ _ h => h) (Or.inl ⟨by rfl, ?_⟩) hHeld ?_
                    rotate_left
                    · (intro w' hSw; (try dsimp only at hSw); go_simp; try with_reducible rfl)
                    try simp only [Act.put, List.setIfInBounds_toArray, List.set_cons_zero, List.set_cons_succ]
                    refine wpAnyH_take (i := 13) (oi := ⟨_, _, _, _, _, _⟩) (v := ?_) rfl (by kernel_rfl) (by kernel_rfl) (by kernel_rfl) (fun _ _ _ h => h) (Or.inl ⟨by rfl, ?_⟩) hHeld ?_
                    rotate_left
                    · (intro w' hSw; (try dsimp only at hSw); go_simp; try with_reducible rfl)
                    try simp only [Act.put, List.setIfInBounds_toArray, List.set_cons_zero, List.set_cons_succ]
                    refine wpAnyH_take (i := 14) (oi := ⟨_, _, _, _, _, _⟩) (v := ?_) rfl (by kernel_rfl) (by kernel_rfl) (by kernel_rfl) (fun _ _ _ h => h) (Or.inl ⟨by rfl, ?_⟩) hHeld ?_
                    rotate_left
                    · (intro w' hSw; (try dsimp only at hSw); go_simp; try with_reducible rfl)
                    try simp only [Act.put, List.setIfInBounds_toArray, List.set_cons_zero, List.set_cons_succ]
                    refine wpAnyH_take (i := 15) (oi := ⟨_, _, _, _, _, _⟩) (v := ?_) rfl (by kernel_rfl) (by kernel_rfl) (by kernel_rfl) (fun _ _ _ h => h) (Or.inl ⟨by rfl, ?_⟩) hHeld ?_
                    rotate_left
                    · (intro w' hSw; (try dsimp only at hSw); go_simp; try with_reducible rfl)
                    try simp only [Act.put, List.setIfInBounds_toArray, List.set_cons_zero, List.set_cons_succ]
                    refine wpAnyH_take (i := 16) (oi := ⟨_, _, _, _, _, _⟩) (v := ?_) rfl (by kernel_rfl) (by kernel_rfl) (by kernel_rfl) (fun _ _ _ h => h) (Or.inl ⟨by rfl, ?_⟩) hHeld ?_
                    rotate_left
                    · (intro w' hSw; (try dsimp only at hSw); go_simp; try with_reducible rfl)
                    try simp only [Act.put, List.setIfInBounds_toArray, List.set_cons_zero, List.set_cons_succ]
                    refine wpAnyH_take (i := 18) (oi := ⟨_, _, _, _, _, _⟩) (v := ?_) rfl (by kernel_rfl) (by kernel_rfl) (by kernel_rfl) (fun _ _ _ h => h) (Or.inl ⟨by rfl, ?_⟩) hHeld ?_
                    rotate_left
                    · (intro w' hSw; (try dsimp only at hSw); go_simp; try with_reducible rfl)
                    try simp only [Act.put, List.setIfInBounds_toArray, List.set_cons_zero, List.set_cons_succ]
                    refine wpAnyH_take (i := 19) (oi := ⟨_, _, _, _, _, _⟩) (v := ?_) rfl (by kernel_rfl) (by kernel_rfl) (by kernel_rfl) (fun _ _ _ h => h) (Or.inl ⟨by rfl, ?_⟩) hHeld ?_
                    rotate_left
                    · (intro w' hSw; (try dsimp only at hSw); go_simp; try with_reducible rfl)
                    try simp only [Act.put, List.setIfInBounds_toArray, List.set_cons_zero, List.set_cons_succ]
                    refine wpAnyH_take (i := 20) (oi := ⟨_, _, _, _, _, _⟩) (v := ?_) rfl (by kernel_rfl) (by kernel_rfl) (by kernel_rfl) (fun _ _ _ h => h) (Or.inl ⟨by rfl, ?_⟩) hHeld ?_
                    rotate_left
                    · (intro w' hSw; (try dsimp only at hSw); go_simp; try with_reducible rfl)
                    try simp only [Act.put, List.setIfInBounds_toArray, List.set_cons_zero, List.set_cons_succ]
                    refine wpAnyH_take (i := 21) (oi := ⟨_, _, _, _, _, _⟩) (v := ?_) rfl (by kernel_rfl) (by kernel_rfl) (by kernel_rfl) (fun _ _ _ h => h) (Or.inl ⟨by rfl, ?_⟩) hHeld ?_
                    rotate_left
                    · (intro w' hSw; (try dsimp only at hSw); go_simp; try with_reducible rfl)
                    try simp only [Act.put, List.setIfInBounds_toArray, List.set_cons_zero, List.set_cons_succ]
                    refine wpAnyH_ready (rs := [17]) (by kernel_rfl) (by simp) ?_
                    refine AllReadyH.cons (o := ⟨_, _, _, _, _, _⟩) rfl (fun K hK => ?_) AllReadyH.nil
                    go_simp
                    refine (KA.out _ LD.out).mono ?_
                    rintro e w14 ⟨rfl, hb⟩
                    have hb' : Below wm.heap.size wm w14 := ⟨hb.os, hb.tape, hb.output, hb.size, hb.block⟩
                    have BN := hide (BM.out.trans (hb'.mono BM.out.size))
                    have q1 := (hb'.cell (p := ⟨bo, 2, none⟩) (World.block_lt_of_cell? _ _ z1)).trans z1
                    have q2 := (hb'.cell (p := ⟨bu, k, none⟩) (World.block_lt_of_cell? _ _ u1)).trans u1
                    clear hb hb'
                    go_wp2_with fail
                    refine hK.out _ _ ⟨q1, q2⟩ (fun hHeld => ?_)
                    clear hK K
                    try simp only [Act.put, List.setIfInBounds_toArray, List.set_cons_zero, List.set_cons_succ]
                    refine wpAnyH_take (i := 22) (oi := ⟨_, _, _, _, _, _⟩) (v := ?_) rfl (by kernel_rfl) (by kernel_rfl) (by kernel_rfl) (fun _ _ _ h => h) (Or.inl ⟨by rfl, ?_⟩) hHeld ?_
                    rotate_left
                    · (intro w' hSw; (try dsimp only at hSw); go_simp; try with_reducible rfl)
                    try simp only [Act.put, List.setIfInBounds_toArray, List.set_cons_zero, List.set_cons_succ]
                    refine wpAnyH_take (i := 23) (oi := ⟨_, _, _, _, _, _⟩) (v := undef) rfl (by kernel_rfl) (by kernel_rfl) (by kernel_rfl) (fun _ _ _ h => h) (Or.inr ⟨by rfl, rfl⟩) hHeld ?_
                    try simp only [Act.put, List.setIfInBounds_toArray, List.set_cons_zero, List.set_cons_succ]
                    refine wpAnyH_take (i := 24) (oi := ⟨_, _, _, _, _, _⟩) (v := undef) rfl (by kernel_rfl) (by kernel_rfl) (by kernel_rfl) (fun _ _ _ h => h) (Or.inr ⟨by rfl, rfl⟩) hHeld ?_
                    try simp only [Act.put, List.setIfInBounds_toArray, List.set_cons_zero, List.set_cons_succ]
                    refine wpAnyH_take (i := 25) (oi := ⟨_, _, _, _, _, _⟩) (v := undef) rfl (by kernel_rfl) (by kernel_rfl) (by kernel_rfl) (fun _ _ _ h => h) (Or.inr ⟨by rfl, rfl⟩) hHeld ?_
                    try simp only [Act.put, List.setIfInBounds_toArray, List.set_cons_zero, List.set_cons_succ]
                    refine wpAnyH_take (i := 26) (oi := ⟨_, _, _, _, _, _⟩) (v := undef) rfl (by kernel_rfl) (by kernel_rfl) (by kernel_rfl) (fun _ _ _ h => h) (Or.inr ⟨by rfl, rfl⟩) hHeld ?_
                    try simp only [Act.put, List.setIfInBounds_toArray, List.set_cons_zero, List.set_cons_succ]
                    refine wpAnyH_take (i := 27) (oi := ⟨_, _, _, _, _, _⟩) (v := ?_) rfl (by kernel_rfl) (by kernel_rfl) (by kernel_rfl) (fun _ _ _ h => h) (Or.inl ⟨by rfl, ?_⟩) hHeld ?_
                    rotate_left
                    · (intro w' hSw; (try dsimp only at hSw); go_simp; try with_reducible rfl)
                    try simp only [Act.put, List.setIfInBounds_toArray, List.set_cons_zero, List.set_cons_succ]
                    refine wpAnyH_take (i := 28) (oi := ⟨_, _, _, _, _, _⟩) (v := ?_) rfl (by kernel_rfl) (by kernel_rfl) (by kernel_rfl) (fun _ _ _ h => h) (Or.inl ⟨by rfl, ?_⟩) hHeld ?_
                    rotate_left
                    · (intro w' hSw; (try dsimp only at hSw); go_simp; try with_reducible rfl)
                    try simp only [Act.put, List.setIfInBounds_toArray, List.set_cons_zero, List.set_cons_succ]
                    refine wpAnyH_take (i := 29) (oi := ⟨_, _, _, _, _, _⟩) (v := ?_) rfl (by kernel_rfl) (by kernel_rfl) (by kernel_rfl) (fun _ _ _ h => h) (Or.inl ⟨by rfl, ?_⟩) hHeld ?_
                    rotate_left
                    · (intro w' hSw; (try dsimp only at hSw); go_simp; try with_reducible rfl)
                    try simp only [Act.put, List.setIfInBounds_toArray, List.set_cons_zero, List.set_cons_succ]
                    refine wpAnyH_done (by kernel_rfl) ?_ _
                    go_wp2_with fail
                    go_roundw
                    case rel => exact ⟨k + 1, by omega, by go_num, BN.out⟩
                    case measure => simp [intOf]; omega
            · obtain rfl : k = ks.length := by omega
              have XM := (BI.out.block _ lx11).trans HX11.out
              have z2 := cell_of_row _ _ 2 _ _ (0, 0) XM
              have z3 := cell_of_row _ _ 3 _ _ (0, 0) XM
              have z4 := cell_of_row _ _ 4 _ _ (0, 0) XM
              simp at z2 z3 z4
              cases cc with
              | false =>
                have KV2 := hide (KV.out.below BI.out)
                have KAl := hide (tall_any g M (L :: r) fs6 (by omega) wj LJ.out.tr)
                rw [FN.out rfl, EK.out] at KAl
                clear XM z2 z3 z4
                go_wp2_with fail
                refine KAl.out.mono ?_
                rintro e w13 ⟨v13, rfl, hk13, hb⟩
                have L13 := hide (LJ.out.below hb)
                have VK := hide (KV2.out.below hb)
                have K5 := hide (ksame_any v13 _ _ _ w13 (by omega) (by omega) hk13.kids VK.out.kids)
                rw [decide_eq_true rfl] at K5
                obtain ⟨A13, c13, rfl, _, _, _⟩ := hk13.kids
                clear hk13 hb KAl
                go_wp2_with fail
                refine K5.out.mono ?_
                rintro e w14 ⟨rfl, hb⟩
                have L14 := hide (L13.out.below hb)
                clear hb
                go_wp2
                go_ret
                exact ⟨rfl, B2.out.trans (L14.out.bel.mono B2.out.size)⟩
              | true =>
                have KS := hide (fun W hW => tspot_any g M (L :: r) fs6 o.d hod W hW)
                rw [FT.out rfl] at KS
                have es : spv (some o.kd) = .agg #[.bool true, .int .i64 o.t, .string (bs o.l)] := rfl
                have LD := hide (LJ.out.tr.below ((Below.refl _ _).drew))
                have hS0 := And.intro z2 (And.intro z3 z4)
                have hq := spot_eql true true o.t o.t o.l o.l
                simp only [and_self, decide_true] at hq
                have HXJ := hide XM
                clear XM
                go_wp2_with fail
                go_region_held3 (fun w' => w'.cell? ⟨bo, 2, none⟩ = some (.int .i64 o.d) ∧ w'.cell? ⟨bo, 3, none⟩ = some (.int .i64 o.t) ∧ w'.cell? ⟨bo, 4, none⟩ = some (.string (bs o.l)))
                  (first | with_reducible exact hS1 | with_reducible exact hS0 | go_keep)
                  (first
                    | (go_at_call 18
                       (with_reducible refine (KS.out _ ?hm).mono ?_)
                       case hm => exact LD.out
                       rintro e w14 ⟨rfl, hb⟩
                       rw [es]
                       have hb' : Below wj.heap.size wj w14 := ⟨hb.os, hb.tape, hb.output, hb.size, hb.block⟩
                       have L14 := hide (LJ.out.below hb')
                       have X14 := (hb'.block _ (Array.getElem?_eq_some_iff.1 HXJ.out).1).trans HXJ.out
                       have hS1 := And.intro (cell_of_row _ _ 2 _ _ (0, 0) X14) (And.intro (cell_of_row _ _ 3 _ _ (0, 0) X14) (cell_of_row _ _ 4 _ _ (0, 0) X14))
                       simp at hS1
                       clear hb hb' X14))
                go_wp2
                go_ret
                exact ⟨rfl, B2.out.trans (L14.out.bel.mono B2.out.size)⟩
  · have d1 : decide ((ts.length : Int) > 30) = true := by simp; omega
    go_wp2
    go_ret
    exact ⟨rfl, B1.out⟩
end Go.Proofs.YtlcmkikjgelfaaaDoor
