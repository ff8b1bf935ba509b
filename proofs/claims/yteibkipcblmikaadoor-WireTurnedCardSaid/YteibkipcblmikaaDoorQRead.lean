/-
  What the document's own reader (holtref01.Reader) does, by the same plain functions of reading. Conditions: the reader stands in a block of its own, from block B on, over bytes that lie below B.
-/
import Derived.Test.YteibkipcblmikaaDoorM2
import Derived.Test.YteibkipcblmikaaDoorLast
namespace Go.Proofs.YteibkipcblmikaaDoor
set_option maxRecDepth 100000
open Go.RowKit
set_option linter.unusedVariables false

/-- A slice that reads l, its bytes below block B. -/
def ASl (w : World) (B : Nat) (v : Value) (l : List UInt8) : Prop :=
  ∃ A c, v = .slice A l.length c ∧ l.length ≤ c ∧ c ≤ maxLen ∧ (l = [] ∨ ∃ b o, A = some ⟨b, o, none⟩ ∧ b < B ∧ ∀ j (h : j < l.length), w.cell? ⟨b, o + j, none⟩ = some (.int .u8 l[j].toNat))
theorem ASl.below {w w' : World} {B : Nat} {v : Value} {l : List UInt8} (h : ASl w B v l) (hb : Below B w w') : ASl w' B v l := by
  obtain ⟨A, c, h1, h2, h3, h4⟩ := h
  refine ⟨A, c, h1, h2, h3, ?_⟩
  rcases h4 with h4 | ⟨b, o, ha, hlt, hc⟩
  · exact .inl h4
  · exact .inr ⟨b, o, ha, hlt, fun j hj => (hb.cell (p := ⟨b, o + j, none⟩) hlt).trans (hc j hj)⟩
theorem ASl.nil (w : World) (B : Nat) : ASl w B (.slice none 0 0) [] := ⟨none, 0, rfl, Nat.le_refl _, Nat.zero_le _, .inl rfl⟩

/-- The block of the document's reader. -/
def QdC (w : World) (g : Nat) (sv : Value) (e : Nat) : Prop := w.heap[g]? = some (.cells #[sv, .int .i64 e] 63 (0, 0))
/-- The document's reader at block g: l isn't read yet; e was wrong. -/
def Qd (w : World) (B g : Nat) (l : List UInt8) (e : Nat) : Prop := ∃ sv, QdC w g sv e ∧ ASl w B sv l

theorem QdC.c0 {w : World} {g e : Nat} {sv : Value} (h : QdC w g sv e) : w.cell? ⟨g, 0, none⟩ = some sv := cell_of_row w g 0 _ _ (0, 0) h
theorem QdC.c1 {w : World} {g e : Nat} {sv : Value} (h : QdC w g sv e) : w.cell? ⟨g, 1, none⟩ = some (.int .i64 e) := cell_of_row w g 1 _ _ (0, 0) h
theorem QdC.z {w : World} {g e : Nat} {sv : Value} (h : QdC w g sv e) (i : Nat) : w.frozen? ⟨g, i, none⟩ = false := by
  unfold QdC at h
  simp [World.frozen?, h]
theorem QdC.set0 {w : World} {g e : Nat} {sv : Value} (h : QdC w g sv e) (u : Value) : QdC (w.setCell ⟨g, 0, none⟩ u) g u e := by
  unfold QdC at h ⊢
  simp [World.setCell, Array.getElem?_modify, h]
theorem QdC.set1 {w : World} {g e : Nat} {sv : Value} (h : QdC w g sv e) (x : Nat) : QdC (w.setCell ⟨g, 1, none⟩ (.int .i64 x)) g sv x := by
  unfold QdC at h ⊢
  simp [World.setCell, Array.getElem?_modify, h]
theorem Qd.lt {w : World} {B g e : Nat} {l : List UInt8} (h : Qd w B g l e) : g < w.heap.size := by
  obtain ⟨sv, hc, _⟩ := h
  exact (Array.getElem?_eq_some_iff.1 hc).1

/-- What a call of the document's reader leaves. -/
def QdRet (w : World) (B g : Nat) (v : Value) (l : List UInt8) (x : Nat) (e : Ending) (w' : World) : Prop :=
  e = .returned v ∧ Qd w' B g l x ∧ Only g w w'

set_option maxHeartbeats 400000 in
theorem qfail_any (g x e : Nat) (sv : Value) (w : World) (h : QdC w g sv e) :
    Calls Tryd.prog 56 #[.pointer (some ⟨g, 0, none⟩), .int .i64 x] w fun ed w' =>
      ed = .returned (.tuple #[]) ∧ (w.setCell ⟨g, 0, none⟩ (.slice none 0 0)).setCell ⟨g, 1, none⟩ (.int .i64 x) = w' := by
  have c0 := h.c0
  have z0 := h.z 0
  have c1 := (h.set0 (.slice none 0 0)).c1
  have z1 := (h.set0 (.slice none 0 0)).z 1
  clear h
  go_enter Tryd.func56, Tryd.ntmps56
  go_wp2
  go_end0
  exact ⟨rfl, rfl⟩

theorem Below.ofOnly {B g : Nat} {w w' : World} (h : Only g w w') (hg : B ≤ g) (hB : B ≤ w.heap.size) : Below B w w' :=
  (Below.refl B w).grown h.grown hB (fun k hk => by injection hk with hk; omega)

set_option maxHeartbeats 400000 in
theorem qnumber_wrong (B g e : Nat) (l : List UInt8) (most : Int) (w : World) (h : Qd w B g l e) (he : e ≠ 0) :
    Calls Tryd.prog 36 #[.pointer (some ⟨g, 0, none⟩), .int .i64 most] w (QdRet w B g (.int .i64 0) l e) := by
  obtain ⟨sv, hc, hs⟩ := h
  have c1 := hc.c1
  have hne : ((e : Int) != 0) = true := by simp; omega
  have HC := hide hc
  have HS := hide hs
  clear hc hs he
  go_enter Tryd.func36, Tryd.ntmps36
  go_wp2_with fail
  go_ret
  exact ⟨rfl, ⟨sv, HC.out, HS.out⟩, Only.refl _ _⟩

set_option maxHeartbeats 1000000 in
set_option maxRecDepth 100000 in
theorem qnumber_empty (B g c : Nat) (A : Option Addr) (most : Int) (w : World) (hc : QdC w g (.slice A 0 c) 0) :
    Calls Tryd.prog 36 #[.pointer (some ⟨g, 0, none⟩), .int .i64 most] w (QdRet w B g (.int .i64 0) [] 2) := by
  have c0 := hc.c0
  have c1 := hc.c1
  have HC := hide hc
  clear hc
  go_enter Tryd.func36, Tryd.ntmps36
  go_wp2_with fail
  refine wp_loop_rounds 1 ?_
  rw [rounds_succ]
  go_wp2_with fail
  refine (qfail_any g 2 0 _ w HC.out).mono ?_
  rintro ed w' ⟨rfl, rfl⟩
  go_wp2_with fail
  go_ret
  exact ⟨rfl, ⟨_, (HC.out.set0 _).set1 _, ASl.nil _ _⟩, ((Only.refl _ _).set _ _).set _ _⟩

/-- While the last byte is looked for: none below 128 among the first k; or it is the one before. -/
def LastRel (l : List UInt8) (last i : Value) : Prop :=
  ∃ k : Nat, k ≤ 5 ∧ k ≤ l.length ∧ i = .int .i64 k ∧
    ((last = .int .i64 (-1) ∧ ∀ j (hj : j < l.length), j < k → 128 ≤ l[j].toNat) ∨
     (∃ (m : Nat) (hm : m < l.length), k = m + 1 ∧ last = .int .i64 m ∧ l[m].toNat < 128 ∧ ∀ j (hj : j < l.length), j < m → 128 ≤ l[j].toNat))
/-- While the value is told: n is that of the bytes from i on. -/
def ValRel (l : List UInt8) (q : Nat) (n i : Value) : Prop :=
  ∃ k : Nat, k ≤ q ∧ i = .int .i64 ((k : Int) - 1) ∧ n = .int .i64 (lv ((l.take q).drop k))

theorem ASl_cut {w : World} {B b o c : Nat} {l : List UInt8} (h1 : l.length ≤ c) (h2 : c ≤ maxLen) (hb : b < B) (q : Nat) (hq : q ≤ l.length)
    (hc : ∀ j (h : j < l.length), w.cell? ⟨b, o + j, none⟩ = some (.int .u8 l[j].toNat)) : ASl w B (.slice (cutA b o c q) (l.length - q) (c - q)) (l.drop q) := by
  have hl : (l.drop q).length = l.length - q := by simp
  refine ⟨_, c - q, by rw [hl], by omega, by omega, ?_⟩
  by_cases h0 : l.length ≤ q
  · exact .inl (List.drop_eq_nil_of_le h0)
  · refine .inr ⟨b, o + q, ?_, hb, fun j hj => ?_⟩
    · unfold cutA; rw [if_neg (by omega)]
    · have := hc (q + j) (by omega)
      rw [Nat.add_assoc, this]
      simp

set_option maxHeartbeats 4000000 in
set_option maxRecDepth 100000 in
theorem qnumber_some (B g b o c : Nat) (l : List UInt8) (most : Int) (w : World) (hc : QdC w g (.slice (some ⟨b, o, none⟩) l.length c) 0) (hlc : l.length ≤ c) (hcm : c ≤ maxLen)
    (hbB : b < B) (hBg : B ≤ g) (hl : 0 < l.length) (hl3 : l.length ≤ 9223372036854775807)
    (hcells : ∀ j (h : j < l.length), w.cell? ⟨b, o + j, none⟩ = some (.int .u8 l[j].toNat)) :
    Calls Tryd.prog 36 #[.pointer (some ⟨g, 0, none⟩), .int .i64 most] w (QdRet w B g (.int .i64 (rNum most l 0).1) (rNum most l 0).2.1 (rNum most l 0).2.2) := by
  have c0 := hc.c0
  have c1 := hc.c1
  have HC := hide hc
  have HCM := hide hcm
  have HX := hide hcells
  clear hc hcells hcm
  go_enter Tryd.func36, Tryd.ntmps36
  go_wp2_with fail
  go_loop [5, 6] (LastRel l) (fun _ i => 5 - (intOf i).toNat)
  case atStart => exact ⟨0, by omega, by omega, rfl, .inl ⟨rfl, fun j _ h => by omega⟩⟩
  case round =>
    obtain ⟨k, hk5, hkl, rfl, hcase⟩ := hrel
    rcases hcase with ⟨rfl, hall⟩ | ⟨m, hm, rfl, rfl, hx, hall⟩
    · have Hall := hide hall
      clear hall
      by_cases h5 : k < 5
      · by_cases hlt : k < l.length
        · have cx := HX.out k hlt
          have h256 := UInt8.toNat_lt l[k]
          by_cases hx : l[k].toNat < 128
          · have Hx := hide hx
            have hx' : l[k].toNat < 128 := hx
            generalize l[k].toNat = x at cx h256 hx'
            clear hx
            go_wp2_with fail
            go_round
            case rel => exact ⟨k + 1, by omega, by omega, by go_num, .inr ⟨k, hlt, rfl, rfl, Hx.out, Hall.out⟩⟩
            case measure => simp [intOf]; omega
          · have Hx := hide hx
            have hx' : ¬ l[k].toNat < 128 := hx
            generalize l[k].toNat = x at cx h256 hx'
            clear hx
            go_wp2_with fail
            go_round
            case rel =>
              refine ⟨k + 1, by omega, by omega, by go_num, .inl ⟨rfl, fun j hj h => ?_⟩⟩
              by_cases hjk : j < k
              · exact Hall.out j hj hjk
              · obtain rfl : j = k := by omega
                have := Hx.out
                omega
            case measure => simp [intOf]; omega
        · have hle : l.length ≤ k := by omega
          have Hr := hide (rNum_short most l (fun j hj _ => Hall.out j hj (by omega)) (by omega))
          have hl5 : l.length < 5 := by omega
          go_wp2_with fail
          refine (qfail_any g 2 0 _ w HC.out).mono ?_
          rintro ed w' ⟨rfl, rfl⟩
          go_wp2_with fail
          go_ret
          rw [Hr.out]
          exact ⟨rfl, ⟨_, (HC.out.set0 _).set1 _, ASl.nil _ _⟩, ((Only.refl _ _).set _ _).set _ _⟩
      · have Hr := hide (rNum_long most l (fun j hj _ => Hall.out j hj (by omega)) (by omega))
        have hl5 : 5 ≤ l.length := by omega
        go_wp2_with fail
        refine (qfail_any g 3 0 _ w HC.out).mono ?_
        rintro ed w' ⟨rfl, rfl⟩
        go_wp2_with fail
        go_ret
        rw [Hr.out]
        exact ⟨rfl, ⟨_, (HC.out.set0 _).set1 _, ASl.nil _ _⟩, ((Only.refl _ _).set _ _).set _ _⟩
    · have cx := HX.out m hm
      have Hall := hide hall
      have Hx := hide hx
      have hm5 : m < 5 := by omega
      have hg3 : (m + 1 < 5 ∧ m + 1 < l.length) ∨ (m + 1 < 5 ∧ ¬ m + 1 < l.length) ∨ ¬ m + 1 < 5 := by omega
      have hcz : (0 < m ∧ l[m].toNat = 0) ∨ m ≤ 0 ∨ (0 < m ∧ l[m].toNat ≠ 0) := by omega
      rcases hcz with ⟨hm0, hz⟩ | hcz
      · have Hr := hide (rNum_zero most m l hm hm5 hall hz hm0)
        rw [hz] at cx
        clear hall hx hz
        rcases hg3 with ⟨g1, g2⟩ | ⟨g1, g2⟩ | g1
        all_goals
          go_wp2_with fail
          refine (qfail_any g 3 0 _ w HC.out).mono ?_
          rintro ed w' ⟨rfl, rfl⟩
          go_wp2_with fail
          go_ret
          rw [Hr.out]
          exact ⟨rfl, ⟨_, (HC.out.set0 _).set1 _, ASl.nil _ _⟩, ((Only.refl _ _).set _ _).set _ _⟩
      · have hnz : ¬ (l[m].toNat = 0 ∧ 0 < m) := by omega
        have HAb := hide (rNum_above most m l hm hm5 hall hx hnz)
        have HGo := hide (rNum_right most m l hm hm5 hall hx hnz)
        have hcz' : m ≤ 0 ∨ (0 < m ∧ ((l[m].toNat : Int) == 0) = false) := by
          rcases hcz with h | ⟨h, h'⟩
          · exact .inl h
          · exact .inr ⟨h, by rw [beq_eq_false_iff_ne]; omega⟩
        have hcut : ∀ W, (Instr.slice 25 (.slice (some ⟨b, o, none⟩) l.length c) (some (.int .i64 ((m : Int) + 1))) none none).run Tryd.prog W = .ok (.slice (cutA b o c (m + 1)) (l.length - (m + 1)) (c - (m + 1))) W := by
          intro W
          rw [show ((m : Int) + 1) = ((m + 1 : Nat) : Int) by omega]
          exact run_cut b o l.length c (m + 1) (by omega) hlc W
        have z0 := HC.out.z 0
        generalize l[m].toNat = x at cx hcz'
        clear hall hx hnz hcz
        have hcomb : ((m ≤ 0 ∨ (0 < m ∧ ((x : Int) == 0) = false))) ∧ ((m + 1 < 5 ∧ m + 1 < l.length) ∨ (m + 1 < 5 ∧ ¬ m + 1 < l.length) ∨ ¬ m + 1 < 5) := ⟨hcz', hg3⟩
        clear hcz' hg3
        rcases hcomb with ⟨h0 | ⟨h0, hb0⟩, ⟨g1, g2⟩ | ⟨g1, g2⟩ | g1⟩
        any_goals (exfalso; omega)
        all_goals
          go_wp2_with fail
          go_loop [7, 8] (ValRel l (m + 1)) (fun _ i => (intOf i + 1).toNat)
          case atStart => exact ⟨m + 1, Nat.le_refl _, by go_num, by rw [lv_end]; rfl⟩
          case round =>
            obtain ⟨k, hkq, rfl, rfl⟩ := hrel
            have hbd := lv_bound l (m + 1) k (by omega)
            rcases k with _ | k
            · rw [show (((0 : Nat) : Int) - 1) = -1 from rfl]
              rw [List.drop_zero] at hbd ⊢
              have HR1 := HAb
              have HR2 := HGo
              generalize hN : lv (l.take (m + 1)) = N at hbd HR1 HR2 ⊢
              clear hN HAb HGo
              by_cases hov : 4294967295 < (N : Int)
              · have Hr := hide (HR1.out (.inl hov))
                clear hcut
                go_wp2_with fail
                refine (qfail_any g 3 0 _ w HC.out).mono ?_
                rintro ed w' ⟨rfl, rfl⟩
                go_wp2_with fail
                go_ret
                rw [Hr.out]
                exact ⟨rfl, ⟨_, (HC.out.set0 _).set1 _, ASl.nil _ _⟩, ((Only.refl _ _).set _ _).set _ _⟩
              · by_cases hov2 : most < (N : Int)
                · have Hr := hide (HR1.out (.inr hov2))
                  clear hcut
                  go_wp2_with fail
                  refine (qfail_any g 3 0 _ w HC.out).mono ?_
                  rintro ed w' ⟨rfl, rfl⟩
                  go_wp2_with fail
                  go_ret
                  rw [Hr.out]
                  exact ⟨rfl, ⟨_, (HC.out.set0 _).set1 _, ASl.nil _ _⟩, ((Only.refl _ _).set _ _).set _ _⟩
                · have Hr := hide (HR2.out (by omega))
                  go_wp2_with fail
                  go_ret
                  rw [Hr.out]
                  have hon : Only g w (w.setCell ⟨g, 0, none⟩ (.slice (cutA b o c (m + 1)) (l.length - (m + 1)) (c - (m + 1)))) := (Only.refl _ _).set _ _
                  refine ⟨rfl, ⟨_, HC.out.set0 _, ?_⟩, hon⟩
                  exact ASl_cut hlc HCM.out hbB (m + 1) (by omega) (fun j hj => (World.cell?_setCell_other w _ _ _ (fun e => by injection e; omega)).trans (HX.out j hj))
            · rw [show (((k + 1 : Nat) : Int) - 1) = (k : Int) by omega]
              have cy := HX.out k (by omega)
              have hy := UInt8.toNat_lt (l[k]'(by omega))
              have Hst := hide (lv_step l (m + 1) k (by omega) (by omega))
              generalize (l[k]'(by omega)).toNat = y at cy hy Hst
              generalize lv ((l.take (m + 1)).drop (k + 1)) = V at hbd Hst ⊢
              clear hcut HAb HGo
              go_wp2_with fail
              go_round
              case rel => exact ⟨k, by omega, rfl, congrArg (Value.int IntKind.i64) (by rw [Hst.out]; omega)⟩
              case measure => simp [intOf] <;> omega

/-- NUMBER of the document's reader: the answer and the new state are 'rNum', too. -/
theorem qnumber_any (B g e : Nat) (l : List UInt8) (most : Int) (w : World) (hBg : B ≤ g) (h : Qd w B g l e) :
    Calls Tryd.prog 36 #[.pointer (some ⟨g, 0, none⟩), .int .i64 most] w (QdRet w B g (.int .i64 (rNum most l e).1) (rNum most l e).2.1 (rNum most l e).2.2) := by
  by_cases he : e = 0
  · subst he
    obtain ⟨sv, hc, A, c, rfl, h1, h2, h3⟩ := h
    rcases h3 with rfl | ⟨b, o, rfl, hlt, hcells⟩
    · exact qnumber_empty B g c A most w hc
    · rcases Nat.eq_zero_or_pos l.length with h0 | h0
      · obtain rfl := List.eq_nil_of_length_eq_zero h0
        exact qnumber_empty B g c _ most w hc
      · exact qnumber_some B g b o c l most w hc h1 h2 hlt hBg h0 (by unfold maxLen at h2; omega) hcells
  · have e1 : rNum most l e = (0, l, e) := by unfold rNum; rw [if_pos he]
    rw [e1]
    exact qnumber_wrong B g e l most w h he
end Go.Proofs.YteibkipcblmikaaDoor
