/-
  The document's arena: the contract of next. Conditions: the arena is one, in memory, of not more than a million puts.
-/
import Derived.Test.YtooejagekkgpaaaARef1
namespace Go.Proofs.Ytooejagekkgpaaa
open Go.RowKit
set_option linter.unusedVariables false
set_option linter.unusedSimpArgs false
set_option maxRecDepth 100000

def qL (L : List En) (e : En) : Bool := !usL L e.s
theorem bst_take (q : En → Bool) (L : List En) (k : Nat) (h : k < L.length) : bst q (L.take (k + 1)) = bstS q (bst q (L.take k)) L[k] := by
  rw [List.take_succ_eq_append_getElem h, bst_snoc]
theorem bst_step (L : List En) (k : Nat) (h : k < L.length) : bst (qL L) (L.take (k + 1)) = if usL L L[k].s = false ∧ L[k].fd > (bst (qL L) (L.take k)).2 then (L[k].s, L[k].fd) else bst (qL L) (L.take k) := by
  rw [bst_take _ L k h]
  unfold bstS
  have e : qL L L[k] = true ↔ usL L L[k].s = false := by simp [qL]
  simp only [e]
def NxRel (w : World) (L : List En) (vb vw vi : Value) (wr : World) : Prop := ∃ k : Nat, k ≤ L.length ∧ vi = .int .i64 (k : Int) ∧ vb = .int .i64 ((bst (qL L) (L.take k)).1 : Int) ∧ vw = .int .i64 ((bst (qL L) (L.take k)).2 : Int) ∧ Below w.heap.size w wr
def NsRel (w : World) (n : Nat) (vs : Value) (wr : World) : Prop := ∃ s : Nat, 1 ≤ s ∧ s ≤ n + 1 ∧ vs = .int .i64 (s : Int) ∧ Below w.heap.size w wr
theorem Tied.next2 {A : Ar} {L : List En} {N : Nat} (h : Tied A L N) : (0 < (bst (qL L) L).1 → (bst (qL L) L).1 = A.nxt.1) ∧ ((bst (qL L) L).1 = 0 → A.nxt.1 = A.sl.length + 1) := by
  have h1 := h.next
  have e : (bst (qL L) L).1 = (match A.fr with | s :: _ => s | [] => 0) := h1
  rw [e]
  unfold Ar.nxt
  cases hf : A.fr with
  | nil => simp
  | cons s r =>
    have := ((h.fr s).1 (by rw [hf]; simp)).1
    simp
    omega
theorem bst_small {A : Ar} {L : List En} {N : Nat} (h : Tied A L N) (k : Nat) : (bst (qL L) (L.take k)).1 ≤ A.sl.length ∧ (bst (qL L) (L.take k)).2 ≤ N := by
  obtain ⟨_, _, h3⟩ := bst_ok (qL L) (L.take k) (0, 0)
  change bst (qL L) (L.take k) = (0, 0) ∨ ∃ e ∈ L.take k, _ ∧ bst (qL L) (L.take k) = _ at h3
  rcases h3 with h3 | ⟨e, he, _, h3⟩
  · rw [h3]
    simp
  · have hm := List.mem_of_mem_take he
    have h4 := h.rng e hm
    have h5 := h.clk e hm
    rw [h3]
    refine ⟨h4.2, ?_⟩
    split at h5
    · show e.fd ≤ N
      omega
    · exact h5.2
set_option maxHeartbeats 2000000 in
theorem rnext_any (g most N : Nat) (v : Value) (L : List En) (A : Ar) (hT : Tied A L N) (hL : L.length ≤ 1000000) (hS : A.sl.length ≤ 1000000) (hN : N ≤ 1000000) (w : World) (h : Dm w g most v L N) : Calls Try.prog 25 #[.pointer (some ⟨g, 0, none⟩)] w (IntRet .i64 A.nxt.1 w) := by
  have H := hide h
  have HT := hide hT
  have KU := hide (fun (V : World) (s : Nat) (hV : Dm V g most v L N) => ruses_any g most N v L hL s V hV)
  obtain ⟨a1, c, rfl⟩ := row_form h.row
  clear h hT
  go_enter Try.func25, Try.ntmps25
  go_wp2_with fail
  go_loopw [3, 4, 5] (NxRel w L) (fun _ _ i _ => L.length - (intOf i).toNat)
  case atStart => exact ⟨0, Nat.zero_le _, rfl, rfl, rfl, Below.refl _ _⟩
  case round =>
    obtain ⟨k, hk, rfl, rfl, rfl, hb⟩ := hrel
    have HB := hide hb
    have hM := H.out.below hb
    have HM := hide hM
    obtain ⟨-, y1, -⟩ := hM.cells
    obtain ⟨hs1, hs2⟩ := bst_small HT.out k
    by_cases hlt : k < L.length
    · obtain ⟨b, c', e, hbg⟩ := hM.head (by omega)
      injection e with e1 e2 e3
      subst e1 e3
      obtain ⟨z0, -, -, -, z4⟩ := hM.five k hlt
      have i0 : (0 : Int) ≤ (k : Int) := by omega
      have i1 : (k : Int) < (L.length : Int) := by omega
      have HS := hide (bst_step L k hlt)
      have K1 := hide (KU.out wr L[k].s HM.out)
      clear hb hM e2
      generalize hn : bst (qL L) (L.take k) = n at *
      obtain ⟨n1, n2⟩ := n
      simp only at HS hs1 hs2
      obtain ⟨l, hl⟩ : ∃ l, usL L L[k].s = l := ⟨_, rfl⟩
      rw [hl] at HS K1
      generalize usN L L[k].s = us at K1
      obtain ⟨es, hes⟩ : ∃ x, L[k].s = x := ⟨_, rfl⟩
      obtain ⟨ef, hef⟩ : ∃ x, L[k].fd = x := ⟨_, rfl⟩
      rw [hes] at z0 K1 HS
      rw [hef] at z4 HS
      clear hl hes hef hn
      go_wp2_with fail
      refine K1.out.mono ?_
      rintro e w5 ⟨rfl, hb5⟩
      have HM5 := hide (HM.out.below hb5)
      have HB5 := hide (HB.out.trans (hb5.mono HB.out.size))
      have z0 := cell_b hb5 z0
      have z4 := cell_b hb5 z4
      have y1 := cell_b hb5 y1
      clear hb5 K1 HM
      cases l with
      | true =>
        have HE := hide (show bst (qL L) (L.take (k + 1)) = (n1, n2) by rw [HS.out]; simp)
        clear HS
        go_wp2_with fail
        go_roundw
        case rel => exact ⟨k + 1, by omega, by go_num, by rw [HE.out], by rw [HE.out], HB5.out⟩
        case measure => simp [intOf]; omega
      | false =>
        by_cases hgt : n2 < ef
        · have HE := hide (show bst (qL L) (L.take (k + 1)) = (es, ef) by rw [HS.out]; simp [hgt])
          have d : decide ((ef : Int) > (n2 : Int)) = true := by simp; omega
          clear HS
          go_wp2_with fail
          go_roundw
          case rel => exact ⟨k + 1, by omega, by go_num, by rw [HE.out], by rw [HE.out], HB5.out⟩
          case measure => simp [intOf]; omega
        · have HE := hide (show bst (qL L) (L.take (k + 1)) = (n1, n2) by rw [HS.out]; simp [hgt])
          have d : decide ((ef : Int) > (n2 : Int)) = false := by simp; omega
          clear HS
          go_wp2_with fail
          go_roundw
          case rel => exact ⟨k + 1, by omega, by go_num, by rw [HE.out], by rw [HE.out], HB5.out⟩
          case measure => simp [intOf]; omega
    · obtain rfl : k = L.length := by omega
      have HX := hide HT.out.next2
      have hq : bst (qL L) (L.take L.length) = bst (qL L) L := by rw [List.take_length]
      rw [hq] at hs1 hs2 ⊢
      clear hb hM hq
      generalize bst (qL L) L = n at *
      obtain ⟨n1, n2⟩ := n
      simp only at HX hs1 hs2
      by_cases hpos : 0 < n1
      · have d : decide ((n1 : Int) > 0) = true := by simp; omega
        have E := hide (HX.out.1 hpos)
        clear HX
        go_wp2_with fail
        go_ret
        exact ⟨by rw [← E.out]; rfl, HB.out⟩
      · obtain rfl : n1 = 0 := by omega
        have E := hide (HX.out.2 rfl)
        rw [show ((0 : Nat) : Int) = (0 : Int) from rfl]
        clear HX hpos
        go_wp2_with fail
        go_loopw [8] (NsRel w A.sl.length) (fun i _ => A.sl.length + 2 - (intOf i).toNat)
        case atStart => exact ⟨1, by omega, by omega, rfl, HB.out⟩
        case round =>
          rename World => wi
          obtain ⟨s, s1, s2, rfl, hb⟩ := hrel
          have HBi := hide hb
          have K1 := hide (KU.out wi s (H.out.below hb))
          have hz := HT.out.usz s1
          clear hb
          by_cases he : A.sl.length < s
          · have hu := hz.2 he
            rw [hu] at K1
            clear hz hu
            go_wp2_with fail
            refine K1.out.mono ?_
            rintro e w5 ⟨rfl, hb5⟩
            have HB5 := hide (HBi.out.trans (hb5.mono HBi.out.size))
            clear hb5 K1
            go_wp2_with fail
            go_ret
            exact ⟨by rw [E.out, show A.sl.length + 1 = s by omega]; rfl, HB5.out⟩
          · have hu : usN L s ≠ 0 := fun hc => he (hz.1 hc)
            obtain ⟨u, hu2⟩ : ∃ u, usN L s = u + 1 := ⟨usN L s - 1, by omega⟩
            rw [hu2] at K1
            have d2 : (((u + 1 : Nat) : Int) == 0) = false := by simp; omega
            clear hz hu hu2
            go_wp2_with fail
            refine K1.out.mono ?_
            rintro e w5 ⟨rfl, hb5⟩
            have HB5 := hide (HBi.out.trans (hb5.mono HBi.out.size))
            clear hb5 K1
            go_wp2_with fail
            go_roundw
            case rel => exact ⟨s + 1, by omega, by omega, by go_num, HB5.out⟩
            case measure => simp [intOf]; omega
end Go.Proofs.Ytooejagekkgpaaa
