/-
  The contracts of the document's Decode and Cut. Conditions: the bytes can be read, and are not longer than a million.
-/
import Derived.Test.YteibkipcblmikaaDoorWQTake
import Derived.Test.YteibkipcblmikaaDoorM8
import Derived.Test.YteibkipcblmikaaDoorWCut
import Derived.Deep.QuietTactic
import Derived.BigQuiet
namespace Go.Proofs.YteibkipcblmikaaDoor
open Go.RowKit
set_option linter.unusedVariables false
set_option maxRecDepth 100000

theorem Qd.new {w : World} {A : Option Addr} {c : Nat} {l : List UInt8} (h : ByteArg w A l.length c l) : Qd (w.alloc (.cells #[.slice A l.length c, .int .i64 0] 63)) w.heap.size w.heap.size l 0 := by
  refine ⟨_, heap_alloc_new w _, A, c, rfl, h.ceq, h.most, ?_⟩
  rcases Nat.eq_zero_or_pos l.length with h0 | h0
  · exact .inl (List.length_eq_zero_iff.1 h0)
  · obtain ⟨b, o, rfl, hc⟩ := h.lit h0
    have hlt := World.block_lt_of_cell? w _ (hc 0 h0)
    refine .inr ⟨b, o, rfl, hlt, fun j hj => ?_⟩
    exact (((Below.refl w.heap.size w).alloc (Nat.le_refl _) _).cell (p := ⟨b, o + j, none⟩) hlt).trans (hc j hj)
theorem ByteArg.below {w w' : World} {A : Option Addr} {n c : Nat} {l : List UInt8} (h : ByteArg w A n c l) (hb : Below w.heap.size w w') : ByteArg w' A n c l :=
  ⟨h.leq, h.ceq, h.most, h.hnd.below hb, fun hp => by
    obtain ⟨b, o, e, hc⟩ := h.lit hp
    exact ⟨b, o, e, cells_below hc hb⟩⟩
theorem Qd.grown {w w' : World} {B g e : Nat} {l : List UInt8} {row : Option Nat} (h : Qd w B g l e) (hBg : B ≤ g) (hg : w.grownBy w' row) (hr : ∀ k, row = some k → g < k) : Qd w' B g l e := by
  have hlt := h.lt
  obtain ⟨sv, hc, hs⟩ := h
  refine ⟨sv, (hg.block g hlt (by intro e; have := hr g e.symm; omega)).trans hc, hs.below ⟨hg.os, hg.tape, hg.output, hg.size, fun k hk => hg.block k (by omega) (by intro e; have := hr k e.symm; omega)⟩⟩
def QReadRel (w w1 : World) (g n : Nat) (tot : Option (List O5 × List UInt8 × Nat)) (v i : Value) (wr : World) : Prop :=
  ∃ (k : Nat) (os : List O5) (l : List UInt8) (e : Nat), k ≤ n ∧ i = .int .i64 (k : Int) ∧ os.length = k ∧ OwnOps wr w1.heap.size v os ∧ Qd wr w.heap.size g l e ∧ Below w.heap.size w wr ∧ w1.heap.size ≤ wr.heap.size ∧ tot = pre os (rdL (n - k) l e) ∧ (k < n → e = 0)
theorem decQ_of {l : List UInt8} {os : List O5} {x : List UInt8 × Nat} (h : rdQ l = some (os, x)) : decQ l = if encB os = l then some os else none := by
  unfold decQ
  rw [h]
set_option maxHeartbeats 1000000 in
theorem refDecode_any (A : Option Addr) (c : Nat) (l : List UInt8) (w : World) (hl : l.length ≤ 1000000) (h : ByteArg w A l.length c l) :
    Calls Tryd.prog 15 #[.slice A l.length c] w (DecRet w (dec? l)) := by
  rw [← decQ_eq]
  have HB := hide h
  have H0 := hide (fun g W h => qnumber_any w.heap.size g 0 l 65535 W (show w.heap.size ≤ g from h))
  have H1 := hide (fun g W h => qnumber_any w.heap.size g (rNum 65535 l 0).2.2 (rNum 65535 l 0).2.1 1 W (show w.heap.size ≤ g from h))
  have H2 := hide (fun g W h => qnumber_any w.heap.size g (rNum 1 (rNum 65535 l 0).2.1 (rNum 65535 l 0).2.2).2.2 (rNum 1 (rNum 65535 l 0).2.1 (rNum 65535 l 0).2.2).2.1 64 W (show w.heap.size ≤ g from h))
  have HM := hide (rNum_most 64 (rNum 1 (rNum 65535 l 0).2.1 (rNum 65535 l 0).2.2).2.1 (rNum 1 (rNum 65535 l 0).2.1 (rNum 65535 l 0).2.2).2.2 (by omega))
  have HZ := hide (@rNum_ne0 64 (rNum 1 (rNum 65535 l 0).2.1 (rNum 65535 l 0).2.2).2.1 (rNum 1 (rNum 65535 l 0).2.1 (rNum 65535 l 0).2.2).2.2)
  have HR : Hid (rdQ l = rdL (rNum 64 (rNum 1 (rNum 65535 l 0).2.1 (rNum 65535 l 0).2.2).2.1 (rNum 1 (rNum 65535 l 0).2.1 (rNum 65535 l 0).2.2).2.2).1 (rNum 64 (rNum 1 (rNum 65535 l 0).2.1 (rNum 65535 l 0).2.2).2.1 (rNum 1 (rNum 65535 l 0).2.1 (rNum 65535 l 0).2.2).2.2).2.1 (rNum 64 (rNum 1 (rNum 65535 l 0).2.1 (rNum 65535 l 0).2.2).2.1 (rNum 1 (rNum 65535 l 0).2.1 (rNum 65535 l 0).2.2).2.2).2.2) := hide rfl
  generalize rNum 64 (rNum 1 (rNum 65535 l 0).2.1 (rNum 65535 l 0).2.2).2.1 (rNum 1 (rNum 65535 l 0).2.1 (rNum 65535 l 0).2.2).2.2 = r2 at H2 HM HZ HR
  generalize rNum 1 (rNum 65535 l 0).2.1 (rNum 65535 l 0).2.2 = r1 at H1 H2
  generalize rNum 65535 l 0 = r0 at H0 H1
  obtain ⟨n0, l0, e0⟩ := r0
  obtain ⟨n1, l1, e1⟩ := r1
  obtain ⟨n, l2, e2⟩ := r2
  have Q1 := hide (Qd.new h)
  have B1 := hide ((Below.refl w.heap.size w).alloc (Nat.le_refl _) (.cells #[.slice A l.length c, .int .i64 0] 63))
  have hz1 : w.heap.size + 1 ≤ (w.alloc (.cells #[.slice A l.length c, .int .i64 0] 63)).heap.size := by simp
  clear h
  go_enter Tryd.func15, Tryd.ntmps15
  go_wp2_with fail
  generalize w.alloc (.cells #[.slice A l.length c, .int .i64 0] 63) = w1 at Q1 B1 hz1 ⊢
  refine (H0.out _ w1 (Nat.le_refl _) Q1.out).mono ?_
  rintro e w2 ⟨rfl, hq, ho⟩
  have Q2 := hide hq
  have B2 := hide (ho.below B1.out B1.out.size (Nat.le_refl _))
  have hz2 := ho.grown.size
  clear hq ho Q1 B1 H0
  go_wp2_with fail
  refine (H1.out _ w2 (Nat.le_refl _) Q2.out).mono ?_
  rintro e w3 ⟨rfl, hq, ho⟩
  have Q3 := hide hq
  have B3 := hide (ho.below B2.out B2.out.size (Nat.le_refl _))
  have hz3 := ho.grown.size
  clear hq ho Q2 B2 H1
  go_wp2_with fail
  refine (H2.out _ w3 (Nat.le_refl _) Q3.out).mono ?_
  rintro e w4 ⟨rfl, hq, ho⟩
  have Q4 := hide hq
  have B4 := hide (ho.below B3.out B3.out.size (Nat.le_refl _))
  have hz4 := ho.grown.size
  have hn : n ≤ 64 := by have := HM.out; omega
  have HZ2 : Hid (0 < n → e2 = 0) := hide (fun h => HZ.out (by show n ≠ 0; omega))
  clear hq ho Q3 B3 H2 HM HZ
  go_wp2_with fail
  go_loopw [6, 7] (QReadRel w w1 w.heap.size n (rdL n l2 e2)) (fun _ i _ => n - (intOf i).toNat)
  case atStart => exact ⟨0, [], l2, e2, Nat.zero_le _, rfl, rfl, World.ownsRow_nil _ _ _ _, Q4.out, B4.out, by omega, by cases rdL n l2 e2 <;> simp [pre], HZ2.out⟩
  case round =>
    obtain ⟨k, os, lk, ek, hk, rfl, hos, ho, hrd, hb, hz, ht, hek⟩ := hrel
    have O := hide ho
    have R := hide hrd
    have B := hide hb
    have T := hide ht
    have HOS := hide hos
    have sz := hb.size
    have hlen : os.length ≤ 64 := by omega
    have HEK := hide hek
    clear ho hrd hb ht hos Q4 B4 hek HZ2
    by_cases hkn : k < n
    · obtain rfl := HEK.out hkn
      have d1 : decide ((k : Int) < (n : Int)) = true := by simp; omega
      have hstep : rdL (n - k) lk 0 = if tkR lk 0 = true then (rdL (n - (k + 1)) (tk5 lk 0).2.1 (tk5 lk 0).2.2).map (fun x => (tkO lk 0 :: x.1, x.2)) else none := by
        rw [show n - k = (n - (k + 1)) + 1 by omega, rdL_succ]
      have ST := hide hstep
      have HT := hide (qtake_any w.heap.size w.heap.size 0 lk wr (Nat.le_refl _) R.out)
      have c1 : wr.cell? ⟨w.heap.size, 1, none⟩ = some (.int .i64 0) := by
        obtain ⟨sv, hc, _⟩ := R.out
        exact hc.c1
      clear hstep
      go_wp2_with fail
      clear c1 d1
      refine HT.out.mono ?_
      rintro e w5 ⟨rfl, hq, hg⟩
      have B5 := hide (B.out.grown hg sz (by intro k hk; injection hk with hk; omega))
      have O5' := hide (O.out.grown hg (by omega))
      have R5 := hide hq
      have sz5 := hg.size
      clear hq hg HT O R B
      cases hR : tkR lk 0 with
      | true =>
        rw [tkV_yes hR]
        have ST2 := hide (show rdL (n - k) lk 0 = (rdL (n - (k + 1)) (tk5 lk 0).2.1 (tk5 lk 0).2.2).map (fun x => (tkO lk 0 :: x.1, x.2)) by rw [ST.out, if_pos hR])
        have HE5 := hide (take_put hR).2.1
        clear ST hR
        generalize tk5 lk 0 = t5 at R5 ST2 HE5
        generalize tkO lk 0 = x at ST2
        unfold O5.v opv
        have hs1 : (w5.alloc (.cells #[.int .i64 x.n, .int .i64 x.r, .int .i64 x.d, .int .i64 x.t, .string (bs x.l)] 48)).heap.size = w5.heap.size + 1 := by simp
        have N5 := hide (cells_new5 (w5.alloc (.cells #[.int .i64 x.n, .int .i64 x.r, .int .i64 x.d, .int .i64 x.t, .string (bs x.l)] 48)) x)
        rw [hs1] at N5
        have bz := (((Below.refl w5.heap.size w5).alloc (Nat.le_refl _) (.cells #[.int .i64 x.n, .int .i64 x.r, .int .i64 x.d, .int .i64 x.t, .string (bs x.l)] 48)).alloc (by rw [hs1]; omega) (.cells #[.int .i64 x.n, .int .i64 x.r, .int .i64 x.d, .int .i64 x.t, .string (bs x.l)] 48))
        have Ob := hide (O5'.out.below bz)
        have Rb := hide (R5.out.below (Nat.le_refl _) bz)
        have Bb := hide (B5.out.trans (bz.mono B5.out.size))
        have zb := bz.size
        clear bz hs1 O5' R5 B5
        generalize hwb : (w5.alloc (.cells #[.int .i64 x.n, .int .i64 x.r, .int .i64 x.d, .int .i64 x.t, .string (bs x.l)] 48)).alloc (.cells #[.int .i64 x.n, .int .i64 x.r, .int .i64 x.d, .int .i64 x.t, .string (bs x.l)] 48) = wb at Ob Rb Bb zb N5
        go_wp2_with (at_builtin; refine wpList_append_op _ rfl _ _ rfl w1.heap.size _ os rfl Ob.out ⟨w5.heap.size + 1, 0, none⟩ 1 x rfl N5.out (by omega) (by omega) ?_)
        intro v6 w6 hown6 hg6
        have R6 := hide (Rb.out.grown (Nat.le_refl _) hg6 (fun k hk => by have := Ob.out.row k hk; omega))
        have B6 := hide (Bb.out.grown hg6 (by omega) (fun k hk => by have := Ob.out.row _ hk; omega))
        have O6 := hide hown6
        have z6 := hg6.size
        have T6 := hide (show rdL n l2 e2 = pre (os ++ [x]) (rdL (n - (k + 1)) t5.2.1 t5.2.2) by
          rw [T.out, ST2.out]
          cases rdL (n - (k + 1)) t5.2.1 t5.2.2 <;> simp [pre])
        clear hown6 hg6 Ob Rb Bb N5 hwb T ST2
        go_wp2_with fail
        go_roundw
        case rel => exact ⟨k + 1, os ++ [x], t5.2.1, t5.2.2, by omega, by go_num, by rw [List.length_append, HOS.out]; rfl, O6.out, R6.out, B6.out, by omega, T6.out, fun _ => HE5.out⟩
        case measure => simp [intOf]; omega
      | false =>
        rw [tkV_no hR]
        have HF := hide (show decQ l = none by
          unfold decQ
          rw [HR.out, T.out, ST.out, hR]
          rfl)
        clear ST hR
        unfold opv
        go_wp2
        go_ret2
        exact DecRet.no HF.out (B5.out.alloc (by omega) _)
    · obtain rfl : k = n := by omega
      have TF := hide (show rdQ l = some (os, lk, ek) by
        rw [HR.out, T.out, Nat.sub_self]
        simp [rdL, pre])
      have HRt := hide (rdL_sound _ _ _ _ _ _ (HR.out.symm.trans TF.out)).2.1
      have d1 : decide ((k : Int) < (k : Int)) = false := by simp
      obtain ⟨A6, c6, rfl, hops⟩ := O.out.ops
      have P6 := hide hops
      have HNm := hide (show ∀ o ∈ os, o.l.length ≤ 1000 from fun o ho => by have := (right_ne (opR_t (HRt.out o ho)).2.2.2).2; omega)
      clear hops
      have HOwn := hide (O.out.base (show w.heap.size ≤ w1.heap.size by omega))
      go_wp2_with fail
      clear d1
      refine (refEncode_any A6 c6 os wr (by omega) HNm.out P6.out).mono ?_
      rintro e w7 ⟨v7, rfl, hown, hb⟩
      have B7 := hide (B.out.trans (hb.mono sz))
      have O7 := hide (HOwn.out.below hb)
      have HD := hide (decQ_of TF.out)
      have cv1 := conv_hnd (Hnd.of_RSl (RSl.of_own hown))
      have cv2 := conv_hnd (HB.out.hnd.below B7.out)
      have E := hide (bs_list (encB os))
      have E2 := hide (bs_list l)
      generalize encB os = q at cv1 HD E
      generalize encE os = qe
      clear hown hb B O P6 R TF HRt HNm HOwn HR T HEK hkn
      by_cases hq : q = l
      · subst hq
        have hne : ((bs q).toList == (bs q).toList) = true := by simp
        have HD2 := hide (show decQ q = some os by rw [HD.out, if_pos rfl])
        clear HD E E2
        generalize bs q = bq at cv1 cv2 hne
        go_wp2
        go_ret2
        rw [HD2.out]
        exact ⟨_, rfl, O7.out, B7.out⟩
      · have hne : ((bs q).toList == (bs l).toList) = false := by rw [E.out, E2.out]; simpa using hq
        have HD2 := hide (show decQ l = none by rw [HD.out, if_neg hq])
        clear HD E E2 hq
        generalize bs q = bq at cv1 hne
        generalize bs l = bl at cv2 hne
        go_wp2
        go_ret2
        exact DecRet.no HD2.out B7.out
/-- What the document's Cut answers: two slices, which may be of what was handed in, and an error. -/
def QCutRet (w : World) (l : List UInt8) (e : Ending) (w' : World) : Prop :=
  ∃ v1 v2, e = .returned (.tuple #[v1, v2, .int .i64 (spE l)]) ∧ Hnd w' v1 (cutF l) ∧ Hnd w' v2 (cutR l) ∧ Below w.heap.size w w'
theorem Hnd.nil6 (w : World) : Hnd w (.slice none 0 0) [] := ⟨none, 0, rfl, fun _ => rfl, (by intro ad h; cases h)⟩
def QCutR (A : Option Addr) (c : Nat) (l : List UInt8) (r : Nat × List UInt8 × Nat) (w : World) (e : Ending) (w' : World) : Prop :=
  Below w.heap.size w w' ∧ (r.2.2 ≠ 0 → e = .returned (.tuple #[.slice none 0 0, .slice none 0 0, .int .i64 r.2.2])) ∧ (r.2.2 = 0 → r.2.1.length < r.1 → e = .returned (.tuple #[.slice none 0 0, .slice none 0 0, .int .i64 2])) ∧
    (r.2.2 = 0 → r.1 ≤ r.2.1.length → e = .returned (.tuple #[.slice A (l.length - r.2.1.length + r.1) c, .slice (cutB A c (l.length - r.2.1.length + r.1)) (l.length - (l.length - r.2.1.length + r.1)) (c - (l.length - r.2.1.length + r.1)), .int .i64 0]))
set_option maxHeartbeats 1000000 in
theorem refCut_in (A : Option Addr) (c : Nat) (l : List UInt8) (w : World) (hl : l.length ≤ 1000000) (h : ByteArg w A l.length c l) :
    Calls Tryd.prog 17 #[.slice A l.length c] w (QCutR A c l (rNum 65535 l 0) w) := by
  have H0 := hide (fun g W h => qnumber_any w.heap.size g 0 l 65535 W (show w.heap.size ≤ g from h))
  have HL := hide (rNum_len 65535 l 0)
  have HC := hide h.ceq
  generalize rNum 65535 l 0 = r at H0 HL ⊢
  obtain ⟨n, t, x⟩ := r
  have hlt := HL.out
  have Q1 := hide (Qd.new h)
  have B1 := hide ((Below.refl w.heap.size w).alloc (Nat.le_refl _) (.cells #[.slice A l.length c, .int .i64 0] 63))
  clear h HL
  go_enter Tryd.func17, Tryd.ntmps17
  go_wp2_with fail
  generalize w.alloc (.cells #[.slice A l.length c, .int .i64 0] 63) = w1 at Q1 B1 ⊢
  refine (H0.out _ w1 (Nat.le_refl _) Q1.out).mono ?_
  rintro e w2 ⟨rfl, hq, ho⟩
  obtain ⟨sv, hqc, A3, c3, rfl, _, _, _⟩ := hq
  have B2 := hide (ho.below B1.out B1.out.size (Nat.le_refl _))
  have c0 := hqc.c0
  have c1 := hqc.c1
  clear hqc ho Q1 B1 H0
  by_cases hx : x = 0
  · subst hx
    by_cases hn : n ≤ t.length
    · have d1 : ¬ t.length < n := by omega
      obtain ⟨k, m, hk1, hk2, he1, he2, he3, he4, he5, he6⟩ := split_nums l.length t.length n (by omega) hlt hn
      have r1 := run_head_any A l.length c m (Nat.le_trans he6 HC.out)
      have r3 := run_tail A l.length c m he6
      have HE := hide (show l.length - t.length + n = m by omega)
      have HN2 := hide hn
      clear he1 he2 he3 he4 he5 he6 hn hlt
      go_wp2_with fail
      go_quiet (fail)
      go_wp2
      go_ret3
      refine ⟨belowD B2.out _, (by intro h; exact absurd rfl h), (by intro _ h; have := HN2.out; simp only at h; omega), fun _ _ => ?_⟩
      simp only [HE.out]
      rfl
    · have d1 : t.length < n := by omega
      go_wp2
      go_ret3
      exact ⟨B2.out, (by intro h; exact absurd rfl h), (by intro _ _; rfl), (by intro _ h; exact absurd h hn)⟩
  · have d0 : ((x : Int) != 0) = true := by simp; omega
    go_wp2_with fail
    go_quiet (fail)
    go_wp2
    go_ret3
    exact ⟨belowD B2.out _, (by intro _; rfl), (by intro h; exact absurd h hx), (by intro h; exact absurd h hx)⟩
theorem refCut_any (A : Option Addr) (c : Nat) (l : List UInt8) (w : World) (hl : l.length ≤ 1000000) (h : ByteArg w A l.length c l) :
    Calls Tryd.prog 17 #[.slice A l.length c] w (QCutRet w l) := by
  refine (refCut_in A c l w hl h).mono ?_
  rintro e w' ⟨hb, h1, h2, h3⟩
  by_cases hx : (rNum 65535 l 0).2.2 = 0
  · by_cases hn : (rNum 65535 l 0).1 ≤ (rNum 65535 l 0).2.1.length
    · have e0 : spE l = 0 := by unfold spE; rw [if_pos hx, if_pos hn]
      have hlen := rNum_len 65535 l 0
      have hle : spK l + spN l ≤ l.length := by unfold spK spN; omega
      rw [h3 hx hn]
      refine ⟨_, _, by rw [e0]; rfl, ?_, ?_, hb⟩
      · unfold cutF
        rw [if_pos e0]
        exact (h.hnd.below hb).head (spK l + spN l) hle
      · unfold cutR
        rw [if_pos e0]
        have := (h.hnd.below hb).mid (spK l + spN l) (l.length - (spK l + spN l)) (by omega) h.ceq
        rwa [List.take_of_length_le (by rw [List.length_drop]; omega)] at this
    · have e0 : spE l = 2 := by unfold spE; rw [if_pos hx, if_neg hn]
      rw [h2 hx (by omega)]
      refine ⟨_, _, by rw [e0]; rfl, ?_, ?_, hb⟩
      · unfold cutF; rw [if_neg (by omega)]; exact Hnd.nil6 _
      · unfold cutR; rw [if_neg (by omega)]; exact Hnd.nil6 _
  · have e0 : spE l = (rNum 65535 l 0).2.2 := by unfold spE; rw [if_neg hx]
    rw [h1 hx]
    refine ⟨_, _, by rw [e0], ?_, ?_, hb⟩
    · unfold cutF; rw [if_neg (by omega)]; exact Hnd.nil6 _
    · unfold cutR; rw [if_neg (by omega)]; exact Hnd.nil6 _
end Go.Proofs.YteibkipcblmikaaDoor
