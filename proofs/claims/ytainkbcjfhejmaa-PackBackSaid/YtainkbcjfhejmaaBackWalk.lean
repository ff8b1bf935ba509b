/-
  The walk of the law PackBack: it answers true at every input, and changes nothing that was there. No conditions beyond the kinds of its arguments.
-/
import Derived.Test.YtainkbcjfhejmaaArgs
import Derived.Deep.RegionHeld3
import Derived.Deep.AppendLies
namespace Go.Proofs.Ytainkbcjfhejmaa
open Go.RowKit
set_option linter.unusedVariables false

/-- What is written of numbers and texts, by turns. -/
def enc : List (Nat × ByteArray) → List UInt8
  | [] => []
  | p :: t => form p.1 ++ ((form p.2.size ++ p.2.data.toList) ++ enc t)
theorem enc_snoc (l : List (Nat × ByteArray)) (p : Nat × ByteArray) : enc (l ++ [p]) = (enc l ++ form p.1) ++ (form p.2.size ++ p.2.data.toList) := by
  induction l with
  | nil => simp [enc]
  | cons q l ih => simp [enc, ih]
theorem enc_take (l : List (Nat × ByteArray)) (k : Nat) (h : k < l.length) : enc (l.take (k + 1)) = (enc (l.take k) ++ form l[k].1) ++ (form l[k].2.size ++ l[k].2.data.toList) := by
  rw [List.take_succ_eq_append_getElem h, enc_snoc]
theorem enc_drop (l : List (Nat × ByteArray)) (k : Nat) (h : k < l.length) : enc (l.drop k) = form l[k].1 ++ ((form l[k].2.size ++ l[k].2.data.toList) ++ enc (l.drop (k + 1))) := by
  rw [List.drop_eq_getElem_cons h]
  rfl
theorem enc_len (l : List (Nat × ByteArray)) (h : ∀ p ∈ l, p.2.size ≤ 100) : (enc l).length ≤ 110 * l.length := by
  induction l with
  | nil => simp [enc]
  | cons p l ih =>
    have h1 := h p (by simp)
    have h2 := ih (fun q hq => h q (by simp [hq]))
    have e1 := ext_le p.1
    have e2 := ext_le p.2.size
    simp only [enc, List.length_append, form_length, List.length_cons, Array.length_toList]
    have : p.2.data.size = p.2.size := rfl
    omega

theorem num_back (n : Nat) (t : List UInt8) (h : n < 4294967296) : rNum 4294967295 (form n ++ t) 0 = (n, t, 0) := by
  unfold rNum
  rw [scan_form n h, if_neg (by simp), if_neg (by simp), if_neg (by simp only; omega)]
  simp
theorem txt_back (s t : List UInt8) (h : s.length ≤ 100) : rTxt 100 ((form s.length ++ s) ++ t) 0 = (s, t, 0) := by
  have hn : rNum 100 ((form s.length ++ s) ++ t) 0 = (s.length, s ++ t, 0) := by
    unfold rNum
    rw [List.append_assoc, scan_form s.length (by omega), if_neg (by simp), if_neg (by simp), if_neg (by simp only; omega)]
    simp
  unfold rTxt
  rw [hn, if_neg (by simp), if_neg (by simp)]
  simp

/-- After k rounds of the first loop. -/
def BackRel (w : World) (ps : List (Nat × ByteArray)) (b i : Value) (wr : World) : Prop :=
  ∃ k : Nat, k ≤ ps.length ∧ i = .int .i64 k ∧ (∀ p ∈ ps.take k, p.2.size ≤ 100) ∧ wr.ownsRow w.heap.size 5 1 b (enc (ps.take k)).length (bc (enc (ps.take k))) ∧ Below w.heap.size w wr
/-- After k rounds of the second loop. -/
def Back2Rel (w : World) (g : Nat) (ps : List (Nat × ByteArray)) (i : Value) (wr : World) : Prop :=
  ∃ k : Nat, k ≤ ps.length ∧ i = .int .i64 k ∧ Rd wr g (enc (ps.drop k)) 0 ∧ Below w.heap.size w wr

/-- The numbers and texts that the law reads. -/
structure BackArgs (w : World) (bl ol bt ot nl nt : Nat) (ps : List (Nat × ByteArray)) : Prop where
  len : ps.length = min nl nt
  num : ∀ j (h : j < ps.length), w.cell? ⟨bl, ol + j, none⟩ = some (.int .u32 ps[j].1)
  str : ∀ j (h : j < ps.length), w.cell? ⟨bt, ot + j, none⟩ = some (.string ps[j].2)
  lt : ∀ j (h : j < ps.length), ps[j].1 < 4294967296
  most : ∀ j (h : j < ps.length), ps[j].2.size ≤ maxLen

set_option maxHeartbeats 4000000 in
set_option maxRecDepth 100000 in
theorem back_some (bl ol bt ot nl nt cl ct : Nat) (ps : List (Nat × ByteArray)) (w : World) (hl : nl ≤ 40) (ht : nt ≤ 40) (hA : BackArgs w bl ol bt ot nl nt ps) :
    Calls Try.prog 5 #[.slice (some ⟨bl, ol, none⟩) nl cl, .slice (some ⟨bt, ot, none⟩) nt ct] w (TrueRet w) := by
  obtain ⟨i0, hi0, hz0, hz1, hz2⟩ := info_parts u8info
  have HA := hide hA
  clear hA
  have d1 : decide (40 < (nl : Int)) = false := by simp; omega
  have d2 : decide (40 < (nt : Int)) = false := by simp; omega
  go_enter Try.func5, Try.ntmps5
  go_wp2_with fail
  refine (awake_any w).mono ?_
  rintro e w1 ⟨rfl, hb1⟩
  have B1 := hide hb1
  have s1 := hb1.size
  clear hb1
  go_wp2_with fail
  go_loopw [6, 7] (BackRel w ps) (fun _ i _ => 40 - (intOf i).toNat)
  case atStart => exact ⟨0, Nat.zero_le _, rfl, by simp, World.ownsRow_nil _ _ _ _, B1.out⟩
  case round =>
    obtain ⟨k, hk, rfl, hsm, hown, hbel⟩ := hrel
    have hpl := HA.out.len
    have Hsm := hide hsm
    have Hown := hide hown
    have Hbel := hide hbel
    have HPL := hide hpl
    have sr := hbel.size
    by_cases hlt : k < ps.length
    · have hk1 : k < nl := by omega
      have hk2 : k < nt := by omega
      have cn := (hbel.cell (World.block_lt_of_cell? w _ (HA.out.num k hlt))).trans (HA.out.num k hlt)
      have cs := (hbel.cell (World.block_lt_of_cell? w _ (HA.out.str k hlt))).trans (HA.out.str k hlt)
      have hnl := HA.out.lt k hlt
      have hms := HA.out.most k hlt
      have hlen := enc_len _ hsm
      have Het := hide (enc_take ps k hlt)
      have Hpk : Hid (ps.take (k + 1) = ps.take k ++ [ps[k]]) := hide (List.take_succ_eq_append_getElem hlt)
      generalize ps[k] = p at cn cs hnl hms Het Hpk
      obtain ⟨n, s⟩ := p
      simp only at cn cs hnl hms Het
      unfold maxLen at hms
      have bll : bl < w.heap.size := World.block_lt_of_cell? w _ (HA.out.num k hlt)
      have btl : bt < w.heap.size := World.block_lt_of_cell? w _ (HA.out.str k hlt)
      generalize enc (ps.take k) = L at Hown hlen Het
      have hL : L.length ≤ 4400 := by rw [List.length_take] at hlen; omega
      clear hsm hown hbel hpl hlen
      by_cases hbig : 100 < s.size
      · go_wp2_with fail
        go_ret
        exact ⟨rfl, Hbel.out⟩
      · have hf1 : 0 < (form n).length ∧ (form n).length ≤ 5 := by have := ext_le n; rw [form_length]; omega
        have hf2 : 0 < (form s.size ++ s.data.toList).length ∧ (form s.size ++ s.data.toList).length ≤ 110 := by
          have := ext_le s.size
          rw [List.length_append, form_length]
          have : s.data.toList.length = s.size := by simp
          omega
        have HTX : Hid (∀ W, Calls Try.prog 13 #[.string s] W (OwnRet W (form s.size ++ s.data.toList))) := hide (fun W => Text_yes s W (by omega))
        generalize form s.size ++ s.data.toList = T at Het hf2 HTX
        go_wp2_with fail
        have hwr : IntKind.i64.wrap (n : Int) = (n : Int) := IntWalk.i64_in _ (by omega)
        go_region_held3 (fun w' => w'.cell? ⟨bl, ol + k, none⟩ = some (.int .u32 n) ∧ w'.cell? ⟨bt, ot + k, none⟩ = some (.string s))
          (first
            | exact ⟨(B5.out.cell (p := ⟨bl, ol + k, none⟩) bll).trans cn, (B5.out.cell (p := ⟨bt, ot + k, none⟩) btl).trans cs⟩
            | exact ⟨(B4.out.cell (p := ⟨bl, ol + k, none⟩) bll).trans cn, (B4.out.cell (p := ⟨bt, ot + k, none⟩) btl).trans cs⟩
            | exact ⟨(B3.out.cell (p := ⟨bl, ol + k, none⟩) bll).trans cn, (B3.out.cell (p := ⟨bt, ot + k, none⟩) btl).trans cs⟩
            | exact ⟨(B2.out.cell (p := ⟨bl, ol + k, none⟩) bll).trans cn, (B2.out.cell (p := ⟨bt, ot + k, none⟩) btl).trans cs⟩
            | go_keep)
          (first
            | (go_at_call 11
               (with_reducible refine (num_yes n _ ?hn1).mono ?_)
               (case hn1 => omega)
               rintro e w2 ⟨v2, rfl, hown2, hb2⟩
               have hb2' : Below wr.heap.size wr w2 := ⟨hb2.os, hb2.tape, hb2.output, hb2.size, hb2.block⟩
               have B2 := hide (hb2'.mono sr)
               have s2 : w.heap.size ≤ w2.heap.size := Nat.le_trans sr hb2'.size
               have O2 := hide (own_below Hown.out hb2')
               obtain ⟨g2, cap2, rfl, hg2, hc2⟩ := own_some hown2 hf1.1
               have C2 := hide hc2
               clear hown2 hb2 hb2' hc2 hg2)
            | (go_at_call 13
               (with_reducible refine (HTX.out _).mono ?_)
               rintro e w4 ⟨v4, rfl, hown4, hb4⟩
               have hb4' : Below w3.heap.size w3 w4 := ⟨hb4.os, hb4.tape, hb4.output, hb4.size, hb4.block⟩
               have B4 := hide (B3.out.trans (hb4'.mono s3))
               have s4 : w.heap.size ≤ w4.heap.size := Nat.le_trans s3 hb4'.size
               have O4 := hide (own_below O3.out hb4')
               obtain ⟨g4, cap4, rfl, hg4, hc4⟩ := own_some hown4 hf2.1
               have C4 := hide hc4
               clear hown4 hb4 hb4' hc4 hg4)
            | (refine step_append_lies _ (by rfl) _ _ _ (by rfl) w.heap.size 5 i0 _ 1 1 Try.underlying24 hi0 hz0 hz1 hz2 rfl (by omega) (.slice (some ⟨g3, 0, none⟩) (L.length + (form n).length) cap3) (L.length + (form n).length) (bc L ++ bc (form n)) (by rfl) O4.out ⟨g4, 0, none⟩ T.length cap4 (bc T) (by rfl) (by simp only [bc_length, Nat.mul_one]) C4.out (bc_one _) hf2.1 (by simp only [maxLen]; omega) (by omega) s4 w4.heap.size rfl ?_
               intro g5 cap5 w5 hown5 hgrow5 hat5 hlt5
               have B5 := hide (B4.out.grown hgrow5 s4 (fun q hq => (O4.out.lt q hq).1)))
            | (refine step_append_lies _ (by rfl) _ _ _ (by rfl) w.heap.size 5 i0 _ 1 1 Try.underlying24 hi0 hz0 hz1 hz2 rfl (by omega) u6 L.length (bc L) (by rfl) O2.out ⟨g2, 0, none⟩ (form n).length cap2 (bc (form n)) (by rfl) (by simp only [bc_length, Nat.mul_one]) C2.out (bc_one _) hf1.1 (by simp only [maxLen]; omega) (by omega) s2 w2.heap.size rfl ?_
               intro g3 cap3 w3 hown3 hgrow3 hat3 hlt3
               have B3 := hide (B2.out.grown hgrow3 s2 (fun q hq => (O2.out.lt q hq).1))
               have s3 : w.heap.size ≤ w3.heap.size := Nat.le_trans s2 hgrow3.size
               have O3 := hide hown3
               clear hown3 hgrow3 hat3 hlt3))
        have O5 := hide hown5
        clear hown5 hgrow5 hat5 hlt5 B2 B3 B4 s2 s3 s4 O2 O3 O4 C2 C4 cn cs hwr
        go_wp2_with fail
        go_roundw
        case rel =>
          refine ⟨k + 1, by omega, by go_num, ?_, ?_, Hbel.out.trans B5.out⟩
          · intro p hp
            rw [Hpk.out, List.mem_append] at hp
            rcases hp with hp | hp
            · exact Hsm.out p hp
            · obtain rfl : p = (n, s) := by simpa using hp
              show s.size ≤ 100
              omega
          · rw [Het.out, bc_append, bc_append, List.length_append, List.length_append]
            exact O5.out
        case measure => simp [intOf]; omega
    · obtain rfl : k = ps.length := by omega
      rw [List.take_length] at hsm hown
      have hlen := enc_len ps hsm
      have hL : (enc ps).length ≤ 4400 := by omega
      have HS := hide (Hnd.of_RSl (RSl.of_own hown))
      have HSM := hide hsm
      clear hsm hown hbel hpl hlen Hown Hsm hlt
      have hpl2 : ps.length ≤ 40 := by have := HPL.out; omega
      have hend : (ps.length < nl ∧ ¬ ps.length < nt) ∨ ¬ ps.length < nl := by have := HPL.out; omega
      have hfin : ∀ k : Nat, k < ps.length → k < nl ∧ k < nt := by have := HPL.out; intro k hk; omega
      have HFIN := hide hfin
      clear hfin
      rcases hend with ⟨he1, he2⟩ | he1
      all_goals
        go_wp2_with fail
        refine (new_any _ (enc ps) wr (by omega) HS.out).mono ?_
        rintro e w2 ⟨g, rfl, hg, hrd, hb⟩
        have B2 := hide (Hbel.out.trans (hb.mono sr))
        have s2 := B2.out.size
        have R2 := hide hrd
        clear hb hrd
        go_wp2_with fail
        go_loopw [9] (Back2Rel w g ps) (fun i _ => 40 - (intOf i).toNat)
        case atStart => exact ⟨0, Nat.zero_le _, rfl, R2.out, B2.out⟩
        case round =>
          obtain ⟨k, hk, rfl, hrd, hbel⟩ := hrel
          have Hrd := hide hrd
          have Hb := hide hbel
          have sr2 := hbel.size
          by_cases hlt : k < ps.length
          · have hk1 := (HFIN.out k hlt).1
            have hk2 := (HFIN.out k hlt).2
            have Hn : Hid (w.cell? ⟨bl, ol + k, none⟩ = some (.int .u32 ps[k].1)) := hide (HA.out.num k hlt)
            have Hs : Hid (w.cell? ⟨bt, ot + k, none⟩ = some (.string ps[k].2)) := hide (HA.out.str k hlt)
            have hnl := HA.out.lt k hlt
            have hsz : ps[k].2.size ≤ 100 := HSM.out ps[k] (List.getElem_mem hlt)
            have Hed := hide (enc_drop ps k hlt)
            generalize ps[k] = p at Hn Hs hnl hsz Hed
            obtain ⟨n, s⟩ := p
            simp only at Hn Hs hnl hsz Hed
            clear hrd hbel
            go_wp2_with fail
            have k1 := number_any g 0 _ 4294967295 _ Hrd.out
            rw [Hed.out, num_back n _ hnl] at k1
            refine k1.mono ?_
            clear k1
            rintro e w3 ⟨rfl, hrd, ho⟩
            have R3 := hide hrd
            have B3 := hide (Only.below Hb.out ho sr2 (by omega))
            have s3 := B3.out.size
            clear hrd ho
            go_wp2_with fail
            have k1 := text_any g 0 _ 100 w3 R3.out
            have hsl : s.data.toList.length = s.size := by simp
            rw [← hsl, txt_back s.data.toList _ (by omega), show bs s.data.toList = s from rfl] at k1
            refine k1.mono ?_
            clear k1 hsl
            rintro e w4 ⟨rfl, hrd, ho⟩
            have R4 := hide hrd
            have B4 := hide (Only.below B3.out ho s3 (by omega))
            have cn := (B4.out.cell (World.block_lt_of_cell? w _ Hn.out)).trans Hn.out
            have cs := (B4.out.cell (World.block_lt_of_cell? w _ Hs.out)).trans Hs.out
            clear hrd ho B3 R3 Hn Hs Hed Hrd
            go_wp2_with fail
            go_roundw
            case rel => exact ⟨k + 1, by omega, by go_num, R4.out, B4.out⟩
            case measure => simp [intOf]; omega
          · obtain rfl : k = ps.length := by omega
            rw [List.drop_length] at hrd
            have Hrd2 := hide hrd
            clear hrd hbel Hrd
            go_wp2_with fail
            refine (left_any g _ _ _ Hrd2.out).mono ?_
            rintro e w3 ⟨rfl, rfl⟩
            rw [show (enc []).length = 0 from rfl]
            go_wp2_with fail
            refine (err_any g _ _ _ Hrd2.out).mono ?_
            rintro e w3 ⟨rfl, rfl⟩
            go_wp2_with fail
            go_ret
            exact ⟨rfl, Hb.out⟩

set_option maxHeartbeats 1000000 in
theorem back_big (a0 a1 : Option Addr) (nl nt cl ct : Nat) (w : World) (h : 40 < nl ∨ (nl ≤ 40 ∧ 40 < nt)) (hl : nl ≤ 9223372036854775807) (ht : nt ≤ 9223372036854775807) :
    Calls Try.prog 5 #[.slice a0 nl cl, .slice a1 nt ct] w (TrueRet w) := by
  rcases h with h | ⟨h1, h⟩
  all_goals
    go_enter Try.func5, Try.ntmps5
    go_wp2_with fail
    refine (awake_any w).mono ?_
    rintro e w1 ⟨rfl, hb⟩
    have HB := hide hb
    clear hb
    go_wp2_with fail
    go_ret
    exact ⟨rfl, HB.out⟩

set_option maxHeartbeats 4000000 in
set_option maxRecDepth 100000 in
theorem back_zero (a0 a1 : Option Addr) (nl nt cl ct : Nat) (w : World) (hl : nl ≤ 40) (ht : nt ≤ 40) (h : (0 < nl ∧ nt = 0) ∨ nl = 0) :
    Calls Try.prog 5 #[.slice a0 nl cl, .slice a1 nt ct] w (TrueRet w) := by
  have d1 : decide (40 < (nl : Int)) = false := by simp; omega
  have d2 : decide (40 < (nt : Int)) = false := by simp; omega
  have hc : (0 < nl ∧ nt ≤ 0) ∨ nl ≤ 0 := by omega
  clear h
  rcases hc with ⟨h1, h2⟩ | h1
  all_goals
    go_enter Try.func5, Try.ntmps5
    go_wp2_with fail
    refine (awake_any w).mono ?_
    rintro e w1 ⟨rfl, hb⟩
    have B1 := hide hb
    have s1 := hb.size
    clear hb
    go_wp2_with fail
    refine wp_loop_rounds 1 ?_
    rw [rounds_succ]
    go_wp2_with fail
    refine (new_any _ [] w1 (by decide) ⟨none, 0, rfl, fun _ => rfl, (by intro ad h; cases h)⟩).mono ?_
    rintro e w2 ⟨g, rfl, hg, hrd, hb⟩
    have B2 := hide (B1.out.trans (hb.mono s1))
    have R2 := hide hrd
    clear hb hrd
    go_wp2_with fail
    refine wp_loop_rounds 1 ?_
    rw [rounds_succ]
    go_wp2_with fail
    refine (left_any g _ _ _ R2.out).mono ?_
    rintro e w3 ⟨rfl, rfl⟩
    go_wp2_with fail
    refine (err_any g _ _ _ R2.out).mono ?_
    rintro e w3 ⟨rfl, rfl⟩
    go_wp2_with fail
    go_ret
    exact ⟨rfl, B2.out⟩

theorem spot_none {w : World} {b o : Nat} {spot : _} {u : Value} (h : w.cell? ((⟨b, o, spot⟩ : Addr).add 0) = some u) : spot = none := by
  simpa [Addr.add] using World.cell?_spot h

theorem packBack_walk (a0 : Option Addr) (len0 cap0 : Nat) (z0 : List Int) (a1 : Option Addr) (len1 cap1 : Nat) (z1 : List ByteArray) (w : World) (w0 : IsRow .u32 w a0 len0 cap0 z0) (w1 : IsStrs w a1 len1 cap1 z1) :
    Calls Try.prog 5 #[.slice a0 len0 cap0, .slice a1 len1 cap1] w (TrueRet w) := by
  have m0 : len0 ≤ 9223372036854775807 := by
    rcases w0 with ⟨_, h, _⟩ | ⟨x, _, h1, h2, _⟩
    · omega
    · unfold maxLen at h2; omega
  have m1 : len1 ≤ 9223372036854775807 := by
    rcases w1 with ⟨_, h, _⟩ | ⟨x, _, h1, h2, _⟩
    · omega
    · unfold maxLen at h2; omega
  by_cases hb : 40 < len0 ∨ (len0 ≤ 40 ∧ 40 < len1)
  · exact back_big a0 a1 _ _ _ _ w hb m0 m1
  · by_cases hz : (0 < len0 ∧ len1 = 0) ∨ len0 = 0
    · exact back_zero a0 a1 _ _ _ _ w (by omega) (by omega) hz
    · rcases w0 with ⟨_, h, _⟩ | ⟨x, rfl, hl0, hm0, hz0, hcell0, hwf0⟩
      · omega
      · rcases w1 with ⟨_, h, _⟩ | ⟨y, rfl, hl1, hm1, hz1, hcell1, hwf1⟩
        · omega
        · obtain ⟨bl, ol, sl⟩ := x
          obtain ⟨bt, ot, st⟩ := y
          obtain rfl := spot_none (hcell0 0 (by omega))
          obtain rfl := spot_none (hcell1 0 (by omega))
          have hlen : (((z0.take len0).map Int.toNat).zip (z1.take len1)).length = min len0 len1 := by simp; omega
          refine back_some bl ol bt ot len0 len1 cap0 cap1 (((z0.take len0).map Int.toNat).zip (z1.take len1)) w (by omega) (by omega) ⟨hlen, ?_, ?_, ?_, ?_⟩
          · intro j h
            have hj : j < z0.length := by omega
            have e := hcell0 j hj
            have b := bounds_u32 (hwf0 z0[j] (List.getElem_mem hj))
            rw [Addr.add_lit] at e
            rw [e]
            simp only [List.getD, List.getElem?_eq_getElem hj, Option.getD_some, List.getElem_zip, List.getElem_map, List.getElem_take]
            congr 2
            omega
          · intro j h
            have hj : j < z1.length := by omega
            have e := hcell1 j hj
            rw [Addr.add_lit] at e
            rw [e]
            simp [List.getD, List.getElem?_eq_getElem hj]
          · intro j h
            have hj : j < z0.length := by omega
            have b := bounds_u32 (hwf0 z0[j] (List.getElem_mem hj))
            simp only [List.getElem_zip, List.getElem_map, List.getElem_take]
            omega
          · intro j h
            have hj : j < z1.length := by omega
            simp only [List.getElem_zip, List.getElem_take]
            exact hwf1 _ (List.getElem_mem hj)
end Go.Proofs.Ytainkbcjfhejmaa
