/-
  The document's limbo in memory: the contract of Retire. Conditions: the limbo is one, in memory, of not more than a hundred thousand handles; the handles that come are not its own.
-/
import Derived.Test.YtbfbnfnjjlibbaaERef3
import Derived.Maps.AppendAt
namespace Go.Proofs.Ytbfbnfnjjlibbaa
open Go.RowKit
set_option linter.unusedVariables false
set_option linter.unusedSimpArgs false
set_option maxRecDepth 100000

theorem intinfo : (Try.prog.info? 3).map (fun i => (i.zero, i.size, i.bytes)) = some (some (.int .i64 0), 1, 8) := by kernel_rfl
theorem boolinfo : (Try.prog.info? 4).map (fun i => (i.zero, i.size, i.bytes)) = some (some (.bool false), 1, 1) := by kernel_rfl
def RtLs (w wr : World) (fs : List Nat) (g now : Nat) (D : List Rt) (l : List (Int × Int)) : Prop := Lf w wr fs g now (rtH (D ++ reD now l)) (rtB (D ++ reD now l)) (rtG (D ++ reD now l))
def RtRel (w : World) (fs : List Nat) (g now : Nat) (D : List Rt) (l : List (Int × Int)) (vi : Value) (wr : World) : Prop := ∃ k : Nat, k ≤ l.length ∧ vi = .int .i64 (k : Int) ∧ RtLs w wr fs g now D (l.take k)
def RtEnd (w : World) (fs : List Nat) (g now : Nat) (D : List Rt) (l : List (Int × Int)) (e : Ending) (w' : World) : Prop := e = .returned (.tuple #[]) ∧ RtLs w w' fs g now D l
theorem rtH_snoc (now : Nat) (D : List Rt) (l : List (Int × Int)) (p q : Int) : rtH (D ++ reD now (l ++ [(p, q)])) = rtH (D ++ reD now l) ++ [(p, q)] := by simp [rtH, reD]
theorem rtB_snoc (now : Nat) (D : List Rt) (l : List (Int × Int)) (x : Int × Int) : rtB (D ++ reD now (l ++ [x])) = rtB (D ++ reD now l) ++ [.int .i64 (now : Int)] := by simp [rtB, reD]
theorem rtG_snoc (now : Nat) (D : List Rt) (l : List (Int × Int)) (x : Int × Int) : rtG (D ++ reD now (l ++ [x])) = rtG (D ++ reD now l) ++ [.bool false] := by simp [rtG, reD]
set_option maxHeartbeats 4000000 in
theorem rretire_any (g now : Nat) (D : List Rt) (fs : List Nat) (A : Option Addr) (c : Nat) (l : List (Int × Int)) (hl : D.length + l.length ≤ 100000) (w : World) (hA : Hs w A c l) (hAf : 0 < l.length → ∀ a, A = some a → a.block ∉ fs) (h : RtLs w w fs g now D []) : Calls Try.prog 12 #[.pointer (some ⟨g, 0, none⟩), .slice A l.length c] w (RtEnd w fs g now D l) := by
  have H := hide h
  have HA := hide hA
  have HF := hide hAf
  have c1 := hA.le
  have c2 := hA.most
  unfold maxLen at c2
  clear h hA hAf
  go_enter Try.func12, Try.ntmps12
  go_wp2_with fail
  go_loopw [4] (RtRel w fs g now D l) (fun i _ => l.length - (intOf i).toNat)
  case atStart => exact ⟨0, Nat.zero_le _, rfl, H.out⟩
  case round =>
    obtain ⟨k, hk, rfl, hL⟩ := hrel
    have HL := hide hL
    by_cases hlt : k < l.length
    · obtain ⟨b, o, rfl, hat⟩ := HA.out.lit (by omega)
      obtain ⟨md, vH, vB, vG, hM, hf⟩ := hL
      have KZ := hide (fun (W : World) (hm : Mod fs w W) => show W.cell? ⟨b, o + k * 2, none⟩ = some (.int .i64 l[k].1) ∧ W.cell? ⟨b, o + k * 2 + 1, none⟩ = some (.int .i64 l[k].2) from by
        obtain ⟨z0, z1⟩ := hat.two k hlt
        have hb := World.block_lt_of_cell? w _ z0
        have e := hm.block b hb (HF.out (by omega) _ rfl)
        exact ⟨(World.cell?_of_block (a := ⟨b, o + k * 2, none⟩) e).trans z0, (World.cell?_of_block (a := ⟨b, o + k * 2 + 1, none⟩) e).trans z1⟩)
      have HT := hide (show l.take (k + 1) = l.take k ++ [(l[k].1, l[k].2)] from List.take_succ_eq_append_getElem hlt)
      have i0 : (0 : Int) ≤ (k : Int) := by omega
      have i1 : (k : Int) < (l.length : Int) := by omega
      have n1 : (rtH (D ++ reD now (l.take k))).length ≤ 100000 := by simp [rtH, reD]; omega
      have n2 : (rtB (D ++ reD now (l.take k))).length ≤ 100000 := by simp [rtB, reD]; omega
      have n3 : (rtG (D ++ reD now (l.take k))).length ≤ 100000 := by simp [rtG, reD]; omega
      have EH := hide (rtH_snoc now D (l.take k) l[k].1 l[k].2)
      have EB := hide (rtB_snoc now D (l.take k) (l[k].1, l[k].2))
      have EG := hide (rtG_snoc now D (l.take k) (l[k].1, l[k].2))
      have HMd := hide md
      have HM := hide hM
      have HFF := hide hf
      clear HL hat md hM hf
      generalize l[k].1 = p at *
      generalize l[k].2 = q at *
      generalize rtH (D ++ reD now (l.take k)) = lH at *
      generalize rtB (D ++ reD now (l.take k)) = lB at *
      generalize rtG (D ++ reD now (l.take k)) = lG at *
      obtain ⟨aH, cH, rfl⟩ := row_form HM.out.rH
      go_upto_region 3 with (fail)
      have D1 := ((Below.refl wr.heap.size wr).drew).alloc (Nat.le_refl _) (.cells #[.int .i64 p, .int .i64 q] 43)
      obtain ⟨-, y1, -, -⟩ := HM.out.cells
      have D2 := (Below.refl wr.heap.size wr).alloc (Nat.le_refl _) (.cells #[.int .i64 p, .int .i64 q] 43)
      obtain ⟨z0, z1⟩ := KZ.out wr HMd.out
      have y1a := cell_b D2 y1
      have z0a := cell_b D2 z0
      have z1a := cell_b D2 z1
      clear D2
      have HP := hide (show wr.drew.ownsRow 0 43 2 (.slice aH lH.length cH) lH.length (hcs lH) from HM.out.rH)
      have HNW := hide (World.news_of_block (heap_alloc_new wr.drew (.cells #[.int .i64 p, .int .i64 q] 43)))
      have HD1 := hide D1
      have KE := hide (fun (w5 : World) (gx cx : Nat) ho hg hat => rt_endH (w5 := w5) (gx := gx) (cx := cx) (p := p) (q := q) HMd.out HM.out rfl HFF.out ho HD1.out hg hat)
      clear D1
      obtain ⟨i9, hi0, hz0, hz1, hz2⟩ := info_parts hinfo
      generalize lH.length = n at *
      go_cut [4] from 5 to 45 (fun s4 wx => s4 = .int .i64 (k : Int) ∧ Lf w wx fs g now (lH ++ [(p, q)]) lB lG)
      case first =>
        go_region_law (refine step_append_lies _ (by rfl) _ _ _ (by rfl) 0 43 i9 _ 2 16 Try.underlying27 hi0 hz0 hz1 hz2 rfl (by omega) (.slice aH n cH) n (hcs lH) (by rfl) (HP.out.alloc _) ⟨wr.heap.size, 0, none⟩ 1 1 [.int .i64 p, .int .i64 q] (by rfl) rfl HNW.out (by simp [Value.oneCell']) (by omega) (by simp only [maxLen]; omega) (by omega) (Nat.zero_le _) (wr.heap.size + 1) (by simp) ?_
                       intro gx cx w5 hown5 hgrow5 hat5 hlt5
                       obtain ⟨k2, fk, e3⟩ := KE.out w5 gx cx hown5 hgrow5 (hat5.imp_right fun h => by omega)
                       have E3 := hide e3
                       clear hown5 hgrow5 hat5 hlt5 e3)
        all_goals
          go_wp2_with fail
          go_meet
          exact ⟨rfl, E3.out⟩
      case rest =>
        obtain ⟨rfl, md, vH2, vB2, vG2, hM, hf⟩ := hcut
        have HMd2 := hide md
        have HM2 := hide hM
        have HFF2 := hide hf
        clear md hM hf y1 y1a z0 z1 z0a z1a HP HNW KE HD1 HM HMd HFF hi0
        obtain ⟨aB, cB, rfl⟩ := row_form HM2.out.rB
        go_upto_region 4 with (fail)
        generalize wc = wr at *
        have D1 := ((Below.refl wr.heap.size wr).drew).alloc (Nat.le_refl _) (.cells #[.int .i64 (now : Int)] 3)
        have D2 := (Below.refl wr.heap.size wr).alloc (Nat.le_refl _) (.cells #[.int .i64 (now : Int)] 3)
        obtain ⟨y0, -, y2, -⟩ := HM2.out.cells
        have y0a := cell_b D2 y0
        have y2a := cell_b D2 y2
        clear D2
        have HP := hide (show wr.drew.ownsRow 0 3 1 (.slice aB lB.length cB) lB.length lB from HM2.out.rB)
        have HNW := hide (World.news_of_block (heap_alloc_new wr.drew (.cells #[.int .i64 (now : Int)] 3)))
        have HD1 := hide D1
        have KE := hide (fun (w5 : World) (gx cx : Nat) ho hg hat => rt_endB (w5 := w5) (gx := gx) (cx := cx) (p := (now : Int)) HMd2.out HM2.out rfl HFF2.out ho HD1.out hg hat)
        clear D1
        obtain ⟨i8, hi0, hz0, hz1, hz2⟩ := info_parts intinfo
        generalize lB.length = n at *
        go_cut [4] from 5 to 45 (fun s4 wx => s4 = .int .i64 (k : Int) ∧ Lf w wx fs g now (lH ++ [(p, q)]) (lB ++ [.int .i64 (now : Int)]) lG)
        case first =>
          go_region_law (refine step_append_lies _ (by rfl) _ _ _ (by rfl) 0 3 i8 _ 1 8 Try.underlying28 hi0 hz0 hz1 hz2 rfl (by omega) (.slice aB n cB) n lB (by rfl) (HP.out.alloc _) ⟨wr.heap.size, 0, none⟩ 1 1 [.int .i64 (now : Int)] (by rfl) rfl HNW.out (by simp [Value.oneCell']) (by omega) (by simp only [maxLen]; omega) (by omega) (Nat.zero_le _) (wr.heap.size + 1) (by simp) ?_
                         intro gx cx w5 hown5 hgrow5 hat5 hlt5
                         obtain ⟨k2, fk, e3⟩ := KE.out w5 gx cx hown5 hgrow5 (hat5.imp_right fun h => by omega)
                         have E3 := hide e3
                         clear hown5 hgrow5 hat5 hlt5 e3)
          all_goals
            go_wp2_with fail
            go_meet
            exact ⟨rfl, E3.out⟩
        case rest =>
          obtain ⟨rfl, md, vH3, vB3, vG3, hM, hf⟩ := hcut
          have HMd3 := hide md
          have HM3 := hide hM
          have HFF3 := hide hf
          clear md hM hf y0 y2 y0a y2a HP HNW KE HD1 HM2 HMd2 HFF2 hi0 hz0 hz1 hz2
          obtain ⟨aG, cG, rfl⟩ := row_form HM3.out.rG
          go_upto_region 5 with (fail)
          generalize wc = wr at *
          have D1 := (Below.refl wr.heap.size wr).alloc (Nat.le_refl _) (.cells #[.bool false] 4)
          obtain ⟨-, -, -, y3⟩ := HM3.out.cells
          have HP := hide ((HM3.out.below D1).rG)
          have HNW := hide (World.news_of_block (heap_alloc_new wr (.cells #[.bool false] 4)))
          have HD1 := hide D1
          have KE := hide (fun (w5 : World) (gx cx : Nat) ho hg hat => rt_endG (w5 := w5) (gx := gx) (cx := cx) (p := false) HMd3.out HM3.out rfl HFF3.out ho HD1.out hg hat)
          clear D1
          obtain ⟨i7, hi0, hz0, hz1, hz2⟩ := info_parts boolinfo
          generalize lG.length = n at *
          go_wp2_with (at_builtin; refine wpList_append_own_at _ rfl _ _ _ rfl 0 4 i7 _ 1 1 Try.underlying29 hi0 hz0 hz1 hz2 rfl (by omega) (.slice aG n cG) n lG rfl HP.out ⟨wr.heap.size, 0, none⟩ 1 1 [.bool false] rfl rfl HNW.out (by simp [Value.oneCell']) (by simp only [maxLen]; omega) (by omega) (Nat.zero_le _) ?_
                       intro v6 w6 hown6 hg6 _ hat6
                       obtain ⟨gx, cx, rfl, _, _⟩ := hown6.form (by omega)
                       obtain ⟨y4, f4, e4⟩ := KE.out w6 gx cx hown6 hg6 (hat6.imp (fun h => h.symm.trans rfl) (fun h => by simp [Value.ownBlock] at h; omega))
                       have E4 := hide e4
                       clear hown6 hg6 hat6 e4)
          go_roundw
          case rel => exact ⟨k + 1, by omega, by go_num, by unfold RtLs; rw [HT.out, EH.out, EB.out, EG.out]; exact E4.out⟩
          case measure => simp [intOf]; omega
    · obtain rfl : k = l.length := by omega
      rw [List.take_length] at HL
      clear hL
      go_wp2_with fail
      go_end0
      exact ⟨rfl, HL.out⟩
end Go.Proofs.Ytbfbnfnjjlibbaa
