/-
  The walk of WireCuts. Conditions: those of the statement.
-/
import Derived.Test.YteibkipcblmikaaDoorM8
import Derived.Test.YteibkipcblmikaaDoorWTiny
import Derived.Test.YteibkipcblmikaaDoorWCut
import Derived.LoopTactic
import Derived.Lib.Walk
namespace Go.Proofs.YteibkipcblmikaaDoor
open Go.RowKit Go.ChangeShapes Go.WideShapes Go.Deep
set_option linter.unusedVariables false
set_option maxRecDepth 100000

/-- A list of small operations, and where it lies. -/
structure TRow where
  A : Option Addr
  c : Nat
  ts : List T5
def IsTnss (w : World) (a : Option Addr) (len cap : Nat) (rs : List TRow) : Prop :=
  rs.length = len ∧ len ≤ cap ∧ cap ≤ maxLen ∧ (0 < len → ∃ b o, a = some ⟨b, o, none⟩ ∧ ∀ j (h : j < rs.length), w.cell? ⟨b, o + j, none⟩ = some (.slice rs[j].A rs[j].ts.length rs[j].c)) ∧ ∀ r ∈ rs, Tns w r.A r.c r.ts ∧ ∀ t ∈ r.ts, t.ok
theorem cells_tns : Tryd.prog.cellsOf 36 = 1 := by kernel_rfl
theorem open_tinyss {H : Type} {enc : TypeId × Value → H} {base : Nat} {spare : Nat → Bool} {held : Bool} {d : DataW H} {p : List MemPlace} (w : World) (a : Option Addr) (len cap : Nat)
    (h : DataW.Trod enc Tryd.prog w base spare held 42 (.slice a len cap) d p) : ∃ rs, IsTnss w a len cap rs := by
  obtain ⟨fuel, hf⟩ := h
  rcases open_slice Tryd.underlying42 hf with ⟨hcs, _⟩ | ⟨x, l, c, m, n, D, Pl, hcs, _, hl, hm, hmm, _, hi⟩
  · simp [Value.cells] at hcs
    obtain ⟨rfl, rfl, rfl⟩ := hcs
    exact ⟨[], rfl, Nat.le_refl _, Nat.zero_le _, by simp, by simp⟩
  · simp [Value.cells] at hcs
    obtain ⟨rfl, rfl, rfl⟩ := hcs
    have hlm : len ≤ m := by rw [hmm]; split <;> omega
    have hx : ∀ i, i < len → ∃ z : TRow, w.cell? (x.add i) = some (.slice z.A z.ts.length z.c) ∧ Tns w z.A z.c z.ts ∧ ∀ t ∈ z.ts, t.ok := by
      intro i hilt
      obtain ⟨cs', hc, ht⟩ := hi i (by omega)
      rw [cells_tns, Nat.mul_one] at hc
      obtain ⟨_, hcl, hat⟩ := World.cells?_some hc
      match cs', hcl with
      | [u0], _ =>
        have a0 := hat 0 (by omega)
        have hu : ∃ A k c, u0 = .slice A k c := by
          rcases open_slice Tryd.underlying36 ht with ⟨hcs, _⟩ | ⟨x, l, c, m, n, D, Pl, hcs, _⟩
          · simp at hcs; exact ⟨_, _, _, hcs⟩
          · simp at hcs; exact ⟨_, _, _, hcs⟩
        obtain ⟨A, k, c, rfl⟩ := hu
        obtain ⟨ts, rfl, h1, h2⟩ := tns_of w A k c ht
        exact ⟨⟨A, c, ts⟩, by simpa [Addr.add] using a0, h1, h2⟩
    obtain ⟨zs, hzl, hz⟩ := pickAll len _ hx
    refine ⟨zs, hzl, hl, hm, fun h0 => ?_, fun r hr => ?_⟩
    · obtain ⟨b, o, spot⟩ := x
      have e0 := (hz 0 (by omega)).1
      obtain rfl : spot = none := by simpa [Addr.add] using World.cell?_spot e0
      refine ⟨b, o, rfl, fun j hj => ?_⟩
      have := (hz j hj).1
      rwa [Addr.add_lit] at this
    · obtain ⟨i, hi, rfl⟩ := List.getElem_of_mem hr
      exact (hz i hi).2
def encs (rs : List TRow) : List UInt8 := (rs.map fun r => wEnc (r.ts.map ofT)).flatten
theorem encs_step (rs : List TRow) (k : Nat) (h : k < rs.length) : encs (rs.take (k + 1)) = encs (rs.take k) ++ wEnc (rs[k].ts.map ofT) := by
  unfold encs
  rw [List.take_succ_eq_append_getElem h, List.map_append, List.flatten_append]
  simp only [List.map_cons, List.map_nil, List.flatten_cons, List.flatten_nil, List.append_nil]
theorem encs_drop (rs : List TRow) (k : Nat) (h : k < rs.length) : encs (rs.drop k) = wEnc (rs[k].ts.map ofT) ++ encs (rs.drop (k + 1)) := by
  unfold encs
  rw [List.drop_eq_getElem_cons h, List.map_cons, List.flatten_cons]
theorem encs_le : ∀ (rs : List TRow), (∀ r ∈ rs, r.ts.length ≤ 10) → (encs rs).length ≤ 5000 * rs.length
  | [], _ => by simp [encs]
  | r :: rs, h => by
    have h1 := encs_le rs (fun x hx => h x (by simp [hx]))
    have h2 := wEnc_le (ofT_ok r.ts (by have := h r (by simp); omega))
    unfold encs at h1 ⊢
    simp only [List.map_cons, List.flatten_cons, List.length_append, List.length_cons]
    omega
theorem cut_put {os : List O5} (h : wOk os = true) (more : List UInt8) : spE (wEnc os ++ more) = 0 ∧ cutF (wEnc os ++ more) = wEnc os ∧ cutR (wEnc os ++ more) = more := by
  have hb := wBody_le h
  have hl := wAll_len os
  have e : wEnc os ++ more = num (wAll os).length ++ (wAll os ++ more) := by simp [wEnc]
  obtain ⟨h1, h2, h3⟩ := sp_put (wAll os ++ more) (n := (wAll os).length) (by omega) (by rw [List.length_append]; omega)
  rw [← e] at h1 h2 h3
  have hle : spK (wEnc os ++ more) + spN (wEnc os ++ more) = (wEnc os).length := by rw [h2, h3, wEnc, List.length_append]
  refine ⟨h1, ?_, ?_⟩
  · unfold cutF
    rw [if_pos h1, hle]
    exact List.take_left
  · unfold cutR
    rw [if_pos h1, hle]
    exact List.drop_left
def Cut1Rel (w : World) (rs : List TRow) (v i : Value) (wr : World) : Prop :=
  ∃ k : Nat, k ≤ rs.length ∧ i = .int .i64 (k : Int) ∧ wr.ownsRow w.heap.size 5 1 v (encs (rs.take k)).length (bc (encs (rs.take k))) ∧ Below w.heap.size w wr ∧ ∀ r ∈ rs.take k, r.ts.length ≤ 10
def Cut2Rel (w : World) (rs : List TRow) (v i : Value) (wr : World) : Prop :=
  ∃ k : Nat, k ≤ rs.length ∧ i = .int .i64 (k : Int) ∧ wr.ownsRow w.heap.size 5 1 v (encs (rs.drop k)).length (bc (encs (rs.drop k))) ∧ Below w.heap.size w wr
set_option maxHeartbeats 1000000 in
theorem wireCuts_walk (a : Option Addr) (len cap : Nat) (rs : List TRow) (w : World) (h : IsTnss w a len cap rs) (hE : Env w) :
    Calls Tryd.prog 7 #[.slice a len cap] w (TrueRet w) := by
  obtain ⟨rfl, hlc, hcm, hlit, htn⟩ := h
  have HT := hide htn
  have HE := hide hE
  have HLit := hide hlit
  clear htn hE hlit hlc hcm
  go_enter Tryd.func7, Tryd.ntmps7
  go_wp2_with fail
  refine (wAwake_any w HE.out).mono ?_
  rintro e w1 ⟨rfl, hb⟩
  have B1 := hide hb
  clear hb
  by_cases h5 : rs.length ≤ 5
  · have d1 : decide ((rs.length : Int) > 5) = false := by simp; omega
    go_wp2_with fail
    clear d1
    go_loopw [4, 5] (Cut1Rel w rs) (fun _ i _ => rs.length - (intOf i).toNat)
    case atStart => exact ⟨0, Nat.zero_le _, rfl, World.ownsRow_nil _ _ _ _, B1.out, by simp⟩
    case round =>
      obtain ⟨k, hk, rfl, ho, hb, h10⟩ := hrel
      have O := hide ho
      have B := hide hb
      have H10 := hide h10
      have sz := hb.size
      have hel : (encs (rs.take k)).length ≤ 25000 := by
        have := encs_le (rs.take k) h10
        rw [List.length_take] at this
        omega
      clear ho hb h10 B1
      by_cases hlt : k < rs.length
      · obtain ⟨b, o, rfl, hat⟩ := HLit.out (by omega)
        have cc := (B.out.cell (World.block_lt_of_cell? w _ (hat k hlt))).trans (hat k hlt)
        obtain ⟨t1, t2⟩ := HT.out _ (List.getElem_mem hlt)
        have T1 := hide t1
        have T2 := hide t2
        have ST := hide (encs_step rs k hlt)
        have HK := hide (List.take_succ_eq_append_getElem hlt)
        generalize rs[k]'hlt = r at cc T1 T2 ST HK
        clear hat t1 t2
        by_cases hr : r.ts.length ≤ 10
        · have d1 : decide ((r.ts.length : Int) > 10) = false := by simp; omega
          go_wp2_with fail
          clear d1
          refine (all_any r.A r.c r.ts wr (by omega) T2.out (T1.out.below B.out)).mono ?_
          rintro e wa ⟨va, rfl, hown, hb⟩
          obtain ⟨Aa, ca, rfl, pa⟩ := hown.ops
          have Pa := hide pa
          have Ba := hide (B.out.trans (hb.mono sz))
          have Oa := hide (own_below O.out hb)
          have HO := hide (ofT_ok r.ts (by omega))
          have HN := hide (ofT_name r.ts)
          have na : (r.ts.map ofT).length ≤ 1000000 := by rw [List.length_map]; omega
          generalize r.ts.map ofT = l at Pa HO HN na ST ⊢
          clear hown hb pa B O cc
          have za := Ba.out.size
          go_wp2_with fail
          refine (encode_any Aa ca l wa na HN.out (HE.out.below Ba.out) Pa.out).mono ?_
          rintro e wb ⟨vb, rfl, hown, hb⟩
          rw [show encB l = wEnc l from if_pos HO.out] at hown
          rw [show encE l = 0 from if_pos HO.out]
          obtain ⟨Ab, cb, rfl, f1, f2, f3⟩ := (RSl.of_own hown).form
          have Bb := hide (Ba.out.trans (hb.mono za))
          have Ob := hide (own_below Oa.out hb)
          have Nb := hide (Hnd.of_RSl (RSl.of_own hown))
          have Fb := hide f1
          have zb := Bb.out.size
          have hwl := wEnc_le HO.out
          clear hown hb f1 f2 f3 Ba Oa Pa
          go_wp2_with (at_builtin; refine wpList_append_b _ rfl _ _ rfl w.heap.size _ _ _ rfl Ob.out Ab (wEnc l).length cb (wEnc l) rfl rfl Fb.out Nb.out (by omega) zb ?_)
          intro v6 w6 hown6 hg6 _
          have B6 := hide (Bb.out.grown hg6 zb (own_row Ob.out))
          have O6 := hide (show w6.ownsRow w.heap.size 5 1 v6 (encs (rs.take (k + 1))).length (bc (encs (rs.take (k + 1)))) by
            rw [ST.out, List.length_append]
            exact hown6)
          clear hown6 hg6 Bb Ob Nb Fb ST
          go_wp2_with fail
          go_roundw
          case rel =>
            refine ⟨k + 1, by omega, by go_num, O6.out, B6.out, ?_⟩
            rw [HK.out]
            intro x hx
            rcases List.mem_append.1 hx with hx | hx
            · exact H10.out x hx
            · rw [List.mem_singleton.1 hx]; exact hr
          case measure => simp [intOf]; omega
        · have d1 : decide ((r.ts.length : Int) > 10) = true := by simp; omega
          go_wp2
          go_ret
          exact ⟨rfl, B.out⟩
      · obtain rfl : k = rs.length := by omega
        have O1 := hide (show wr.ownsRow w.heap.size 5 1 u4 (encs rs).length (bc (encs rs)) by
          have := O.out
          rwa [List.take_length] at this)
        have H11 := hide (show ∀ r ∈ rs, r.ts.length ≤ 10 by
          have := H10.out
          rwa [List.take_length] at this)
        clear O H10 hel
        go_wp2_with fail
        go_loopw [4, 8] (Cut2Rel w rs) (fun _ i _ => rs.length - (intOf i).toNat)
        case atStart => exact ⟨0, Nat.zero_le _, rfl, O1.out, B.out⟩
        case round =>
          obtain ⟨j, hj, rfl, ho, hb⟩ := hrel
          have O2 := hide ho
          have B2 := hide hb
          have sz2 := hb.size
          clear ho hb O1 B
          by_cases hjt : j < rs.length
          · obtain ⟨b, o, rfl, hat⟩ := HLit.out (by omega)
            have hat' := hat j hjt
            obtain ⟨t1, t2⟩ := HT.out _ (List.getElem_mem hjt)
            have T1 := hide t1
            have T2 := hide t2
            have hrl := H11.out _ (List.getElem_mem hjt)
            have HD := hide (encs_drop rs j hjt)
            have hel : (encs (rs.drop j)).length ≤ 25000 := by
              have := encs_le (rs.drop j) (fun r hr => H11.out r (List.mem_of_mem_drop hr))
              rw [List.length_drop] at this
              omega
            generalize rs[j]'hjt = r at hat' T1 T2 hrl HD
            have HO := hide (ofT_ok r.ts (by omega))
            have HN := hide (ofT_name r.ts)
            have HCut := hide (cut_put HO.out (encs (rs.drop (j + 1))))
            rw [← HD.out] at HCut
            have HDec := hide (dec_put HO.out)
            have hwl := wEnc_le HO.out
            have na : (r.ts.map ofT).length ≤ 1000000 := by rw [List.length_map]; omega
            have HAl := hide (fun W h => show Calls Tryd.prog 19 _ W (fun e w' => ∃ v, e = .returned v ∧ OwnOps w' W.heap.size v (r.ts.map ofT) ∧ Below W.heap.size W w') from all_any r.A r.c r.ts W (by omega) T2.out h)
            generalize r.ts.map ofT = l at HO HN HCut HDec hwl na HAl
            generalize encs (rs.drop j) = x at O2 HCut hel
            generalize hy : encs (rs.drop (j + 1)) = y at HCut
            have HY := hide hy
            clear hy
            obtain ⟨A4, c4, rfl, f1, f2, f3⟩ := (RSl.of_own O2.out).form
            have N4 := hide (Hnd.of_RSl (RSl.of_own O2.out))
            clear hat t1 t2 HD f1
            go_wp2_with fail
            refine (cut6_any A4 c4 x wr (by omega) f2 f3 N4.out).mono ?_
            rintro e wa ⟨v1, v2, rfl, hown1, hown2, hb⟩
            rw [HCut.out.1]
            rw [HCut.out.2.1] at hown1
            rw [HCut.out.2.2] at hown2
            obtain ⟨A5, c5, rfl, g1, g2, g3⟩ := (RSl.of_own hown1).form
            have N5 := hide (Hnd.of_RSl (RSl.of_own hown1))
            have Oa := hide (own_base hown2 sz2)
            have Ba := hide (B2.out.trans (hb.mono sz2))
            have G2 := hide g2
            have G3 := hide g3
            have za := Ba.out.size
            clear hown1 hown2 hb g1 g2 g3 f2 f3 N4 O2 B2 HCut hel
            generalize wEnc l = z at N5 G2 HDec hwl ⊢
            go_wp2_with fail
            refine (decode_any A5 c5 z wa (by omega) G2.out G3.out (HE.out.below Ba.out) N5.out).mono ?_
            rw [HDec.out]
            rintro e wb ⟨v6, rfl, hown, hb⟩
            obtain ⟨A6, c6, rfl, p6⟩ := OwnOps.ops (show OwnOps wb wa.heap.size v6 l from hown)
            have P6 := hide p6
            have Bb := hide (Ba.out.trans (hb.mono za))
            have Ob := hide (own_below Oa.out hb)
            have zb := Bb.out.size
            have cc := (Bb.out.cell (World.block_lt_of_cell? w _ hat')).trans hat'
            clear hown hb p6 Ba Oa N5 G2 G3 HDec
            go_wp2_with fail
            refine (HAl.out wb (T1.out.below Bb.out)).mono ?_
            rintro e wd ⟨v7, rfl, hown, hb⟩
            obtain ⟨A7, c7, rfl, p7⟩ := hown.ops
            have P7 := hide p7
            have P8 := hide (P6.out.below hb)
            have Bd := hide (Bb.out.trans (hb.mono zb))
            have Od := hide (own_below Ob.out hb)
            have zd := Bd.out.size
            clear hown hb p7 P6 Bb Ob cc HAl
            go_wp2_with fail
            refine (sameOps_any A6 c6 l A7 c7 l wd na na P8.out P7.out).mono ?_
            rw [decide_eq_true rfl]
            rintro e we ⟨rfl, hb⟩
            have Be := hide (Bd.out.trans (hb.mono zd))
            have Oe := hide (own_below Od.out hb)
            clear hb P7 P8 Bd Od
            go_wp2_with fail
            go_roundw
            case rel => exact ⟨j + 1, by omega, by go_num, by rw [HY.out]; exact Oe.out, Be.out⟩
            case measure => simp [intOf]; omega
          · obtain rfl : j = rs.length := by omega
            have O3 := hide (show wr.ownsRow w.heap.size 5 1 u4 ([] : List UInt8).length (bc []) by
              have := O2.out
              rw [List.drop_length] at this
              exact this)
            obtain ⟨A4, c4, rfl, f1, f2, f3⟩ := (RSl.of_own O3.out).form
            have N4 := hide (Hnd.of_RSl (RSl.of_own O3.out))
            have d2 : decide ((rs.length : Int) < (rs.length : Int)) = false := by simp
            clear O2 O3 f1
            go_wp2_with fail
            refine (cut6_any A4 c4 [] wr (by simp) f2 f3 N4.out).mono ?_
            rintro e wa ⟨v1, v2, rfl, _, _, hb⟩
            have Ba := hide (B2.out.trans (hb.mono sz2))
            rw [show spE [] = 2 by decide]
            clear hb
            go_wp2
            go_ret
            exact ⟨rfl, Ba.out⟩
  · have d1 : decide ((rs.length : Int) > 5) = true := by simp; omega
    go_wp2
    go_ret
    exact ⟨rfl, B1.out⟩
end Go.Proofs.YteibkipcblmikaaDoor
