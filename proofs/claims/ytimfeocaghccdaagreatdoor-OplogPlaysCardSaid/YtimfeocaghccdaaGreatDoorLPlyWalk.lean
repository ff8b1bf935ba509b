/-
  The walk of OplogPlays. Conditions: those of the statement.
-/
import Derived.Test.YtimfeocaghccdaaGreatDoorLM4
import Derived.Deep.CutRange
import Derived.Deep.RegionHeld3
import Derived.Deep.DeepCutAuto
namespace Go.Proofs.YtimfeocaghccdaaGreatDoor
open Go.RowKit Go.Maps
set_option linter.unusedVariables false
set_option linter.unusedSimpArgs false
set_option maxRecDepth 100000

theorem Lwg.mod2 {w0 w w' : World} {g most : Nat} {L : List O5} {fs fs' : List Nat} (h : Lwg w0 w g most L fs) (hm : Mod fs' w w') (hd : ∀ k ∈ fs, k ∉ fs') (hs : ∀ k ∈ fs', w0.heap.size ≤ k) : Lwg w0 w' g most L fs :=
  ⟨h.lg.mod hm hd, h.fs, h.bel.trans (hm.below h.bel.size hs)⟩
theorem Ops.modp {w w' : World} {A : Option Addr} {c : Nat} {os : List O5} {fs : List Nat} (h : Ops w A c os) (hm : Mod fs w w') (hd : ∀ b o, A = some ⟨b, o, none⟩ → b ∉ fs) : Ops w' A c os :=
  ⟨h.nil, h.le, h.most, fun hp => by
    obtain ⟨b, o, e, hat⟩ := h.lit hp
    refine ⟨b, o, e, fun j u hu => ?_⟩
    have hc := hat j u hu
    have := hm.block b (World.block_lt_of_cell? w _ hc) (hd b o e)
    rw [← hc]
    unfold World.cell?
    rw [this]⟩
theorem RLg.new2 (w : World) (most : Nat) : RLg (w.alloc (.cells #[.int .i64 (most : Int), .slice none 0 0] 29)) w.heap.size most none 0 [] :=
  ⟨heap_alloc_new w _, fun _ => rfl, Nat.le_refl _, Nat.zero_le _, fun h => by simp at h⟩
theorem OwnChs.farp {w w' : World} {base q : Nat} {v : Value} {l : List Ch} {cs : Array Value} {z : Nat × Nat} (h : OwnChs w base v l) (hm : Mod [q] w w') (hq : w.heap[q]? = some (.cells cs 29 z)) : OwnChs w' base v l :=
  h.kept fun b hb => hm.block b (h.lt hb).2 (fun hbq => by
    rcases h.2 with ⟨rfl, _⟩ | ⟨g, cap, cur, rfl, _, h3, _⟩
    · cases hb
    · cases hb
      have eg : g = q := List.mem_singleton.1 hbq
      rw [eg, hq] at h3
      simp at h3)
/-- The log at L, the document's log at P. -/
structure Ply (w0 w : World) (g gw m : Nat) (L P : List O5) (fg : List Nat) (A : Option Addr) (c : Nat) : Prop where
  lg : Lwg w0 w g m L fg
  rl : RLg w gw m A c P
  nin : gw ∉ fg
  h0 : w0.heap.size ≤ gw
  ap : ∀ b o, A = some ⟨b, o, none⟩ → b ∉ fg ∧ b < w.heap.size
theorem Ply.below {w0 w w' : World} {g gw m : Nat} {L P : List O5} {fg : List Nat} {A : Option Addr} {c : Nat} (h : Ply w0 w g gw m L P fg A c) (hb : Below w.heap.size w w') : Ply w0 w' g gw m L P fg A c :=
  ⟨h.lg.below hb, h.rl.below hb, h.nin, h.h0, fun b o e => ⟨(h.ap b o e).1, Nat.lt_of_lt_of_le (h.ap b o e).2 hb.size⟩⟩
theorem Ply.put1 {w0 w w' : World} {g gw m : Nat} {L P M : List O5} {fg fg' : List Nat} {A : Option Addr} {c : Nat} (h : Ply w0 w g gw m L P fg A c) (hL : Lwg w0 w' g m M fg') (hm : Mod fg w w') (hf : ∀ k ∈ fg', k ∈ fg ∨ w.heap.size ≤ k) : Ply w0 w' g gw m M P fg' A c := by
  refine ⟨hL, ⟨(hm.block gw h.rl.lt h.nin).trans h.rl.blk, h.rl.ops.modp hm (fun b o e => (h.ap b o e).1)⟩, fun hk => ?_, h.h0, fun b o e => ⟨fun hk => ?_, Nat.lt_of_lt_of_le (h.ap b o e).2 hm.size⟩⟩
  · rcases hf gw hk with h1 | h1
    · exact h.nin h1
    · have := h.rl.lt
      omega
  · rcases hf b hk with h1 | h1
    · exact (h.ap b o e).1 h1
    · have := (h.ap b o e).2
      omega
theorem Ply.put2 {w0 w w' : World} {g gw m : Nat} {L P M : List O5} {fg : List Nat} {A A' : Option Addr} {c c' : Nat} (h : Ply w0 w g gw m L P fg A c) (hM : RLg w' gw m A' c' M) (hm : Mod [gw] w w') (hA : A' = A ∨ ∀ b o, A' = some ⟨b, o, none⟩ → w.heap.size ≤ b ∧ b < w'.heap.size) : Ply w0 w' g gw m L M fg A' c' := by
  refine ⟨h.lg.mod2 hm (fun k hk hk' => h.nin (by rw [List.mem_singleton.1 hk'] at hk; exact hk)) (fun k hk => by rw [List.mem_singleton.1 hk]; exact h.h0), hM, h.nin, h.h0, fun b o e => ?_⟩
  rcases hA with h1 | h1
  · rw [h1] at e
    exact ⟨(h.ap b o e).1, Nat.lt_of_lt_of_le (h.ap b o e).2 hm.size⟩
  · refine ⟨fun hk => ?_, (h1 b o e).2⟩
    have := h.lg.lg.lt b hk
    have := (h1 b o e).1
    omega
/-- Where the playing of batches stands; both at one list. -/
def PyS (w0 : World) (g gw m : Nat) (wx : World) : Prop := ∃ (L : List O5) (fg : List Nat) (A : Option Addr) (c : Nat), Ply w0 wx g gw m L L fg A c
def PyRel (w0 : World) (g gw m n : Nat) (i : Value) (wr : World) : Prop := ∃ k : Nat, k ≤ n ∧ i = .int .i64 (k : Int) ∧ PyS w0 g gw m wr
def PyIn (w0 : World) (n : Nat) (i : Value) (wr : World) : Prop := ∃ k : Nat, k ≤ n ∧ i = .int .i64 (k : Int) ∧ Below w0.heap.size w0 wr
set_option maxHeartbeats 4000000 in
theorem oplogPlays_walk (a : Option Addr) (len cap : Nat) (rs : List BRow) (tp : Int) (W : World) (h : IsBs W a len cap rs) (ht : (Lit.int .u8 tp).wf = true) (hE : Env W) :
    Calls Tryz.prog 3 #[.slice a len cap, .int .u8 tp] W (TrueRet W) := by
  have ht := bounds_u8 ht
  obtain ⟨tp, rfl⟩ : ∃ n : Nat, tp = n := ⟨tp.toNat, by omega⟩
  have HB := hide h
  have hlen := h.1
  have hl1 := h.2.1
  have hl2 := h.2.2.1
  have hE' := hE
  have HE := hide hE
  subst hlen
  unfold maxLen at hl2
  obtain ⟨m, hm⟩ : ∃ m : Nat, (tp : Int) % 41 = (m : Int) := ⟨tp % 41, by omega⟩
  have hm40 : m ≤ 40 := by omega
  clear h hE hE'
  go_enter Tryz.func3, Tryz.ntmps3
  go_wp2_with fail
  refine (lawake_any W HE.out).mono ?_
  rintro e w1 ⟨rfl, hb⟩
  have B1 := hide hb
  have R1 := hide (HB.out.below hb)
  have E1 := hide (HE.out.below hb)
  clear hb HB
  by_cases h1 : rs.length ≤ 8
  · have d1 : decide ((rs.length : Int) > 8) = false := by simp; omega
    go_wp2_with fail
    refine (lnew_any m w1).mono ?_
    rintro e w2 ⟨g, fs2, rfl, hL2⟩
    have bz := (Below.refl w2.heap.size w2).alloc (Nat.le_refl _) (.cells #[.int .i64 (m : Int), .slice none 0 0] 29)
    have S3 := hide (show PyRel w1 g w2.heap.size m rs.length (.int .i64 0) (w2.alloc (.cells #[.int .i64 (m : Int), .slice none 0 0] 29)) from
      ⟨0, Nat.zero_le _, rfl, [], fs2, none, 0, hL2.below bz, RLg.new2 w2 m, fun hk => Nat.lt_irrefl _ (hL2.lg.lt _ hk), hL2.bel.size, fun b o e => by cases e⟩)
    clear hL2 bz
    go_wp2_with fail
    generalize w2.alloc (.cells #[.int .i64 (m : Int), .slice none 0 0] 29) = w3 at S3 ⊢
    generalize w2.heap.size = gw at S3 ⊢
    clear hm
    go_loopw [8] (PyRel w1 g gw m rs.length) (fun i _ => rs.length - (intOf i).toNat)
    case atStart => exact S3.out
    case round =>
      clear S3
      obtain ⟨k, hk, rfl, L, fg, A, c, hP⟩ := hrel
      have P := hide hP
      have hLm := hP.lg.lg.len
      clear hP
      by_cases hlt : k < rs.length
      · obtain ⟨-, -, -, hlit, hrow⟩ := R1.out.below P.out.lg.bel
        obtain ⟨b, o, rfl, hcell⟩ := hlit (by omega)
        have HBT := hide (fun (V : World) (hV : Below w1.heap.size w1 V) => show V.cell? ⟨b, o + k, none⟩ = some (.slice rs[k].A rs[k].os.length rs[k].c) ∧ Ops V rs[k].A rs[k].c rs[k].os from by
          obtain ⟨-, -, -, hlit', hrow'⟩ := R1.out.below hV
          obtain ⟨b', o', e', hc'⟩ := hlit' (by omega)
          cases e'
          exact ⟨hc' k hlt, (hrow' _ (List.getElem_mem hlt)).1⟩)
        have hN0 := (hrow _ (List.getElem_mem hlt)).2
        have i1 : (k : Int) < (rs.length : Int) := by omega
        have i0 : (0 : Int) ≤ (k : Int) := by omega
        clear hlit hrow hcell
        generalize rs[k] = r at HBT hN0
        obtain ⟨Ab, cb, os⟩ := r
        simp only at HBT hN0
        have hO0 := (HBT.out _ P.out.lg.bel).2
        have c0 := (HBT.out _ P.out.lg.bel).1
        have hle : os.length ≤ 9223372036854775807 := by
          have h1 := hO0.le
          have h2 := hO0.most
          unfold maxLen at h2
          omega
        have N0 := hide hN0
        go_wp2_with fail
        refine (shortOps_any Ab cb os wr hle N0.out hO0).mono ?_
        rintro e w4 ⟨rfl, hw⟩
        subst hw
        clear hN0 hO0
        by_cases hok : shO os = true ∧ os.length ≤ 8
        · obtain ⟨hsh, h8⟩ := hok
          rw [hsh]
          have HSH := hide (show ∀ x ∈ os, x.l.length ≤ 1000 by
            intro x hx
            have := List.all_eq_true.1 hsh x hx
            simp at this
            omega)
          have j1 : decide ((os.length : Int) > 8) = false := by simp; omega
          clear hsh
          have K4 := hide (put_any w1 E1.out g m L fg Ab cb os N0.out (by omega) w4 P.out.lg (HBT.out _ P.out.lg.bel).2)
          have K5 := hide (fun (V : World) (hV : RLg V gw m A c L) (hO : Ops V Ab cb os) => rput_any gw m A c L P.out.lg.lg.srt P.out.lg.lg.rgt P.out.lg.lg.len Ab cb os HSH.out (by omega) V hV hO)
          unfold PutRet at K4
          unfold RPutRet at K5
          generalize putE m L os = E at K4 K5
          generalize putL m L os = M at K4 K5
          have hcl : (chs (runS L).1 (runS M).1 (M.map (·.d))).length ≤ M.length := by
            unfold chs dif
            rw [List.length_map]
            have h1 := List.length_filter_le (fun n => decide (fnd (runS L).1 n ≠ fnd (runS M).1 n)) (ups (M.map (·.d)))
            have h2 := ups_len (M.map (·.d))
            rw [List.length_map] at h2
            omega
          generalize chs (runS L).1 (runS M).1 (M.map (·.d)) = CL at K4 K5 hcl
          obtain ⟨dn, hdn⟩ : ∃ dn : Int, (M.length : Int) - (L.length : Int) = dn := ⟨_, rfl⟩
          rw [hdn] at K4 K5
          clear hdn
          go_wp2_with fail
          refine K4.out.mono ?_
          rintro e w5 ⟨v5, fg5, rfl, hC5, hL5, hm5, hf5, -⟩
          obtain ⟨A5, c5, rfl⟩ := hC5.form
          have P5 := hide (P.out.put1 hL5 hm5 hf5)
          have C5 := hide (hC5.base (Nat.zero_le _))
          have hMm := hL5.lg.len
          have c0 := (HBT.out _ hL5.bel).1
          clear hC5 hL5 hm5 hf5 K4 P
          go_wp2_with fail
          refine (K5.out w5 P5.out.rl (HBT.out _ P5.out.lg.bel).2).mono ?_
          rintro e w6 ⟨v6, A6, c6, rfl, hC6, hx6, hm6, hA6⟩
          obtain ⟨Ac6, cc6, rfl⟩ := hC6.form
          have P6 := hide (P5.out.put2 hx6 hm6 hA6)
          have C6 := hide (C5.out.farp hm6 P5.out.rl.blk)
          have D6 := hide (hC6.base (Nat.zero_le _))
          clear hC6 hx6 hm6 hA6 K5 P5 C5 c0
          go_wp2_with fail
          refine (ltree_any g m M fg5 (by omega) w6 P6.out.lg.lg).mono ?_
          rintro e w7 ⟨b7, f7, rfl, hT7, -, hb7⟩
          have P7 := hide (P6.out.below hb7)
          have C7 := hide (C6.out.below hb7)
          have D7 := hide (D6.out.below hb7)
          have T7 := hide hT7
          clear hT7 hb7 P6 C6 D6
          have hrm := runS_len M
          have hkm : (runS M).1.length ≤ 40 := by have := (runS_hst M).len; omega
          have CC := hide (fun V (h : Below w7.heap.size w7 V) => (P7.out.below h).rl.cell1)
          have KS := hide (fun V (h : Below w7.heap.size w7 V) => rsame_any A5 c5 Ac6 cc6 CL V (by omega) (C7.out.below h) (D7.out.below h))
          have KA := hide (fun V (h : Below w7.heap.size w7 V) => lall_any g m M fg5 (by omega) V (P7.out.below h).lg.lg)
          have KT := hide (fun V (h : Below w7.heap.size w7 V) => ltop_any g m M fg5 (by omega) V (P7.out.below h).lg.lg)
          have KR := hide (fun V (h : Below w7.heap.size w7 V) => rtop_any gw m A6 c6 M (by omega) V (P7.out.below h).rl)
          have OX := hide (fun V (h : Below w7.heap.size w7 V) => (P7.out.below h).rl.ops)
          have hS0 := CC.out _ (Below.refl _ _)
          have q1 : (dn != dn) = false := by simp
          have q2 : (E != E) = false := by simp
          have q3 : (topO M != topO M) = false := by simp
          generalize topO M = tm at KT KR q3
          go_wp2_with fail
          go_region_held3 (fun w' => w'.cell? ⟨gw, 1, none⟩ = some (.slice A6 M.length c6))
            (first | with_reducible exact hS5 | with_reducible exact hS4 | with_reducible exact hS3 | with_reducible exact hS2 | with_reducible exact hS1 | with_reducible exact hS0 | go_keep)
            (first
              | (go_at_call 13
                 (with_reducible refine (KS.out _ ?hz).mono ?_)
                 case hz => exact (Below.refl w7.heap.size w7).drew
                 rintro e wa ⟨rfl, hb⟩
                 have Za := hide (show Below w7.heap.size w7 wa from ⟨hb.os, hb.tape, hb.output, hb.size, hb.block⟩)
                 have hS1 := CC.out _ Za.out
                 clear hb)
              | (go_at_call 15
                 (with_reducible refine (KA.out _ Za.out).mono ?_)
                 rintro e wb ⟨vb, rfl, hown, hb⟩
                 obtain ⟨Ap, cp, rfl, hO⟩ := hown.ops
                 have Zb := hide (Za.out.trans (hb.mono Za.out.size))
                 have hS2 := CC.out _ Zb.out
                 have Ob := hide hO
                 clear hb hown hO)
              | (go_at_call 14
                 (with_reducible refine (sameOps_any Ap cp M A6 c6 M _ (by omega) (by omega) Ob.out (OX.out _ Zb.out)).mono ?_)
                 rw [decide_eq_true (rfl : M = M)]
                 rintro e wc ⟨rfl, hb⟩
                 have Zc := hide (Zb.out.trans (hb.mono Zb.out.size))
                 have hS3 := CC.out _ Zc.out
                 clear hb)
              | (go_at_call 16
                 (with_reducible refine (KT.out _ Zc.out).mono ?_)
                 rintro e wd ⟨rfl, hb⟩
                 have Zd := hide (Zc.out.trans (hb.mono Zc.out.size))
                 have hS4 := CC.out _ Zd.out
                 clear hb)
              | (go_at_call 17
                 (with_reducible refine (KR.out _ Zd.out).mono ?_)
                 rintro e we ⟨rfl, hb⟩
                 have Ze := hide (Zd.out.trans (hb.mono Zd.out.size))
                 have hS5 := CC.out _ Ze.out
                 clear hb))
          have P8 := hide (P7.out.below Ze.out)
          have T8 := hide (T7.out.below Ze.out)
          clear hS0 hS1 hS2 hS3 hS4 hS5 KS KA KT KR OX CC P7 C7 D7 T7 Ob
          have MR := hide P8.out.lg.lg.rgt
          have CC := hide (fun V (h : Below we.heap.size we V) => (P8.out.below h).rl.cell1)
          have KB := hide (fun V (h : Below we.heap.size we V) => tall_any b7 (runS M).1 (runS M).2 f7 (by omega) V (T8.out.below h))
          have KO := hide (fun V (h : Below we.heap.size we V) => rof_any A6 c6 M V (by omega) (fun o ho => by have := right_len (O5.R_t (MR.out o ho)).2.2; omega) (P8.out.below h).rl.ops)
          have sa : (sortK (runS M).1).length ≤ 1000000 := by rw [sortK_length]; omega
          have hS0 := CC.out _ (Below.refl _ _)
          go_wp2_with fail
          go_region_held3 (fun w' => w'.cell? ⟨gw, 1, none⟩ = some (.slice A6 M.length c6))
            (first | with_reducible exact hS4 | with_reducible exact hS3 | with_reducible exact hS2 | with_reducible exact hS1 | with_reducible exact hS0 | go_keep)
            (first
              | (go_at_call 19
                 (with_reducible refine (KB.out _ ?hz).mono ?_)
                 case hz => exact (Below.refl we.heap.size we).drew
                 rintro e wf ⟨vf, rfl, hown, hb⟩
                 have Zf := hide (show Below we.heap.size we wf from ⟨hb.os, hb.tape, hb.output, hb.size, hb.block⟩)
                 have Pf := hide hown.kids
                 have hS1 := CC.out _ Zf.out
                 clear hb hown)
              | (go_at_call 20
                 (with_reducible refine (KO.out _ Zf.out).mono ?_)
                 rintro e wg ⟨go, rfl, hR⟩
                 have hb := hR.bel
                 obtain ⟨vL, vW, vs', hr, -, -⟩ := hR
                 have Ro := hide (show Calls Tryz.prog 21 #[.pointer (some ⟨go, 0, none⟩)] wg (KidsRet wg (sortK (runS M).1)) from rall_any go vL vW (runS M).1 (by omega) wg hr.rl)
                 have Po := hide (Pf.out.below hb)
                 have Zg := hide (Zf.out.trans (hb.mono Zf.out.size))
                 have hS2 := CC.out _ Zg.out
                 clear hb hr)
              | (go_at_call 21
                 (with_reducible refine (Ro.out).mono ?_)
                 rintro e wh ⟨vh, rfl, hown, hb⟩
                 have Pr := hide (Po.out.below hb)
                 have Qr := hide hown.kids
                 have Zh := hide (Zg.out.trans (hb.mono Zg.out.size))
                 have hS3 := CC.out _ Zh.out
                 clear hb hown)
              | (go_at_call 18
                 (with_reducible refine (ksame_any _ _ (sortK (runS M).1) (sortK (runS M).1) _ sa sa Pr.out Qr.out).mono ?_)
                 rw [decide_eq_true (rfl : sortK (runS M).1 = sortK (runS M).1)]
                 rintro e wi ⟨rfl, hb⟩
                 have Zi := hide (Zh.out.trans (hb.mono Zh.out.size))
                 have hS4 := CC.out _ Zi.out
                 clear hb))
          have P9 := hide (P8.out.below Zi.out)
          clear hS0 hS1 hS2 hS3 hS4 KB KO CC Pf Po Pr Qr Ro P8 T8 MR
          have S9 := hide (show PyIn wi os.length (.int .i64 0) wi from ⟨0, Nat.zero_le _, rfl, Below.refl _ _⟩)
          go_wp2_with fail
          go_loopw [17] (PyIn wi os.length) (fun i _ => os.length - (intOf i).toNat)
          case atStart => exact S9.out
          case round =>
            rename World => wj
            clear S9
            obtain ⟨n, hn, rfl, hbn⟩ := hrel
            have BN := hide hbn
            have PN := hide (P9.out.below hbn)
            have b0 := (HBT.out _ (P9.out.below hbn).lg.bel).1
            clear hbn
            by_cases hnt : n < os.length
            · obtain ⟨bo, oo, rfl, hat⟩ := (HBT.out _ PN.out.lg.bel).2.lit (by omega)
              have HAT := hide (fun V (hV : Below wj.heap.size wj V) => (hat.below hV).five n hnt)
              have CC := hide (fun V (hV : Below wj.heap.size wj V) => And.intro (PN.out.below hV).rl.cell1 (cellk hV b0))
              have KH := hide (fun V (hV : Below wj.heap.size wj V) => lhas_any g m M fg5 os[n] (by omega) V (PN.out.below hV).lg.lg)
              have KW := hide (fun V (hV : Below wj.heap.size wj V) => rhas_any A6 c6 M os[n] V (by omega) (PN.out.below hV).rl.ops)
              have n1 : (n : Int) < (os.length : Int) := by omega
              have n0 : (0 : Int) ≤ (n : Int) := by omega
              clear hat
              generalize os[n] = x at HAT KH KW
              generalize decide (x ∈ M) = tr at KH KW
              have q9 : (tr != tr) = false := by simp
              have hS0 := And.intro (CC.out _ (Below.refl _ _)) (HAT.out _ (Below.refl _ _))
              go_wp2_with fail
              go_region_held3 (fun w' => (w'.cell? ⟨gw, 1, none⟩ = some (.slice A6 M.length c6) ∧ w'.cell? ⟨b, o + k, none⟩ = some (.slice (some ⟨bo, oo, none⟩) os.length cb)) ∧ w'.cell? ⟨bo, oo + n * 5, none⟩ = some (.int .i64 x.n) ∧ w'.cell? ⟨bo, oo + n * 5 + 1, none⟩ = some (.int .i64 x.r) ∧ w'.cell? ⟨bo, oo + n * 5 + 2, none⟩ = some (.int .i64 x.d) ∧ w'.cell? ⟨bo, oo + n * 5 + 3, none⟩ = some (.int .i64 x.t) ∧ w'.cell? ⟨bo, oo + n * 5 + 4, none⟩ = some (.string (bs x.l)))
                (first | with_reducible exact hS2 | with_reducible exact hS1 | with_reducible exact hS0 | go_keep)
                (first
                  | (go_at_call 22
                     (with_reducible refine (KH.out _ ?hz).mono ?_)
                     case hz => exact (Below.refl wj.heap.size wj).drew
                     rintro e wk ⟨rfl, hb⟩
                     have Zk := hide (show Below wj.heap.size wj wk from ⟨hb.os, hb.tape, hb.output, hb.size, hb.block⟩)
                     have hS1 := And.intro (CC.out _ Zk.out) (HAT.out _ Zk.out)
                     clear hb)
                  | (go_at_call 23
                     (with_reducible refine (KW.out _ Zk.out).mono ?_)
                     rintro e wl ⟨rfl, hb⟩
                     have Zl := hide (Zk.out.trans (hb.mono Zk.out.size))
                     have hS2 := And.intro (CC.out _ Zl.out) (HAT.out _ Zl.out)
                     clear hb))
              have BL := hide (BN.out.trans (Zl.out.mono BN.out.size))
              clear hS0 hS1 hS2 KH KW CC HAT PN b0
              go_wp2_with fail
              go_roundw
              case rel => exact ⟨n + 1, by omega, by go_num, BL.out⟩
              case measure => simp [intOf]; omega
            · have n1 : ¬ (n : Int) < (os.length : Int) := by omega
              go_wp2_with fail
              go_roundw
              case rel => exact ⟨k + 1, by omega, by go_num, M, fg5, A6, c6, PN.out⟩
              case measure => simp [intOf]; omega
        · have BP := hide P.out.lg.bel
          cases hsh : shO os with
          | false =>
            go_wp2
            go_ret
            exact ⟨rfl, B1.out.trans (BP.out.mono B1.out.size)⟩
          | true =>
            have j1 : decide ((os.length : Int) > 8) = true := by
              have : ¬ os.length ≤ 8 := fun h => hok ⟨hsh, h⟩
              simp
              omega
            clear hok hsh
            go_wp2
            go_ret
            exact ⟨rfl, B1.out.trans (BP.out.mono B1.out.size)⟩
      · have BP := hide P.out.lg.bel
        have i1 : ¬ (k : Int) < (rs.length : Int) := by omega
        clear hLm
        go_wp2
        go_ret
        exact ⟨rfl, B1.out.trans (BP.out.mono B1.out.size)⟩
  · have d1 : decide ((rs.length : Int) > 8) = true := by simp; omega
    clear h1
    go_wp2
    go_ret
    exact ⟨rfl, B1.out⟩
end Go.Proofs.YtimfeocaghccdaaGreatDoor
