/-
  The walk of OplogClones. Conditions: those of the statement.
-/
import Derived.Test.YtimfeocaghccdaaGreatDoorLM4
import Derived.Deep.CutRange
import Derived.Deep.RegionHeld3
import Derived.Deep.DeepCutAuto
namespace Go.Proofs.YtimfeocaghccdaaGreatDoor
open Go.RowKit Go.Maps
set_option linter.unusedVariables false
set_option linter.unusedSimpArgs false
set_option maxRecDepth 100000

theorem RLg.far {w w' : World} {g q most : Nat} {A : Option Addr} {c : Nat} {L : List O5} {cs : Array Value} {t : TypeId} {z : Nat × Nat} (h : RLg w g most A c L) (hm : Mod [q] w w') (hq : w.heap[q]? = some (.cells cs t z)) (hs : cs.size ≤ 2) (hne : g ≠ q) : RLg w' g most A c L :=
  ⟨(hm.block g h.lt (by simpa using hne)).trans h.blk, h.ops.far2 hm hq hs⟩
theorem RLg.new (w : World) (most : Nat) {A : Option Addr} {c : Nat} {L : List O5} (h : Ops w A c L) : RLg (w.alloc (.cells #[.int .i64 (most : Int), .slice A L.length c] 29)) w.heap.size most A c L :=
  ⟨heap_alloc_new w _, h.below ((Below.refl w.heap.size w).alloc (Nat.le_refl _) _)⟩
theorem Duo9.far {w0 w w' : World} {g h mg mh : Nat} {L M : List O5} {fg fh : List Nat} {q : Nat} (D : Duo9 w0 w g h mg mh L M fg fh) (hm : Mod [q] w w') (hg : q ∉ fg) (hh : q ∉ fh) (h0 : w0.heap.size ≤ q) : Duo9 w0 w' g h mg mh L M fg fh :=
  ⟨D.lft.mod hm (fun k hk hk' => hg (by rw [List.mem_singleton.1 hk'] at hk; exact hk)) (fun k hk => by rw [List.mem_singleton.1 hk]; exact h0),
   D.rgt.mod hm (fun k hk hk' => hh (by rw [List.mem_singleton.1 hk'] at hk; exact hk)) (fun k hk => by rw [List.mem_singleton.1 hk]; exact h0), D.ap⟩
/-- Two logs, and the document's two, in blocks of their own. -/
structure Clo9 (w0 w : World) (g h tp : Nat) (L M : List O5) (fg fh : List Nat) (gx gy : Nat) (Ax : Option Addr) (cx : Nat) (P : List O5) (Ay : Option Addr) (cy : Nat) (Q : List O5) : Prop where
  duo : Duo9 w0 w g h tp tp L M fg fh
  x : RLg w gx tp Ax cx P
  y : RLg w gy tp Ay cy Q
  ne : gx < gy
  nx : gx ∉ fg ∧ gx ∉ fh ∧ w0.heap.size ≤ gx
  ny : gy ∉ fg ∧ gy ∉ fh
theorem Clo9.below {w0 w w' : World} {g h tp : Nat} {L M : List O5} {fg fh : List Nat} {gx gy : Nat} {Ax Ay : Option Addr} {cx cy : Nat} {P Q : List O5} (C : Clo9 w0 w g h tp L M fg fh gx gy Ax cx P Ay cy Q) (hb : Below w.heap.size w w') : Clo9 w0 w' g h tp L M fg fh gx gy Ax cx P Ay cy Q :=
  ⟨C.duo.below hb, C.x.below hb, C.y.below hb, C.ne, C.nx, C.ny⟩
theorem Clo9.putx {w0 w w' : World} {g h tp : Nat} {L M : List O5} {fg fh : List Nat} {gx gy : Nat} {Ax Ay A : Option Addr} {cx cy c : Nat} {P Q P' : List O5} (C : Clo9 w0 w g h tp L M fg fh gx gy Ax cx P Ay cy Q) (hm : Mod [gx] w w') (hx : RLg w' gx tp A c P') : Clo9 w0 w' g h tp L M fg fh gx gy A c P' Ay cy Q :=
  ⟨C.duo.far hm C.nx.1 C.nx.2.1 C.nx.2.2, hx, C.y.far hm C.x.blk (by simp) (by have := C.ne; omega), C.ne, C.nx, C.ny⟩
theorem Clo9.puty {w0 w w' : World} {g h tp : Nat} {L M : List O5} {fg fh : List Nat} {gx gy : Nat} {Ax Ay A : Option Addr} {cx cy c : Nat} {P Q Q' : List O5} (C : Clo9 w0 w g h tp L M fg fh gx gy Ax cx P Ay cy Q) (hm : Mod [gy] w w') (hy : RLg w' gy tp A c Q') : Clo9 w0 w' g h tp L M fg fh gx gy Ax cx P A c Q' :=
  ⟨C.duo.far hm C.ny.1 C.ny.2 (by have := C.ne; have := C.nx.2.2; omega), C.x.far hm C.y.blk (by simp) (by have := C.ne; omega), hy, C.ne, C.nx, C.ny⟩
set_option maxHeartbeats 8000000 in
theorem oplogClones_walk (a : Option Addr) (len cap : Nat) (ts : List T5) (a1 : Option Addr) (len1 cap1 : Nat) (us : List T5) (a2 : Option Addr) (len2 cap2 : Nat) (vs : List T5) (tp : Int) (W : World) (h : IsTns W a len cap ts) (h1 : IsTns W a1 len1 cap1 us) (h2 : IsTns W a2 len2 cap2 vs)
    (ht : (Lit.int .u8 tp).wf = true) (hE : Env W) :
    Calls Tryz.prog 6 #[.slice a len cap, .slice a1 len1 cap1, .slice a2 len2 cap2, .int .u8 tp] W (TrueRet W) := by
  obtain ⟨rfl, hts, hok⟩ := h
  obtain ⟨rfl, hus, hok1⟩ := h1
  obtain ⟨rfl, hvs, hok2⟩ := h2
  have ht := bounds_u8 ht
  obtain ⟨tp, rfl⟩ : ∃ n : Nat, tp = n := ⟨tp.toNat, by omega⟩
  have HT := hide hts
  have HU := hide hus
  have HV := hide hvs
  have HK := hide hok
  have HK1 := hide hok1
  have HK2 := hide hok2
  have HE := hide hE
  clear hts hus hvs hok hok1 hok2 hE
  obtain ⟨X, hX⟩ : ∃ X, ts.map ofT = X := ⟨_, rfl⟩
  obtain ⟨Y, hY⟩ : ∃ Y, us.map ofT = Y := ⟨_, rfl⟩
  obtain ⟨Z, hZ⟩ : ∃ Z, vs.map ofT = Z := ⟨_, rfl⟩
  have xl : X.length = ts.length := by rw [← hX, List.length_map]
  have yl : Y.length = us.length := by rw [← hY, List.length_map]
  have zl : Z.length = vs.length := by rw [← hZ, List.length_map]
  have XR := hide (show AllR X by rw [← hX]; exact tiny_R ts)
  have YR := hide (show AllR Y by rw [← hY]; exact tiny_R us)
  have ZR := hide (show AllR Z by rw [← hZ]; exact tiny_R vs)
  have XN := hide (show ∀ o ∈ X, o.l.length ≤ maxLen by rw [← hX]; exact ofT_name ts)
  have YN := hide (show ∀ o ∈ Y, o.l.length ≤ maxLen by rw [← hY]; exact ofT_name us)
  have ZN := hide (show ∀ o ∈ Z, o.l.length ≤ maxLen by rw [← hZ]; exact ofT_name vs)
  have YM := hide (show ∀ o ∈ Y, o.l.length ≤ 1000 by rw [← hY]; exact fun o ho => by have := right_len (O5.R_t (tiny_R us o ho)).2.2; omega)
  have ZM := hide (show ∀ o ∈ Z, o.l.length ≤ 1000 by rw [← hZ]; exact fun o ho => by have := right_len (O5.R_t (tiny_R vs o ho)).2.2; omega)
  have XE := hide hX
  have YE := hide hY
  have ZE := hide hZ
  obtain ⟨L, hL⟩ : ∃ L, putO [] X = L := ⟨_, rfl⟩
  have m1 : L.length ≤ ts.length := by
    have := putF_most (f := ocF) X []
    rw [show putF ocF [] X = L from hL] at this
    simp at this
    omega
  have HL := hide hL
  have LS := hide (show SrtO L by rw [← hL]; exact putF_srt ocF_order List.Pairwise.nil)
  have LR := hide (show AllR L from fun o ho => by
    rw [← hL] at ho
    rcases mem_putF.1 ho with ho | ho
    · simp at ho
    · exact XR.out o ho)
  have m4 : X.length ≤ ts.length := Nat.le_of_eq xl
  have m5 : Y.length ≤ us.length := Nat.le_of_eq yl
  have m6 : Z.length ≤ vs.length := Nat.le_of_eq zl
  clear hX hY hZ hL xl yl zl
  go_enter Tryz.func6, Tryz.ntmps6
  go_wp2_with fail
  refine (lawake_any W HE.out).mono ?_
  rintro e w1 ⟨rfl, hb⟩
  have B1 := hide hb
  clear hb
  by_cases h1 : ts.length ≤ 24 ∧ us.length ≤ 8 ∧ vs.length ≤ 8
  · obtain ⟨h1, h2, h3⟩ := h1
    have d1 : decide ((ts.length : Int) > 24) = false := by simp; omega
    have d2 : decide ((us.length : Int) > 8) = false := by simp; omega
    have d3 : decide ((vs.length : Int) > 8) = false := by simp; omega
    go_wp2_with fail
    refine (lnew_any tp w1).mono ?_
    rintro e w2 ⟨g, fs2, rfl, hL2⟩
    have L2 := hide (hL2.back B1.out)
    clear hL2
    have T2 := hide (HT.out.below L2.out.bel)
    go_wp2_with fail
    refine (all_any a cap ts w2 (by omega) HK.out T2.out).mono ?_
    rintro e w3 ⟨v3, rfl, hv3, hb3⟩
    rw [XE.out] at hv3
    obtain ⟨A3, c3, rfl, ho3⟩ := hv3.ops
    have L3 := hide (L2.out.below hb3)
    have O3 := hide ho3
    clear hv3 hb3 ho3 T2 L2
    by_cases hful : tp < L.length
    · have K3 := hide (put_full W HE.out g tp [] fs2 A3 c3 X XR.out XN.out (by simp; omega) (by rw [HL.out]; exact hful) w3 L3.out O3.out)
      go_wp2_with fail
      refine K3.out.mono ?_
      rintro e w4 ⟨A4, k4, c4, fs4, rfl, -, hL4, -, -⟩
      have B4 := hide hL4.bel
      clear hL4 K3 L3 O3
      go_wp2
      go_ret
      exact ⟨rfl, B4.out⟩
    · have K3 := hide (put_fits W HE.out g tp [] fs2 A3 c3 X XR.out XN.out (by simp; omega) (by rw [HL.out]; omega) w3 L3.out O3.out)
      rw [HL.out] at K3
      simp only [List.length_nil, Nat.sub_zero] at K3
      go_wp2_with fail
      refine K3.out.mono ?_
      rintro e w4 ⟨A4, k4, c4, fg, rfl, -, hL4, -, -⟩
      have L4 := hide hL4
      clear hL4 K3 L3 O3 d1 d2 d3
      go_wp2_with fail
      refine (lclone_any g tp L fg (by omega) w4 L4.out.lg).mono ?_
      rintro e w5 ⟨q, fq, rfl, hq⟩
      have D5 := hide (Duo9.new L4.out hq)
      clear hq L4
      go_wp2_with fail
      refine (lall_any g tp L fg (by omega) w5 D5.out.lft.lg).mono ?_
      rintro e w6 ⟨v6, rfl, hv6, hb6⟩
      obtain ⟨Aw, cw, rfl, -⟩ := hv6.ops
      have D6 := hide (D5.out.below hb6)
      have RW6 := hide (Row9.new D5.out hv6)
      have U6 := hide (HU.out.below D6.out.lft.bel)
      clear hv6 hb6 D5
      go_wp2_with fail
      refine (all_any a1 cap1 us w6 (by omega) HK1.out U6.out).mono ?_
      rintro e w7 ⟨v7, rfl, hv7, hb7⟩
      rw [YE.out] at hv7
      obtain ⟨A7, c7, rfl, ho7⟩ := hv7.ops
      have D7 := hide (D6.out.below hb7)
      have RW7 := hide (RW6.out.below hb7)
      have O7 := hide ho7
      clear hv7 hb7 ho7 U6 D6 RW6
      have K7 := hide (put_any W HE.out q tp L fq A7 c7 Y YN.out (by omega) w7 D7.out.rgt O7.out)
      unfold PutRet at K7
      obtain ⟨E1, hE1⟩ : ∃ E, putE tp L Y = E := ⟨_, rfl⟩
      obtain ⟨LA, hLA⟩ : ∃ M, putL tp L Y = M := ⟨_, rfl⟩
      have HE1 := hide hE1
      have HLA := hide hLA
      rw [hE1, hLA] at K7
      have al1 : LA.length ≤ 32 := by
        rw [← hLA]
        unfold putL
        split
        · have h5 : (putO L Y).length ≤ L.length + Y.length := putF_most (f := ocF) Y L
          omega
        · omega
      clear hE1 hLA
      go_wp2_with fail
      refine K7.out.mono ?_
      rintro e w8 ⟨v8, fq8, rfl, hC8, hL8, hm8, hf8, -⟩
      obtain ⟨A8, c8, rfl⟩ := hC8.form
      have D8 := hide (D7.out.step2 hL8 hm8 hf8)
      have RW8 := hide (RW7.out.step2 hm8 hf8)
      clear hC8 hL8 hm8 hf8 K7 D7 RW7 O7
      go_wp2_with fail
      refine (lall_any g tp L fg (by omega) w8 D8.out.lft.lg).mono ?_
      rintro e w9 ⟨v9, rfl, hv9, hb9⟩
      obtain ⟨A9, c9, rfl, ho9⟩ := hv9.ops
      have D9 := hide (D8.out.below hb9)
      have RW9 := hide (RW8.out.below hb9)
      have OW9 := hide (show Ops w9 Aw cw L by obtain ⟨A', c', e, h⟩ := RW9.out.own.ops; cases e; exact h)
      have KS := hide (sameOps_any A9 c9 L Aw cw L w9 (by omega) (by omega) ho9 OW9.out)
      rw [decide_eq_true (rfl : L = L)] at KS
      clear hv9 hb9 ho9 D8 RW8 OW9
      go_wp2_with fail
      refine KS.out.mono ?_
      rintro e w10 ⟨rfl, hb10⟩
      have D10 := hide (D9.out.below hb10)
      have RW10 := hide (RW9.out.below hb10)
      clear hb10 KS D9 RW9
      go_wp2_with fail
      refine (lall_any q tp LA fq8 (by omega) w10 D10.out.rgt.lg).mono ?_
      rintro e w11 ⟨v11, rfl, hv11, hb11⟩
      obtain ⟨An, cn, rfl, -⟩ := hv11.ops
      have D11 := hide (D10.out.below hb11)
      have RW11 := hide (RW10.out.below hb11)
      have RN11 := hide (Row9.new D10.out hv11)
      have V11 := hide (HV.out.below D11.out.lft.bel)
      clear hv11 hb11 D10 RW10
      go_wp2_with fail
      refine (all_any a2 cap2 vs w11 (by omega) HK2.out V11.out).mono ?_
      rintro e w12 ⟨v12, rfl, hv12, hb12⟩
      rw [ZE.out] at hv12
      obtain ⟨A12, c12, rfl, ho12⟩ := hv12.ops
      have D12 := hide (D11.out.below hb12)
      have RW12 := hide (RW11.out.below hb12)
      have RN12 := hide (RN11.out.below hb12)
      have O12 := hide ho12
      clear hv12 hb12 ho12 V11 D11 RW11 RN11
      have K12 := hide (put_any W HE.out g tp L fg A12 c12 Z ZN.out (by omega) w12 D12.out.lft O12.out)
      unfold PutRet at K12
      obtain ⟨E2, hE2⟩ : ∃ E, putE tp L Z = E := ⟨_, rfl⟩
      obtain ⟨LB, hLB⟩ : ∃ M, putL tp L Z = M := ⟨_, rfl⟩
      have HE2 := hide hE2
      have HLB := hide hLB
      rw [hE2, hLB] at K12
      have al2 : LB.length ≤ 32 := by
        rw [← hLB]
        unfold putL
        split
        · have h5 : (putO L Z).length ≤ L.length + Z.length := putF_most (f := ocF) Z L
          omega
        · omega
      clear hE2 hLB
      go_wp2_with fail
      refine K12.out.mono ?_
      rintro e w13 ⟨v13, fg13, rfl, hC13, hL13, hm13, hf13, -⟩
      obtain ⟨A13, c13, rfl⟩ := hC13.form
      have D13 := hide (D12.out.step1 hL13 hm13 hf13)
      have RW13 := hide (RW12.out.step1 hm13 hf13)
      have RN13 := hide (RN12.out.step1 hm13 hf13)
      clear hC13 hL13 hm13 hf13 K12 D12 RW12 RN12 O12
      go_wp2_with fail
      refine (lall_any q tp LA fq8 (by omega) w13 D13.out.rgt.lg).mono ?_
      rintro e w14 ⟨v14, rfl, hv14, hb14⟩
      obtain ⟨A14, c14, rfl, ho14⟩ := hv14.ops
      have D14 := hide (D13.out.below hb14)
      have RW14 := hide (RW13.out.below hb14)
      have ON14 := hide (show Ops w14 An cn LA by obtain ⟨A', c', e, h⟩ := (RN13.out.below hb14).own.ops; cases e; exact h)
      have KS := hide (sameOps_any A14 c14 LA An cn LA w14 (by omega) (by omega) ho14 ON14.out)
      rw [decide_eq_true (rfl : LA = LA)] at KS
      clear hv14 hb14 ho14 D13 RW13 RN13 ON14
      go_wp2_with fail
      refine KS.out.mono ?_
      rintro e w15 ⟨rfl, hb15⟩
      have D15 := hide (D14.out.below hb15)
      have OW15 := hide (show Ops w15 Aw cw L by obtain ⟨A', c', e, h⟩ := (RW14.out.below hb15).own.ops; cases e; exact h)
      clear hb15 KS D14 RW14
      have bx1 := (Below.refl w15.heap.size w15).alloc (Nat.le_refl _) (.cells #[.int .i64 (tp : Int), .slice Aw L.length cw] 29)
      have X16 := RLg.new w15 tp OW15.out
      have D16 := D15.out.below bx1
      have OW16 := OW15.out.below bx1
      have nx16 : w15.heap.size ∉ fg13 ∧ w15.heap.size ∉ fq8 ∧ W.heap.size ≤ w15.heap.size := ⟨fun hk => Nat.lt_irrefl _ (D15.out.lft.lg.lt _ hk), fun hk => Nat.lt_irrefl _ (D15.out.rgt.lg.lt _ hk), D15.out.lft.bel.size⟩
      go_upto_region 22 with (fail)
      have hlt16 : w15.heap.size < (w15.alloc (.cells #[.int .i64 (tp : Int), .slice Aw L.length cw] 29)).heap.size := by simp
      generalize w15.alloc (.cells #[.int .i64 (tp : Int), .slice Aw L.length cw] 29) = w16 at X16 D16 OW16 hlt16 ⊢
      have bx2 := (Below.refl w16.heap.size w16).alloc (Nat.le_refl _) (.cells #[.int .i64 (tp : Int), .slice Aw L.length cw] 29)
      have C17 := hide (show Clo9 W (w16.alloc (.cells #[.int .i64 (tp : Int), .slice Aw L.length cw] 29)) g q tp LB LA fg13 fq8 w15.heap.size w16.heap.size Aw cw L Aw cw L from
        ⟨D16.below bx2, X16.below bx2, RLg.new w16 tp OW16, hlt16, nx16, fun hk => Nat.lt_irrefl _ (D16.lft.lg.lt _ hk), fun hk => Nat.lt_irrefl _ (D16.rgt.lg.lt _ hk)⟩)
      clear bx1 bx2 X16 D16 OW16 nx16 hlt16 D15 OW15
      go_upto_region 23 with (fail)
      generalize w16.alloc (.cells #[.int .i64 (tp : Int), .slice Aw L.length cw] 29) = w17 at C17 ⊢
      generalize w15.heap.size = gx at C17 ⊢
      generalize w16.heap.size = gy at C17 ⊢
      have hlm : L.length ≤ tp := by omega
      have U17 := hide (HU.out.below C17.out.duo.lft.bel)
      go_wp2_with fail
      refine (all_any a1 cap1 us w17 (by omega) HK1.out U17.out).mono ?_
      rintro e w18 ⟨v18, rfl, hv18, hb18⟩
      rw [YE.out] at hv18
      obtain ⟨A18, c18, rfl, ho18⟩ := hv18.ops
      have C18 := hide (C17.out.below hb18)
      have O18 := hide ho18
      clear hv18 hb18 ho18 U17 C17
      have K18 := hide (rput_any gx tp Aw cw L LS.out LR.out hlm A18 c18 Y YM.out (by omega) w18 C18.out.x O18.out)
      unfold RPutRet at K18
      rw [HE1.out, HLA.out] at K18
      go_wp2_with fail
      refine K18.out.mono ?_
      rintro e w19 ⟨v19, Ax, cx, rfl, hC19, hx19, hm19, -⟩
      obtain ⟨A19, c19, rfl⟩ := hC19.form
      have C19 := hide (C18.out.putx hm19 hx19)
      have V19 := hide (HV.out.below C19.out.duo.lft.bel)
      clear hC19 hx19 hm19 K18 C18 O18
      go_wp2_with fail
      refine (all_any a2 cap2 vs w19 (by omega) HK2.out V19.out).mono ?_
      rintro e w20 ⟨v20, rfl, hv20, hb20⟩
      rw [ZE.out] at hv20
      obtain ⟨A20, c20, rfl, ho20⟩ := hv20.ops
      have C20 := hide (C19.out.below hb20)
      have O20 := hide ho20
      clear hv20 hb20 ho20 V19 C19
      have K20 := hide (rput_any gy tp Aw cw L LS.out LR.out hlm A20 c20 Z ZM.out (by omega) w20 C20.out.y O20.out)
      unfold RPutRet at K20
      rw [HE2.out, HLB.out] at K20
      go_wp2_with fail
      refine K20.out.mono ?_
      rintro e w21 ⟨v21, Ay, cy, rfl, hC21, hy21, hm21, -⟩
      obtain ⟨A21, c21, rfl⟩ := hC21.form
      have C21 := hide (C20.out.puty hm21 hy21)
      clear hC21 hy21 hm21 K20 C20 O20
      go_wp2_with fail
      refine (ltree_any q tp LA fq8 (by omega) w21 C21.out.duo.rgt.lg).mono ?_
      rintro e w22 ⟨b1, f1, rfl, hT1, -, hb1⟩
      have C22 := hide (C21.out.below hb1)
      have T1 := hide hT1
      clear hT1 hb1 C21
      go_wp2_with fail
      refine (ltree_any g tp LB fg13 (by omega) w22 C22.out.duo.lft.lg).mono ?_
      rintro e wz ⟨b2, f2, rfl, hT2, -, hb2⟩
      have CZ := hide (C22.out.below hb2)
      have T2 := hide (T1.out.below hb2)
      have U2 := hide hT2
      clear hT2 hb2 C22 T1
      have AR := hide (show AllR LA from fun o ho => by
        rw [← HLA.out] at ho
        unfold putL at ho
        split at ho
        · rcases mem_putF.1 ho with ho | ho
          · exact LR.out o ho
          · exact YR.out o ho
        · exact LR.out o ho)
      have BR := hide (show AllR LB from fun o ho => by
        rw [← HLB.out] at ho
        unfold putL at ho
        split at ho
        · rcases mem_putF.1 ho with ho | ho
          · exact LR.out o ho
          · exact ZR.out o ho
        · exact LR.out o ho)
      have hra := runS_len LA
      have hrb := runS_len LB
      have hka : (runS LA).1.length ≤ 32 := by have := (runS_hst LA).len; omega
      have hkb : (runS LB).1.length ≤ 32 := by have := (runS_hst LB).len; omega
      have KA1 := hide (fun V (h : Below wz.heap.size wz V) => lall_any q tp LA fq8 (by omega) V (CZ.out.below h).duo.rgt.lg)
      have KA2 := hide (fun V (h : Below wz.heap.size wz V) => lall_any g tp LB fg13 (by omega) V (CZ.out.below h).duo.lft.lg)
      have KB1 := hide (fun V (h : Below wz.heap.size wz V) => tall_any b1 (runS LA).1 (runS LA).2 f1 (by omega) V (T2.out.below h))
      have KB2 := hide (fun V (h : Below wz.heap.size wz V) => tall_any b2 (runS LB).1 (runS LB).2 f2 (by omega) V (U2.out.below h))
      have KO1 := hide (fun V (h : Below wz.heap.size wz V) => rof_any Ax cx LA V (by omega) (fun o ho => by have := right_len (O5.R_t (AR.out o ho)).2.2; omega) (CZ.out.below h).x.ops)
      have KO2 := hide (fun V (h : Below wz.heap.size wz V) => rof_any Ay cy LB V (by omega) (fun o ho => by have := right_len (O5.R_t (BR.out o ho)).2.2; omega) (CZ.out.below h).y.ops)
      have sa : (sortK (runS LA).1).length ≤ 1000000 := by rw [sortK_length]; omega
      have sb : (sortK (runS LB).1).length ≤ 1000000 := by rw [sortK_length]; omega
      have CC := hide (fun V (h : Below wz.heap.size wz V) => And.intro (CZ.out.below h).x.cell1 (CZ.out.below h).y.cell1)
      have OX := hide (fun V (h : Below wz.heap.size wz V) => (CZ.out.below h).x.ops)
      have OY := hide (fun V (h : Below wz.heap.size wz V) => (CZ.out.below h).y.ops)
      have BZ := hide CZ.out.duo.lft.bel
      have q1 : (E1 == E1) = true := by simp
      have q2 : (E2 == E2) = true := by simp
      have hS0 := CC.out _ (Below.refl _ _)
      clear CZ T2 U2 hra hrb AR BR
      go_wp2_with fail
      go_region_held3 (fun w' => w'.cell? ⟨gx, 1, none⟩ = some (.slice Ax LA.length cx) ∧ w'.cell? ⟨gy, 1, none⟩ = some (.slice Ay LB.length cy))
          (first | with_reducible exact hSk2 | with_reducible exact hSr2 | with_reducible exact hSo2 | with_reducible exact hSt2 | with_reducible exact hSk1 | with_reducible exact hSr1 | with_reducible exact hSo1 | with_reducible exact hSt1 | with_reducible exact hSs2 | with_reducible exact hSa2 | with_reducible exact hSs1 | with_reducible exact hSa1 | with_reducible exact hS0 | go_keep)
          (first
            | (go_at_call 15
               (with_reducible refine (KA1.out _ ?hz).mono ?_)
               case hz => exact (Below.refl wz.heap.size wz).drew
               rintro e wa1 ⟨va1, rfl, hown, hb⟩
               obtain ⟨Ap, cp, rfl, hO⟩ := hown.ops
               have Za1 := hide (show Below wz.heap.size wz wa1 from ⟨hb.os, hb.tape, hb.output, hb.size, hb.block⟩)
               have hSa1 := CC.out _ Za1.out
               have Oa1 := hide hO
               clear hb hown hO)
            | (go_at_call 14
               (with_reducible refine (sameOps_any Ap cp LA Ax cx LA _ (by omega) (by omega) Oa1.out (OX.out _ Za1.out)).mono ?_)
               rw [decide_eq_true (rfl : LA = LA)]
               rintro e ws1 ⟨rfl, hb⟩
               have Zs1 := hide (Za1.out.trans (hb.mono Za1.out.size))
               have hSs1 := CC.out _ Zs1.out
               clear hb)
            | (go_at_call 15
               (with_reducible refine (KA2.out _ Zs1.out).mono ?_)
               rintro e wa2 ⟨va2, rfl, hown, hb⟩
               obtain ⟨Ar, cr, rfl, hO⟩ := hown.ops
               have Za2 := hide (Zs1.out.trans (hb.mono Zs1.out.size))
               have hSa2 := CC.out _ Za2.out
               have Oa2 := hide hO
               clear hb hown hO)
            | (go_at_call 14
               (with_reducible refine (sameOps_any Ar cr LB Ay cy LB _ (by omega) (by omega) Oa2.out (OY.out _ Za2.out)).mono ?_)
               rw [decide_eq_true (rfl : LB = LB)]
               rintro e ws2 ⟨rfl, hb⟩
               have Zs2 := hide (Za2.out.trans (hb.mono Za2.out.size))
               have hSs2 := CC.out _ Zs2.out
               clear hb)
            | (go_at_call 19
               (with_reducible refine (KB1.out _ Zs2.out).mono ?_)
               rintro e wt1 ⟨vt1, rfl, hown, hb⟩
               have Pt1 := hide hown.kids
               have Zt1 := hide (Zs2.out.trans (hb.mono Zs2.out.size))
               have hSt1 := CC.out _ Zt1.out
               clear hb hown)
            | (go_at_call 20
               (with_reducible refine (KO1.out _ Zt1.out).mono ?_)
               rintro e wo1 ⟨go1, rfl, hR⟩
               have hb := hR.bel
               obtain ⟨vL, vW, vs', hr, -, -⟩ := hR
               have Ro1 := hide (show Calls Tryz.prog 21 #[.pointer (some ⟨go1, 0, none⟩)] wo1 (KidsRet wo1 (sortK (runS LA).1)) from rall_any go1 vL vW (runS LA).1 (by omega) wo1 hr.rl)
               have Po1 := hide (Pt1.out.below hb)
               have Zo1 := hide (Zt1.out.trans (hb.mono Zt1.out.size))
               have hSo1 := CC.out _ Zo1.out
               clear hb hr)
            | (go_at_call 21
               (with_reducible refine (Ro1.out).mono ?_)
               rintro e wr1 ⟨vr1, rfl, hown, hb⟩
               have Pr1 := hide (Po1.out.below hb)
               have Qr1 := hide hown.kids
               have Zr1 := hide (Zo1.out.trans (hb.mono Zo1.out.size))
               have hSr1 := CC.out _ Zr1.out
               clear hb hown)
            | (go_at_call 18
               (with_reducible refine (ksame_any _ _ (sortK (runS LA).1) (sortK (runS LA).1) _ sa sa Pr1.out Qr1.out).mono ?_)
               rw [decide_eq_true (rfl : sortK (runS LA).1 = sortK (runS LA).1)]
               rintro e wk1 ⟨rfl, hb⟩
               have Zk1 := hide (Zr1.out.trans (hb.mono Zr1.out.size))
               have hSk1 := CC.out _ Zk1.out
               clear hb)
            | (go_at_call 19
               (with_reducible refine (KB2.out _ Zk1.out).mono ?_)
               rintro e wt2 ⟨vt2, rfl, hown, hb⟩
               have Pt2 := hide hown.kids
               have Zt2 := hide (Zk1.out.trans (hb.mono Zk1.out.size))
               have hSt2 := CC.out _ Zt2.out
               clear hb hown)
            | (go_at_call 20
               (with_reducible refine (KO2.out _ Zt2.out).mono ?_)
               rintro e wo2 ⟨go2, rfl, hR⟩
               have hb := hR.bel
               obtain ⟨vL, vW, vs', hr, -, -⟩ := hR
               have Ro2 := hide (show Calls Tryz.prog 21 #[.pointer (some ⟨go2, 0, none⟩)] wo2 (KidsRet wo2 (sortK (runS LB).1)) from rall_any go2 vL vW (runS LB).1 (by omega) wo2 hr.rl)
               have Po2 := hide (Pt2.out.below hb)
               have Zo2 := hide (Zt2.out.trans (hb.mono Zt2.out.size))
               have hSo2 := CC.out _ Zo2.out
               clear hb hr)
            | (go_at_call 21
               (with_reducible refine (Ro2.out).mono ?_)
               rintro e wr2 ⟨vr2, rfl, hown, hb⟩
               have Pr2 := hide (Po2.out.below hb)
               have Qr2 := hide hown.kids
               have Zr2 := hide (Zo2.out.trans (hb.mono Zo2.out.size))
               have hSr2 := CC.out _ Zr2.out
               clear hb hown)
            | (go_at_call 18
               (with_reducible refine (ksame_any _ _ (sortK (runS LB).1) (sortK (runS LB).1) _ sb sb Pr2.out Qr2.out).mono ?_)
               rw [decide_eq_true (rfl : sortK (runS LB).1 = sortK (runS LB).1)]
               rintro e wk2 ⟨rfl, hb⟩
               have Zk2 := hide (Zr2.out.trans (hb.mono Zr2.out.size))
               have hSk2 := CC.out _ Zk2.out
               clear hb))
      have BF := hide (BZ.out.trans (Zk2.out.mono BZ.out.size))
      clear hS0 hSa1 hSs1 hSa2 hSs2 hSt1 hSo1 hSr1 hSk1 hSt2 hSo2 hSr2 hSk2
      go_wp2
      go_ret
      exact ⟨rfl, BF.out⟩
  · by_cases h2 : ts.length ≤ 24
    · have d1 : decide ((ts.length : Int) > 24) = false := by simp; omega
      by_cases h3 : us.length ≤ 8
      · have d2 : decide ((us.length : Int) > 8) = false := by simp; omega
        have d3 : decide ((vs.length : Int) > 8) = true := by simp; omega
        clear h1
        go_wp2
        go_ret
        exact ⟨rfl, B1.out⟩
      · have d2 : decide ((us.length : Int) > 8) = true := by simp; omega
        clear h1
        go_wp2
        go_ret
        exact ⟨rfl, B1.out⟩
    · have d1 : decide ((ts.length : Int) > 24) = true := by simp; omega
      clear h1
      go_wp2
      go_ret
      exact ⟨rfl, B1.out⟩
end Go.Proofs.YtimfeocaghccdaaGreatDoor
