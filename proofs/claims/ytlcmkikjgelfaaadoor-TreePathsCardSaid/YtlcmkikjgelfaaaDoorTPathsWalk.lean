/-
  The walk of TreePaths. Conditions: those of the statement.
-/
import Derived.Test.YtlcmkikjgelfaaaDoorTUpWalk
namespace Go.Proofs.YtlcmkikjgelfaaaDoor
open Go.RowKit Go.Maps
set_option linter.unusedVariables false
set_option linter.unusedSimpArgs false
set_option maxRecDepth 100000

/-- A way down. -/
def Dn (L : List Kd) : Int → List Kd → Int → Prop
  | n, [], x => n = x
  | n, c :: cs, x => fnd L c.nd = some c ∧ c.to = n ∧ Dn L c.nd cs x
theorem Dn.anc {L : List Kd} : ∀ {cs : List Kd} {n x : Int}, Dn L n cs x → Anc L n x
  | [], n, x, h => by
    have h : n = x := h
    rw [h]
    exact .self
  | c :: cs, n, x, h => by
    obtain ⟨h1, h2, h3⟩ := h
    exact Anc.trans (.up h1 (by rw [h2]; exact .self)) (Dn.anc h3)
theorem Dn.down {L : List Kd} : ∀ {cs : List Kd} {n x : Int}, Dn L n cs x → (∀ c ∈ cs, leastK L c.to c.nm = some c.nd) → Proofs.YtlcmkikjgelfaaaDoor.down L n (cs.map (·.nm)) = some x
  | [], n, x, h, _ => by
    have h : n = x := h
    rw [h]
    rfl
  | c :: cs, n, x, h, hf => by
    obtain ⟨h1, h2, h3⟩ := h
    have e := hf c (by simp)
    rw [h2] at e
    simp only [List.map_cons, Proofs.YtlcmkikjgelfaaaDoor.down, e]
    exact Dn.down h3 (fun y hy => hf y (by simp [hy]))
theorem Dn.mem {L : List Kd} : ∀ {cs : List Kd} {n x : Int}, Dn L n cs x → ∀ c ∈ cs, c ∈ L
  | [], n, x, h, c, hc => by simp at hc
  | c :: cs, n, x, h, y, hy => by
    obtain ⟨h1, h2, h3⟩ := h
    rcases List.mem_cons.1 hy with rfl | hy
    · exact (fnd_some h1).1
    · exact Dn.mem h3 y hy
theorem down_anc {L : List Kd} (h1 : (L.map (·.nd)).Nodup) : ∀ {ls : List (List UInt8)} {n m : Int}, down L n ls = some m → Anc L n m
  | [], n, m, h => by
    simp only [down, Option.some.injEq] at h
    rw [h]
    exact .self
  | s :: l, n, m, h => by
    unfold down at h
    split at h
    · cases h
    · rename_i k hk
      have hl := leastK_of L n s
      rw [hk] at hl
      obtain ⟨⟨q, hq, e1, e2, e3⟩, _⟩ := hl
      exact Anc.trans (.up (k := q) (by rw [← e3]; exact fnd_mem h1 hq) (by rw [e1]; exact .self)) (down_anc h1 h)
/-- Is none of its name ahead of it? -/
def frst (ks : List Kd) (q : Kd) : Bool := ks.all fun k => !(k.nm == q.nm && decide (k.nd < q.nd))
theorem frst_least {L : List Kd} {q : Kd} (hq : q ∈ L) (h : frst (sortK (L.filter fun k => k.to == q.to)) q = true) : leastK L q.to q.nm = some q.nd :=
  leastK_eq ⟨⟨q, hq, rfl, rfl, rfl⟩, fun k hk h1 h2 => by
    have := List.all_eq_true.1 h k ((sortK_perm _).mem_iff.2 (List.mem_filter.2 ⟨hk, by simp [h1]⟩))
    simp [h2] at this
    omega⟩
theorem short_stp {s : St} {o : O5} (h : ∀ k ∈ s.1, k.nm.length = 1) (ho : o.l.length = 1) : ∀ k ∈ (stp s o).1, k.nm.length = 1 := by
  unfold stp
  split
  · intro k hk
    simp only at hk
    unfold app at hk
    split at hk
    · rcases mem_putS hk with hk | hk
      · exact h k hk
      · cases hk; exact ho
    · exact h k hk
  · exact h
theorem short_run : ∀ (os : List O5) (s : St), (∀ k ∈ s.1, k.nm.length = 1) → (∀ o ∈ os, o.l.length = 1) → ∀ k ∈ (os.foldl stp s).1, k.nm.length = 1
  | [], s, h, _ => h
  | o :: os, s, h, ho => by
    rw [List.foldl_cons]
    exact short_run os _ (short_stp h (ho o (by simp))) (fun x hx => ho x (by simp [hx]))
theorem ofT_short (ts : List T5) : ∀ o ∈ ts.map ofT, o.l.length = 1 := by
  intro o ho
  obtain ⟨t, _, rfl⟩ := List.mem_map.1 ho
  rfl
theorem runS_short (ts : List T5) : ∀ k ∈ (runS (ts.map ofT)).1, k.nm.length = 1 := short_run _ _ (by simp) (ofT_short ts)
theorem J_short : ∀ (cs : List Kd), (∀ c ∈ cs, c.nm.length = 1) → (J (cs.map (·.nm))).length = 2 * cs.length
  | [], _ => rfl
  | c :: cs, h => by
    rw [List.map_cons, J_cons, List.length_cons, List.length_append, J_short cs (fun x hx => h x (by simp [hx])), h c (by simp), List.length_cons]
    omega
theorem path_found {L : List Kd} (h : Wf L) {cs : List Kd} {x : Int} (hx : 256 ≤ x) (hd : Dn L 0 cs x) (hf : ∀ c ∈ cs, leastK L c.to c.nm = some c.nd) (hl : (J (cs.map (·.nm))).length ≤ 400) :
    findN L (J (cs.map (·.nm))) = x ∧ findE L (J (cs.map (·.nm))) = 0 := by
  have hne : cs.map (·.nm) ≠ [] := by
    intro e
    have : cs = [] := by simpa using e
    subst this
    have hd : (0 : Int) = x := hd
    omega
  have hr : (cs.map (·.nm)).all right = true := by
    rw [List.all_eq_true]
    intro y hy
    obtain ⟨c, hc, rfl⟩ := List.mem_map.1 hy
    exact h.nm c (hd.mem c hc)
  have hs := split_path _ hr hl
  unfold pathOf at hs
  rw [if_neg hne] at hs
  have e := hd.down hf
  unfold findN findE
  rw [hs]
  simp [e]
theorem path_trash {L : List Kd} (h : Wf L) {cs : List Kd} {x : Int} (hk : isKn L x = true) (hd : Dn L 1 cs x) (p : List UInt8) (he : findE L p = 0) : findN L p ≠ x := by
  intro hn
  obtain ⟨d, hr⟩ := h.known hk
  unfold findE at he
  unfold findN at hn
  cases hs : splitP p with
  | none => rw [hs] at he; simp at he
  | some l =>
    rw [hs] at he hn
    simp only at he hn
    cases hdn : down L 0 l with
    | none => rw [hdn] at he; simp at he
    | some m =>
      rw [hdn] at hn
      simp at hn
      subst hn
      exact (top_one h.lo hr).1 (down_anc h.one hdn) hd.anc
/-- Where the way up stands. -/
def PthRel (w : World) (L : List Kd) (x : Int) (nn : Nat) (p f v i : Value) (wr : World) : Prop :=
  ∃ (cs : List Kd) (b : Bool) (y : Int) (d : Nat), p = .string (bs (J (cs.map (·.nm)))) ∧ f = .bool b ∧ v = .int .i64 y ∧ i = .int .i64 (cs.length : Int) ∧ Dn L y cs x ∧ Rt L d y ∧ cs.length + d ≤ nn ∧ (b = true → ∀ c ∈ cs, leastK L c.to c.nm = some c.nd) ∧ Below w.heap.size w wr
def FrRel (w : World) (ks : List Kd) (q : Kd) (b : Bool) (f i : Value) (wr : World) : Prop :=
  ∃ m : Nat, m ≤ ks.length ∧ f = .bool (b && frst (ks.take m) q) ∧ i = .int .i64 (m : Int) ∧ Below w.heap.size w wr
theorem frst_step (ks : List Kd) (q : Kd) (m : Nat) (h : m < ks.length) : frst (ks.take (m + 1)) q = (frst (ks.take m) q && !(ks[m].nm == q.nm && decide (ks[m].nd < q.nd))) := by
  unfold frst
  rw [List.take_succ_eq_append_getElem h, List.all_append]
  simp
theorem path_step (q : Kd) (cs : List Kd) : ({ data := #[47] } ++ bs q.nm ++ bs (J (cs.map (·.nm))) : ByteArray) = bs (J ((q :: cs).map (·.nm))) := by
  have e : ({ data := #[47] } : ByteArray) = bs [47] := rfl
  rw [e, bs_add, bs_add, List.map_cons, J_cons]
  rfl
set_option maxHeartbeats 8000000 in
theorem treePaths_walk (a : Option Addr) (len cap : Nat) (ts : List T5) (W : World) (h : IsTns W a len cap ts) (hE : Env W) :
    Calls Tryd.prog 9 #[.slice a len cap] W (TrueRet W) := by
  obtain ⟨rfl, hts, hok⟩ := h
  have HT := hide hts
  have HK := hide hok
  have HE := hide hE
  clear hts hok hE
  go_enter Tryd.func9, Tryd.ntmps9
  go_wp2_with fail
  refine (awake_any _ HE.out).mono ?_
  rintro e w1 ⟨rfl, hb⟩
  have B1 := hide hb
  clear hb
  by_cases h1 : ts.length ≤ 30
  · have d1 : decide ((ts.length : Int) > 30) = false := by simp; omega
    go_wp2_with fail
    clear d1
    refine (all_any a cap ts w1 (by omega) HK.out (HT.out.below B1.out)).mono ?_
    rintro e w2 ⟨v2, rfl, hown, hb⟩
    have B2 := hide (B1.out.trans (hb.mono B1.out.size))
    obtain ⟨A2, c2, rfl, p2⟩ := hown.ops
    have P2 := hide p2
    have KG := hide (grown_any A2 c2 (ts.map ofT) w2 (by simp; omega) (ofT_name ts) (HE.out.below B2.out) p2)
    have hrl := runS_len (ts.map ofT)
    have HH := hide (runS_hst (ts.map ofT))
    have HSH := hide (runS_short ts)
    have hml : (ts.map ofT).length ≤ 30 := by simpa using h1
    generalize ts.map ofT = os at KG P2 hrl HH hml HSH
    clear hown hb p2 B1
    go_wp2_with fail
    refine KG.out.mono ?_
    rintro e w3 ⟨g, fs, rfl, hL⟩
    have L3 := hide hL
    generalize runS os = s at L3 HH hrl HSH
    obtain ⟨L, r⟩ := s
    simp only at hrl HSH
    have HW := hide HH.out.wf
    have hLn : L.length ≤ 30 := by
      have := HH.out.len
      simp only at this
      omega
    have KA := hide (tall_any g L r fs (by omega) w3 L3.out.tr)
    clear hL KG HH P2
    go_wp2_with fail
    refine KA.out.mono ?_
    rintro e w4 ⟨v4, rfl, hk4, hb⟩
    have L4 := hide (L3.out.below hb)
    have hkl : L.length ≤ (sortK L).length ∧ (sortK L).length ≤ 30 := by rw [sortK_length]; omega
    have HKL := hide hkl.1
    have hko := hkl.2
    clear hkl
    have PM := hide (sortK_perm L)
    generalize sortK L = ks at hk4 HKL hko PM
    obtain ⟨A4, c4, rfl, g1, g2, g3⟩ := hk4.kids
    have G4 := hide g3
    unfold maxLen at g2
    have HLN := hide hLn
    clear hk4 hb g3 KA L3 hLn hrl hml
    go_wp2_with fail
    go_loopw [6] (UpRel w4 ks.length) (fun i _ => ks.length - (intOf i).toNat)
    case atStart => exact ⟨0, Nat.zero_le _, rfl, Below.refl _ _⟩
    case round =>
      rename World => wi
      obtain ⟨k, hk, rfl, hb⟩ := hrel
      have BI := hide hb
      clear hb
      by_cases hlt : k < ks.length
      · obtain ⟨b, oo, rfl, hat⟩ := G4.out (by omega)
        obtain ⟨r0, r1, r2⟩ := (hat.below BI.out).three k hlt
        have AT := hide hat
        have i1 : (k : Int) < (ks.length : Int) := by omega
        have i0 : (0 : Int) ≤ (k : Int) := by omega
        have HX := hide (show ∃ x : Kd, x = ks[k] from ⟨_, rfl⟩)
        obtain ⟨x, hx⟩ := HX.out
        rw [← hx] at r0 r1 r2
        have XE := hide hx
        have XL := hide (show x ∈ L by rw [hx]; exact PM.out.mem_iff.1 (List.getElem_mem hlt))
        have S0 := hide (show PthRel wi L x.nd ks.length (.string { data := #[] }) (.bool true) (.int .i64 x.nd) (.int .i64 0) wi from by
          obtain ⟨d, hd⟩ := HW.out.rt x XL.out
          exact ⟨[], true, x.nd, d, rfl, rfl, rfl, rfl, rfl, hd, by have := hd.le HW.out.lo; have := HKL.out; simp; omega, fun _ c hc => by simp at hc, Below.refl _ _⟩)
        clear hat HX hx
        go_wp2_with fail
        clear r0 r1 r2
        go_loopw [7, 8, 9, 10] (PthRel wi L x.nd ks.length) (fun _ _ v _ _ => depthOf L v)
        case atStart => exact S0.out
        case round =>
          rename World => wl
          clear S0
          obtain ⟨cs, ff, y, d, rfl, rfl, rfl, rfl, hdn, hr, hcd, hfst, hb⟩ := hrel
          have RR := hide hr
          have BL := hide hb
          have DD := hide hdn
          have FF := hide hfst
          have LL := hide ((L4.out.below BI.out).below hb)
          have hy := Rt.i64 HW.out hr
          have hcl : cs.length ≤ ks.length := by omega
          have hc1 : (cs.length : Int) ≤ (ks.length : Int) := by omega
          have hc2 : decide ((cs.length : Int) ≤ (ks.length : Int)) = true := by simp; omega
          have JL := hide (show (J (cs.map (·.nm))).length = 2 * cs.length from J_short cs (fun c hc => HSH.out c (hdn.mem c hc)))
          clear hdn hfst
          by_cases hz : y = 0 ∨ y = 1
          · have AT2 := ((AT.out.below BI.out).below hb)
            have XA := hide AT2
            have KF := hide (tfind_any g L r fs (J (cs.map (·.nm))) (by rw [JL.out]; omega) wl ((HE.out.below B2.out).below LL.out.bel) LL.out.tr)
            have BW := hide (BI.out.trans (hb.mono BI.out.size))
            have hx256 := HW.out.lo x XL.out
            have XK := hide (show isKn L x.nd = true from by obtain ⟨d, hd⟩ := HW.out.rt x XL.out; exact hd.known)
            have CR := hide (fun h0 : y = 0 => fun hf : ff = true => path_found HW.out hx256.1 (h0 ▸ DD.out) (FF.out hf) (by rw [JL.out]; omega))
            have CT := hide (fun h0 : y = 1 => path_trash HW.out XK.out (h0 ▸ DD.out) (J (cs.map (·.nm))))
            generalize J (cs.map (·.nm)) = pp at KF JL CR CT
            generalize findN L pp = fn at KF CR CT
            generalize findE L pp = fe at KF CR CT
            clear hb hr RR AT2
            rcases hz with rfl | rfl
            · go_wp2_with fail
              refine KF.out.mono ?_
              rintro e w5 ⟨rfl, hb⟩
              obtain ⟨t0, t1, t2⟩ := (XA.out.below hb).three k hlt
              rw [← XE.out] at t0 t1 t2
              have B5 := hide (BW.out.trans (hb.mono BW.out.size))
              clear hb KF BW XA
              cases ff with
              | false =>
                go_wp2_with fail
                go_roundw
                case rel => exact ⟨k + 1, by omega, by go_num, B5.out⟩
                case measure => simp [intOf]; omega
              | true =>
                obtain ⟨rfl, rfl⟩ := CR.out (by trivial) (by trivial)
                go_wp2_with fail
                go_roundw
                case rel => exact ⟨k + 1, by omega, by go_num, B5.out⟩
                case measure => simp [intOf]; omega
            · go_wp2_with fail
              refine KF.out.mono ?_
              rintro e w5 ⟨rfl, hb⟩
              obtain ⟨t0, t1, t2⟩ := (XA.out.below hb).three k hlt
              rw [← XE.out] at t0 t1 t2
              have B5 := hide (BW.out.trans (hb.mono BW.out.size))
              clear hb KF BW XA
              by_cases hfe : fe = 0
              · have hne := CT.out (by trivial) hfe
                have hne1 : (fn == x.nd) = false := by simp [hne]
                subst hfe
                clear hne
                go_wp2_with fail
                go_roundw
                case rel => exact ⟨k + 1, by omega, by go_num, B5.out⟩
                case measure => simp [intOf]; omega
              · have hfe1 : (fe == 0) = false := by simp [hfe]
                go_wp2_with fail
                go_roundw
                case rel => exact ⟨k + 1, by omega, by go_num, B5.out⟩
                case measure => simp [intOf]; omega
          · have z0 : (y != 0) = true := by simp; omega
            have z1 : (y != 1) = true := by simp; omega
            cases hr with
            | top ht => exact absurd ht hz
            | @up d _ q hf hr' =>
              have KS := hide (tspot_any g L r fs y hy wl LL.out.tr)
              rw [hf] at KS
              have RQ := hide hr'
              have QF := hide hf
              have hqy : q.nd = y := (fnd_some hf).2
              have QL := hide (fnd_some hf).1
              have DE := hide (depth_eq HW.out hr')
              have DY := hide (depth_eq HW.out RR.out)
              have hq1 := HSH.out q QL.out
              clear hf hr' hb
              subst hqy
              go_wp2_with fail
              refine KS.out.mono ?_
              rintro e w5 ⟨rfl, hb⟩
              have es : spv (some q) = .agg #[.bool true, .int .i64 q.to, .string (bs q.nm)] := rfl
              rw [es]
              have Bz := (Below.refl w5.heap.size w5).alloc (Nat.le_refl _) (.cells #[.bool true, .int .i64 q.to, .string (bs q.nm)] 39)
              have bx := heap_alloc_new w5 (.cells #[.bool true, .int .i64 q.to, .string (bs q.nm)] 39)
              have B5 := hide (BL.out.trans (hb.mono BL.out.size))
              have B6 := hide (B5.out.trans (Bz.mono B5.out.size))
              have L6 := hide ((LL.out.below hb).below Bz)
              have HX6 := hide bx
              have lx6 : w5.heap.size < (w5.alloc (.cells #[.bool true, .int .i64 q.to, .string (bs q.nm)] 39)).heap.size := by simp
              clear hb KS Bz bx es B5 LL BL
              go_upto_region 18 with (fail)
              generalize w5.alloc (.cells #[.bool true, .int .i64 q.to, .string (bs q.nm)] 39) = w6 at B6 L6 HX6 lx6 ⊢
              have y1 := cell_of_row _ _ 1 _ _ (0, 0) HX6.out
              simp at y1
              have KK := hide (tkids_any g L r fs q.to (by have := HLN.out; omega) w6 L6.out.tr)
              go_wp2_with fail
              refine KK.out.mono ?_
              rintro e w7 ⟨v7, rfl, hk7, hb7⟩
              have B7 := hide (B6.out.trans (hb7.mono B6.out.size))
              have L7 := hide (L6.out.below hb7)
              have X7 := (hb7.block _ lx6).trans HX6.out
              have HX7 := hide X7
              have lx7 : w5.heap.size < w7.heap.size := (Array.getElem?_eq_some_iff.1 X7).1
              have hks : (sortK (L.filter fun k => k.to == q.to)).length ≤ 30 := by
                rw [sortK_length]
                have := List.length_filter_le (fun k : Kd => k.to == q.to) L
                have := HLN.out
                omega
              have FL := hide (fun hh => frst_least (L := L) (q := q) QL.out hh)
              generalize sortK (L.filter fun k => k.to == q.to) = kids at hk7 hks FL
              obtain ⟨A7, c7, rfl, g7, g8, g9⟩ := hk7.kids
              have G9 := hide g9
              unfold maxLen at g8
              clear hk7 hb7 KK L6 HX6 lx6 X7 g9 y1 B6
              go_wp2_with fail
              go_loopw [8, 13] (FrRel w7 kids q ff) (fun _ i _ => kids.length - (intOf i).toNat)
              case atStart => exact ⟨0, Nat.zero_le _, by simp [frst], rfl, Below.refl _ _⟩
              case round =>
                rename World => wk
                obtain ⟨m, hm, rfl, rfl, hb⟩ := hrel
                have BK := hide hb
                have X8 := (hb.block _ lx7).trans HX7.out
                have p1 := cell_of_row _ _ 1 _ _ (0, 0) X8
                have p2 := cell_of_row _ _ 2 _ _ (0, 0) X8
                simp at p1 p2
                clear X8
                by_cases hmt : m < kids.length
                · obtain ⟨b9, o9, rfl, hat9⟩ := G9.out (by omega)
                  obtain ⟨r0, r1, r2⟩ := (hat9.below hb).three m hmt
                  have j1 : (m : Int) < (kids.length : Int) := by omega
                  have j0 : (0 : Int) ≤ (m : Int) := by omega
                  have FS := hide (frst_step kids q m hmt)
                  generalize kids[m] = z at r0 r1 r2 FS
                  clear hat9 hb
                  by_cases hzn : z.nm = q.nm
                  · have hs1 : ((bs z.nm).toList == (bs q.nm).toList) = true := by rw [hzn]; simp
                    have hs2 : decide ((bs z.nm).toList = (bs q.nm).toList) = true := by rw [hzn]; simp
                    by_cases hlz : z.nd < q.nd
                    · have hl1 : decide (z.nd < q.nd) = true := by simp [hlz]
                      have FE := hide (show (ff && frst (kids.take (m + 1)) q) = false by rw [FS.out, hzn]; simp [hlz])
                      clear hzn FS
                      go_wp2_with fail
                      go_quiet (fail)
                      go_wp2
                      go_roundw
                      case rel => exact ⟨m + 1, by omega, by rw [FE.out], by go_num, belowD' BK.out _⟩
                      case measure => simp [intOf]; omega
                    · have hl1 : decide (z.nd < q.nd) = false := by simp [hlz]
                      have FE := hide (show (ff && frst (kids.take (m + 1)) q) = (ff && frst (kids.take m) q) by rw [FS.out, hzn]; simp [hlz])
                      clear hzn FS
                      go_wp2_with fail
                      go_quiet (fail)
                      go_wp2
                      go_roundw
                      case rel => exact ⟨m + 1, by omega, by rw [FE.out], by go_num, belowD' BK.out _⟩
                      case measure => simp [intOf]; omega
                  · have hs1 : ((bs z.nm).toList == (bs q.nm).toList) = false := by rw [bs_list, bs_list]; simp [hzn]
                    have hs2 : decide ((bs z.nm).toList = (bs q.nm).toList) = false := by rw [bs_list, bs_list]; simp [hzn]
                    have FE := hide (show (ff && frst (kids.take (m + 1)) q) = (ff && frst (kids.take m) q) by rw [FS.out, show (z.nm == q.nm) = false from by simpa using hzn]; simp)
                    clear hzn FS
                    go_wp2_with fail
                    go_quiet (fail)
                    go_wp2
                    go_roundw
                    case rel => exact ⟨m + 1, by omega, by rw [FE.out], by go_num, belowD' BK.out _⟩
                    case measure => simp [intOf]; omega
                · obtain rfl : m = kids.length := by omega
                  rw [List.take_length]
                  have FN := hide (show (ff && frst kids q) = true → ∀ c ∈ q :: cs, leastK L c.to c.nm = some c.nd from fun h c hc => by
                    rw [Bool.and_eq_true] at h
                    rcases List.mem_cons.1 hc with rfl | hc
                    · exact FL.out h.2
                    · exact FF.out h.1 c hc)
                  generalize (ff && frst kids q) = gg at FN
                  have BB := hide (B7.out.trans (hb.mono B7.out.size))
                  have PS := hide (path_step q cs)
                  have hpz : (bs (J (cs.map (·.nm)))).size ≤ 100 := by rw [bs_size, JL.out]; omega
                  have hqz : (bs q.nm).size ≤ 100 := by rw [bs_size, hq1]; omega
                  clear hb
                  go_upto_region 25 with (fail)
                  rw [PS.out]
                  clear hpz hqz
                  go_wp2_with fail
                  go_roundw
                  case rel => exact ⟨q :: cs, gg, q.to, d, rfl, rfl, rfl, by go_num, ⟨QF.out, rfl, DD.out⟩, RQ.out, by simp; omega, FN.out, BB.out⟩
                  case measure => rw [DE.out, DY.out]; omega
      · obtain rfl : k = ks.length := by omega
        go_wp2
        go_ret
        exact ⟨rfl, B2.out.trans ((L4.out.below BI.out).bel.mono B2.out.size)⟩
  · have d1 : decide ((ts.length : Int) > 30) = true := by simp; omega
    go_wp2
    go_ret
    exact ⟨rfl, B1.out⟩
end Go.Proofs.YtlcmkikjgelfaaaDoor
