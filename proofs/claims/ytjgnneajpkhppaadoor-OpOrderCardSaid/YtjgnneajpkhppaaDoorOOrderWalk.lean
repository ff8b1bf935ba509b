/-
  The walk of the law OpOrder: it answers true at every input, and changes nothing that was there. Conditions: the two tables of unicode/utf8 as the program's text lays them.
-/
import Derived.Test.YtjgnneajpkhppaaDoorOTellsWalk
import Derived.Test.YtjgnneajpkhppaaDoorOOrderPure
namespace Go.Proofs.YtjgnneajpkhppaaDoor
open Go.RowKit
set_option linter.unusedVariables false

/-- Three operations that lie behind each other. -/
def Three (w : World) (g : Nat) (n r d t : Int) (l : List UInt8) (m s e u : Int) (k : List UInt8) (n3 r3 d3 t3 : Int) (l3 : List UInt8) : Prop := Bo w g n r d t l ∧ Bo w (g + 1) m s e u k ∧ Bo w (g + 2) n3 r3 d3 t3 l3
theorem Three.below {w w' : World} {g : Nat} {n r d t : Int} {l : List UInt8} {m s e u : Int} {k : List UInt8} {n3 r3 d3 t3 : Int} {l3 : List UInt8} (h : Three w g n r d t l m s e u k n3 r3 d3 t3 l3) (hb : Below w.heap.size w w') : Three w' g n r d t l m s e u k n3 r3 d3 t3 l3 :=
  ⟨h.1.below hb h.1.lt, h.2.1.below hb h.2.1.lt, h.2.2.below hb h.2.2.lt⟩
theorem Three.new (w : World) (n r d t : Int) (l : List UInt8) (m s e u : Int) (k : List UInt8) (n3 r3 d3 t3 : Int) (l3 : List UInt8) :
    Three (((w.alloc (.cells #[.int .i64 n, .int .i64 r, .int .i64 d, .int .i64 t, .string (bs l)] 25)).alloc (.cells #[.int .i64 m, .int .i64 s, .int .i64 e, .int .i64 u, .string (bs k)] 25)).alloc (.cells #[.int .i64 n3, .int .i64 r3, .int .i64 d3, .int .i64 t3, .string (bs l3)] 25)) w.heap.size n r d t l m s e u k n3 r3 d3 t3 l3 := by
  have e2 : ((w.alloc (.cells #[.int .i64 n, .int .i64 r, .int .i64 d, .int .i64 t, .string (bs l)] 25)).alloc (.cells #[.int .i64 m, .int .i64 s, .int .i64 e, .int .i64 u, .string (bs k)] 25)).heap.size = w.heap.size + 2 := by simp
  have q := Bo.new ((w.alloc (.cells #[.int .i64 n, .int .i64 r, .int .i64 d, .int .i64 t, .string (bs l)] 25)).alloc (.cells #[.int .i64 m, .int .i64 s, .int .i64 e, .int .i64 u, .string (bs k)] 25)) n3 r3 d3 t3 l3 25
  rw [e2] at q
  exact ⟨((Bo.new w n r d t l 25).alloc _).alloc _, (Bo.new2 w m s e u k 25 _).alloc _, q⟩
theorem below_three (w : World) (a b c : Obj) : Below w.heap.size w (((w.alloc a).alloc b).alloc c) := (below_two w a b).alloc (by simp; omega) c
set_option maxHeartbeats 8000000 in
set_option maxRecDepth 100000 in
theorem oorder_core (n r d t : Int) (l : List UInt8) (m s e u : Int) (k : List UInt8) (n3 r3 d3 t3 : Int) (l3 : List UInt8) (x y z : Int) (q : Bool) (w : World) (hE : Env w)
    (hl : l.length ≤ maxLen) (hk : k.length ≤ maxLen) (hl3 : l3.length ≤ maxLen)
    (kx : ∀ w, Calls Tryd.prog 14 #[.agg #[.int .i64 n, .int .i64 r, .int .i64 d, .int .i64 t, .string (bs l)], .agg #[.int .i64 m, .int .i64 s, .int .i64 e, .int .i64 u, .string (bs k)]] w (NumRet x w))
    (ky : ∀ w, Calls Tryd.prog 14 #[.agg #[.int .i64 m, .int .i64 s, .int .i64 e, .int .i64 u, .string (bs k)], .agg #[.int .i64 n3, .int .i64 r3, .int .i64 d3, .int .i64 t3, .string (bs l3)]] w (NumRet y w))
    (kz : ∀ w, Calls Tryd.prog 14 #[.agg #[.int .i64 n, .int .i64 r, .int .i64 d, .int .i64 t, .string (bs l)], .agg #[.int .i64 n3, .int .i64 r3, .int .i64 d3, .int .i64 t3, .string (bs l3)]] w (NumRet z w))
    (kw : ∀ w, Calls Tryd.prog 14 #[.agg #[.int .i64 m, .int .i64 s, .int .i64 e, .int .i64 u, .string (bs k)], .agg #[.int .i64 n, .int .i64 r, .int .i64 d, .int .i64 t, .string (bs l)]] w (NumRet (-x) w))
    (ks : ∀ w, Calls Tryd.prog 14 #[.agg #[.int .i64 n, .int .i64 r, .int .i64 d, .int .i64 t, .string (bs l)], .agg #[.int .i64 n, .int .i64 r, .int .i64 d, .int .i64 t, .string (bs l)]] w (NumRet 0 w))
    (heq : ∀ w, (binOp .eql 25 (.agg #[.int .i64 n, .int .i64 r, .int .i64 d, .int .i64 t, .string (bs l)]) (.agg #[.int .i64 m, .int .i64 s, .int .i64 e, .int .i64 u, .string (bs k)])).run Tryd.prog w = .ok (.bool q) w)
    (hx : x = -1 ∧ q = false ∨ x = 0 ∧ q = true ∨ x = 1 ∧ q = false) (g1 : x ≤ 0 → y ≤ 0 → z ≤ 0) (g2 : 0 ≤ x → 0 ≤ y → 0 ≤ z) :
    Calls Tryd.prog 5 #[.agg #[.int .i64 n, .int .i64 r, .int .i64 d, .int .i64 t, .string (bs l)], .agg #[.int .i64 m, .int .i64 s, .int .i64 e, .int .i64 u, .string (bs k)], .agg #[.int .i64 n3, .int .i64 r3, .int .i64 d3, .int .i64 t3, .string (bs l3)]] w (TrueRet w) := by
  have HE := hide hE
  have KX := hide kx
  have KY := hide ky
  have KZ := hide kz
  have KW := hide kw
  have KS := hide ks
  have H1 := hide g1
  have H2 := hide g2
  have TN := hide (Three.new w n r d t l m s e u k n3 r3 d3 t3 l3)
  clear kx ky kz kw ks g1 g2 hE
  go_enter Tryd.func5, Tryd.ntmps5
  go_wp2_with fail
  refine (oAwake_any _ (((HE.out.alloc _).alloc _).alloc _)).mono ?_
  rintro x0 w1 ⟨rfl, hb⟩
  have TH := hide (TN.out.below hb)
  have BB := hide ((below_three w _ _ _).trans (hb.mono (by simp; omega)))
  have sz := BB.out.size
  clear hb HE TN
  obtain ⟨⟨a0, a1, a2, a3, a4⟩, ⟨b0, b1, b2, b3, b4⟩, ⟨c0, c1, c2, c3, c4⟩⟩ := TH.out
  go_wp2_with fail
  have QS := oshort_any w1.heap.size 3 [l, k, l3] (w1.alloc (.cells #[.int .i64 n, .int .i64 r, .int .i64 d, .int .i64 t, .string (bs l), .int .i64 m, .int .i64 s, .int .i64 e, .int .i64 u, .string (bs k), .int .i64 n3, .int .i64 r3, .int .i64 d3, .int .i64 t3, .string (bs l3)] 25)) (by simp)
    (by intro j hj; match j, hj with | 0, _ => exact hl | 1, _ => exact hk | 2, _ => exact hl3)
    (by intro j hj; match j, hj with | 0, _ => exact cell_at_new _ _ _ 4 _ rfl | 1, _ => exact cell_at_new _ _ _ 9 _ rfl | 2, _ => exact cell_at_new _ _ _ 14 _ rfl)
  refine QS.mono ?_
  rintro x0 w2 ⟨rfl, hw⟩
  have TH2 := hide (TH.out.below ((Below.refl w1.heap.size w1).alloc (Nat.le_refl _) (.cells #[.int .i64 n, .int .i64 r, .int .i64 d, .int .i64 t, .string (bs l), .int .i64 m, .int .i64 s, .int .i64 e, .int .i64 u, .string (bs k), .int .i64 n3, .int .i64 r3, .int .i64 d3, .int .i64 t3, .string (bs l3)] 25)))
  have B2 := hide (BB.out.alloc sz (.cells #[.int .i64 n, .int .i64 r, .int .i64 d, .int .i64 t, .string (bs l), .int .i64 m, .int .i64 s, .int .i64 e, .int .i64 u, .string (bs k), .int .i64 n3, .int .i64 r3, .int .i64 d3, .int .i64 t3, .string (bs l3)] 25))
  rw [← hw] at TH2 B2
  clear QS hw a0 a1 a2 a3 a4 b0 b1 b2 b3 b4 c0 c1 c2 c3 c4 TH BB sz
  have TH := hide TH2.out
  have BB := hide B2.out
  have sz := BB.out.size
  clear TH2 B2
  cases hs : shB [l, k, l3] with
  | false =>
    clear hs
    go_wp2
    go_ret
    exact ⟨rfl, BB.out⟩
  | true =>
    clear hs
    obtain ⟨⟨a0, a1, a2, a3, a4⟩, ⟨b0, b1, b2, b3, b4⟩, ⟨c0, c1, c2, c3, c4⟩⟩ := TH.out
    go_wp2_with fail
    refine (KX.out _).mono ?_
    rintro x0 wa ⟨rfl, hb⟩
    have TH2 := hide (TH.out.below hb)
    have B2 := hide (BB.out.trans (hb.mono sz))
    clear TH BB a0 a1 a2 a3 a4 b0 b1 b2 b3 b4 c0 c1 c2 c3 c4 hb sz
    have TH := hide TH2.out
    have BB := hide B2.out
    have sz := BB.out.size
    clear TH2 B2
    obtain ⟨⟨a0, a1, a2, a3, a4⟩, ⟨b0, b1, b2, b3, b4⟩, ⟨c0, c1, c2, c3, c4⟩⟩ := TH.out
    go_wp2_with fail
    refine (KY.out _).mono ?_
    rintro x0 wb ⟨rfl, hb⟩
    have TH2 := hide (TH.out.below hb)
    have B2 := hide (BB.out.trans (hb.mono sz))
    clear TH BB a0 a1 a2 a3 a4 b0 b1 b2 b3 b4 c0 c1 c2 c3 c4 hb sz
    have TH := hide TH2.out
    have BB := hide B2.out
    have sz := BB.out.size
    clear TH2 B2
    obtain ⟨⟨a0, a1, a2, a3, a4⟩, ⟨b0, b1, b2, b3, b4⟩, ⟨c0, c1, c2, c3, c4⟩⟩ := TH.out
    go_wp2_with fail
    refine (KZ.out _).mono ?_
    rintro x0 wc ⟨rfl, hb⟩
    have TH2 := hide (TH.out.below hb)
    have B2 := hide (BB.out.trans (hb.mono sz))
    clear TH BB a0 a1 a2 a3 a4 b0 b1 b2 b3 b4 c0 c1 c2 c3 c4 hb sz
    have TH := hide TH2.out
    have BB := hide B2.out
    have sz := BB.out.size
    clear TH2 B2
    rcases hx with ⟨rfl, rfl⟩ | ⟨rfl, rfl⟩ | ⟨rfl, rfl⟩
    · by_cases hy : y ≤ 0
      · have hz := H1.out (by omega) hy
        clear H1 H2
        obtain ⟨⟨a0, a1, a2, a3, a4⟩, ⟨b0, b1, b2, b3, b4⟩, ⟨c0, c1, c2, c3, c4⟩⟩ := TH.out
        go_wp2_with fail
        refine (KW.out _).mono ?_
        rintro x0 wd ⟨rfl, hb⟩
        have TH2 := hide (TH.out.below hb)
        have B2 := hide (BB.out.trans (hb.mono sz))
        clear TH BB a0 a1 a2 a3 a4 b0 b1 b2 b3 b4 c0 c1 c2 c3 c4 hb sz
        have TH := hide TH2.out
        have BB := hide B2.out
        have sz := BB.out.size
        clear TH2 B2
        obtain ⟨⟨a0, a1, a2, a3, a4⟩, ⟨b0, b1, b2, b3, b4⟩, ⟨c0, c1, c2, c3, c4⟩⟩ := TH.out
        go_wp2_with fail
        refine (KS.out _).mono ?_
        rintro x0 we ⟨rfl, hb⟩
        have TH2 := hide (TH.out.below hb)
        have B2 := hide (BB.out.trans (hb.mono sz))
        clear TH BB a0 a1 a2 a3 a4 b0 b1 b2 b3 b4 c0 c1 c2 c3 c4 hb sz
        have TH := hide TH2.out
        have BB := hide B2.out
        have sz := BB.out.size
        clear TH2 B2
        obtain ⟨⟨a0, a1, a2, a3, a4⟩, ⟨b0, b1, b2, b3, b4⟩, ⟨c0, c1, c2, c3, c4⟩⟩ := TH.out
        go_wp2
        go_ret
        exact ⟨rfl, BB.out⟩
      · clear H1 H2
        obtain ⟨⟨a0, a1, a2, a3, a4⟩, ⟨b0, b1, b2, b3, b4⟩, ⟨c0, c1, c2, c3, c4⟩⟩ := TH.out
        go_wp2_with fail
        refine (KW.out _).mono ?_
        rintro x0 wd ⟨rfl, hb⟩
        have TH2 := hide (TH.out.below hb)
        have B2 := hide (BB.out.trans (hb.mono sz))
        clear TH BB a0 a1 a2 a3 a4 b0 b1 b2 b3 b4 c0 c1 c2 c3 c4 hb sz
        have TH := hide TH2.out
        have BB := hide B2.out
        have sz := BB.out.size
        clear TH2 B2
        obtain ⟨⟨a0, a1, a2, a3, a4⟩, ⟨b0, b1, b2, b3, b4⟩, ⟨c0, c1, c2, c3, c4⟩⟩ := TH.out
        go_wp2_with fail
        refine (KS.out _).mono ?_
        rintro x0 we ⟨rfl, hb⟩
        have TH2 := hide (TH.out.below hb)
        have B2 := hide (BB.out.trans (hb.mono sz))
        clear TH BB a0 a1 a2 a3 a4 b0 b1 b2 b3 b4 c0 c1 c2 c3 c4 hb sz
        have TH := hide TH2.out
        have BB := hide B2.out
        have sz := BB.out.size
        clear TH2 B2
        obtain ⟨⟨a0, a1, a2, a3, a4⟩, ⟨b0, b1, b2, b3, b4⟩, ⟨c0, c1, c2, c3, c4⟩⟩ := TH.out
        go_wp2
        go_ret
        exact ⟨rfl, BB.out⟩
    · by_cases hy : y < 0
      · have hz := H1.out (by omega) (by omega)
        clear H1 H2
        obtain ⟨⟨a0, a1, a2, a3, a4⟩, ⟨b0, b1, b2, b3, b4⟩, ⟨c0, c1, c2, c3, c4⟩⟩ := TH.out
        go_wp2_with fail
        refine (KW.out _).mono ?_
        rintro x0 wd ⟨rfl, hb⟩
        have TH2 := hide (TH.out.below hb)
        have B2 := hide (BB.out.trans (hb.mono sz))
        clear TH BB a0 a1 a2 a3 a4 b0 b1 b2 b3 b4 c0 c1 c2 c3 c4 hb sz
        have TH := hide TH2.out
        have BB := hide B2.out
        have sz := BB.out.size
        clear TH2 B2
        obtain ⟨⟨a0, a1, a2, a3, a4⟩, ⟨b0, b1, b2, b3, b4⟩, ⟨c0, c1, c2, c3, c4⟩⟩ := TH.out
        go_wp2_with fail
        refine (KS.out _).mono ?_
        rintro x0 we ⟨rfl, hb⟩
        have TH2 := hide (TH.out.below hb)
        have B2 := hide (BB.out.trans (hb.mono sz))
        clear TH BB a0 a1 a2 a3 a4 b0 b1 b2 b3 b4 c0 c1 c2 c3 c4 hb sz
        have TH := hide TH2.out
        have BB := hide B2.out
        have sz := BB.out.size
        clear TH2 B2
        obtain ⟨⟨a0, a1, a2, a3, a4⟩, ⟨b0, b1, b2, b3, b4⟩, ⟨c0, c1, c2, c3, c4⟩⟩ := TH.out
        go_wp2
        go_ret
        exact ⟨rfl, BB.out⟩
      · by_cases hy2 : y = 0
        · have hz := H1.out (by omega) (by omega)
          have hz2 := H2.out (by omega) (by omega)
          clear H1 H2
          obtain ⟨⟨a0, a1, a2, a3, a4⟩, ⟨b0, b1, b2, b3, b4⟩, ⟨c0, c1, c2, c3, c4⟩⟩ := TH.out
          go_wp2_with fail
          refine (KW.out _).mono ?_
          rintro x0 wd ⟨rfl, hb⟩
          have TH2 := hide (TH.out.below hb)
          have B2 := hide (BB.out.trans (hb.mono sz))
          clear TH BB a0 a1 a2 a3 a4 b0 b1 b2 b3 b4 c0 c1 c2 c3 c4 hb sz
          have TH := hide TH2.out
          have BB := hide B2.out
          have sz := BB.out.size
          clear TH2 B2
          obtain ⟨⟨a0, a1, a2, a3, a4⟩, ⟨b0, b1, b2, b3, b4⟩, ⟨c0, c1, c2, c3, c4⟩⟩ := TH.out
          go_wp2_with fail
          refine (KS.out _).mono ?_
          rintro x0 we ⟨rfl, hb⟩
          have TH2 := hide (TH.out.below hb)
          have B2 := hide (BB.out.trans (hb.mono sz))
          clear TH BB a0 a1 a2 a3 a4 b0 b1 b2 b3 b4 c0 c1 c2 c3 c4 hb sz
          have TH := hide TH2.out
          have BB := hide B2.out
          have sz := BB.out.size
          clear TH2 B2
          obtain ⟨⟨a0, a1, a2, a3, a4⟩, ⟨b0, b1, b2, b3, b4⟩, ⟨c0, c1, c2, c3, c4⟩⟩ := TH.out
          go_wp2
          go_ret
          exact ⟨rfl, BB.out⟩
        · have hz := H2.out (by omega) (by omega)
          clear H1 H2
          obtain ⟨⟨a0, a1, a2, a3, a4⟩, ⟨b0, b1, b2, b3, b4⟩, ⟨c0, c1, c2, c3, c4⟩⟩ := TH.out
          go_wp2_with fail
          refine (KW.out _).mono ?_
          rintro x0 wd ⟨rfl, hb⟩
          have TH2 := hide (TH.out.below hb)
          have B2 := hide (BB.out.trans (hb.mono sz))
          clear TH BB a0 a1 a2 a3 a4 b0 b1 b2 b3 b4 c0 c1 c2 c3 c4 hb sz
          have TH := hide TH2.out
          have BB := hide B2.out
          have sz := BB.out.size
          clear TH2 B2
          obtain ⟨⟨a0, a1, a2, a3, a4⟩, ⟨b0, b1, b2, b3, b4⟩, ⟨c0, c1, c2, c3, c4⟩⟩ := TH.out
          go_wp2_with fail
          refine (KS.out _).mono ?_
          rintro x0 we ⟨rfl, hb⟩
          have TH2 := hide (TH.out.below hb)
          have B2 := hide (BB.out.trans (hb.mono sz))
          clear TH BB a0 a1 a2 a3 a4 b0 b1 b2 b3 b4 c0 c1 c2 c3 c4 hb sz
          have TH := hide TH2.out
          have BB := hide B2.out
          have sz := BB.out.size
          clear TH2 B2
          obtain ⟨⟨a0, a1, a2, a3, a4⟩, ⟨b0, b1, b2, b3, b4⟩, ⟨c0, c1, c2, c3, c4⟩⟩ := TH.out
          go_wp2
          go_ret
          exact ⟨rfl, BB.out⟩
    · by_cases hy : 0 ≤ y
      · have hz := H2.out (by omega) hy
        clear H1 H2
        obtain ⟨⟨a0, a1, a2, a3, a4⟩, ⟨b0, b1, b2, b3, b4⟩, ⟨c0, c1, c2, c3, c4⟩⟩ := TH.out
        go_wp2_with fail
        refine (KW.out _).mono ?_
        rintro x0 wd ⟨rfl, hb⟩
        have TH2 := hide (TH.out.below hb)
        have B2 := hide (BB.out.trans (hb.mono sz))
        clear TH BB a0 a1 a2 a3 a4 b0 b1 b2 b3 b4 c0 c1 c2 c3 c4 hb sz
        have TH := hide TH2.out
        have BB := hide B2.out
        have sz := BB.out.size
        clear TH2 B2
        obtain ⟨⟨a0, a1, a2, a3, a4⟩, ⟨b0, b1, b2, b3, b4⟩, ⟨c0, c1, c2, c3, c4⟩⟩ := TH.out
        go_wp2_with fail
        refine (KS.out _).mono ?_
        rintro x0 we ⟨rfl, hb⟩
        have TH2 := hide (TH.out.below hb)
        have B2 := hide (BB.out.trans (hb.mono sz))
        clear TH BB a0 a1 a2 a3 a4 b0 b1 b2 b3 b4 c0 c1 c2 c3 c4 hb sz
        have TH := hide TH2.out
        have BB := hide B2.out
        have sz := BB.out.size
        clear TH2 B2
        obtain ⟨⟨a0, a1, a2, a3, a4⟩, ⟨b0, b1, b2, b3, b4⟩, ⟨c0, c1, c2, c3, c4⟩⟩ := TH.out
        go_wp2
        go_ret
        exact ⟨rfl, BB.out⟩
      · clear H1 H2
        obtain ⟨⟨a0, a1, a2, a3, a4⟩, ⟨b0, b1, b2, b3, b4⟩, ⟨c0, c1, c2, c3, c4⟩⟩ := TH.out
        go_wp2_with fail
        refine (KW.out _).mono ?_
        rintro x0 wd ⟨rfl, hb⟩
        have TH2 := hide (TH.out.below hb)
        have B2 := hide (BB.out.trans (hb.mono sz))
        clear TH BB a0 a1 a2 a3 a4 b0 b1 b2 b3 b4 c0 c1 c2 c3 c4 hb sz
        have TH := hide TH2.out
        have BB := hide B2.out
        have sz := BB.out.size
        clear TH2 B2
        obtain ⟨⟨a0, a1, a2, a3, a4⟩, ⟨b0, b1, b2, b3, b4⟩, ⟨c0, c1, c2, c3, c4⟩⟩ := TH.out
        go_wp2_with fail
        refine (KS.out _).mono ?_
        rintro x0 we ⟨rfl, hb⟩
        have TH2 := hide (TH.out.below hb)
        have B2 := hide (BB.out.trans (hb.mono sz))
        clear TH BB a0 a1 a2 a3 a4 b0 b1 b2 b3 b4 c0 c1 c2 c3 c4 hb sz
        have TH := hide TH2.out
        have BB := hide B2.out
        have sz := BB.out.size
        clear TH2 B2
        obtain ⟨⟨a0, a1, a2, a3, a4⟩, ⟨b0, b1, b2, b3, b4⟩, ⟨c0, c1, c2, c3, c4⟩⟩ := TH.out
        go_wp2
        go_ret
        exact ⟨rfl, BB.out⟩
theorem opOrder_walk (n r d t : Int) (l : ByteArray) (m s e u : Int) (k : ByteArray) (n3 r3 d3 t3 : Int) (l3 : ByteArray) (w : World) (_ : (Lit.int .i64 n).wf = true) (_ : (Lit.int .i64 r).wf = true) (_ : (Lit.int .i64 d).wf = true) (_ : (Lit.int .i64 t).wf = true) (hl : l.size ≤ maxLen)
    (_ : (Lit.int .i64 m).wf = true) (_ : (Lit.int .i64 s).wf = true) (_ : (Lit.int .i64 e).wf = true) (_ : (Lit.int .i64 u).wf = true) (hk : k.size ≤ maxLen)
    (_ : (Lit.int .i64 n3).wf = true) (_ : (Lit.int .i64 r3).wf = true) (_ : (Lit.int .i64 d3).wf = true) (_ : (Lit.int .i64 t3).wf = true) (hl3 : l3.size ≤ maxLen) (hE : Env w) :
    Calls Tryd.prog 5 #[.agg #[.int .i64 n, .int .i64 r, .int .i64 d, .int .i64 t, .string l], .agg #[.int .i64 m, .int .i64 s, .int .i64 e, .int .i64 u, .string k], .agg #[.int .i64 n3, .int .i64 r3, .int .i64 d3, .int .i64 t3, .string l3]] w (TrueRet w) := by
  have h := oorder_core n r d t l.data.toList m s e u k.data.toList n3 r3 d3 t3 l3.data.toList (opC n r d t l.data.toList m s e u k.data.toList) (opC m s e u k.data.toList n3 r3 d3 t3 l3.data.toList) (opC n r d t l.data.toList n3 r3 d3 t3 l3.data.toList)
    (opE n r d t l.data.toList m s e u k.data.toList) w hE (by simpa using hl) (by simpa using hk) (by simpa using hl3)
    (ocmp_any _ _ _ _ _ _ _ _ _ _) (ocmp_any _ _ _ _ _ _ _ _ _ _) (ocmp_any _ _ _ _ _ _ _ _ _ _)
    (fun W => by rw [opC_turn]; exact ocmp_any _ _ _ _ _ _ _ _ _ _ W)
    (fun W => by rw [← (opC_like n r d t l.data.toList n r d t l.data.toList).2 ⟨rfl, rfl, rfl, rfl, rfl⟩]; exact ocmp_any _ _ _ _ _ _ _ _ _ _ W)
    (op_eql _ _ _ _ _ _ _ _ _ _)
    (by
      have hc := opC_like n r d t l.data.toList m s e u k.data.toList
      rcases opC_small n r d t l.data.toList m s e u k.data.toList with h | h | h
      · exact .inl ⟨h, decide_eq_false (fun g => by have := hc.2 g; omega)⟩
      · exact .inr (.inl ⟨h, decide_eq_true (hc.1 h)⟩)
      · exact .inr (.inr ⟨h, decide_eq_false (fun g => by have := hc.2 g; omega)⟩))
    (opC_on _ _ _ _ _ _ _ _ _ _ _ _ _ _ _) (opC_up _ _ _ _ _ _ _ _ _ _ _ _ _ _ _)
  rw [bs_of, bs_of, bs_of] at h
  exact h
end Go.Proofs.YtjgnneajpkhppaaDoor
