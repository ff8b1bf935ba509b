/-
  The walk of the law StampOrder: it answers true at every input, and changes nothing that was there. No conditions.
-/
import Derived.Test.YtmmnnmljilhahaaSAwake
import Derived.Test.YtmmnnmljilhahaaPair
import Derived.Test.YtmmnnmljilhahaaSOrderPure
namespace Go.Proofs.Ytmmnnmljilhahaa
open Go.RowKit
set_option linter.unusedVariables false

/-- Three stamps that lie behind each other. -/
def Three (w : World) (g : Nat) (n r m s k l : Int) : Prop := Bx w g n r ∧ Bx w (g + 1) m s ∧ Bx w (g + 2) k l
theorem Three.below {w w' : World} {g : Nat} {n r m s k l : Int} (h : Three w g n r m s k l) (hb : Below w.heap.size w w') : Three w' g n r m s k l :=
  ⟨h.1.below hb h.1.lt, h.2.1.below hb h.2.1.lt, h.2.2.below hb h.2.2.lt⟩
theorem Three.new (w : World) (n r m s k l : Int) (t : TypeId) :
    Three (((w.alloc (.cells #[.int .i64 n, .int .i64 r] t)).alloc (.cells #[.int .i64 m, .int .i64 s] t)).alloc (.cells #[.int .i64 k, .int .i64 l] t)) w.heap.size n r m s k l := by
  have e1 : (w.alloc (.cells #[.int .i64 n, .int .i64 r] t)).heap.size = w.heap.size + 1 := by simp
  have e2 : ((w.alloc (.cells #[.int .i64 n, .int .i64 r] t)).alloc (.cells #[.int .i64 m, .int .i64 s] t)).heap.size = w.heap.size + 2 := by simp
  have p := Bx.new (w.alloc (.cells #[.int .i64 n, .int .i64 r] t)) m s t
  have q := Bx.new ((w.alloc (.cells #[.int .i64 n, .int .i64 r] t)).alloc (.cells #[.int .i64 m, .int .i64 s] t)) k l t
  rw [e1] at p
  rw [e2] at q
  exact ⟨((Bx.new w n r t).alloc _).alloc _, p.alloc _, q⟩

set_option maxHeartbeats 8000000 in
set_option maxRecDepth 100000 in
theorem order_core (n r m s k l x y z i j : Int) (ra rb : Bool) (w : World)
    (kx : ∀ w, Calls Try.prog 13 #[.agg #[.int .i64 n, .int .i64 r], .agg #[.int .i64 m, .int .i64 s]] w (NumRet x w))
    (ky : ∀ w, Calls Try.prog 13 #[.agg #[.int .i64 m, .int .i64 s], .agg #[.int .i64 k, .int .i64 l]] w (NumRet y w))
    (kz : ∀ w, Calls Try.prog 13 #[.agg #[.int .i64 n, .int .i64 r], .agg #[.int .i64 k, .int .i64 l]] w (NumRet z w))
    (kw : ∀ w, Calls Try.prog 13 #[.agg #[.int .i64 m, .int .i64 s], .agg #[.int .i64 n, .int .i64 r]] w (NumRet (-x) w))
    (ka : ∀ w, Calls Try.prog 9 #[.agg #[.int .i64 n, .int .i64 r]] w (BoolRet ra w))
    (kb : ∀ w, Calls Try.prog 9 #[.agg #[.int .i64 m, .int .i64 s]] w (BoolRet rb w))
    (ia : ∀ w, Calls Try.prog 11 #[.agg #[.int .i64 n, .int .i64 r]] w (NumRet i w))
    (ib : ∀ w, Calls Try.prog 11 #[.agg #[.int .i64 m, .int .i64 s]] w (NumRet j w))
    (hx : x = -1 ∨ x = 0 ∨ x = 1) (g1 : x ≤ 0 → y ≤ 0 → z ≤ 0) (g2 : 0 ≤ x → 0 ≤ y → 0 ≤ z) (g3 : x ≠ 0 → ¬ (n = m ∧ r = s)) (g3b : x = 0 → n = m ∧ r = s)
    (g4 : ra = true → rb = true → (i < j ↔ x < 0)) :
    Calls Try.prog 6 #[.agg #[.int .i64 n, .int .i64 r], .agg #[.int .i64 m, .int .i64 s], .agg #[.int .i64 k, .int .i64 l]] w (TrueRet w) := by
  have KX := hide kx
  have KY := hide ky
  have KZ := hide kz
  have KW := hide kw
  have KA := hide ka
  have KB := hide kb
  have IA := hide ia
  have IB := hide ib
  have H1 := hide g1
  have H2 := hide g2
  have H3 := hide g3
  have H3B := hide g3b
  have H4 := hide g4
  clear kx ky kz kw ka kb ia ib g1 g2 g3 g3b g4
  go_enter Try.func6, Try.ntmps6
  go_wp2_with fail
  refine (sAwake_any _).mono ?_
  rintro e w1 ⟨rfl, hb⟩
  have TH := hide ((Three.new w n r m s k l 23).below hb)
  have BB := hide (((((Below.refl w.heap.size w).alloc (Nat.le_refl _) (.cells #[.int .i64 n, .int .i64 r] 23)).alloc (by simp) (.cells #[.int .i64 m, .int .i64 s] 23)).alloc (by simp; omega) (.cells #[.int .i64 k, .int .i64 l] 23)).trans (hb.mono (by simp; omega)))
  have sz := BB.out.size
  clear hb
  obtain ⟨⟨a0, a1⟩, ⟨b0, b1⟩, ⟨c0, c1⟩⟩ := TH.out
  go_wp2_with fail
  refine (KX.out _).mono ?_
  rintro e w2 ⟨rfl, hb⟩
  have TH2 := hide (TH.out.below hb)
  have B2 := hide (BB.out.trans (hb.mono sz))
  clear TH BB a0 a1 b0 b1 c0 c1 hb sz
  have TH := hide TH2.out
  have BB := hide B2.out
  have sz := BB.out.size
  clear TH2 B2
  obtain ⟨⟨a0, a1⟩, ⟨b0, b1⟩, ⟨c0, c1⟩⟩ := TH.out
  go_wp2_with fail
  refine (KY.out _).mono ?_
  rintro e w3 ⟨rfl, hb⟩
  have TH2 := hide (TH.out.below hb)
  have B2 := hide (BB.out.trans (hb.mono sz))
  clear TH BB a0 a1 b0 b1 c0 c1 hb sz
  have TH := hide TH2.out
  have BB := hide B2.out
  have sz := BB.out.size
  clear TH2 B2
  obtain ⟨⟨a0, a1⟩, ⟨b0, b1⟩, ⟨c0, c1⟩⟩ := TH.out
  go_wp2_with fail
  refine (KZ.out _).mono ?_
  rintro e w4 ⟨rfl, hb⟩
  have TH2 := hide (TH.out.below hb)
  have B2 := hide (BB.out.trans (hb.mono sz))
  clear TH BB a0 a1 b0 b1 c0 c1 hb sz
  have TH := hide TH2.out
  have BB := hide B2.out
  have sz := BB.out.size
  clear TH2 B2
  rcases hx with rfl | rfl | rfl
  · have h3 := hide (H3.out (by omega))
    clear H3 H3B H2
    by_cases hy : y ≤ 0
    · have hz := H1.out (by omega) hy
      clear H1
      obtain ⟨⟨a0, a1⟩, ⟨b0, b1⟩, ⟨c0, c1⟩⟩ := TH.out
      go_wp2_with fail
      refine (KA.out _).mono ?_
      rintro e wa ⟨rfl, hb⟩
      have TH2 := hide (TH.out.below hb)
      have B2 := hide (BB.out.trans (hb.mono sz))
      clear TH BB a0 a1 b0 b1 c0 c1 hb sz
      have TH := hide TH2.out
      have BB := hide B2.out
      have sz := BB.out.size
      clear TH2 B2
      cases ra with
      | false =>
        clear H4
        obtain ⟨⟨a0, a1⟩, ⟨b0, b1⟩, ⟨c0, c1⟩⟩ := TH.out
        go_wp2_with fail
        refine (IA.out _).mono ?_
        rintro e wd ⟨rfl, hb⟩
        have TH2 := hide (TH.out.below hb)
        have B2 := hide (BB.out.trans (hb.mono sz))
        clear TH BB a0 a1 b0 b1 c0 c1 hb sz
        have TH := hide TH2.out
        have BB := hide B2.out
        have sz := BB.out.size
        clear TH2 B2
        obtain ⟨⟨a0, a1⟩, ⟨b0, b1⟩, ⟨c0, c1⟩⟩ := TH.out
        go_wp2_with fail
        refine (IB.out _).mono ?_
        rintro e we ⟨rfl, hb⟩
        have TH2 := hide (TH.out.below hb)
        have B2 := hide (BB.out.trans (hb.mono sz))
        clear TH BB a0 a1 b0 b1 c0 c1 hb sz
        have TH := hide TH2.out
        have BB := hide B2.out
        have sz := BB.out.size
        clear TH2 B2
        obtain ⟨⟨a0, a1⟩, ⟨b0, b1⟩, ⟨c0, c1⟩⟩ := TH.out
        go_wp2_with fail
        refine (KW.out _).mono ?_
        rintro e wf ⟨rfl, hb⟩
        have TH2 := hide (TH.out.below hb)
        have B2 := hide (BB.out.trans (hb.mono sz))
        clear TH BB a0 a1 b0 b1 c0 c1 hb sz
        have TH := hide TH2.out
        have BB := hide B2.out
        have sz := BB.out.size
        clear TH2 B2
        obtain ⟨⟨a0, a1⟩, ⟨b0, b1⟩, ⟨c0, c1⟩⟩ := TH.out
        go_wp2
        all_goals first
          | (go_ret; exact ⟨rfl, BB.out⟩)
          | (go_ret; refine ⟨?_, BB.out⟩; simp; done)
          | (go_ret; refine ⟨?_, BB.out⟩; simp; omega)
          | (exfalso; exact h3.out ⟨by assumption, by assumption⟩)
      | true =>
        obtain ⟨⟨a0, a1⟩, ⟨b0, b1⟩, ⟨c0, c1⟩⟩ := TH.out
        go_wp2_with fail
        refine (KB.out _).mono ?_
        rintro e wb ⟨rfl, hb⟩
        have TH2 := hide (TH.out.below hb)
        have B2 := hide (BB.out.trans (hb.mono sz))
        clear TH BB a0 a1 b0 b1 c0 c1 hb sz
        have TH := hide TH2.out
        have BB := hide B2.out
        have sz := BB.out.size
        clear TH2 B2
        cases rb with
        | false =>
          clear H4
          obtain ⟨⟨a0, a1⟩, ⟨b0, b1⟩, ⟨c0, c1⟩⟩ := TH.out
          go_wp2_with fail
          refine (IA.out _).mono ?_
          rintro e wd ⟨rfl, hb⟩
          have TH2 := hide (TH.out.below hb)
          have B2 := hide (BB.out.trans (hb.mono sz))
          clear TH BB a0 a1 b0 b1 c0 c1 hb sz
          have TH := hide TH2.out
          have BB := hide B2.out
          have sz := BB.out.size
          clear TH2 B2
          obtain ⟨⟨a0, a1⟩, ⟨b0, b1⟩, ⟨c0, c1⟩⟩ := TH.out
          go_wp2_with fail
          refine (IB.out _).mono ?_
          rintro e we ⟨rfl, hb⟩
          have TH2 := hide (TH.out.below hb)
          have B2 := hide (BB.out.trans (hb.mono sz))
          clear TH BB a0 a1 b0 b1 c0 c1 hb sz
          have TH := hide TH2.out
          have BB := hide B2.out
          have sz := BB.out.size
          clear TH2 B2
          obtain ⟨⟨a0, a1⟩, ⟨b0, b1⟩, ⟨c0, c1⟩⟩ := TH.out
          go_wp2_with fail
          refine (KW.out _).mono ?_
          rintro e wf ⟨rfl, hb⟩
          have TH2 := hide (TH.out.below hb)
          have B2 := hide (BB.out.trans (hb.mono sz))
          clear TH BB a0 a1 b0 b1 c0 c1 hb sz
          have TH := hide TH2.out
          have BB := hide B2.out
          have sz := BB.out.size
          clear TH2 B2
          obtain ⟨⟨a0, a1⟩, ⟨b0, b1⟩, ⟨c0, c1⟩⟩ := TH.out
          go_wp2
          all_goals first
            | (go_ret; exact ⟨rfl, BB.out⟩)
            | (go_ret; refine ⟨?_, BB.out⟩; simp; done)
            | (go_ret; refine ⟨?_, BB.out⟩; simp; omega)
            | (exfalso; exact h3.out ⟨by assumption, by assumption⟩)
        | true =>
          have h4 : i < j := by have q := H4.out; simp at q; exact q
          clear H4
          obtain ⟨⟨a0, a1⟩, ⟨b0, b1⟩, ⟨c0, c1⟩⟩ := TH.out
          go_wp2_with fail
          refine (IA.out _).mono ?_
          rintro e wd ⟨rfl, hb⟩
          have TH2 := hide (TH.out.below hb)
          have B2 := hide (BB.out.trans (hb.mono sz))
          clear TH BB a0 a1 b0 b1 c0 c1 hb sz
          have TH := hide TH2.out
          have BB := hide B2.out
          have sz := BB.out.size
          clear TH2 B2
          obtain ⟨⟨a0, a1⟩, ⟨b0, b1⟩, ⟨c0, c1⟩⟩ := TH.out
          go_wp2_with fail
          refine (IB.out _).mono ?_
          rintro e we ⟨rfl, hb⟩
          have TH2 := hide (TH.out.below hb)
          have B2 := hide (BB.out.trans (hb.mono sz))
          clear TH BB a0 a1 b0 b1 c0 c1 hb sz
          have TH := hide TH2.out
          have BB := hide B2.out
          have sz := BB.out.size
          clear TH2 B2
          obtain ⟨⟨a0, a1⟩, ⟨b0, b1⟩, ⟨c0, c1⟩⟩ := TH.out
          go_wp2_with fail
          refine (KW.out _).mono ?_
          rintro e wf ⟨rfl, hb⟩
          have TH2 := hide (TH.out.below hb)
          have B2 := hide (BB.out.trans (hb.mono sz))
          clear TH BB a0 a1 b0 b1 c0 c1 hb sz
          have TH := hide TH2.out
          have BB := hide B2.out
          have sz := BB.out.size
          clear TH2 B2
          obtain ⟨⟨a0, a1⟩, ⟨b0, b1⟩, ⟨c0, c1⟩⟩ := TH.out
          go_wp2
          all_goals first
            | (go_ret; exact ⟨rfl, BB.out⟩)
            | (go_ret; refine ⟨?_, BB.out⟩; simp; done)
            | (go_ret; refine ⟨?_, BB.out⟩; simp; omega)
            | (exfalso; exact h3.out ⟨by assumption, by assumption⟩)
    · clear H1
      obtain ⟨⟨a0, a1⟩, ⟨b0, b1⟩, ⟨c0, c1⟩⟩ := TH.out
      go_wp2_with fail
      refine (KA.out _).mono ?_
      rintro e wa ⟨rfl, hb⟩
      have TH2 := hide (TH.out.below hb)
      have B2 := hide (BB.out.trans (hb.mono sz))
      clear TH BB a0 a1 b0 b1 c0 c1 hb sz
      have TH := hide TH2.out
      have BB := hide B2.out
      have sz := BB.out.size
      clear TH2 B2
      cases ra with
      | false =>
        clear H4
        obtain ⟨⟨a0, a1⟩, ⟨b0, b1⟩, ⟨c0, c1⟩⟩ := TH.out
        go_wp2_with fail
        refine (IA.out _).mono ?_
        rintro e wd ⟨rfl, hb⟩
        have TH2 := hide (TH.out.below hb)
        have B2 := hide (BB.out.trans (hb.mono sz))
        clear TH BB a0 a1 b0 b1 c0 c1 hb sz
        have TH := hide TH2.out
        have BB := hide B2.out
        have sz := BB.out.size
        clear TH2 B2
        obtain ⟨⟨a0, a1⟩, ⟨b0, b1⟩, ⟨c0, c1⟩⟩ := TH.out
        go_wp2_with fail
        refine (IB.out _).mono ?_
        rintro e we ⟨rfl, hb⟩
        have TH2 := hide (TH.out.below hb)
        have B2 := hide (BB.out.trans (hb.mono sz))
        clear TH BB a0 a1 b0 b1 c0 c1 hb sz
        have TH := hide TH2.out
        have BB := hide B2.out
        have sz := BB.out.size
        clear TH2 B2
        obtain ⟨⟨a0, a1⟩, ⟨b0, b1⟩, ⟨c0, c1⟩⟩ := TH.out
        go_wp2_with fail
        refine (KW.out _).mono ?_
        rintro e wf ⟨rfl, hb⟩
        have TH2 := hide (TH.out.below hb)
        have B2 := hide (BB.out.trans (hb.mono sz))
        clear TH BB a0 a1 b0 b1 c0 c1 hb sz
        have TH := hide TH2.out
        have BB := hide B2.out
        have sz := BB.out.size
        clear TH2 B2
        obtain ⟨⟨a0, a1⟩, ⟨b0, b1⟩, ⟨c0, c1⟩⟩ := TH.out
        go_wp2
        all_goals first
          | (go_ret; exact ⟨rfl, BB.out⟩)
          | (go_ret; refine ⟨?_, BB.out⟩; simp; done)
          | (go_ret; refine ⟨?_, BB.out⟩; simp; omega)
          | (exfalso; exact h3.out ⟨by assumption, by assumption⟩)
      | true =>
        obtain ⟨⟨a0, a1⟩, ⟨b0, b1⟩, ⟨c0, c1⟩⟩ := TH.out
        go_wp2_with fail
        refine (KB.out _).mono ?_
        rintro e wb ⟨rfl, hb⟩
        have TH2 := hide (TH.out.below hb)
        have B2 := hide (BB.out.trans (hb.mono sz))
        clear TH BB a0 a1 b0 b1 c0 c1 hb sz
        have TH := hide TH2.out
        have BB := hide B2.out
        have sz := BB.out.size
        clear TH2 B2
        cases rb with
        | false =>
          clear H4
          obtain ⟨⟨a0, a1⟩, ⟨b0, b1⟩, ⟨c0, c1⟩⟩ := TH.out
          go_wp2_with fail
          refine (IA.out _).mono ?_
          rintro e wd ⟨rfl, hb⟩
          have TH2 := hide (TH.out.below hb)
          have B2 := hide (BB.out.trans (hb.mono sz))
          clear TH BB a0 a1 b0 b1 c0 c1 hb sz
          have TH := hide TH2.out
          have BB := hide B2.out
          have sz := BB.out.size
          clear TH2 B2
          obtain ⟨⟨a0, a1⟩, ⟨b0, b1⟩, ⟨c0, c1⟩⟩ := TH.out
          go_wp2_with fail
          refine (IB.out _).mono ?_
          rintro e we ⟨rfl, hb⟩
          have TH2 := hide (TH.out.below hb)
          have B2 := hide (BB.out.trans (hb.mono sz))
          clear TH BB a0 a1 b0 b1 c0 c1 hb sz
          have TH := hide TH2.out
          have BB := hide B2.out
          have sz := BB.out.size
          clear TH2 B2
          obtain ⟨⟨a0, a1⟩, ⟨b0, b1⟩, ⟨c0, c1⟩⟩ := TH.out
          go_wp2_with fail
          refine (KW.out _).mono ?_
          rintro e wf ⟨rfl, hb⟩
          have TH2 := hide (TH.out.below hb)
          have B2 := hide (BB.out.trans (hb.mono sz))
          clear TH BB a0 a1 b0 b1 c0 c1 hb sz
          have TH := hide TH2.out
          have BB := hide B2.out
          have sz := BB.out.size
          clear TH2 B2
          obtain ⟨⟨a0, a1⟩, ⟨b0, b1⟩, ⟨c0, c1⟩⟩ := TH.out
          go_wp2
          all_goals first
            | (go_ret; exact ⟨rfl, BB.out⟩)
            | (go_ret; refine ⟨?_, BB.out⟩; simp; done)
            | (go_ret; refine ⟨?_, BB.out⟩; simp; omega)
            | (exfalso; exact h3.out ⟨by assumption, by assumption⟩)
        | true =>
          have h4 : i < j := by have q := H4.out; simp at q; exact q
          clear H4
          obtain ⟨⟨a0, a1⟩, ⟨b0, b1⟩, ⟨c0, c1⟩⟩ := TH.out
          go_wp2_with fail
          refine (IA.out _).mono ?_
          rintro e wd ⟨rfl, hb⟩
          have TH2 := hide (TH.out.below hb)
          have B2 := hide (BB.out.trans (hb.mono sz))
          clear TH BB a0 a1 b0 b1 c0 c1 hb sz
          have TH := hide TH2.out
          have BB := hide B2.out
          have sz := BB.out.size
          clear TH2 B2
          obtain ⟨⟨a0, a1⟩, ⟨b0, b1⟩, ⟨c0, c1⟩⟩ := TH.out
          go_wp2_with fail
          refine (IB.out _).mono ?_
          rintro e we ⟨rfl, hb⟩
          have TH2 := hide (TH.out.below hb)
          have B2 := hide (BB.out.trans (hb.mono sz))
          clear TH BB a0 a1 b0 b1 c0 c1 hb sz
          have TH := hide TH2.out
          have BB := hide B2.out
          have sz := BB.out.size
          clear TH2 B2
          obtain ⟨⟨a0, a1⟩, ⟨b0, b1⟩, ⟨c0, c1⟩⟩ := TH.out
          go_wp2_with fail
          refine (KW.out _).mono ?_
          rintro e wf ⟨rfl, hb⟩
          have TH2 := hide (TH.out.below hb)
          have B2 := hide (BB.out.trans (hb.mono sz))
          clear TH BB a0 a1 b0 b1 c0 c1 hb sz
          have TH := hide TH2.out
          have BB := hide B2.out
          have sz := BB.out.size
          clear TH2 B2
          obtain ⟨⟨a0, a1⟩, ⟨b0, b1⟩, ⟨c0, c1⟩⟩ := TH.out
          go_wp2
          all_goals first
            | (go_ret; exact ⟨rfl, BB.out⟩)
            | (go_ret; refine ⟨?_, BB.out⟩; simp; done)
            | (go_ret; refine ⟨?_, BB.out⟩; simp; omega)
            | (exfalso; exact h3.out ⟨by assumption, by assumption⟩)
  · obtain ⟨rfl, rfl⟩ := H3B.out rfl
    clear H3 H3B
    by_cases hy : y ≤ 0
    · have hz := H1.out (by omega) hy
      clear H1
      by_cases hy2 : 0 ≤ y
      · have hz2 := H2.out (by omega) hy2
        clear H2
        obtain ⟨⟨a0, a1⟩, ⟨b0, b1⟩, ⟨c0, c1⟩⟩ := TH.out
        go_wp2_with fail
        refine (KA.out _).mono ?_
        rintro e wa ⟨rfl, hb⟩
        have TH2 := hide (TH.out.below hb)
        have B2 := hide (BB.out.trans (hb.mono sz))
        clear TH BB a0 a1 b0 b1 c0 c1 hb sz
        have TH := hide TH2.out
        have BB := hide B2.out
        have sz := BB.out.size
        clear TH2 B2
        cases ra with
        | false =>
          clear H4
          obtain ⟨⟨a0, a1⟩, ⟨b0, b1⟩, ⟨c0, c1⟩⟩ := TH.out
          go_wp2_with fail
          refine (IA.out _).mono ?_
          rintro e wd ⟨rfl, hb⟩
          have TH2 := hide (TH.out.below hb)
          have B2 := hide (BB.out.trans (hb.mono sz))
          clear TH BB a0 a1 b0 b1 c0 c1 hb sz
          have TH := hide TH2.out
          have BB := hide B2.out
          have sz := BB.out.size
          clear TH2 B2
          obtain ⟨⟨a0, a1⟩, ⟨b0, b1⟩, ⟨c0, c1⟩⟩ := TH.out
          go_wp2_with fail
          refine (IB.out _).mono ?_
          rintro e we ⟨rfl, hb⟩
          have TH2 := hide (TH.out.below hb)
          have B2 := hide (BB.out.trans (hb.mono sz))
          clear TH BB a0 a1 b0 b1 c0 c1 hb sz
          have TH := hide TH2.out
          have BB := hide B2.out
          have sz := BB.out.size
          clear TH2 B2
          obtain ⟨⟨a0, a1⟩, ⟨b0, b1⟩, ⟨c0, c1⟩⟩ := TH.out
          go_wp2_with fail
          refine (KW.out _).mono ?_
          rintro e wf ⟨rfl, hb⟩
          have TH2 := hide (TH.out.below hb)
          have B2 := hide (BB.out.trans (hb.mono sz))
          clear TH BB a0 a1 b0 b1 c0 c1 hb sz
          have TH := hide TH2.out
          have BB := hide B2.out
          have sz := BB.out.size
          clear TH2 B2
          obtain ⟨⟨a0, a1⟩, ⟨b0, b1⟩, ⟨c0, c1⟩⟩ := TH.out
          go_wp2
          all_goals first
            | (go_ret; exact ⟨rfl, BB.out⟩)
            | (go_ret; refine ⟨?_, BB.out⟩; simp; done)
            | (go_ret; refine ⟨?_, BB.out⟩; simp; omega)
            | (exfalso; exact h3.out ⟨by assumption, by assumption⟩)
        | true =>
          obtain ⟨⟨a0, a1⟩, ⟨b0, b1⟩, ⟨c0, c1⟩⟩ := TH.out
          go_wp2_with fail
          refine (KB.out _).mono ?_
          rintro e wb ⟨rfl, hb⟩
          have TH2 := hide (TH.out.below hb)
          have B2 := hide (BB.out.trans (hb.mono sz))
          clear TH BB a0 a1 b0 b1 c0 c1 hb sz
          have TH := hide TH2.out
          have BB := hide B2.out
          have sz := BB.out.size
          clear TH2 B2
          cases rb with
          | false =>
            clear H4
            obtain ⟨⟨a0, a1⟩, ⟨b0, b1⟩, ⟨c0, c1⟩⟩ := TH.out
            go_wp2_with fail
            refine (IA.out _).mono ?_
            rintro e wd ⟨rfl, hb⟩
            have TH2 := hide (TH.out.below hb)
            have B2 := hide (BB.out.trans (hb.mono sz))
            clear TH BB a0 a1 b0 b1 c0 c1 hb sz
            have TH := hide TH2.out
            have BB := hide B2.out
            have sz := BB.out.size
            clear TH2 B2
            obtain ⟨⟨a0, a1⟩, ⟨b0, b1⟩, ⟨c0, c1⟩⟩ := TH.out
            go_wp2_with fail
            refine (IB.out _).mono ?_
            rintro e we ⟨rfl, hb⟩
            have TH2 := hide (TH.out.below hb)
            have B2 := hide (BB.out.trans (hb.mono sz))
            clear TH BB a0 a1 b0 b1 c0 c1 hb sz
            have TH := hide TH2.out
            have BB := hide B2.out
            have sz := BB.out.size
            clear TH2 B2
            obtain ⟨⟨a0, a1⟩, ⟨b0, b1⟩, ⟨c0, c1⟩⟩ := TH.out
            go_wp2_with fail
            refine (KW.out _).mono ?_
            rintro e wf ⟨rfl, hb⟩
            have TH2 := hide (TH.out.below hb)
            have B2 := hide (BB.out.trans (hb.mono sz))
            clear TH BB a0 a1 b0 b1 c0 c1 hb sz
            have TH := hide TH2.out
            have BB := hide B2.out
            have sz := BB.out.size
            clear TH2 B2
            obtain ⟨⟨a0, a1⟩, ⟨b0, b1⟩, ⟨c0, c1⟩⟩ := TH.out
            go_wp2
            all_goals first
              | (go_ret; exact ⟨rfl, BB.out⟩)
              | (go_ret; refine ⟨?_, BB.out⟩; simp; done)
              | (go_ret; refine ⟨?_, BB.out⟩; simp; omega)
              | (exfalso; exact h3.out ⟨by assumption, by assumption⟩)
          | true =>
            have h4 : ¬ i < j := by have q := H4.out; simp at q; omega
            clear H4
            obtain ⟨⟨a0, a1⟩, ⟨b0, b1⟩, ⟨c0, c1⟩⟩ := TH.out
            go_wp2_with fail
            refine (IA.out _).mono ?_
            rintro e wd ⟨rfl, hb⟩
            have TH2 := hide (TH.out.below hb)
            have B2 := hide (BB.out.trans (hb.mono sz))
            clear TH BB a0 a1 b0 b1 c0 c1 hb sz
            have TH := hide TH2.out
            have BB := hide B2.out
            have sz := BB.out.size
            clear TH2 B2
            obtain ⟨⟨a0, a1⟩, ⟨b0, b1⟩, ⟨c0, c1⟩⟩ := TH.out
            go_wp2_with fail
            refine (IB.out _).mono ?_
            rintro e we ⟨rfl, hb⟩
            have TH2 := hide (TH.out.below hb)
            have B2 := hide (BB.out.trans (hb.mono sz))
            clear TH BB a0 a1 b0 b1 c0 c1 hb sz
            have TH := hide TH2.out
            have BB := hide B2.out
            have sz := BB.out.size
            clear TH2 B2
            obtain ⟨⟨a0, a1⟩, ⟨b0, b1⟩, ⟨c0, c1⟩⟩ := TH.out
            go_wp2_with fail
            refine (KW.out _).mono ?_
            rintro e wf ⟨rfl, hb⟩
            have TH2 := hide (TH.out.below hb)
            have B2 := hide (BB.out.trans (hb.mono sz))
            clear TH BB a0 a1 b0 b1 c0 c1 hb sz
            have TH := hide TH2.out
            have BB := hide B2.out
            have sz := BB.out.size
            clear TH2 B2
            obtain ⟨⟨a0, a1⟩, ⟨b0, b1⟩, ⟨c0, c1⟩⟩ := TH.out
            go_wp2
            all_goals first
              | (go_ret; exact ⟨rfl, BB.out⟩)
              | (go_ret; refine ⟨?_, BB.out⟩; simp; done)
              | (go_ret; refine ⟨?_, BB.out⟩; simp; omega)
              | (exfalso; exact h3.out ⟨by assumption, by assumption⟩)
      · clear H2
        obtain ⟨⟨a0, a1⟩, ⟨b0, b1⟩, ⟨c0, c1⟩⟩ := TH.out
        go_wp2_with fail
        refine (KA.out _).mono ?_
        rintro e wa ⟨rfl, hb⟩
        have TH2 := hide (TH.out.below hb)
        have B2 := hide (BB.out.trans (hb.mono sz))
        clear TH BB a0 a1 b0 b1 c0 c1 hb sz
        have TH := hide TH2.out
        have BB := hide B2.out
        have sz := BB.out.size
        clear TH2 B2
        cases ra with
        | false =>
          clear H4
          obtain ⟨⟨a0, a1⟩, ⟨b0, b1⟩, ⟨c0, c1⟩⟩ := TH.out
          go_wp2_with fail
          refine (IA.out _).mono ?_
          rintro e wd ⟨rfl, hb⟩
          have TH2 := hide (TH.out.below hb)
          have B2 := hide (BB.out.trans (hb.mono sz))
          clear TH BB a0 a1 b0 b1 c0 c1 hb sz
          have TH := hide TH2.out
          have BB := hide B2.out
          have sz := BB.out.size
          clear TH2 B2
          obtain ⟨⟨a0, a1⟩, ⟨b0, b1⟩, ⟨c0, c1⟩⟩ := TH.out
          go_wp2_with fail
          refine (IB.out _).mono ?_
          rintro e we ⟨rfl, hb⟩
          have TH2 := hide (TH.out.below hb)
          have B2 := hide (BB.out.trans (hb.mono sz))
          clear TH BB a0 a1 b0 b1 c0 c1 hb sz
          have TH := hide TH2.out
          have BB := hide B2.out
          have sz := BB.out.size
          clear TH2 B2
          obtain ⟨⟨a0, a1⟩, ⟨b0, b1⟩, ⟨c0, c1⟩⟩ := TH.out
          go_wp2_with fail
          refine (KW.out _).mono ?_
          rintro e wf ⟨rfl, hb⟩
          have TH2 := hide (TH.out.below hb)
          have B2 := hide (BB.out.trans (hb.mono sz))
          clear TH BB a0 a1 b0 b1 c0 c1 hb sz
          have TH := hide TH2.out
          have BB := hide B2.out
          have sz := BB.out.size
          clear TH2 B2
          obtain ⟨⟨a0, a1⟩, ⟨b0, b1⟩, ⟨c0, c1⟩⟩ := TH.out
          go_wp2
          all_goals first
            | (go_ret; exact ⟨rfl, BB.out⟩)
            | (go_ret; refine ⟨?_, BB.out⟩; simp; done)
            | (go_ret; refine ⟨?_, BB.out⟩; simp; omega)
            | (exfalso; exact h3.out ⟨by assumption, by assumption⟩)
        | true =>
          obtain ⟨⟨a0, a1⟩, ⟨b0, b1⟩, ⟨c0, c1⟩⟩ := TH.out
          go_wp2_with fail
          refine (KB.out _).mono ?_
          rintro e wb ⟨rfl, hb⟩
          have TH2 := hide (TH.out.below hb)
          have B2 := hide (BB.out.trans (hb.mono sz))
          clear TH BB a0 a1 b0 b1 c0 c1 hb sz
          have TH := hide TH2.out
          have BB := hide B2.out
          have sz := BB.out.size
          clear TH2 B2
          cases rb with
          | false =>
            clear H4
            obtain ⟨⟨a0, a1⟩, ⟨b0, b1⟩, ⟨c0, c1⟩⟩ := TH.out
            go_wp2_with fail
            refine (IA.out _).mono ?_
            rintro e wd ⟨rfl, hb⟩
            have TH2 := hide (TH.out.below hb)
            have B2 := hide (BB.out.trans (hb.mono sz))
            clear TH BB a0 a1 b0 b1 c0 c1 hb sz
            have TH := hide TH2.out
            have BB := hide B2.out
            have sz := BB.out.size
            clear TH2 B2
            obtain ⟨⟨a0, a1⟩, ⟨b0, b1⟩, ⟨c0, c1⟩⟩ := TH.out
            go_wp2_with fail
            refine (IB.out _).mono ?_
            rintro e we ⟨rfl, hb⟩
            have TH2 := hide (TH.out.below hb)
            have B2 := hide (BB.out.trans (hb.mono sz))
            clear TH BB a0 a1 b0 b1 c0 c1 hb sz
            have TH := hide TH2.out
            have BB := hide B2.out
            have sz := BB.out.size
            clear TH2 B2
            obtain ⟨⟨a0, a1⟩, ⟨b0, b1⟩, ⟨c0, c1⟩⟩ := TH.out
            go_wp2_with fail
            refine (KW.out _).mono ?_
            rintro e wf ⟨rfl, hb⟩
            have TH2 := hide (TH.out.below hb)
            have B2 := hide (BB.out.trans (hb.mono sz))
            clear TH BB a0 a1 b0 b1 c0 c1 hb sz
            have TH := hide TH2.out
            have BB := hide B2.out
            have sz := BB.out.size
            clear TH2 B2
            obtain ⟨⟨a0, a1⟩, ⟨b0, b1⟩, ⟨c0, c1⟩⟩ := TH.out
            go_wp2
            all_goals first
              | (go_ret; exact ⟨rfl, BB.out⟩)
              | (go_ret; refine ⟨?_, BB.out⟩; simp; done)
              | (go_ret; refine ⟨?_, BB.out⟩; simp; omega)
              | (exfalso; exact h3.out ⟨by assumption, by assumption⟩)
          | true =>
            have h4 : ¬ i < j := by have q := H4.out; simp at q; omega
            clear H4
            obtain ⟨⟨a0, a1⟩, ⟨b0, b1⟩, ⟨c0, c1⟩⟩ := TH.out
            go_wp2_with fail
            refine (IA.out _).mono ?_
            rintro e wd ⟨rfl, hb⟩
            have TH2 := hide (TH.out.below hb)
            have B2 := hide (BB.out.trans (hb.mono sz))
            clear TH BB a0 a1 b0 b1 c0 c1 hb sz
            have TH := hide TH2.out
            have BB := hide B2.out
            have sz := BB.out.size
            clear TH2 B2
            obtain ⟨⟨a0, a1⟩, ⟨b0, b1⟩, ⟨c0, c1⟩⟩ := TH.out
            go_wp2_with fail
            refine (IB.out _).mono ?_
            rintro e we ⟨rfl, hb⟩
            have TH2 := hide (TH.out.below hb)
            have B2 := hide (BB.out.trans (hb.mono sz))
            clear TH BB a0 a1 b0 b1 c0 c1 hb sz
            have TH := hide TH2.out
            have BB := hide B2.out
            have sz := BB.out.size
            clear TH2 B2
            obtain ⟨⟨a0, a1⟩, ⟨b0, b1⟩, ⟨c0, c1⟩⟩ := TH.out
            go_wp2_with fail
            refine (KW.out _).mono ?_
            rintro e wf ⟨rfl, hb⟩
            have TH2 := hide (TH.out.below hb)
            have B2 := hide (BB.out.trans (hb.mono sz))
            clear TH BB a0 a1 b0 b1 c0 c1 hb sz
            have TH := hide TH2.out
            have BB := hide B2.out
            have sz := BB.out.size
            clear TH2 B2
            obtain ⟨⟨a0, a1⟩, ⟨b0, b1⟩, ⟨c0, c1⟩⟩ := TH.out
            go_wp2
            all_goals first
              | (go_ret; exact ⟨rfl, BB.out⟩)
              | (go_ret; refine ⟨?_, BB.out⟩; simp; done)
              | (go_ret; refine ⟨?_, BB.out⟩; simp; omega)
              | (exfalso; exact h3.out ⟨by assumption, by assumption⟩)
    · have hz2 := H2.out (by omega) (by omega)
      clear H1 H2
      obtain ⟨⟨a0, a1⟩, ⟨b0, b1⟩, ⟨c0, c1⟩⟩ := TH.out
      go_wp2_with fail
      refine (KA.out _).mono ?_
      rintro e wa ⟨rfl, hb⟩
      have TH2 := hide (TH.out.below hb)
      have B2 := hide (BB.out.trans (hb.mono sz))
      clear TH BB a0 a1 b0 b1 c0 c1 hb sz
      have TH := hide TH2.out
      have BB := hide B2.out
      have sz := BB.out.size
      clear TH2 B2
      cases ra with
      | false =>
        clear H4
        obtain ⟨⟨a0, a1⟩, ⟨b0, b1⟩, ⟨c0, c1⟩⟩ := TH.out
        go_wp2_with fail
        refine (IA.out _).mono ?_
        rintro e wd ⟨rfl, hb⟩
        have TH2 := hide (TH.out.below hb)
        have B2 := hide (BB.out.trans (hb.mono sz))
        clear TH BB a0 a1 b0 b1 c0 c1 hb sz
        have TH := hide TH2.out
        have BB := hide B2.out
        have sz := BB.out.size
        clear TH2 B2
        obtain ⟨⟨a0, a1⟩, ⟨b0, b1⟩, ⟨c0, c1⟩⟩ := TH.out
        go_wp2_with fail
        refine (IB.out _).mono ?_
        rintro e we ⟨rfl, hb⟩
        have TH2 := hide (TH.out.below hb)
        have B2 := hide (BB.out.trans (hb.mono sz))
        clear TH BB a0 a1 b0 b1 c0 c1 hb sz
        have TH := hide TH2.out
        have BB := hide B2.out
        have sz := BB.out.size
        clear TH2 B2
        obtain ⟨⟨a0, a1⟩, ⟨b0, b1⟩, ⟨c0, c1⟩⟩ := TH.out
        go_wp2_with fail
        refine (KW.out _).mono ?_
        rintro e wf ⟨rfl, hb⟩
        have TH2 := hide (TH.out.below hb)
        have B2 := hide (BB.out.trans (hb.mono sz))
        clear TH BB a0 a1 b0 b1 c0 c1 hb sz
        have TH := hide TH2.out
        have BB := hide B2.out
        have sz := BB.out.size
        clear TH2 B2
        obtain ⟨⟨a0, a1⟩, ⟨b0, b1⟩, ⟨c0, c1⟩⟩ := TH.out
        go_wp2
        all_goals first
          | (go_ret; exact ⟨rfl, BB.out⟩)
          | (go_ret; refine ⟨?_, BB.out⟩; simp; done)
          | (go_ret; refine ⟨?_, BB.out⟩; simp; omega)
          | (exfalso; exact h3.out ⟨by assumption, by assumption⟩)
      | true =>
        obtain ⟨⟨a0, a1⟩, ⟨b0, b1⟩, ⟨c0, c1⟩⟩ := TH.out
        go_wp2_with fail
        refine (KB.out _).mono ?_
        rintro e wb ⟨rfl, hb⟩
        have TH2 := hide (TH.out.below hb)
        have B2 := hide (BB.out.trans (hb.mono sz))
        clear TH BB a0 a1 b0 b1 c0 c1 hb sz
        have TH := hide TH2.out
        have BB := hide B2.out
        have sz := BB.out.size
        clear TH2 B2
        cases rb with
        | false =>
          clear H4
          obtain ⟨⟨a0, a1⟩, ⟨b0, b1⟩, ⟨c0, c1⟩⟩ := TH.out
          go_wp2_with fail
          refine (IA.out _).mono ?_
          rintro e wd ⟨rfl, hb⟩
          have TH2 := hide (TH.out.below hb)
          have B2 := hide (BB.out.trans (hb.mono sz))
          clear TH BB a0 a1 b0 b1 c0 c1 hb sz
          have TH := hide TH2.out
          have BB := hide B2.out
          have sz := BB.out.size
          clear TH2 B2
          obtain ⟨⟨a0, a1⟩, ⟨b0, b1⟩, ⟨c0, c1⟩⟩ := TH.out
          go_wp2_with fail
          refine (IB.out _).mono ?_
          rintro e we ⟨rfl, hb⟩
          have TH2 := hide (TH.out.below hb)
          have B2 := hide (BB.out.trans (hb.mono sz))
          clear TH BB a0 a1 b0 b1 c0 c1 hb sz
          have TH := hide TH2.out
          have BB := hide B2.out
          have sz := BB.out.size
          clear TH2 B2
          obtain ⟨⟨a0, a1⟩, ⟨b0, b1⟩, ⟨c0, c1⟩⟩ := TH.out
          go_wp2_with fail
          refine (KW.out _).mono ?_
          rintro e wf ⟨rfl, hb⟩
          have TH2 := hide (TH.out.below hb)
          have B2 := hide (BB.out.trans (hb.mono sz))
          clear TH BB a0 a1 b0 b1 c0 c1 hb sz
          have TH := hide TH2.out
          have BB := hide B2.out
          have sz := BB.out.size
          clear TH2 B2
          obtain ⟨⟨a0, a1⟩, ⟨b0, b1⟩, ⟨c0, c1⟩⟩ := TH.out
          go_wp2
          all_goals first
            | (go_ret; exact ⟨rfl, BB.out⟩)
            | (go_ret; refine ⟨?_, BB.out⟩; simp; done)
            | (go_ret; refine ⟨?_, BB.out⟩; simp; omega)
            | (exfalso; exact h3.out ⟨by assumption, by assumption⟩)
        | true =>
          have h4 : ¬ i < j := by have q := H4.out; simp at q; omega
          clear H4
          obtain ⟨⟨a0, a1⟩, ⟨b0, b1⟩, ⟨c0, c1⟩⟩ := TH.out
          go_wp2_with fail
          refine (IA.out _).mono ?_
          rintro e wd ⟨rfl, hb⟩
          have TH2 := hide (TH.out.below hb)
          have B2 := hide (BB.out.trans (hb.mono sz))
          clear TH BB a0 a1 b0 b1 c0 c1 hb sz
          have TH := hide TH2.out
          have BB := hide B2.out
          have sz := BB.out.size
          clear TH2 B2
          obtain ⟨⟨a0, a1⟩, ⟨b0, b1⟩, ⟨c0, c1⟩⟩ := TH.out
          go_wp2_with fail
          refine (IB.out _).mono ?_
          rintro e we ⟨rfl, hb⟩
          have TH2 := hide (TH.out.below hb)
          have B2 := hide (BB.out.trans (hb.mono sz))
          clear TH BB a0 a1 b0 b1 c0 c1 hb sz
          have TH := hide TH2.out
          have BB := hide B2.out
          have sz := BB.out.size
          clear TH2 B2
          obtain ⟨⟨a0, a1⟩, ⟨b0, b1⟩, ⟨c0, c1⟩⟩ := TH.out
          go_wp2_with fail
          refine (KW.out _).mono ?_
          rintro e wf ⟨rfl, hb⟩
          have TH2 := hide (TH.out.below hb)
          have B2 := hide (BB.out.trans (hb.mono sz))
          clear TH BB a0 a1 b0 b1 c0 c1 hb sz
          have TH := hide TH2.out
          have BB := hide B2.out
          have sz := BB.out.size
          clear TH2 B2
          obtain ⟨⟨a0, a1⟩, ⟨b0, b1⟩, ⟨c0, c1⟩⟩ := TH.out
          go_wp2
          all_goals first
            | (go_ret; exact ⟨rfl, BB.out⟩)
            | (go_ret; refine ⟨?_, BB.out⟩; simp; done)
            | (go_ret; refine ⟨?_, BB.out⟩; simp; omega)
            | (exfalso; exact h3.out ⟨by assumption, by assumption⟩)
  · have h3 := hide (H3.out (by omega))
    clear H3 H3B H1
    by_cases hy : 0 ≤ y
    · have hz := H2.out (by omega) hy
      clear H2
      obtain ⟨⟨a0, a1⟩, ⟨b0, b1⟩, ⟨c0, c1⟩⟩ := TH.out
      go_wp2_with fail
      refine (KA.out _).mono ?_
      rintro e wa ⟨rfl, hb⟩
      have TH2 := hide (TH.out.below hb)
      have B2 := hide (BB.out.trans (hb.mono sz))
      clear TH BB a0 a1 b0 b1 c0 c1 hb sz
      have TH := hide TH2.out
      have BB := hide B2.out
      have sz := BB.out.size
      clear TH2 B2
      cases ra with
      | false =>
        clear H4
        obtain ⟨⟨a0, a1⟩, ⟨b0, b1⟩, ⟨c0, c1⟩⟩ := TH.out
        go_wp2_with fail
        refine (IA.out _).mono ?_
        rintro e wd ⟨rfl, hb⟩
        have TH2 := hide (TH.out.below hb)
        have B2 := hide (BB.out.trans (hb.mono sz))
        clear TH BB a0 a1 b0 b1 c0 c1 hb sz
        have TH := hide TH2.out
        have BB := hide B2.out
        have sz := BB.out.size
        clear TH2 B2
        obtain ⟨⟨a0, a1⟩, ⟨b0, b1⟩, ⟨c0, c1⟩⟩ := TH.out
        go_wp2_with fail
        refine (IB.out _).mono ?_
        rintro e we ⟨rfl, hb⟩
        have TH2 := hide (TH.out.below hb)
        have B2 := hide (BB.out.trans (hb.mono sz))
        clear TH BB a0 a1 b0 b1 c0 c1 hb sz
        have TH := hide TH2.out
        have BB := hide B2.out
        have sz := BB.out.size
        clear TH2 B2
        obtain ⟨⟨a0, a1⟩, ⟨b0, b1⟩, ⟨c0, c1⟩⟩ := TH.out
        go_wp2_with fail
        refine (KW.out _).mono ?_
        rintro e wf ⟨rfl, hb⟩
        have TH2 := hide (TH.out.below hb)
        have B2 := hide (BB.out.trans (hb.mono sz))
        clear TH BB a0 a1 b0 b1 c0 c1 hb sz
        have TH := hide TH2.out
        have BB := hide B2.out
        have sz := BB.out.size
        clear TH2 B2
        obtain ⟨⟨a0, a1⟩, ⟨b0, b1⟩, ⟨c0, c1⟩⟩ := TH.out
        go_wp2
        all_goals first
          | (go_ret; exact ⟨rfl, BB.out⟩)
          | (go_ret; refine ⟨?_, BB.out⟩; simp; done)
          | (go_ret; refine ⟨?_, BB.out⟩; simp; omega)
          | (exfalso; exact h3.out ⟨by assumption, by assumption⟩)
      | true =>
        obtain ⟨⟨a0, a1⟩, ⟨b0, b1⟩, ⟨c0, c1⟩⟩ := TH.out
        go_wp2_with fail
        refine (KB.out _).mono ?_
        rintro e wb ⟨rfl, hb⟩
        have TH2 := hide (TH.out.below hb)
        have B2 := hide (BB.out.trans (hb.mono sz))
        clear TH BB a0 a1 b0 b1 c0 c1 hb sz
        have TH := hide TH2.out
        have BB := hide B2.out
        have sz := BB.out.size
        clear TH2 B2
        cases rb with
        | false =>
          clear H4
          obtain ⟨⟨a0, a1⟩, ⟨b0, b1⟩, ⟨c0, c1⟩⟩ := TH.out
          go_wp2_with fail
          refine (IA.out _).mono ?_
          rintro e wd ⟨rfl, hb⟩
          have TH2 := hide (TH.out.below hb)
          have B2 := hide (BB.out.trans (hb.mono sz))
          clear TH BB a0 a1 b0 b1 c0 c1 hb sz
          have TH := hide TH2.out
          have BB := hide B2.out
          have sz := BB.out.size
          clear TH2 B2
          obtain ⟨⟨a0, a1⟩, ⟨b0, b1⟩, ⟨c0, c1⟩⟩ := TH.out
          go_wp2_with fail
          refine (IB.out _).mono ?_
          rintro e we ⟨rfl, hb⟩
          have TH2 := hide (TH.out.below hb)
          have B2 := hide (BB.out.trans (hb.mono sz))
          clear TH BB a0 a1 b0 b1 c0 c1 hb sz
          have TH := hide TH2.out
          have BB := hide B2.out
          have sz := BB.out.size
          clear TH2 B2
          obtain ⟨⟨a0, a1⟩, ⟨b0, b1⟩, ⟨c0, c1⟩⟩ := TH.out
          go_wp2_with fail
          refine (KW.out _).mono ?_
          rintro e wf ⟨rfl, hb⟩
          have TH2 := hide (TH.out.below hb)
          have B2 := hide (BB.out.trans (hb.mono sz))
          clear TH BB a0 a1 b0 b1 c0 c1 hb sz
          have TH := hide TH2.out
          have BB := hide B2.out
          have sz := BB.out.size
          clear TH2 B2
          obtain ⟨⟨a0, a1⟩, ⟨b0, b1⟩, ⟨c0, c1⟩⟩ := TH.out
          go_wp2
          all_goals first
            | (go_ret; exact ⟨rfl, BB.out⟩)
            | (go_ret; refine ⟨?_, BB.out⟩; simp; done)
            | (go_ret; refine ⟨?_, BB.out⟩; simp; omega)
            | (exfalso; exact h3.out ⟨by assumption, by assumption⟩)
        | true =>
          have h4 : ¬ i < j := by have q := H4.out; simp at q; omega
          clear H4
          obtain ⟨⟨a0, a1⟩, ⟨b0, b1⟩, ⟨c0, c1⟩⟩ := TH.out
          go_wp2_with fail
          refine (IA.out _).mono ?_
          rintro e wd ⟨rfl, hb⟩
          have TH2 := hide (TH.out.below hb)
          have B2 := hide (BB.out.trans (hb.mono sz))
          clear TH BB a0 a1 b0 b1 c0 c1 hb sz
          have TH := hide TH2.out
          have BB := hide B2.out
          have sz := BB.out.size
          clear TH2 B2
          obtain ⟨⟨a0, a1⟩, ⟨b0, b1⟩, ⟨c0, c1⟩⟩ := TH.out
          go_wp2_with fail
          refine (IB.out _).mono ?_
          rintro e we ⟨rfl, hb⟩
          have TH2 := hide (TH.out.below hb)
          have B2 := hide (BB.out.trans (hb.mono sz))
          clear TH BB a0 a1 b0 b1 c0 c1 hb sz
          have TH := hide TH2.out
          have BB := hide B2.out
          have sz := BB.out.size
          clear TH2 B2
          obtain ⟨⟨a0, a1⟩, ⟨b0, b1⟩, ⟨c0, c1⟩⟩ := TH.out
          go_wp2_with fail
          refine (KW.out _).mono ?_
          rintro e wf ⟨rfl, hb⟩
          have TH2 := hide (TH.out.below hb)
          have B2 := hide (BB.out.trans (hb.mono sz))
          clear TH BB a0 a1 b0 b1 c0 c1 hb sz
          have TH := hide TH2.out
          have BB := hide B2.out
          have sz := BB.out.size
          clear TH2 B2
          obtain ⟨⟨a0, a1⟩, ⟨b0, b1⟩, ⟨c0, c1⟩⟩ := TH.out
          go_wp2
          all_goals first
            | (go_ret; exact ⟨rfl, BB.out⟩)
            | (go_ret; refine ⟨?_, BB.out⟩; simp; done)
            | (go_ret; refine ⟨?_, BB.out⟩; simp; omega)
            | (exfalso; exact h3.out ⟨by assumption, by assumption⟩)
    · clear H2
      obtain ⟨⟨a0, a1⟩, ⟨b0, b1⟩, ⟨c0, c1⟩⟩ := TH.out
      go_wp2_with fail
      refine (KA.out _).mono ?_
      rintro e wa ⟨rfl, hb⟩
      have TH2 := hide (TH.out.below hb)
      have B2 := hide (BB.out.trans (hb.mono sz))
      clear TH BB a0 a1 b0 b1 c0 c1 hb sz
      have TH := hide TH2.out
      have BB := hide B2.out
      have sz := BB.out.size
      clear TH2 B2
      cases ra with
      | false =>
        clear H4
        obtain ⟨⟨a0, a1⟩, ⟨b0, b1⟩, ⟨c0, c1⟩⟩ := TH.out
        go_wp2_with fail
        refine (IA.out _).mono ?_
        rintro e wd ⟨rfl, hb⟩
        have TH2 := hide (TH.out.below hb)
        have B2 := hide (BB.out.trans (hb.mono sz))
        clear TH BB a0 a1 b0 b1 c0 c1 hb sz
        have TH := hide TH2.out
        have BB := hide B2.out
        have sz := BB.out.size
        clear TH2 B2
        obtain ⟨⟨a0, a1⟩, ⟨b0, b1⟩, ⟨c0, c1⟩⟩ := TH.out
        go_wp2_with fail
        refine (IB.out _).mono ?_
        rintro e we ⟨rfl, hb⟩
        have TH2 := hide (TH.out.below hb)
        have B2 := hide (BB.out.trans (hb.mono sz))
        clear TH BB a0 a1 b0 b1 c0 c1 hb sz
        have TH := hide TH2.out
        have BB := hide B2.out
        have sz := BB.out.size
        clear TH2 B2
        obtain ⟨⟨a0, a1⟩, ⟨b0, b1⟩, ⟨c0, c1⟩⟩ := TH.out
        go_wp2_with fail
        refine (KW.out _).mono ?_
        rintro e wf ⟨rfl, hb⟩
        have TH2 := hide (TH.out.below hb)
        have B2 := hide (BB.out.trans (hb.mono sz))
        clear TH BB a0 a1 b0 b1 c0 c1 hb sz
        have TH := hide TH2.out
        have BB := hide B2.out
        have sz := BB.out.size
        clear TH2 B2
        obtain ⟨⟨a0, a1⟩, ⟨b0, b1⟩, ⟨c0, c1⟩⟩ := TH.out
        go_wp2
        all_goals first
          | (go_ret; exact ⟨rfl, BB.out⟩)
          | (go_ret; refine ⟨?_, BB.out⟩; simp; done)
          | (go_ret; refine ⟨?_, BB.out⟩; simp; omega)
          | (exfalso; exact h3.out ⟨by assumption, by assumption⟩)
      | true =>
        obtain ⟨⟨a0, a1⟩, ⟨b0, b1⟩, ⟨c0, c1⟩⟩ := TH.out
        go_wp2_with fail
        refine (KB.out _).mono ?_
        rintro e wb ⟨rfl, hb⟩
        have TH2 := hide (TH.out.below hb)
        have B2 := hide (BB.out.trans (hb.mono sz))
        clear TH BB a0 a1 b0 b1 c0 c1 hb sz
        have TH := hide TH2.out
        have BB := hide B2.out
        have sz := BB.out.size
        clear TH2 B2
        cases rb with
        | false =>
          clear H4
          obtain ⟨⟨a0, a1⟩, ⟨b0, b1⟩, ⟨c0, c1⟩⟩ := TH.out
          go_wp2_with fail
          refine (IA.out _).mono ?_
          rintro e wd ⟨rfl, hb⟩
          have TH2 := hide (TH.out.below hb)
          have B2 := hide (BB.out.trans (hb.mono sz))
          clear TH BB a0 a1 b0 b1 c0 c1 hb sz
          have TH := hide TH2.out
          have BB := hide B2.out
          have sz := BB.out.size
          clear TH2 B2
          obtain ⟨⟨a0, a1⟩, ⟨b0, b1⟩, ⟨c0, c1⟩⟩ := TH.out
          go_wp2_with fail
          refine (IB.out _).mono ?_
          rintro e we ⟨rfl, hb⟩
          have TH2 := hide (TH.out.below hb)
          have B2 := hide (BB.out.trans (hb.mono sz))
          clear TH BB a0 a1 b0 b1 c0 c1 hb sz
          have TH := hide TH2.out
          have BB := hide B2.out
          have sz := BB.out.size
          clear TH2 B2
          obtain ⟨⟨a0, a1⟩, ⟨b0, b1⟩, ⟨c0, c1⟩⟩ := TH.out
          go_wp2_with fail
          refine (KW.out _).mono ?_
          rintro e wf ⟨rfl, hb⟩
          have TH2 := hide (TH.out.below hb)
          have B2 := hide (BB.out.trans (hb.mono sz))
          clear TH BB a0 a1 b0 b1 c0 c1 hb sz
          have TH := hide TH2.out
          have BB := hide B2.out
          have sz := BB.out.size
          clear TH2 B2
          obtain ⟨⟨a0, a1⟩, ⟨b0, b1⟩, ⟨c0, c1⟩⟩ := TH.out
          go_wp2
          all_goals first
            | (go_ret; exact ⟨rfl, BB.out⟩)
            | (go_ret; refine ⟨?_, BB.out⟩; simp; done)
            | (go_ret; refine ⟨?_, BB.out⟩; simp; omega)
            | (exfalso; exact h3.out ⟨by assumption, by assumption⟩)
        | true =>
          have h4 : ¬ i < j := by have q := H4.out; simp at q; omega
          clear H4
          obtain ⟨⟨a0, a1⟩, ⟨b0, b1⟩, ⟨c0, c1⟩⟩ := TH.out
          go_wp2_with fail
          refine (IA.out _).mono ?_
          rintro e wd ⟨rfl, hb⟩
          have TH2 := hide (TH.out.below hb)
          have B2 := hide (BB.out.trans (hb.mono sz))
          clear TH BB a0 a1 b0 b1 c0 c1 hb sz
          have TH := hide TH2.out
          have BB := hide B2.out
          have sz := BB.out.size
          clear TH2 B2
          obtain ⟨⟨a0, a1⟩, ⟨b0, b1⟩, ⟨c0, c1⟩⟩ := TH.out
          go_wp2_with fail
          refine (IB.out _).mono ?_
          rintro e we ⟨rfl, hb⟩
          have TH2 := hide (TH.out.below hb)
          have B2 := hide (BB.out.trans (hb.mono sz))
          clear TH BB a0 a1 b0 b1 c0 c1 hb sz
          have TH := hide TH2.out
          have BB := hide B2.out
          have sz := BB.out.size
          clear TH2 B2
          obtain ⟨⟨a0, a1⟩, ⟨b0, b1⟩, ⟨c0, c1⟩⟩ := TH.out
          go_wp2_with fail
          refine (KW.out _).mono ?_
          rintro e wf ⟨rfl, hb⟩
          have TH2 := hide (TH.out.below hb)
          have B2 := hide (BB.out.trans (hb.mono sz))
          clear TH BB a0 a1 b0 b1 c0 c1 hb sz
          have TH := hide TH2.out
          have BB := hide B2.out
          have sz := BB.out.size
          clear TH2 B2
          obtain ⟨⟨a0, a1⟩, ⟨b0, b1⟩, ⟨c0, c1⟩⟩ := TH.out
          go_wp2
          all_goals first
            | (go_ret; exact ⟨rfl, BB.out⟩)
            | (go_ret; refine ⟨?_, BB.out⟩; simp; done)
            | (go_ret; refine ⟨?_, BB.out⟩; simp; omega)
            | (exfalso; exact h3.out ⟨by assumption, by assumption⟩)

theorem stampOrder_walk (n r m s k l : Int) (w : World) (h1 : (Lit.int .i64 n).wf = true) (h2 : (Lit.int .i64 r).wf = true) (h3 : (Lit.int .i64 m).wf = true) (h4 : (Lit.int .i64 s).wf = true) (h5 : (Lit.int .i64 k).wf = true) (h6 : (Lit.int .i64 l).wf = true) :
    Calls Try.prog 6 #[.agg #[.int .i64 n, .int .i64 r], .agg #[.int .i64 m, .int .i64 s], .agg #[.int .i64 k, .int .i64 l]] w (TrueRet w) := by
  have hw : stC m s n r = - stC n r m s := by
    rcases ahead_tri n r m s with h | ⟨rfl, rfl⟩ | h
    · rw [h.less, h.more]; rfl
    · rw [stC_eq]; rfl
    · rw [h.less, h.more]
  refine order_core n r m s k l (stC n r m s) (stC m s k l) (stC n r k l) (stI n r) (stI m s) (stR n r) (stR m s) w (scmp_any n r m s) (scmp_any m s k l) (scmp_any n r k l) (hw ▸ scmp_any m s n r) (sright_any n r) (sright_any m s) (sid_any n r) (sid_any m s) ?_ ?_ ?_ ?_ ?_ ?_
  · rcases ahead_tri n r m s with h | ⟨rfl, rfl⟩ | h
    · exact .inl h.less
    · exact .inr (.inl (stC_eq _ _))
    · exact .inr (.inr h.more)
  · intro x y
    rcases stC_le x with h | ⟨rfl, rfl⟩
    · exact order_le h y
    · exact y
  · intro x y
    rcases stC_ge x with h | ⟨rfl, rfl⟩
    · exact order_ge h y
    · exact y
  · rintro x ⟨rfl, rfl⟩
    exact x (stC_eq _ _)
  · intro x
    rcases ahead_tri n r m s with h | h | h
    · rw [h.less] at x; cases x
    · exact h
    · rw [h.more] at x; cases x
  · intro a b
    rcases ahead_tri n r m s with h | ⟨rfl, rfl⟩ | h
    · rw [h.less]
      exact ⟨fun _ => by omega, fun _ => id_ahead h a b⟩
    · rw [stC_eq]
      exact ⟨fun h => by omega, fun h => by omega⟩
    · rw [h.more]
      have := id_ahead h b a
      exact ⟨fun h => by omega, fun h => by omega⟩
end Go.Proofs.Ytmmnnmljilhahaa

