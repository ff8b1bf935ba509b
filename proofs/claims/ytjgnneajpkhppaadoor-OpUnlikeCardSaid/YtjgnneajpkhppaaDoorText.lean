/-
  What Text and New of a pack.Reader do, by the plain functions of reading. Conditions: the reader stands in a block of its own, over bytes of the program's own; what New is handed can be read, and is no longer than 2 to the 40th.
-/
import Derived.Test.YtjgnneajpkhppaaDoorReader
import Derived.Laws.BytesArg
namespace Go.Proofs.YtjgnneajpkhppaaDoor
open Go.RowKit
set_option linter.unusedVariables false

set_option maxHeartbeats 1000000 in
theorem text_wrong (g e n e1 : Nat) (l l1 : List UInt8) (most : Int) (w : World) (h : Rd w g l e) (hn : rNum most l e = (n, l1, e1)) (he : e1 ≠ 0) :
    Calls Tryd.prog 41 #[.pointer (some ⟨g, 0, none⟩), .int .i64 most] w (RdRet w g (.string (bs [])) l1 e1) := by
  have hc0 := number_any g e l most w h
  rw [hn] at hc0
  have HC0 := hide hc0
  have hne : ((e1 : Int) != 0) = true := by simp; omega
  clear hc0 h hn he
  go_enter Tryd.func41, Tryd.ntmps41
  go_wp2_with fail
  refine HC0.out.mono ?_
  rintro ed w1 ⟨rfl, ⟨sv, hc, hs⟩, ho⟩
  have c1 := hc.c1
  have H1 := hide hc
  have H2 := hide hs
  have H3 := hide ho
  clear hc hs ho
  go_wp2
  go_ret
  exact ⟨rfl, ⟨sv, H1.out, H2.out⟩, H3.out⟩

set_option maxHeartbeats 1000000 in
theorem text_short (g e n : Nat) (l l1 : List UInt8) (most : Int) (w : World) (h : Rd w g l e) (hn : rNum most l e = (n, l1, 0)) (hl : l1.length < n) :
    Calls Tryd.prog 41 #[.pointer (some ⟨g, 0, none⟩), .int .i64 most] w (RdRet w g (.string (bs [])) [] 2) := by
  have hc0 := number_any g e l most w h
  rw [hn] at hc0
  have HC0 := hide hc0
  clear hc0 h hn
  go_enter Tryd.func41, Tryd.ntmps41
  go_wp2_with fail
  refine HC0.out.mono ?_
  rintro ed w1 ⟨rfl, ⟨sv, hc, hs⟩, ho⟩
  have c1 := hc.c1
  have c0 := hc.c0
  have H1 := hide hc
  have H3 := hide ho
  clear hc ho
  rcases hs with ⟨rfl, rfl⟩ | ⟨g', o, c, cur, rfl, h2, h3, h4, h5⟩
  · simp only [List.length_nil] at hl
    go_wp2_with fail
    refine (fail_any g 2 0 _ w1 H1.out).mono ?_
    rintro ed w2 ⟨rfl, rfl⟩
    go_wp2
    go_ret
    exact ⟨rfl, ⟨_, (H1.out.set0 _).set1 _, .inl ⟨rfl, rfl⟩⟩, (H3.out.set _ _).set _ _⟩
  · clear h4 h5
    go_wp2_with fail
    refine (fail_any g 2 0 _ w1 H1.out).mono ?_
    rintro ed w2 ⟨rfl, rfl⟩
    go_wp2
    go_ret
    exact ⟨rfl, ⟨_, (H1.out.set0 _).set1 _, .inl ⟨rfl, rfl⟩⟩, (H3.out.set _ _).set _ _⟩

set_option maxHeartbeats 1000000 in
theorem text_ok (g e n : Nat) (l l1 : List UInt8) (most : Int) (w : World) (h : Rd w g l e) (hn : rNum most l e = (n, l1, 0)) (hl : n ≤ l1.length) :
    Calls Tryd.prog 41 #[.pointer (some ⟨g, 0, none⟩), .int .i64 most] w (RdRet w g (.string (bs (l1.take n))) (l1.drop n) 0) := by
  have hc0 := number_any g e l most w h
  rw [hn] at hc0
  have HC0 := hide hc0
  clear hc0 h hn
  go_enter Tryd.func41, Tryd.ntmps41
  go_wp2_with fail
  refine HC0.out.mono ?_
  rintro ed w1 ⟨rfl, ⟨sv, hc, hs⟩, ho⟩
  have c1 := hc.c1
  have c0 := hc.c0
  have z0 := hc.z 0
  have H1 := hide hc
  have H3 := hide ho
  clear hc ho
  rcases hs with ⟨rfl, rfl⟩ | ⟨g', o, c, cur, rfl, h2, h3, h4, h5⟩
  · obtain rfl : n = 0 := by simpa using hl
    have hcv := conv_any w1 _ [] (.inl ⟨rfl, rfl⟩)
    go_wp2
    go_ret
    exact ⟨rfl, ⟨_, H1.out.set0 _, .inl ⟨rfl, rfl⟩⟩, H3.out.set _ _⟩
  · have hcv := conv_any w1 _ _ (RSl_head h2 h3 h4 h5 n hl)
    have hcut := fun W => run_cut g' o l1.length c n hl h2 W
    have hhd := fun W => run_head g' o l1.length c n (by omega) W
    have HR := hide (RSl_cut h2 h3 h4 h5 n hl)
    clear h4 h5
    go_wp2
    go_ret
    exact ⟨rfl, ⟨_, H1.out.set0 _, HR.out.setR H1.out _ _⟩, H3.out.set _ _⟩

/-- TEXT: the answer and the new state are 'rTxt'. -/
theorem text_any (g e : Nat) (l : List UInt8) (most : Int) (w : World) (h : Rd w g l e) :
    Calls Tryd.prog 41 #[.pointer (some ⟨g, 0, none⟩), .int .i64 most] w (RdRet w g (.string (bs (rTxt most l e).1)) (rTxt most l e).2.1 (rTxt most l e).2.2) := by
  by_cases he : (rNum most l e).2.2 = 0
  · have hz : rNum most l e = ((rNum most l e).1, (rNum most l e).2.1, 0) := by rw [← he]
    by_cases hs : (rNum most l e).2.1.length < (rNum most l e).1
    · have e1 : rTxt most l e = ([], [], 2) := by unfold rTxt; rw [if_neg (by simpa using he), if_pos hs]
      rw [e1]
      exact text_short g e _ l _ most w h hz hs
    · have e1 : rTxt most l e = ((rNum most l e).2.1.take (rNum most l e).1, (rNum most l e).2.1.drop (rNum most l e).1, 0) := by
        unfold rTxt; rw [if_neg (by simpa using he), if_neg hs]
      rw [e1]
      exact text_ok g e _ l _ most w h hz (by omega)
  · have e1 : rTxt most l e = ([], (rNum most l e).2.1, (rNum most l e).2.2) := by unfold rTxt; rw [if_pos he]
    rw [e1]
    exact text_wrong g e (rNum most l e).1 (rNum most l e).2.2 l (rNum most l e).2.1 most w h rfl he

set_option maxHeartbeats 1000000 in
theorem clone_some (ad : Addr) (c : Nat) (l : List UInt8) (w : World) (hl : l.length ≤ 1099511627776) (hc : ∀ j u, (bc l)[j]? = some u → w.cell? (ad.add j) = some u) :
    Calls Tryd.prog 39 #[.slice (some ad) l.length c] w (OwnRet w l) := by
  obtain ⟨i0, hi0, hz0, hz1, hz2⟩ := info_parts u8info
  have q0 : ∀ (w : World) (a : Option Addr) (n c n' c' : Nat), (binOp .eql 33 (.slice a n c) (.slice none n' c')).run Tryd.prog w = .ok (.bool a.isNone) w := fun w a n c n' c' => Lib.run_eql_slice_nil w _ _ a n c n' c' Tryd.underlying33
  have HC := hide hc
  clear hc
  go_enter Tryd.func39, Tryd.ntmps39
  go_wp2_with (at_builtin; refine wpList_append_own _ rfl _ _ 33 rfl w.heap.size 5 i0 (.int .u8 0) 1 1 Tryd.underlying33 hi0 hz0 hz1 hz2 rfl (by decide) _ _ _ rfl (World.ownsRow_made w #[] 0 (Nat.le_refl _) (Nat.zero_le _) rfl) ad l.length c (bc l) rfl ?a1 ?a2 ?a3 ?a4 ?a5 ?a6 ?_)
  case a1 => simp [bc_length]
  case a2 =>
    intro j u hj
    have := HC.out j u hj
    exact (World.cell?_alloc_lt w _ _ (World.block_lt_of_cell? w _ this)).trans this
  case a3 => exact bc_one _
  case a4 => simp only [maxLen]; omega
  case a5 => omega
  case a6 => simp
  intro v1 w1 hown1 hg1 hn1
  go_wp2
  go_ret
  refine ⟨v1, rfl, by simpa using hown1, ?_⟩
  exact ((Below.refl _ w).alloc (Nat.le_refl _) _).grown hg1 (by simp) (by intro k hk; simp [Value.ownBlock] at hk; omega)

set_option maxHeartbeats 1000000 in
theorem clone_none (n c : Nat) (w : World) : Calls Tryd.prog 39 #[.slice none n c] w (OwnRet w []) := by
  have q0 : ∀ (w : World) (a : Option Addr) (n c n' c' : Nat), (binOp .eql 33 (.slice a n c) (.slice none n' c')).run Tryd.prog w = .ok (.bool a.isNone) w := fun w a n c n' c' => Lib.run_eql_slice_nil w _ _ a n c n' c' Tryd.underlying33
  go_enter Tryd.func39, Tryd.ntmps39
  go_wp2
  go_ret
  exact ⟨_, rfl, World.ownsRow_nil _ _ _ _, Below.refl _ _⟩

theorem clone_any (v : Value) (l : List UInt8) (w : World) (hl : l.length ≤ 1099511627776) (h : Hnd w v l) : Calls Tryd.prog 39 #[v] w (OwnRet w l) := by
  obtain ⟨A, c, rfl, h0, hc⟩ := h
  rcases A with _ | ad
  · obtain rfl := h0 rfl
    exact clone_none _ _ w
  · exact clone_some ad c l w hl (hc ad rfl)

/-- What New leaves: a new reader of l. -/
def NewRet (w : World) (l : List UInt8) (e : Ending) (w' : World) : Prop :=
  ∃ g, e = .returned (.pointer (some ⟨g, 0, none⟩)) ∧ w.heap.size ≤ g ∧ Rd w' g l 0 ∧ Below w.heap.size w w'

set_option maxHeartbeats 1000000 in
theorem new_any (v : Value) (l : List UInt8) (w : World) (hl : l.length ≤ 1099511627776) (h : Hnd w v l) : Calls Tryd.prog 19 #[v] w (NewRet w l) := by
  have HC0 := hide (clone_any v l w hl h)
  clear h
  go_enter Tryd.func19, Tryd.ntmps19
  go_wp2_with fail
  refine HC0.out.mono ?_
  rintro ed w1 ⟨v1, rfl, hown, hb⟩
  have hsz := hb.size
  have HS := hide (RSl.of_own hown)
  have HB := hide hb
  clear hb
  rcases hown.2 with ⟨rfl, h0⟩ | ⟨g, cap, cur, rfl, _, _, _, _, _, _⟩
  · clear hown h0
    go_wp2
    go_ret
    exact ⟨w1.heap.size, rfl, hsz, ⟨_, heap_alloc_new w1 _, HS.out.alloc _⟩, HB.out.alloc hsz _⟩
  · clear hown
    go_wp2
    go_ret
    exact ⟨w1.heap.size, rfl, hsz, ⟨_, heap_alloc_new w1 _, HS.out.alloc _⟩, HB.out.alloc hsz _⟩

theorem Rd.lt {w : World} {g e : Nat} {l : List UInt8} (h : Rd w g l e) : g < w.heap.size := by
  obtain ⟨sv, hc, _⟩ := h
  exact (Array.getElem?_eq_some_iff.1 hc).1
theorem Rd.below {w w' : World} {g e : Nat} {l : List UInt8} (h : Rd w g l e) (hb : Below w.heap.size w w') : Rd w' g l e := by
  have hlt := h.lt
  obtain ⟨sv, hc, hs⟩ := h
  exact ⟨sv, (hb.block g hlt).trans hc, hs.below hb⟩
/-- Another reader's call leaves this one as it is. -/
theorem Rd.other {w w' : World} {g g' e e' : Nat} {l l' : List UInt8} (h : Rd w g l e) (h' : Rd w g' l' e') (hne : g ≠ g') (ho : Only g' w w') : Rd w' g l e := by
  have hlt := h.lt
  obtain ⟨sv, hc, hs⟩ := h
  obtain ⟨sv', hc', _⟩ := h'
  refine ⟨sv, (ho.grown.block g hlt (by simpa using hne)).trans hc, hs.keep fun k cur hk => ho.grown.block k (Array.getElem?_eq_some_iff.1 hk).1 ?_⟩
  intro he
  injection he with he
  subst he
  unfold RdC at hc'
  rw [hk] at hc'
  injection hc' with hc'
  injection hc' with _ ht
  exact absurd ht (by decide)
theorem RSl.other {w w' : World} {g' e' : Nat} {v : Value} {l l' : List UInt8} (hs : RSl w v l) (h' : Rd w g' l' e') (ho : Only g' w w') : RSl w' v l := by
  obtain ⟨sv', hc', _⟩ := h'
  refine hs.keep fun k cur hk => ho.grown.block k (Array.getElem?_eq_some_iff.1 hk).1 ?_
  intro he
  injection he with he
  subst he
  unfold RdC at hc'
  rw [hk] at hc'
  injection hc' with hc'
  injection hc' with _ ht
  exact absurd ht (by decide)
/-- A reader of the call's own: what was there before the call is as it was. -/
theorem Only.below {B g : Nat} {a w w' : World} (hb : Below B a w) (ho : Only g w w') (hB : B ≤ w.heap.size) (hg : B ≤ g) : Below B a w' :=
  hb.grown ho.grown hB (fun k hk => by injection hk with hk; omega)
end Go.Proofs.YtjgnneajpkhppaaDoor
