/-
  What Number, Text and New of a pack.Reader do to the reader's block, by the plain functions of reading. Conditions: the reader stands in a block of its own, over bytes of the program's own.
-/
import Derived.Test.YtjgnneajpkhppaaDoorRead
namespace Go.Proofs.YtjgnneajpkhppaaDoor
open Go.RowKit
set_option linter.unusedVariables false

/-- What a reader's call leaves: an answer, the new state, all else as it was. -/
def RdRet (w : World) (g : Nat) (v : Value) (l : List UInt8) (x : Nat) (e : Ending) (w' : World) : Prop :=
  e = .returned v ∧ Rd w' g l x ∧ Only g w w'

set_option maxHeartbeats 400000 in
theorem number_wrong (g e : Nat) (l : List UInt8) (most : Int) (w : World) (h : Rd w g l e) (he : e ≠ 0) :
    Calls Tryd.prog 40 #[.pointer (some ⟨g, 0, none⟩), .int .i64 most] w (RdRet w g (.int .i64 0) l e) := by
  obtain ⟨sv, hc, hs⟩ := h
  have c1 := hc.c1
  have hne : ((e : Int) != 0) = true := by simp; omega
  have HC := hide hc
  have HS := hide hs
  clear hc hs he
  go_enter Tryd.func40, Tryd.ntmps40
  go_wp2
  go_ret
  exact ⟨rfl, ⟨sv, HC.out, HS.out⟩, Only.refl _ _⟩

set_option maxHeartbeats 1000000 in
theorem number_short (g x : Nat) (l : List UInt8) (most : Int) (w : World) (h : Rd w g l 0) (hx : (scan l).2.2 = x) (h0 : 0 < x) :
    Calls Tryd.prog 40 #[.pointer (some ⟨g, 0, none⟩), .int .i64 most] w (RdRet w g (.int .i64 0) [] x) := by
  obtain ⟨sv, hc, hs⟩ := h
  have c1 := hc.c1
  have c0 := hc.c0
  have HC := hide hc
  have HS := hide hs
  have HX := hide hx
  have b1 : ((x : Int) == 0) = false := by simp; omega
  have b2 : ((x : Int) != 0) = true := by simp; omega
  clear hc hs hx
  go_enter Tryd.func40, Tryd.ntmps40
  go_wp2_with fail
  refine (scan_any _ _ _ HS.out).mono ?_
  rintro ed w' ⟨rfl, rfl⟩
  rw [HX.out]
  go_wp2_with fail
  refine (fail_any _ _ _ _ _ HC.out).mono ?_
  rintro ed w' ⟨rfl, rfl⟩
  go_wp2
  go_ret
  exact ⟨rfl, ⟨_, (HC.out.set0 _).set1 _, .inl ⟨rfl, rfl⟩⟩, ((Only.refl _ _).set _ _).set _ _⟩

set_option maxHeartbeats 1000000 in
theorem number_above (g n q : Nat) (l : List UInt8) (most : Int) (w : World) (h : Rd w g l 0) (hx : scan l = (n, q, 0)) (h0 : min most 4294967295 < (n : Int)) :
    Calls Tryd.prog 40 #[.pointer (some ⟨g, 0, none⟩), .int .i64 most] w (RdRet w g (.int .i64 0) [] 3) := by
  obtain ⟨sv, hc, hs⟩ := h
  have c1 := hc.c1
  have c0 := hc.c0
  have HC := hide hc
  have HS := hide hs
  have HX := hide hx
  clear hc hs hx
  go_enter Tryd.func40, Tryd.ntmps40
  go_wp2_with fail
  refine (scan_any _ _ _ HS.out).mono ?_
  rintro ed w' ⟨rfl, rfl⟩
  rw [HX.out]
  go_wp2_with fail
  all_goals
    refine (fail_any g 3 0 sv w HC.out).mono ?_
    rintro ed w' ⟨rfl, rfl⟩
    go_wp2
    go_ret
    exact ⟨rfl, ⟨_, (HC.out.set0 _).set1 _, .inl ⟨rfl, rfl⟩⟩, ((Only.refl _ _).set _ _).set _ _⟩

set_option maxHeartbeats 1000000 in
theorem number_ok (g n q : Nat) (l : List UInt8) (most : Int) (w : World) (h : Rd w g l 0) (hx : scan l = (n, q, 0)) (h0 : (n : Int) ≤ most) (h1 : n ≤ 4294967295) (hq0 : 0 < q) (hq : q ≤ l.length) :
    Calls Tryd.prog 40 #[.pointer (some ⟨g, 0, none⟩), .int .i64 most] w (RdRet w g (.int .i64 n) (l.drop q) 0) := by
  obtain ⟨sv, hc, hs⟩ := h
  have HS := hide hs
  rcases hs with ⟨rfl, rfl⟩ | ⟨g', o, c, cur, rfl, h2, h3, h4, h5⟩
  · simp at hq
    omega
  · have c1 := hc.c1
    have c0 := hc.c0
    have z0 := hc.z 0
    have hcut := fun W => run_cut g' o l.length c q hq h2 W
    have HC := hide hc
    have HX := hide hx
    have HR := hide (RSl_cut h2 h3 h4 h5 q hq)
    clear hc hx h4 h5
    go_enter Tryd.func40, Tryd.ntmps40
    go_wp2_with fail
    refine (scan_any _ _ _ HS.out).mono ?_
    rintro ed w' ⟨rfl, rfl⟩
    rw [HX.out]
    go_wp2
    all_goals
      go_ret
      exact ⟨rfl, ⟨_, HC.out.set0 _, HR.out.setR HC.out _ _⟩, (Only.refl _ _).set _ _⟩

/-- NUMBER: the answer and the new state are 'rNum'. -/
theorem number_any (g e : Nat) (l : List UInt8) (most : Int) (w : World) (h : Rd w g l e) :
    Calls Tryd.prog 40 #[.pointer (some ⟨g, 0, none⟩), .int .i64 most] w (RdRet w g (.int .i64 (rNum most l e).1) (rNum most l e).2.1 (rNum most l e).2.2) := by
  by_cases he : e = 0
  · subst he
    by_cases hx : (scan l).2.2 = 0
    · have hs : 0 < (scan l).2.1 ∧ (scan l).2.1 ≤ 0 + l.length ∧ (scan l).2.1 ≤ 0 + 5 := scanF_size 5 0 0 l hx
      have hz : scan l = ((scan l).1, (scan l).2.1, 0) := by rw [← hx]
      by_cases ha : min most 4294967295 < ((scan l).1 : Int)
      · have e1 : rNum most l 0 = (0, [], 3) := by unfold rNum; rw [if_neg (by simp), if_neg (by simpa using hx), if_pos ha]
        rw [e1]
        exact number_above g _ _ l most w h hz ha
      · have e1 : rNum most l 0 = ((scan l).1, l.drop (scan l).2.1, 0) := by unfold rNum; rw [if_neg (by simp), if_neg (by simpa using hx), if_neg ha]
        rw [e1]
        exact number_ok g _ _ l most w h hz (by omega) (by omega) hs.1 (by omega)
    · have e1 : rNum most l 0 = (0, [], (scan l).2.2) := by unfold rNum; rw [if_neg (by simp), if_pos hx]
      rw [e1]
      exact number_short g (scan l).2.2 l most w h rfl (by omega)
  · have e1 : rNum most l e = (0, l, e) := by unfold rNum; rw [if_pos he]
    rw [e1]
    exact number_wrong g e l most w h he
end Go.Proofs.YtjgnneajpkhppaaDoor
