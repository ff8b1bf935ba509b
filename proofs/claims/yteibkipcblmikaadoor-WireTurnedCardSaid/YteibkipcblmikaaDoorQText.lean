/-
  What Text of the document's own reader does, by the same plain functions of reading. Conditions: the reader stands in a block of its own, from block B on, over bytes that lie below B.
-/
import Derived.Test.YteibkipcblmikaaDoorQRead
namespace Go.Proofs.YteibkipcblmikaaDoor
set_option maxRecDepth 100000
open Go.RowKit
set_option linter.unusedVariables false

/-- Where an empty slice begins that is cut at its beginning. -/
def zeroA (A : Option Addr) (c : Nat) : Option Addr := if c = 0 then A else A.map (·.add 0)

theorem run_zero_head (A : Option Addr) (c : Nat) (w : World) :
    (Instr.slice 25 (.slice A 0 c) none (some (.int .i64 0)) none).run Tryd.prog w = .ok (.slice (zeroA A c) 0 c) w := by
  have hz : (Go.sizeOf 5).run Tryd.prog w = .ok 1 w := by
    obtain ⟨i0, hi0, _, hz1, _⟩ := info_parts u8info
    simp [Go.sizeOf, typeInfo, hi0, hz1]
  have ht' : Tryd.prog.underlying 25 = some (.slice (Tryd.prog.elem 25)) := by simp [Program.elem, Tryd.underlying25]
  have he : Tryd.prog.elem 25 = 5 := by simp [Program.elem, Tryd.underlying25]
  rw [run_slice_h w _ _ _ _ ht' .i64 _ (by omega) (by omega), he, hz]
  simp [Result.andThen, sliced, zeroA]
theorem run_zero_cut (A : Option Addr) (c : Nat) (w : World) :
    (Instr.slice 25 (.slice A 0 c) (some (.int .i64 0)) none none).run Tryd.prog w = .ok (.slice (zeroA A c) 0 c) w := by
  have hz : (Go.sizeOf 5).run Tryd.prog w = .ok 1 w := by
    obtain ⟨i0, hi0, _, hz1, _⟩ := info_parts u8info
    simp [Go.sizeOf, typeInfo, hi0, hz1]
  have ht' : Tryd.prog.underlying 25 = some (.slice (Tryd.prog.elem 25)) := by simp [Program.elem, Tryd.underlying25]
  have he : Tryd.prog.elem 25 = 5 := by simp [Program.elem, Tryd.underlying25]
  rw [run_slice_l w _ _ _ _ ht' .i64 _ (by omega) (by omega), he, hz]
  simp [Result.andThen, sliced, zeroA]

set_option maxHeartbeats 1000000 in
theorem qtext_wrong (B g e n e1 : Nat) (l l1 : List UInt8) (most : Int) (w : World) (hBg : B ≤ g) (h : Qd w B g l e) (hn : rNum most l e = (n, l1, e1)) (he : e1 ≠ 0) :
    Calls Tryd.prog 57 #[.pointer (some ⟨g, 0, none⟩), .int .i64 most] w (QdRet w B g (.string (bs [])) l1 e1) := by
  have hc0 := qnumber_any B g e l most w hBg h
  rw [hn] at hc0
  have HC0 := hide hc0
  have hne : ((e1 : Int) != 0) = true := by simp; omega
  clear hc0 h hn he
  go_enter Tryd.func57, Tryd.ntmps57
  go_wp2_with fail
  refine HC0.out.mono ?_
  rintro ed w1 ⟨rfl, ⟨sv, hc, hs⟩, ho⟩
  have c1 := hc.c1
  have H1 := hide hc
  have H2 := hide hs
  have H3 := hide ho
  clear hc hs ho
  go_wp2_with fail
  go_ret
  exact ⟨rfl, ⟨sv, H1.out, H2.out⟩, H3.out⟩

set_option maxHeartbeats 1000000 in
theorem qtext_short (B g e n : Nat) (l l1 : List UInt8) (most : Int) (w : World) (hBg : B ≤ g) (h : Qd w B g l e) (hn : rNum most l e = (n, l1, 0)) (hl : l1.length < n) :
    Calls Tryd.prog 57 #[.pointer (some ⟨g, 0, none⟩), .int .i64 most] w (QdRet w B g (.string (bs [])) [] 2) := by
  have hc0 := qnumber_any B g e l most w hBg h
  rw [hn] at hc0
  have HC0 := hide hc0
  clear hc0 h hn
  go_enter Tryd.func57, Tryd.ntmps57
  go_wp2_with fail
  refine HC0.out.mono ?_
  rintro ed w1 ⟨rfl, ⟨sv, hc, A, c, rfl, h1, h2, h3⟩, ho⟩
  have c1 := hc.c1
  have c0 := hc.c0
  have H1 := hide hc
  have H3 := hide ho
  clear hc ho h3
  unfold maxLen at h2
  go_wp2_with fail
  refine (qfail_any g 2 0 _ w1 H1.out).mono ?_
  rintro ed w2 ⟨rfl, rfl⟩
  go_wp2_with fail
  go_ret
  exact ⟨rfl, ⟨_, (H1.out.set0 _).set1 _, ASl.nil _ _⟩, (H3.out.set _ _).set _ _⟩

set_option maxHeartbeats 1000000 in
theorem qtext_ok (B g e n : Nat) (l l1 : List UInt8) (most : Int) (w : World) (hBg : B ≤ g) (h : Qd w B g l e) (hn : rNum most l e = (n, l1, 0)) (hl : n ≤ l1.length) :
    Calls Tryd.prog 57 #[.pointer (some ⟨g, 0, none⟩), .int .i64 most] w (QdRet w B g (.string (bs (l1.take n))) (l1.drop n) 0) := by
  have hc0 := qnumber_any B g e l most w hBg h
  rw [hn] at hc0
  have HC0 := hide hc0
  clear hc0 h hn
  go_enter Tryd.func57, Tryd.ntmps57
  go_wp2_with fail
  refine HC0.out.mono ?_
  rintro ed w1 ⟨rfl, ⟨sv, hc, A, c, rfl, h1, h2, h3⟩, ho⟩
  have c1 := hc.c1
  have c0 := hc.c0
  have z0 := hc.z 0
  have H1 := hide hc
  have H2 := hide h2
  have H3 := hide ho
  unfold maxLen at h2
  clear hc ho
  rcases h3 with rfl | ⟨b, o, rfl, hbB, hcells⟩
  · obtain rfl : n = 0 := by simpa using hl
    have hcv := fun W => conv_zero (zeroA A c) c W
    have hcut := fun W => run_zero_cut A c W
    have hhd := fun W => run_zero_head A c W
    simp only [List.length_nil] at c0 H1
    go_wp2_with fail
    go_ret
    exact ⟨rfl, ⟨_, H1.out.set0 _, ⟨_, c, rfl, Nat.zero_le _, H2.out, .inl rfl⟩⟩, H3.out.set _ _⟩
  · have hcv := conv_cells w1 b o n c (l1.take n) (by rw [List.length_take]; omega) (cells_take hcells n)
    have hcut := fun W => run_cut b o l1.length c n hl h1 W
    have hhd := fun W => run_head b o l1.length c n (by omega) W
    have HX := hide hcells
    clear hcells
    go_wp2_with fail
    go_ret
    refine ⟨rfl, ⟨_, H1.out.set0 _, ?_⟩, H3.out.set _ _⟩
    exact ASl_cut h1 H2.out hbB n hl (fun j hj => (World.cell?_setCell_other w1 _ _ _ (fun e => by injection e; omega)).trans (HX.out j hj))

/-- TEXT of the document's reader: the answer and the new state are 'rTxt', too. -/
theorem qtext_any (B g e : Nat) (l : List UInt8) (most : Int) (w : World) (hBg : B ≤ g) (h : Qd w B g l e) :
    Calls Tryd.prog 57 #[.pointer (some ⟨g, 0, none⟩), .int .i64 most] w (QdRet w B g (.string (bs (rTxt most l e).1)) (rTxt most l e).2.1 (rTxt most l e).2.2) := by
  by_cases he : (rNum most l e).2.2 = 0
  · have hz : rNum most l e = ((rNum most l e).1, (rNum most l e).2.1, 0) := by rw [← he]
    by_cases hs : (rNum most l e).2.1.length < (rNum most l e).1
    · have e1 : rTxt most l e = ([], [], 2) := by unfold rTxt; rw [if_neg (by simpa using he), if_pos hs]
      rw [e1]
      exact qtext_short B g e _ l _ most w hBg h hz hs
    · have e1 : rTxt most l e = ((rNum most l e).2.1.take (rNum most l e).1, (rNum most l e).2.1.drop (rNum most l e).1, 0) := by
        unfold rTxt; rw [if_neg (by simpa using he), if_neg hs]
      rw [e1]
      exact qtext_ok B g e _ l _ most w hBg h hz (by omega)
  · have e1 : rTxt most l e = ([], (rNum most l e).2.1, (rNum most l e).2.2) := by unfold rTxt; rw [if_pos he]
    rw [e1]
    exact qtext_wrong B g e (rNum most l e).1 (rNum most l e).2.2 l (rNum most l e).2.1 most w hBg h rfl he
end Go.Proofs.YteibkipcblmikaaDoor
