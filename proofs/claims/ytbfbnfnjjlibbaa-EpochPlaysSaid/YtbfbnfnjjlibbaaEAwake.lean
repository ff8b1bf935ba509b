/-
  The law's awake over limbos answers true. No conditions.
-/
import Derived.Test.YtbfbnfnjjlibbaaELaw
namespace Go.Proofs.Ytbfbnfnjjlibbaa
open Go.RowKit Go.Maps
set_option linter.unusedVariables false
set_option linter.unusedSimpArgs false
set_option maxRecDepth 100000

theorem Is.new3 (w : World) (a b c : Int) : Is (w.alloc (.cells #[.int .i64 a, .int .i64 b, .int .i64 c] 3)) (some ⟨w.heap.size, 0, none⟩) 3 [a, b, c] := by
  refine ⟨Nat.le_refl _, by simp [maxLen], fun _ => ⟨w.heap.size, 0, rfl, fun j hj => ?_⟩⟩
  have h := heap_alloc_new w (.cells #[.int .i64 a, .int .i64 b, .int .i64 c] 3)
  have h0 := cell_of_row _ _ 0 _ _ (0, 0) h
  have h1 := cell_of_row _ _ 1 _ _ (0, 0) h
  have h2 := cell_of_row _ _ 2 _ _ (0, 0) h
  rcases j with _ | _ | _ | j
  · exact h0
  · exact h1
  · exact h2
  · simp at hj
    omega
theorem Is.new2 (w : World) (a b : Int) : Is (w.alloc (.cells #[.int .i64 a, .int .i64 b] 3)) (some ⟨w.heap.size, 0, none⟩) 2 [a, b] := by
  refine ⟨Nat.le_refl _, by simp [maxLen], fun _ => ⟨w.heap.size, 0, rfl, fun j hj => ?_⟩⟩
  have h := heap_alloc_new w (.cells #[.int .i64 a, .int .i64 b] 3)
  have h0 := cell_of_row _ _ 0 _ _ (0, 0) h
  have h1 := cell_of_row _ _ 1 _ _ (0, 0) h
  rcases j with _ | _ | j
  · exact h0
  · exact h1
  · simp at hj
    omega
set_option maxHeartbeats 2000000 in
theorem awake_any (w : World) : Calls Try.prog 8 #[] w (TrueRet w) := by
  have B := hide (Below.refl w.heap.size w)
  have K1 := hide (fun (k : Nat) (W : World) (h : Ez w W w.heap.size 0 []) (hx : Hb W k 3 4) => show Calls Try.prog 11 #[.pointer (some ⟨w.heap.size, 0, none⟩), .slice (some ⟨k, 0, none⟩) 1 1] W (EzRet (.tuple #[]) w w.heap.size 0 [((3, 4), 0)] W) from zret_any (l := [(3, 4)]) (by decide) hx.hs (fun _ => hx.apart) h)
  have K2 := hide (fun (W : World) (h : Ez w W w.heap.size 0 [((3, 4), 0)]) => zadv_any (by omega) h)
  have K3 := hide (fun (W : World) (h : Ez w W w.heap.size (0 + 1) [((3, 4), 0)]) => show Calls Try.prog 10 #[.pointer (some ⟨w.heap.size, 0, none⟩)] W (EzRet (.tuple #[]) w w.heap.size 2 [((3, 4), 0)] W) from zadv_any (by omega) h)
  have hP : Pst [(((3 : Int), (4 : Int)), 0)] 2 := (Pst.nil 0).retire [(3, 4)] |>.later (by omega)
  have K4 := hide (fun (W : World) (h : Ez w W w.heap.size 2 [((3, 4), 0)]) => show Calls Try.prog 13 #[.pointer (some ⟨w.heap.size, 0, none⟩), .int .i64 0] W (EzOut [] w w.heap.size 2 [((3, 4), 0)] W) from zfree_any 0 (by decide) (by decide) hP h)
  have K5 := hide (fun (W : World) (h : Ez w W w.heap.size 2 [((3, 4), 0)]) => show Calls Try.prog 13 #[.pointer (some ⟨w.heap.size, 0, none⟩), .int .i64 1] W (EzOut [(3, 4)] w w.heap.size 2 [] W) from zfree_any 1 (by decide) (by decide) hP h)
  have K6 := hide (fun (W : World) (h : Ez w W w.heap.size 2 []) => show Calls Try.prog 17 #[.pointer (some ⟨w.heap.size, 0, none⟩)] W (HsRet [] W) from zwait_any (by decide) h)
  have K7 := hide (fun (W : World) (h : Ez w W w.heap.size 2 []) => show Calls Try.prog 16 #[.pointer (some ⟨w.heap.size, 0, none⟩)] W (IntRet .i64 2 W) from znow_any h)
  have K8 := hide (fun (W : World) => show Calls Try.prog 19 #[.slice (some ⟨W.heap.size, 0, none⟩) 3 3] (W.alloc (.cells #[.int .i64 0, .int .i64 5, .int .i64 3] 3)) (fun e w' => e = .returned (.int .i64 2) ∧ Below (W.alloc (.cells #[.int .i64 0, .int .i64 5, .int .i64 3] 3)).heap.size (W.alloc (.cells #[.int .i64 0, .int .i64 5, .int .i64 3] 3)) w') from least_any _ 3 [0, 5, 3] (by intro x hx; simp at hx; unfold i64B; omega) _ (Is.new3 W 0 5 3))
  clear hP
  go_enter Try.func8, Try.ntmps8
  go_wp2_with fail
  refine (znew_any (w0 := w) B.out).mono ?_
  rintro e w1 ⟨rfl, hz, hb⟩
  have HZ1 := hide hz
  clear hz hb B
  go_upto_region 5 with (fail)
  have X1 := hide (Hb.new w1 3 4)
  have HZ1 := hide (HZ1.out.alloc (.cells #[.int .i64 3, .int .i64 4] 43))
  generalize w1.heap.size = k1 at X1 ⊢
  generalize w1.alloc (.cells #[.int .i64 3, .int .i64 4] 43) = w2 at HZ1 X1 ⊢
  go_wp2_with fail
  refine (K1.out k1 w2 HZ1.out X1.out).mono ?_
  rintro e w3 ⟨rfl, hz, hk⟩
  have HZ3 := hide hz
  have X3 := hide (X1.out.kq hk)
  clear hz hk HZ1 X1 K1
  go_wp2_with fail
  refine (K2.out w3 HZ3.out).mono ?_
  rintro e w4 ⟨rfl, hz, hk⟩
  have HZ4 := hide hz
  have X4 := hide (X3.out.kq hk)
  clear hz hk HZ3 X3 K2
  go_wp2_with fail
  refine (K3.out w4 HZ4.out).mono ?_
  rintro e w5 ⟨rfl, hz, hk⟩
  have HZ5 := hide hz
  have X5 := hide (X4.out.kq hk)
  clear hz hk HZ4 X4 K3
  go_wp2_with fail
  refine (K4.out w5 HZ5.out).mono ?_
  rintro e w6 ⟨va, rfl, ho, hz, hk⟩
  have HZ6 := hide hz
  have X6 := hide (X5.out.kq hk)
  obtain ⟨ca, ma, rfl⟩ := row_form ho
  clear hz hk ho HZ5 X5 K4
  go_wp2_with fail
  refine (K5.out w6 HZ6.out).mono ?_
  rintro e w7 ⟨vb, rfl, ho, hz, hk⟩
  have HZ7 := hide hz
  have X7 := hide (X6.out.kq hk)
  have HO7 := hide ho
  obtain ⟨cb, mb, rfl, hsb⟩ := ho.hs
  have KH := hide (handles_any cb mb [(3, 4)] (some ⟨k1, 0, none⟩) 1 [(3, 4)] (by decide) (by decide) w7 hsb X7.out.hs)
  rw [show decide ([((3 : Int), (4 : Int))] = [(3, 4)]) = true from by decide] at KH
  clear hz hk ho hsb HZ6 X6 K5 X7
  go_wp2_with fail
  refine KH.out.mono ?_
  rintro e w8 ⟨rfl, hb⟩
  have HZ8 := hide (HZ7.out.below hb)
  clear hb KH HZ7 HO7
  go_wp2_with fail
  refine (K6.out w8 HZ8.out).mono ?_
  rintro e w9 ⟨vw, rfl, ho, hb⟩
  have HZ9 := hide (HZ8.out.below hb)
  obtain ⟨cw, mw, rfl⟩ := row_form ho
  clear hb ho HZ8 K6
  go_wp2_with fail
  refine (K7.out w9 HZ9.out).mono ?_
  rintro e w10 ⟨rfl, hb⟩
  have HZ10 := hide ((HZ9.out.below hb).alloc (.cells #[.int .i64 0, .int .i64 5, .int .i64 3] 3))
  clear hb HZ9 K7
  go_wp2_with fail
  refine (K8.out w10).mono ?_
  rintro e w11 ⟨rfl, hb⟩
  have BE := hide (HZ10.out.bel.trans (hb.mono HZ10.out.bel.size))
  clear hb HZ10 K8
  go_wp2_with fail
  go_ret
  exact ⟨rfl, BE.out⟩
end Go.Proofs.Ytbfbnfnjjlibbaa
