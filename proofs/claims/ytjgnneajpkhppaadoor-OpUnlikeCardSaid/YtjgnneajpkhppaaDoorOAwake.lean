/-
  The chapter's example, as the laws of layer 5 try it. Conditions: the two tables of unicode/utf8 as the program's text lays them.
-/
import Derived.Test.YtjgnneajpkhppaaDoorOTake
namespace Go.Proofs.YtjgnneajpkhppaaDoor
open Go.RowKit
set_option linter.unusedVariables false

/-- Are two operations one? -/
def opE (n r d t : Int) (l : List UInt8) (m s e u : Int) (k : List UInt8) : Bool := decide (n = m ∧ r = s ∧ d = e ∧ t = u ∧ l = k)
set_option maxRecDepth 100000 in
theorem st_eql (dp : Nat) (n r m s : Int) (w : World) :
    (Op.equalIn (dp + 1 + 1) 23 (.agg #[.int .i64 n, .int .i64 r]) (.agg #[.int .i64 m, .int .i64 s])).run Tryd.prog w = .ok (decide (n = m ∧ r = s)) w := by
  have u3 := Tryd.underlying3
  have a3 := Tryd.isAgg3
  have z3 := Tryd.sizeOf3
  rw [run_equalIn_agg w (dp + 1) 23 _ _ (by kernel_rfl) (by kernel_rfl)]
  simp only [Program.fieldsOf, Tryd.underlying23]
  go_simp
  by_cases h1 : n = m <;> by_cases h2 : r = s <;> simp [h1, h2]
set_option maxRecDepth 100000 in
theorem op_eql (n r d t : Int) (l : List UInt8) (m s e u : Int) (k : List UInt8) (w : World) :
    (binOp .eql 25 (opv n r d t l) (opv m s e u k)).run Tryd.prog w = .ok (.bool (opE n r d t l m s e u k)) w := by
  have u3 := Tryd.underlying3
  have a3 := Tryd.isAgg3
  have z3 := Tryd.sizeOf3
  have u9 := Tryd.underlying9
  have a9 := Tryd.isAgg9
  have z9 := Tryd.sizeOf9
  have a23 := Tryd.isAgg23
  have z23 := Tryd.sizeOf23
  have hst := fun dp => st_eql dp n r m s
  unfold opv opE
  rw [run_eql_struct, show (10000 : Nat) = 9997 + 1 + 1 + 1 from rfl, run_equalIn_agg w (9997 + 1 + 1) 25 _ _ (by kernel_rfl) (by kernel_rfl)]
  simp only [Program.fieldsOf, Tryd.underlying25]
  go_simp
  rw [bs_list, bs_list]
  by_cases h1 : n = m <;> by_cases h2 : r = s <;> by_cases h3 : d = e <;> by_cases h4 : t = u <;> by_cases h5 : l = k <;> simp [h1, h2, h3, h4, h5]
theorem ex_b : opB 5 7 1287 0 [97] = [5, 7, 135, 10, 0, 1, 97] := by decide
theorem ex_r : opR 5 7 1287 0 [97] = true := by decide
theorem ex_t : tkR [5, 7, 135, 10, 0, 1, 97] 0 = true := by decide
theorem ex_v : tkV [5, 7, 135, 10, 0, 1, 97] 0 = opv 5 7 1287 0 [97] := by
  unfold tkV
  rw [if_pos ex_t]
  have e : tk1 [5, 7, 135, 10, 0, 1, 97] 0 = (5, [7, 135, 10, 0, 1, 97], 0) ∧ tk2 [5, 7, 135, 10, 0, 1, 97] 0 = (7, [135, 10, 0, 1, 97], 0) ∧ tk3 [5, 7, 135, 10, 0, 1, 97] 0 = (1287, [0, 1, 97], 0) ∧ tk4 [5, 7, 135, 10, 0, 1, 97] 0 = (0, [1, 97], 0) ∧ tk5 [5, 7, 135, 10, 0, 1, 97] 0 = ([97], [], 0) := by decide
  obtain ⟨e1, e2, e3, e4, e5⟩ := e
  rw [e1, e2, e3, e4, e5]
  rfl
theorem ex_c : opC 5 7 1287 0 [97] 0 0 0 0 [] = 1 := by decide
set_option maxHeartbeats 4000000 in
set_option maxRecDepth 100000 in
theorem oAwake_any (w : World) (hE : Env w) : Calls Tryd.prog 8 #[] w (TrueRet w) := by
  have HE := hide hE
  clear hE
  go_enter Tryd.func8, Tryd.ntmps8
  have KP : Hid (∀ W, Env W → Calls Tryd.prog 17 #[.agg #[.int .i64 5, .int .i64 7, .int .i64 1287, .int .i64 0, .string ⟨#[97]⟩]] W (OwnRet W [5, 7, 135, 10, 0, 1, 97])) := hide fun W h => by
    have := oput_any 5 7 1287 0 [97] W (by decide) h
    rw [ex_b] at this
    exact this
  have KR : Hid (∀ W, Env W → Calls Tryd.prog 12 #[.agg #[.int .i64 5, .int .i64 7, .int .i64 1287, .int .i64 0, .string ⟨#[97]⟩]] W (BoolRet true W)) := hide fun W h => by
    have := oright_any 5 7 1287 0 [97] W (by decide) h
    rw [ex_r] at this
    exact this
  have KC : Hid (∀ W, Calls Tryd.prog 14 #[.agg #[.int .i64 5, .int .i64 7, .int .i64 1287, .int .i64 0, .string ⟨#[97]⟩], .agg #[.int .i64 0, .int .i64 0, .int .i64 0, .int .i64 0, .string ⟨#[]⟩]] W (NumRet 1 W)) := hide fun W => by
    have := ocmp_any 5 7 1287 0 [97] 0 0 0 0 [] W
    rw [ex_c] at this
    exact this
  have KN : Hid (∀ W, Calls Tryd.prog 10 #[.int .i64 256] W (fun e w' => e = .returned (.bool true) ∧ w' = W)) := hide fun W => node_any 256 W
  go_upto_region 2 with (fail)
  have B1 := hide ((Below.refl w.heap.size w).alloc (Nat.le_refl _) (.cells #[.int .i64 5, .int .i64 7, .int .i64 1287, .int .i64 0, .string ⟨#[97]⟩] 25))
  have E1 := hide (HE.out.alloc (.cells #[.int .i64 5, .int .i64 7, .int .i64 1287, .int .i64 0, .string ⟨#[97]⟩] 25))
  have H1 : Hid (Bo (w.alloc (.cells #[.int .i64 5, .int .i64 7, .int .i64 1287, .int .i64 0, .string ⟨#[97]⟩] 25)) w.heap.size 5 7 1287 0 [97]) := hide (Bo.new w 5 7 1287 0 [97] 25)
  generalize w.alloc (.cells #[.int .i64 5, .int .i64 7, .int .i64 1287, .int .i64 0, .string ⟨#[97]⟩] 25) = w1 at B1 E1 H1 ⊢
  have a0 := H1.out.1
  have a1 := H1.out.2.1
  have a2 := H1.out.2.2.1
  have a3 := H1.out.2.2.2.1
  have a4 : w1.cell? ⟨w.heap.size, 4, none⟩ = some (.string ⟨#[97]⟩) := H1.out.2.2.2.2
  have s1 := B1.out.size
  have l1 := H1.out.lt
  go_wp2_with fail
  refine (KP.out w1 E1.out).mono ?_
  rintro e w2 ⟨v2, rfl, ho2, hb2⟩
  have B2 := hide (B1.out.trans (hb2.mono s1))
  have E2 := hide (E1.out.below hb2)
  have H2 := hide (H1.out.below hb2 l1)
  have N2 := hide (Hnd.of_RSl (RSl.of_own ho2))
  have s2 := hb2.size
  clear ho2 hb2 a0 a1 a2 a3 a4
  go_wp2_with fail
  refine (new_any v2 [5, 7, 135, 10, 0, 1, 97] w2 (by decide) N2.out).mono ?_
  rintro e w3 ⟨g, rfl, hg, hr, hb3⟩
  have B3 := hide (B2.out.trans (hb3.mono (by omega)))
  have E3 := hide (E2.out.below hb3)
  have H3 := hide (H2.out.below hb3 (by omega))
  have s3 := hb3.size
  have R3 := hide hr
  clear hr hb3
  go_wp2_with fail
  refine (otake_any g 0 [5, 7, 135, 10, 0, 1, 97] w3 R3.out E3.out).mono ?_
  rintro e w4 ⟨rfl, hr4, gr4⟩
  rw [ex_v, ex_t]
  unfold opv
  have B4 := hide (B3.out.grown gr4 (by omega) (fun k hk => by injection hk with hk; omega))
  have E4 := hide (E3.out.grown R3.out gr4)
  have H4 : Hid (Bo w4 w.heap.size 5 7 1287 0 [97]) := hide (by
    have ok : ∀ j, w4.cell? ⟨w.heap.size, j, none⟩ = w3.cell? ⟨w.heap.size, j, none⟩ := fun j => World.cell?_of_block (gr4.block w.heap.size (by omega) (by intro h; injection h with h; omega))
    have h := H3.out
    exact ⟨(ok 0).trans h.1, (ok 1).trans h.2.1, (ok 2).trans h.2.2.1, (ok 3).trans h.2.2.2.1, (ok 4).trans h.2.2.2.2⟩)
  have s4 := gr4.size
  clear hr4 gr4
  go_upto_region 6 with (fail)
  have B5 := hide (B4.out.alloc (by omega) (.cells #[.int .i64 5, .int .i64 7, .int .i64 1287, .int .i64 0, .string (bs [97])] 25))
  have E5 := hide (E4.out.alloc (.cells #[.int .i64 5, .int .i64 7, .int .i64 1287, .int .i64 0, .string (bs [97])] 25))
  have H5 := hide (H4.out.alloc (.cells #[.int .i64 5, .int .i64 7, .int .i64 1287, .int .i64 0, .string (bs [97])] 25))
  have P5 := hide (Bo.new w4 5 7 1287 0 [97] 25)
  have s5 : (w4.alloc (.cells #[.int .i64 5, .int .i64 7, .int .i64 1287, .int .i64 0, .string (bs [97])] 25)).heap.size = w4.heap.size + 1 := by simp
  generalize w4.alloc (.cells #[.int .i64 5, .int .i64 7, .int .i64 1287, .int .i64 0, .string (bs [97])] 25) = w5 at B5 E5 H5 P5 s5 ⊢
  have a0 := H5.out.1
  have a1 := H5.out.2.1
  have a2 := H5.out.2.2.1
  have a3 := H5.out.2.2.2.1
  have a4 : w5.cell? ⟨w.heap.size, 4, none⟩ = some (.string ⟨#[97]⟩) := H5.out.2.2.2.2
  clear B1 B2 B3 B4 E1 E2 E3 E4 H1 H2 H3 H4 N2 R3
  go_wp2_with fail
  refine (KP.out w5 E5.out).mono ?_
  rintro e w6 ⟨v6, rfl, ho6, hb6⟩
  have B6 := hide (B5.out.trans (hb6.mono (by omega)))
  have E6 := hide (E5.out.below hb6)
  have H6 := hide (H5.out.below hb6 (by omega))
  have P6 := hide (P5.out.below hb6 (by omega))
  have hcv : (convert 33 9 v6).run Tryd.prog w6 = .ok (.string ⟨#[5, 7, 135, 10, 0, 1, 97]⟩) w6 := conv_any w6 v6 _ (RSl.of_own ho6)
  have s6 := hb6.size
  clear ho6 hb6 a0 a1 a2 a3 a4 B5 E5 H5 P5
  have a0 := H6.out.1
  have a1 := H6.out.2.1
  have a2 := H6.out.2.2.1
  have a3 := H6.out.2.2.2.1
  have a4 : w6.cell? ⟨w.heap.size, 4, none⟩ = some (.string ⟨#[97]⟩) := H6.out.2.2.2.2
  have b0 := P6.out.1
  have b1 := P6.out.2.1
  have b2 := P6.out.2.2.1
  have b3 := P6.out.2.2.2.1
  have b4 : w6.cell? ⟨w4.heap.size, 4, none⟩ = some (.string ⟨#[97]⟩) := P6.out.2.2.2.2
  have heq : ∀ W, (binOp .eql 25 (.agg #[.int .i64 5, .int .i64 7, .int .i64 1287, .int .i64 0, .string ⟨#[97]⟩]) (.agg #[.int .i64 5, .int .i64 7, .int .i64 1287, .int .i64 0, .string ⟨#[97]⟩])).run Tryd.prog W = .ok (.bool true) W := fun W => op_eql 5 7 1287 0 [97] 5 7 1287 0 [97] W
  go_wp2_with fail
  refine (KR.out w6 E6.out).mono ?_
  rintro e w7 ⟨rfl, hb7⟩
  have B7 := hide (B6.out.trans (hb7.mono (by omega)))
  have H7 := hide (H6.out.below hb7 (by omega))
  have s7 := hb7.size
  clear hb7 a0 a1 a2 a3 a4 b0 b1 b2 b3 b4 heq hcv
  go_wp2_with fail
  refine (KN.out w7).mono ?_
  rintro e w8 ⟨rfl, rfl⟩
  have a0 := H7.out.1
  have a1 := H7.out.2.1
  have a2 := H7.out.2.2.1
  have a3 := H7.out.2.2.2.1
  have a4 : w8.cell? ⟨w.heap.size, 4, none⟩ = some (.string ⟨#[97]⟩) := H7.out.2.2.2.2
  go_wp2_with fail
  refine (KC.out w8).mono ?_
  rintro e w9 ⟨rfl, hb9⟩
  have B9 := hide (B7.out.trans (hb9.mono (by omega)))
  clear hb9
  go_wp2
  go_ret
  exact ⟨rfl, B9.out⟩
end Go.Proofs.YtjgnneajpkhppaaDoor
