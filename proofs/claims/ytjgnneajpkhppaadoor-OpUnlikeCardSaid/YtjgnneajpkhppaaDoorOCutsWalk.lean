/-
  The walk of the law OpCuts: it answers true at every input, and changes nothing that was there. Conditions: the two tables of unicode/utf8 as the program's text lays them.
-/
import Derived.Test.YtjgnneajpkhppaaDoorOBackWalk
import Derived.Test.YtjgnneajpkhppaaDoorOCutsPure
import Derived.Test.YtjgnneajpkhppaaDoorOpTiny
namespace Go.Proofs.YtjgnneajpkhppaaDoor
open Go.RowKit
set_option linter.unusedVariables false

/-- A small operation that lies in a block. -/
def Bt (w : World) (g : Nat) (a b c e f : Nat) : Prop :=
  w.cell? ⟨g, 0, none⟩ = some (.int .u8 (a : Int)) ∧ w.cell? ⟨g, 1, none⟩ = some (.int .u8 (b : Int)) ∧ w.cell? ⟨g, 2, none⟩ = some (.int .u8 (c : Int)) ∧ w.cell? ⟨g, 3, none⟩ = some (.int .u8 (e : Int)) ∧ w.cell? ⟨g, 4, none⟩ = some (.int .u8 (f : Int))
theorem Bt.new (w : World) (a b c e f : Nat) (ty : TypeId) : Bt (w.alloc (.cells #[.int .u8 (a : Int), .int .u8 (b : Int), .int .u8 (c : Int), .int .u8 (e : Int), .int .u8 (f : Int)] ty)) w.heap.size a b c e f :=
  ⟨cell_at_new _ _ _ 0 _ rfl, cell_at_new _ _ _ 1 _ rfl, cell_at_new _ _ _ 2 _ rfl, cell_at_new _ _ _ 3 _ rfl, cell_at_new _ _ _ 4 _ rfl⟩
theorem Bt.below {w w' : World} {g B : Nat} {a b c e f : Nat} (h : Bt w g a b c e f) (hb : Below B w w') (hg : g < B) : Bt w' g a b c e f :=
  ⟨(hb.cell hg).trans h.1, (hb.cell hg).trans h.2.1, (hb.cell hg).trans h.2.2.1, (hb.cell hg).trans h.2.2.2.1, (hb.cell hg).trans h.2.2.2.2⟩
theorem Bt.lt {w : World} {g : Nat} {a b c e f : Nat} (h : Bt w g a b c e f) : g < w.heap.size := World.block_lt_of_cell? w _ h.1
theorem Bt.alloc {w : World} {g : Nat} {a b c e f : Nat} (h : Bt w g a b c e f) (o : Obj) : Bt (w.alloc o) g a b c e f := h.below ((Below.refl w.heap.size w).alloc (Nat.le_refl _) o) h.lt
set_option maxHeartbeats 8000000 in
set_option maxRecDepth 100000 in
theorem opCuts_in (a b c e f z : Nat) (w : World) (ha : a < 256) (hb : b < 256) (hc : c < 256) (he : e < 256) (hf : f < 256) (hz : z < 256) (hE : Env w) :
    Calls Tryd.prog 6 #[.agg #[.int .u8 (a : Int), .int .u8 (b : Int), .int .u8 (c : Int), .int .u8 (e : Int), .int .u8 (f : Int)], .int .u8 (z : Int)] w (TrueRet w) := by
  have HE := hide hE
  clear hE
  have K1 := hide (fun W => of_any a b c e f W ha hb hc he hf)
  have K2 := hide (fun W => oput_any (1 + (a : Int) % 40) ((b : Int) % 4) (256 + (c : Int) % 8) (toOf e) [b8 (97 + f % 8)] W (show 1 ≤ maxLen by decide))
  have hR := of_right a b c e f
  have K3 : Hid (∀ q, q < (opB (1 + (a : Int) % 40) ((b : Int) % 4) (256 + (c : Int) % 8) (toOf e) [b8 (97 + f % 8)]).length → tkR ((opB (1 + (a : Int) % 40) ((b : Int) % 4) (256 + (c : Int) % 8) (toOf e) [b8 (97 + f % 8)]).take q) 0 = false ∧ tkV ((opB (1 + (a : Int) % 40) ((b : Int) % 4) (256 + (c : Int) % 8) (toOf e) [b8 (97 + f % 8)]).take q) 0 = opv 0 0 0 0 [] ∧ (tk5 ((opB (1 + (a : Int) % 40) ((b : Int) % 4) (256 + (c : Int) % 8) (toOf e) [b8 (97 + f % 8)]).take q) 0).2 = ([], 2)) := hide fun q hq => cut_gone hR q hq
  have hpos : 0 < (opB (1 + (a : Int) % 40) ((b : Int) % 4) (256 + (c : Int) % 8) (toOf e) [b8 (97 + f % 8)]).length := by
    unfold opB
    rw [if_pos hR]
    have := num_pos (1 + (a : Int) % 40) (by omega) (by omega)
    simp only [List.length_append]
    omega
  have hle := opB_le (1 + (a : Int) % 40) ((b : Int) % 4) (256 + (c : Int) % 8) (toOf e) [b8 (97 + f % 8)]
  unfold opv at K1 K2
  clear hR
  generalize opB (1 + (a : Int) % 40) ((b : Int) % 4) (256 + (c : Int) % 8) (toOf e) [b8 (97 + f % 8)] = L at K2 K3 hpos hle
  generalize 1 + (a : Int) % 40 = n at K1 K2
  generalize (b : Int) % 4 = r at K1 K2
  generalize 256 + (c : Int) % 8 = d at K1 K2
  generalize toOf e = t at K1 K2
  generalize [b8 (97 + f % 8)] = l at K1 K2
  have HA := hide (Bt.new w a b c e f 44)
  go_enter Tryd.func6, Tryd.ntmps6
  go_wp2_with fail
  refine (oAwake_any _ (HE.out.alloc _)).mono ?_
  rintro x w1 ⟨rfl, hb1⟩
  obtain ⟨x0, x1, x2, x3, x4⟩ := HA.out.below hb1 (by simp)
  have B1 := hide (((Below.refl w.heap.size w).alloc (Nat.le_refl _) _).trans (hb1.mono (by simp)))
  have E1 := hide ((HE.out.alloc _).below hb1)
  have s1 := B1.out.size
  clear hb1 HA HE
  go_wp2_with fail
  refine (K1.out w1).mono ?_
  rintro x w2 ⟨rfl, hb2⟩
  have B2 := hide (B1.out.trans (hb2.mono s1))
  have E2 := hide (E1.out.below hb2)
  have s2 := B2.out.size
  clear hb2 x0 x1 x2 x3 x4 B1 E1
  go_wp2_with fail
  refine (K2.out w2 E2.out).mono ?_
  rintro x w3 ⟨v3, rfl, ho3, hb3⟩
  have B3 := hide (B2.out.trans (hb3.mono s2))
  have E3 := hide (E2.out.below hb3)
  have s3 := B3.out.size
  have R3 := RSl.of_own ho3
  have N3 := hide (Hnd.of_RSl R3)
  obtain ⟨fA, cA, rfl, _, h4, _⟩ := R3.form
  have hqlt := Nat.mod_lt z hpos
  have NQ := hide (N3.out.head (z % L.length) (by omega))
  obtain ⟨u1, u2, u3⟩ := K3.out (z % L.length) hqlt
  have U1 := hide u1
  have U2 := hide u2
  have U3 := hide u3
  have hhd : ∀ W, (Instr.slice 33 (.slice fA L.length cA) none (some (.int .i64 ((z : Int) % (L.length : Int)))) none).run Tryd.prog W = .ok (.slice fA (z % L.length) cA) W := by
    intro W
    rw [← Int.natCast_emod]
    exact run_head_any fA L.length cA (z % L.length) (by omega) W
  have hne : ((L.length : Int) == 0) = false := by rw [beq_eq_false_iff_ne]; omega
  clear ho3 hb3 R3 u1 u2 u3 K3 N3 B2 E2
  go_wp2_with fail
  refine (new_any _ (L.take (z % L.length)) w3 (by rw [List.length_take]; omega) NQ.out).mono ?_
  rintro x w4 ⟨g, rfl, hg, hr, hb4⟩
  have B4 := hide (B3.out.trans (hb4.mono s3))
  have E4 := hide (E3.out.below hb4)
  have R4 := hide hr
  have s4 := hb4.size
  clear hr hb4 NQ hhd B3 E3
  go_wp2_with fail
  refine (otake_any g 0 (L.take (z % L.length)) w4 R4.out E4.out).mono ?_
  rintro x w5 ⟨rfl, hr5, gr5⟩
  rw [U1.out, U2.out]
  rw [U3.out] at hr5
  unfold opv
  have B5 := hide (B4.out.grown gr5 (by omega) (fun k hk => by injection hk with hk; omega))
  have R5 : Hid (Rd w5 g [] 2) := hide hr5
  have s5 := gr5.size
  clear hr5 gr5 B4 E4 R4 U1 U2 U3
  go_upto_region 9 with (fail)
  have B6 := hide (B5.out.alloc (by omega) (.cells #[.int .i64 0, .int .i64 0, .int .i64 0, .int .i64 0, .string (bs [])] 25))
  have P6 := hide (Bo.new w5 0 0 0 0 [] 25)
  have R6 := hide (R5.out.below ((Below.refl w5.heap.size w5).alloc (Nat.le_refl _) (.cells #[.int .i64 0, .int .i64 0, .int .i64 0, .int .i64 0, .string (bs [])] 25)))
  generalize w5.alloc (.cells #[.int .i64 0, .int .i64 0, .int .i64 0, .int .i64 0, .string (bs [])] 25) = w6 at B6 P6 R6 ⊢
  obtain ⟨x0, x1, x2, x3, x4⟩ := P6.out
  clear B5 R5
  have heq : ∀ W, (binOp .eql 25 (.agg #[.int .i64 0, .int .i64 0, .int .i64 0, .int .i64 0, .string (bs [])]) (.agg #[.int .i64 0, .int .i64 0, .int .i64 0, .int .i64 0, .string ⟨#[]⟩])).run Tryd.prog W = .ok (.bool true) W := fun W => op_eql 0 0 0 0 [] 0 0 0 0 [] W
  go_wp2_with fail
  refine (err_any g 2 [] w6 R6.out).mono ?_
  rintro x w7 ⟨rfl, rfl⟩
  go_wp2
  go_ret
  exact ⟨rfl, B6.out⟩
theorem opCuts_walk (a b c e f z : Int) (w : World) (ha : (Lit.int .u8 a).wf = true) (hb : (Lit.int .u8 b).wf = true) (hc : (Lit.int .u8 c).wf = true) (he : (Lit.int .u8 e).wf = true) (hf : (Lit.int .u8 f).wf = true) (hz : (Lit.int .u8 z).wf = true) (hE : Env w) :
    Calls Tryd.prog 6 #[.agg #[.int .u8 a, .int .u8 b, .int .u8 c, .int .u8 e, .int .u8 f], .int .u8 z] w (TrueRet w) := by
  have ha := bounds_u8 ha
  have hb := bounds_u8 hb
  have hc := bounds_u8 hc
  have he := bounds_u8 he
  have hf := bounds_u8 hf
  have hz := bounds_u8 hz
  obtain ⟨a, rfl⟩ := Int.eq_ofNat_of_zero_le ha.1
  obtain ⟨b, rfl⟩ := Int.eq_ofNat_of_zero_le hb.1
  obtain ⟨c, rfl⟩ := Int.eq_ofNat_of_zero_le hc.1
  obtain ⟨e, rfl⟩ := Int.eq_ofNat_of_zero_le he.1
  obtain ⟨f, rfl⟩ := Int.eq_ofNat_of_zero_le hf.1
  obtain ⟨z, rfl⟩ := Int.eq_ofNat_of_zero_le hz.1
  exact opCuts_in a b c e f z w (by omega) (by omega) (by omega) (by omega) (by omega) (by omega) hE
end Go.Proofs.YtjgnneajpkhppaaDoor
