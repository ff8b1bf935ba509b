/-
  The walk of the law OpUnlike: it answers true at every input, and changes nothing that was there. Conditions: the two tables of unicode/utf8 as the program's text lays them.
-/
import Derived.Test.YtjgnneajpkhppaaDoorOUnlikePure
import Derived.Test.YtjgnneajpkhppaaDoorOCutsWalk
import Derived.LoopTactic
namespace Go.Proofs.YtjgnneajpkhppaaDoor
open Go.RowKit
set_option linter.unusedVariables false

/-- Operations that lie behind each other in a block. -/
def InL (w : World) (G : Nat) (os : List O5) : Prop := ∀ i (h : i < os.length),
  w.cell? ⟨G, i * 5, none⟩ = some (.int .i64 os[i].n) ∧ w.cell? ⟨G, i * 5 + 1, none⟩ = some (.int .i64 os[i].r) ∧ w.cell? ⟨G, i * 5 + 2, none⟩ = some (.int .i64 os[i].d) ∧ w.cell? ⟨G, i * 5 + 3, none⟩ = some (.int .i64 os[i].t) ∧ w.cell? ⟨G, i * 5 + 4, none⟩ = some (.string (bs os[i].l))
theorem InL.below {w w' : World} {G : Nat} {os : List O5} (h : InL w G os) (hb : Below w.heap.size w w') : InL w' G os := by
  intro i hi
  obtain ⟨h0, h1, h2, h3, h4⟩ := h i hi
  exact ⟨(hb.cell (World.block_lt_of_cell? w _ h0)).trans h0, (hb.cell (World.block_lt_of_cell? w _ h1)).trans h1, (hb.cell (World.block_lt_of_cell? w _ h2)).trans h2, (hb.cell (World.block_lt_of_cell? w _ h3)).trans h3, (hb.cell (World.block_lt_of_cell? w _ h4)).trans h4⟩
theorem InL.three (w : World) (a b c : O5) : InL (w.alloc (.cells #[.int .i64 a.n, .int .i64 a.r, .int .i64 a.d, .int .i64 a.t, .string (bs a.l), .int .i64 b.n, .int .i64 b.r, .int .i64 b.d, .int .i64 b.t, .string (bs b.l), .int .i64 c.n, .int .i64 c.r, .int .i64 c.d, .int .i64 c.t, .string (bs c.l)] 25)) w.heap.size [a, b, c] := by
  intro i hi
  match i, hi with
  | 0, _ => exact ⟨cell_at_new _ _ _ 0 _ rfl, cell_at_new _ _ _ 1 _ rfl, cell_at_new _ _ _ 2 _ rfl, cell_at_new _ _ _ 3 _ rfl, cell_at_new _ _ _ 4 _ rfl⟩
  | 1, _ => exact ⟨cell_at_new _ _ _ 5 _ rfl, cell_at_new _ _ _ 6 _ rfl, cell_at_new _ _ _ 7 _ rfl, cell_at_new _ _ _ 8 _ rfl, cell_at_new _ _ _ 9 _ rfl⟩
  | 2, _ => exact ⟨cell_at_new _ _ _ 10 _ rfl, cell_at_new _ _ _ 11 _ rfl, cell_at_new _ _ _ 12 _ rfl, cell_at_new _ _ _ 13 _ rfl, cell_at_new _ _ _ 14 _ rfl⟩
theorem below3 (w : World) (a b c : Obj) : Below w.heap.size w (((w.alloc a).alloc b).alloc c) := (below_two w a b).alloc (by simp; omega) c
/-- An operation that lies in a block, from some cell on. -/
def BoAt (w : World) (g o : Nat) (n r d t : Int) (l : List UInt8) : Prop :=
  w.cell? ⟨g, o, none⟩ = some (.int .i64 n) ∧ w.cell? ⟨g, o + 1, none⟩ = some (.int .i64 r) ∧ w.cell? ⟨g, o + 2, none⟩ = some (.int .i64 d) ∧ w.cell? ⟨g, o + 3, none⟩ = some (.int .i64 t) ∧ w.cell? ⟨g, o + 4, none⟩ = some (.string (bs l))
theorem BoAt.below {w w' : World} {g o : Nat} {n r d t : Int} {l : List UInt8} (h : BoAt w g o n r d t l) (hb : Below w.heap.size w w') : BoAt w' g o n r d t l := by
  have hg : g < w.heap.size := World.block_lt_of_cell? w _ h.1
  exact ⟨(hb.cell hg).trans h.1, (hb.cell hg).trans h.2.1, (hb.cell hg).trans h.2.2.1, (hb.cell hg).trans h.2.2.2.1, (hb.cell hg).trans h.2.2.2.2⟩
/-- Where a loop over the three stands. -/
def UnRel (wL : World) (v : Value) (w' : World) : Prop := ∃ i : Nat, i ≤ 3 ∧ v = .int .i64 (i : Int) ∧ Below wL.heap.size wL w'
set_option maxHeartbeats 8000000 in
set_option maxRecDepth 100000 in
theorem opUnlike_in (a b c e f a2 b2 c2 e2 f2 : Nat) (n r d t : Int) (l : List UInt8) (w : World) (ha : a < 256) (hb : b < 256) (hc : c < 256) (he : e < 256) (hf : f < 256) (ha2 : a2 < 256) (hb2 : b2 < 256) (hc2 : c2 < 256) (he2 : e2 < 256) (hf2 : f2 < 256) (hl : l.length ≤ maxLen) (hE : Env w) :
    Calls Tryd.prog 7 #[.agg #[.int .u8 (a : Int), .int .u8 (b : Int), .int .u8 (c : Int), .int .u8 (e : Int), .int .u8 (f : Int)], .agg #[.int .u8 (a2 : Int), .int .u8 (b2 : Int), .int .u8 (c2 : Int), .int .u8 (e2 : Int), .int .u8 (f2 : Int)], .agg #[.int .i64 n, .int .i64 r, .int .i64 d, .int .i64 t, .string (bs l)]] w (TrueRet w) := by
  have HE := hide hE
  clear hE
  have K1 := hide (fun W => of_any a b c e f W ha hb hc he hf)
  have K2 := hide (fun W => of_any a2 b2 c2 e2 f2 W ha2 hb2 hc2 he2 hf2)
  unfold opv at K1 K2
  have hOS : ∀ i (h : i < ([⟨1 + (a : Int) % 40, (b : Int) % 4, 256 + (c : Int) % 8, toOf e, [b8 (97 + f % 8)]⟩, ⟨1 + (a2 : Int) % 40, (b2 : Int) % 4, 256 + (c2 : Int) % 8, toOf e2, [b8 (97 + f2 % 8)]⟩, ⟨n, r, d, t, l⟩] : List O5).length), ([⟨1 + (a : Int) % 40, (b : Int) % 4, 256 + (c : Int) % 8, toOf e, [b8 (97 + f % 8)]⟩, ⟨1 + (a2 : Int) % 40, (b2 : Int) % 4, 256 + (c2 : Int) % 8, toOf e2, [b8 (97 + f2 % 8)]⟩, ⟨n, r, d, t, l⟩] : List O5)[i].l.length ≤ maxLen := by
    intro i h
    match i, h with
    | 0, _ => exact show 1 ≤ maxLen by decide
    | 1, _ => exact show 1 ≤ maxLen by decide
    | 2, _ => exact hl
  have HO := hide hOS
  clear hOS
  have HA := hide (((Bt.new w a b c e f 44).alloc (.cells #[.int .u8 (a2 : Int), .int .u8 (b2 : Int), .int .u8 (c2 : Int), .int .u8 (e2 : Int), .int .u8 (f2 : Int)] 44)).alloc (.cells #[.int .i64 n, .int .i64 r, .int .i64 d, .int .i64 t, .string (bs l)] 25))
  have HB := hide ((Bt.new (w.alloc (.cells #[.int .u8 (a : Int), .int .u8 (b : Int), .int .u8 (c : Int), .int .u8 (e : Int), .int .u8 (f : Int)] 44)) a2 b2 c2 e2 f2 44).alloc (.cells #[.int .i64 n, .int .i64 r, .int .i64 d, .int .i64 t, .string (bs l)] 25))
  have HC := hide (Bo.new ((w.alloc (.cells #[.int .u8 (a : Int), .int .u8 (b : Int), .int .u8 (c : Int), .int .u8 (e : Int), .int .u8 (f : Int)] 44)).alloc (.cells #[.int .u8 (a2 : Int), .int .u8 (b2 : Int), .int .u8 (c2 : Int), .int .u8 (e2 : Int), .int .u8 (f2 : Int)] 44)) n r d t l 25)
  rw [show (w.alloc (.cells #[.int .u8 (a : Int), .int .u8 (b : Int), .int .u8 (c : Int), .int .u8 (e : Int), .int .u8 (f : Int)] 44)).heap.size = w.heap.size + 1 by simp] at HB
  rw [show ((w.alloc (.cells #[.int .u8 (a : Int), .int .u8 (b : Int), .int .u8 (c : Int), .int .u8 (e : Int), .int .u8 (f : Int)] 44)).alloc (.cells #[.int .u8 (a2 : Int), .int .u8 (b2 : Int), .int .u8 (c2 : Int), .int .u8 (e2 : Int), .int .u8 (f2 : Int)] 44)).heap.size = w.heap.size + 2 by simp] at HC
  go_enter Tryd.func7, Tryd.ntmps7
  go_wp2_with fail
  refine (oAwake_any _ (((HE.out.alloc _).alloc _).alloc _)).mono ?_
  rintro x w1 ⟨rfl, hb1⟩
  have A1 := hide (HA.out.below hb1 HA.out.lt)
  have B1 := hide (HB.out.below hb1 HB.out.lt)
  have C1 := hide (HC.out.below hb1 HC.out.lt)
  have L1 := hide ((below3 w _ _ _).trans (hb1.mono (by simp; omega)))
  have E1 := hide ((((HE.out.alloc _).alloc _).alloc _).below hb1)
  have s1 := L1.out.size
  clear hb1 HA HB HC HE
  obtain ⟨x0, x1, x2, x3, x4⟩ := C1.out
  go_wp2_with fail
  have QS := oshort_any w1.heap.size 1 [l] (w1.alloc (.cells #[.int .i64 n, .int .i64 r, .int .i64 d, .int .i64 t, .string (bs l)] 25)) (by simp)
    (by intro j hj; match j, hj with | 0, _ => exact hl)
    (by intro j hj; match j, hj with | 0, _ => exact cell_at_new _ _ _ 4 _ rfl)
  refine QS.mono ?_
  rintro x w2 ⟨rfl, hw⟩
  have a2' := A1.out.alloc (.cells #[.int .i64 n, .int .i64 r, .int .i64 d, .int .i64 t, .string (bs l)] 25)
  have b2' := B1.out.alloc (.cells #[.int .i64 n, .int .i64 r, .int .i64 d, .int .i64 t, .string (bs l)] 25)
  have c2' := C1.out.alloc (.cells #[.int .i64 n, .int .i64 r, .int .i64 d, .int .i64 t, .string (bs l)] 25)
  have L2 := hide (L1.out.alloc s1 (.cells #[.int .i64 n, .int .i64 r, .int .i64 d, .int .i64 t, .string (bs l)] 25))
  have E2 := hide (E1.out.alloc (.cells #[.int .i64 n, .int .i64 r, .int .i64 d, .int .i64 t, .string (bs l)] 25))
  rw [← hw] at a2' b2' c2' L2 E2
  have A2 := hide a2'
  have B2 := hide b2'
  have C2 := hide c2'
  clear QS hw x0 x1 x2 x3 x4 A1 B1 C1 E1 L1 a2' b2' c2'
  have s2 := L2.out.size
  cases hs : shB [l] with
  | false =>
    clear hs
    go_wp2
    go_ret
    exact ⟨rfl, L2.out⟩
  | true =>
    clear hs
    have aA := A2.out
    have bA := B2.out
    have cA := C2.out
    obtain ⟨x0, x1, x2, x3, x4⟩ := A2.out
    obtain ⟨y0, y1, y2, y3, y4⟩ := B2.out
    obtain ⟨z0, z1, z2, z3, z4⟩ := C2.out
    go_wp2_with fail
    go_region_held3 (fun w' => w'.cell? ⟨w.heap.size, 0, none⟩ = some (.int .u8 (a : Int)) ∧ w'.cell? ⟨w.heap.size, 1, none⟩ = some (.int .u8 (b : Int)) ∧ w'.cell? ⟨w.heap.size, 2, none⟩ = some (.int .u8 (c : Int)) ∧ w'.cell? ⟨w.heap.size, 3, none⟩ = some (.int .u8 (e : Int)) ∧ w'.cell? ⟨w.heap.size, 4, none⟩ = some (.int .u8 (f : Int)) ∧ w'.cell? ⟨w.heap.size + 1, 0, none⟩ = some (.int .u8 (a2 : Int)) ∧ w'.cell? ⟨w.heap.size + 1, 1, none⟩ = some (.int .u8 (b2 : Int)) ∧ w'.cell? ⟨w.heap.size + 1, 2, none⟩ = some (.int .u8 (c2 : Int)) ∧ w'.cell? ⟨w.heap.size + 1, 3, none⟩ = some (.int .u8 (e2 : Int)) ∧ w'.cell? ⟨w.heap.size + 1, 4, none⟩ = some (.int .u8 (f2 : Int)) ∧ w'.cell? ⟨w.heap.size + 2, 0, none⟩ = some (.int .i64 n) ∧ w'.cell? ⟨w.heap.size + 2, 1, none⟩ = some (.int .i64 r) ∧ w'.cell? ⟨w.heap.size + 2, 2, none⟩ = some (.int .i64 d) ∧ w'.cell? ⟨w.heap.size + 2, 3, none⟩ = some (.int .i64 t) ∧ w'.cell? ⟨w.heap.size + 2, 4, none⟩ = some (.string (bs l)))
      (first | exact ⟨aC.1, aC.2.1, aC.2.2.1, aC.2.2.2.1, aC.2.2.2.2, bC.1, bC.2.1, bC.2.2.1, bC.2.2.2.1, bC.2.2.2.2, cC⟩ | exact ⟨aB.1, aB.2.1, aB.2.2.1, aB.2.2.2.1, aB.2.2.2.2, bB.1, bB.2.1, bB.2.2.1, bB.2.2.2.1, bB.2.2.2.2, cB⟩ | exact ⟨aA.1, aA.2.1, aA.2.2.1, aA.2.2.2.1, aA.2.2.2.2, bA.1, bA.2.1, bA.2.2.1, bA.2.2.2.1, bA.2.2.2.2, cA⟩ | go_keep)
      (first
        | (go_at_call 22
           (with_reducible refine (K1.out _).mono ?_)
           rintro x w3 ⟨rfl, hb3⟩
           have hb3' : Below w2.heap.size w2 w3 := ⟨hb3.os, hb3.tape, hb3.output, hb3.size, hb3.block⟩
           have L3 := hide (L2.out.trans (hb3'.mono s2))
           have s3 := L3.out.size
           have E3 := hide (E2.out.below hb3')
           have aB : Bt w3 w.heap.size a b c e f := aA.below hb3' aA.lt
           have bB : Bt w3 (w.heap.size + 1) a2 b2 c2 e2 f2 := bA.below hb3' bA.lt
           have cB : Bo w3 (w.heap.size + 2) n r d t l := cA.below hb3' cA.lt
           clear hb3 hb3')
        | (go_at_call 22
           (with_reducible refine (K2.out _).mono ?_)
           rintro x w4 ⟨rfl, hb4⟩
           have hb4' : Below w3.heap.size w3 w4 := ⟨hb4.os, hb4.tape, hb4.output, hb4.size, hb4.block⟩
           have L4 := hide (L3.out.trans (hb4'.mono s3))
           have s4 := L4.out.size
           have E4 := hide (E3.out.below hb4')
           have aC : Bt w4 w.heap.size a b c e f := aB.below hb4' aB.lt
           have bC : Bt w4 (w.heap.size + 1) a2 b2 c2 e2 f2 := bB.below hb4' bB.lt
           have cC : Bo w4 (w.heap.size + 2) n r d t l := cB.below hb4' cB.lt
           clear hb4 hb4'))
    have IL := hide (InL.three w4 ⟨1 + (a : Int) % 40, (b : Int) % 4, 256 + (c : Int) % 8, toOf e, [b8 (97 + f % 8)]⟩ ⟨1 + (a2 : Int) % 40, (b2 : Int) % 4, 256 + (c2 : Int) % 8, toOf e2, [b8 (97 + f2 % 8)]⟩ ⟨n, r, d, t, l⟩)
    have LL := hide (L4.out.alloc s4 (.cells #[.int .i64 (1 + (a : Int) % 40), .int .i64 ((b : Int) % 4), .int .i64 (256 + (c : Int) % 8), .int .i64 (toOf e), .string (bs [b8 (97 + f % 8)]), .int .i64 (1 + (a2 : Int) % 40), .int .i64 ((b2 : Int) % 4), .int .i64 (256 + (c2 : Int) % 8), .int .i64 (toOf e2), .string (bs [b8 (97 + f2 % 8)]), .int .i64 n, .int .i64 r, .int .i64 d, .int .i64 t, .string (bs l)] 25))
    have EL := hide (E4.out.alloc (.cells #[.int .i64 (1 + (a : Int) % 40), .int .i64 ((b : Int) % 4), .int .i64 (256 + (c : Int) % 8), .int .i64 (toOf e), .string (bs [b8 (97 + f % 8)]), .int .i64 (1 + (a2 : Int) % 40), .int .i64 ((b2 : Int) % 4), .int .i64 (256 + (c2 : Int) % 8), .int .i64 (toOf e2), .string (bs [b8 (97 + f2 % 8)]), .int .i64 n, .int .i64 r, .int .i64 d, .int .i64 t, .string (bs l)] 25))
    have sL : w.heap.size ≤ (w4.alloc (.cells #[.int .i64 (1 + (a : Int) % 40), .int .i64 ((b : Int) % 4), .int .i64 (256 + (c : Int) % 8), .int .i64 (toOf e), .string (bs [b8 (97 + f % 8)]), .int .i64 (1 + (a2 : Int) % 40), .int .i64 ((b2 : Int) % 4), .int .i64 (256 + (c2 : Int) % 8), .int .i64 (toOf e2), .string (bs [b8 (97 + f2 % 8)]), .int .i64 n, .int .i64 r, .int .i64 d, .int .i64 t, .string (bs l)] 25)).heap.size := LL.out.size
    have hos : ([⟨1 + (a : Int) % 40, (b : Int) % 4, 256 + (c : Int) % 8, toOf e, [b8 (97 + f % 8)]⟩, ⟨1 + (a2 : Int) % 40, (b2 : Int) % 4, 256 + (c2 : Int) % 8, toOf e2, [b8 (97 + f2 % 8)]⟩, ⟨n, r, d, t, l⟩] : List O5).length = 3 := rfl
    clear A2 B2 C2 aA bA cA aB bB cB aC bC cC L2 L3 L4 E2 E3 E4 K1 K2 x0 x1 x2 x3 x4 y0 y1 y2 y3 y4 z0 z1 z2 z3 z4
    revert IL LL EL sL hos HO
    generalize ([⟨1 + (a : Int) % 40, (b : Int) % 4, 256 + (c : Int) % 8, toOf e, [b8 (97 + f % 8)]⟩, ⟨1 + (a2 : Int) % 40, (b2 : Int) % 4, 256 + (c2 : Int) % 8, toOf e2, [b8 (97 + f2 % 8)]⟩, ⟨n, r, d, t, l⟩] : List O5) = os
    generalize w4.alloc (.cells #[.int .i64 (1 + (a : Int) % 40), .int .i64 ((b : Int) % 4), .int .i64 (256 + (c : Int) % 8), .int .i64 (toOf e), .string (bs [b8 (97 + f % 8)]), .int .i64 (1 + (a2 : Int) % 40), .int .i64 ((b2 : Int) % 4), .int .i64 (256 + (c2 : Int) % 8), .int .i64 (toOf e2), .string (bs [b8 (97 + f2 % 8)]), .int .i64 n, .int .i64 r, .int .i64 d, .int .i64 t, .string (bs l)] 25) = wL
    intro HO IL LL EL sL hos
    clear ha hb hc he hf ha2 hb2 hc2 he2 hf2 hl s1 s2 s3 s4
    go_wp2_with fail
    go_loopw [10] (UnRel wL) (fun i _ => 3 - (intOf i).toNat)
    case atStart => exact ⟨0, by omega, rfl, Below.refl _ _⟩
    case round =>
      obtain ⟨i, hi, rfl, hbi⟩ := hrel
      have BI := hide hbi
      clear hbi
      by_cases hlt : i < 3
      · have hd : decide ((i : Int) < 3) = true := by simp; omega
        go_wp2_with fail
        clear hd
        go_loopw [11] (UnRel wL) (fun k _ => 3 - (intOf k).toNat)
        case atStart => exact ⟨0, by omega, rfl, BI.out⟩
        case round =>
          obtain ⟨k, hk, rfl, hbk⟩ := hrel
          have BK := hide hbk
          clear hbk
          by_cases hlk : k < 3
          · have ci : BoAt _ w4.heap.size (i * 5) os[i].n os[i].r os[i].d os[i].t os[i].l := (IL.out.below BK.out) i (by omega)
            have ck : BoAt _ w4.heap.size (k * 5) os[k].n os[k].r os[k].d os[k].t os[k].l := (IL.out.below BK.out) k (by omega)
            have hli := HO.out i (by omega)
            have hlk2 := HO.out k (by omega)
            have KX := hide (fun W => oput_any os[i].n os[i].r os[i].d os[i].t os[i].l W hli)
            have KY := hide (fun W => oput_any os[k].n os[k].r os[k].d os[k].t os[k].l W hlk2)
            have HU : Hid (0 < (opB os[i].n os[i].r os[i].d os[i].t os[i].l).length → 0 < (opB os[k].n os[k].r os[k].d os[k].t os[k].l).length → (opB os[i].n os[i].r os[i].d os[i].t os[i].l).length ≤ (opB os[k].n os[k].r os[k].d os[k].t os[k].l).length → decide (opB os[i].n os[i].r os[i].d os[i].t os[i].l = (opB os[k].n os[k].r os[k].d os[k].t os[k].l).take (opB os[i].n os[i].r os[i].d os[i].t os[i].l).length) = opE os[i].n os[i].r os[i].d os[i].t os[i].l os[k].n os[k].r os[k].d os[k].t os[k].l) := hide (fun h1 h2 h3 => @unlike_E os[i] os[k] h1 h2 h3)
            have heq := fun W => op_eql os[i].n os[i].r os[i].d os[i].t os[i].l os[k].n os[k].r os[k].d os[k].t os[k].l W
            have hA1 := opB_le os[i].n os[i].r os[i].d os[i].t os[i].l
            have hB1 := opB_le os[k].n os[k].r os[k].d os[k].t os[k].l
            unfold opv at KX KY heq
            clear hli hlk2
            generalize opE os[i].n os[i].r os[i].d os[i].t os[i].l os[k].n os[k].r os[k].d os[k].t os[k].l = q at HU heq
            generalize opB os[i].n os[i].r os[i].d os[i].t os[i].l = A at KX HU hA1
            generalize opB os[k].n os[k].r os[k].d os[k].t os[k].l = B at KY HU hB1
            generalize os[i].n = xn at ci KX heq
            generalize os[i].r = xr at ci KX heq
            generalize os[i].d = xd at ci KX heq
            generalize os[i].t = xt at ci KX heq
            generalize os[i].l = xl at ci KX heq
            generalize os[k].n = yn at ck KY heq
            generalize os[k].r = yr at ck KY heq
            generalize os[k].d = yd at ck KY heq
            generalize os[k].t = yt at ck KY heq
            generalize os[k].l = yl at ck KY heq
            have CI := hide ci
            have CK := hide ck
            have EK := hide (EL.out.below BK.out)
            have sk := BK.out.size
            obtain ⟨x0, x1, x2, x3, x4⟩ := ci
            clear ck
            have HQ := hide heq
            clear heq
            go_wp2_with fail
            refine (KX.out _ EK.out).mono ?_
            rintro x w5 ⟨v5, rfl, ho5, hb5⟩
            have B5 := hide (BK.out.trans (hb5.mono sk))
            have E5 := hide (EK.out.below hb5)
            have R5 := hide (RSl.of_own ho5)
            have CI5 := hide (CI.out.below hb5)
            have CK5 := hide (CK.out.below hb5)
            have s5 := B5.out.size
            obtain ⟨f5, c5, rfl, _, _, _⟩ := R5.out.form
            clear x0 x1 x2 x3 x4 ho5 hb5 CI CK EK
            obtain ⟨y0, y1, y2, y3, y4⟩ := CK5.out
            go_wp2_with fail
            refine (KY.out _ E5.out).mono ?_
            rintro x w6 ⟨v6, rfl, ho6, hb6⟩
            have B6 := hide (B5.out.trans (hb6.mono s5))
            have R6 := hide (RSl.of_own ho6)
            have R56 := hide (R5.out.below hb6)
            have CI6 := hide (CI5.out.below hb6)
            have CK6 := hide (CK5.out.below hb6)
            obtain ⟨f6, c6, rfl, _, h6, _⟩ := R6.out.form
            clear y0 y1 y2 y3 y4 ho6 hb6 CI5 CK5 E5 R5 B5
            by_cases hA : A.length = 0
            · have dA : ((A.length : Int) == 0) = true := by rw [hA]; rfl
              go_wp2_with fail
              refine ⟨⟨k + 1, by omega, by go_num, B6.out⟩, ?_⟩
              simp [intOf]
              omega
            · have dA : ((A.length : Int) == 0) = false := by rw [beq_eq_false_iff_ne]; omega
              by_cases hB : B.length = 0
              · have dB : ((B.length : Int) == 0) = true := by rw [hB]; rfl
                go_wp2_with fail
                refine ⟨⟨k + 1, by omega, by go_num, B6.out⟩, ?_⟩
                simp [intOf]
                omega
              · have dB : ((B.length : Int) == 0) = false := by rw [beq_eq_false_iff_ne]; omega
                by_cases hAB : B.length < A.length
                · go_wp2_with fail
                  refine ⟨⟨k + 1, by omega, by go_num, B6.out⟩, ?_⟩
                  simp [intOf]
                  omega
                · have U := hide (HU.out (by omega) (by omega) (by omega))
                  have heq := HQ.out
                  have hq : (q != q) = false := by simp
                  have hsl : ∀ W, (Instr.slice 33 (.slice f6 B.length c6) none (some (.int .i64 (A.length : Int))) none).run Tryd.prog W = .ok (.slice f6 A.length c6) W := fun W => run_head_any f6 B.length c6 A.length (by omega) W
                  have N1 := hide (Hnd.of_RSl R56.out)
                  have N2 := hide ((Hnd.of_RSl R6.out).head A.length (by omega))
                  have i0 : (0 : Int) ≤ (i : Int) := by omega
                  have i3 : (i : Int) < 3 := by omega
                  have k0 : (0 : Int) ≤ (k : Int) := by omega
                  have k3 : (k : Int) < 3 := by omega
                  have hC := CI6.out
                  have hD := CK6.out
                  obtain ⟨x0, x1, x2, x3, x4⟩ := CI6.out
                  obtain ⟨y0, y1, y2, y3, y4⟩ := CK6.out
                  go_wp2_with fail
                  go_region_held3 (fun w' => w'.cell? ⟨w4.heap.size, i * 5, none⟩ = some (.int .i64 xn) ∧ w'.cell? ⟨w4.heap.size, i * 5 + 1, none⟩ = some (.int .i64 xr) ∧ w'.cell? ⟨w4.heap.size, i * 5 + 2, none⟩ = some (.int .i64 xd) ∧ w'.cell? ⟨w4.heap.size, i * 5 + 3, none⟩ = some (.int .i64 xt) ∧ w'.cell? ⟨w4.heap.size, i * 5 + 4, none⟩ = some (.string (bs xl)) ∧ w'.cell? ⟨w4.heap.size, k * 5, none⟩ = some (.int .i64 yn) ∧ w'.cell? ⟨w4.heap.size, k * 5 + 1, none⟩ = some (.int .i64 yr) ∧ w'.cell? ⟨w4.heap.size, k * 5 + 2, none⟩ = some (.int .i64 yd) ∧ w'.cell? ⟨w4.heap.size, k * 5 + 3, none⟩ = some (.int .i64 yt) ∧ w'.cell? ⟨w4.heap.size, k * 5 + 4, none⟩ = some (.string (bs yl)))
                    (first | exact ⟨hC.1, hC.2.1, hC.2.2.1, hC.2.2.2.1, hC.2.2.2.2, hD⟩ | go_keep)
                    (first
                      | (go_at_call 16
                         (with_reducible refine (same_any (.slice f5 A.length c5) (.slice f6 A.length c6) A (B.take A.length) _ ?h1 ?h2).mono ?_)
                         (case h1 => exact N1.out)
                         (case h2 => exact N2.out)
                         rintro x w7 ⟨rfl, hw7⟩
                         rw [U.out]
                         subst hw7))
                  go_wp2_with fail
                  refine ⟨⟨k + 1, by omega, by go_num, ⟨B6.out.os, B6.out.tape, B6.out.output, B6.out.size, B6.out.block⟩⟩, ?_⟩
                  simp [intOf]
                  omega
          · obtain rfl : k = 3 := by omega
            go_wp2_with fail
            refine ⟨⟨i + 1, by omega, by go_num, BK.out⟩, ?_⟩
            simp [intOf]
            omega
      · obtain rfl : i = 3 := by omega
        go_wp2
        go_ret
        exact ⟨rfl, LL.out.trans (BI.out.mono sL)⟩
end Go.Proofs.YtjgnneajpkhppaaDoor
