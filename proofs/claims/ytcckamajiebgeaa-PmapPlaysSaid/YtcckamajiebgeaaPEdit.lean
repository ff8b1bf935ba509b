/-
  An edit that is written into a block of its own, before or behind the call that tells it. Condition: the program keeps the contracts.
-/
import Derived.Test.YtcckamajiebgeaaPMade
namespace Go.Proofs.Ytcckamajiebgeaa
open Go.RowKit
set_option linter.unusedVariables false
set_option linter.unusedSimpArgs false
set_option maxRecDepth 100000

theorem Ub.at {W w : World} {a : Option Addr} {cap : Nat} {l : List UInt8} (h : ByteArg W a l.length cap l) (hb : Below W.heap.size W w) : Ub W w a cap l :=
  (Ub.of_arg h).keep fun b hb' => by
    rcases hb' with ⟨h1, _⟩ | ⟨cs, z, h1⟩
    · exact hb.block b h1
    · exact hb.block b (Array.getElem?_eq_some_iff.1 h1).1
/-- A byte that came in, in each world behind. -/
theorem byte_at {W : World} {a : Option Addr} {cap : Nat} {l : List UInt8} (h : ByteArg W a l.length cap l) {i : Nat} (hi : i < l.length) : ∃ b o, a = some ⟨b, o, none⟩ ∧ ∀ V, Below W.heap.size W V → V.cell? ⟨b, o + i, none⟩ = some (.int .u8 l[i].toNat) := by
  obtain ⟨b, o, e, hat⟩ := h.lit (by omega)
  exact ⟨b, o, e, fun V hV => cell_b hV (hat i hi)⟩
theorem byte_b (b : UInt8) : i64B (b.toNat : Int) := by
  have := b.toNat_lt
  unfold i64B
  omega
theorem OwnH.base {w : World} {base base' : Nat} {v : Value} {l : List (Int × Int)} (h : OwnH w base v l) (hb : base' ≤ base) : OwnH w base' v l := row_base h hb
theorem OwnP.base {w : World} {base base' : Nat} {v : Value} {l : List Pp} (h : OwnP w base v l) (hb : base' ≤ base) : OwnP w base' v l := row_base h hb
/-- An edit in its block, behind a call. -/
structure Eds (P : MapPred) (W w w' : World) (gm most U : Nat) (A : Ar) (r : Int × Int) (am : Option Addr) (cm : Nat) (ag : Option Addr) (cg : Nat) (made gone : List (Int × Int)) (ke : Nat) : Prop where
  pm : P W w' gm most U A
  kp : Kp w w'
  eb : Eb w' ke r (.slice am made.length cm) (.slice ag gone.length cg)
  om : OwnH w' w.heap.size (.slice am made.length cm) made
  og : OwnH w' w.heap.size (.slice ag gone.length cg) gone
theorem Eds.late {P : MapPred} (H : MapOk P) {W w V w5 : World} {gm most U : Nat} {A : Ar} {am : Option Addr} {cm : Nat} {ag : Option Addr} {cg : Nat} {made gone : List (Int × Int)} (hV : Below w.heap.size w V) (hp : P W w5 gm most U A) (hk : Kp V w5) (hm : OwnH w5 V.heap.size (.slice am made.length cm) made) (hg : OwnH w5 V.heap.size (.slice ag gone.length cg) gone) (r : Int × Int) :
    Eds P W w (w5.alloc (.cells #[.int .i64 r.1, .int .i64 r.2, .slice am made.length cm, .slice ag gone.length cg] 34)) gm most U A r am cm ag cg made gone w5.heap.size :=
  have D := (Below.refl w5.heap.size w5).alloc (Nat.le_refl _) (.cells #[.int .i64 r.1, .int .i64 r.2, .slice am made.length cm, .slice ag gone.length cg] 34)
  ⟨H.below hp D, ((Kp.of_below hV).trans hk).trans (Kp.of_below D), Eb.new _ _ _ _, (hm.base hV.size).below D, (hg.base hV.size).below D⟩
theorem Eds.early {P : MapPred} (H : MapOk P) {W w V w5 : World} {gm most U : Nat} {A : Ar} {am : Option Addr} {cm : Nat} {ag : Option Addr} {cg : Nat} {made gone : List (Int × Int)} {u0 u1 u2 u3 : Value} (hZ : w5.heap[w.heap.size]? = some (.cells #[u0, u1, u2, u3] 34 (0, 0))) (hW : W.heap.size ≤ w.heap.size) (hV : Below w.heap.size w V) (hp : P W w5 gm most U A) (hk : Kp V w5) (hm : OwnH w5 V.heap.size (.slice am made.length cm) made) (hg : OwnH w5 V.heap.size (.slice ag gone.length cg) gone) (r : Int × Int) :
    Eds P W w ((((w5.setCell ⟨w.heap.size, 0, none⟩ (.int .i64 r.1)).setCell ⟨w.heap.size, 1, none⟩ (.int .i64 r.2)).setCell ⟨w.heap.size, 2, none⟩ (.slice am made.length cm)).setCell ⟨w.heap.size, 3, none⟩ (.slice ag gone.length cg)) gm most U A r am cm ag cg made gone w.heap.size := by
  generalize hke : w.heap.size = ke at hZ hW ⊢
  have M : Mod [ke] w5 ((((w5.setCell ⟨ke, 0, none⟩ (.int .i64 r.1)).setCell ⟨ke, 1, none⟩ (.int .i64 r.2)).setCell ⟨ke, 2, none⟩ (.slice am made.length cm)).setCell ⟨ke, 3, none⟩ (.slice ag gone.length cg)) :=
    (((((Mod.refl [ke] w5).setCell (p := ⟨ke, 0, none⟩) (.inl (by simp)) _).setCell (p := ⟨ke, 1, none⟩) (.inl (by simp)) _).setCell (p := ⟨ke, 2, none⟩) (.inl (by simp)) _).setCell (p := ⟨ke, 3, none⟩) (.inl (by simp)) _)
  have e1 := Joins.block_setCell (i := 3) (Joins.block_setCell (i := 2) (Joins.block_setCell (i := 1) (Joins.block_setCell (i := 0) hZ (.int .i64 r.1)) (.int .i64 r.2)) (.slice am made.length cm)) (.slice ag gone.length cg)
  have hB : ∀ k, k < w5.heap.size → k ≠ ke → _ = _ := fun k hk hne => M.block k hk (by simpa using hne)
  have hK : Kp w w5 := (Kp.of_below hV).trans hk
  have hrow : ∀ {v : Value} {l : List (Int × Int)}, OwnH w5 V.heap.size v l → OwnH ((((w5.setCell ⟨ke, 0, none⟩ (.int .i64 r.1)).setCell ⟨ke, 1, none⟩ (.int .i64 r.2)).setCell ⟨ke, 2, none⟩ (.slice am made.length cm)).setCell ⟨ke, 3, none⟩ (.slice ag gone.length cg)) w.heap.size v l := fun {v l} h => by
    refine (OwnH.base ?_ hV.size)
    refine row_kept h fun b hb => ?_
    obtain ⟨cur, hc⟩ := row_block h hb
    refine hB b (row_lt h hb) ?_
    rintro rfl
    exact row_ne h hZ (by decide) hb
  rw [← hke]
  rw [hke]
  refine ⟨H.mod hp M fun j hj => ?_, ⟨Nat.le_trans hK.1 M.size, fun k cs t z hk' t1 t2 t3 => ?_⟩, ?_, hrow hm, hrow hg⟩
  · rw [List.mem_singleton.1 hj]
    exact ⟨hW, _, _, _, hZ, by decide, by decide, by decide, by decide⟩
  · have hlt := (Array.getElem?_eq_some_iff.1 hk').1
    exact (hB k (Nat.lt_of_lt_of_le hlt hK.1) (by omega)).trans (hK.2 k cs t z hk' t1 t2 t3)
  · unfold Eb
    simpa using e1
theorem fi_wo (k : Int) : ∀ (l : List Pp), decide ((woP k l).length < l.length) = (fiP k l).isSome
  | [] => by simp [woP, fiP]
  | x :: l => by
    have ih := fi_wo k l
    by_cases h : x.1 = k
    · have h1 : (woP k (x :: l)).length < (x :: l).length := by
        have : woP k (x :: l) = woP k l := by simp [woP, h]
        rw [this]
        exact Nat.lt_succ_of_le (List.length_filter_le _ _)
      rw [decide_eq_true h1]
      simp [fiP, h]
    · have h1 : woP k (x :: l) = x :: woP k l := by simp [woP, h]
      rw [h1]
      simp only [List.length_cons, Nat.add_lt_add_iff_right]
      rw [ih]
      simp [fiP, h]
end Go.Proofs.Ytcckamajiebgeaa
