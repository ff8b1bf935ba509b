/-
  A draft's node is closed: its height is told again. Conditions: the draft is in memory, the node's sides lie.
-/
import Derived.Test.YtcckamajiebgeaaRSmall
namespace Go.Proofs.Ytcckamajiebgeaa
open Go.RowKit
set_option linter.unusedVariables false
set_option linter.unusedSimpArgs false
set_option maxRecDepth 100000
open Dt

/-- What close leaves. -/
def ClRet (w0 : World) (gm gd : Nat) (gn : List (Int × Int)) (fs : List Nat) (p : Nat) (k v : Int) (l r : Dt) (w : World) (e : Ending) (w' : World) : Prop :=
  e = .returned (bvv (some p, 0, 0)) ∧ Stp w0 gm gd gn fs [p] w w' gn fs ∧ Fb w' p k v l.bv r.bv (1 + max l.high r.high)
set_option maxHeartbeats 4000000 in
theorem close_any {w0 w : World} {gm gd : Nat} {F : Int → Int → Option Nd} {gn : List (Int × Int)} {fs : List Nat} (C : Ctx w0 gm F) (hD : Dr w0 w gm gd gn fs) (p : Nat) (k v : Int) (h : Nat) (l r : Dt) (hp : Fb w p k v l.bv r.bv h) (hl : DIn w0.heap.size w l) (hr : DIn w0.heap.size w r) (il : l.Li F) (ir : r.Li F) (hn : l.high ≤ 1000 ∧ r.high ≤ 1000) (hpw : w0.heap.size ≤ p) :
    Calls Try.prog 45 #[.pointer (some ⟨gd, 0, none⟩), .pointer (some ⟨p, 0, none⟩)] w (ClRet w0 gm gd gn fs p k v l r w) := by
  have D := (Below.refl w.heap.size w).alloc (Nat.le_refl _) (.cells #[.pointer none, .int .i64 0, .int .i64 0] 76)
  have X := hide (show Bxb (w.alloc (.cells #[.pointer none, .int .i64 0, .int .i64 0] 76)) w.heap.size (none, 0, 0) from Bxb.new w (none, 0, 0))
  have KL := hide (fun (V : World) (hV : Below w.heap.size w V) => high_any C (hD.below hV) l (hl.below hV) il)
  have KR := hide (fun (V : World) (hV : Below w.heap.size w V) => high_any C (hD.below hV) r (hr.below hV) ir)
  have KP := hide (fun (V : World) (hV : Below w.heap.size w V) => show Fb V p k v l.bv r.bv h from (hV.block p hp.lt).trans hp)
  have KE := hide (fun (V V' : World) (hV : Below w.heap.size w V) (hm : Mod [p] V V') => (Stp.of_below hD hV [p]).trans (Stp.of_mod (hD.below hV) ((hV.block p hp.lt).trans hp) hpw hm) (fun k hk => .inl hk))
  have B := hide D
  have hpl := hp.lt
  unfold ClRet
  clear hp hl hr il ir C hD D
  generalize l.high = hL at *
  generalize r.high = hR at *
  generalize l.bv = bl at *
  generalize r.bv = br at *
  obtain ⟨hn1, hn2⟩ := hn
  obtain ⟨ol, sl, tl⟩ := bl
  obtain ⟨or', sr, tr⟩ := br
  unfold bvv pv at *
  simp only [Option.map_some] at *
  unfold Fb frv pv at KP
  simp only at KP
  have KC := hide (fun (V : World) (hV : Below w.heap.size w V) => (show Fb V p k v (ol, sl, tl) (or', sr, tr) h from KP.out V hV).nine)
  have KF := hide (fun (V : World) (hV : Below w.heap.size w V) (i : Nat) => (show Fb V p k v (ol, sl, tl) (or', sr, tr) h from KP.out V hV).fz i)
  have KH := hide (fun (V : World) (hV : Below w.heap.size w V) => show Fb (V.setCell ⟨p, 8, none⟩ (.int .i64 ((1 + max hL hR : Nat) : Int))) p k v (ol, sl, tl) (or', sr, tr) (1 + max hL hR) from (show Fb V p k v (ol, sl, tl) (or', sr, tr) h from KP.out V hV).setH (1 + max hL hR))
  have KN := hide (fun (V : World) (hV : Below w.heap.size w V) => (KH.out V hV).nine)
  unfold pv at KC KN
  simp only at KC KN
  generalize (ol.map fun q => (⟨q, 0, none⟩ : Addr)) = ml at *
  generalize (or'.map fun q => (⟨q, 0, none⟩ : Addr)) = mr at *
  have hcs : (hL < hR ∧ IntKind.i64.wrap (1 + (hR : Int)) = ((1 + max hL hR : Nat) : Int)) ∨ (¬ hL < hR ∧ IntKind.i64.wrap (1 + (hL : Int)) = ((1 + max hL hR : Nat) : Int)) := by
    by_cases hm : hL < hR
    · exact .inl ⟨hm, (wrap_in _ (by omega) (by omega)).trans (by omega)⟩
    · exact .inr ⟨hm, (wrap_in _ (by omega) (by omega)).trans (by omega)⟩
  have lx : w.heap.size < (w.alloc (.cells #[.pointer none, .int .i64 0, .int .i64 0] 76)).heap.size := by simp
  generalize ((1 + max hL hR : Nat) : Int) = hv at *
  generalize max hL hR = mx at *
  go_enter Try.func45, Try.ntmps45
  go_upto_region 1 with (fail)
  obtain ⟨kx, hkx⟩ : ∃ q, w.heap.size = q := ⟨_, rfl⟩
  have HKX := hide (Nat.le_of_eq hkx)
  rw [hkx] at X lx ⊢
  clear hkx
  generalize w.alloc (.cells #[.pointer none, .int .i64 0, .int .i64 0] 76) = w1 at *
  obtain ⟨-, -, z2, z3, z4, z5, z6, z7, -⟩ := KC.out _ B.out
  have BD1 := hide B.out.drew
  have KL1 := hide (KL.out _ BD1.out)
  rcases hcs with ⟨hm, wA⟩ | ⟨hm, wA⟩
  all_goals
    have A1 := hide (fun (w2 : World) (hb : Below w1.drew.heap.size w1.drew w2) => show Below w.heap.size w w2 ∧ Bxb w2 kx (none, 0, 0) from ⟨BD1.out.trans (hb.mono BD1.out.size), X.out.below (show Below w1.heap.size w1 w2 from ⟨hb.os, hb.tape, hb.output, hb.size, hb.block⟩)⟩)
    have A2 := hide (fun (w2 : World) (h2 : Below w.heap.size w w2) => show w2.cell? ⟨p, 2, none⟩ = some (.pointer ml) ∧ w2.cell? ⟨p, 3, none⟩ = some (.int .i64 sl) ∧ w2.cell? ⟨p, 4, none⟩ = some (.int .i64 tl) ∧ w2.cell? ⟨p, 5, none⟩ = some (.pointer mr) ∧ w2.cell? ⟨p, 6, none⟩ = some (.int .i64 sr) ∧ w2.cell? ⟨p, 7, none⟩ = some (.int .i64 tr) from by
      obtain ⟨-, -, y2, y3, y4, y5, y6, y7, -⟩ := KC.out _ h2
      exact ⟨y2, y3, y4, y5, y6, y7⟩)
    have A3 := hide (fun (w2 : World) (h2 : Below w.heap.size w w2) => show w2.cell? ⟨p, 8, none⟩ = some (.int .i64 (h : Int)) ∧ w2.frozen? ⟨p, 8, none⟩ = false from by
      obtain ⟨-, -, y2, y3, y4, y5, y6, y7, y8⟩ := KC.out _ h2
      exact ⟨y8, KF.out _ h2 8⟩)
    have A4 := hide (fun (w2 : World) (h2 : Below w.heap.size w w2) => show (w2.setCell ⟨p, 8, none⟩ (.int .i64 hv)).cell? ⟨p, 2, none⟩ = some (.pointer ml) ∧ (w2.setCell ⟨p, 8, none⟩ (.int .i64 hv)).cell? ⟨p, 3, none⟩ = some (.int .i64 sl) ∧ (w2.setCell ⟨p, 8, none⟩ (.int .i64 hv)).cell? ⟨p, 4, none⟩ = some (.int .i64 tl) ∧ (w2.setCell ⟨p, 8, none⟩ (.int .i64 hv)).cell? ⟨p, 5, none⟩ = some (.pointer mr) ∧ (w2.setCell ⟨p, 8, none⟩ (.int .i64 hv)).cell? ⟨p, 6, none⟩ = some (.int .i64 sr) ∧ (w2.setCell ⟨p, 8, none⟩ (.int .i64 hv)).cell? ⟨p, 7, none⟩ = some (.int .i64 tr) from by
      obtain ⟨-, -, y2, y3, y4, y5, y6, y7, -⟩ := KN.out _ h2
      exact ⟨y2, y3, y4, y5, y6, y7⟩)
    go_region_held3 (fun w' => w'.cell? ⟨p, 2, none⟩ = some (.pointer ml) ∧ w'.cell? ⟨p, 3, none⟩ = some (.int .i64 sl) ∧ w'.cell? ⟨p, 4, none⟩ = some (.int .i64 tl) ∧ w'.cell? ⟨p, 5, none⟩ = some (.pointer mr) ∧ w'.cell? ⟨p, 6, none⟩ = some (.int .i64 sr) ∧ w'.cell? ⟨p, 7, none⟩ = some (.int .i64 tr))
      (first | with_reducible exact hS3 | with_reducible exact hS2 | with_reducible exact hS1 | with_reducible exact ⟨z2, z3, z4, z5, z6, z7⟩ | go_keep)
      (first
        | (with_reducible refine KL1.out.mono ?_
           rintro e w2 ⟨rfl, hb⟩
           obtain ⟨b2, x2⟩ := A1.out _ hb
           have hS1 := A2.out _ b2
           have B2 := hide b2
           have X2 := hide x2
           clear hb b2 x2)
        | (with_reducible refine (KR.out _ B2.out).mono ?_
           rintro e w3 ⟨rfl, hb⟩
           have B3 := hide (B2.out.trans (hb.mono B2.out.size))
           have X3 := hide (X2.out.below hb)
           have hS2 := A2.out _ B3.out
           have hS3 := A4.out _ B3.out
           obtain ⟨u8, f8⟩ := A3.out _ B3.out
           clear hb))
    have X4 := hide (X3.out.other (KP.out _ B3.out) (by decide) 8 (.int .i64 hv))
    have M4 := hide (KH.out _ B3.out)
    have S4 := hide (KE.out w3 (w3.setCell ⟨p, 8, none⟩ (.int .i64 hv)) B3.out ((Mod.refl [p] w3).setCell (p := ⟨p, 8, none⟩) (.inl (by simp)) _))
    clear hS1 hS2 hS3 u8 f8 A1 A2 A3 A4 KN z2 z3 z4 z5 z6 z7 KL KR KP KE KC KF KH B B2 B3 X X2 X3 BD1 KL1 hm wA
    generalize (World.setCell w3 _ _) = w4 at *
    obtain ⟨b0, b1, b2⟩ := X4.out.three
    have g0 := X4.out.fz 0
    have g1 := X4.out.fz 1
    have g2 := X4.out.fz 2
    unfold pv at b0
    simp only [Option.map_none] at b0
    go_wp2_with fail
    refine bodyPost_ret (v := .agg #[.pointer (some ⟨p, 0, none⟩), .int .i64 0, .int .i64 0]) ?_ rfl ⟨rfl, S4.out.box X4.out HKX.out _ _ _, Fb.box X4.out M4.out _ _ _⟩
    rw [results_one rfl]
    go_simp
end Go.Proofs.Ytcckamajiebgeaa
