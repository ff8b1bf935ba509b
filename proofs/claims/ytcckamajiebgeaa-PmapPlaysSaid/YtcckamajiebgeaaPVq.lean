/-
  What PmapPlays has behind an act that was done; what it has when the version is appended. Condition: the program keeps the contracts.
-/
import Derived.Test.YtcckamajiebgeaaPVers
import Derived.Test.YtcckamajiebgeaaPArg
namespace Go.Proofs.Ytcckamajiebgeaa
open Go.RowKit Go.Maps
set_option linter.unusedVariables false
set_option linter.unusedSimpArgs false
set_option maxRecDepth 100000

theorem OwnH.cellsAt {w : World} {base b o m c : Nat} {l : List (Int × Int)} (h : OwnH w base (.slice (some ⟨b, o, none⟩) m c) l) (k : Nat) (hk : k < l.length) : w.cell? ⟨b, o + k * 2, none⟩ = some (.int .i64 l[k].1) ∧ w.cell? ⟨b, o + k * 2 + 1, none⟩ = some (.int .i64 l[k].2) := by
  obtain ⟨b', o', e, hat⟩ := h.at.lit (by omega)
  cases e
  exact hat.two k hk
/-- What an edit says, without its memory. -/
structure Ef (A : Ar) (U : Nat) (T : Tr) (ps : List Pp) (T1 : Tr) (A1 : Ar) (U1 : Nat) (made gone : List (Int × Int)) : Prop where
  uu : U1 ≤ U + 1000
  st : Stands A1 T1
  prs : T1.prs = ps
  mad : made.Perm (miH T1.hds T.hds)
  gn : gone.Perm (miH T.hds T1.hds)
  mono : ∀ s t x, A.get s t = some x → A1.get s t = some x
  live : A1.live = A.live + made.length
  few : made.length ≤ 3 * T.high + 1
theorem Ef.of {P : MapPred} {W w w' : World} {gm most U : Nat} {A : Ar} {T : Tr} {ps : List Pp} {vm vg : Value} {T' : Tr} {A' : Ar} {U' : Nat} {made gone : List (Int × Int)} (E : Ed P W w w' gm most U A T ps vm vg T' A' U' made gone) : Ef A U T ps T' A' U' made gone :=
  ⟨E.uu, E.st, E.prs, E.mad, E.gn, E.mono, E.live, E.few⟩
structure Vq (P : MapPred) (W w : World) (gm i : Nat) (vr vw : Value) (vs : List Value) (Ts : List Tr) (A : Ar) (U ke : Nat) (r : Int × Int) (am : Option Addr) (cm : Nat) (ag : Option Addr) (cg : Nat) (made gone : List (Int × Int)) (aq : Option Addr) (cq : Nat) (ps : List Pp) : Prop where
  pm : P W w gm 2000 U A
  uu : U ≤ 1000 * (i + 1)
  st : ∀ T ∈ Ts, Stands A T ∧ T.prs.length ≤ i
  live : A.live ≤ 28 * (i + 1)
  roots : OwnH w W.heap.size vr (Ts.map Tr.root)
  wants : Ws w W.heap.size vw vs (Ts.map Tr.prs)
  len : Ts.length ≤ i + 1
  pos : 0 < Ts.length
  eb : Eb w ke r (.slice am made.length cm) (.slice ag gone.length cg)
  om : OwnH w W.heap.size (.slice am made.length cm) made
  og : OwnH w W.heap.size (.slice ag gone.length cg) gone
  q : OwnP w W.heap.size (.slice aq ps.length cq) ps
theorem Vq.below {P : MapPred} (H : MapOk P) {W w w' : World} {gm i : Nat} {vr vw : Value} {vs : List Value} {Ts : List Tr} {A : Ar} {U ke : Nat} {r : Int × Int} {am : Option Addr} {cm : Nat} {ag : Option Addr} {cg : Nat} {made gone : List (Int × Int)} {aq : Option Addr} {cq : Nat} {ps : List Pp} (h : Vq P W w gm i vr vw vs Ts A U ke r am cm ag cg made gone aq cq ps) (hb : Below w.heap.size w w') : Vq P W w' gm i vr vw vs Ts A U ke r am cm ag cg made gone aq cq ps :=
  ⟨H.below h.pm hb, h.uu, h.st, h.live, h.roots.below hb, h.wants.below hb, h.len, h.pos, h.eb.below hb, h.om.below hb, h.og.below hb, h.q.below hb⟩
theorem Vq.of {P : MapPred} (H : MapOk P) {W wr w7 : World} {gm i : Nat} {vr vw : Value} {vs : List Value} {Ts : List Tr} {A A1 : Ar} {U U1 ke : Nat} {T T1 : Tr} {am : Option Addr} {cm : Nat} {ag : Option Addr} {cg : Nat} {made gone : List (Int × Int)} {aq : Option Addr} {cq : Nat} {ps : List Pp} (F : Vp P W wr gm i vr vw vs Ts A U) (hT : T.high ≤ 9) (X : Eds P W wr w7 gm 2000 U1 A1 T1.root am cm ag cg made gone ke) (E : Ef A U T ps T1 A1 U1 made gone) (hq : OwnP w7 W.heap.size (.slice aq ps.length cq) ps) :
    Vq P W w7 gm i vr vw vs Ts A1 U1 ke T1.root am cm ag cg made gone aq cq ps := by
  have hs := (H.bel F.pm).size
  have h1 := E.uu
  have h2 := E.few
  have h3 := E.live
  have h4 := F.uu
  have h5 := F.live
  exact ⟨X.pm, by omega, fun T hT => ⟨(F.st T hT).1.mono E.mono, (F.st T hT).2⟩, by omega, F.roots.kp X.kp, F.wants.kp X.kp, F.len, F.pos, X.eb, X.om.base hs, X.og.base hs, hq⟩
/-- Behind both appends. -/
theorem Vq.done {P : MapPred} (H : MapOk P) {W w w2 w3 w4 w5 : World} {gm i : Nat} {vr vw vr' vw' : Value} {vs : List Value} {Ts : List Tr} {A : Ar} {U ke : Nat} {T1 : Tr} {am : Option Addr} {cm : Nat} {ag : Option Addr} {cg : Nat} {made gone : List (Int × Int)} {aq : Option Addr} {cq : Nat} {ps : List Pp} (h : Vq P W w gm i vr vw vs Ts A U ke T1.root am cm ag cg made gone aq cq ps)
    (hst : Stands A T1) (hp : T1.prs = ps) (hl : ps.length ≤ i + 1) (hb2 : Below w.heap.size w w2) (ho : OwnH w3 W.heap.size vr' (Ts.map Tr.root ++ [T1.root])) (hg : w2.grownBy w3 vr.ownBlock) (hb4 : Below w3.heap.size w3 w4) (hr : w5.ownsRow W.heap.size 35 1 vw' (Ts.length + 1) (vs ++ [.slice aq ps.length cq])) (hg5 : w4.grownBy w5 vw.ownBlock) :
    Vp P W w5 gm (i + 1) vr' vw' (vs ++ [.slice aq ps.length cq]) (Ts ++ [T1]) A U := by
  have h2 := h.below H hb2
  have k3 : ∀ {k : Nat} {cs : Array Value} {t : TypeId} {z : Nat × Nat}, w2.heap[k]? = some (Obj.cells cs t z) → t ≠ 28 → w3.heap[k]? = some (Obj.cells cs t z) := fun {k cs t z} e ht => (hg.block k (Array.getElem?_eq_some_iff.1 e).1 (fun e2 => row_ne h2.roots e ht e2.symm)).trans e
  have M3 : Mod vr.ownBlock.toList w2 w3 := Mod.of_grown hg (fun k hk => by simp [hk])
  have P3 : P W w3 gm 2000 U A := H.mod h2.pm M3 fun k hk => by
    have hk : vr.ownBlock = some k := by simpa using hk
    obtain ⟨cur, hc⟩ := row_block h2.roots hk
    exact ⟨(World.ownsRow.lt h2.roots k hk).1, _, _, _, hc, by decide, by decide, by decide, by decide⟩
  have W3 := h2.wants.grown h2.roots hg
  have Q3 : OwnP w3 W.heap.size (.slice aq ps.length cq) ps := row_kept h2.q fun b hb => by
    obtain ⟨cur, hc⟩ := row_block h2.q hb
    rw [hc]
    exact k3 hc (by decide)
  have P4 := H.below P3 hb4
  have W4 := W3.below hb4
  have Q4 := Q3.below hb4
  have M5 : Mod vw.ownBlock.toList w4 w5 := Mod.of_grown hg5 (fun k hk => by simp [hk])
  have P5 : P W w5 gm 2000 U A := H.mod P4 M5 fun k hk => by
    have hk : vw.ownBlock = some k := by simpa using hk
    obtain ⟨cur, hc⟩ := row_block W4.row hk
    exact ⟨(World.ownsRow.lt W4.row k hk).1, _, _, _, hc, by decide, by decide, by decide, by decide⟩
  have R5 := (ho.below hb4).grown W4 hg5
  have W5 := W4.push Q4 (by simpa using hr) hg5
  refine ⟨P5, h.uu, fun T hT => ?_, h.live, by simpa using R5, by simpa [hp] using W5, by simp; exact h.len, by simp⟩
  rcases List.mem_append.1 hT with hT | hT
  · exact ⟨(h.st T hT).1, Nat.le_succ_of_le (h.st T hT).2⟩
  · rw [List.mem_singleton.1 hT, hp]
    exact ⟨hst, hl⟩
theorem wpList_append_hn (w : World) {ops : Array Oper} {rest : List Oper} {o : Oper} {a : Act} {Q : Exit → Act → World → Prop} (hgd : o.guard = none) (s x : Operand)
    (ho : o.op = .call { callee := .builtin .append, args := #[s, x], argTypes := #[29, 29] })
    (base : Nat) (v : Value) (os : List (Int × Int)) (hs : a.eval s = v) (hown : OwnH w base v os) (A : Option Addr) (c : Nat) (l : List (Int × Int)) (m n : Nat) (hm : l.length = m) (hn : (os ++ l).length = n) (hx : a.eval x = .slice A m c) (hO : Hs w A c l) (h63 : os.length + l.length ≤ 1000000) (hbase : base ≤ w.heap.size)
    (h : ∀ A' c' w', OwnH w' base (.slice A' n c') (os ++ l) → w.grownBy w' v.ownBlock → ((Value.slice A' n c').ownBlock = v.ownBlock ∨ (Value.slice A' n c').ownBlock = some w.heap.size) → wpList Try.prog ops Q rest (a.put o.dst (.slice A' n c')) w') :
    wpList Try.prog ops Q (o :: rest) a w := by
  subst hm hn
  exact wpList_append_h w hgd s x ho base v os hs hown A c l hx hO h63 hbase h
theorem OwnP.setE {w : World} {base ke : Nat} {v : Value} {l : List Pp} {u0 u1 u2 u3 : Value} (h : OwnP w base v l) (hZ : w.heap[ke]? = some (.cells #[u0, u1, u2, u3] 34 (0, 0))) (x0 x1 x2 x3 : Value) : OwnP ((((w.setCell ⟨ke, 0, none⟩ x0).setCell ⟨ke, 1, none⟩ x1).setCell ⟨ke, 2, none⟩ x2).setCell ⟨ke, 3, none⟩ x3) base v l := row_kept h fun b hb => by
  have hne : b ≠ ke := by
    rintro rfl
    exact row_ne h hZ (by decide) hb
  exact (Below.heap_setCell _ _ _ _ hne).trans ((Below.heap_setCell _ _ _ _ hne).trans ((Below.heap_setCell _ _ _ _ hne).trans (Below.heap_setCell _ _ _ _ hne)))
/-- Sets that are one by a permutation. -/
theorem perm_sets {a b : List (Int × Int)} (h : a.Perm b) : a.length = b.length ∧ (∀ x ∈ a, x ∈ b) ∧ ∀ x ∈ b, x ∈ a := ⟨h.length_eq, fun x hx => h.mem_iff.1 hx, fun x hx => h.mem_iff.2 hx⟩
end Go.Proofs.Ytcckamajiebgeaa
