/-
  Contract of the law's made: a version that keys were put into, one by one; bytes that can be read. Conditions: the program keeps the contracts, there is room, and there are not more than sixty keys.
-/
import Derived.Test.YtcckamajiebgeaaPAwake
import Derived.IntWalk
import Derived.Deep.RegionHeld3
namespace Go.Proofs.Ytcckamajiebgeaa
open Go.RowKit
set_option linter.unusedVariables false
set_option linter.unusedSimpArgs false
set_option maxRecDepth 100000

/-- Bytes that can be read: they came in before a world, or lie in a row of bytes. -/
structure Ub (W w : World) (A : Option Addr) (c : Nat) (l : List UInt8) : Prop where
  le : l.length ≤ c
  most : c ≤ maxLen
  lit : 0 < l.length → ∃ b o, A = some ⟨b, o, none⟩ ∧ (b < W.heap.size ∨ ∃ cs z, w.heap[b]? = some (Obj.cells cs 5 z)) ∧ ∀ j (h : j < l.length), w.cell? ⟨b, o + j, none⟩ = some (.int .u8 l[j].toNat)
theorem Ub.of_arg {W : World} {a : Option Addr} {len cap : Nat} {l : List UInt8} (h : ByteArg W a len cap l) : Ub W W a cap l :=
  ⟨h.leq ▸ h.ceq, h.most, fun hp => by
    obtain ⟨b, o, e, hat⟩ := h.lit (h.leq ▸ hp)
    exact ⟨b, o, e, .inl (World.block_lt_of_cell? W _ (hat 0 hp)), hat⟩⟩
theorem Ub.keep {W w w' : World} {A : Option Addr} {c : Nat} {l : List UInt8} (h : Ub W w A c l) (hk : ∀ b, (b < W.heap.size ∧ b < w.heap.size ∨ ∃ cs z, w.heap[b]? = some (Obj.cells cs 5 z)) → w'.heap[b]? = w.heap[b]?) : Ub W w' A c l :=
  ⟨h.le, h.most, fun hp => by
    obtain ⟨b, o, e, hb, hat⟩ := h.lit hp
    have e1 := hk b (hb.imp_left fun h => ⟨h, World.block_lt_of_cell? w _ (hat 0 hp)⟩)
    exact ⟨b, o, e, hb.imp_right fun ⟨cs, z, h⟩ => ⟨cs, z, e1.trans h⟩, fun j hj => (World.cell?_of_block e1).trans (hat j hj)⟩⟩
theorem Ub.below {W w w' : World} {A : Option Addr} {c : Nat} {l : List UInt8} (h : Ub W w A c l) (hb : Below w.heap.size w w') : Ub W w' A c l := h.keep fun b hk => by
  rcases hk with ⟨_, h2⟩ | ⟨cs, z, h2⟩
  · exact hb.block b h2
  · exact hb.block b (Array.getElem?_eq_some_iff.1 h2).1
theorem Ub.kp {W w w' : World} {A : Option Addr} {c : Nat} {l : List UInt8} (h : Ub W w A c l) (h1 : Below W.heap.size W w) (h2 : Below W.heap.size W w') (hk : Kp w w') : Ub W w' A c l := h.keep fun b hb => by
  rcases hb with ⟨hb, _⟩ | ⟨cs, z, hb⟩
  · exact (h2.block b hb).trans (h1.block b hb).symm
  · rw [hb]
    exact hk.2 b _ _ _ hb (by decide) (by decide) (by decide)
theorem Ub.setH {W w : World} {A : Option Addr} {c k : Nat} {l : List UInt8} {s t : Int} (h : Ub W w A c l) (hb : Hb w k s t) (hk : W.heap.size ≤ k) (u v : Value) : Ub W ((w.setCell ⟨k, 0, none⟩ u).setCell ⟨k, 1, none⟩ v) A c l := h.keep fun b hb' => by
  have hne : b ≠ k := by
    rintro rfl
    rcases hb' with ⟨h1, _⟩ | ⟨cs, z, h1⟩
    · omega
    · unfold Hb at hb
      rw [hb] at h1
      simp at h1
  exact (Below.heap_setCell _ _ _ _ hne).trans (Below.heap_setCell _ _ _ _ hne)
theorem OwnP.kp {w w' : World} {base : Nat} {v : Value} {l : List Pp} (h : OwnP w base v l) (hk : Kp w w') : OwnP w' base v l := row_kept h fun b hb => by
  obtain ⟨cur, hc⟩ := row_block h hb
  rw [hc]
  exact hk.2 b _ _ _ hc (by decide) (by decide) (by decide)
theorem OwnP.setH {w : World} {base k : Nat} {v : Value} {l : List Pp} {s t : Int} (h : OwnP w base v l) (hb : Hb w k s t) (u u' : Value) : OwnP ((w.setCell ⟨k, 0, none⟩ u).setCell ⟨k, 1, none⟩ u') base v l := row_kept h fun b hb' => by
  have hne : b ≠ k := by
    rintro rfl
    exact row_ne h hb (by decide) hb'
  exact (Below.heap_setCell _ _ _ _ hne).trans (Below.heap_setCell _ _ _ _ hne)
theorem OwnP.grown {w w' : World} {base : Nat} {v : Value} {l : List Pp} (h : OwnP w base v l) (hb : Below w.heap.size w w') : OwnP w' base v l := h.below hb
theorem Hb.set {w : World} {k : Nat} {s t p q : Int} (h : Hb w k s t) : Hb ((w.setCell ⟨k, 0, none⟩ (.int .i64 p)).setCell ⟨k, 1, none⟩ (.int .i64 q)) k p q := by
  have h1 := Joins.block_setCell (i := 0) h (.int .i64 p)
  have h2 := Joins.block_setCell (i := 1) h1 (.int .i64 q)
  unfold Hb
  simpa using h2
theorem Hb.setO {w : World} {k j : Nat} {s t : Int} (h : Hb w k s t) (hne : k ≠ j) (u v : Value) : Hb ((w.setCell ⟨j, 0, none⟩ u).setCell ⟨j, 1, none⟩ v) k s t :=
  ((Below.heap_setCell _ _ _ _ hne).trans (Below.heap_setCell _ _ _ _ hne)).trans h
theorem mo_setH {P : MapPred} (H : MapOk P) {W w : World} {g m U k : Nat} {A : Ar} {s t : Int} (h : P W w g m U A) (hb : Hb w k s t) (hk : W.heap.size ≤ k) (u v : Value) : P W ((w.setCell ⟨k, 0, none⟩ u).setCell ⟨k, 1, none⟩ v) g m U A :=
  H.mod h (fs := [k]) (((Mod.refl [k] w).setCell (p := ⟨k, 0, none⟩) (.inl (by simp)) u).setCell (p := ⟨k, 1, none⟩) (.inl (by simp)) v) fun j hj => by
    rw [List.mem_singleton.1 hj]
    exact ⟨hk, _, _, _, hb, by decide, by decide, by decide, by decide⟩
theorem results_cell_tmp2 {fn : Func} {p u x : Tmp} {ty : TypeId} (h : fn.results = #[.cell p ty, .tmp u, .tmp x]) (tmps : Array Value) (P : Program) (w : World) :
    (results fn tmps).run P w =
      ((asAddr (tmps.getD p undef)).run P w).andThen fun a w₁ => ((loadVar ty a).run P w₁).andThen fun v w₂ => .ok (.tuple #[v, tmps.getD u undef, tmps.getD x undef]) w₂ := by
  simp only [results, h]
  simp [Sem.run_bind, Result.andThen]
theorem ed_zero {w : World} {b : Nat} {u0 u1 u2 u3 : Value} (h : w.heap[b]? = some (.cells #[u0, u1, u2, u3] 34 (0, 0))) :
    w.heap[b]? = some (.cells #[u0, u1, u2, u3] 34 (0, 0)) ∧ w.cell? ⟨b, 0, none⟩ = some u0 ∧ w.cell? ⟨b, 1, none⟩ = some u1 ∧ w.cell? ⟨b, 2, none⟩ = some u2 ∧ w.cell? ⟨b, 3, none⟩ = some u3 ∧
    w.frozen? ⟨b, 0, none⟩ = false ∧ w.frozen? ⟨b, 1, none⟩ = false ∧ w.frozen? ⟨b, 2, none⟩ = false ∧ w.frozen? ⟨b, 3, none⟩ = false :=
  ⟨h, cell_of_row w b 0 _ _ (0, 0) h, cell_of_row w b 1 _ _ (0, 0) h, cell_of_row w b 2 _ _ (0, 0) h, cell_of_row w b 3 _ _ (0, 0) h, Joins.unfrozen_of_block h 0, Joins.unfrozen_of_block h 1, Joins.unfrozen_of_block h 2, Joins.unfrozen_of_block h 3⟩
/-- The block of an edit that was made before a call. -/
theorem kp_zero {w w' : World} {u0 u1 u2 u3 : Value} (h : Kp (w.alloc (.cells #[u0, u1, u2, u3] 34)).drew w') : w'.heap[w.heap.size]? = some (.cells #[u0, u1, u2, u3] 34 (0, 0)) :=
  h.2 _ _ _ _ (heap_alloc_new w _) (by decide) (by decide) (by decide)
/-- The pairs behind so many keys. -/
def mkP (l : List UInt8) : Nat → List Pp
  | 0 => []
  | i + 1 => wiP ((l.getD i 0).toNat : Int) (i : Int) (mkP l i)
theorem mkP_length (l : List UInt8) (i : Nat) : (mkP l i).length ≤ i := by
  induction i with
  | zero => exact Nat.le_refl _
  | succ i ih =>
    have := wiP_length ((l.getD i 0).toNat : Int) (i : Int) (mkP l i)
    simp only [mkP]
    omega
/-- What made has behind so many keys. -/
structure Md (P : MapPred) (W w0 w : World) (gm most U0 L0 i : Nat) (Ab : Option Addr) (cb : Nat) (l : List UInt8) (k4 k7 : Nat) (vw : Value) (T : Tr) (A : Ar) (U : Nat) : Prop where
  pm : P W w gm most U A
  uu : U ≤ U0 + 1000 * i
  st : Stands A T
  prs : T.prs = mkP l i
  live : A.live ≤ L0 + 28 * i
  h4 : Hb w k4 0 0
  h7 : Hb w k7 T.root.1 T.root.2
  ne : k4 ≠ k7
  b4 : W.heap.size ≤ k4
  b7 : W.heap.size ≤ k7
  own : OwnP w w0.heap.size vw (mkP l i)
  ub : Ub W w Ab cb l
  sz : w0.heap.size ≤ w.heap.size
def MdRel (P : MapPred) (W w0 : World) (gm most U0 L0 : Nat) (Ab : Option Addr) (cb : Nat) (l : List UInt8) (k4 k7 : Nat) (vw vi : Value) (w : World) : Prop := ∃ i T A U, i ≤ l.length ∧ vi = .int .i64 (i : Int) ∧ Md P W w0 w gm most U0 L0 i Ab cb l k4 k7 vw T A U
/-- What made answers. -/
def MdRet (P : MapPred) (W : World) (gm most U0 L0 : Nat) (Ab : Option Addr) (cb : Nat) (l : List UInt8) (w : World) (e : Ending) (w' : World) : Prop := ∃ T A U vw, e = .returned (.tuple #[.agg #[.int .i64 T.root.1, .int .i64 T.root.2], vw, .bool true]) ∧ P W w' gm most U A ∧ U ≤ U0 + 1000 * l.length ∧ Stands A T ∧ T.prs = mkP l l.length ∧ A.live ≤ L0 + 28 * l.length ∧ OwnP w' w.heap.size vw (mkP l l.length) ∧ Ub W w' Ab cb l
/-- What made has behind a Put, before the root is written. -/
structure Mp (P : MapPred) (W w0 w : World) (gm most U0 L0 i : Nat) (Ab : Option Addr) (cb : Nat) (l : List UInt8) (k4 k7 : Nat) (r : Int × Int) (vw : Value) (T : Tr) (A : Ar) (U : Nat) : Prop where
  pm : P W w gm most U A
  uu : U ≤ U0 + 1000 * (i + 1)
  st : Stands A T
  prs : T.prs = mkP l (i + 1)
  live : A.live ≤ L0 + 28 * (i + 1)
  h4 : Hb w k4 0 0
  h7 : Hb w k7 r.1 r.2
  own : OwnP w w0.heap.size vw (mkP l i)
  ub : Ub W w Ab cb l
  sz : w0.heap.size ≤ w.heap.size
theorem Mp.below {P : MapPred} (H : MapOk P) {W w0 w w' : World} {gm most U0 L0 i : Nat} {Ab : Option Addr} {cb : Nat} {l : List UInt8} {k4 k7 : Nat} {r : Int × Int} {vw : Value} {T : Tr} {A : Ar} {U : Nat} (h : Mp P W w0 w gm most U0 L0 i Ab cb l k4 k7 r vw T A U) (hb : Below w.heap.size w w') : Mp P W w0 w' gm most U0 L0 i Ab cb l k4 k7 r vw T A U :=
  ⟨H.below h.pm hb, h.uu, h.st, h.prs, h.live, h.h4.below hb, h.h7.below hb, h.own.below hb, h.ub.below hb, Nat.le_trans h.sz hb.size⟩
theorem Md.put {P : MapPred} (H : MapOk P) {W w0 w V w' : World} {gm most U0 L0 i : Nat} {Ab : Option Addr} {cb : Nat} {l : List UInt8} {k4 k7 : Nat} {vw : Value} {T : Tr} {A : Ar} {U : Nat} (h : Md P W w0 w gm most U0 L0 i Ab cb l k4 k7 vw T A U) (hV : Below w.heap.size w V) {key : Int} {vm vg : Value} {T' : Tr} {A' : Ar} {U' : Nat} {made gone : List (Int × Int)} (E : Ed P W V w' gm most U A T (wiP key (i : Int) T.prs) vm vg T' A' U' made gone) (hh : T.high ≤ 9) (hk : mkP l (i + 1) = wiP key (i : Int) (mkP l i)) :
    Mp P W w0 w' gm most U0 L0 i Ab cb l k4 k7 T.root vw T' A' U' := by
  have h1 := E.live
  have h2 := E.few
  have h3 := h.live
  have h4 := E.uu
  have h5 := h.uu
  refine ⟨E.pm, by omega, E.st, by rw [hk, ← h.prs]; exact E.prs, by omega, (h.h4.below hV).kp E.kp, (h.h7.below hV).kp E.kp, (h.own.below hV).kp E.kp, (h.ub.below hV).kp ((H.bel h.pm).trans (hV.mono (H.bel h.pm).size)) (H.bel E.pm) E.kp, Nat.le_trans h.sz (Nat.le_trans hV.size E.kp.1)⟩
theorem Mp.setE {P : MapPred} (H : MapOk P) {W w0 w : World} {gm most U0 L0 i : Nat} {Ab : Option Addr} {cb : Nat} {l : List UInt8} {k4 k7 : Nat} {r : Int × Int} {vw : Value} {T : Tr} {A : Ar} {U : Nat} (h : Mp P W w0 w gm most U0 L0 i Ab cb l k4 k7 r vw T A U) {ke : Nat} {u0 u1 u2 u3 : Value} (hZ : w.heap[ke]? = some (.cells #[u0, u1, u2, u3] 34 (0, 0))) (hk : W.heap.size ≤ ke) (p : Int × Int) (v2 v3 : Value) :
    Mp P W w0 ((((w.setCell ⟨ke, 0, none⟩ (.int .i64 p.1)).setCell ⟨ke, 1, none⟩ (.int .i64 p.2)).setCell ⟨ke, 2, none⟩ v2).setCell ⟨ke, 3, none⟩ v3) gm most U0 L0 i Ab cb l k4 k7 r vw T A U ∧ Eb ((((w.setCell ⟨ke, 0, none⟩ (.int .i64 p.1)).setCell ⟨ke, 1, none⟩ (.int .i64 p.2)).setCell ⟨ke, 2, none⟩ v2).setCell ⟨ke, 3, none⟩ v3) ke p v2 v3 := by
  have M : Mod [ke] w ((((w.setCell ⟨ke, 0, none⟩ (.int .i64 p.1)).setCell ⟨ke, 1, none⟩ (.int .i64 p.2)).setCell ⟨ke, 2, none⟩ v2).setCell ⟨ke, 3, none⟩ v3) :=
    (((((Mod.refl [ke] w).setCell (p := ⟨ke, 0, none⟩) (.inl (by simp)) _).setCell (p := ⟨ke, 1, none⟩) (.inl (by simp)) _).setCell (p := ⟨ke, 2, none⟩) (.inl (by simp)) _).setCell (p := ⟨ke, 3, none⟩) (.inl (by simp)) _)
  have e1 := Joins.block_setCell (i := 3) (Joins.block_setCell (i := 2) (Joins.block_setCell (i := 1) (Joins.block_setCell (i := 0) hZ (.int .i64 p.1)) (.int .i64 p.2)) v2) v3
  have hB : ∀ k, k < w.heap.size → k ≠ ke → _ = _ := fun k hk hne => M.block k hk (by simpa using hne)
  have hne : ∀ {k : Nat} {cs : Array Value} {t : TypeId} {z : Nat × Nat}, w.heap[k]? = some (Obj.cells cs t z) → t ≠ 34 → k ≠ ke := by
    rintro k cs t z h1 h2 rfl
    rw [hZ] at h1
    simp at h1
    exact h2 h1.2.1.symm
  have hlt : ∀ {k : Nat} {o : Obj}, w.heap[k]? = some o → k < w.heap.size := fun h => (Array.getElem?_eq_some_iff.1 h).1
  refine ⟨⟨H.mod h.pm M fun j hj => ?_, h.uu, h.st, h.prs, h.live, (hB _ (hlt h.h4) (hne h.h4 (by decide))).trans h.h4, (hB _ (hlt h.h7) (hne h.h7 (by decide))).trans h.h7, row_kept h.own fun b hb => ?_, h.ub.keep fun b hb => ?_, Nat.le_trans h.sz M.size⟩, ?_⟩
  · rw [List.mem_singleton.1 hj]
    exact ⟨hk, _, _, _, hZ, by decide, by decide, by decide, by decide⟩
  · obtain ⟨cur, hc⟩ := row_block h.own hb
    exact hB b (hlt hc) (hne hc (by decide))
  · rcases hb with ⟨h1, h2⟩ | ⟨cs, z, h1⟩
    · exact hB b h2 (by omega)
    · exact hB b (hlt h1) (hne h1 (by decide))
  · unfold Eb
    simpa using e1
theorem Mp.root {P : MapPred} (H : MapOk P) {W w0 w : World} {gm most U0 L0 i : Nat} {Ab : Option Addr} {cb : Nat} {l : List UInt8} {k4 k7 : Nat} {r : Int × Int} {vw : Value} {T : Tr} {A : Ar} {U : Nat} (h : Mp P W w0 w gm most U0 L0 i Ab cb l k4 k7 r vw T A U) (hne : k4 ≠ k7) (h7 : W.heap.size ≤ k7) (p : Int × Int) :
    Mp P W w0 ((w.setCell ⟨k7, 0, none⟩ (.int .i64 p.1)).setCell ⟨k7, 1, none⟩ (.int .i64 p.2)) gm most U0 L0 i Ab cb l k4 k7 p vw T A U :=
  ⟨mo_setH H h.pm h.h7 h7 _ _, h.uu, h.st, h.prs, h.live, h.h4.setO hne _ _, h.h7.set, h.own.setH h.h7 _ _, h.ub.setH h.h7 h7 _ _, by simp only [World.setCell]; simpa using h.sz⟩
theorem Mp.done {P : MapPred} (H : MapOk P) {W w0 w w' : World} {gm most U0 L0 i : Nat} {Ab : Option Addr} {cb : Nat} {l : List UInt8} {k4 k7 : Nat} {vw v : Value} {T : Tr} {A : Ar} {U : Nat} (h : Mp P W w0 w gm most U0 L0 i Ab cb l k4 k7 T.root vw T A U) (hne : k4 ≠ k7) (h4 : W.heap.size ≤ k4) (h7 : W.heap.size ≤ k7) {key : Int} (hk : mkP l (i + 1) = wiP key (i : Int) (mkP l i)) (ho : OwnP w' w.heap.size v (wiP key (i : Int) (mkP l i))) (hb : Below w.heap.size w w') :
    Md P W w0 w' gm most U0 L0 (i + 1) Ab cb l k4 k7 v T A U := by
  have h' := h.below H hb
  refine ⟨h'.pm, h'.uu, h'.st, h'.prs, h'.live, h'.h4, h'.h7, hne, h4, h7, ?_, h'.ub, h'.sz⟩
  rw [hk]
  exact row_base ho h.sz
set_option maxHeartbeats 4000000 in
theorem made_any {P : MapPred} (H : MapOk P) (W w : World) (gm most U0 L0 : Nat) (A0 : Ar) (Ab : Option Addr) (cb : Nat) (l : List UInt8) (hl : l.length ≤ 60) (hU : U0 ≤ 700000) (hL : A0.live ≤ L0) (hm : L0 + 28 * l.length ≤ most) (hp : P W w gm most U0 A0) (hu : Ub W w Ab cb l) :
    Calls Try.prog 20 #[.pointer (some ⟨gm, 0, none⟩), .slice Ab l.length cb] w (MdRet P W gm most U0 L0 Ab cb l w) := by
  have B0 := (H.bel hp).size
  have D1 := (Below.refl w.heap.size w).alloc (Nat.le_refl _) (.cells #[.int .i64 0, .int .i64 0] 28)
  have X4 := Hb.new w 0 0
  have hs1 : (w.alloc (.cells #[.int .i64 0, .int .i64 0] 28)).heap.size = w.heap.size + 1 := by simp
  have D2 := (Below.refl _ _).alloc (Nat.le_refl _) (w := w.alloc (.cells #[.int .i64 0, .int .i64 0] 28)) (.cells #[.int .i64 0, .int .i64 0] 28)
  have X7 := Hb.new (w.alloc (.cells #[.int .i64 0, .int .i64 0] 28)) 0 0
  have START := hide (show Md P W w ((w.alloc (.cells #[.int .i64 0, .int .i64 0] 28)).alloc (.cells #[.int .i64 0, .int .i64 0] 28)) gm most U0 L0 0 Ab cb l w.heap.size (w.heap.size + 1) (.slice none 0 0) .nil A0 U0 from
    ⟨H.below (H.below hp D1) D2, by omega, Stands.nil _, rfl, by omega, X4.below D2, by rw [← hs1]; exact X7, by omega, B0, by omega, OwnP.nil _ _, (hu.below D1).below D2, by simp; omega⟩)
  have hm1 := hu.le
  have hm2 := hu.most
  unfold maxLen at hm2
  clear hp hu D1 D2 X4 X7
  go_enter Try.func20, Try.ntmps20
  go_upto_region 2 with (fail)
  generalize (w.alloc (.cells #[.int .i64 0, .int .i64 0] 28)).alloc (.cells #[.int .i64 0, .int .i64 0] 28) = w2 at START ⊢
  generalize hk7 : w.heap.size + 1 = k7 at START ⊢
  generalize hk4 : w.heap.size = k4 at START ⊢
  have HB4 := hide (show w.heap.size = k4 from hk4)
  clear hs1 hk7 hk4
  go_wp2_with fail
  go_loopw [8, 9] (MdRel P W w gm most U0 L0 Ab cb l k4 k7) (fun _ i _ => l.length - (intOf i).toNat)
  case atStart => exact ⟨0, _, _, _, Nat.zero_le _, rfl, START.out⟩
  case round =>
    clear START
    obtain ⟨i, T, A, U, hi, rfl, M⟩ := hrel
    have HM := hide M
    have hpl := mkP_length l i
    have huu := M.uu
    have hlv := M.live
    obtain ⟨ao, co, rfl⟩ := row_form M.own
    by_cases hlt : i < l.length
    · obtain ⟨b, o, rfl, -, hat⟩ := M.ub.lit (by omega)
      have z0 := hat i hlt
      have i0 : (0 : Int) ≤ (i : Int) := by omega
      have i1 : (i : Int) < (l.length : Int) := by omega
      have hgd : l.getD i 0 = l[i] := by simp [hlt]
      have hk : i64B (l[i].toNat : Int) := by
        have := l[i].toNat_lt
        unfold i64B
        omega
      have hh := M.st.bal.high9 (by rw [M.prs]; omega)
      have KP := hide (fun (V : World) (hV : Below wr.heap.size wr V) => H.put T (l[i].toNat : Int) (i : Int) (H.below HM.out.pm hV) (by omega) HM.out.st (by rw [HM.out.prs]; omega) (by omega) hk (by unfold i64B; omega))
      have KZ := hide (fun (V : World) (hV : Ub W V (some ⟨b, o, none⟩) cb l) => show V.cell? ⟨b, o + i, none⟩ = some (.int .u8 l[i].toNat) by
        obtain ⟨b', o', e, -, hat⟩ := hV.lit (by omega)
        cases e
        exact hat i hlt)
      have HMK := hide (show mkP l (i + 1) = wiP (l[i].toNat : Int) (i : Int) (mkP l i) by rw [← hgd]; rfl)
      obtain ⟨x0, x1⟩ := M.h7.two
      clear M hat hgd
      generalize hkey : (l[i].toNat : Int) = key at *
      have BD1 := hide ((Below.refl wr.heap.size wr).drew)
      have BD2 := hide (((Below.refl wr.heap.size wr).alloc (Nat.le_refl _) (.cells #[.int .i64 0, .int .i64 0, .slice none 0 0, .slice none 0 0] 34)).drew)
      have KS := hide (fun (V V' : World) (U' : Nat) (A' : Ar) (hV : Below wr.heap.size wr V) (hp : P W V' gm most U' A') (hk : Kp V V') => show (V'.cell? ⟨k7, 0, none⟩ = some (.int .i64 T.root.1) ∧ V'.cell? ⟨k7, 1, none⟩ = some (.int .i64 T.root.2)) ∧ V'.cell? ⟨b, o + i, none⟩ = some (.int .u8 key) from
        ⟨((HM.out.h7.below hV).kp hk).two, KZ.out V' ((HM.out.ub.below hV).kp ((H.bel HM.out.pm).trans (hV.mono (H.bel HM.out.pm).size)) (H.bel hp) hk)⟩)
      have KT := hide (fun (T' : Tr) (A' : Ar) (U' : Nat) (V : World) (r : Int × Int) (h : Mp P W w V gm most U0 L0 i (some ⟨b, o, none⟩) cb l k4 k7 r (.slice ao (mkP l i).length co) T' A' U') => show (V.cell? ⟨k7, 0, none⟩ = some (.int .i64 r.1) ∧ V.cell? ⟨k7, 1, none⟩ = some (.int .i64 r.2)) ∧ V.cell? ⟨b, o + i, none⟩ = some (.int .u8 key) from ⟨h.h7.two, KZ.out V h.ub⟩)
      have hkw : W.heap.size ≤ wr.heap.size := Nat.le_trans B0 HM.out.sz
      have hwk : IntKind.i64.wrap key = key := wrap_in _ hk.1 hk.2
      clear huu hlv hpl hk hm2 hkey
      go_upto_region 6 with (fail)
      go_region_held3 (fun w' => (w'.cell? ⟨k7, 0, none⟩ = some (.int .i64 T.root.1) ∧ w'.cell? ⟨k7, 1, none⟩ = some (.int .i64 T.root.2)) ∧ w'.cell? ⟨b, o + i, none⟩ = some (.int .u8 key))
        (first | with_reducible exact hS2 | with_reducible exact hS1 | with_reducible exact ⟨⟨x0, x1⟩, z0⟩ | go_keep)
        (first
          | (with_reducible refine (KP.out _ BD1.out).mono ?_
             rintro e w5 ⟨vm, vg, T1, A1, U1, made, gone, rfl, E⟩
             obtain ⟨am, cm, rfl⟩ := row_form E.om
             obtain ⟨ag, cg, rfl⟩ := row_form E.og
             have hS1 : (w5.cell? ⟨k7, 0, none⟩ = some (.int .i64 T.root.1) ∧ w5.cell? ⟨k7, 1, none⟩ = some (.int .i64 T.root.2)) ∧ w5.cell? ⟨b, o + i, none⟩ = some (.int .u8 key) := KS.out _ _ _ _ BD1.out E.pm E.kp
             have HN := hide ((HM.out.put H BD1.out E hh HMK.out).below H ((Below.refl _ _).alloc (Nat.le_refl _) (.cells #[.int .i64 T1.root.1, .int .i64 T1.root.2, .slice am made.length cm, .slice ag gone.length cg] 34)))
             have HX := hide (Eb.new w5 T1.root (.slice am made.length cm) (.slice ag gone.length cg))
             clear E
             unfold edv)
          | (with_reducible refine (KP.out _ BD2.out).mono ?_
             rintro e w5 ⟨vm, vg, T1, A1, U1, made, gone, rfl, E⟩
             obtain ⟨am, cm, rfl⟩ := row_form E.om
             obtain ⟨ag, cg, rfl⟩ := row_form E.og
             obtain ⟨hZ, c0, c1, c2, c3, g0, g1, g2, g3⟩ := ed_zero (kp_zero E.kp)
             have hS1 : (w5.cell? ⟨k7, 0, none⟩ = some (.int .i64 T.root.1) ∧ w5.cell? ⟨k7, 1, none⟩ = some (.int .i64 T.root.2)) ∧ w5.cell? ⟨b, o + i, none⟩ = some (.int .u8 key) := KS.out _ _ _ _ BD2.out E.pm E.kp
             have HN0 := HM.out.put H BD2.out E hh HMK.out
             obtain ⟨hN1, hX1⟩ := HN0.setE H hZ hkw T1.root (.slice am made.length cm) (.slice ag gone.length cg)
             have HN := hide hN1
             have HX := hide hX1
             have hS2 := KT.out _ _ _ _ _ hN1
             clear E hN1 hX1 hZ HN0
             unfold edv))
      all_goals
        clear hS1
        try clear hS2 c0 c1 c2 c3 g0 g1 g2 g3
        first
          | (generalize (World.alloc _ _) = w6 at HN HX ⊢
             generalize w5.heap.size = ke at HX ⊢)
          | (generalize (World.setCell _ _ _) = w6 at HN HX ⊢
             generalize hke : wr.heap.size = ke at HX ⊢
             clear hke)
        obtain ⟨e0, e1, -, -⟩ := HX.out.four
        obtain ⟨⟨y0, y1⟩, y2⟩ := KT.out _ _ _ _ _ HN.out
        have f0 := Joins.unfrozen_of_block HN.out.h7 0
        have f1 := Joins.unfrozen_of_block HN.out.h7 1
        clear x0 x1 z0 KP KZ KS BD1 BD2
        go_upto_region 10 with (fail)
        have HR := hide (HN.out.root H HM.out.ne HM.out.b7 T1.root)
        generalize World.setCell _ _ _ = w7 at HR ⊢
        obtain ⟨-, z2⟩ := KT.out _ _ _ _ _ HR.out
        have hps := mkP_length l i
        have KW := hide (with_any ao co (mkP l i) key (i : Int) (by omega) w7 HR.out.own.at)
        clear HN HX e0 e1 y0 y1 y2 f0 f1 KT
        go_wp2_with fail
        refine KW.out.mono ?_
        rintro e w8 ⟨v, rfl, hov, hbv⟩
        have HD := hide (HR.out.done H HM.out.ne HM.out.b4 HM.out.b7 HMK.out hov hbv)
        clear hov hbv KW HR
        go_wp2_with fail
        go_roundw
        case rel => exact ⟨i + 1, T1, A1, U1, by omega, by go_num, HD.out⟩
        case measure => simp [intOf]; omega
    · obtain rfl : i = l.length := by omega
      obtain ⟨x0, x1⟩ := M.h7.two
      have f0 := Joins.unfrozen_of_block M.h4 0
      have f1 := Joins.unfrozen_of_block M.h4 1
      obtain ⟨y0, y1⟩ := M.h4.two
      have E4 := hide (M.h4.set (p := T.root.1) (q := T.root.2))
      have HO := hide (M.own.setH M.h4 (.int .i64 T.root.1) (.int .i64 T.root.2))
      have HP := hide (mo_setH H M.pm M.h4 M.b4 (.int .i64 T.root.1) (.int .i64 T.root.2))
      have HU := hide (M.ub.setH M.h4 M.b4 (.int .i64 T.root.1) (.int .i64 T.root.2))
      clear M hpl
      go_wp2_with fail
      refine bodyPost_ret (v := .tuple #[.agg #[.int .i64 T.root.1, .int .i64 T.root.2], .slice ao (mkP l l.length).length co, .bool true]) ?_ rfl ⟨T, A, U, _, rfl, HP.out, HM.out.uu, HM.out.st, HM.out.prs, HM.out.live, HO.out, HU.out⟩
      rw [results_cell_tmp2 rfl]
      obtain ⟨t0, t1⟩ := E4.out.two
      go_simp
end Go.Proofs.Ytcckamajiebgeaa
