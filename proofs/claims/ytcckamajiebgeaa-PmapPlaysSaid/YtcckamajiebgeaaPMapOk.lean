/-
  What the laws over maps ask of package pmap, as a structure: each call's contract over a predicate 'the map in memory'. No conditions: it is a definition, what is proved of the program is proved where it is filled.
-/
import Derived.Test.YtcckamajiebgeaaPWalk
namespace Go.Proofs.Ytcckamajiebgeaa
open Go.RowKit
set_option linter.unusedVariables false
set_option linter.unusedSimpArgs false
set_option maxRecDepth 100000

/-- The map, that was made behind a world: W, w, its block, how many nodes there may be, how often a slot was used at most, the arena. -/
abbrev MapPred := World → World → Nat → Nat → Nat → Ar → Prop
/-- A block that is no map's. -/
def Oth (w : World) (k : Nat) : Prop := ∃ (cs : Array Value) (t : TypeId) (z : Nat × Nat), w.heap[k]? = some (Obj.cells cs t z) ∧ t ≠ 85 ∧ t ≠ 95 ∧ t ≠ 3 ∧ t ≠ 70
/-- An edit as a value. -/
def edv (r : Int × Int) (vm vg : Value) : Value := .agg #[.int .i64 r.1, .int .i64 r.2, vm, vg]
/-- A version that stands. -/
structure Stands (A : Ar) (T : Tr) : Prop where
  lies : T.Lies A.get
  bal : T.Bal
  ord : T.Ord
/-- What Put and Del leave, if they do it. -/
structure Ed (P : MapPred) (W w w' : World) (gm most U : Nat) (A : Ar) (T : Tr) (ps : List Pp) (vm vg : Value) (T' : Tr) (A' : Ar) (U' : Nat) (made gone : List (Int × Int)) : Prop where
  pm : P W w' gm most U' A'
  uu : U' ≤ U + 1000
  st : Stands A' T'
  prs : T'.prs = ps
  om : OwnH w' w.heap.size vm made
  og : OwnH w' w.heap.size vg gone
  mad : made.Perm (miH T'.hds T.hds)
  gn : gone.Perm (miH T.hds T'.hds)
  mono : ∀ s t x, A.get s t = some x → A'.get s t = some x
  live : A'.live = A.live + made.length
  few : made.length ≤ 3 * T.high + 1
  kp : Kp w w'
def EdRet (P : MapPred) (W : World) (gm most U : Nat) (A : Ar) (T : Tr) (ps : List Pp) (w : World) (e : Ending) (w' : World) : Prop :=
  ∃ vm vg T' A' U' made gone, e = .returned (.tuple #[edv (Tr.root T') vm vg, .bool true]) ∧ Ed P W w w' gm most U A T ps vm vg T' A' U' made gone
def EdNo (P : MapPred) (W : World) (gm most U : Nat) (A : Ar) (w : World) (e : Ending) (w' : World) : Prop :=
  ∃ vm vg, e = .returned (.tuple #[edv (0, 0) vm vg, .bool false]) ∧ OwnH w' w.heap.size vm [] ∧ OwnH w' w.heap.size vg [] ∧ P W w' gm most U A ∧ Kp w w'
def cmpV : Value := .func (.func 11) #[] #[]
structure MapOk (P : MapPred) : Prop where
  bel : ∀ {W w : World} {gm most U : Nat} {A : Ar}, P W w gm most U A → Below W.heap.size W w
  below : ∀ {W w w' : World} {gm most U : Nat} {A : Ar}, P W w gm most U A → Below w.heap.size w w' → P W w' gm most U A
  mod : ∀ {W w w' : World} {gm most U : Nat} {A : Ar} {fs : List Nat}, P W w gm most U A → Mod fs w w' → (∀ k ∈ fs, W.heap.size ≤ k ∧ Oth w k) → P W w' gm most U A
  new : ∀ (W w : World) (n : Nat), n ≤ 1048576 → Below W.heap.size W w → Calls Try.prog 10 #[.int .i64 (n : Int), cmpV] w (fun e w' => ∃ gm, e = .returned (.pointer (some ⟨gm, 0, none⟩)) ∧ P W w' gm n 0 ⟨[], []⟩ ∧ Below w.heap.size w w')
  newNo : ∀ (w : World) (n : Int), n < 0 ∨ 1048576 < n → i64B n → Calls Try.prog 10 #[.int .i64 n, cmpV] w (fun e w' => e = .returned (.pointer none) ∧ Below w.heap.size w w')
  newNil : ∀ (w : World) (n : Int), i64B n → Calls Try.prog 10 #[.int .i64 n, .nilFunc] w (fun e w' => e = .returned (.pointer none) ∧ Below w.heap.size w w')
  load : ∀ {W w : World} {gm most U : Nat} {A : Ar}, P W w gm most U A → U ≤ 900000 → LoadOk gm A.get w
  live : ∀ {W w : World} {gm most U : Nat} {A : Ar}, P W w gm most U A → U ≤ 900000 → Calls Try.prog 24 #[.pointer (some ⟨gm, 0, none⟩)] w (IntRet .i64 A.live w)
  room : ∀ {W w : World} {gm most U : Nat} {A : Ar}, P W w gm most U A → U ≤ 900000 → Calls Try.prog 25 #[.pointer (some ⟨gm, 0, none⟩)] w (IntRet .i64 (most - A.live) w)
  get : ∀ {W w : World} {gm most U : Nat} {A : Ar} (T : Tr) (k : Int), P W w gm most U A → U ≤ 900000 → Stands A T → T.prs.length ≤ 1000 → i64B k →
    Calls Try.prog 21 #[.pointer (some ⟨gm, 0, none⟩), .agg #[.int .i64 T.root.1, .int .i64 T.root.2], .int .i64 k] w (fun e w' => e = .returned (.tuple #[.int .i64 ((fiP k T.prs).getD 0), .bool (fiP k T.prs).isSome]) ∧ Below w.heap.size w w')
  free : ∀ {W w : World} {gm most U : Nat} {A : Ar} (s t : Int) (x : Nd), P W w gm most U A → U ≤ 900000 → A.get s t = some x → i64B s → i64B t →
    Calls Try.prog 23 #[.pointer (some ⟨gm, 0, none⟩), .agg #[.int .i64 s, .int .i64 t]] w (fun e w' => e = .returned (.bool true) ∧ P W w' gm most U (A.free s.toNat) ∧ Kp w w')
  put : ∀ {W w : World} {gm most U : Nat} {A : Ar} (T : Tr) (k v : Int), P W w gm most U A → U ≤ 800000 → Stands A T → T.prs.length ≤ 200 → A.live + (3 * T.high + 1) ≤ most → i64B k → i64B v →
    Calls Try.prog 15 #[.pointer (some ⟨gm, 0, none⟩), .agg #[.int .i64 T.root.1, .int .i64 T.root.2], .int .i64 k, .int .i64 v] w (EdRet P W gm most U A T (wiP k v T.prs) w)
  putNo : ∀ {W w : World} {gm U : Nat} {A : Ar} (k v : Int), P W w gm 0 U A → U ≤ 800000 → i64B k → i64B v →
    Calls Try.prog 15 #[.pointer (some ⟨gm, 0, none⟩), .agg #[.int .i64 0, .int .i64 0], .int .i64 k, .int .i64 v] w (EdNo P W gm 0 U A w)
  del : ∀ {W w : World} {gm most U : Nat} {A : Ar} (T : Tr) (k : Int), P W w gm most U A → U ≤ 800000 → Stands A T → T.prs.length ≤ 200 → A.live + (3 * T.high + 1) ≤ most → i64B k → (fiP k T.prs).isSome = true →
    Calls Try.prog 14 #[.pointer (some ⟨gm, 0, none⟩), .agg #[.int .i64 T.root.1, .int .i64 T.root.2], .int .i64 k] w (EdRet P W gm most U A T (woP k T.prs) w)
  delNo : ∀ {W w : World} {gm most U : Nat} {A : Ar} (T : Tr) (k : Int), P W w gm most U A → U ≤ 800000 → Stands A T → T.prs.length ≤ 200 → i64B k → fiP k T.prs = none →
    Calls Try.prog 14 #[.pointer (some ⟨gm, 0, none⟩), .agg #[.int .i64 T.root.1, .int .i64 T.root.2], .int .i64 k] w (EdNo P W gm most U A w)
theorem Stands.nil (A : Ar) : Stands A .nil := ⟨trivial, trivial, List.Pairwise.nil⟩
theorem Stands.mono {A A' : Ar} {T : Tr} (h : Stands A T) (hm : ∀ s t x, A.get s t = some x → A'.get s t = some x) : Stands A' T := ⟨h.lies.mono hm, h.bal, h.ord⟩
end Go.Proofs.Ytcckamajiebgeaa
