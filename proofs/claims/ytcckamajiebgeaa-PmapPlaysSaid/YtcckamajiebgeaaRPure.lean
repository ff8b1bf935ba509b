/-
  Drafts of versions, plain: old trees that stay, and fresh nodes over them. No conditions.
-/
import Derived.Test.YtcckamajiebgeaaPMapOk
import Derived.Test.YtcckamajiebgeaaPAvl
namespace Go.Proofs.Ytcckamajiebgeaa
set_option linter.unusedVariables false
set_option linter.unusedSimpArgs false

/-- A branch of a draft: an old tree, or a fresh node in its block. -/
inductive Dt where
  | old (T : Tr) : Dt
  | new (p : Nat) (k v : Int) (h : Nat) (l r : Dt) : Dt
namespace Dt
def prs : Dt → List Pp
  | old T => T.prs
  | new _ k v _ l r => l.prs ++ (k, v) :: r.prs
def high : Dt → Nat
  | old T => T.high
  | new _ _ _ h _ _ => h
def fp : Dt → List Nat
  | old _ => []
  | new p _ _ _ l r => p :: (l.fp ++ r.fp)
def cnt : Dt → Nat
  | old _ => 0
  | new _ _ _ _ l r => 1 + l.cnt + r.cnt
def olds : Dt → List (Int × Int)
  | old T => T.hds
  | new _ _ _ _ l r => l.olds ++ r.olds
def bv : Dt → Option Nat × Int × Int
  | old T => (none, T.root.1, T.root.2)
  | new p _ _ _ _ _ => (some p, 0, 0)
theorem hnew (p : Nat) (k v : Int) (h : Nat) (l r : Dt) : (new p k v h l r).high = h := rfl
/-- Old trees lie, heights are told as they are, both sides' differ by one at most. -/
def Ok (F : Int → Int → Option Nd) : Dt → Prop
  | old T => T.Lies F ∧ T.Bal
  | new _ _ _ h l r => h = 1 + max l.high r.high ∧ l.high ≤ r.high + 1 ∧ r.high ≤ l.high + 1 ∧ Ok F l ∧ Ok F r
/-- The trees that stay lie. -/
def Li (F : Int → Int → Option Nd) : Dt → Prop
  | old T => T.Lies F
  | new _ _ _ _ l r => Li F l ∧ Li F r
theorem Ok.li {F : Int → Int → Option Nd} : ∀ {d : Dt}, d.Ok F → d.Li F
  | old _, h => h.1
  | new _ _ _ _ _ _, ⟨_, _, _, h1, h2⟩ => ⟨h1.li, h2.li⟩
theorem Ok.nil {F : Int → Int → Option Nd} : (old .nil).Ok F := ⟨trivial, trivial⟩
theorem Ok.high0 {F : Int → Int → Option Nd} : ∀ {d : Dt}, d.Ok F → d.high = 0 → d = old .nil
  | old .nil, _, _ => rfl
  | old (.node _ _ _ _ _), _, e => by simp [high, Tr.high] at e
  | new _ _ _ _ _ _, ⟨h, _⟩, e => by simp [high] at e; omega
end Dt
open Dt
/-- A node that was opened: it was fresh, or an old one, that is gone then. -/
def Opn (n : Nat) (d : Dt) (p : Nat) (k v : Int) (h : Nat) (a b : Dt) (op : List (Int × Int)) : Prop :=
  (d = new p k v h a b ∧ op = []) ∨ ∃ g L R, d = old (.node g k v L R) ∧ a = old L ∧ b = old R ∧ h = 0 ∧ op = [g] ∧ n ≤ p
/-- What a call leaves of a branch, or a node: its pairs, the old handles, how many are fresh, its blocks. -/
structure Gd (F : Int → Int → Option Nd) (n : Nat) (fs : List Nat) (P : List Pp) (O : List (Int × Int)) (op : List (Int × Int)) (d : Dt) : Prop where
  ok : d.Ok F
  prs : d.prs = P
  olds : O.Perm (d.olds ++ op)
  fp : ∀ k ∈ d.fp, k ∈ fs ∨ n ≤ k
theorem Opn.lens {n : Nat} {d : Dt} {p : Nat} {k v : Int} {h : Nat} {a b : Dt} {op : List (Int × Int)} (H : Opn n d p k v h a b op) :
    d.prs = a.prs ++ (k, v) :: b.prs ∧ d.olds.Perm (a.olds ++ b.olds ++ op) ∧ 1 + a.cnt + b.cnt = d.cnt + op.length ∧ op.length ≤ 1 ∧ (∀ x ∈ p :: (a.fp ++ b.fp), x ∈ d.fp ∨ n ≤ x) := by
  rcases H with ⟨rfl, rfl⟩ | ⟨g, L, R, rfl, rfl, rfl, rfl, rfl, hp⟩
  · exact ⟨rfl, by simp [olds], by simp [cnt], by simp, fun x hx => .inl hx⟩
  · refine ⟨rfl, ?_, by simp [cnt], by simp, fun x hx => ?_⟩
    · simp only [olds, Tr.hds]
      exact (List.perm_middle).trans ((List.perm_append_singleton g _).symm)
    · simp [fp] at hx
      exact .inr (hx ▸ hp)
theorem Opn.okk {n : Nat} {d : Dt} {p : Nat} {k v : Int} {h : Nat} {a b : Dt} {op : List (Int × Int)} (H : Opn n d p k v h a b op) {F : Int → Int → Option Nd} (ok : d.Ok F) :
    a.Ok F ∧ b.Ok F ∧ d.high = 1 + max a.high b.high ∧ a.high ≤ b.high + 1 ∧ b.high ≤ a.high + 1 := by
  rcases H with ⟨rfl, rfl⟩ | ⟨g, L, R, rfl, rfl, rfl, rfl, rfl, hp⟩
  · obtain ⟨h1, h2, h3, h4, h5⟩ := ok
    exact ⟨h4, h5, h1, h2, h3⟩
  · obtain ⟨h1, h2, h3, h4, h5⟩ := ok
    obtain ⟨_, _, _, _, l1, l2⟩ := h1
    exact ⟨⟨l1, h4⟩, ⟨l2, h5⟩, rfl, h2, h3⟩
theorem Opn.apart {n : Nat} {d : Dt} {p : Nat} {k v : Int} {h : Nat} {a b : Dt} {op : List (Int × Int)} (H : Opn n d p k v h a b op) {x : Nat} (hx : x ∉ d.fp) (hl : x < n) : x ≠ p ∧ x ∉ a.fp ∧ x ∉ b.fp := by
  have h := H.lens.2.2.2.2
  refine ⟨fun e => ?_, fun e => ?_, fun e => ?_⟩
  · rcases h x (by simp [e]) with h1 | h1
    · exact hx h1
    · omega
  · rcases h x (by simp [e]) with h1 | h1
    · exact hx h1
    · omega
  · rcases h x (by simp [e]) with h1 | h1
    · exact hx h1
    · omega
/-- What a branch has below is not too high. -/
def Dt.Sm : Dt → Prop
  | old T => T.high ≤ 1000
  | new _ _ _ _ l r => l.high ≤ 1000 ∧ r.high ≤ 1000
theorem Opn.sm {n : Nat} {d : Dt} {p : Nat} {k v : Int} {h : Nat} {a b : Dt} {op : List (Int × Int)} (H : Opn n d p k v h a b op) (hs : d.Sm) : a.high ≤ 1000 ∧ b.high ≤ 1000 := by
  rcases H with ⟨rfl, rfl⟩ | ⟨g, L, R, rfl, rfl, rfl, rfl, rfl, hp⟩
  · exact hs
  · simp only [Sm, Tr.high, Dt.high] at hs ⊢
    omega
theorem Opn.li {n : Nat} {d : Dt} {p : Nat} {k v : Int} {h : Nat} {a b : Dt} {op : List (Int × Int)} (H : Opn n d p k v h a b op) {F : Int → Int → Option Nd} (ok : d.Li F) : a.Li F ∧ b.Li F := by
  rcases H with ⟨rfl, rfl⟩ | ⟨g, L, R, rfl, rfl, rfl, rfl, rfl, hp⟩
  · exact ok
  · obtain ⟨_, _, _, _, l1, l2⟩ := ok
    exact ⟨l1, l2⟩
theorem Dt.Ok.sm {F : Int → Int → Option Nd} : ∀ {d : Dt}, d.Ok F → d.high ≤ 1000 → d.Sm
  | old _, _, e => e
  | new _ _ _ n l r, ⟨h, _⟩, e => by
    have e' : n ≤ 1000 := e
    show l.high ≤ 1000 ∧ r.high ≤ 1000
    omega
theorem Opn.mono {n m : Nat} {d : Dt} {p : Nat} {k v : Int} {h : Nat} {a b : Dt} {op : List (Int × Int)} (H : Opn n d p k v h a b op) (hm : m ≤ n) : Opn m d p k v h a b op := by
  rcases H with H | ⟨g, L, R, h1, h2, h3, h4, h5, hp⟩
  · exact .inl H
  · exact .inr ⟨g, L, R, h1, h2, h3, h4, h5, Nat.le_trans hm hp⟩
theorem Opn.old {n : Nat} {g : Int × Int} {k v : Int} {L R : Tr} {q : Nat} {k' v' : Int} {h' : Nat} {a b : Dt} {op : List (Int × Int)} (H : Opn n (old (.node g k v L R)) q k' v' h' a b op) : k' = k ∧ v' = v ∧ h' = 0 ∧ a = old L ∧ b = old R ∧ op = [g] ∧ n ≤ q := by
  rcases H with ⟨e, _⟩ | ⟨g', L', R', h1, h2, h3, h4, h5, h6⟩
  · cases e
  · injection h1 with h1
    injection h1 with e1 e2 e3 e4 e5
    subst e1 e2 e3 e4 e5
    exact ⟨rfl, rfl, h4, h2, h3, h5, h6⟩
theorem Opn.fresh {n : Nat} {p q : Nat} {k v k' v' : Int} {h h' : Nat} {l r a b : Dt} {op : List (Int × Int)} (H : Opn n (new p k v h l r) q k' v' h' a b op) : q = p ∧ k' = k ∧ v' = v ∧ h' = h ∧ a = l ∧ b = r ∧ op = [] := by
  rcases H with ⟨e, rfl⟩ | ⟨g, L, R, h1, _⟩
  · injection e with e1 e2 e3 e4 e5 e6
    exact ⟨e1.symm, e2.symm, e3.symm, e4.symm, e5.symm, e6.symm, rfl⟩
  · cases h1
end Go.Proofs.Ytcckamajiebgeaa
