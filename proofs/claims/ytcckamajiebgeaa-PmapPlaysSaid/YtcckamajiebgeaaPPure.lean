/-
  The document's lists of pairs, plain: With, Without, Find, Minus, Digits. No conditions.
-/
import Derived.Test.YtcckamajiebgeaaBase0
namespace Go.Proofs.Ytcckamajiebgeaa
set_option linter.unusedVariables false
set_option linter.unusedSimpArgs false

abbrev Pp := Int × Int
/-- Without a key. -/
def woP (k : Int) (l : List Pp) : List Pp := l.filter fun x => x.1 != k
/-- With a key, in order. -/
def wiP (k v : Int) : List Pp → List Pp
  | [] => [(k, v)]
  | x :: l => if k ≤ x.1 then (k, v) :: woP k (x :: l) else x :: wiP k v l
def seenP (k : Int) (l : List Pp) : Bool := l.any fun x => decide (k ≤ x.1)
theorem woP_snoc (k : Int) (l : List Pp) (x : Pp) : woP k (l ++ [x]) = if x.1 = k then woP k l else woP k l ++ [x] := by
  unfold woP
  rw [List.filter_append]
  by_cases h : x.1 = k
  · rw [if_pos h, List.filter_cons_of_neg (by simp [h])]
    simp
  · rw [if_neg h, List.filter_cons_of_pos (by simpa using h)]
    rfl
theorem seenP_snoc (k : Int) (l : List Pp) (x : Pp) : seenP k (l ++ [x]) = (seenP k l || decide (k ≤ x.1)) := by simp [seenP]
/-- The document's loop: what is put out, as far as it got. -/
def wiO (k v : Int) (l : List Pp) : List Pp := if seenP k l = true then wiP k v l else l
theorem wiP_seen (k v : Int) : ∀ (l : List Pp) (x : Pp), seenP k l = true → wiP k v (l ++ [x]) = if x.1 = k then wiP k v l else wiP k v l ++ [x]
  | [], x, h => by simp [seenP] at h
  | y :: l, x, h => by
    by_cases hy : k ≤ y.1
    · simp only [List.cons_append, wiP, if_pos hy]
      rw [show y :: (l ++ [x]) = (y :: l) ++ [x] from rfl, woP_snoc]
      split <;> rfl
    · have h' : seenP k l = true := by simpa [seenP, hy] using h
      simp only [List.cons_append, wiP, if_neg hy]
      rw [wiP_seen k v l x h']
      split <;> rfl
theorem wiP_none (k v : Int) : ∀ (l : List Pp), seenP k l = false → wiP k v l = l ++ [(k, v)]
  | [], _ => rfl
  | y :: l, h => by
    have hy : ¬ k ≤ y.1 := fun hy => by simp [seenP, hy] at h
    have h' : seenP k l = false := by simpa [seenP, hy] using h
    simp only [wiP, if_neg hy, List.cons_append]
    rw [wiP_none k v l h']
theorem wiP_first (k v : Int) : ∀ (l : List Pp) (x : Pp), seenP k l = false → k ≤ x.1 → wiP k v (l ++ [x]) = l ++ (k, v) :: (if x.1 = k then [] else [x])
  | [], x, _, hx => by
    simp only [List.nil_append, wiP, if_pos hx]
    congr 1
    by_cases h : x.1 = k
    · simp [woP, h]
    · simp [woP, h]
  | y :: l, x, h, hx => by
    have hy : ¬ k ≤ y.1 := fun hy => by simp [seenP, hy] at h
    have h' : seenP k l = false := by simpa [seenP, hy] using h
    simp only [List.cons_append, wiP, if_neg hy]
    rw [wiP_first k v l x h' hx]
/-- One more element. -/
theorem wiO_snoc (k v : Int) (l : List Pp) (x : Pp) : wiO k v (l ++ [x]) = (if seenP k l = false ∧ k ≤ x.1 then wiO k v l ++ [(k, v)] else wiO k v l) ++ (if x.1 = k then [] else [x]) := by
  unfold wiO
  rw [seenP_snoc]
  cases hs : seenP k l with
  | true =>
    simp only [Bool.true_or, if_true]
    rw [wiP_seen k v l x hs]
    split <;> simp
  | false =>
    by_cases hx : k ≤ x.1
    · simp only [hx, decide_true, Bool.or_true, if_true, and_self]
      rw [wiP_first k v l x hs hx]
      simp
    · have hne : x.1 ≠ k := by omega
      simp [hx, hne]
theorem wiO_end (k v : Int) (l : List Pp) : wiP k v l = if seenP k l = true then wiO k v l else wiO k v l ++ [(k, v)] := by
  unfold wiO
  cases hs : seenP k l with
  | true => simp
  | false => simpa using wiP_none k v l hs
theorem wiP_length (k v : Int) (l : List Pp) : (wiP k v l).length ≤ l.length + 1 := by
  induction l with
  | nil => simp [wiP]
  | cons x l ih =>
    unfold wiP
    split
    · have : (woP k (x :: l)).length ≤ (x :: l).length := List.length_filter_le _ _
      simp at this ⊢
      omega
    · simp
      omega
theorem woP_length (k : Int) (l : List Pp) : (woP k l).length ≤ l.length := List.length_filter_le _ _
theorem wiO_length (k v : Int) (l : List Pp) : (wiO k v l).length ≤ l.length + 1 := by
  unfold wiO
  split
  · exact wiP_length k v l
  · omega
/-- A key's value. -/
def fiP (k : Int) (l : List Pp) : Option Int := (l.find? fun x => x.1 == k).map (·.2)
theorem fiP_snoc (k : Int) (l : List Pp) (x : Pp) : fiP k (l ++ [x]) = (fiP k l).or (if x.1 = k then some x.2 else none) := by
  unfold fiP
  rw [List.find?_append]
  cases h : l.find? (fun x => x.1 == k) with
  | some y => simp
  | none => by_cases hx : x.1 = k <;> simp [hx]
/-- All handles of one list that aren't in another one. -/
def miH (a b : List (Int × Int)) : List (Int × Int) := a.filter fun x => decide (x ∉ b)
theorem miH_snoc (a b : List (Int × Int)) (x : Int × Int) : miH (a ++ [x]) b = if x ∈ b then miH a b else miH a b ++ [x] := by
  unfold miH
  rw [List.filter_append]
  by_cases h : x ∈ b
  · rw [if_pos h, List.filter_cons_of_neg (by simp [h])]
    simp
  · rw [if_neg h, List.filter_cons_of_pos (by simpa using h)]
    rfl
theorem miH_length (a b : List (Int × Int)) : (miH a b).length ≤ a.length := List.length_filter_le _ _
/-- Are two lists of handles one, as the document asks it? -/
def seH (a b : List (Int × Int)) : Bool := decide (a.length = b.length) && ((miH a b).length == 0 && (miH b a).length == 0)
theorem miH_none {a b : List (Int × Int)} : miH a b = [] ↔ ∀ x ∈ a, x ∈ b := by
  unfold miH
  rw [List.filter_eq_nil_iff]
  simp
/-- How many binary digits a number has. -/
def dgN : Nat → Nat
  | 0 => 0
  | n + 1 => dgN ((n + 1) / 2) + 1
end Go.Proofs.Ytcckamajiebgeaa
