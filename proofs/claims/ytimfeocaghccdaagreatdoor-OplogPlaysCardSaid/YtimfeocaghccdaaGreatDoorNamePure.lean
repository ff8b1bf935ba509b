/-
  Names and paths as plain lists of bytes: what is a name, what a path's names are, what names' path is, what is cut off; each path is one list of names. No program, no world; no conditions beyond those that each statement bears.
-/
import Derived.Test.YtimfeocaghccdaaGreatDoorUtf
namespace Go.Proofs.YtimfeocaghccdaaGreatDoor
set_option maxRecDepth 100000

/-- A byte that no name has. -/
def badB (c : UInt8) : Bool := decide (c.toNat < 32) || decide (c.toNat = 47) || decide (c.toNat = 127)
/-- No such byte, and well-formed. -/
def okR (l : List UInt8) : Bool := l.all (fun c => !badB c) && formed l
/-- Is it a name? -/
def right (l : List UInt8) : Bool := decide (1 ≤ l.length) && decide (l.length ≤ 20) && okR l
/-- A rune that no name has. -/
def badR (r : Nat) : Bool := decide (r < 32) || decide (r = 47) || decide (r = 127)

theorem vk_in (l : List UInt8) (k : Nat) (h : 0 < vk l k) : k < l.length := by
  rcases Nat.lt_or_ge k l.length with h' | h'
  · exact h'
  · rw [vk_end l k (by omega)] at h; omega
theorem vk_get (l : List UInt8) (k : Nat) (h : k < l.length) : vk l k = l[k].toNat := by simp [vk, List.getD, h]
theorem oneW_le (l : List UInt8) : oneW l ≤ l.length := by
  cases l with
  | nil => simp [oneW]
  | cons c t =>
    rw [oneW_eq, List.length_cons]
    rcases oneN_cases c.toNat (vk t 0) (vk t 1) (vk t 2) with ⟨e, p⟩ | ⟨e, p⟩ | ⟨e, p⟩ | ⟨e, p⟩ | e
    · omega
    · have := vk_in t 0 (by omega); omega
    · have := vk_in t 1 (by omega); omega
    · have := vk_in t 2 (by omega); omega
    · omega
/-- The bytes of a character of more than one. -/
theorem oneW_high (l : List UInt8) (h : 1 < oneW l) : ∀ c ∈ l.take (oneW l), 128 ≤ c.toNat := by
  cases l with
  | nil => simp [oneW] at h
  | cons c t =>
    have hle := oneW_le (c :: t)
    rw [oneW_eq] at h hle ⊢
    intro x hx
    obtain ⟨j, hj, rfl⟩ := List.getElem_of_mem hx
    rw [List.length_take] at hj
    rw [List.getElem_take]
    rw [List.length_cons] at hle
    rcases j with _ | j
    · rw [List.getElem_cons_zero]
      rcases oneN_cases c.toNat (vk t 0) (vk t 1) (vk t 2) with ⟨e, p⟩ | ⟨e, p⟩ | ⟨e, p⟩ | ⟨e, p⟩ | e <;> omega
    · rw [List.getElem_cons_succ, ← vk_get]
      rcases oneN_cases c.toNat (vk t 0) (vk t 1) (vk t 2) with ⟨e, p⟩ | ⟨e, p⟩ | ⟨e, p⟩ | ⟨e, p⟩ | e
      · omega
      · have : j = 0 := by omega
        subst this; omega
      · have : j = 0 ∨ j = 1 := by omega
        rcases this with rfl | rfl <;> omega
      · have : j = 0 ∨ j = 1 ∨ j = 2 := by omega
        rcases this with rfl | rfl | rfl <;> omega
      · omega
theorem high_good (l : List UInt8) (h : ∀ c ∈ l, 128 ≤ c.toNat) : l.all (fun c => !badB c) = true := by
  rw [List.all_eq_true]
  intro c hc
  have := h c hc
  simp [badB]
  omega
theorem all_split (n : Nat) (l : List UInt8) : l.all (fun c => !badB c) = ((l.take n).all (fun c => !badB c) && (l.drop n).all (fun c => !badB c)) := by
  rw [← List.all_append, List.take_append_drop]
theorem okR_nil : okR [] = true := rfl
/-- A text, rune by rune. -/
theorem okR_dec (l : List UInt8) (h : l ≠ []) : okR l = (decide (oneW l ≠ 0) && !badR (dec l).1 && okR (l.drop (dec l).2)) := by
  obtain ⟨c, t, rfl⟩ := List.exists_cons_of_ne_nil h
  have hf := formed_step (c :: t) h
  by_cases h0 : oneW (c :: t) = 0
  · unfold okR
    rw [hf]
    simp [h0]
  · have e1 := oneW_eq c t
    have hN : oneN c.toNat (vk t 0) (vk t 1) (vk t 2) ≠ 0 := by rw [← e1]; exact h0
    have hd := dec_eq (c :: t)
    rw [vk0, show vk (c :: t) 1 = vk t 0 from vkS c t 0, show vk (c :: t) 2 = vk t 1 from vkS c t 1, show vk (c :: t) 3 = vk t 2 from vkS c t 2] at hd
    obtain ⟨r, hr, hw, _, _⟩ := dec_good _ _ _ _ hN
    rw [hd, hr]
    simp only
    rw [← e1] at hw ⊢
    unfold okR
    rw [hf, decide_eq_true h0, Bool.true_and, Bool.true_and]
    rw [all_split (oneW (c :: t)) (c :: t)]
    rcases hw with ⟨w1, rfl, hc⟩ | ⟨w1, hr128, _⟩
    · rw [w1]
      simp [badB, badR, Bool.and_assoc]
    · rw [high_good _ (oneW_high _ w1)]
      have : badR r = false := by simp [badR]; omega
      rw [this]
      simp
theorem dec_none (l : List UInt8) (h : l ≠ []) (h0 : oneW l = 0) : dec l = (65533, 1) := by
  obtain ⟨c, t, rfl⟩ := List.exists_cons_of_ne_nil h
  rw [oneW_eq] at h0
  rw [dec_eq, vk0, show vk (c :: t) 1 = vk t 0 from vkS c t 0, show vk (c :: t) 2 = vk t 1 from vkS c t 1, show vk (c :: t) 3 = vk t 2 from vkS c t 2]
  exact dec_bad _ _ _ _ c.toNat_lt (vk_lt _ _) (vk_lt _ _) (vk_lt _ _) h0
theorem dec_some (l : List UInt8) (h0 : oneW l ≠ 0) : (dec l).2 = oneW l := by
  cases l with
  | nil => simp [oneW] at h0
  | cons c t =>
    rw [oneW_eq] at h0 ⊢
    rw [dec_eq, vk0, show vk (c :: t) 1 = vk t 0 from vkS c t 0, show vk (c :: t) 2 = vk t 1 from vkS c t 1, show vk (c :: t) 3 = vk t 2 from vkS c t 2]
    obtain ⟨r, hr, _⟩ := dec_good _ _ _ _ h0
    rw [hr]
/-- The rune of a character that is well-formed: 65533 is written by three bytes. -/
theorem dec_fffd (l : List UInt8) (h0 : oneW l ≠ 0) : (dec l).1 = 65533 ↔ l.take 3 = [239, 191, 189] := by
  cases l with
  | nil => simp [oneW] at h0
  | cons c t =>
    rw [oneW_eq] at h0
    rw [dec_eq, vk0, show vk (c :: t) 1 = vk t 0 from vkS c t 0, show vk (c :: t) 2 = vk t 1 from vkS c t 1, show vk (c :: t) 3 = vk t 2 from vkS c t 2]
    obtain ⟨r, hr, _, _, hi⟩ := dec_good _ _ _ _ h0
    rw [hr]
    simp only
    rw [hi]
    constructor
    · rintro ⟨h1, h2, h3⟩
      have l0 := vk_in t 0 (by omega)
      have l1 := vk_in t 1 (by omega)
      obtain ⟨a, t, rfl⟩ := List.exists_cons_of_ne_nil (show t ≠ [] by intro h; rw [h] at l0; simp at l0)
      obtain ⟨b, t, rfl⟩ := List.exists_cons_of_ne_nil (show t ≠ [] by intro h; rw [h] at l1; simp at l1)
      rw [vk0] at h2
      rw [vkS, vk0] at h3
      simp only [List.take_succ_cons, List.take_zero, List.cons.injEq, and_true]
      exact ⟨UInt8.toNat_inj.1 h1, UInt8.toNat_inj.1 h2, UInt8.toNat_inj.1 h3⟩
    · intro h
      cases t with
      | nil => simp at h
      | cons a t => cases t with
        | nil => simp at h
        | cons b t =>
          simp only [List.take_succ_cons, List.take_zero, List.cons.injEq, and_true] at h
          rw [vk0, vkS, vk0, h.1, h.2.1, h.2.2]
          decide

/-- What stands between strokes. -/
def splitS : List UInt8 → List (List UInt8)
  | [] => [[]]
  | c :: t => if c = 47 then [] :: splitS t else match splitS t with
    | [] => [[c]]
    | p :: ps => (c :: p) :: ps
/-- A stroke ahead of each. -/
def J (ls : List (List UInt8)) : List UInt8 := ls.flatMap fun n => 47 :: n
theorem J_cons (n : List UInt8) (ls : List (List UInt8)) : J (n :: ls) = 47 :: (n ++ J ls) := by simp [J]
theorem J_append (a b : List (List UInt8)) : J (a ++ b) = J a ++ J b := by simp [J]
theorem splitS_ne (l : List UInt8) : splitS l ≠ [] := by
  cases l with
  | nil => simp [splitS]
  | cons c t =>
    unfold splitS
    split
    · simp
    · split <;> simp
theorem splitS_stroke (t : List UInt8) : splitS (47 :: t) = [] :: splitS t := by simp [splitS]
theorem splitS_other (c : UInt8) (t p : List UInt8) (ps : List (List UInt8)) (h : c ≠ 47) (e : splitS t = p :: ps) : splitS (c :: t) = (c :: p) :: ps := by
  rw [splitS, if_neg h, e]
theorem splitS_app (a b : List UInt8) : splitS (a ++ 47 :: b) = splitS a ++ splitS b := by
  induction a with
  | nil => rw [List.nil_append, splitS_stroke]; rfl
  | cons c a ih =>
    rw [List.cons_append]
    by_cases hc : c = 47
    · subst hc
      rw [splitS_stroke, splitS_stroke, ih]
      rfl
    · obtain ⟨p, ps, e⟩ := List.exists_cons_of_ne_nil (splitS_ne a)
      rw [splitS_other c a p ps hc e, splitS_other c (a ++ 47 :: b) p (ps ++ splitS b) hc (by rw [ih, e]; rfl)]
      rfl
theorem splitS_free (l : List UInt8) (h : 47 ∉ l) : splitS l = [l] := by
  induction l with
  | nil => rfl
  | cons c t ih =>
    rw [List.mem_cons, not_or] at h
    exact splitS_other c t t [] (fun e => h.1 e.symm) (ih h.2)
theorem J_split (l : List UInt8) : J (splitS l) = 47 :: l := by
  induction l with
  | nil => rfl
  | cons c t ih =>
    by_cases hc : c = 47
    · subst hc
      rw [splitS_stroke, J_cons, ih]
      rfl
    · obtain ⟨p, ps, e⟩ := List.exists_cons_of_ne_nil (splitS_ne t)
      rw [splitS_other c t p ps hc e, J_cons]
      rw [e, J_cons] at ih
      injection ih with _ ih
      rw [List.cons_append, ih]
theorem J_head (ls : List (List UInt8)) (h : ls ≠ []) : J ls = 47 :: (J ls).tail := by
  obtain ⟨n, ls, rfl⟩ := List.exists_cons_of_ne_nil h
  rw [J_cons]
  rfl
theorem split_J (ls : List (List UInt8)) (h : ls ≠ []) (hf : ∀ n ∈ ls, 47 ∉ n) : splitS (J ls).tail = ls := by
  induction ls with
  | nil => exact absurd rfl h
  | cons n ls ih =>
    rw [J_cons, List.tail_cons]
    have hn := splitS_free n (hf n List.mem_cons_self)
    by_cases h0 : ls = []
    · subst h0
      rw [show J [] = [] from rfl, List.append_nil, hn]
    · rw [J_head ls h0, splitS_app, hn, ih h0 (fun m hm => hf m (List.mem_cons_of_mem _ hm))]
      rfl
theorem right_free (n : List UInt8) (h : right n = true) : 47 ∉ n := by
  intro h47
  simp only [right, okR, Bool.and_eq_true, List.all_eq_true] at h
  have := h.2.1 47 h47
  simp [badB] at this
theorem right_pos (n : List UInt8) (h : right n = true) : 1 ≤ n.length := by
  simp only [right, Bool.and_eq_true, decide_eq_true_eq] at h
  exact h.1.1
theorem right_nil : right [] = false := rfl

/-- The path of names. -/
def pathOf (ls : List (List UInt8)) : List UInt8 := if ls = [] then [47] else J ls
/-- A path's names, if it is one. -/
def splitP (l : List UInt8) : Option (List (List UInt8)) :=
  if l = [47] then some [] else if l.length ≤ 400 ∧ l.head? = some 47 ∧ (splitS l.tail).all right = true then some (splitS l.tail) else none
/-- Names' path, if there is one. -/
def joinP (ls : List (List UInt8)) : Option (List UInt8) := if ls.all right = true ∧ (J ls).length ≤ 400 then some (pathOf ls) else none
/-- A path without its last name, and that, if there is one. -/
def cutP (l : List UInt8) : Option (List UInt8 × List UInt8) := match splitP l with
  | none => none
  | some m => if m = [] then none else some (pathOf m.dropLast, m.getLast?.getD [])

theorem splitP_root : splitP [47] = some [] := rfl
theorem splitP_some (l : List UInt8) (m : List (List UInt8)) (h : splitP l = some m) : l = pathOf m ∧ m.all right = true ∧ l.length ≤ 400 ∧ (m ≠ [] → m = splitS l.tail ∧ l = 47 :: l.tail) := by
  unfold splitP at h
  split at h
  · injection h with h
    subst h
    rename_i e
    subst e
    exact ⟨rfl, rfl, by simp, fun h => absurd rfl h⟩
  · split at h
    · injection h with h
      rename_i e1 e2
      obtain ⟨h1, h2, h3⟩ := e2
      obtain ⟨c, t, rfl⟩ := List.exists_cons_of_ne_nil (show l ≠ [] by intro e; rw [e] at h2; simp at h2)
      simp only [List.head?_cons, Option.some.injEq] at h2
      subst h2
      rw [List.tail_cons] at h h3 ⊢
      subst h
      refine ⟨?_, h3, h1, fun _ => ⟨rfl, rfl⟩⟩
      rw [pathOf, if_neg (splitS_ne t), J_split]
    · cases h
theorem all_free (ls : List (List UInt8)) (h : ls.all right = true) : ∀ n ∈ ls, 47 ∉ n := fun n hn => right_free n (List.all_eq_true.1 h n hn)
theorem J_long (ls : List (List UInt8)) (h : ls.all right = true) (h0 : ls ≠ []) : 2 ≤ (J ls).length := by
  obtain ⟨n, ls, rfl⟩ := List.exists_cons_of_ne_nil h0
  rw [J_cons, List.length_cons, List.length_append]
  have := right_pos n (List.all_eq_true.1 h n List.mem_cons_self)
  omega
/-- Joined, and split, they are the names. -/
theorem split_path (ls : List (List UInt8)) (h : ls.all right = true) (hl : (J ls).length ≤ 400) : splitP (pathOf ls) = some ls := by
  unfold pathOf
  split
  · rename_i e
    subst e
    rfl
  · rename_i h0
    have h2 := J_long ls h h0
    have hs := split_J ls h0 (all_free ls h)
    unfold splitP
    rw [if_neg (by intro e; rw [e] at h2; simp at h2), if_pos ⟨hl, by rw [J_head ls h0]; rfl, by rw [hs]; exact h⟩, hs]
theorem back_join (ls : List (List UInt8)) (t : List UInt8) (h : joinP ls = some t) : splitP t = some ls := by
  unfold joinP at h
  split at h
  · rename_i e
    injection h with h
    subst h
    exact split_path ls e.1 e.2
  · cases h
theorem J_path (m : List (List UInt8)) (h : (pathOf m).length ≤ 400) : (J m).length ≤ 400 := by
  unfold pathOf at h
  split at h
  · rename_i e; subst e; simp [J]
  · exact h
/-- Split, and joined, it is the path. -/
theorem back_split (s : List UInt8) (m : List (List UInt8)) (h : splitP s = some m) : joinP m = some s := by
  obtain ⟨h1, h2, h3, _⟩ := splitP_some s m h
  unfold joinP
  rw [if_pos ⟨h2, J_path m (by rw [← h1]; exact h3)⟩, ← h1]

/-- Parts of a path's names. -/
theorem split_take (s : List UInt8) (m : List (List UInt8)) (h : splitP s = some m) (k : Nat) : splitP (pathOf (m.take k)) = some (m.take k) := by
  obtain ⟨h1, h2, h3, _⟩ := splitP_some s m h
  refine split_path _ ?_ ?_
  · rw [List.all_eq_true] at h2 ⊢
    exact fun n hn => h2 n (List.mem_of_mem_take hn)
  · have := J_path m (by rw [← h1]; exact h3)
    rw [← List.take_append_drop k m, J_append, List.length_append] at this
    omega
theorem cut_some (s : List UInt8) (m : List (List UInt8)) (n : List UInt8) (h : splitP s = some (m ++ [n])) : cutP s = some (pathOf m, n) := by
  unfold cutP
  rw [h]
  simp
theorem cut_root : cutP [47] = none := rfl
theorem cut_none (s : List UInt8) (h : splitP s = none) : cutP s = none := by
  unfold cutP
  rw [h]
/-- The last name put on again. -/
theorem path_last (m : List (List UInt8)) (n : List UInt8) (hm : m.all right = true) : pathOf (m ++ [n]) = if pathOf m = [47] then pathOf m ++ n else pathOf m ++ 47 :: n := by
  unfold pathOf
  by_cases h0 : m = []
  · subst h0
    simp [J]
  · rw [if_neg (by simp), if_neg h0, if_neg (by intro e; have := J_long m hm h0; rw [e] at this; simp at this), J_append]
    simp [J]
/-- A text more. -/
theorem split_more (s t : List UInt8) (l : List (List UInt8)) (h : splitP s = some l) (hl : l ≠ []) : splitP (s ++ 47 :: t) = if (splitS t).all right = true ∧ (s ++ 47 :: t).length ≤ 400 then some (l ++ splitS t) else none := by
  obtain ⟨h1, h2, h3, h4⟩ := splitP_some s l h
  obtain ⟨h5, h6⟩ := h4 hl
  have e : splitS (s ++ 47 :: t).tail = l ++ splitS t := by
    rw [h6, List.cons_append, List.tail_cons, splitS_app, ← h5]
  unfold splitP
  have hlen : 1 ≤ s.length := by rw [h6]; simp
  rw [if_neg (by intro e; have := congrArg List.length e; simp at this; omega), e]
  by_cases hc : (splitS t).all right = true ∧ (s ++ 47 :: t).length ≤ 400
  · rw [if_pos hc, if_pos ⟨hc.2, by rw [h6]; rfl, by rw [List.all_append, h2, hc.1]; rfl⟩]
  · rw [if_neg hc, if_neg]
    rintro ⟨q1, _, q3⟩
    rw [List.all_append, Bool.and_eq_true] at q3
    exact hc ⟨q3.2, q1⟩
theorem split_stroke (t : List UInt8) (h : t ≠ []) : splitP (47 :: t) = if (splitS t).all right = true ∧ t.length + 1 ≤ 400 then some (splitS t) else none := by
  unfold splitP
  rw [if_neg (by intro e; injection e with _ e; exact h e)]
  simp only [List.length_cons, List.head?_cons, List.tail_cons, true_and]
  by_cases hc : (splitS t).all right = true ∧ t.length + 1 ≤ 400
  · rw [if_pos hc, if_pos ⟨hc.2, hc.1⟩]
  · rw [if_neg hc, if_neg (fun q => hc ⟨q.2, q.1⟩)]
theorem one_part (t : List UInt8) (h : (splitS t).all right = true) : right t = true ↔ (splitS t).length = 1 := by
  constructor
  · intro hr
    rw [splitS_free t (right_free t hr)]
    rfl
  · intro h1
    obtain ⟨p, hp⟩ := List.length_eq_one_iff.1 h1
    have hj := J_split t
    rw [hp] at hj h
    rw [J_cons, show J [] = [] from rfl, List.append_nil] at hj
    injection hj with _ hj
    subst hj
    simpa using h
/-- What is ahead of a stroke. -/
theorem split_ahead (s : List UInt8) (l : List (List UInt8)) (h : splitP s = some l) (i : Nat) (h1 : 1 ≤ i) (hi : i < s.length) (hs : s[i] = 47) : ∃ m, splitP (s.take i) = some m ∧ m.length < l.length := by
  have hl : l ≠ [] := by
    intro e
    subst e
    obtain ⟨q, _⟩ := splitP_some s [] h
    rw [q] at hi
    simp [pathOf] at hi
    omega
  obtain ⟨_, h2, h3, h4⟩ := splitP_some s l h
  obtain ⟨h5, h6⟩ := h4 hl
  obtain ⟨k, rfl⟩ : ∃ k, i = k + 1 := ⟨i - 1, by omega⟩
  generalize s.tail = r at h5 h6
  subst h6
  rw [List.getElem_cons_succ] at hs
  rw [List.length_cons] at hi h3
  have er : r = r.take k ++ 47 :: r.drop (k + 1) := by
    conv => lhs; rw [← List.take_append_drop k r, List.drop_eq_getElem_cons (by omega), hs]
  rw [er, splitS_app] at h5
  subst h5
  rw [List.all_append, Bool.and_eq_true] at h2
  have ha : r.take k ≠ [] := by
    intro e
    rw [e] at h2
    exact absurd h2.1 (by decide)
  refine ⟨splitS (r.take k), ?_, ?_⟩
  · rw [List.take_succ_cons, split_stroke _ ha, if_pos ⟨h2.1, by rw [List.length_take]; omega⟩]
  · rw [List.length_append]
    have := List.length_pos_iff.2 (splitS_ne (r.drop (k + 1)))
    omega
end Go.Proofs.YtimfeocaghccdaaGreatDoor
