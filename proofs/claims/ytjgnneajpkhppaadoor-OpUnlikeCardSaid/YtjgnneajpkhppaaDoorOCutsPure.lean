/-
  Cut off anywhere an operation is none; a small operation is right. No conditions.
-/
import Derived.Test.YtjgnneajpkhppaaDoorOBackPure
import Derived.Test.YtjgnneajpkhppaaDoorOOf
namespace Go.Proofs.YtjgnneajpkhppaaDoor
open Go.RowKit
set_option linter.unusedVariables false

theorem scanF_cut (q : Nat) : ∀ (j f i acc m : Nat), q ≤ j → q < f → scanF f i acc ((formX j m).take q) = (0, 0, 2) := by
  induction q with
  | zero =>
    intro j f i acc m _ hf
    obtain ⟨f, rfl⟩ : ∃ k, f = k + 1 := ⟨f - 1, by omega⟩
    rfl
  | succ q ih =>
    intro j f i acc m hq hf
    obtain ⟨f, rfl⟩ : ∃ k, f = k + 1 := ⟨f - 1, by omega⟩
    obtain ⟨j, rfl⟩ : ∃ k, j = k + 1 := ⟨j - 1, by omega⟩
    have hb : 128 ≤ (b8 (m % 128 + 128)).toNat := by rw [b8_toNat _ (by omega)]; omega
    rw [formX, List.take_succ_cons, scanF, if_pos hb]
    exact ih j f _ _ _ (by omega) (by omega)
theorem cut_num (n most : Int) (h0 : 0 ≤ n) (h1 : n ≤ 4294967295) (q : Nat) (hq : q < (num n).length) : rNum most ((num n).take q) 0 = (0, [], 2) := by
  rw [num_in n h0 h1] at hq ⊢
  have h5 := ext_le n.toNat
  rw [form_length] at hq
  have e : scan ((form n.toNat).take q) = (0, 0, 2) := scanF_cut q _ 5 0 0 _ (by omega) (by omega)
  unfold rNum
  rw [e]
  rfl
theorem cut_txt20 (s : List UInt8) (hs : s.length ≤ 20) (q : Nat) (hq : q < (txt s).length) : rTxt 20 ((txt s).take q) 0 = ([], [], 2) := by
  rw [txt_in s (by omega), form_small _ (by omega)] at hq ⊢
  rcases q with _ | q
  · rfl
  · simp only [List.singleton_append, List.take_succ_cons]
    have hq' : q < s.length := by simpa using hq
    have hsc : scan (b8 s.length :: s.take q) = (s.length, 1, 0) := by
      have := scan_form s.length (by omega) (s.take q)
      rw [form_small _ (by omega)] at this
      exact this
    have hn : rNum 20 (b8 s.length :: s.take q) 0 = (s.length, s.take q, 0) := by
      unfold rNum
      rw [hsc, if_neg (by simp), if_neg (by simp), if_neg (by simp only; omega)]
      rfl
    unfold rTxt
    rw [hn, if_neg (by simp), if_pos (by simp; omega)]
theorem bad_num (most : Int) : rNum most [] 2 = (0, [], 2) := rfl
theorem bad_txt (most : Int) : rTxt most [] 2 = ([], [], 2) := rfl
/-- A number is read, or it is cut off. -/
theorem cut_step (n most : Int) (h0 : 0 ≤ n) (hm : n ≤ most) (h1 : n ≤ 4294967295) (T : List UInt8) (q : Nat) :
    rNum most ((num n ++ T).take q) 0 = (0, [], 2) ∨ (rNum most ((num n ++ T).take q) 0 = (n.toNat, T.take (q - (num n).length), 0) ∧ (num n).length ≤ q) := by
  by_cases h : q < (num n).length
  · left
    rw [List.take_append_of_le_length (by omega)]
    exact cut_num n most h0 h1 q h
  · right
    refine ⟨?_, by omega⟩
    rw [List.take_append, List.take_of_length_le (by omega)]
    exact rNum_put n most h0 hm h1 _
/-- Cut off anywhere an operation is none. -/
theorem cut_op {n r d t : Int} {s : List UInt8} (h : opR n r d t s = true) (q : Nat) (hq : q < (opB n r d t s).length) : tk5 ((opB n r d t s).take q) 0 = ([], [], 2) := by
  obtain ⟨h1, h2, h3, h4⟩ := opR_t h
  have h1 := stR_t h1
  have h2 := ndB_t h2
  have h3 := toB_t h3
  obtain ⟨_, h5⟩ := right_ne h4
  have e0 : opB n r d t s = num n ++ (num r ++ (num d ++ (num t ++ txt s))) := by
    unfold opB
    rw [if_pos h]
    simp only [List.append_assoc]
  rw [e0] at hq ⊢
  simp only [List.length_append] at hq
  have bad2 : ∀ l, tk1 l 0 = (0, [], 2) → tk5 l 0 = ([], [], 2) := fun l g => by
    have g2 : tk2 l 0 = (0, [], 2) := by unfold tk2; rw [g]; rfl
    have g3 : tk3 l 0 = (0, [], 2) := by unfold tk3; rw [g2]; rfl
    have g4 : tk4 l 0 = (0, [], 2) := by unfold tk4; rw [g3]; rfl
    unfold tk5; rw [g4]; rfl
  have bad3 : ∀ l, tk2 l 0 = (0, [], 2) → tk5 l 0 = ([], [], 2) := fun l g2 => by
    have g3 : tk3 l 0 = (0, [], 2) := by unfold tk3; rw [g2]; rfl
    have g4 : tk4 l 0 = (0, [], 2) := by unfold tk4; rw [g3]; rfl
    unfold tk5; rw [g4]; rfl
  have bad4 : ∀ l, tk3 l 0 = (0, [], 2) → tk5 l 0 = ([], [], 2) := fun l g3 => by
    have g4 : tk4 l 0 = (0, [], 2) := by unfold tk4; rw [g3]; rfl
    unfold tk5; rw [g4]; rfl
  have bad5 : ∀ l, tk4 l 0 = (0, [], 2) → tk5 l 0 = ([], [], 2) := fun l g4 => by
    unfold tk5; rw [g4]; rfl
  generalize hl : (num n ++ (num r ++ (num d ++ (num t ++ txt s)))).take q = l
  rcases cut_step n 16777215 (by omega) (by omega) (by omega) (num r ++ (num d ++ (num t ++ txt s))) q with g | ⟨g, k1⟩
  · rw [hl] at g
    exact bad2 l g
  · rw [hl] at g
    have e1 : tk1 l 0 = _ := g
    rcases cut_step r 255 (by omega) (by omega) (by omega) (num d ++ (num t ++ txt s)) (q - (num n).length) with g | ⟨g, k2⟩
    · refine bad3 l ?_
      unfold tk2
      rw [e1]
      exact g
    · have e2 : tk2 l 0 = (r.toNat, (num d ++ (num t ++ txt s)).take (q - (num n).length - (num r).length), 0) := by
        unfold tk2
        rw [e1]
        exact g
      rcases cut_step d 4294967295 (by omega) (by omega) (by omega) (num t ++ txt s) (q - (num n).length - (num r).length) with g | ⟨g, k3⟩
      · refine bad4 l ?_
        unfold tk3
        rw [e2]
        exact g
      · have e3 : tk3 l 0 = (d.toNat, (num t ++ txt s).take (q - (num n).length - (num r).length - (num d).length), 0) := by
          unfold tk3
          rw [e2]
          exact g
        rcases cut_step t 4294967295 (by omega) (by omega) (by omega) (txt s) (q - (num n).length - (num r).length - (num d).length) with g | ⟨g, k4⟩
        · refine bad5 l ?_
          unfold tk4
          rw [e3]
          exact g
        · have e4 : tk4 l 0 = (t.toNat, (txt s).take (q - (num n).length - (num r).length - (num d).length - (num t).length), 0) := by
            unfold tk4
            rw [e3]
            exact g
          unfold tk5
          rw [e4]
          exact cut_txt20 s h5 _ (by omega)
theorem cut_gone {n r d t : Int} {s : List UInt8} (h : opR n r d t s = true) (q : Nat) (hq : q < (opB n r d t s).length) :
    tkR ((opB n r d t s).take q) 0 = false ∧ tkV ((opB n r d t s).take q) 0 = opv 0 0 0 0 [] ∧ (tk5 ((opB n r d t s).take q) 0).2 = ([], 2) := by
  have e := cut_op h q hq
  have hR : tkR ((opB n r d t s).take q) 0 = false := by
    unfold tkR opR
    rw [e, right_short [] (by simp), Bool.and_false]
  refine ⟨hR, ?_, by rw [e]⟩
  unfold tkV
  rw [hR]
  rfl
theorem right8 : ∀ i : Fin 8, right [b8 (97 + i.val)] = true := by decide
/-- A small operation is right. -/
theorem of_right (a b c e f : Nat) : opR (1 + (a : Int) % 40) ((b : Int) % 4) (256 + (c : Int) % 8) (toOf e) [b8 (97 + f % 8)] = true := by
  have h4 : right [b8 (97 + f % 8)] = true := right8 ⟨f % 8, Nat.mod_lt _ (by decide)⟩
  have h1 : stR (1 + (a : Int) % 40) ((b : Int) % 4) = true := by simp [stR]; omega
  have h2 : ndB (256 + (c : Int) % 8) = true := ndB_in (by omega)
  have h3 : toB (toOf e) = true := by
    unfold toOf toB
    split <;> simp <;> omega
  unfold opR
  rw [h1, h2, h3, h4]
  rfl
end Go.Proofs.YtjgnneajpkhppaaDoor
