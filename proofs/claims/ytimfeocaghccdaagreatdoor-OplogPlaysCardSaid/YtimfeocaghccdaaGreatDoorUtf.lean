/-
  Well-formed texts, byte by byte, and rune by rune as the model decodes: the same. No program, no world; no conditions beyond those that each statement bears.
-/
import Derived.Below
namespace Go.Proofs.YtimfeocaghccdaaGreatDoor
set_option maxRecDepth 100000

/-- How many bytes a character has whose first byte is c (0: none), and from where to where the second one may be. -/
def tl (c : Nat) : Nat × Nat × Nat :=
  if c < 128 then (1, 128, 191) else if 194 ≤ c ∧ c ≤ 223 then (2, 128, 191) else if c = 224 then (3, 160, 191) else if c = 237 then (3, 128, 159) else if 225 ≤ c ∧ c ≤ 239 then (3, 128, 191)
  else if c = 240 then (4, 144, 191) else if 241 ≤ c ∧ c ≤ 243 then (4, 128, 191) else if c = 244 then (4, 128, 143) else (0, 0, 0)
/-- The bytes behind the first one. -/
def okT : Nat → Nat → Nat → List UInt8 → Bool
  | 0, _, _, _ => true
  | _ + 1, _, _, [] => false
  | n + 1, lo, hi, c :: t => decide (lo ≤ c.toNat ∧ c.toNat ≤ hi) && okT n 128 191 t
/-- How many bytes the first character has; 0: there is none that is well-formed. -/
def oneW : List UInt8 → Nat
  | [] => 0
  | c :: t => if (tl c.toNat).1 ≠ 0 ∧ okT ((tl c.toNat).1 - 1) (tl c.toNat).2.1 (tl c.toNat).2.2 t = true then (tl c.toNat).1 else 0
def formedF : Nat → List UInt8 → Bool
  | 0, l => l.isEmpty
  | f + 1, l => l.isEmpty || (decide (oneW l ≠ 0) && formedF f (l.drop (oneW l)))
/-- Is a text well-formed? -/
def formed (l : List UInt8) : Bool := formedF l.length l

theorem tl_cases (c : Nat) :
    (tl c = (1, 128, 191) ∧ c < 128) ∨ (tl c = (2, 128, 191) ∧ 194 ≤ c ∧ c ≤ 223) ∨ (tl c = (3, 160, 191) ∧ c = 224) ∨ (tl c = (3, 128, 159) ∧ c = 237) ∨ (tl c = (3, 128, 191) ∧ 225 ≤ c ∧ c ≤ 239 ∧ c ≠ 237) ∨
    (tl c = (4, 144, 191) ∧ c = 240) ∨ (tl c = (4, 128, 191) ∧ 241 ≤ c ∧ c ≤ 243) ∨ (tl c = (4, 128, 143) ∧ c = 244) ∨ (tl c = (0, 0, 0) ∧ ((128 ≤ c ∧ c ≤ 193) ∨ 245 ≤ c)) := by
  unfold tl
  repeat' split
  all_goals simp
  all_goals omega
theorem formedF_more (f g : Nat) (l : List UInt8) (hf : l.length ≤ f) (hg : l.length ≤ g) : formedF f l = formedF g l := by
  induction f generalizing g l with
  | zero =>
    have : l = [] := List.length_eq_zero_iff.1 (by omega)
    subst this
    cases g <;> rfl
  | succ f ih =>
    cases g with
    | zero =>
      have : l = [] := List.length_eq_zero_iff.1 (by omega)
      subst this
      rfl
    | succ g =>
      unfold formedF
      by_cases h0 : oneW l = 0
      · simp [h0]
      · rw [ih g (l.drop (oneW l)) (by rw [List.length_drop]; omega) (by rw [List.length_drop]; omega)]
theorem formed_nil : formed [] = true := rfl
theorem formed_step (l : List UInt8) (h : l ≠ []) : formed l = (decide (oneW l ≠ 0) && formed (l.drop (oneW l))) := by
  unfold formed
  obtain ⟨c, t, rfl⟩ := List.exists_cons_of_ne_nil h
  rw [List.length_cons, formedF]
  simp only [List.isEmpty_cons, Bool.false_or]
  by_cases h0 : oneW (c :: t) = 0
  · simp [h0]
  · rw [formedF_more t.length _ ((c :: t).drop (oneW (c :: t))) (by rw [List.length_drop, List.length_cons]; omega) (Nat.le_refl _)]

theorem okT_one (lo hi : Nat) (t : List UInt8) : okT 1 lo hi t = true ↔ ∃ a u, t = a :: u ∧ lo ≤ a.toNat ∧ a.toNat ≤ hi := by
  cases t with
  | nil => simp [okT]
  | cons a u => simp [okT]
theorem okT_two (lo hi : Nat) (t : List UInt8) : okT 2 lo hi t = true ↔ ∃ a b u, t = a :: b :: u ∧ lo ≤ a.toNat ∧ a.toNat ≤ hi ∧ 128 ≤ b.toNat ∧ b.toNat ≤ 191 := by
  cases t with
  | nil => simp [okT]
  | cons a t => cases t with
    | nil => simp [okT]
    | cons b u => simp [okT, and_assoc]
theorem okT_three (lo hi : Nat) (t : List UInt8) : okT 3 lo hi t = true ↔ ∃ a b c u, t = a :: b :: c :: u ∧ lo ≤ a.toNat ∧ a.toNat ≤ hi ∧ 128 ≤ b.toNat ∧ b.toNat ≤ 191 ∧ 128 ≤ c.toNat ∧ c.toNat ≤ 191 := by
  cases t with
  | nil => simp [okT]
  | cons a t => cases t with
    | nil => simp [okT]
    | cons b t => cases t with
      | nil => simp [okT]
      | cons c u => simp [okT, and_assoc]

/-- The model's decoding, over what is left of the bytes. -/
def dec (l : List UInt8) : Nat × Nat := Utf8.decode ⟨l.toArray⟩ 0
theorem get_drop (s : ByteArray) (i k : Nat) : (s.get! (i + k)).toNat = ((⟨(s.data.toList.drop i).toArray⟩ : ByteArray).get! (0 + k)).toNat := by
  simp only [ByteArray.get!]
  rw [getElem!_def, getElem!_def]
  simp
theorem dec_drop (s : ByteArray) (i : Nat) (h : i ≤ s.size) : Utf8.decode s i = dec (s.data.toList.drop i) := by
  have hsz : (⟨(s.data.toList.drop i).toArray⟩ : ByteArray).size = s.size - i := by
    show (s.data.toList.drop i).toArray.size = s.size - i
    rw [List.size_toArray, List.length_drop]
    rfl
  unfold dec Utf8.decode
  have e : ∀ k, decide (i + k < s.size) = decide (0 + k < (⟨(s.data.toList.drop i).toArray⟩ : ByteArray).size) := by
    intro k
    rw [hsz]
    apply decide_eq_decide.2
    omega
  simp only [get_drop s i, e]

/-- Byte k as a number; behind the end: 0. -/
def vk (l : List UInt8) (k : Nat) : Nat := (l.getD k 0).toNat
theorem vk_lt (l : List UInt8) (k : Nat) : vk l k < 256 := (l.getD k 0).toNat_lt
theorem get_list (l : List UInt8) (k : Nat) : ((⟨l.toArray⟩ : ByteArray).get! (0 + k)).toNat = vk l k := by
  simp only [ByteArray.get!, vk, Nat.zero_add]
  rw [getElem!_def]
  simp only [List.getElem?_toArray, List.getD]
  cases l[k]? <;> rfl
theorem vk_end (l : List UInt8) (k : Nat) (h : ¬ k < l.length) : vk l k = 0 := by
  simp [vk, List.getD, List.getElem?_eq_none (show l.length ≤ k by omega)]
theorem cont_list (l : List UInt8) (k : Nat) : (decide (0 + k < (⟨l.toArray⟩ : ByteArray).size) && vk l k / 64 == 2) = decide (vk l k / 64 = 2) := by
  have hsz : (⟨l.toArray⟩ : ByteArray).size = l.length := by
    show l.toArray.size = l.length
    rw [List.size_toArray]
  rw [hsz, Nat.zero_add]
  by_cases h : k < l.length
  · rw [decide_eq_true h, Bool.true_and]
    rfl
  · rw [vk_end l k h, decide_eq_false h]
    rfl
/-- Decoding, of up to four numbers. -/
def decN (b0 v1 v2 v3 : Nat) : Nat × Nat :=
  if b0 < 128 then (b0, 1)
  else if b0 / 32 = 6 ∧ v1 / 64 = 2 then
    if 128 ≤ b0 % 32 * 64 + v1 % 64 then (b0 % 32 * 64 + v1 % 64, 2) else (65533, 1)
  else if b0 / 16 = 14 ∧ v1 / 64 = 2 ∧ v2 / 64 = 2 then
    if 2048 ≤ b0 % 16 * 4096 + v1 % 64 * 64 + v2 % 64 ∧ (b0 % 16 * 4096 + v1 % 64 * 64 + v2 % 64 < 55296 ∨ 57344 ≤ b0 % 16 * 4096 + v1 % 64 * 64 + v2 % 64) then (b0 % 16 * 4096 + v1 % 64 * 64 + v2 % 64, 3) else (65533, 1)
  else if b0 / 8 = 30 ∧ v1 / 64 = 2 ∧ v2 / 64 = 2 ∧ v3 / 64 = 2 then
    if 65536 ≤ b0 % 8 * 262144 + v1 % 64 * 4096 + v2 % 64 * 64 + v3 % 64 ∧ b0 % 8 * 262144 + v1 % 64 * 4096 + v2 % 64 * 64 + v3 % 64 ≤ 1114111 then (b0 % 8 * 262144 + v1 % 64 * 4096 + v2 % 64 * 64 + v3 % 64, 4) else (65533, 1)
  else (65533, 1)
theorem dec_eq (l : List UInt8) : dec l = decN (vk l 0) (vk l 1) (vk l 2) (vk l 3) := by
  unfold dec Utf8.decode decN
  simp only [get_list, cont_list, Utf8.runeError, Utf8.valid]
  have h0 := vk_lt l 0
  have h1 := vk_lt l 1
  have h2 := vk_lt l 2
  have h3 := vk_lt l 3
  generalize vk l 0 = b0 at *
  generalize vk l 1 = v1 at *
  generalize vk l 2 = v2 at *
  generalize vk l 3 = v3 at *
  simp only [Bool.and_eq_true, Bool.or_eq_true, beq_iff_eq, decide_eq_true_eq, ge_iff_le, and_assoc]
  repeat' split
  all_goals first | rfl | (exfalso; omega)
/-- How many bytes, of up to four numbers. -/
def oneN (b0 v1 v2 v3 : Nat) : Nat :=
  if b0 < 128 then 1
  else if 194 ≤ b0 ∧ b0 ≤ 223 then (if 128 ≤ v1 ∧ v1 ≤ 191 then 2 else 0)
  else if 224 ≤ b0 ∧ b0 ≤ 239 then (if (if b0 = 224 then 160 else 128) ≤ v1 ∧ v1 ≤ (if b0 = 237 then 159 else 191) ∧ 128 ≤ v2 ∧ v2 ≤ 191 then 3 else 0)
  else if 240 ≤ b0 ∧ b0 ≤ 244 then (if (if b0 = 240 then 144 else 128) ≤ v1 ∧ v1 ≤ (if b0 = 244 then 143 else 191) ∧ 128 ≤ v2 ∧ v2 ≤ 191 ∧ 128 ≤ v3 ∧ v3 ≤ 191 then 4 else 0)
  else 0
theorem vk0 (c : UInt8) (t : List UInt8) : vk (c :: t) 0 = c.toNat := rfl
theorem vkS (c : UInt8) (t : List UInt8) (k : Nat) : vk (c :: t) (k + 1) = vk t k := by simp [vk]
theorem okT_vk1 (lo hi : Nat) (t : List UInt8) (h : 0 < lo) : okT 1 lo hi t = decide (lo ≤ vk t 0 ∧ vk t 0 ≤ hi) := by
  cases t with
  | nil => simp [okT, vk]; omega
  | cons a u => simp [okT, vk]
theorem okT_vk2 (lo hi : Nat) (t : List UInt8) : okT 2 lo hi t = decide (lo ≤ vk t 0 ∧ vk t 0 ≤ hi ∧ 128 ≤ vk t 1 ∧ vk t 1 ≤ 191) := by
  cases t with
  | nil => simp [okT, vk]
  | cons a t => cases t with
    | nil => simp [okT, vk]
    | cons b u => simp [okT, vk, Bool.decide_and, Bool.and_assoc]
theorem okT_vk3 (lo hi : Nat) (t : List UInt8) : okT 3 lo hi t = decide (lo ≤ vk t 0 ∧ vk t 0 ≤ hi ∧ 128 ≤ vk t 1 ∧ vk t 1 ≤ 191 ∧ 128 ≤ vk t 2 ∧ vk t 2 ≤ 191) := by
  cases t with
  | nil => simp [okT, vk]
  | cons a t => cases t with
    | nil => simp [okT, vk]
    | cons b t => cases t with
      | nil => simp [okT, vk]
      | cons d u => simp [okT, vk, Bool.decide_and, Bool.and_assoc]
theorem oneW_eq (c : UInt8) (t : List UInt8) : oneW (c :: t) = oneN c.toNat (vk t 0) (vk t 1) (vk t 2) := by
  have e0 : oneW (c :: t) = if (tl c.toNat).1 ≠ 0 ∧ okT ((tl c.toNat).1 - 1) (tl c.toNat).2.1 (tl c.toNat).2.2 t = true then (tl c.toNat).1 else 0 := rfl
  rw [e0]
  unfold oneN
  rcases tl_cases c.toNat with ⟨e, h⟩ | ⟨e, h⟩ | ⟨e, h⟩ | ⟨e, h⟩ | ⟨e, h⟩ | ⟨e, h⟩ | ⟨e, h⟩ | ⟨e, h⟩ | ⟨e, h⟩ <;> rw [e] <;> simp only []
  · simp [okT, h]
  · rw [show 2 - 1 = 1 from rfl, okT_vk1 _ _ _ (by omega)]
    generalize c.toNat = b0 at *
    simp only [decide_eq_true_eq]
    repeat' split
    all_goals first | rfl | (exfalso; omega)
  · rw [show 3 - 1 = 2 from rfl, okT_vk2]
    generalize c.toNat = b0 at *
    simp only [decide_eq_true_eq]
    repeat' split
    all_goals first | rfl | (exfalso; omega)
  · rw [show 3 - 1 = 2 from rfl, okT_vk2]
    generalize c.toNat = b0 at *
    simp only [decide_eq_true_eq]
    repeat' split
    all_goals first | rfl | (exfalso; omega)
  · rw [show 3 - 1 = 2 from rfl, okT_vk2]
    generalize c.toNat = b0 at *
    simp only [decide_eq_true_eq]
    repeat' split
    all_goals first | rfl | (exfalso; omega)
  · rw [show 4 - 1 = 3 from rfl, okT_vk3]
    generalize c.toNat = b0 at *
    simp only [decide_eq_true_eq]
    repeat' split
    all_goals first | rfl | (exfalso; omega)
  · rw [show 4 - 1 = 3 from rfl, okT_vk3]
    generalize c.toNat = b0 at *
    simp only [decide_eq_true_eq]
    repeat' split
    all_goals first | rfl | (exfalso; omega)
  · rw [show 4 - 1 = 3 from rfl, okT_vk3]
    generalize c.toNat = b0 at *
    simp only [decide_eq_true_eq]
    repeat' split
    all_goals first | rfl | (exfalso; omega)
  · generalize c.toNat = b0 at *
    simp only [ne_eq, not_true_eq_false, false_and, if_false]
    repeat' split
    all_goals first | rfl | (exfalso; omega)
theorem dec_bad (b0 v1 v2 v3 : Nat) (h0 : b0 < 256) (h1 : v1 < 256) (h2 : v2 < 256) (h3 : v3 < 256) (h : oneN b0 v1 v2 v3 = 0) : decN b0 v1 v2 v3 = (65533, 1) := by
  unfold oneN at h
  unfold decN
  repeat' split at h
  all_goals (try omega)
  all_goals (repeat' split)
  all_goals first | rfl | (exfalso; omega)
theorem oneN_cases (b0 v1 v2 v3 : Nat) : (oneN b0 v1 v2 v3 = 1 ∧ b0 < 128) ∨ (oneN b0 v1 v2 v3 = 2 ∧ 194 ≤ b0 ∧ b0 ≤ 223 ∧ 128 ≤ v1 ∧ v1 ≤ 191) ∨
    (oneN b0 v1 v2 v3 = 3 ∧ 224 ≤ b0 ∧ b0 ≤ 239 ∧ (b0 = 224 → 160 ≤ v1) ∧ (b0 = 237 → v1 ≤ 159) ∧ 128 ≤ v1 ∧ v1 ≤ 191 ∧ 128 ≤ v2 ∧ v2 ≤ 191) ∨
    (oneN b0 v1 v2 v3 = 4 ∧ 240 ≤ b0 ∧ b0 ≤ 244 ∧ (b0 = 240 → 144 ≤ v1) ∧ (b0 = 244 → v1 ≤ 143) ∧ 128 ≤ v1 ∧ v1 ≤ 191 ∧ 128 ≤ v2 ∧ v2 ≤ 191 ∧ 128 ≤ v3 ∧ v3 ≤ 191) ∨ oneN b0 v1 v2 v3 = 0 := by
  unfold oneN
  by_cases c1 : b0 < 128
  · simp [c1]
  · by_cases c2 : 194 ≤ b0 ∧ b0 ≤ 223
    · by_cases d : 128 ≤ v1 ∧ v1 ≤ 191 <;> simp [c1, c2, d]
    · by_cases c3 : 224 ≤ b0 ∧ b0 ≤ 239
      · by_cases d : (if b0 = 224 then 160 else 128) ≤ v1 ∧ v1 ≤ (if b0 = 237 then 159 else 191) ∧ 128 ≤ v2 ∧ v2 ≤ 191
        · rw [if_neg c1, if_neg c2, if_pos c3, if_pos d]
          obtain ⟨d1, d2, d3⟩ := d
          split at d1 <;> split at d2 <;> (right; right; left; refine ⟨rfl, ?_⟩; omega)
        · rw [if_neg c1, if_neg c2, if_pos c3, if_neg d]
          simp
      · by_cases c4 : 240 ≤ b0 ∧ b0 ≤ 244
        · by_cases d : (if b0 = 240 then 144 else 128) ≤ v1 ∧ v1 ≤ (if b0 = 244 then 143 else 191) ∧ 128 ≤ v2 ∧ v2 ≤ 191 ∧ 128 ≤ v3 ∧ v3 ≤ 191
          · rw [if_neg c1, if_neg c2, if_neg c3, if_pos c4, if_pos d]
            obtain ⟨d1, d2, d3⟩ := d
            split at d1 <;> split at d2 <;> (right; right; right; left; refine ⟨rfl, ?_⟩; omega)
          · rw [if_neg c1, if_neg c2, if_neg c3, if_pos c4, if_neg d]
            simp
        · rw [if_neg c1, if_neg c2, if_neg c3, if_neg c4]
          simp
theorem dec_good (b0 v1 v2 v3 : Nat) (h : oneN b0 v1 v2 v3 ≠ 0) :
    ∃ r, decN b0 v1 v2 v3 = (r, oneN b0 v1 v2 v3) ∧ ((oneN b0 v1 v2 v3 = 1 ∧ r = b0 ∧ b0 < 128) ∨ (1 < oneN b0 v1 v2 v3 ∧ 128 ≤ r ∧ 128 ≤ b0)) ∧ r ≤ 1114111 ∧ (r = 65533 ↔ b0 = 239 ∧ v1 = 191 ∧ v2 = 189) := by
  rcases oneN_cases b0 v1 v2 v3 with ⟨e, p⟩ | ⟨e, p⟩ | ⟨e, p⟩ | ⟨e, p⟩ | e
  · rw [e]
    refine ⟨b0, by unfold decN; rw [if_pos p], .inl ⟨rfl, rfl, p⟩, by omega, by omega⟩
  · rw [e]
    refine ⟨b0 % 32 * 64 + v1 % 64, by unfold decN; rw [if_neg (by omega), if_pos (by omega), if_pos (by omega)], .inr ⟨by omega, by omega, by omega⟩, by omega, by omega⟩
  · rw [e]
    refine ⟨b0 % 16 * 4096 + v1 % 64 * 64 + v2 % 64, by unfold decN; rw [if_neg (by omega), if_neg (by omega), if_pos (by omega), if_pos (by omega)], .inr ⟨by omega, by omega, by omega⟩, by omega, by omega⟩
  · rw [e]
    refine ⟨b0 % 8 * 262144 + v1 % 64 * 4096 + v2 % 64 * 64 + v3 % 64, by unfold decN; rw [if_neg (by omega), if_neg (by omega), if_neg (by omega), if_pos (by omega), if_pos (by omega)], .inr ⟨by omega, by omega, by omega⟩, by omega, by omega⟩
  · exact absurd e h
end Go.Proofs.YtimfeocaghccdaaGreatDoor
