/-
  utf8.ValidString, by its contract, over lists of bytes. Conditions: the two tables of unicode/utf8 as the program's text lays them (the rows list them).
-/
import Derived.Test.YtimfeocaghccdaaGreatDoorShelf
import Derived.Test.YtimfeocaghccdaaGreatDoorNBase
import Derived.Shelf.Unicode.ValidAny
import Derived.Lib.LaidU8T
namespace Go.Proofs.YtimfeocaghccdaaGreatDoor
set_option maxRecDepth 100000
open Go.RowKit Go.Shelf
set_option linter.unusedVariables false

/-- The variables that the library reads. -/
structure Env (w : World) : Prop where
  tabs : Lib.Utf8Tabs (Tryz.lays196_ren.g 3) (Tryz.lays196_ren.g 4) w
theorem Env.below {w w' : World} (h : Env w) (hb : Below w.heap.size w w') : Env w' := ⟨Utf8Tabs_below h.tabs hb⟩

/-- Well-formed, as the library tells it. -/
theorem valid_formed (n : Nat) (l : List UInt8) (h : l.length ≤ n) : Lib.validGoD n l = formed l := by
  induction n generalizing l with
  | zero =>
    have : l = [] := List.length_eq_zero_iff.1 (by omega)
    subst this
    rfl
  | succ n ih =>
    unfold Lib.validGoD
    by_cases h0 : l = []
    · subst h0
      rfl
    · rw [if_neg h0, formed_step l h0]
      have ed : Lib.decodeL l = dec l := rfl
      rw [ed]
      by_cases hw : oneW l = 0
      · rw [dec_none l h0 hw]
        simp [hw]
      · have h2 := dec_some l hw
        have hpos : 0 < l.length := List.length_pos_iff.2 h0
        have hle := oneW_le l
        have hne : ¬ ((dec l).1 = 65533 ∧ (dec l).2 = 1) := by
          rintro ⟨e1, e2⟩
          have e3 := (dec_fffd l hw).1 e1
          rw [h2] at e2
          obtain ⟨c, t, rfl⟩ := List.exists_cons_of_ne_nil h0
          have hc : c = 239 := by
            have := congrArg List.head? e3
            simpa using this
          subst hc
          rw [oneW] at e2
          have et : tl (UInt8.toNat 239) = (3, 128, 191) := by decide
          rw [et] at e2
          split at e2
          · omega
          · omega
        rw [if_neg hne, h2, ih _ (by rw [List.length_drop]; omega)]
        simp [hw]

theorem lib_valid (l : List UInt8) (w : World) (hl : l.length ≤ 9223372036854775807) (hE : Env w) : Calls Tryz.prog 97 #[.string (bs l)] w (BoolRet (formed l) w) := by
  have h := Any.utf8_ValidString Tryz.lays196 (bs l) w (by rw [bs_size]; exact hl) hE.tabs
  rw [bs_data] at h
  unfold Lib.validD at h
  rw [valid_formed l.length l (Nat.le_refl _)] at h
  exact h
end Go.Proofs.YtimfeocaghccdaaGreatDoor
