/-
  The library functions that package name calls, by their contracts, over lists of bytes: strings.CutPrefix, Split, Clone, utf8.ValidString. Conditions: the two tables of unicode/utf8 as the program's text lays them (the rows list them), and that internal/bytealg.MaxLen is a number ('Env').
-/
import Derived.Test.YtlcmkikjgelfaaaDoorShelf
import Derived.Test.YtlcmkikjgelfaaaDoorNBase
import Derived.Shelf.Small.Wraps
import Derived.Shelf.Strings.SplitShaped
import Derived.Shelf.Strconv.Clone
import Derived.Shelf.Unicode.ValidAny
import Derived.Lib.LaidU8T
namespace Go.Proofs.YtlcmkikjgelfaaaDoor
set_option maxRecDepth 100000
open Go.RowKit Go.Shelf
set_option linter.unusedVariables false

/-- The variables that the library reads. -/
structure Env (w : World) : Prop where
  tabs : Lib.Utf8Tabs (Tryd.lays196_ren.g 3) (Tryd.lays196_ren.g 4) w
  most : ∃ m, w.cell? ⟨Tryd.laysM146_ren.g 1, 0, none⟩ = some (.int .i64 m)
theorem Env.below {w w' : World} (h : Env w) (hb : Below w.heap.size w w') : Env w' := by
  obtain ⟨h1, m, h2⟩ := h
  exact ⟨Utf8Tabs_below h1 hb, m, (hb.cell (World.block_lt_of_cell? w _ h2)).trans h2⟩

/-- Well-formed, as the library tells it. -/
theorem valid_formed (n : Nat) (l : List UInt8) (h : l.length ≤ n) : Lib.validGoD n l = formed l := by
  induction n generalizing l with
  | zero =>
    have : l = [] := List.length_eq_zero_iff.1 (by omega)
    subst this
    rfl
  | succ n ih =>
    unfold Lib.validGoD
    by_cases h0 : l = []
    · subst h0
      rfl
    · rw [if_neg h0, formed_step l h0]
      have ed : Lib.decodeL l = dec l := rfl
      rw [ed]
      by_cases hw : oneW l = 0
      · rw [dec_none l h0 hw]
        simp [hw]
      · have h2 := dec_some l hw
        have hpos : 0 < l.length := List.length_pos_iff.2 h0
        have hle := oneW_le l
        have hne : ¬ ((dec l).1 = 65533 ∧ (dec l).2 = 1) := by
          rintro ⟨e1, e2⟩
          have e3 := (dec_fffd l hw).1 e1
          rw [h2] at e2
          obtain ⟨c, t, rfl⟩ := List.exists_cons_of_ne_nil h0
          have hc : c = 239 := by
            have := congrArg List.head? e3
            simpa using this
          subst hc
          rw [oneW] at e2
          have et : tl (UInt8.toNat 239) = (3, 128, 191) := by decide
          rw [et] at e2
          split at e2
          · omega
          · omega
        rw [if_neg hne, h2, ih _ (by rw [List.length_drop]; omega)]
        simp [hw]

theorem index_free (l : List UInt8) (h : 47 ∉ l) : Lib.index l [47] = -1 := by
  induction l with
  | nil => rfl
  | cons b l ih =>
    rw [List.mem_cons, not_or] at h
    have hb : ([47] : List UInt8).isPrefixOf (b :: l) = false := by simp [List.isPrefixOf, h.1]
    rw [Lib.index, hb, ih h.2]
    rfl
theorem index_at (a b : List UInt8) (h : 47 ∉ a) : Lib.index (a ++ 47 :: b) [47] = a.length := by
  induction a with
  | nil => simp [Lib.index, List.isPrefixOf]
  | cons c a ih =>
    rw [List.mem_cons, not_or] at h
    have hb : ([47] : List UInt8).isPrefixOf (c :: (a ++ 47 :: b)) = false := by simp [List.isPrefixOf, h.1]
    rw [List.cons_append, Lib.index, hb, ih h.2]
    have : ¬ (((a.length : Nat) : Int) == -1) = true := by simp
    simp [this]
/-- The library's cuts are the plain ones. -/
theorem split_plain (n : Nat) (l : List UInt8) (h : l.length ≤ n) : Lib.split l [47] = splitS l ∧ Lib.count l [47] + 1 = (splitS l).length := by
  induction n generalizing l with
  | zero =>
    have : l = [] := List.length_eq_zero_iff.1 (by omega)
    subst this
    exact ⟨rfl, rfl⟩
  | succ n ih =>
    by_cases h47 : 47 ∈ l
    · obtain ⟨a, b, e, ha⟩ := List.eq_append_cons_of_mem h47
      subst e
      have hi := index_at a b ha
      have hc : Lib.count (a ++ 47 :: b) [47] = 1 + Lib.count b [47] := by
        rw [Lib.count_hit (i := a.length) (by simp) hi]
        congr 2
        simp
      obtain ⟨i1, i2⟩ := ih b (by simp at h; omega)
      have hs : splitS (a ++ 47 :: b) = a :: splitS b := by rw [splitS_app, splitS_free a ha]; rfl
      rw [hs]
      constructor
      · rw [← i1]
        unfold Lib.split
        rw [hc, Nat.add_comm 1, Lib.splitK, hi]
        have : ¬ (((a.length : Nat) : Int) == -1) = true := by simp
        rw [if_neg this]
        simp
      · rw [hc, List.length_cons, ← i2]
        omega
    · have hi := index_free l h47
      have hc : Lib.count l [47] = 0 := Lib.count_miss hi
      rw [splitS_free l h47]
      unfold Lib.split
      rw [hc]
      exact ⟨rfl, rfl⟩

theorem lib_cut_yes (t : List UInt8) (w : World) : Calls Tryd.prog 64 #[.string (bs (47 :: t)), .string { data := #[47] }] w fun e w' => e = .returned (.tuple #[.string (bs t), .bool true]) ∧ w' = w := by
  have h := Any.strings_CutPrefix Tryd.lays103 (bs (47 :: t)) { data := #[47] } w
  rw [bs_data] at h
  simpa [Lib.trimPrefix, Lib.hasPrefix, List.isPrefixOf, bs, Tryd.lays103_ren] using h
theorem lib_cut_no (l : List UInt8) (hl : l.head? ≠ some 47) (w : World) : Calls Tryd.prog 64 #[.string (bs l), .string { data := #[47] }] w fun e w' => e = .returned (.tuple #[.string (bs l), .bool false]) ∧ w' = w := by
  have h := Any.strings_CutPrefix Tryd.lays103 (bs l) { data := #[47] } w
  have hp : Lib.hasPrefix l [47] = false := by
    unfold Lib.hasPrefix
    cases l with
    | nil => rfl
    | cons c t =>
      have : ¬ (47 : UInt8) = c := fun e => hl (by simp [e])
      simp [List.isPrefixOf, this]
  rw [bs_data] at h
  simpa [Lib.trimPrefix, hp, bs, Tryd.lays103_ren] using h
theorem lib_split (l : List UInt8) (w : World) (hl : l.length < 4294967281) (hE : Env w) : Calls Tryd.prog 65 #[.string (bs l), .string { data := #[47] }] w fun e w' =>
    e = .returned (.slice (some ⟨w.heap.size, 0, none⟩) (splitS l).length (splitS l).length) ∧ w' = w.alloc (.cells ((splitS l).map fun x => Value.string (bs x)).toArray 9) := by
  obtain ⟨m, hm⟩ := hE.most
  have h := Any.strings_Split { Tryd.laysM146 with } Tryd.laysM146.i9 (bs l) { data := #[47] } m w (by rw [bs_size]; exact hl) hm (by decide)
  have hp := split_plain l.length l (Nat.le_refl _)
  have e1 : Lib.countB (bs l) { data := #[47] } + 1 = (splitS l).length := by
    rw [← hp.2]
    show Lib.count (bs l).data.toList [47] + 1 = _
    rw [bs_data]
  have e2 : (Lib.splitB { data := #[47] } 0 (Lib.countB (bs l) { data := #[47] }) (bs l)).map Value.string = (splitS l).map fun x => Value.string (bs x) := by
    have e3 := Lib.splitB_data { data := #[47] } 0 (Lib.countB (bs l) { data := #[47] }) (bs l)
    have e4 : Lib.splitK ({ data := #[47] } : ByteArray).data.toList 0 (Lib.countB (bs l) { data := #[47] }) (bs l).data.toList = splitS l := by
      rw [← hp.1]
      unfold Lib.split
      show Lib.splitK [47] 0 (Lib.count (bs l).data.toList [47]) (bs l).data.toList = _
      rw [bs_data]
    rw [e4] at e3
    rw [← e3, List.map_map]
    apply List.map_congr_left
    intro s _
    show Value.string s = Value.string (bs s.data.toList)
    rw [bs_of]
  rw [e1, e2] at h
  exact h
theorem lib_clone (l : List UInt8) (w : World) (hl : l.length ≤ 281474976710656) : Calls Tryd.prog 60 #[.string (bs l)] w fun e w' => e = .returned (.string (bs l)) ∧ Below w.heap.size w w' :=
  Any.stringslite_Clone Tryd.laysM316 (bs l) w (by rw [bs_size]; exact hl)
theorem lib_valid (l : List UInt8) (w : World) (hl : l.length ≤ 9223372036854775807) (hE : Env w) : Calls Tryd.prog 70 #[.string (bs l)] w (BoolRet (formed l) w) := by
  have h := Any.utf8_ValidString Tryd.lays196 (bs l) w (by rw [bs_size]; exact hl) hE.tabs
  rw [bs_data] at h
  unfold Lib.validD at h
  rw [valid_formed l.length l (Nat.le_refl _)] at h
  exact h
end Go.Proofs.YtlcmkikjgelfaaaDoor
