/-
  What the proofs of layer 3 share: texts as lists of bytes, slices of texts, what a call leaves that answers names, a path, or an error. No conditions beyond those that each statement bears.
  The document's functions on texts: tails, Formed, Right. They answer as the plain functions say; nothing that was there is changed. No conditions beyond those that each statement bears.
  The document's Right and Texts: they answer as the plain functions say; nothing that was there is changed. No conditions beyond those that each statement bears.
  Contracts of package stamp: within, replica, Right, ID. No conditions but that the numbers are of the machine's.
  Contracts of the document's answers for layer 4: Right, Cmp, Next, ID. No conditions but that the numbers are of the machine's.
  Package op, as plain functions over numbers and lists of bytes: a node's number, a right operation, how two stand to each other, an operation's bytes; an operation as a value and in a block. No conditions.
  Contracts of package op: Node and parent; the document's Node. No conditions but that the numbers are of the machine's.
  Contracts of the document's Right and Cmp of operations. Conditions: names are no longer than a thousand bytes.
-/
import Derived.Test.YteibkipcblmikaaDoorM1
import Derived.IntWalk
import Derived.Lib.Bytealg
namespace Go.Proofs.YteibkipcblmikaaDoor
open Go.RowKit
set_option linter.unusedVariables false

theorem ret_bool {a b : Bool} (h : a = b) : Ending.returned (.bool a) = .returned (.bool b) := by rw [h]
theorem bs_size (l : List UInt8) : (bs l).size = l.length := by simp [bs, ByteArray.size]
theorem bs_list (l : List UInt8) : (bs l).toList = l := by simp [bs]
theorem bs_data (l : List UInt8) : (bs l).data.toList = l := by simp [bs]
theorem bs_of (s : ByteArray) : bs s.data.toList = s := by cases s; simp [bs]
theorem bs_inj {a b : List UInt8} (h : bs a = bs b) : a = b := by
  have := congrArg (fun s => s.data.toList) h
  simpa [bs] using this
theorem bs_get (l : List UInt8) (i : Nat) (h : i < (bs l).size) : (bs l)[i] = l[i]'(by rw [← bs_size]; exact h) := by
  simp only [bs] at h ⊢
  rfl
theorem bs_extract (l : List UInt8) (a b : Nat) : (bs l).extract a b = bs ((l.drop a).take (b - a)) := ByteArray.extract_mk l a b
theorem bs_add (a b : List UInt8) : bs a ++ bs b = bs (a ++ b) := by
  apply ByteArray.ext
  simp [bs]
/-- A byte of a text. -/
theorem at_bs (l : List UInt8) (i : Nat) (h : i < l.length) (w : World) :
    (Instr.index 9 (.string (bs l)) (.int .i64 (i : Int))).run Tryd.prog w = .ok (.int .u8 (l[i].toNat : Int)) w := by
  have h1 : (0 : Int) ≤ (i : Int) ∧ (i : Int) < ((bs l).size : Int) := by rw [bs_size]; omega
  rw [run_index_string w 9 (bs l) .i64 i Tryd.underlying9, dif_pos h1]
  congr 3
/-- A part of a text. -/
theorem part_bs (l : List UInt8) (a b : Nat) (h : a ≤ b) (hb : b ≤ l.length) (w : World) :
    (Instr.slice 9 (.string (bs l)) (some (.int .i64 (a : Int))) (some (.int .i64 (b : Int))) none).run Tryd.prog w = .ok (.string (bs ((l.drop a).take (b - a)))) w := by
  rw [run_slice_string w 9 (bs l) .i64 .i64 a b Tryd.underlying9 (by omega) (by omega) (by rw [bs_size]; omega)]
  rw [Int.toNat_natCast, Int.toNat_natCast, bs_extract]
/-- A slice of texts. -/
def Tx (w : World) (v : Value) (ls : List (List UInt8)) : Prop :=
  ∃ A c, v = .slice A ls.length c ∧ ls.length ≤ c ∧ c ≤ maxLen ∧ (ls = [] ∨ ∃ g o, A = some ⟨g, o, none⟩ ∧ ∀ j (h : j < ls.length), w.cell? ⟨g, o + j, none⟩ = some (.string (bs ls[j])))
theorem Tx.nil (w : World) : Tx w (.slice none 0 0) [] := ⟨none, 0, rfl, Nat.le_refl _, Nat.zero_le _, .inl rfl⟩
theorem Tx.below {w w' : World} {v : Value} {ls : List (List UInt8)} (h : Tx w v ls) (hb : Below w.heap.size w w') : Tx w' v ls := by
  obtain ⟨A, c, h1, h2, h3, h4⟩ := h
  refine ⟨A, c, h1, h2, h3, ?_⟩
  rcases h4 with h4 | ⟨g, o, h4, h5⟩
  · exact .inl h4
  · exact .inr ⟨g, o, h4, fun j hj => (hb.cell (World.block_lt_of_cell? w _ (h5 j hj))).trans (h5 j hj)⟩
/-- Texts that came in. -/
theorem Tx.of_arg {w : World} {a : Option Addr} {len cap : Nat} {zs : List ByteArray} (h : IsStrs w a len cap zs) :
    Tx w (.slice a len cap) ((zs.take len).map fun s => s.data.toList) ∧ ((zs.take len).map fun s => s.data.toList).length = len ∧ (∀ l ∈ ((zs.take len).map fun s => s.data.toList), l.length ≤ maxLen) := by
  rcases h with ⟨rfl, rfl, rfl, rfl⟩ | ⟨x, rfl, hl, hm, hz, hcell, hwf⟩
  · exact ⟨Tx.nil w, rfl, by intro l hl; cases hl⟩
  · have hlen : ((zs.take len).map fun s => s.data.toList).length = len := by simp; omega
    refine ⟨⟨some x, cap, by rw [hlen], by omega, hm, ?_⟩, hlen, ?_⟩
    · by_cases h0 : len = 0
      · left
        subst h0
        simp
      · right
        have hc : ∀ j (h : j < ((zs.take len).map fun s => s.data.toList).length), w.cell? (x.add j) = some (.string (bs ((zs.take len).map fun s => s.data.toList)[j])) := by
          intro j h
          have hj : j < zs.length := by omega
          rw [hcell j hj]
          simp only [List.getD, List.getElem?_eq_getElem hj, Option.getD_some, List.getElem_map, List.getElem_take]
          rw [bs_of]
        obtain ⟨b, o, spot⟩ := x
        have h0 := hc 0 (by omega)
        have hspot : spot = none := by simpa [Addr.add] using World.cell?_spot h0
        subst hspot
        exact ⟨b, o, rfl, fun j h => by have := hc j h; rwa [Addr.add_lit] at this⟩
    · intro l hl
      obtain ⟨s, hs, rfl⟩ := List.mem_map.1 hl
      exact hwf s (List.mem_of_mem_take hs)
/-- The error's number. -/
def errN {α : Type} (o : Option α) : Int := if o.isSome then 0 else 4
theorem errN_some {α : Type} (x : α) : errN (some x) = 0 := rfl
theorem errN_none {α : Type} : errN (none : Option α) = 4 := rfl
/-- What Split leaves. -/
def SplitRet (w : World) (o : Option (List (List UInt8))) (e : Ending) (w' : World) : Prop :=
  ∃ v, e = .returned (.tuple #[v, .int .i64 (errN o)]) ∧ Tx w' v (o.getD []) ∧ Below w.heap.size w w'
/-- What Join leaves. -/
def JoinRet (w : World) (o : Option (List UInt8)) (e : Ending) (w' : World) : Prop :=
  e = .returned (.tuple #[.string (bs (o.getD [])), .int .i64 (errN o)]) ∧ Below w.heap.size w w'
/-- What Cut leaves. -/
def CutRet (w : World) (o : Option (List UInt8 × List UInt8)) (e : Ending) (w' : World) : Prop :=
  e = .returned (.tuple #[.string (bs (o.getD ([], [])).1), .string (bs (o.getD ([], [])).2), .int .i64 (errN o)]) ∧ Below w.heap.size w w'
end Go.Proofs.YteibkipcblmikaaDoor
namespace Go.Proofs.YteibkipcblmikaaDoor
open Go.RowKit
set_option linter.unusedVariables false

def TailsRet (c : Nat) (w : World) (e : Ending) (w' : World) : Prop := e = .returned (.tuple #[.int .i64 (((tl c).1 : Int) - 1), .int .u8 ((tl c).2.1 : Int), .int .u8 ((tl c).2.2 : Int)]) ∧ w' = w
set_option maxHeartbeats 1000000 in
set_option maxRecDepth 100000 in
theorem tails_any (c : Nat) (w : World) (h : c < 256) : Calls Tryd.prog 77 #[.int .u8 (c : Int)] w (TailsRet c w) := by
  unfold TailsRet
  rcases tl_cases c with ⟨e, p⟩ | ⟨e, p⟩ | ⟨e, p⟩ | ⟨e, p⟩ | ⟨e, p⟩ | ⟨e, p⟩ | ⟨e, p⟩ | ⟨e, p⟩ | ⟨e, p⟩
  all_goals rw [e]; clear e
  · have p1 : (c : Int) < 128 := by omega
    clear p
    go_enter Tryd.func77, Tryd.ntmps77
    go_wp2
    go_ret3
    exact ⟨rfl, rfl⟩
  · have p0 : ¬ (c : Int) < 128 := by omega
    have p1 : (194 : Int) ≤ (c : Int) := by omega
    have p2 : (c : Int) ≤ 223 := by omega
    clear p
    go_enter Tryd.func77, Tryd.ntmps77
    go_wp2
    go_ret3
    exact ⟨rfl, rfl⟩
  · subst p
    go_enter Tryd.func77, Tryd.ntmps77
    go_wp2
    go_ret3
    exact ⟨rfl, rfl⟩
  · subst p
    go_enter Tryd.func77, Tryd.ntmps77
    go_wp2
    go_ret3
    exact ⟨rfl, rfl⟩
  · have p0 : ¬ (c : Int) < 128 := by omega
    have p1 : (194 : Int) ≤ (c : Int) := by omega
    have p2 : ¬ (c : Int) ≤ 223 := by omega
    have p3 : ((c : Int) == 224) = false := by simp only [beq_eq_false_iff_ne, ne_eq]; omega
    have p4 : ((c : Int) == 237) = false := by simp only [beq_eq_false_iff_ne, ne_eq]; omega
    have p5 : (225 : Int) ≤ (c : Int) := by omega
    have p6 : (c : Int) ≤ 239 := by omega
    clear p
    go_enter Tryd.func77, Tryd.ntmps77
    go_wp2
    go_ret3
    exact ⟨rfl, rfl⟩
  · subst p
    go_enter Tryd.func77, Tryd.ntmps77
    go_wp2
    go_ret3
    exact ⟨rfl, rfl⟩
  · have p0 : ¬ (c : Int) < 128 := by omega
    have p1 : (194 : Int) ≤ (c : Int) := by omega
    have p2 : ¬ (c : Int) ≤ 223 := by omega
    have p3 : ((c : Int) == 224) = false := by simp only [beq_eq_false_iff_ne, ne_eq]; omega
    have p4 : ((c : Int) == 237) = false := by simp only [beq_eq_false_iff_ne, ne_eq]; omega
    have p5 : (225 : Int) ≤ (c : Int) := by omega
    have p6 : ¬ (c : Int) ≤ 239 := by omega
    have p7 : ((c : Int) == 240) = false := by simp only [beq_eq_false_iff_ne, ne_eq]; omega
    have p8 : (241 : Int) ≤ (c : Int) := by omega
    have p9 : (c : Int) ≤ 243 := by omega
    clear p
    go_enter Tryd.func77, Tryd.ntmps77
    go_wp2
    go_ret3
    exact ⟨rfl, rfl⟩
  · subst p
    go_enter Tryd.func77, Tryd.ntmps77
    go_wp2
    go_ret3
    exact ⟨rfl, rfl⟩
  · have p0 : ¬ (c : Int) < 128 := by omega
    have p3 : ((c : Int) == 224) = false := by simp only [beq_eq_false_iff_ne, ne_eq]; omega
    have p4 : ((c : Int) == 237) = false := by simp only [beq_eq_false_iff_ne, ne_eq]; omega
    have p7 : ((c : Int) == 240) = false := by simp only [beq_eq_false_iff_ne, ne_eq]; omega
    have p8 : ((c : Int) == 244) = false := by simp only [beq_eq_false_iff_ne, ne_eq]; omega
    rcases p with ⟨q1, q2⟩ | q
    · have p1 : ¬ (194 : Int) ≤ (c : Int) := by omega
      have p2 : ¬ (225 : Int) ≤ (c : Int) := by omega
      have p9 : ¬ (241 : Int) ≤ (c : Int) := by omega
      clear q1 q2
      go_enter Tryd.func77, Tryd.ntmps77
      go_wp2
      go_ret3
      exact ⟨rfl, rfl⟩
    · have p1 : (194 : Int) ≤ (c : Int) := by omega
      have p2 : (225 : Int) ≤ (c : Int) := by omega
      have p9 : (241 : Int) ≤ (c : Int) := by omega
      have q1 : ¬ (c : Int) ≤ 223 := by omega
      have q2 : ¬ (c : Int) ≤ 239 := by omega
      have q3 : ¬ (c : Int) ≤ 243 := by omega
      clear q
      go_enter Tryd.func77, Tryd.ntmps77
      go_wp2
      go_ret3
      exact ⟨rfl, rfl⟩
theorem okT_short (n lo hi : Nat) (t : List UInt8) (h : t.length < n) : okT n lo hi t = false := by
  induction n generalizing lo hi t with
  | zero => omega
  | succ n ih =>
    cases t with
    | nil => rfl
    | cons c t =>
      rw [okT, ih 128 191 t (by simp at h; omega)]
      simp
theorem okT_get (n lo hi : Nat) (t : List UInt8) (j : Nat) (h : j < t.length) : okT (n + 1) lo hi (t.drop j) = (decide (lo ≤ t[j].toNat ∧ t[j].toNat ≤ hi) && okT n 128 191 (t.drop (j + 1))) := by
  rw [List.drop_eq_getElem_cons h, okT]
/-- What is well-formed from a place on. -/
def fAt (l : List UInt8) (i : Nat) : Bool := formed (l.drop i)
/-- Are the bytes behind a place's as they must be? -/
def tAt (l : List UInt8) (i n lo hi : Nat) : Bool := okT n lo hi (l.drop i)
theorem tAt_short (l : List UInt8) (i n lo hi : Nat) (h : l.length < i + n) (h0 : i ≤ l.length) : tAt l i n lo hi = false := okT_short _ _ _ _ (by rw [List.length_drop]; omega)
theorem tAt_step (l : List UInt8) (i n lo hi : Nat) (h : i < l.length) : tAt l i (n + 1) lo hi = (decide (lo ≤ l[i].toNat ∧ l[i].toNat ≤ hi) && tAt l (i + 1) n 128 191) := okT_get n lo hi l i h
theorem drop_ne (l : List UInt8) (i : Nat) (h : i < l.length) : l.drop i ≠ [] := fun e => by have := List.drop_eq_nil_iff.1 e; omega
theorem fAt_none (l : List UInt8) (i : Nat) (h : i < l.length) (h0 : (tl l[i].toNat).1 = 0) : fAt l i = false := by
  unfold fAt
  rw [formed_step _ (drop_ne l i h), List.drop_eq_getElem_cons h]
  simp [oneW, h0]
theorem fAt_bad (l : List UInt8) (i n : Nat) (h : i < l.length) (h0 : (tl l[i].toNat).1 = n + 1) (h1 : tAt l (i + 1) n (tl l[i].toNat).2.1 (tl l[i].toNat).2.2 = false) : fAt l i = false := by
  unfold fAt
  unfold tAt at h1
  rw [formed_step _ (drop_ne l i h), List.drop_eq_getElem_cons h]
  simp [oneW, h0, h1]
theorem fAt_good (l : List UInt8) (i n : Nat) (h : i < l.length) (h0 : (tl l[i].toNat).1 = n + 1) (h1 : tAt l (i + 1) n (tl l[i].toNat).2.1 (tl l[i].toNat).2.2 = true) : fAt l i = fAt l (i + 1 + n) := by
  have e : oneW (l.drop i) = n + 1 := by
    rw [List.drop_eq_getElem_cons h]
    unfold tAt at h1
    simp [oneW, h0, h1]
  unfold fAt
  rw [formed_step _ (drop_ne l i h), e, List.drop_drop]
  simp [Nat.add_assoc, Nat.add_comm 1 n]
theorem tl_le (c : Nat) : (tl c).1 ≤ 4 ∧ (tl c).2.1 < 256 ∧ (tl c).2.2 < 256 := by
  rcases tl_cases c with ⟨e, _⟩ | ⟨e, _⟩ | ⟨e, _⟩ | ⟨e, _⟩ | ⟨e, _⟩ | ⟨e, _⟩ | ⟨e, _⟩ | ⟨e, _⟩ | ⟨e, _⟩
  all_goals rw [e]; decide

/-- Yes or no is answered, the world is as it was. -/
def PureBool (b : Bool) (w : World) (e : Ending) (w' : World) : Prop := e = .returned (.bool b) ∧ w' = w
def FormedRel (l : List UInt8) (v : Value) : Prop := ∃ i, i ≤ l.length ∧ v = .int .i64 (i : Int) ∧ fAt l i = formed l
def TailRel (l : List UInt8) (i n : Nat) (V : Bool) (a b c : Value) : Prop :=
  ∃ k lo hi : Nat, 1 ≤ k ∧ k ≤ n + 1 ∧ lo < 256 ∧ hi < 256 ∧ a = .int .u8 (lo : Int) ∧ b = .int .u8 (hi : Int) ∧ c = .int .i64 (k : Int) ∧ tAt l (i + k) (n + 1 - k) lo hi = V
set_option maxHeartbeats 4000000 in
set_option maxRecDepth 100000 in
theorem formed_any (l : List UInt8) (w : World) (hl : l.length ≤ 1000) : Calls Tryd.prog 67 #[.string (bs l)] w (PureBool (formed l) w) := by
  have hsz := bs_size l
  go_enter Tryd.func67, Tryd.ntmps67
  go_wp2_with fail
  go_loop [3] (FormedRel l) (fun a => l.length - (intOf a).toNat)
  case atStart => exact ⟨0, Nat.zero_le _, rfl, rfl⟩
  case round =>
    obtain ⟨i, hi, rfl, he⟩ := hrel
    have HE := hide he
    clear he
    by_cases hlt : i < l.length
    · have hx := at_bs l i hlt
      have hc := tails_any l[i].toNat w l[i].toNat_lt
      have hb := tl_le l[i].toNat
      have F0 := hide (fAt_none l i hlt)
      have F1 := hide (fun n => fAt_bad l i n hlt)
      have F2 := hide (fun n => fAt_good l i n hlt)
      revert hx hc hb F0 F1 F2
      generalize l[i].toNat = c
      intro hx hc hb F0 F1 F2
      by_cases h0 : (tl c).1 = 0
      · have e := hide (show formed l = false by rw [← HE.out]; exact F0.out h0)
        clear F0 F1 F2 HE
        go_wp2_with fail
        refine hc.mono ?_
        rintro e w' ⟨rfl, rfl⟩
        rw [h0]
        go_wp2
        go_ret
        exact ⟨ret_bool e.out.symm, rfl⟩
      · obtain ⟨n, hn⟩ : ∃ n, (tl c).1 = n + 1 := ⟨(tl c).1 - 1, by omega⟩
        have G1 := hide (F1.out n hn)
        have G2 := hide (F2.out n hn)
        have e1 : ((tl c).1 : Int) - 1 = (n : Int) := by omega
        have hcc : Calls Tryd.prog 77 #[.int .u8 (c : Int)] w fun e w' => e = .returned (.tuple #[.int .i64 (n : Int), .int .u8 ((tl c).2.1 : Int), .int .u8 ((tl c).2.2 : Int)]) ∧ w' = w := by
          rw [← e1]
          exact hc
        have hn4 : n ≤ 3 := by omega
        clear hc F0 F1 F2 h0 hn e1
        obtain ⟨hb0, hb1, hb2⟩ := hb
        clear hb0
        revert hcc G1 G2 hb1 hb2
        generalize (tl c).2.1 = lo
        generalize (tl c).2.2 = hi'
        intro G1 G2 hcc hb1 hb2
        go_wp2_with fail
        refine hcc.mono ?_
        rintro e w' ⟨rfl, rfl⟩
        clear hcc
        by_cases hfit : i + n < l.length
        · have hf1 : (i : Int) + (n : Int) < (l.length : Int) := by omega
          obtain ⟨V, hV⟩ : ∃ V, tAt l (i + 1) n lo hi' = V := ⟨_, rfl⟩
          rw [hV] at G1 G2
          have HV := hide hV
          clear hV
          go_wp2_with fail
          go_loop [5, 6, 7] (TailRel l i n V) (fun _ _ k => n + 1 - (intOf k).toNat)
          case atStart => exact ⟨1, lo, hi', Nat.le_refl _, by omega, hb1, hb2, rfl, rfl, rfl, HV.out⟩
          case round =>
            obtain ⟨k, lo1, hi1, hk1, hk2, hlo, hhi, rfl, rfl, rfl, ht⟩ := hrel
            have HT := hide ht
            clear ht
            by_cases hk : k ≤ n
            · have hik : i + k < l.length := by omega
              have hst := tAt_step l (i + k) (n - k) lo1 hi1 hik
              rw [show n - k + 1 = n + 1 - k by omega, HT.out] at hst
              obtain ⟨x, ex⟩ : ∃ x : UInt8, l[i + k] = x := ⟨_, rfl⟩
              obtain ⟨d, ed⟩ : ∃ d : Nat, x.toNat = d := ⟨_, rfl⟩
              have hx2 : ∀ h, ((bs l)[i + k]'h).toNat = d := fun h => by rw [bs_get l (i + k) h, ← ed]; exact congrArg _ ex
              have hd : d < 256 := by rw [← ed]; exact x.toNat_lt
              rw [ex, ed] at hst
              clear ex ed
              by_cases h1 : lo1 ≤ d
              · have h1i : ¬ (d : Int) < (lo1 : Int) := by omega
                by_cases h2 : d ≤ hi1
                · have h2i : ¬ (hi1 : Int) < (d : Int) := by omega
                  have HS := hide (show tAt l (i + (k + 1)) (n + 1 - (k + 1)) 128 191 = V by rw [hst, decide_eq_true ⟨h1, h2⟩, Bool.true_and, Nat.add_assoc, show n + 1 - (k + 1) = n - k by omega])
                  clear hst h1 h2 HT G1 G2 HE HV
                  go_wp2_with fail
                  refine ⟨⟨k + 1, 128, 191, by omega, by omega, by omega, by omega, rfl, rfl, by go_num, HS.out⟩, ?_⟩
                  simp [intOf]
                  omega
                · have h2i : (hi1 : Int) < (d : Int) := by omega
                  have e := hide (show formed l = false by rw [← HE.out]; exact G1.out (by rw [hst, decide_eq_false (by omega)]; rfl))
                  clear hst h1 h2 HT G1 G2 HE HV
                  go_wp2
                  go_ret
                  exact ⟨ret_bool e.out.symm, rfl⟩
              · have h1i : (d : Int) < (lo1 : Int) := by omega
                have e := hide (show formed l = false by rw [← HE.out]; exact G1.out (by rw [hst, decide_eq_false (by omega)]; rfl))
                clear hst h1 HT G1 G2 HE HV
                go_wp2
                go_ret
                exact ⟨ret_bool e.out.symm, rfl⟩
            · have hk3 : k = n + 1 := by omega
              subst hk3
              have hVt : V = true := by rw [← HT.out, Nat.sub_self]; rfl
              have HS := hide (show fAt l (i + 1 + n) = formed l by rw [← G2.out hVt]; exact HE.out)
              clear HT G1 G2 HE HV hVt
              go_wp2_with fail
              refine ⟨⟨i + 1 + n, by omega, by go_num, HS.out⟩, ?_⟩
              simp [intOf]
              omega
        · have e := hide (show formed l = false by rw [← HE.out]; exact G1.out (tAt_short l (i + 1) n lo hi' (by omega) (by omega)))
          clear HE G1 G2
          go_wp2
          go_ret
          exact ⟨ret_bool e.out.symm, rfl⟩
    · have hi2 : i = l.length := by omega
      subst hi2
      have e := hide (show formed l = true by rw [← HE.out]; unfold fAt; rw [List.drop_length]; rfl)
      go_wp2
      go_ret
      exact ⟨ret_bool e.out.symm, rfl⟩
end Go.Proofs.YteibkipcblmikaaDoor
namespace Go.Proofs.YteibkipcblmikaaDoor
open Go.RowKit
set_option linter.unusedVariables false

/-- Has a text no byte that names can't have, from a place on? -/
def gAt (l : List UInt8) (i : Nat) : Bool := (l.drop i).all fun c => !badB c
theorem gAt_step (l : List UInt8) (i : Nat) (h : i < l.length) : gAt l i = (!badB l[i] && gAt l (i + 1)) := by
  unfold gAt
  rw [List.drop_eq_getElem_cons h, List.all_cons]
theorem right_short (l : List UInt8) (h : l.length < 1 ∨ 20 < l.length) : right l = false := by
  unfold right
  rcases h with h | h
  · rw [decide_eq_false (by omega)]; rfl
  · rw [decide_eq_false (show ¬ l.length ≤ 20 by omega), Bool.and_false]; rfl
theorem right_in (l : List UInt8) (h : 1 ≤ l.length) (h2 : l.length ≤ 20) : right l = (gAt l 0 && formed l) := by
  unfold right okR gAt
  rw [decide_eq_true h, decide_eq_true h2]
  rfl
def RightRel (l : List UInt8) (v : Value) : Prop := ∃ i, i ≤ l.length ∧ v = .int .i64 (i : Int) ∧ gAt l i = gAt l 0
set_option maxHeartbeats 2000000 in
set_option maxRecDepth 100000 in
theorem refRight_any (l : List UInt8) (w : World) (hl : l.length ≤ 1000) : Calls Tryd.prog 47 #[.string (bs l)] w (PureBool (right l) w) := by
  have hsz := bs_size l
  by_cases hs : l.length < 1 ∨ 20 < l.length
  · have e := hide (right_short l hs)
    go_enter Tryd.func47, Tryd.ntmps47
    rcases hs with hs | hs
    · have hs1 : (l.length : Int) < 1 := by omega
      go_wp2
      go_ret
      exact ⟨ret_bool e.out.symm, rfl⟩
    · have hs1 : ¬ (l.length : Int) < 1 := by omega
      have hs2 : (20 : Int) < (l.length : Int) := by omega
      go_wp2
      go_ret
      exact ⟨ret_bool e.out.symm, rfl⟩
  · have E := hide (right_in l (by omega) (by omega))
    have hs1 : ¬ (l.length : Int) < 1 := by omega
    have hs2 : ¬ (20 : Int) < (l.length : Int) := by omega
    go_enter Tryd.func47, Tryd.ntmps47
    go_wp2_with fail
    go_loop [3] (RightRel l) (fun a => l.length - (intOf a).toNat)
    case atStart => exact ⟨0, Nat.zero_le _, rfl, rfl⟩
    case round =>
      obtain ⟨i, hi, rfl, he⟩ := hrel
      have HE := hide he
      clear he
      by_cases hlt : i < l.length
      · have hst := gAt_step l i hlt
        obtain ⟨x, ex⟩ : ∃ x : UInt8, l[i] = x := ⟨_, rfl⟩
        obtain ⟨d, ed⟩ : ∃ d : Nat, x.toNat = d := ⟨_, rfl⟩
        have hx2 : ∀ h, ((bs l)[i]'h).toNat = d := fun h => by rw [bs_get l i h, ← ed]; exact congrArg _ ex
        have hb : badB x = (decide (d < 32) || decide (d = 47) || decide (d = 127)) := by unfold badB; rw [ed]
        rw [ex, hb] at hst
        clear ex ed hb
        by_cases hbad : d < 32 ∨ d = 47 ∨ d = 127
        · have e := hide (show right l = false by rw [E.out, ← HE.out, hst]; simp; intro a b c; omega)
          clear hst E HE
          rcases hbad with h | h | h
          · have h1 : (d : Int) < 32 := by omega
            go_wp2
            go_ret
            exact ⟨ret_bool e.out.symm, rfl⟩
          · subst h
            go_wp2
            go_ret
            exact ⟨ret_bool e.out.symm, rfl⟩
          · subst h
            go_wp2
            go_ret
            exact ⟨ret_bool e.out.symm, rfl⟩
        · have HS := hide (show gAt l (i + 1) = gAt l 0 by rw [← HE.out, hst, decide_eq_false (by omega), decide_eq_false (by omega), decide_eq_false (by omega)]; simp)
          have h1 : ¬ (d : Int) < 32 := by omega
          have h2 : ((d : Int) == 47) = false := by simp only [beq_eq_false_iff_ne, ne_eq]; omega
          have h3 : ((d : Int) == 127) = false := by simp only [beq_eq_false_iff_ne, ne_eq]; omega
          clear hst E HE hbad
          go_wp2_with fail
          refine ⟨⟨i + 1, by omega, by go_num, HS.out⟩, ?_⟩
          simp [intOf]
          omega
      · have hi2 : i = l.length := by omega
        subst hi2
        have e := hide (show right l = formed l by
          rw [E.out, ← HE.out]
          unfold gAt
          rw [List.drop_length]
          rfl)
        clear E HE
        go_wp2_with fail
        refine (formed_any l w hl).mono ?_
        rintro e1 w' ⟨rfl, rfl⟩
        go_wp2
        go_ret
        exact ⟨ret_bool e.out.symm, rfl⟩

/-- Below this the world is as it was; two slices of texts are alike so far. -/
def TextsRel (w : World) (a b : List (List UInt8)) (v : Value) (wr : World) : Prop := ∃ i, i ≤ a.length ∧ v = .int .i64 (i : Int) ∧ a.take i = b.take i ∧ Below w.heap.size w wr
end Go.Proofs.YteibkipcblmikaaDoor
namespace Go.Proofs.YteibkipcblmikaaDoor
open Go.RowKit
set_option linter.unusedVariables false

theorem within_any (n a b : Int) (w : World) : Calls Tryd.prog 71 #[.int .i64 n, .int .i64 a, .int .i64 b] w (fun e w' => e = .returned (.bool (inP n a b)) ∧ w' = w) := by
  by_cases h1 : a ≤ n
  · by_cases h2 : n ≤ b
    · have E := hide (show inP n a b = true by simp [inP]; omega)
      go_enter Tryd.func71, Tryd.ntmps71
      go_wp2
      go_ret
      rw [E.out]
      exact ⟨rfl, rfl⟩
    · have E := hide (show inP n a b = false by simp [inP]; omega)
      go_enter Tryd.func71, Tryd.ntmps71
      go_wp2
      go_ret
      rw [E.out]
      exact ⟨rfl, rfl⟩
  · have E := hide (show inP n a b = false by simp [inP]; omega)
    go_enter Tryd.func71, Tryd.ntmps71
    go_wp2
    go_ret
    rw [E.out]
    exact ⟨rfl, rfl⟩

theorem replica_any (r : Int) (w : World) : Calls Tryd.prog 72 #[.int .i64 r] w (fun e w' => e = .returned (.bool (inP r 0 255)) ∧ w' = w) := by
  go_enter Tryd.func72, Tryd.ntmps72
  go_wp2_with fail
  refine (within_any r 0 255 w).mono ?_
  rintro e w' ⟨rfl, rfl⟩
  go_wp2
  go_ret
  exact ⟨rfl, rfl⟩

theorem sright_any (n r : Int) (w : World) : Calls Tryd.prog 61 #[st n r] w (BoolRet (stR n r) w) := by
  unfold st
  go_enter Tryd.func61, Tryd.ntmps61
  go_wp2_with fail
  refine (within_any n 1 16777215 _).mono ?_
  rintro e w' ⟨rfl, rfl⟩
  cases h1 : inP n 1 16777215 with
  | false =>
    have E := hide (show stR n r = false by have := inP_f h1; simp [stR]; omega)
    clear h1
    go_wp2
    go_ret
    rw [E.out]
    exact ⟨rfl, (Below.refl _ _).alloc (Nat.le_refl _) _⟩
  | true =>
    have H1 := hide h1
    clear h1
    go_wp2_with fail
    refine (replica_any r _).mono ?_
    rintro e w' ⟨rfl, rfl⟩
    have E := hide (show inP r 0 255 = stR n r by have := inP_t H1.out; simp [stR, inP]; omega)
    go_wp2
    go_ret
    rw [E.out]
    exact ⟨rfl, (Below.refl _ _).alloc (Nat.le_refl _) _⟩
end Go.Proofs.YteibkipcblmikaaDoor
namespace Go.Proofs.YteibkipcblmikaaDoor
set_option maxRecDepth 100000
open Go.RowKit
set_option linter.unusedVariables false

theorem srefRight_any (n r : Int) (w : World) : Calls Tryd.prog 46 #[st n r] w (BoolRet (stR n r) w) := by
  unfold st
  by_cases h1 : 0 < n
  · by_cases h2 : n < 16777216
    · by_cases h3 : 0 ≤ r
      · by_cases h4 : r ≤ 255
        · have E := hide (show stR n r = true by simp [stR]; omega)
          go_enter Tryd.func46, Tryd.ntmps46
          go_wp2
          go_ret
          rw [E.out]
          exact ⟨rfl, (Below.refl _ _).alloc (Nat.le_refl _) _⟩
        · have E := hide (show stR n r = false by simp [stR]; omega)
          go_enter Tryd.func46, Tryd.ntmps46
          go_wp2
          go_ret
          rw [E.out]
          exact ⟨rfl, (Below.refl _ _).alloc (Nat.le_refl _) _⟩
      · have E := hide (show stR n r = false by simp [stR]; omega)
        go_enter Tryd.func46, Tryd.ntmps46
        go_wp2
        go_ret
        rw [E.out]
        exact ⟨rfl, (Below.refl _ _).alloc (Nat.le_refl _) _⟩
    · have E := hide (show stR n r = false by simp [stR]; omega)
      go_enter Tryd.func46, Tryd.ntmps46
      go_wp2
      go_ret
      rw [E.out]
      exact ⟨rfl, (Below.refl _ _).alloc (Nat.le_refl _) _⟩
  · have E := hide (show stR n r = false by simp [stR]; omega)
    go_enter Tryd.func46, Tryd.ntmps46
    go_wp2
    go_ret
    rw [E.out]
    exact ⟨rfl, (Below.refl _ _).alloc (Nat.le_refl _) _⟩

theorem stC_lt {n r m s : Int} (h : n < m ∨ n = m ∧ r < s) : stC n r m s = -1 := by
  rcases h with h | ⟨rfl, h⟩
  · have : cm n m = -1 := by unfold cm; rw [if_pos h]
    simp [stC, this]
  · have : cm n n = 0 := by simp [cm]
    simp [stC, cm, h]
theorem stC_gt {n r m s : Int} (h : m < n ∨ n = m ∧ s < r) : stC n r m s = 1 := by
  rcases h with h | ⟨rfl, h⟩
  · have : cm n m = 1 := by unfold cm; rw [if_neg (by omega), if_pos h]
    simp [stC, this]
  · have : cm n n = 0 := by simp [cm]
    have h2 : cm r s = 1 := by unfold cm; rw [if_neg (by omega), if_pos h]
    simp [stC, this, h2]
theorem stC_eq (n r : Int) : stC n r n r = 0 := by simp [stC, cm]

theorem inP_and {a b c : Int} (h : ¬ ((0 ≤ a ∧ a ≤ 16777215) ∧ (0 ≤ b ∧ b ≤ 16777215) ∧ 0 ≤ c ∧ c ≤ 255)) : (inP a 0 16777215 && inP b 0 16777215 && inP c 0 255) = false := by
  cases h1 : inP a 0 16777215 <;> cases h2 : inP b 0 16777215 <;> cases h3 : inP c 0 255 <;> try rfl
  exact absurd ⟨inP_t h1, inP_t h2, inP_t h3⟩ h
theorem inP_all {a b c : Int} (h : ((0 ≤ a ∧ a ≤ 16777215) ∧ (0 ≤ b ∧ b ≤ 16777215) ∧ 0 ≤ c ∧ c ≤ 255)) : (inP a 0 16777215 && inP b 0 16777215 && inP c 0 255) = true := by
  simp [inP]; omega

end Go.Proofs.YteibkipcblmikaaDoor
namespace Go.Proofs.YteibkipcblmikaaDoor
set_option maxRecDepth 100000
open Go.RowKit
set_option linter.unusedVariables false

/-- A node's number. -/
def ndB (n : Int) : Bool := decide (256 ≤ n ∧ n ≤ 4294967295)
/-- What something may be put below. -/
def toB (n : Int) : Bool := decide (n = 0 ∨ n = 1 ∨ 256 ≤ n ∧ n ≤ 4294967295)
/-- A right operation. -/
def opR (n r d t : Int) (l : List UInt8) : Bool := stR n r && ndB d && toB t && right l
/-- Two names against each other. -/
def cN (a b : List UInt8) : Int := Lib.compareBytes a b
/-- Two operations against each other. -/
def opC (n r d t : Int) (l : List UInt8) (m s e u : Int) (k : List UInt8) : Int :=
  if stC n r m s ≠ 0 then stC n r m s else if cm d e ≠ 0 then cm d e else if cm t u ≠ 0 then cm t u else cN l k
/-- An operation's bytes. -/
def opB (n r d t : Int) (l : List UInt8) : List UInt8 := if opR n r d t l = true then num n ++ num r ++ num d ++ num t ++ txt l else []
/-- An operation as a value. -/
def opv (n r d t : Int) (l : List UInt8) : Value := .agg #[.int .i64 n, .int .i64 r, .int .i64 d, .int .i64 t, .string (bs l)]
/-- An operation that lies in a block. -/
def Bo (w : World) (g : Nat) (n r d t : Int) (l : List UInt8) : Prop :=
  w.cell? ⟨g, 0, none⟩ = some (.int .i64 n) ∧ w.cell? ⟨g, 1, none⟩ = some (.int .i64 r) ∧ w.cell? ⟨g, 2, none⟩ = some (.int .i64 d) ∧ w.cell? ⟨g, 3, none⟩ = some (.int .i64 t) ∧ w.cell? ⟨g, 4, none⟩ = some (.string (bs l))
theorem Bo.new (w : World) (n r d t : Int) (l : List UInt8) (ty : TypeId) : Bo (w.alloc (.cells #[.int .i64 n, .int .i64 r, .int .i64 d, .int .i64 t, .string (bs l)] ty)) w.heap.size n r d t l :=
  ⟨cell_at_new _ _ _ 0 _ rfl, cell_at_new _ _ _ 1 _ rfl, cell_at_new _ _ _ 2 _ rfl, cell_at_new _ _ _ 3 _ rfl, cell_at_new _ _ _ 4 _ rfl⟩
theorem Bo.below {w w' : World} {g B : Nat} {n r d t : Int} {l : List UInt8} (h : Bo w g n r d t l) (hb : Below B w w') (hg : g < B) : Bo w' g n r d t l :=
  ⟨(hb.cell hg).trans h.1, (hb.cell hg).trans h.2.1, (hb.cell hg).trans h.2.2.1, (hb.cell hg).trans h.2.2.2.1, (hb.cell hg).trans h.2.2.2.2⟩
theorem Bo.lt {w : World} {g : Nat} {n r d t : Int} {l : List UInt8} (h : Bo w g n r d t l) : g < w.heap.size := World.block_lt_of_cell? w _ h.1
theorem Bo.alloc {w : World} {g : Nat} {n r d t : Int} {l : List UInt8} (h : Bo w g n r d t l) (o : Obj) : Bo (w.alloc o) g n r d t l := h.below ((Below.refl w.heap.size w).alloc (Nat.le_refl _) o) h.lt

theorem ndB_in {n : Int} (h : 256 ≤ n ∧ n ≤ 4294967295) : ndB n = true := by simp [ndB]; omega
theorem ndB_out {n : Int} (h : ¬ (256 ≤ n ∧ n ≤ 4294967295)) : ndB n = false := by simp [ndB]; omega
theorem ndB_t {n : Int} (h : ndB n = true) : 256 ≤ n ∧ n ≤ 4294967295 := by simpa [ndB] using h
theorem toB_t {n : Int} (h : toB n = true) : n = 0 ∨ n = 1 ∨ 256 ≤ n ∧ n ≤ 4294967295 := by simpa [toB] using h
theorem toB_or (n : Int) : toB n = (ndB n || decide (n = 0) || decide (n = 1)) := by
  unfold toB ndB
  by_cases h0 : n = 0 <;> by_cases h1 : n = 1 <;> simp [h0, h1]
theorem opR_t {n r d t : Int} {l : List UInt8} (h : opR n r d t l = true) : stR n r = true ∧ ndB d = true ∧ toB t = true ∧ right l = true := by
  simp [opR] at h
  exact ⟨h.1.1.1, h.1.1.2, h.1.2, h.2⟩
theorem cm_eq {a b : Int} (h : cm a b = 0) : a = b := by unfold cm at h; split at h <;> (try split at h) <;> omega
theorem cm_self (a : Int) : cm a a = 0 := by simp [cm]
theorem cN_self (a : List UInt8) : cN a a = 0 := by
  unfold cN
  induction a with
  | nil => rfl
  | cons x a ih => simp [Lib.compareBytes, ih, UInt8.lt_irrefl]
theorem cN_eq : ∀ (a b : List UInt8), cN a b = 0 → a = b
  | [], [], _ => rfl
  | [], _ :: _, h => by simp [cN, Lib.compareBytes] at h
  | _ :: _, [], h => by simp [cN, Lib.compareBytes] at h
  | x :: a, y :: b, h => by
    unfold cN Lib.compareBytes at h
    split at h
    · omega
    · split at h
      · omega
      · rename_i h1 h2
        have e : x = y := UInt8.le_antisymm (UInt8.not_lt.1 h2) (UInt8.not_lt.1 h1)
        rw [e, cN_eq a b h]
theorem cN_less : ∀ (a b : List UInt8), Op.bytesLess a b = true → cN a b = -1
  | [], [], h => by simp [Op.bytesLess] at h
  | [], _ :: _, _ => rfl
  | _ :: _, [], h => by simp [Op.bytesLess] at h
  | x :: a, y :: b, h => by
    unfold Op.bytesLess at h
    unfold cN Lib.compareBytes
    by_cases h1 : x < y
    · rw [if_pos h1]
    · rw [if_neg h1]
      simp [h1] at h
      obtain ⟨rfl, h⟩ := h
      rw [if_neg h1]
      exact cN_less a b h
theorem cN_more : ∀ (a b : List UInt8), Op.bytesLess a b = false → a ≠ b → cN a b = 1
  | [], [], _, h => absurd rfl h
  | [], _ :: _, h, _ => by simp [Op.bytesLess] at h
  | _ :: _, [], _, _ => rfl
  | x :: a, y :: b, h, hne => by
    unfold Op.bytesLess at h
    unfold cN Lib.compareBytes
    simp at h
    have h1 : ¬ x < y := UInt8.not_lt.2 h.1
    rw [if_neg h1]
    by_cases h2 : y < x
    · rw [if_pos h2]
    · rw [if_neg h2]
      have e : x = y := UInt8.le_antisymm (UInt8.not_lt.1 h2) (UInt8.not_lt.1 h1)
      subst e
      exact cN_more a b (h.2 rfl) (fun e => hne (by rw [e]))
end Go.Proofs.YteibkipcblmikaaDoor
namespace Go.Proofs.YteibkipcblmikaaDoor
set_option maxRecDepth 100000
open Go.RowKit
set_option linter.unusedVariables false

theorem node_any (n : Int) (w : World) : Calls Tryd.prog 62 #[.int .i64 n] w (fun e w' => e = .returned (.bool (ndB n)) ∧ w' = w) := by
  by_cases h1 : 256 ≤ n
  · by_cases h2 : n ≤ 4294967295
    · have E := hide (show ndB n = true from ndB_in ⟨h1, h2⟩)
      go_enter Tryd.func62, Tryd.ntmps62
      go_wp2
      go_ret
      rw [E.out]
      exact ⟨rfl, rfl⟩
    · have E := hide (show ndB n = false from ndB_out (by omega))
      go_enter Tryd.func62, Tryd.ntmps62
      go_wp2
      go_ret
      rw [E.out]
      exact ⟨rfl, rfl⟩
  · have E := hide (show ndB n = false from ndB_out (by omega))
    go_enter Tryd.func62, Tryd.ntmps62
    go_wp2
    go_ret
    rw [E.out]
    exact ⟨rfl, rfl⟩
theorem refNode_any (n : Int) (w : World) : Calls Tryd.prog 48 #[.int .i64 n] w (fun e w' => e = .returned (.bool (ndB n)) ∧ w' = w) := by
  by_cases h1 : 256 ≤ n
  · by_cases h2 : n ≤ 4294967295
    · have E := hide (show ndB n = true from ndB_in ⟨h1, h2⟩)
      go_enter Tryd.func48, Tryd.ntmps48
      go_wp2
      go_ret
      rw [E.out]
      exact ⟨rfl, rfl⟩
    · have E := hide (show ndB n = false from ndB_out (by omega))
      go_enter Tryd.func48, Tryd.ntmps48
      go_wp2
      go_ret
      rw [E.out]
      exact ⟨rfl, rfl⟩
  · have E := hide (show ndB n = false from ndB_out (by omega))
    go_enter Tryd.func48, Tryd.ntmps48
    go_wp2
    go_ret
    rw [E.out]
    exact ⟨rfl, rfl⟩
theorem parent_any (n : Int) (w : World) : Calls Tryd.prog 63 #[.int .i64 n] w (fun e w' => e = .returned (.bool (toB n)) ∧ w' = w) := by
  by_cases h0 : n = 0
  · subst h0
    have E := hide (show toB 0 = true by decide)
    go_enter Tryd.func63, Tryd.ntmps63
    go_wp2
    go_ret
    rw [E.out]
    exact ⟨rfl, rfl⟩
  · by_cases h1 : n = 1
    · subst h1
      have E := hide (show toB 1 = true by decide)
      go_enter Tryd.func63, Tryd.ntmps63
      go_wp2
      go_ret
      rw [E.out]
      exact ⟨rfl, rfl⟩
    · have E := hide (show (n == 0 || n == 1 || ndB n) = toB n by rw [toB_or]; simp [h0, h1])
      go_enter Tryd.func63, Tryd.ntmps63
      go_wp2_with fail
      refine (node_any n w).mono ?_
      rintro e w' ⟨rfl, rfl⟩
      go_wp2
      go_ret
      exact ⟨ret_bool E.out, rfl⟩
theorem below_two (w : World) (a b : Obj) : Below w.heap.size w ((w.alloc a).alloc b) := ((Below.refl w.heap.size w).alloc (Nat.le_refl _) a).alloc (by simp) b
end Go.Proofs.YteibkipcblmikaaDoor
namespace Go.Proofs.YteibkipcblmikaaDoor
set_option maxRecDepth 100000
open Go.RowKit
set_option linter.unusedVariables false

set_option maxHeartbeats 2000000 in
set_option maxRecDepth 100000 in
theorem orefRight_any (n r d t : Int) (l : List UInt8) (w : World) (hl : l.length ≤ 1000) : Calls Tryd.prog 27 #[opv n r d t l] w (BoolRet (opR n r d t l) w) := by
  have K1 := hide (srefRight_any n r)
  have K2 := hide (fun w => refRight_any l w hl)
  have K3 := hide (refNode_any d)
  have K4 := hide (refNode_any t)
  have E := hide (show (stR n r && right l && ndB d && (ndB t || (t == 0) || (t == 1))) = opR n r d t l by
    unfold opR
    rw [toB_or]
    cases stR n r <;> cases right l <;> cases ndB d <;> cases ndB t <;> simp
    rfl)
  unfold st at K1
  unfold opv
  generalize opR n r d t l = R at E
  generalize stR n r = q1 at K1 E
  generalize right l = q2 at K2 E
  generalize ndB d = q3 at K3 E
  generalize ndB t = q4 at K4 E
  have HA := hide (Bo.new w n r d t l 48)
  go_enter Tryd.func27, Tryd.ntmps27
  go_wp2_with fail
  refine (K1.out _).mono ?_
  rintro e w1 ⟨rfl, hb⟩
  obtain ⟨a0, a1, a2, a3, a4⟩ := HA.out.below hb (by simp)
  have B1 := hide ((Below.refl w.heap.size w).alloc (Nat.le_refl _) _ |>.trans (hb.mono (by simp)))
  clear hb
  go_wp2_with fail
  refine (K2.out _).mono ?_
  rintro e w2 ⟨rfl, rfl⟩
  go_wp2_with fail
  refine (K3.out _).mono ?_
  rintro e w3 ⟨rfl, rfl⟩
  go_wp2_with fail
  refine (K4.out _).mono ?_
  rintro e w4 ⟨rfl, rfl⟩
  clear K1 K2 K3 K4
  cases q1 <;> cases q2 <;> cases q3 <;> cases q4 <;> go_wp2 <;> go_ret <;> first | exact ⟨ret_bool E.out, B1.out⟩ | exact ⟨ret_bool (by rw [← E.out]; simp_all), B1.out⟩
end Go.Proofs.YteibkipcblmikaaDoor
