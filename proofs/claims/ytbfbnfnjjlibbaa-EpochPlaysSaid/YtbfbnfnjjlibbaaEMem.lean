/-
  The program's limbo in memory: its block, the row of those that wait; rows of these, read, appended to, cut. Conditions: they are together not more than a million.
-/
import Derived.Test.YtbfbnfnjjlibbaaEPure
namespace Go.Proofs.Ytbfbnfnjjlibbaa
open Go.RowKit Go.Maps
set_option linter.unusedVariables false
set_option linter.unusedSimpArgs false
set_option maxRecDepth 100000

/-- Those that wait, as cells. -/
def wcv (x : Wp) : List Value := [.int .i64 x.1.1, .int .i64 x.1.2, .int .i64 (x.2 : Int)]
def wcs (l : List Wp) : List Value := (l.map wcv).flatten
theorem wcs_length : ∀ (l : List Wp), (wcs l).length = l.length * 3
  | [] => rfl
  | o :: l => by
    have := wcs_length l
    simp only [wcs, List.map_cons, List.flatten_cons, List.length_append, List.length_cons] at this ⊢
    rw [this]
    simp [wcv]
    omega
theorem wcs_append (a b : List Wp) : wcs (a ++ b) = wcs a ++ wcs b := by simp [wcs]
theorem wcs_one (l : List Wp) : ∀ u ∈ wcs l, u.oneCell' = true := by
  intro u hu
  simp only [wcs, List.mem_flatten, List.mem_map] at hu
  obtain ⟨x, ⟨o, _, rfl⟩, hu⟩ := hu
  simp only [wcv, List.mem_cons, List.not_mem_nil, or_false] at hu
  rcases hu with rfl | rfl | rfl <;> rfl
theorem wcs_at : ∀ (l : List Wp) (j i : Nat) (h : j < l.length), i < 3 → (wcs l)[j * 3 + i]? = (wcv l[j])[i]?
  | [], j, i, h, _ => by simp at h
  | o :: l, 0, i, h, hi => by
    simp only [wcs, List.map_cons, List.flatten_cons, Nat.zero_mul, Nat.zero_add, List.getElem_cons_zero]
    rw [List.getElem?_append_left (by simpa [wcv] using hi)]
  | o :: l, j + 1, i, h, hi => by
    have := wcs_at l j i (by simpa using h) hi
    simp only [wcs, List.map_cons, List.flatten_cons, List.getElem_cons_succ] at this ⊢
    rw [← this, List.getElem?_append_right (by simp [wcv]; omega)]
    congr 1
    simp [wcv]
    omega
def WsAt (w : World) (b o : Nat) (l : List Wp) : Prop := ∀ j u, (wcs l)[j]? = some u → w.cell? ⟨b, o + j, none⟩ = some u
/-- A slice of those that wait, that can be read. -/
structure Ws (w : World) (A : Option Addr) (c : Nat) (l : List Wp) : Prop where
  nil : A = none → l = [] ∧ c = 0
  le : l.length ≤ c
  most : c ≤ maxLen
  lit : 0 < l.length → ∃ b o, A = some ⟨b, o, none⟩ ∧ WsAt w b o l
theorem WsAt.three {w : World} {b o : Nat} {l : List Wp} (h : WsAt w b o l) (j : Nat) (hj : j < l.length) : w.cell? ⟨b, o + j * 3, none⟩ = some (.int .i64 l[j].1.1) ∧ w.cell? ⟨b, o + j * 3 + 1, none⟩ = some (.int .i64 l[j].1.2) ∧ w.cell? ⟨b, o + j * 3 + 2, none⟩ = some (.int .i64 (l[j].2 : Int)) :=
  ⟨h (j * 3 + 0) _ (by rw [wcs_at l j 0 hj (by omega)]; rfl), h (j * 3 + 1) _ (by rw [wcs_at l j 1 hj (by omega)]; rfl), h (j * 3 + 2) _ (by rw [wcs_at l j 2 hj (by omega)]; rfl)⟩
theorem WsAt.below {w w' : World} {b o : Nat} {l : List Wp} (h : WsAt w b o l) (hb : Below w.heap.size w w') : WsAt w' b o l := fun j u hu => cell_b hb (h j u hu)
theorem Ws.below {w w' : World} {A : Option Addr} {c : Nat} {l : List Wp} (h : Ws w A c l) (hb : Below w.heap.size w w') : Ws w' A c l :=
  ⟨h.nil, h.le, h.most, fun hp => by obtain ⟨b, o, e, h⟩ := h.lit hp; exact ⟨b, o, e, h.below hb⟩⟩
/-- A row of those that wait, of the program's own. -/
def OwnW (w : World) (base : Nat) (v : Value) (l : List Wp) : Prop := w.ownsRow base 49 3 v l.length (wcs l)
theorem OwnW.nil (w : World) (base : Nat) : OwnW w base (.slice none 0 0) [] := World.ownsRow_nil w base _ _
theorem OwnW.ws {w : World} {base : Nat} {v : Value} {l : List Wp} (h : OwnW w base v l) : ∃ A c, v = .slice A l.length c ∧ Ws w A c l := by
  rcases h.2 with ⟨rfl, h0⟩ | ⟨g, cap, cur, rfl, hb, hg, hn, hm, hs, ht⟩
  · have : l = [] := List.length_eq_zero_iff.1 h0
    subst this
    exact ⟨none, 0, rfl, fun _ => ⟨rfl, rfl⟩, Nat.le_refl _, Nat.zero_le _, fun h => by simp at h⟩
  · refine ⟨_, cap, rfl, (by intro h; cases h), hn, hm, fun hp => ⟨g, 0, rfl, fun j u hu => ?_⟩⟩
    have := h.cells (g := g) rfl j u hu
    rwa [Addr.add_lit] at this
theorem OwnW.below {w w' : World} {base : Nat} {v : Value} {l : List Wp} (h : OwnW w base v l) (hb : Below w.heap.size w w') : OwnW w' base v l := row_kept h fun b hb' => hb.block b (row_lt h hb')
theorem winfo : (Try.prog.info? 49).map (fun i => (i.zero, i.size, i.bytes)) = some (some (.agg #[.int .i64 0, .int .i64 0, .int .i64 0]), 3, 24) := by kernel_rfl
theorem wsize (w : World) : (Go.sizeOf 49).run Try.prog w = .ok 3 w := by kernel_rfl
theorem wunder : Try.prog.underlying 45 = some (.slice (Try.prog.elem 45)) := by simp [Program.elem, Try.underlying45]
theorem welem : Try.prog.elem 45 = 49 := by simp [Program.elem, Try.underlying45]
theorem run_ws_head (A : Option Addr) (n c q : Nat) (hq : q ≤ c) (w : World) :
    (Instr.slice 45 (.slice A n c) none (some (.int .i64 (q : Int))) none).run Try.prog w = .ok (.slice A q c) w := by
  rw [run_slice_h w _ _ _ _ wunder .i64 _ (by omega) (by omega), welem, wsize]
  rcases A with _ | ad
  · simp [Result.andThen, sliced]
  · simp [Result.andThen, sliced, Addr.add]
theorem Ws.head {w : World} {A : Option Addr} {c : Nat} {os : List Wp} (h : Ws w A c os) (q : Nat) : Ws w A c (os.take q) := by
  have hl : (os.take q).length ≤ os.length := by rw [List.length_take]; omega
  refine ⟨fun e => by rw [(h.nil e).1]; exact ⟨by simp, (h.nil e).2⟩, Nat.le_trans hl h.le, h.most, fun hp => ?_⟩
  obtain ⟨b, o, e, hat⟩ := h.lit (by omega)
  refine ⟨b, o, e, fun j u hu => hat j u ?_⟩
  have ht : wcs os = wcs (os.take q) ++ wcs (os.drop q) := by rw [← wcs_append, List.take_append_drop]
  rw [ht, List.getElem?_append_left (List.getElem?_eq_some_iff.1 hu).1]
  exact hu
theorem wcs_drop (os : List Wp) (q : Nat) (hq : q ≤ os.length) (j : Nat) : (wcs (os.drop q))[j]? = (wcs os)[q * 3 + j]? := by
  have ht : wcs os = wcs (os.take q) ++ wcs (os.drop q) := by rw [← wcs_append, List.take_append_drop]
  have hl : (wcs (os.take q)).length = q * 3 := by rw [wcs_length, List.length_take, Nat.min_eq_left hq]
  rw [ht, List.getElem?_append_right (by omega), hl]
  congr 1
  omega
theorem ws_tail {w : World} {A : Option Addr} {c : Nat} {os : List Wp} (h : Ws w A c os) (q : Nat) (hq : q ≤ os.length) :
    ∃ A', (∀ W, (Instr.slice 45 (.slice A os.length c) (some (.int .i64 (q : Int))) none none).run Try.prog W = .ok (.slice A' (os.drop q).length (c - q)) W) ∧ Ws w A' (c - q) (os.drop q) := by
  have hle := h.le
  have hmo := h.most
  have hrun : ∀ W, (Instr.slice 45 (.slice A os.length c) (some (.int .i64 (q : Int))) none none).run Try.prog W = .ok (.slice (if c = q then A else A.map (·.add (q * 3))) (os.length - q) (c - q)) W := fun W => by
    rw [run_slice_l W _ _ _ _ wunder .i64 _ (by omega) (by omega), welem, wsize]
    simp [Result.andThen, sliced]
  refine ⟨_, fun W => by rw [hrun W, List.length_drop], ⟨?_, by rw [List.length_drop]; omega, by omega, fun hp => ?_⟩⟩
  · intro e
    split at e
    · rename_i hc
      exact ⟨List.drop_eq_nil_of_le (by omega), by omega⟩
    · rw [Option.map_eq_none_iff] at e
      rw [(h.nil e).1, (h.nil e).2]
      simp
  · rw [List.length_drop] at hp
    obtain ⟨b, o, rfl, hat⟩ := h.lit (by omega)
    refine ⟨b, o + q * 3, ?_, fun j u hu => ?_⟩
    · rw [if_neg (by omega)]
      by_cases h0 : q = 0
      · subst h0
        simp [Addr.add]
      · have : q * 3 ≠ 0 := by omega
        simp [Addr.add, this, h0]
    · rw [wcs_drop os q hq] at hu
      have := hat _ _ hu
      rwa [← Nat.add_assoc] at this
/-- The limbo in memory, and its blocks. -/
def Em (w : World) (g now : Nat) (v : Value) (q : List Wp) : Prop := w.heap[g]? = some (.cells #[.int .i64 (now : Int), v] 47 (0, 0)) ∧ OwnW w 0 v q
def En (w : World) (g now : Nat) (q : List Wp) (fs : List Nat) : Prop := ∃ v, Em w g now v q ∧ fs = g :: v.ownBlock.toList
theorem mem_efs {v : Value} {g b : Nat} : b ∈ g :: v.ownBlock.toList ↔ b = g ∨ v.ownBlock = some b := by simp
theorem Em.lt {w : World} {g now : Nat} {v : Value} {q : List Wp} (h : Em w g now v q) : g < w.heap.size := (Array.getElem?_eq_some_iff.1 h.1).1
theorem Em.lts {w : World} {g now : Nat} {v : Value} {q : List Wp} (h : Em w g now v q) {b : Nat} (hb : b = g ∨ v.ownBlock = some b) : b < w.heap.size := by
  rcases hb with rfl | hb
  · exact h.lt
  · exact row_lt h.2 hb
theorem Em.ne {w : World} {g now : Nat} {v : Value} {q : List Wp} (h : Em w g now v q) : v.ownBlock ≠ some g := row_ne h.2 h.1 (by decide)
theorem Em.kept {w w' : World} {g now : Nat} {v : Value} {q : List Wp} (h : Em w g now v q) (hk : ∀ b, b = g ∨ v.ownBlock = some b → w'.heap[b]? = w.heap[b]?) : Em w' g now v q :=
  ⟨(hk g (.inl rfl)).trans h.1, row_kept h.2 fun b hb => hk b (.inr hb)⟩
theorem Em.below {w w' : World} {g now : Nat} {v : Value} {q : List Wp} (h : Em w g now v q) (hb : Below w.heap.size w w') : Em w' g now v q := h.kept fun b hb' => hb.block b (h.lts hb')
theorem Em.cells {w : World} {g now : Nat} {v : Value} {q : List Wp} (h : Em w g now v q) : w.cell? ⟨g, 0, none⟩ = some (.int .i64 (now : Int)) ∧ w.cell? ⟨g, 1, none⟩ = some v :=
  ⟨cell_of_row w g 0 _ _ (0, 0) h.1, cell_of_row w g 1 _ _ (0, 0) h.1⟩
theorem En.mod {w w' : World} {g now : Nat} {q : List Wp} {fs fs' : List Nat} (h : En w g now q fs) (hm : Mod fs' w w') (hd : ∀ k ∈ fs, k ∉ fs') : En w' g now q fs := by
  obtain ⟨v, h, rfl⟩ := h
  exact ⟨v, h.kept fun b hb => hm.block b (h.lts hb) (hd b (mem_efs.2 hb)), rfl⟩
theorem En.below {w w' : World} {g now : Nat} {q : List Wp} {fs : List Nat} (h : En w g now q fs) (hb : Below w.heap.size w w') : En w' g now q fs := h.mod (fs' := []) (Mod.of_below hb) (by simp)
theorem En.lt {w : World} {g now : Nat} {q : List Wp} {fs : List Nat} (h : En w g now q fs) : ∀ k ∈ fs, k < w.heap.size := by
  obtain ⟨v, h, rfl⟩ := h
  intro k hk
  exact h.lts (mem_efs.1 hk)
theorem En.head {w : World} {g now : Nat} {q : List Wp} {fs : List Nat} (h : En w g now q fs) : g ∈ fs := by
  obtain ⟨v, h, rfl⟩ := h
  simp
/-- Its blocks are a limbo's, and waits. -/
theorem En.kind {w : World} {g now : Nat} {q : List Wp} {fs : List Nat} (h : En w g now q fs) {k : Nat} (hk : k ∈ fs) : ∃ cs t, w.heap[k]? = some (.cells cs t (0, 0)) ∧ (t = 47 ∨ t = 49) := by
  obtain ⟨v, h, rfl⟩ := h
  rcases mem_efs.1 hk with rfl | hb
  · exact ⟨_, _, h.1, .inl rfl⟩
  · obtain ⟨cur, hc⟩ := row_block h.2 hb
    exact ⟨_, _, hc, .inr rfl⟩
theorem En.new (w : World) : En (w.alloc (.cells #[.int .i64 0, .slice none 0 0] 47)) w.heap.size 0 [] [w.heap.size] :=
  ⟨_, ⟨heap_alloc_new w _, World.ownsRow_nil ..⟩, rfl⟩
/-- What a call leaves that changes it. -/
def EnRet (v : Value) (g now : Nat) (q : List Wp) (fs : List Nat) (w : World) (e : Ending) (w' : World) : Prop := e = .returned v ∧ ∃ fs', En w' g now q fs' ∧ Mod fs w w' ∧ ∀ k ∈ fs', k ∈ fs ∨ w.heap.size ≤ k
/-- The row in it is another one. -/
theorem Em.stored {w : World} {g now : Nat} {v : Value} {q : List Wp} (h : Em w g now v q) {v' : Value} {q' : List Wp} {w5 : World} (hb : w5.heap[g]? = w.heap[g]?) (ho : OwnW w5 0 v' q') : w5.cell? ⟨g, 1, none⟩ = some v ∧ w5.frozen? ⟨g, 1, none⟩ = false ∧ Em (w5.setCell ⟨g, 1, none⟩ v') g now v' q' := by
  have hb' := hb.trans h.1
  have hbb := Joins.block_setCell (i := 1) hb' v'
  refine ⟨cell_of_row w5 g 1 _ _ (0, 0) hb', Joins.unfrozen_of_block hb' 1, by simpa using hbb, row_kept ho fun k hk => Below.heap_setCell _ _ _ _ ?_⟩
  rintro rfl
  exact row_ne ho hb' (by decide) hk
theorem En.tick {w : World} {g now : Nat} {q : List Wp} {fs : List Nat} (h : En w g now q fs) (m : Nat) : w.cell? ⟨g, 0, none⟩ = some (.int .i64 (now : Int)) ∧ w.frozen? ⟨g, 0, none⟩ = false ∧ En (w.setCell ⟨g, 0, none⟩ (.int .i64 (m : Int))) g m q fs ∧ Mod fs w (w.setCell ⟨g, 0, none⟩ (.int .i64 (m : Int))) := by
  have hm := (Mod.refl fs w).setCell (p := ⟨g, 0, none⟩) (.inl h.head) (.int .i64 (m : Int))
  obtain ⟨v, h, rfl⟩ := h
  have hbb := Joins.block_setCell (i := 0) h.1 (.int .i64 (m : Int))
  refine ⟨h.cells.1, Joins.unfrozen_of_block h.1 0, ⟨v, ⟨by simpa using hbb, row_kept h.2 fun k hk => Below.heap_setCell _ _ _ _ ?_⟩, rfl⟩, hm⟩
  rintro rfl
  exact h.ne hk
end Go.Proofs.Ytbfbnfnjjlibbaa
