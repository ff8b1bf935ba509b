/-
  What all layers' proofs share, without bytes: facts hidden from the tactics, what a call leaves. No conditions beyond those that each statement bears.
  What all layers' proofs share: facts hidden from the tactics, bytes as cells, slices of bytes (own, readable, handed in), what a call leaves. No conditions beyond those that each statement bears.
  The plain numbers and lists behind package pack: a number's form, a text's form, what is read off bytes; no program, no world. No conditions beyond those that each statement bears.
  Well-formed texts, byte by byte, and rune by rune as the model decodes: the same. No program, no world; no conditions beyond those that each statement bears.
  Names and paths as plain lists of bytes: what is a name, what a path's names are, what names' path is, what is cut off; each path is one list of names. No program, no world; no conditions beyond those that each statement bears.
  Stamps as plain numbers: which are right, how two are to each other, the next one, a number and its stamp. No conditions.
  What is scanned is what was written: the inverse of scan. No conditions.
-/
import Derived.Test.YteibkipcblmikaaDoorRows
import Derived.Below
import Derived.WalkKit
import Derived.WalkSpells
import Derived.WalkLawsBesides
import Derived.OpenShut
import Derived.Lib.AppendStr
import Derived.Laws.BytesArg
import Derived.Lib.ConvBytes
namespace Go.Proofs.YteibkipcblmikaaDoor
open Go.RowKit
set_option linter.unusedVariables false

theorem ret_int {k : IntKind} {a b : Int} (h : a = b) : Ending.returned (.int k a) = .returned (.int k b) := by rw [h]
theorem hide {p : Prop} (h : p) : Hid p := h
theorem wrap64_in (a : Int) (h0 : -9223372036854775808 ≤ a) (h1 : a < 9223372036854775808) : wrap64 a = a := by
  unfold wrap64; omega
/-- What awake leaves. -/
def TrueRet (w : World) (e : Ending) (w' : World) : Prop := e = .returned (.bool true) ∧ Below w.heap.size w w'
/-- A number is answered, all that was there is as it was. -/
def IntRet (k : IntKind) (n : Nat) (w : World) (e : Ending) (w' : World) : Prop := e = .returned (.int k n) ∧ Below w.heap.size w w'
/-- Yes or no is answered, all that was there is as it was. -/
def BoolRet (b : Bool) (w : World) (e : Ending) (w' : World) : Prop := e = .returned (.bool b) ∧ Below w.heap.size w w'
end Go.Proofs.YteibkipcblmikaaDoor
namespace Go.Proofs.YteibkipcblmikaaDoor
open Go.RowKit
set_option linter.unusedVariables false

/-- A number as a byte. (A name of its own, so that no rule takes it apart.) -/
def b8 (n : Nat) : UInt8 := UInt8.ofNat n
theorem b8_toNat (n : Nat) (h : n < 256) : (b8 n).toNat = n := by simp [b8, Nat.mod_eq_of_lt h]
theorem b8_mod (n : Nat) : (b8 n).toNat = n % 256 := by simp [b8]
/-- Bytes as cells. -/
def bc (l : List UInt8) : List Value := l.map fun b => Value.int .u8 b.toNat
theorem bc_length (l : List UInt8) : (bc l).length = l.length := by simp [bc]
theorem bc_append (a b : List UInt8) : bc (a ++ b) = bc a ++ bc b := by simp [bc]
theorem bc_one (l : List UInt8) : ∀ u ∈ bc l, u.oneCell' = true := by
  intro u hu
  obtain ⟨_, _, rfl⟩ := List.mem_map.1 hu
  rfl
theorem u8info : (Tryd.prog.info? 5).map (fun i => (i.zero, i.size, i.bytes)) = some (some (.int .u8 0), 1, 1) := by kernel_rfl
/-- A row of one byte that was just made. -/
theorem cell_new1 (wr : World) (x : Int) (b : UInt8) (hx : (b.toNat : Int) = x) :
    ∀ j u, (bc [b])[j]? = some u → (wr.alloc (.cells #[.int .u8 x] 5)).cell? ((⟨wr.heap.size, 0, none⟩ : Addr).add j) = some u := by
  intro j u hu
  rcases j with _ | j
  · simp [bc] at hu
    subst hu
    rw [hx]
    exact (cell_one_new _ _ _) 0 _ rfl
  · simp [bc] at hu
/-- What a call leaves that gives a new row of bytes: the row, and all that was there as it was. -/
def OwnRet (w : World) (l : List UInt8) (e : Ending) (w' : World) : Prop :=
  ∃ v, e = .returned v ∧ w'.ownsRow w.heap.size 5 1 v l.length (bc l) ∧ Below w.heap.size w w'
/-- A slice that reads l, in a row of bytes of the program's own. -/
def RSl (w : World) (v : Value) (l : List UInt8) : Prop :=
  (v = .slice none 0 0 ∧ l = []) ∨
  ∃ g o c cur, v = .slice (some ⟨g, o, none⟩) l.length c ∧ l.length ≤ c ∧ c ≤ maxLen ∧ w.heap[g]? = some (.cells cur 5 (0, 0)) ∧ (cur.toList.drop o).take l.length = bc l
theorem RSl.keep {w w' : World} {v : Value} {l : List UInt8} (h : RSl w v l) (hk : ∀ (k : Nat) (cur : Array Value), w.heap[k]? = some (.cells cur 5 (0, 0)) → w'.heap[k]? = w.heap[k]?) : RSl w' v l := by
  rcases h with h | ⟨g, o, c, cur, h1, h2, h3, h4, h5⟩
  · exact .inl h
  · exact .inr ⟨g, o, c, cur, h1, h2, h3, (hk g cur h4).trans h4, h5⟩
theorem RSl.of_own {w : World} {base : Nat} {v : Value} {l : List UInt8} (h : w.ownsRow base 5 1 v l.length (bc l)) : RSl w v l := by
  rcases h.2 with ⟨rfl, h0⟩ | ⟨g, cap, cur, rfl, _, hg, hn, hm, hs, ht⟩
  · exact .inl ⟨rfl, List.eq_nil_of_length_eq_zero h0⟩
  · exact .inr ⟨g, 0, cap, cur, rfl, hn, hm, hg, by simpa using ht⟩
theorem RSl_cells {w : World} {g o : Nat} {cur : Array Value} {l : List UInt8} (hg : w.heap[g]? = some (.cells cur 5 (0, 0))) (ht : (cur.toList.drop o).take l.length = bc l) :
    ∀ j (h : j < l.length), w.cell? ⟨g, o + j, none⟩ = some (.int .u8 l[j].toNat) := by
  intro j h
  rw [cell_of_row w g (o + j) cur _ (0, 0) hg]
  have e : (bc l)[j]? = some (.int .u8 l[j].toNat) := by simp [bc, h]
  rw [← ht, List.getElem?_take, if_pos h, List.getElem?_drop] at e
  simpa using e
/-- Where a slice begins whose first q bytes are cut off. -/
def cutA (g o c q : Nat) : Option Addr := if c = q then some ⟨g, o, none⟩ else some ⟨g, o + q, none⟩
theorem run_cut (g o n c q : Nat) (hq : q ≤ n) (hn : n ≤ c) (w : World) :
    (Instr.slice 25 (.slice (some ⟨g, o, none⟩) n c) (some (.int .i64 (q : Int))) none none).run Tryd.prog w = .ok (.slice (cutA g o c q) (n - q) (c - q)) w := by
  have hz : (Go.sizeOf 5).run Tryd.prog w = .ok 1 w := by
    obtain ⟨i0, hi0, _, hz1, _⟩ := info_parts u8info
    simp [Go.sizeOf, typeInfo, hi0, hz1]
  have ht' : Tryd.prog.underlying 25 = some (.slice (Tryd.prog.elem 25)) := by simp [Program.elem, Tryd.underlying25]
  have he : Tryd.prog.elem 25 = 5 := by simp [Program.elem, Tryd.underlying25]
  rw [run_slice_l w _ _ _ _ ht' .i64 _ (by omega) (by omega), he, hz]
  by_cases h : c = q
  · simp [Result.andThen, sliced, cutA, h]
  · by_cases h0 : q = 0
    · subst h0
      simp [Result.andThen, sliced, cutA, h, Addr.add]
    · simp [Result.andThen, sliced, cutA, h, h0, Addr.add]
theorem RSl_cut {w : World} {g o c : Nat} {cur : Array Value} {l : List UInt8} (h1 : l.length ≤ c) (h2 : c ≤ maxLen) (hg : w.heap[g]? = some (.cells cur 5 (0, 0))) (ht : (cur.toList.drop o).take l.length = bc l) (q : Nat) (hq : q ≤ l.length) :
    RSl w (.slice (cutA g o c q) (l.length - q) (c - q)) (l.drop q) := by
  have hl : (l.drop q).length = l.length - q := by simp
  by_cases h : c = q
  · refine .inr ⟨g, o, c - q, cur, ?_, by omega, by omega, hg, ?_⟩
    · unfold cutA; rw [if_pos h, hl]
    · have e : l.drop q = [] := List.drop_eq_nil_of_le (by omega)
      rw [e]
      simp [bc]
  · refine .inr ⟨g, o + q, c - q, cur, ?_, by omega, by omega, hg, ?_⟩
    · unfold cutA; rw [if_neg h, hl]
    · rw [hl]
      have e : bc (l.drop q) = (bc l).drop q := by simp [bc]
      rw [e, ← ht, List.drop_take, List.drop_drop]
/-- Bytes as a string. -/
def bs (l : List UInt8) : ByteArray := ⟨l.toArray⟩
theorem conv_cells (w : World) (g o n c : Nat) (l : List UInt8) (hl : l.length = n) (hc : ∀ j (h : j < l.length), w.cell? ⟨g, o + j, none⟩ = some (.int .u8 l[j].toNat)) :
    (convert 25 9 (.slice (some ⟨g, o, none⟩) n c)).run Tryd.prog w = .ok (.string (bs l)) w := by
  have h := run_convert_bytes_arg (P := Tryd.prog) w 25 5 Tryd.underlying25 Tryd.underlying5 g o n c (l.map fun b => (b.toNat : Int)) (by simpa using hl) (fun i hi => by
    rw [hc i (by omega)]
    simp [List.getD, List.getElem?_eq_getElem (show i < l.length by omega)]) 9 Tryd.underlying9
  refine h.trans (congrArg (fun s => Result.ok (Value.string s) w) ?_)
  unfold strOfNums bs
  refine congrArg (fun x : List UInt8 => ByteArray.mk x.toArray) ?_
  rw [List.map_map]
  conv => rhs; rw [← List.map_id l]
  apply List.map_congr_left
  intro x _
  simp
theorem conv_any (w : World) (v : Value) (l : List UInt8) (h : RSl w v l) : (convert 25 9 v).run Tryd.prog w = .ok (.string (bs l)) w := by
  rcases h with ⟨rfl, rfl⟩ | ⟨g, o, c, cur, rfl, _, _, hg, ht⟩
  · exact run_convert_bytes_nil w 25 5 Tryd.underlying25 Tryd.underlying5 0 0 9 Tryd.underlying9
  · exact conv_cells w g o l.length c l rfl (RSl_cells hg ht)
theorem run_head (g o n c q : Nat) (hq : q ≤ c) (w : World) :
    (Instr.slice 25 (.slice (some ⟨g, o, none⟩) n c) none (some (.int .i64 (q : Int))) none).run Tryd.prog w = .ok (.slice (some ⟨g, o, none⟩) q c) w := by
  have hz : (Go.sizeOf 5).run Tryd.prog w = .ok 1 w := by
    obtain ⟨i0, hi0, _, hz1, _⟩ := info_parts u8info
    simp [Go.sizeOf, typeInfo, hi0, hz1]
  have ht' : Tryd.prog.underlying 25 = some (.slice (Tryd.prog.elem 25)) := by simp [Program.elem, Tryd.underlying25]
  have he : Tryd.prog.elem 25 = 5 := by simp [Program.elem, Tryd.underlying25]
  rw [run_slice_h w _ _ _ _ ht' .i64 _ (by omega) (by omega), he, hz]
  simp [Result.andThen, sliced, Addr.add]
theorem RSl_head {w : World} {g o c : Nat} {cur : Array Value} {l : List UInt8} (h1 : l.length ≤ c) (h2 : c ≤ maxLen) (hg : w.heap[g]? = some (.cells cur 5 (0, 0))) (ht : (cur.toList.drop o).take l.length = bc l) (q : Nat) (hq : q ≤ l.length) :
    RSl w (.slice (some ⟨g, o, none⟩) q c) (l.take q) := by
  have hl : (l.take q).length = q := by simp; omega
  refine .inr ⟨g, o, c, cur, by rw [hl], by omega, h2, hg, ?_⟩
  rw [hl]
  have e : bc (l.take q) = (bc l).take q := by simp [bc]
  rw [e, ← ht, List.take_take, Nat.min_eq_left hq]
/-- What can be read of a slice that was handed in: its bytes, wherever they lie. -/
def Hnd (w : World) (v : Value) (l : List UInt8) : Prop :=
  ∃ A c, v = .slice A l.length c ∧ (A = none → l = []) ∧ ∀ ad, A = some ad → ∀ j u, (bc l)[j]? = some u → w.cell? (ad.add j) = some u
theorem Hnd.of_RSl {w : World} {v : Value} {l : List UInt8} (h : RSl w v l) : Hnd w v l := by
  rcases h with ⟨rfl, rfl⟩ | ⟨g, o, c, cur, rfl, _, _, hg, ht⟩
  · exact ⟨none, 0, rfl, fun _ => rfl, (by intro ad h; cases h)⟩
  · refine ⟨_, c, rfl, (by intro h; cases h), ?_⟩
    intro ad had j u hu
    injection had with had
    subst had
    have hj : j < l.length := by
      have := (List.getElem?_eq_some_iff.1 hu).1
      simpa [bc] using this
    rw [Addr.add_lit, RSl_cells hg ht j hj]
    simpa [bc, hj] using hu
theorem RSl.alloc {w : World} {v : Value} {l : List UInt8} (h : RSl w v l) (o : Obj) : RSl (w.alloc o) v l :=
  h.keep fun k cur hk => Below.heap_alloc w o k (Array.getElem?_eq_some_iff.1 hk).1
theorem RSl.below {w w' : World} {v : Value} {l : List UInt8} (h : RSl w v l) (hb : Below w.heap.size w w') : RSl w' v l :=
  h.keep fun k cur hk => hb.block k (Array.getElem?_eq_some_iff.1 hk).1
/-- Bytes that were just laid out as a row. -/
theorem Hnd.new (w : World) (l : List UInt8) (cs : Array Value) (n c : Nat) (hn : l.length = n) (h : cs.toList = bc l) : Hnd (w.alloc (.cells cs 5)) (.slice (some ⟨w.heap.size, 0, none⟩) n c) l := by
  subst hn
  refine ⟨_, c, rfl, (by intro h; cases h), ?_⟩
  intro ad had j u hu
  injection had with had
  subst had
  rw [Addr.add_lit, Nat.zero_add, cell_of_row _ w.heap.size j cs _ (0, 0) (heap_alloc_new w _)]
  rw [← h] at hu
  simpa using hu
theorem own_base {w : World} {base base' : Nat} {v : Value} {n : Nat} {xs : List Value} (h : w.ownsRow base 5 1 v n xs) (hb : base' ≤ base) : w.ownsRow base' 5 1 v n xs := by
  refine ⟨h.1, ?_⟩
  rcases h.2 with h0 | ⟨g, cap, cur, h1, h2, h3⟩
  · exact .inl h0
  · exact .inr ⟨g, cap, cur, h1, by omega, h3⟩
theorem own_below {w w' : World} {base : Nat} {v : Value} {n : Nat} {xs : List Value} (h : w.ownsRow base 5 1 v n xs) (hb : Below w.heap.size w w') : w'.ownsRow base 5 1 v n xs := by
  refine ⟨h.1, ?_⟩
  rcases h.2 with h0 | ⟨g, cap, cur, h1, h2, h3, h4⟩
  · exact .inl h0
  · exact .inr ⟨g, cap, cur, h1, h2, (hb.block g (Array.getElem?_eq_some_iff.1 h3).1).trans h3, h4⟩
theorem own_new1 (w : World) (B : Nat) (hB : B ≤ w.heap.size) (x : Int) (b : UInt8) (hx : (b.toNat : Int) = x) :
    (w.alloc (.cells #[.int .u8 x] 5)).ownsRow B 5 1 (.slice (some ⟨w.heap.size, 0, none⟩) 1 1) 1 (bc [b]) :=
  ⟨rfl, .inr ⟨w.heap.size, 1, _, rfl, hB, heap_alloc_new w _, Nat.le_refl _, by decide, rfl, by subst hx; rfl⟩⟩
/-- A row that is not empty has an address. -/
theorem own_some {w : World} {base : Nat} {v : Value} {l : List UInt8} (h : w.ownsRow base 5 1 v l.length (bc l)) (hl : 0 < l.length) :
    ∃ g cap, v = .slice (some ⟨g, 0, none⟩) l.length cap ∧ base ≤ g ∧ ∀ j u, (bc l)[j]? = some u → w.cell? ((⟨g, 0, none⟩ : Addr).add j) = some u := by
  rcases h.2 with ⟨_, h0⟩ | ⟨g, cap, cur, rfl, hb, _⟩
  · omega
  · exact ⟨g, cap, rfl, hb, h.cells (g := g) rfl⟩
theorem bytesWorld_below (w : World) (s : ByteArray) : Below w.heap.size w (Lib.bytesWorld w 5 s) :=
  ⟨rfl, rfl, rfl, by rw [Lib.bytesWorld_size]; omega, fun k hk => Lib.bytesWorld_at_old w _ s k hk⟩
/-- A slice of integers that came in: nil, or a row of 'cap' numbers, of which the first 'len' are its elements. -/
def IsRow (k : IntKind) (w : World) (a : Option Addr) (len cap : Nat) (zs : List Int) : Prop :=
  (a = none ∧ len = 0 ∧ cap = 0 ∧ zs = []) ∨
  ∃ x, a = some x ∧ len ≤ cap ∧ cap ≤ maxLen ∧ zs.length = cap ∧ (∀ i, i < zs.length → w.cell? (x.add i) = some (.int k (zs.getD i 0))) ∧ ∀ n ∈ zs, (Lit.int k n).wf = true
/-- A slice of strings that came in. -/
def IsStrs (w : World) (a : Option Addr) (len cap : Nat) (zs : List ByteArray) : Prop :=
  (a = none ∧ len = 0 ∧ cap = 0 ∧ zs = []) ∨
  ∃ x, a = some x ∧ len ≤ cap ∧ cap ≤ maxLen ∧ zs.length = cap ∧ (∀ i, i < zs.length → w.cell? (x.add i) = some (.string (zs.getD i ByteArray.empty))) ∧ ∀ s ∈ zs, s.size ≤ maxLen
/-- The bytes of a row of numbers. -/
def rowBytes (zs : List Int) (len : Nat) : List UInt8 := (zs.take len).map fun z => b8 z.toNat
/-- Bytes that came in: how long they are, where they lie. -/
structure ByteArg (w : World) (a : Option Addr) (len cap : Nat) (l : List UInt8) : Prop where
  leq : l.length = len
  ceq : len ≤ cap
  most : cap ≤ maxLen
  hnd : Hnd w (.slice a len cap) l
  lit : 0 < len → ∃ b o, a = some ⟨b, o, none⟩ ∧ ∀ j (h : j < l.length), w.cell? ⟨b, o + j, none⟩ = some (.int .u8 l[j].toNat)
theorem ByteArg.of_row {w : World} {a : Option Addr} {len cap : Nat} {zs : List Int} (h : IsRow .u8 w a len cap zs) : ByteArg w a len cap (rowBytes zs len) := by
  rcases h with ⟨rfl, rfl, rfl, rfl⟩ | ⟨x, rfl, hl, hm, hz, hcell, hwf⟩
  · exact ⟨rfl, Nat.le_refl _, Nat.zero_le _, ⟨none, 0, rfl, fun _ => rfl, (by intro ad h; cases h)⟩, by intro h; omega⟩
  · have hlen : (rowBytes zs len).length = len := by simp [rowBytes]; omega
    have hc : ∀ j (h : j < (rowBytes zs len).length), w.cell? (x.add j) = some (.int .u8 (rowBytes zs len)[j].toNat) := by
      intro j h
      have hj : j < zs.length := by omega
      have e := hcell j hj
      have b := bounds_u8 (hwf zs[j] (List.getElem_mem hj))
      rw [e]
      simp only [List.getD, List.getElem?_eq_getElem hj, Option.getD_some, rowBytes, List.getElem_map, List.getElem_take]
      rw [b8_toNat _ (by omega)]
      congr 2
      omega
    refine ⟨hlen, hl, hm, ⟨some x, cap, by rw [hlen], (by intro h; cases h), ?_⟩, ?_⟩
    · intro ad had j u hu
      injection had with had
      subst had
      have hj : j < (rowBytes zs len).length := by
        have := (List.getElem?_eq_some_iff.1 hu).1
        simpa [bc] using this
      rw [hc j hj]
      simpa [bc, hj] using hu
    · intro hp
      obtain ⟨b, o, spot⟩ := x
      have h0 := hc 0 (by omega)
      have hspot : spot = none := by simpa [Addr.add] using World.cell?_spot h0
      subst hspot
      refine ⟨b, o, rfl, fun j h => ?_⟩
      have := hc j h
      rwa [Addr.add_lit] at this
theorem Hnd.below {w w' : World} {v : Value} {l : List UInt8} (h : Hnd w v l) (hb : Below w.heap.size w w') : Hnd w' v l := by
  obtain ⟨A, c, h1, h2, h3⟩ := h
  refine ⟨A, c, h1, h2, fun ad had j u hu => ?_⟩
  have := h3 ad had j u hu
  exact (hb.cell (World.block_lt_of_cell? w _ this)).trans this
theorem cells_below {w w' : World} {b o : Nat} {l : List UInt8} (h : ∀ j (h : j < l.length), w.cell? ⟨b, o + j, none⟩ = some (.int .u8 l[j].toNat)) (hb : Below w.heap.size w w') :
    ∀ j (h : j < l.length), w'.cell? ⟨b, o + j, none⟩ = some (.int .u8 l[j].toNat) := fun j hj =>
  (hb.cell (World.block_lt_of_cell? w _ (h j hj))).trans (h j hj)
theorem cells_take {w : World} {b o : Nat} {l : List UInt8} (h : ∀ j (h : j < l.length), w.cell? ⟨b, o + j, none⟩ = some (.int .u8 l[j].toNat)) (q : Nat) :
    ∀ j (h : j < (l.take q).length), w.cell? ⟨b, o + j, none⟩ = some (.int .u8 (l.take q)[j].toNat) := by
  intro j hj
  have hj' : j < l.length := by rw [List.length_take] at hj; omega
  rw [h j hj']
  simp
theorem conv_zero (A : Option Addr) (c : Nat) (w : World) : (convert 25 9 (.slice A 0 c)).run Tryd.prog w = .ok (.string (bs [])) w := by
  rcases A with _ | a
  · exact run_convert_bytes_nil w 25 5 Tryd.underlying25 Tryd.underlying5 0 c 9 Tryd.underlying9
  · rw [run_convert_bytes_string w 25 9 5 _ 0 c Tryd.underlying25 Tryd.underlying5 Tryd.underlying9, run_bytesToString w a 0 c [] (by simp [loadCells, loadCellsFrom])]
    rfl
/-- What can be read as bytes is converted to a string. -/
theorem conv_hnd {w : World} {v : Value} {l : List UInt8} (h : Hnd w v l) : (convert 25 9 v).run Tryd.prog w = .ok (.string (bs l)) w := by
  obtain ⟨A, c, rfl, h2, h3⟩ := h
  rcases l with _ | ⟨x, t⟩
  · exact conv_zero A c w
  · rcases A with _ | ad
    · have := h2 rfl
      cases this
    · have hc : ∀ j (h : j < (x :: t).length), w.cell? (ad.add j) = some (.int .u8 (x :: t)[j].toNat) := fun j h => h3 ad rfl j _ (by unfold bc; rw [List.getElem?_map, List.getElem?_eq_getElem h]; rfl)
      obtain ⟨b, o, spot⟩ := ad
      have h0 := hc 0 (by simp)
      have hspot : spot = none := by simpa [Addr.add] using World.cell?_spot h0
      subst hspot
      exact conv_cells w b o _ c _ rfl (fun j h => by have := hc j h; rwa [Addr.add_lit] at this)
end Go.Proofs.YteibkipcblmikaaDoor
namespace Go.Proofs.YteibkipcblmikaaDoor

/-- How many bytes a number's form has ahead of its last one. -/
def ext (n : Nat) : Nat := if n < 128 then 0 else if n < 16384 then 1 else if n < 2097152 then 2 else if n < 268435456 then 3 else 4

/-- The form with j bytes ahead of the last one. -/
def formX : Nat → Nat → List UInt8
  | 0, m => [b8 m]
  | j + 1, m => b8 (m % 128 + 128) :: formX j (m / 128)

/-- A number's form. -/
def form (n : Nat) : List UInt8 := formX (ext n) n

/-- What Number gives: no bytes where the number is out of range. -/
def num (n : Int) : List UInt8 := if n < 0 ∨ 4294967295 < n then [] else form n.toNat

/-- What Text gives. -/
def txt (s : List UInt8) : List UInt8 := if 4096 < s.length then [] else form s.length ++ s

theorem formX_length (j m : Nat) : (formX j m).length = j + 1 := by
  induction j generalizing m with
  | zero => rfl
  | succ j ih => simp [formX, ih]
theorem ext_le (n : Nat) : ext n ≤ 4 := by unfold ext; repeat' split
                                           all_goals omega
theorem form_length (n : Nat) : (form n).length = ext n + 1 := formX_length _ _
theorem ext_small (n : Nat) (h : n < 128) : ext n = 0 := by unfold ext; rw [if_pos h]
theorem ext_big (n : Nat) (h : 128 ≤ n) (h1 : n < 34359738368) : ext n = ext (n / 128) + 1 := by
  unfold ext; repeat' split
  all_goals omega
theorem ext_mono (a b : Nat) (h : a ≤ b) : ext a ≤ ext b := by
  unfold ext; repeat' split
  all_goals omega
theorem form_small (n : Nat) (h : n < 128) : form n = [b8 n] := by unfold form; rw [ext_small n h]; rfl
theorem form_big (n : Nat) (h : 128 ≤ n) (h1 : n < 34359738368) : form n = b8 (n % 128 + 128) :: form (n / 128) := by
  unfold form; rw [ext_big n h h1]; rfl
theorem num_in (n : Int) (h0 : 0 ≤ n) (h1 : n ≤ 4294967295) : num n = form n.toNat := by unfold num; rw [if_neg (by omega)]
theorem num_out (n : Int) (h : n < 0 ∨ 4294967295 < n) : num n = [] := by unfold num; rw [if_pos h]
theorem txt_in (s : List UInt8) (h : s.length ≤ 4096) : txt s = form s.length ++ s := by unfold txt; rw [if_neg (by omega)]
theorem txt_out (s : List UInt8) (h : 4096 < s.length) : txt s = [] := by unfold txt; rw [if_pos h]

/-- What scan gives: number, size, what is wrong. -/
def scanF : Nat → Nat → Nat → List UInt8 → Nat × Nat × Nat
  | 0, _, _, _ => (0, 0, 3)
  | _ + 1, _, _, [] => (0, 0, 2)
  | f + 1, i, acc, x :: t =>
    if 128 ≤ x.toNat then scanF f (i + 1) (acc + x.toNat % 128 * 128 ^ i) t
    else if x.toNat = 0 ∧ 0 < i then (0, 0, 3)
    else (acc + x.toNat % 128 * 128 ^ i, i + 1, 0)
def scan (l : List UInt8) : Nat × Nat × Nat := scanF 5 0 0 l

theorem scanF_err (f i acc : Nat) (l : List UInt8) : (scanF f i acc l).2.2 = 0 ∨ (scanF f i acc l).2.2 = 2 ∨ (scanF f i acc l).2.2 = 3 := by
  induction f generalizing i acc l with
  | zero => simp [scanF]
  | succ f ih =>
    cases l with
    | nil => simp [scanF]
    | cons x t =>
      unfold scanF
      split
      · exact ih _ _ _
      · split <;> simp
theorem scanF_size (f i acc : Nat) (l : List UInt8) (h : (scanF f i acc l).2.2 = 0) :
    i < (scanF f i acc l).2.1 ∧ (scanF f i acc l).2.1 ≤ i + l.length ∧ (scanF f i acc l).2.1 ≤ i + f := by
  induction f generalizing i acc l with
  | zero => simp [scanF] at h
  | succ f ih =>
    cases l with
    | nil => simp [scanF] at h
    | cons x t =>
      unfold scanF at h ⊢
      split
      · rename_i hx
        rw [if_pos hx] at h
        have := ih _ _ _ h
        simp only [List.length_cons]
        omega
      · rename_i hx
        rw [if_neg hx] at h
        split
        · rename_i h0
          rw [if_pos h0] at h
          simp at h
        · simp

/-- A reader's state: what isn't read, what was wrong. Number's answer and the new state. -/
def rNum (most : Int) (l : List UInt8) (e : Nat) : Nat × List UInt8 × Nat :=
  if e ≠ 0 then (0, l, e)
  else if (scan l).2.2 ≠ 0 then (0, [], (scan l).2.2)
  else if min most 4294967295 < ((scan l).1 : Int) then (0, [], 3)
  else ((scan l).1, l.drop (scan l).2.1, 0)

/-- Text's answer and the new state. -/
def rTxt (most : Int) (l : List UInt8) (e : Nat) : List UInt8 × List UInt8 × Nat :=
  if (rNum most l e).2.2 ≠ 0 then ([], (rNum most l e).2.1, (rNum most l e).2.2)
  else if (rNum most l e).2.1.length < (rNum most l e).1 then ([], [], 2)
  else ((rNum most l e).2.1.take (rNum most l e).1, (rNum most l e).2.1.drop (rNum most l e).1, 0)

/-- What is written is scanned. -/
theorem scanF_formX (j f i acc m : Nat) (t : List UInt8) (hj : j < f) (hm : m < 128 ^ (j + 1)) (hz : j ≠ 0 ∨ 0 < i → m / 128 ^ j ≠ 0) (hp : j = 0 → 0 < i → m ≠ 0) :
    scanF f i acc (formX j m ++ t) = (acc + m * 128 ^ i, i + j + 1, 0) := by
  induction j generalizing f i acc m with
  | zero =>
    obtain ⟨f, rfl⟩ := Nat.exists_eq_succ_of_ne_zero (show f ≠ 0 by omega)
    have hm' : m < 128 := by simpa using hm
    have e1 : (b8 m).toNat = m := b8_toNat _ (by omega)
    have c1 : ¬ (128 ≤ m) := by omega
    have c2 : ¬ (m = 0 ∧ 0 < i) := by intro ⟨a, b⟩; exact hp rfl b a
    simp [formX, scanF, e1, c1, c2, Nat.mod_eq_of_lt hm']
  | succ j ih =>
    obtain ⟨f, rfl⟩ := Nat.exists_eq_succ_of_ne_zero (show f ≠ 0 by omega)
    have e1 : (b8 (m % 128 + 128)).toNat = m % 128 + 128 := b8_toNat _ (by omega)
    have c1 : 128 ≤ m % 128 + 128 := by omega
    have hd : m / 128 < 128 ^ (j + 1) := by
      rw [Nat.div_lt_iff_lt_mul (by omega)]
      rw [Nat.pow_succ] at hm
      exact hm
    have hq : m / 128 / 128 ^ j = m / 128 ^ (j + 1) := by
      rw [Nat.div_div_eq_div_mul, Nat.pow_succ, Nat.mul_comm]
    have hnz : m / 128 ^ (j + 1) ≠ 0 := hz (.inl (by omega))
    have := ih f (i + 1) (acc + (m % 128 + 128) % 128 * 128 ^ i) (m / 128) (by omega) hd (fun _ => by rw [hq]; exact hnz) (by
      intro h0 _ hc
      subst h0
      simp at hnz
      omega)
    simp only [formX, List.cons_append, scanF, e1, if_pos c1, this]
    have e2 : acc + (m % 128 + 128) % 128 * 128 ^ i + m / 128 * 128 ^ (i + 1) = acc + m * 128 ^ i := by
      rw [Nat.pow_succ, Nat.add_mod_right, Nat.mod_mod, Nat.mul_comm (128 ^ i) 128, ← Nat.mul_assoc, Nat.add_assoc, ← Nat.add_mul]
      congr 2
      omega
    rw [e2]
    congr 2
    omega

theorem ext_pow (n : Nat) (h : n < 4294967296) : n < 128 ^ (ext n + 1) ∧ (ext n ≠ 0 → n / 128 ^ ext n ≠ 0) := by
  unfold ext
  repeat' split
  all_goals refine ⟨?_, fun hh => ?_⟩
  all_goals simp only [Nat.reduceAdd, Nat.reducePow] at *
  all_goals omega

theorem scan_form (n : Nat) (h : n < 4294967296) (t : List UInt8) : scan (form n ++ t) = (n, (form n).length, 0) := by
  have hp := ext_pow n h
  have he := ext_le n
  unfold scan
  rw [form_length]
  have := scanF_formX (ext n) 5 0 0 n t (by omega) hp.1 (fun hh => hp.2 (by omega)) (by omega)
  unfold form
  rw [this]
  simp
end Go.Proofs.YteibkipcblmikaaDoor
namespace Go.Proofs.YteibkipcblmikaaDoor

/-- How many bytes a character has whose first byte is c (0: none), and from where to where the second one may be. -/
def tl (c : Nat) : Nat × Nat × Nat :=
  if c < 128 then (1, 128, 191) else if 194 ≤ c ∧ c ≤ 223 then (2, 128, 191) else if c = 224 then (3, 160, 191) else if c = 237 then (3, 128, 159) else if 225 ≤ c ∧ c ≤ 239 then (3, 128, 191)
  else if c = 240 then (4, 144, 191) else if 241 ≤ c ∧ c ≤ 243 then (4, 128, 191) else if c = 244 then (4, 128, 143) else (0, 0, 0)
/-- The bytes behind the first one. -/
def okT : Nat → Nat → Nat → List UInt8 → Bool
  | 0, _, _, _ => true
  | _ + 1, _, _, [] => false
  | n + 1, lo, hi, c :: t => decide (lo ≤ c.toNat ∧ c.toNat ≤ hi) && okT n 128 191 t
/-- How many bytes the first character has; 0: there is none that is well-formed. -/
def oneW : List UInt8 → Nat
  | [] => 0
  | c :: t => if (tl c.toNat).1 ≠ 0 ∧ okT ((tl c.toNat).1 - 1) (tl c.toNat).2.1 (tl c.toNat).2.2 t = true then (tl c.toNat).1 else 0
def formedF : Nat → List UInt8 → Bool
  | 0, l => l.isEmpty
  | f + 1, l => l.isEmpty || (decide (oneW l ≠ 0) && formedF f (l.drop (oneW l)))
/-- Is a text well-formed? -/
def formed (l : List UInt8) : Bool := formedF l.length l

theorem tl_cases (c : Nat) :
    (tl c = (1, 128, 191) ∧ c < 128) ∨ (tl c = (2, 128, 191) ∧ 194 ≤ c ∧ c ≤ 223) ∨ (tl c = (3, 160, 191) ∧ c = 224) ∨ (tl c = (3, 128, 159) ∧ c = 237) ∨ (tl c = (3, 128, 191) ∧ 225 ≤ c ∧ c ≤ 239 ∧ c ≠ 237) ∨
    (tl c = (4, 144, 191) ∧ c = 240) ∨ (tl c = (4, 128, 191) ∧ 241 ≤ c ∧ c ≤ 243) ∨ (tl c = (4, 128, 143) ∧ c = 244) ∨ (tl c = (0, 0, 0) ∧ ((128 ≤ c ∧ c ≤ 193) ∨ 245 ≤ c)) := by
  unfold tl
  repeat' split
  all_goals simp
  all_goals omega
theorem formedF_more (f g : Nat) (l : List UInt8) (hf : l.length ≤ f) (hg : l.length ≤ g) : formedF f l = formedF g l := by
  induction f generalizing g l with
  | zero =>
    have : l = [] := List.length_eq_zero_iff.1 (by omega)
    subst this
    cases g <;> rfl
  | succ f ih =>
    cases g with
    | zero =>
      have : l = [] := List.length_eq_zero_iff.1 (by omega)
      subst this
      rfl
    | succ g =>
      unfold formedF
      by_cases h0 : oneW l = 0
      · simp [h0]
      · rw [ih g (l.drop (oneW l)) (by rw [List.length_drop]; omega) (by rw [List.length_drop]; omega)]
theorem formed_nil : formed [] = true := rfl
theorem formed_step (l : List UInt8) (h : l ≠ []) : formed l = (decide (oneW l ≠ 0) && formed (l.drop (oneW l))) := by
  unfold formed
  obtain ⟨c, t, rfl⟩ := List.exists_cons_of_ne_nil h
  rw [List.length_cons, formedF]
  simp only [List.isEmpty_cons, Bool.false_or]
  by_cases h0 : oneW (c :: t) = 0
  · simp [h0]
  · rw [formedF_more t.length _ ((c :: t).drop (oneW (c :: t))) (by rw [List.length_drop, List.length_cons]; omega) (Nat.le_refl _)]

theorem okT_one (lo hi : Nat) (t : List UInt8) : okT 1 lo hi t = true ↔ ∃ a u, t = a :: u ∧ lo ≤ a.toNat ∧ a.toNat ≤ hi := by
  cases t with
  | nil => simp [okT]
  | cons a u => simp [okT]
theorem okT_two (lo hi : Nat) (t : List UInt8) : okT 2 lo hi t = true ↔ ∃ a b u, t = a :: b :: u ∧ lo ≤ a.toNat ∧ a.toNat ≤ hi ∧ 128 ≤ b.toNat ∧ b.toNat ≤ 191 := by
  cases t with
  | nil => simp [okT]
  | cons a t => cases t with
    | nil => simp [okT]
    | cons b u => simp [okT, and_assoc]
theorem okT_three (lo hi : Nat) (t : List UInt8) : okT 3 lo hi t = true ↔ ∃ a b c u, t = a :: b :: c :: u ∧ lo ≤ a.toNat ∧ a.toNat ≤ hi ∧ 128 ≤ b.toNat ∧ b.toNat ≤ 191 ∧ 128 ≤ c.toNat ∧ c.toNat ≤ 191 := by
  cases t with
  | nil => simp [okT]
  | cons a t => cases t with
    | nil => simp [okT]
    | cons b t => cases t with
      | nil => simp [okT]
      | cons c u => simp [okT, and_assoc]

/-- The model's decoding, over what is left of the bytes. -/
def dec (l : List UInt8) : Nat × Nat := Utf8.decode ⟨l.toArray⟩ 0
theorem get_drop (s : ByteArray) (i k : Nat) : (s.get! (i + k)).toNat = ((⟨(s.data.toList.drop i).toArray⟩ : ByteArray).get! (0 + k)).toNat := by
  simp only [ByteArray.get!]
  rw [getElem!_def, getElem!_def]
  simp
theorem dec_drop (s : ByteArray) (i : Nat) (h : i ≤ s.size) : Utf8.decode s i = dec (s.data.toList.drop i) := by
  have hsz : (⟨(s.data.toList.drop i).toArray⟩ : ByteArray).size = s.size - i := by
    show (s.data.toList.drop i).toArray.size = s.size - i
    rw [List.size_toArray, List.length_drop]
    rfl
  unfold dec Utf8.decode
  have e : ∀ k, decide (i + k < s.size) = decide (0 + k < (⟨(s.data.toList.drop i).toArray⟩ : ByteArray).size) := by
    intro k
    rw [hsz]
    apply decide_eq_decide.2
    omega
  simp only [get_drop s i, e]

/-- Byte k as a number; behind the end: 0. -/
def vk (l : List UInt8) (k : Nat) : Nat := (l.getD k 0).toNat
theorem vk_lt (l : List UInt8) (k : Nat) : vk l k < 256 := (l.getD k 0).toNat_lt
theorem get_list (l : List UInt8) (k : Nat) : ((⟨l.toArray⟩ : ByteArray).get! (0 + k)).toNat = vk l k := by
  simp only [ByteArray.get!, vk, Nat.zero_add]
  rw [getElem!_def]
  simp only [List.getElem?_toArray, List.getD]
  cases l[k]? <;> rfl
theorem vk_end (l : List UInt8) (k : Nat) (h : ¬ k < l.length) : vk l k = 0 := by
  simp [vk, List.getD, List.getElem?_eq_none (show l.length ≤ k by omega)]
theorem cont_list (l : List UInt8) (k : Nat) : (decide (0 + k < (⟨l.toArray⟩ : ByteArray).size) && vk l k / 64 == 2) = decide (vk l k / 64 = 2) := by
  have hsz : (⟨l.toArray⟩ : ByteArray).size = l.length := by
    show l.toArray.size = l.length
    rw [List.size_toArray]
  rw [hsz, Nat.zero_add]
  by_cases h : k < l.length
  · rw [decide_eq_true h, Bool.true_and]
    rfl
  · rw [vk_end l k h, decide_eq_false h]
    rfl
/-- Decoding, of up to four numbers. -/
def decN (b0 v1 v2 v3 : Nat) : Nat × Nat :=
  if b0 < 128 then (b0, 1)
  else if b0 / 32 = 6 ∧ v1 / 64 = 2 then
    if 128 ≤ b0 % 32 * 64 + v1 % 64 then (b0 % 32 * 64 + v1 % 64, 2) else (65533, 1)
  else if b0 / 16 = 14 ∧ v1 / 64 = 2 ∧ v2 / 64 = 2 then
    if 2048 ≤ b0 % 16 * 4096 + v1 % 64 * 64 + v2 % 64 ∧ (b0 % 16 * 4096 + v1 % 64 * 64 + v2 % 64 < 55296 ∨ 57344 ≤ b0 % 16 * 4096 + v1 % 64 * 64 + v2 % 64) then (b0 % 16 * 4096 + v1 % 64 * 64 + v2 % 64, 3) else (65533, 1)
  else if b0 / 8 = 30 ∧ v1 / 64 = 2 ∧ v2 / 64 = 2 ∧ v3 / 64 = 2 then
    if 65536 ≤ b0 % 8 * 262144 + v1 % 64 * 4096 + v2 % 64 * 64 + v3 % 64 ∧ b0 % 8 * 262144 + v1 % 64 * 4096 + v2 % 64 * 64 + v3 % 64 ≤ 1114111 then (b0 % 8 * 262144 + v1 % 64 * 4096 + v2 % 64 * 64 + v3 % 64, 4) else (65533, 1)
  else (65533, 1)
theorem dec_eq (l : List UInt8) : dec l = decN (vk l 0) (vk l 1) (vk l 2) (vk l 3) := by
  unfold dec Utf8.decode decN
  simp only [get_list, cont_list, Utf8.runeError, Utf8.valid]
  have h0 := vk_lt l 0
  have h1 := vk_lt l 1
  have h2 := vk_lt l 2
  have h3 := vk_lt l 3
  generalize vk l 0 = b0 at *
  generalize vk l 1 = v1 at *
  generalize vk l 2 = v2 at *
  generalize vk l 3 = v3 at *
  simp only [Bool.and_eq_true, Bool.or_eq_true, beq_iff_eq, decide_eq_true_eq, ge_iff_le, and_assoc]
  repeat' split
  all_goals first | rfl | (exfalso; omega)
/-- How many bytes, of up to four numbers. -/
def oneN (b0 v1 v2 v3 : Nat) : Nat :=
  if b0 < 128 then 1
  else if 194 ≤ b0 ∧ b0 ≤ 223 then (if 128 ≤ v1 ∧ v1 ≤ 191 then 2 else 0)
  else if 224 ≤ b0 ∧ b0 ≤ 239 then (if (if b0 = 224 then 160 else 128) ≤ v1 ∧ v1 ≤ (if b0 = 237 then 159 else 191) ∧ 128 ≤ v2 ∧ v2 ≤ 191 then 3 else 0)
  else if 240 ≤ b0 ∧ b0 ≤ 244 then (if (if b0 = 240 then 144 else 128) ≤ v1 ∧ v1 ≤ (if b0 = 244 then 143 else 191) ∧ 128 ≤ v2 ∧ v2 ≤ 191 ∧ 128 ≤ v3 ∧ v3 ≤ 191 then 4 else 0)
  else 0
theorem vk0 (c : UInt8) (t : List UInt8) : vk (c :: t) 0 = c.toNat := rfl
theorem vkS (c : UInt8) (t : List UInt8) (k : Nat) : vk (c :: t) (k + 1) = vk t k := by simp [vk]
theorem okT_vk1 (lo hi : Nat) (t : List UInt8) (h : 0 < lo) : okT 1 lo hi t = decide (lo ≤ vk t 0 ∧ vk t 0 ≤ hi) := by
  cases t with
  | nil => simp [okT, vk]; omega
  | cons a u => simp [okT, vk]
theorem okT_vk2 (lo hi : Nat) (t : List UInt8) : okT 2 lo hi t = decide (lo ≤ vk t 0 ∧ vk t 0 ≤ hi ∧ 128 ≤ vk t 1 ∧ vk t 1 ≤ 191) := by
  cases t with
  | nil => simp [okT, vk]
  | cons a t => cases t with
    | nil => simp [okT, vk]
    | cons b u => simp [okT, vk, Bool.decide_and, Bool.and_assoc]
theorem okT_vk3 (lo hi : Nat) (t : List UInt8) : okT 3 lo hi t = decide (lo ≤ vk t 0 ∧ vk t 0 ≤ hi ∧ 128 ≤ vk t 1 ∧ vk t 1 ≤ 191 ∧ 128 ≤ vk t 2 ∧ vk t 2 ≤ 191) := by
  cases t with
  | nil => simp [okT, vk]
  | cons a t => cases t with
    | nil => simp [okT, vk]
    | cons b t => cases t with
      | nil => simp [okT, vk]
      | cons d u => simp [okT, vk, Bool.decide_and, Bool.and_assoc]
theorem oneW_eq (c : UInt8) (t : List UInt8) : oneW (c :: t) = oneN c.toNat (vk t 0) (vk t 1) (vk t 2) := by
  have e0 : oneW (c :: t) = if (tl c.toNat).1 ≠ 0 ∧ okT ((tl c.toNat).1 - 1) (tl c.toNat).2.1 (tl c.toNat).2.2 t = true then (tl c.toNat).1 else 0 := rfl
  rw [e0]
  unfold oneN
  rcases tl_cases c.toNat with ⟨e, h⟩ | ⟨e, h⟩ | ⟨e, h⟩ | ⟨e, h⟩ | ⟨e, h⟩ | ⟨e, h⟩ | ⟨e, h⟩ | ⟨e, h⟩ | ⟨e, h⟩ <;> rw [e] <;> simp only []
  · simp [okT, h]
  · rw [show 2 - 1 = 1 from rfl, okT_vk1 _ _ _ (by omega)]
    generalize c.toNat = b0 at *
    simp only [decide_eq_true_eq]
    repeat' split
    all_goals first | rfl | (exfalso; omega)
  · rw [show 3 - 1 = 2 from rfl, okT_vk2]
    generalize c.toNat = b0 at *
    simp only [decide_eq_true_eq]
    repeat' split
    all_goals first | rfl | (exfalso; omega)
  · rw [show 3 - 1 = 2 from rfl, okT_vk2]
    generalize c.toNat = b0 at *
    simp only [decide_eq_true_eq]
    repeat' split
    all_goals first | rfl | (exfalso; omega)
  · rw [show 3 - 1 = 2 from rfl, okT_vk2]
    generalize c.toNat = b0 at *
    simp only [decide_eq_true_eq]
    repeat' split
    all_goals first | rfl | (exfalso; omega)
  · rw [show 4 - 1 = 3 from rfl, okT_vk3]
    generalize c.toNat = b0 at *
    simp only [decide_eq_true_eq]
    repeat' split
    all_goals first | rfl | (exfalso; omega)
  · rw [show 4 - 1 = 3 from rfl, okT_vk3]
    generalize c.toNat = b0 at *
    simp only [decide_eq_true_eq]
    repeat' split
    all_goals first | rfl | (exfalso; omega)
  · rw [show 4 - 1 = 3 from rfl, okT_vk3]
    generalize c.toNat = b0 at *
    simp only [decide_eq_true_eq]
    repeat' split
    all_goals first | rfl | (exfalso; omega)
  · generalize c.toNat = b0 at *
    simp only [ne_eq, not_true_eq_false, false_and, if_false]
    repeat' split
    all_goals first | rfl | (exfalso; omega)
theorem dec_bad (b0 v1 v2 v3 : Nat) (h0 : b0 < 256) (h1 : v1 < 256) (h2 : v2 < 256) (h3 : v3 < 256) (h : oneN b0 v1 v2 v3 = 0) : decN b0 v1 v2 v3 = (65533, 1) := by
  unfold oneN at h
  unfold decN
  repeat' split at h
  all_goals (try omega)
  all_goals (repeat' split)
  all_goals first | rfl | (exfalso; omega)
theorem oneN_cases (b0 v1 v2 v3 : Nat) : (oneN b0 v1 v2 v3 = 1 ∧ b0 < 128) ∨ (oneN b0 v1 v2 v3 = 2 ∧ 194 ≤ b0 ∧ b0 ≤ 223 ∧ 128 ≤ v1 ∧ v1 ≤ 191) ∨
    (oneN b0 v1 v2 v3 = 3 ∧ 224 ≤ b0 ∧ b0 ≤ 239 ∧ (b0 = 224 → 160 ≤ v1) ∧ (b0 = 237 → v1 ≤ 159) ∧ 128 ≤ v1 ∧ v1 ≤ 191 ∧ 128 ≤ v2 ∧ v2 ≤ 191) ∨
    (oneN b0 v1 v2 v3 = 4 ∧ 240 ≤ b0 ∧ b0 ≤ 244 ∧ (b0 = 240 → 144 ≤ v1) ∧ (b0 = 244 → v1 ≤ 143) ∧ 128 ≤ v1 ∧ v1 ≤ 191 ∧ 128 ≤ v2 ∧ v2 ≤ 191 ∧ 128 ≤ v3 ∧ v3 ≤ 191) ∨ oneN b0 v1 v2 v3 = 0 := by
  unfold oneN
  by_cases c1 : b0 < 128
  · simp [c1]
  · by_cases c2 : 194 ≤ b0 ∧ b0 ≤ 223
    · by_cases d : 128 ≤ v1 ∧ v1 ≤ 191 <;> simp [c1, c2, d]
    · by_cases c3 : 224 ≤ b0 ∧ b0 ≤ 239
      · by_cases d : (if b0 = 224 then 160 else 128) ≤ v1 ∧ v1 ≤ (if b0 = 237 then 159 else 191) ∧ 128 ≤ v2 ∧ v2 ≤ 191
        · rw [if_neg c1, if_neg c2, if_pos c3, if_pos d]
          obtain ⟨d1, d2, d3⟩ := d
          split at d1 <;> split at d2 <;> (right; right; left; refine ⟨rfl, ?_⟩; omega)
        · rw [if_neg c1, if_neg c2, if_pos c3, if_neg d]
          simp
      · by_cases c4 : 240 ≤ b0 ∧ b0 ≤ 244
        · by_cases d : (if b0 = 240 then 144 else 128) ≤ v1 ∧ v1 ≤ (if b0 = 244 then 143 else 191) ∧ 128 ≤ v2 ∧ v2 ≤ 191 ∧ 128 ≤ v3 ∧ v3 ≤ 191
          · rw [if_neg c1, if_neg c2, if_neg c3, if_pos c4, if_pos d]
            obtain ⟨d1, d2, d3⟩ := d
            split at d1 <;> split at d2 <;> (right; right; right; left; refine ⟨rfl, ?_⟩; omega)
          · rw [if_neg c1, if_neg c2, if_neg c3, if_pos c4, if_neg d]
            simp
        · rw [if_neg c1, if_neg c2, if_neg c3, if_neg c4]
          simp
theorem dec_good (b0 v1 v2 v3 : Nat) (h : oneN b0 v1 v2 v3 ≠ 0) :
    ∃ r, decN b0 v1 v2 v3 = (r, oneN b0 v1 v2 v3) ∧ ((oneN b0 v1 v2 v3 = 1 ∧ r = b0 ∧ b0 < 128) ∨ (1 < oneN b0 v1 v2 v3 ∧ 128 ≤ r ∧ 128 ≤ b0)) ∧ r ≤ 1114111 ∧ (r = 65533 ↔ b0 = 239 ∧ v1 = 191 ∧ v2 = 189) := by
  rcases oneN_cases b0 v1 v2 v3 with ⟨e, p⟩ | ⟨e, p⟩ | ⟨e, p⟩ | ⟨e, p⟩ | e
  · rw [e]
    refine ⟨b0, by unfold decN; rw [if_pos p], .inl ⟨rfl, rfl, p⟩, by omega, by omega⟩
  · rw [e]
    refine ⟨b0 % 32 * 64 + v1 % 64, by unfold decN; rw [if_neg (by omega), if_pos (by omega), if_pos (by omega)], .inr ⟨by omega, by omega, by omega⟩, by omega, by omega⟩
  · rw [e]
    refine ⟨b0 % 16 * 4096 + v1 % 64 * 64 + v2 % 64, by unfold decN; rw [if_neg (by omega), if_neg (by omega), if_pos (by omega), if_pos (by omega)], .inr ⟨by omega, by omega, by omega⟩, by omega, by omega⟩
  · rw [e]
    refine ⟨b0 % 8 * 262144 + v1 % 64 * 4096 + v2 % 64 * 64 + v3 % 64, by unfold decN; rw [if_neg (by omega), if_neg (by omega), if_neg (by omega), if_pos (by omega), if_pos (by omega)], .inr ⟨by omega, by omega, by omega⟩, by omega, by omega⟩
  · exact absurd e h
end Go.Proofs.YteibkipcblmikaaDoor
namespace Go.Proofs.YteibkipcblmikaaDoor

/-- A byte that no name has. -/
def badB (c : UInt8) : Bool := decide (c.toNat < 32) || decide (c.toNat = 47) || decide (c.toNat = 127)
/-- No such byte, and well-formed. -/
def okR (l : List UInt8) : Bool := l.all (fun c => !badB c) && formed l
/-- Is it a name? -/
def right (l : List UInt8) : Bool := decide (1 ≤ l.length) && decide (l.length ≤ 20) && okR l
/-- A rune that no name has. -/
def badR (r : Nat) : Bool := decide (r < 32) || decide (r = 47) || decide (r = 127)

theorem vk_in (l : List UInt8) (k : Nat) (h : 0 < vk l k) : k < l.length := by
  rcases Nat.lt_or_ge k l.length with h' | h'
  · exact h'
  · rw [vk_end l k (by omega)] at h; omega
theorem vk_get (l : List UInt8) (k : Nat) (h : k < l.length) : vk l k = l[k].toNat := by simp [vk, List.getD, h]
theorem oneW_le (l : List UInt8) : oneW l ≤ l.length := by
  cases l with
  | nil => simp [oneW]
  | cons c t =>
    rw [oneW_eq, List.length_cons]
    rcases oneN_cases c.toNat (vk t 0) (vk t 1) (vk t 2) with ⟨e, p⟩ | ⟨e, p⟩ | ⟨e, p⟩ | ⟨e, p⟩ | e
    · omega
    · have := vk_in t 0 (by omega); omega
    · have := vk_in t 1 (by omega); omega
    · have := vk_in t 2 (by omega); omega
    · omega
/-- The bytes of a character of more than one. -/
theorem oneW_high (l : List UInt8) (h : 1 < oneW l) : ∀ c ∈ l.take (oneW l), 128 ≤ c.toNat := by
  cases l with
  | nil => simp [oneW] at h
  | cons c t =>
    have hle := oneW_le (c :: t)
    rw [oneW_eq] at h hle ⊢
    intro x hx
    obtain ⟨j, hj, rfl⟩ := List.getElem_of_mem hx
    rw [List.length_take] at hj
    rw [List.getElem_take]
    rw [List.length_cons] at hle
    rcases j with _ | j
    · rw [List.getElem_cons_zero]
      rcases oneN_cases c.toNat (vk t 0) (vk t 1) (vk t 2) with ⟨e, p⟩ | ⟨e, p⟩ | ⟨e, p⟩ | ⟨e, p⟩ | e <;> omega
    · rw [List.getElem_cons_succ, ← vk_get]
      rcases oneN_cases c.toNat (vk t 0) (vk t 1) (vk t 2) with ⟨e, p⟩ | ⟨e, p⟩ | ⟨e, p⟩ | ⟨e, p⟩ | e
      · omega
      · have : j = 0 := by omega
        subst this; omega
      · have : j = 0 ∨ j = 1 := by omega
        rcases this with rfl | rfl <;> omega
      · have : j = 0 ∨ j = 1 ∨ j = 2 := by omega
        rcases this with rfl | rfl | rfl <;> omega
      · omega
theorem high_good (l : List UInt8) (h : ∀ c ∈ l, 128 ≤ c.toNat) : l.all (fun c => !badB c) = true := by
  rw [List.all_eq_true]
  intro c hc
  have := h c hc
  simp [badB]
  omega
theorem all_split (n : Nat) (l : List UInt8) : l.all (fun c => !badB c) = ((l.take n).all (fun c => !badB c) && (l.drop n).all (fun c => !badB c)) := by
  rw [← List.all_append, List.take_append_drop]
theorem okR_nil : okR [] = true := rfl
/-- A text, rune by rune. -/
theorem okR_dec (l : List UInt8) (h : l ≠ []) : okR l = (decide (oneW l ≠ 0) && !badR (dec l).1 && okR (l.drop (dec l).2)) := by
  obtain ⟨c, t, rfl⟩ := List.exists_cons_of_ne_nil h
  have hf := formed_step (c :: t) h
  by_cases h0 : oneW (c :: t) = 0
  · unfold okR
    rw [hf]
    simp [h0]
  · have e1 := oneW_eq c t
    have hN : oneN c.toNat (vk t 0) (vk t 1) (vk t 2) ≠ 0 := by rw [← e1]; exact h0
    have hd := dec_eq (c :: t)
    rw [vk0, show vk (c :: t) 1 = vk t 0 from vkS c t 0, show vk (c :: t) 2 = vk t 1 from vkS c t 1, show vk (c :: t) 3 = vk t 2 from vkS c t 2] at hd
    obtain ⟨r, hr, hw, _, _⟩ := dec_good _ _ _ _ hN
    rw [hd, hr]
    simp only
    rw [← e1] at hw ⊢
    unfold okR
    rw [hf, decide_eq_true h0, Bool.true_and, Bool.true_and]
    rw [all_split (oneW (c :: t)) (c :: t)]
    rcases hw with ⟨w1, rfl, hc⟩ | ⟨w1, hr128, _⟩
    · rw [w1]
      simp [badB, badR, Bool.and_assoc]
    · rw [high_good _ (oneW_high _ w1)]
      have : badR r = false := by simp [badR]; omega
      rw [this]
      simp
theorem dec_none (l : List UInt8) (h : l ≠ []) (h0 : oneW l = 0) : dec l = (65533, 1) := by
  obtain ⟨c, t, rfl⟩ := List.exists_cons_of_ne_nil h
  rw [oneW_eq] at h0
  rw [dec_eq, vk0, show vk (c :: t) 1 = vk t 0 from vkS c t 0, show vk (c :: t) 2 = vk t 1 from vkS c t 1, show vk (c :: t) 3 = vk t 2 from vkS c t 2]
  exact dec_bad _ _ _ _ c.toNat_lt (vk_lt _ _) (vk_lt _ _) (vk_lt _ _) h0
theorem dec_some (l : List UInt8) (h0 : oneW l ≠ 0) : (dec l).2 = oneW l := by
  cases l with
  | nil => simp [oneW] at h0
  | cons c t =>
    rw [oneW_eq] at h0 ⊢
    rw [dec_eq, vk0, show vk (c :: t) 1 = vk t 0 from vkS c t 0, show vk (c :: t) 2 = vk t 1 from vkS c t 1, show vk (c :: t) 3 = vk t 2 from vkS c t 2]
    obtain ⟨r, hr, _⟩ := dec_good _ _ _ _ h0
    rw [hr]
/-- The rune of a character that is well-formed: 65533 is written by three bytes. -/
theorem dec_fffd (l : List UInt8) (h0 : oneW l ≠ 0) : (dec l).1 = 65533 ↔ l.take 3 = [239, 191, 189] := by
  cases l with
  | nil => simp [oneW] at h0
  | cons c t =>
    rw [oneW_eq] at h0
    rw [dec_eq, vk0, show vk (c :: t) 1 = vk t 0 from vkS c t 0, show vk (c :: t) 2 = vk t 1 from vkS c t 1, show vk (c :: t) 3 = vk t 2 from vkS c t 2]
    obtain ⟨r, hr, _, _, hi⟩ := dec_good _ _ _ _ h0
    rw [hr]
    simp only
    rw [hi]
    constructor
    · rintro ⟨h1, h2, h3⟩
      have l0 := vk_in t 0 (by omega)
      have l1 := vk_in t 1 (by omega)
      obtain ⟨a, t, rfl⟩ := List.exists_cons_of_ne_nil (show t ≠ [] by intro h; rw [h] at l0; simp at l0)
      obtain ⟨b, t, rfl⟩ := List.exists_cons_of_ne_nil (show t ≠ [] by intro h; rw [h] at l1; simp at l1)
      rw [vk0] at h2
      rw [vkS, vk0] at h3
      simp only [List.take_succ_cons, List.take_zero, List.cons.injEq, and_true]
      exact ⟨UInt8.toNat_inj.1 h1, UInt8.toNat_inj.1 h2, UInt8.toNat_inj.1 h3⟩
    · intro h
      cases t with
      | nil => simp at h
      | cons a t => cases t with
        | nil => simp at h
        | cons b t =>
          simp only [List.take_succ_cons, List.take_zero, List.cons.injEq, and_true] at h
          rw [vk0, vkS, vk0, h.1, h.2.1, h.2.2]
          decide

/-- What stands between strokes. -/
def splitS : List UInt8 → List (List UInt8)
  | [] => [[]]
  | c :: t => if c = 47 then [] :: splitS t else match splitS t with
    | [] => [[c]]
    | p :: ps => (c :: p) :: ps
/-- A stroke ahead of each. -/
def J (ls : List (List UInt8)) : List UInt8 := ls.flatMap fun n => 47 :: n
theorem J_cons (n : List UInt8) (ls : List (List UInt8)) : J (n :: ls) = 47 :: (n ++ J ls) := by simp [J]
theorem J_append (a b : List (List UInt8)) : J (a ++ b) = J a ++ J b := by simp [J]
theorem splitS_ne (l : List UInt8) : splitS l ≠ [] := by
  cases l with
  | nil => simp [splitS]
  | cons c t =>
    unfold splitS
    split
    · simp
    · split <;> simp
theorem splitS_stroke (t : List UInt8) : splitS (47 :: t) = [] :: splitS t := by simp [splitS]
theorem splitS_other (c : UInt8) (t p : List UInt8) (ps : List (List UInt8)) (h : c ≠ 47) (e : splitS t = p :: ps) : splitS (c :: t) = (c :: p) :: ps := by
  rw [splitS, if_neg h, e]
theorem splitS_app (a b : List UInt8) : splitS (a ++ 47 :: b) = splitS a ++ splitS b := by
  induction a with
  | nil => rw [List.nil_append, splitS_stroke]; rfl
  | cons c a ih =>
    rw [List.cons_append]
    by_cases hc : c = 47
    · subst hc
      rw [splitS_stroke, splitS_stroke, ih]
      rfl
    · obtain ⟨p, ps, e⟩ := List.exists_cons_of_ne_nil (splitS_ne a)
      rw [splitS_other c a p ps hc e, splitS_other c (a ++ 47 :: b) p (ps ++ splitS b) hc (by rw [ih, e]; rfl)]
      rfl
theorem splitS_free (l : List UInt8) (h : 47 ∉ l) : splitS l = [l] := by
  induction l with
  | nil => rfl
  | cons c t ih =>
    rw [List.mem_cons, not_or] at h
    exact splitS_other c t t [] (fun e => h.1 e.symm) (ih h.2)
theorem J_split (l : List UInt8) : J (splitS l) = 47 :: l := by
  induction l with
  | nil => rfl
  | cons c t ih =>
    by_cases hc : c = 47
    · subst hc
      rw [splitS_stroke, J_cons, ih]
      rfl
    · obtain ⟨p, ps, e⟩ := List.exists_cons_of_ne_nil (splitS_ne t)
      rw [splitS_other c t p ps hc e, J_cons]
      rw [e, J_cons] at ih
      injection ih with _ ih
      rw [List.cons_append, ih]
theorem J_head (ls : List (List UInt8)) (h : ls ≠ []) : J ls = 47 :: (J ls).tail := by
  obtain ⟨n, ls, rfl⟩ := List.exists_cons_of_ne_nil h
  rw [J_cons]
  rfl
theorem split_J (ls : List (List UInt8)) (h : ls ≠ []) (hf : ∀ n ∈ ls, 47 ∉ n) : splitS (J ls).tail = ls := by
  induction ls with
  | nil => exact absurd rfl h
  | cons n ls ih =>
    rw [J_cons, List.tail_cons]
    have hn := splitS_free n (hf n List.mem_cons_self)
    by_cases h0 : ls = []
    · subst h0
      rw [show J [] = [] from rfl, List.append_nil, hn]
    · rw [J_head ls h0, splitS_app, hn, ih h0 (fun m hm => hf m (List.mem_cons_of_mem _ hm))]
      rfl
theorem right_free (n : List UInt8) (h : right n = true) : 47 ∉ n := by
  intro h47
  simp only [right, okR, Bool.and_eq_true, List.all_eq_true] at h
  have := h.2.1 47 h47
  simp [badB] at this
theorem right_pos (n : List UInt8) (h : right n = true) : 1 ≤ n.length := by
  simp only [right, Bool.and_eq_true, decide_eq_true_eq] at h
  exact h.1.1
theorem right_nil : right [] = false := rfl

/-- The path of names. -/
def pathOf (ls : List (List UInt8)) : List UInt8 := if ls = [] then [47] else J ls
/-- A path's names, if it is one. -/
def splitP (l : List UInt8) : Option (List (List UInt8)) :=
  if l = [47] then some [] else if l.length ≤ 400 ∧ l.head? = some 47 ∧ (splitS l.tail).all right = true then some (splitS l.tail) else none
/-- Names' path, if there is one. -/
def joinP (ls : List (List UInt8)) : Option (List UInt8) := if ls.all right = true ∧ (J ls).length ≤ 400 then some (pathOf ls) else none
/-- A path without its last name, and that, if there is one. -/
def cutP (l : List UInt8) : Option (List UInt8 × List UInt8) := match splitP l with
  | none => none
  | some m => if m = [] then none else some (pathOf m.dropLast, m.getLast?.getD [])

theorem splitP_root : splitP [47] = some [] := rfl
theorem splitP_some (l : List UInt8) (m : List (List UInt8)) (h : splitP l = some m) : l = pathOf m ∧ m.all right = true ∧ l.length ≤ 400 ∧ (m ≠ [] → m = splitS l.tail ∧ l = 47 :: l.tail) := by
  unfold splitP at h
  split at h
  · injection h with h
    subst h
    rename_i e
    subst e
    exact ⟨rfl, rfl, by simp, fun h => absurd rfl h⟩
  · split at h
    · injection h with h
      rename_i e1 e2
      obtain ⟨h1, h2, h3⟩ := e2
      obtain ⟨c, t, rfl⟩ := List.exists_cons_of_ne_nil (show l ≠ [] by intro e; rw [e] at h2; simp at h2)
      simp only [List.head?_cons, Option.some.injEq] at h2
      subst h2
      rw [List.tail_cons] at h h3 ⊢
      subst h
      refine ⟨?_, h3, h1, fun _ => ⟨rfl, rfl⟩⟩
      rw [pathOf, if_neg (splitS_ne t), J_split]
    · cases h
theorem all_free (ls : List (List UInt8)) (h : ls.all right = true) : ∀ n ∈ ls, 47 ∉ n := fun n hn => right_free n (List.all_eq_true.1 h n hn)
theorem J_long (ls : List (List UInt8)) (h : ls.all right = true) (h0 : ls ≠ []) : 2 ≤ (J ls).length := by
  obtain ⟨n, ls, rfl⟩ := List.exists_cons_of_ne_nil h0
  rw [J_cons, List.length_cons, List.length_append]
  have := right_pos n (List.all_eq_true.1 h n List.mem_cons_self)
  omega
/-- Joined, and split, they are the names. -/
theorem split_path (ls : List (List UInt8)) (h : ls.all right = true) (hl : (J ls).length ≤ 400) : splitP (pathOf ls) = some ls := by
  unfold pathOf
  split
  · rename_i e
    subst e
    rfl
  · rename_i h0
    have h2 := J_long ls h h0
    have hs := split_J ls h0 (all_free ls h)
    unfold splitP
    rw [if_neg (by intro e; rw [e] at h2; simp at h2), if_pos ⟨hl, by rw [J_head ls h0]; rfl, by rw [hs]; exact h⟩, hs]
theorem back_join (ls : List (List UInt8)) (t : List UInt8) (h : joinP ls = some t) : splitP t = some ls := by
  unfold joinP at h
  split at h
  · rename_i e
    injection h with h
    subst h
    exact split_path ls e.1 e.2
  · cases h
theorem J_path (m : List (List UInt8)) (h : (pathOf m).length ≤ 400) : (J m).length ≤ 400 := by
  unfold pathOf at h
  split at h
  · rename_i e; subst e; simp [J]
  · exact h
/-- Split, and joined, it is the path. -/
theorem back_split (s : List UInt8) (m : List (List UInt8)) (h : splitP s = some m) : joinP m = some s := by
  obtain ⟨h1, h2, h3, _⟩ := splitP_some s m h
  unfold joinP
  rw [if_pos ⟨h2, J_path m (by rw [← h1]; exact h3)⟩, ← h1]

/-- Parts of a path's names. -/
theorem split_take (s : List UInt8) (m : List (List UInt8)) (h : splitP s = some m) (k : Nat) : splitP (pathOf (m.take k)) = some (m.take k) := by
  obtain ⟨h1, h2, h3, _⟩ := splitP_some s m h
  refine split_path _ ?_ ?_
  · rw [List.all_eq_true] at h2 ⊢
    exact fun n hn => h2 n (List.mem_of_mem_take hn)
  · have := J_path m (by rw [← h1]; exact h3)
    rw [← List.take_append_drop k m, J_append, List.length_append] at this
    omega
theorem cut_some (s : List UInt8) (m : List (List UInt8)) (n : List UInt8) (h : splitP s = some (m ++ [n])) : cutP s = some (pathOf m, n) := by
  unfold cutP
  rw [h]
  simp
theorem cut_root : cutP [47] = none := rfl
theorem cut_none (s : List UInt8) (h : splitP s = none) : cutP s = none := by
  unfold cutP
  rw [h]
/-- The last name put on again. -/
theorem path_last (m : List (List UInt8)) (n : List UInt8) (hm : m.all right = true) : pathOf (m ++ [n]) = if pathOf m = [47] then pathOf m ++ n else pathOf m ++ 47 :: n := by
  unfold pathOf
  by_cases h0 : m = []
  · subst h0
    simp [J]
  · rw [if_neg (by simp), if_neg h0, if_neg (by intro e; have := J_long m hm h0; rw [e] at this; simp at this), J_append]
    simp [J]
/-- A text more. -/
theorem split_more (s t : List UInt8) (l : List (List UInt8)) (h : splitP s = some l) (hl : l ≠ []) : splitP (s ++ 47 :: t) = if (splitS t).all right = true ∧ (s ++ 47 :: t).length ≤ 400 then some (l ++ splitS t) else none := by
  obtain ⟨h1, h2, h3, h4⟩ := splitP_some s l h
  obtain ⟨h5, h6⟩ := h4 hl
  have e : splitS (s ++ 47 :: t).tail = l ++ splitS t := by
    rw [h6, List.cons_append, List.tail_cons, splitS_app, ← h5]
  unfold splitP
  have hlen : 1 ≤ s.length := by rw [h6]; simp
  rw [if_neg (by intro e; have := congrArg List.length e; simp at this; omega), e]
  by_cases hc : (splitS t).all right = true ∧ (s ++ 47 :: t).length ≤ 400
  · rw [if_pos hc, if_pos ⟨hc.2, by rw [h6]; rfl, by rw [List.all_append, h2, hc.1]; rfl⟩]
  · rw [if_neg hc, if_neg]
    rintro ⟨q1, _, q3⟩
    rw [List.all_append, Bool.and_eq_true] at q3
    exact hc ⟨q3.2, q1⟩
theorem split_stroke (t : List UInt8) (h : t ≠ []) : splitP (47 :: t) = if (splitS t).all right = true ∧ t.length + 1 ≤ 400 then some (splitS t) else none := by
  unfold splitP
  rw [if_neg (by intro e; injection e with _ e; exact h e)]
  simp only [List.length_cons, List.head?_cons, List.tail_cons, true_and]
  by_cases hc : (splitS t).all right = true ∧ t.length + 1 ≤ 400
  · rw [if_pos hc, if_pos ⟨hc.2, hc.1⟩]
  · rw [if_neg hc, if_neg (fun q => hc ⟨q.2, q.1⟩)]
theorem one_part (t : List UInt8) (h : (splitS t).all right = true) : right t = true ↔ (splitS t).length = 1 := by
  constructor
  · intro hr
    rw [splitS_free t (right_free t hr)]
    rfl
  · intro h1
    obtain ⟨p, hp⟩ := List.length_eq_one_iff.1 h1
    have hj := J_split t
    rw [hp] at hj h
    rw [J_cons, show J [] = [] from rfl, List.append_nil] at hj
    injection hj with _ hj
    subst hj
    simpa using h
/-- What is ahead of a stroke. -/
theorem split_ahead (s : List UInt8) (l : List (List UInt8)) (h : splitP s = some l) (i : Nat) (h1 : 1 ≤ i) (hi : i < s.length) (hs : s[i] = 47) : ∃ m, splitP (s.take i) = some m ∧ m.length < l.length := by
  have hl : l ≠ [] := by
    intro e
    subst e
    obtain ⟨q, _⟩ := splitP_some s [] h
    rw [q] at hi
    simp [pathOf] at hi
    omega
  obtain ⟨_, h2, h3, h4⟩ := splitP_some s l h
  obtain ⟨h5, h6⟩ := h4 hl
  obtain ⟨k, rfl⟩ : ∃ k, i = k + 1 := ⟨i - 1, by omega⟩
  generalize s.tail = r at h5 h6
  subst h6
  rw [List.getElem_cons_succ] at hs
  rw [List.length_cons] at hi h3
  have er : r = r.take k ++ 47 :: r.drop (k + 1) := by
    conv => lhs; rw [← List.take_append_drop k r, List.drop_eq_getElem_cons (by omega), hs]
  rw [er, splitS_app] at h5
  subst h5
  rw [List.all_append, Bool.and_eq_true] at h2
  have ha : r.take k ≠ [] := by
    intro e
    rw [e] at h2
    exact absurd h2.1 (by decide)
  refine ⟨splitS (r.take k), ?_, ?_⟩
  · rw [List.take_succ_cons, split_stroke _ ha, if_pos ⟨h2.1, by rw [List.length_take]; omega⟩]
  · rw [List.length_append]
    have := List.length_pos_iff.2 (splitS_ne (r.drop (k + 1)))
    omega
end Go.Proofs.YteibkipcblmikaaDoor
namespace Go.Proofs.YteibkipcblmikaaDoor
open Go.RowKit
set_option linter.unusedVariables false

/-- Whether a number is from a to b. -/
def inP (n a b : Int) : Bool := decide (a ≤ n ∧ n ≤ b)
theorem inP_t {n a b : Int} (h : inP n a b = true) : a ≤ n ∧ n ≤ b := by simpa [inP] using h
theorem inP_f {n a b : Int} (h : inP n a b = false) : n < a ∨ b < n := by simp [inP] at h; omega
/-- Whether a stamp is right. -/
def stR (n r : Int) : Bool := decide ((1 ≤ n ∧ n ≤ 16777215) ∧ 0 ≤ r ∧ r ≤ 255)
theorem stR_t {n r : Int} (h : stR n r = true) : (1 ≤ n ∧ n ≤ 16777215) ∧ 0 ≤ r ∧ r ≤ 255 := by simpa [stR] using h
theorem stR_f {n r : Int} (h : stR n r = false) : ¬ ((1 ≤ n ∧ n ≤ 16777215) ∧ 0 ≤ r ∧ r ≤ 255) := by simpa [stR] using h
/-- A stamp's number. -/
def stI (n r : Int) : Int := if stR n r = true then n * 256 + r else 0
/-- Two numbers against each other. -/
def cm (a b : Int) : Int := if a < b then -1 else if b < a then 1 else 0
/-- Two stamps against each other. -/
def stC (n r m s : Int) : Int := if cm n m ≠ 0 then cm n m else cm r s
/-- The stamp behind those that were seen: its two numbers, and the error. -/
def nxN (seen r most : Int) : Int := if inP seen 0 16777215 && inP most 0 16777215 && inP r 0 255 && decide (seen < most) then seen + 1 else 0
def nxR (seen r most : Int) : Int := if inP seen 0 16777215 && inP most 0 16777215 && inP r 0 255 && decide (seen < most) then r else 0
def nxE (seen r most : Int) : Int := if (inP seen 0 16777215 && inP most 0 16777215 && inP r 0 255) = false then 1 else if decide (seen < most) then 0 else 5
/-- The stamp of a number: whether there is one, its two numbers. -/
def ofB (i : Int) : Bool := stR (i.tdiv 256) (i.tmod 256)
def ofN (i : Int) : Int := if ofB i = true then i.tdiv 256 else 0
def ofR (i : Int) : Int := if ofB i = true then i.tmod 256 else 0
/-- A stamp as a value. -/
def st (n r : Int) : Value := .agg #[.int .i64 n, .int .i64 r]
/-- A stamp that lies in a block. -/
def Bx (w : World) (g : Nat) (n r : Int) : Prop := w.cell? ⟨g, 0, none⟩ = some (.int .i64 n) ∧ w.cell? ⟨g, 1, none⟩ = some (.int .i64 r)
theorem cell_at_new (w : World) (cs : Array Value) (t : TypeId) (j : Nat) (u : Value) (h : cs[j]? = some u) : (w.alloc (.cells cs t)).cell? ⟨w.heap.size, j, none⟩ = some u := by
  rw [cell_of_row _ w.heap.size j cs _ (0, 0) (heap_alloc_new w _), h]
theorem Bx.new (w : World) (n r : Int) (t : TypeId) : Bx (w.alloc (.cells #[.int .i64 n, .int .i64 r] t)) w.heap.size n r := ⟨cell_at_new _ _ _ 0 _ rfl, cell_at_new _ _ _ 1 _ rfl⟩
theorem Bx.below {w w' : World} {g B : Nat} {n r : Int} (h : Bx w g n r) (hb : Below B w w') (hg : g < B) : Bx w' g n r := ⟨(hb.cell hg).trans h.1, (hb.cell hg).trans h.2⟩
theorem Bx.lt {w : World} {g : Nat} {n r : Int} (h : Bx w g n r) : g < w.heap.size := World.block_lt_of_cell? w _ h.1
theorem Bx.alloc {w : World} {g : Nat} {n r : Int} (h : Bx w g n r) (o : Obj) : Bx (w.alloc o) g n r := h.below ((Below.refl w.heap.size w).alloc (Nat.le_refl _) o) h.lt
end Go.Proofs.YteibkipcblmikaaDoor
namespace Go.Proofs.YteibkipcblmikaaDoor
set_option maxRecDepth 100000
open Go.RowKit
set_option linter.unusedVariables false

/-- What is scanned is a form. -/
theorem scanF_inv (f i acc : Nat) (l : List UInt8) (h : (scanF f i acc l).2.2 = 0) :
    ∃ m j, j < f ∧ (scanF f i acc l).2.1 = i + j + 1 ∧ l.take (j + 1) = formX j m ∧ (scanF f i acc l).1 = acc + m * 128 ^ i ∧ m < 128 ^ (j + 1) ∧ (j ≠ 0 ∨ 0 < i → m / 128 ^ j ≠ 0) := by
  induction f generalizing i acc l with
  | zero => simp [scanF] at h
  | succ f ih =>
    cases l with
    | nil => simp [scanF] at h
    | cons x t =>
      have hx256 := UInt8.toNat_lt x
      unfold scanF at h ⊢
      by_cases hx : 128 ≤ x.toNat
      · rw [if_pos hx] at h ⊢
        obtain ⟨m, j, hj, h1, h2, h3, h4, h5⟩ := ih _ _ _ h
        have hq : (x.toNat % 128 + 128 * m) / 128 = m := by omega
        refine ⟨x.toNat % 128 + 128 * m, j + 1, by omega, by omega, ?_, ?_, ?_, fun _ => ?_⟩
        · rw [List.take_succ_cons, h2]
          simp only [formX]
          rw [hq]
          congr 1
          have : (x.toNat % 128 + 128 * m) % 128 + 128 = x.toNat := by omega
          rw [this]
          simp [b8]
        · rw [h3, Nat.pow_succ, Nat.add_mul, Nat.add_assoc]
          congr 2
          rw [Nat.mul_comm (128 ^ i) 128, ← Nat.mul_assoc, Nat.mul_comm m 128]
        · rw [Nat.pow_succ]; omega
        · rw [show 128 ^ (j + 1) = 128 * 128 ^ j by rw [Nat.pow_succ, Nat.mul_comm], ← Nat.div_div_eq_div_mul, hq]
          exact h5 (.inr (by omega))
      · rw [if_neg hx] at h ⊢
        by_cases h0 : x.toNat = 0 ∧ 0 < i
        · rw [if_pos h0] at h
          simp at h
        · rw [if_neg h0] at h ⊢
          refine ⟨x.toNat % 128, 0, by omega, rfl, ?_, rfl, by simp; omega, fun hh => ?_⟩
          · simp only [List.take_succ_cons, List.take_zero, formX]
            congr 1
            rw [Nat.mod_eq_of_lt (by omega)]
            simp [b8]
          · simp only [Nat.pow_zero, Nat.div_one]
            omega

theorem ext_unique (m j : Nat) (hj : j ≤ 4) (h1 : m < 128 ^ (j + 1)) (h2 : j ≠ 0 → m / 128 ^ j ≠ 0) : ext m = j := by
  have hc : j = 0 ∨ j = 1 ∨ j = 2 ∨ j = 3 ∨ j = 4 := by omega
  unfold ext
  rcases hc with rfl | rfl | rfl | rfl | rfl
  all_goals simp only [Nat.reduceAdd, Nat.reducePow, ne_eq, Nat.reduceEqDiff, not_false_eq_true, true_imp_iff, not_true_eq_false, false_imp_iff] at h1 h2
  all_goals repeat' split
  all_goals omega

theorem scan_is_form (l : List UInt8) (h : (scan l).2.2 = 0) : form (scan l).1 = l.take (scan l).2.1 ∧ 1 ≤ (scan l).2.1 ∧ (scan l).2.1 ≤ 5 ∧ (scan l).2.1 ≤ l.length := by
  obtain ⟨m, j, hj, h1, h2, h3, h4, h5⟩ := scanF_inv 5 0 0 l h
  have hs : 0 < (scan l).2.1 ∧ (scan l).2.1 ≤ 0 + l.length ∧ (scan l).2.1 ≤ 0 + 5 := scanF_size 5 0 0 l h
  have e1 : (scan l).2.1 = j + 1 := by have : (scan l).2.1 = 0 + j + 1 := h1; omega
  have e3 : (scan l).1 = m := by have : (scan l).1 = 0 + m * 128 ^ 0 := h3; simpa using this
  refine ⟨?_, by omega, by omega, by omega⟩
  rw [e1, e3, h2]
  unfold form
  rw [ext_unique m j (by omega) h4 (fun hh => h5 (.inl hh))]
end Go.Proofs.YteibkipcblmikaaDoor
