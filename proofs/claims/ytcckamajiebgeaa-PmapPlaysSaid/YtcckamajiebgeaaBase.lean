/-
  What all layers' proofs share: facts hidden from the tactics, bytes as cells, slices of bytes (own, readable, handed in), what a call leaves. No conditions beyond those that each statement bears.
-/
import Derived.Test.YtcckamajiebgeaaBase0
import Derived.Below
import Derived.WalkKit
import Derived.WalkSpells
import Derived.WalkLawsBesides
import Derived.Lib.AppendStr
import Derived.Laws.BytesArg
import Derived.Lib.ConvBytes
import Derived.OpenShut
namespace Go.Proofs.Ytcckamajiebgeaa
set_option maxRecDepth 100000
open Go.RowKit
set_option linter.unusedVariables false

/-- A number as a byte. (A name of its own, so that no rule takes it apart.) -/
def b8 (n : Nat) : UInt8 := UInt8.ofNat n
theorem b8_toNat (n : Nat) (h : n < 256) : (b8 n).toNat = n := by simp [b8, Nat.mod_eq_of_lt h]
theorem b8_mod (n : Nat) : (b8 n).toNat = n % 256 := by simp [b8]
/-- Bytes as cells. -/
def bc (l : List UInt8) : List Value := l.map fun b => Value.int .u8 b.toNat
theorem bc_length (l : List UInt8) : (bc l).length = l.length := by simp [bc]
theorem bc_append (a b : List UInt8) : bc (a ++ b) = bc a ++ bc b := by simp [bc]
theorem bc_one (l : List UInt8) : ∀ u ∈ bc l, u.oneCell' = true := by
  intro u hu
  obtain ⟨_, _, rfl⟩ := List.mem_map.1 hu
  rfl
theorem u8info : (Try.prog.info? 5).map (fun i => (i.zero, i.size, i.bytes)) = some (some (.int .u8 0), 1, 1) := by kernel_rfl
/-- A row of one byte that was just made. -/
theorem cell_new1 (wr : World) (x : Int) (b : UInt8) (hx : (b.toNat : Int) = x) :
    ∀ j u, (bc [b])[j]? = some u → (wr.alloc (.cells #[.int .u8 x] 5)).cell? ((⟨wr.heap.size, 0, none⟩ : Addr).add j) = some u := by
  intro j u hu
  rcases j with _ | j
  · simp [bc] at hu
    subst hu
    rw [hx]
    exact (cell_one_new _ _ _) 0 _ rfl
  · simp [bc] at hu
/-- What a call leaves that gives a new row of bytes: the row, and all that was there as it was. -/
def OwnRet (w : World) (l : List UInt8) (e : Ending) (w' : World) : Prop :=
  ∃ v, e = .returned v ∧ w'.ownsRow w.heap.size 5 1 v l.length (bc l) ∧ Below w.heap.size w w'
/-- A slice that reads l, in a row of bytes of the program's own. -/
def RSl (w : World) (v : Value) (l : List UInt8) : Prop :=
  (v = .slice none 0 0 ∧ l = []) ∨
  ∃ g o c cur, v = .slice (some ⟨g, o, none⟩) l.length c ∧ l.length ≤ c ∧ c ≤ maxLen ∧ w.heap[g]? = some (.cells cur 5 (0, 0)) ∧ (cur.toList.drop o).take l.length = bc l
theorem RSl.keep {w w' : World} {v : Value} {l : List UInt8} (h : RSl w v l) (hk : ∀ (k : Nat) (cur : Array Value), w.heap[k]? = some (.cells cur 5 (0, 0)) → w'.heap[k]? = w.heap[k]?) : RSl w' v l := by
  rcases h with h | ⟨g, o, c, cur, h1, h2, h3, h4, h5⟩
  · exact .inl h
  · exact .inr ⟨g, o, c, cur, h1, h2, h3, (hk g cur h4).trans h4, h5⟩
theorem RSl.of_own {w : World} {base : Nat} {v : Value} {l : List UInt8} (h : w.ownsRow base 5 1 v l.length (bc l)) : RSl w v l := by
  rcases h.2 with ⟨rfl, h0⟩ | ⟨g, cap, cur, rfl, _, hg, hn, hm, hs, ht⟩
  · exact .inl ⟨rfl, List.eq_nil_of_length_eq_zero h0⟩
  · exact .inr ⟨g, 0, cap, cur, rfl, hn, hm, hg, by simpa using ht⟩
theorem RSl_cells {w : World} {g o : Nat} {cur : Array Value} {l : List UInt8} (hg : w.heap[g]? = some (.cells cur 5 (0, 0))) (ht : (cur.toList.drop o).take l.length = bc l) :
    ∀ j (h : j < l.length), w.cell? ⟨g, o + j, none⟩ = some (.int .u8 l[j].toNat) := by
  intro j h
  rw [cell_of_row w g (o + j) cur _ (0, 0) hg]
  have e : (bc l)[j]? = some (.int .u8 l[j].toNat) := by simp [bc, h]
  rw [← ht, List.getElem?_take, if_pos h, List.getElem?_drop] at e
  simpa using e
/-- Where a slice begins whose first q bytes are cut off. -/
def cutA (g o c q : Nat) : Option Addr := if c = q then some ⟨g, o, none⟩ else some ⟨g, o + q, none⟩
theorem run_cut (g o n c q : Nat) (hq : q ≤ n) (hn : n ≤ c) (w : World) :
    (Instr.slice 48 (.slice (some ⟨g, o, none⟩) n c) (some (.int .i64 (q : Int))) none none).run Try.prog w = .ok (.slice (cutA g o c q) (n - q) (c - q)) w := by
  have hz : (Go.sizeOf 5).run Try.prog w = .ok 1 w := by
    obtain ⟨i0, hi0, _, hz1, _⟩ := info_parts u8info
    simp [Go.sizeOf, typeInfo, hi0, hz1]
  have ht' : Try.prog.underlying 48 = some (.slice (Try.prog.elem 48)) := by simp [Program.elem, Try.underlying48]
  have he : Try.prog.elem 48 = 5 := by simp [Program.elem, Try.underlying48]
  rw [run_slice_l w _ _ _ _ ht' .i64 _ (by omega) (by omega), he, hz]
  by_cases h : c = q
  · simp [Result.andThen, sliced, cutA, h]
  · by_cases h0 : q = 0
    · subst h0
      simp [Result.andThen, sliced, cutA, h, Addr.add]
    · simp [Result.andThen, sliced, cutA, h, h0, Addr.add]
theorem RSl_cut {w : World} {g o c : Nat} {cur : Array Value} {l : List UInt8} (h1 : l.length ≤ c) (h2 : c ≤ maxLen) (hg : w.heap[g]? = some (.cells cur 5 (0, 0))) (ht : (cur.toList.drop o).take l.length = bc l) (q : Nat) (hq : q ≤ l.length) :
    RSl w (.slice (cutA g o c q) (l.length - q) (c - q)) (l.drop q) := by
  have hl : (l.drop q).length = l.length - q := by simp
  by_cases h : c = q
  · refine .inr ⟨g, o, c - q, cur, ?_, by omega, by omega, hg, ?_⟩
    · unfold cutA; rw [if_pos h, hl]
    · have e : l.drop q = [] := List.drop_eq_nil_of_le (by omega)
      rw [e]
      simp [bc]
  · refine .inr ⟨g, o + q, c - q, cur, ?_, by omega, by omega, hg, ?_⟩
    · unfold cutA; rw [if_neg h, hl]
    · rw [hl]
      have e : bc (l.drop q) = (bc l).drop q := by simp [bc]
      rw [e, ← ht, List.drop_take, List.drop_drop]
/-- Bytes as a string. -/
def bs (l : List UInt8) : ByteArray := ⟨l.toArray⟩
theorem conv_cells (w : World) (g o n c : Nat) (l : List UInt8) (hl : l.length = n) (hc : ∀ j (h : j < l.length), w.cell? ⟨g, o + j, none⟩ = some (.int .u8 l[j].toNat)) :
    (convert 48 9 (.slice (some ⟨g, o, none⟩) n c)).run Try.prog w = .ok (.string (bs l)) w := by
  have h := run_convert_bytes_arg (P := Try.prog) w 48 5 Try.underlying48 Try.underlying5 g o n c (l.map fun b => (b.toNat : Int)) (by simpa using hl) (fun i hi => by
    rw [hc i (by omega)]
    simp [List.getD, List.getElem?_eq_getElem (show i < l.length by omega)]) 9 Try.underlying9
  refine h.trans (congrArg (fun s => Result.ok (Value.string s) w) ?_)
  unfold strOfNums bs
  refine congrArg (fun x : List UInt8 => ByteArray.mk x.toArray) ?_
  rw [List.map_map]
  conv => rhs; rw [← List.map_id l]
  apply List.map_congr_left
  intro x _
  simp
theorem conv_any (w : World) (v : Value) (l : List UInt8) (h : RSl w v l) : (convert 48 9 v).run Try.prog w = .ok (.string (bs l)) w := by
  rcases h with ⟨rfl, rfl⟩ | ⟨g, o, c, cur, rfl, _, _, hg, ht⟩
  · exact run_convert_bytes_nil w 48 5 Try.underlying48 Try.underlying5 0 0 9 Try.underlying9
  · exact conv_cells w g o l.length c l rfl (RSl_cells hg ht)
theorem run_head (g o n c q : Nat) (hq : q ≤ c) (w : World) :
    (Instr.slice 48 (.slice (some ⟨g, o, none⟩) n c) none (some (.int .i64 (q : Int))) none).run Try.prog w = .ok (.slice (some ⟨g, o, none⟩) q c) w := by
  have hz : (Go.sizeOf 5).run Try.prog w = .ok 1 w := by
    obtain ⟨i0, hi0, _, hz1, _⟩ := info_parts u8info
    simp [Go.sizeOf, typeInfo, hi0, hz1]
  have ht' : Try.prog.underlying 48 = some (.slice (Try.prog.elem 48)) := by simp [Program.elem, Try.underlying48]
  have he : Try.prog.elem 48 = 5 := by simp [Program.elem, Try.underlying48]
  rw [run_slice_h w _ _ _ _ ht' .i64 _ (by omega) (by omega), he, hz]
  simp [Result.andThen, sliced, Addr.add]
theorem RSl_head {w : World} {g o c : Nat} {cur : Array Value} {l : List UInt8} (h1 : l.length ≤ c) (h2 : c ≤ maxLen) (hg : w.heap[g]? = some (.cells cur 5 (0, 0))) (ht : (cur.toList.drop o).take l.length = bc l) (q : Nat) (hq : q ≤ l.length) :
    RSl w (.slice (some ⟨g, o, none⟩) q c) (l.take q) := by
  have hl : (l.take q).length = q := by simp; omega
  refine .inr ⟨g, o, c, cur, by rw [hl], by omega, h2, hg, ?_⟩
  rw [hl]
  have e : bc (l.take q) = (bc l).take q := by simp [bc]
  rw [e, ← ht, List.take_take, Nat.min_eq_left hq]
/-- What can be read of a slice that was handed in: its bytes, wherever they lie. -/
def Hnd (w : World) (v : Value) (l : List UInt8) : Prop :=
  ∃ A c, v = .slice A l.length c ∧ (A = none → l = []) ∧ ∀ ad, A = some ad → ∀ j u, (bc l)[j]? = some u → w.cell? (ad.add j) = some u
theorem Hnd.of_RSl {w : World} {v : Value} {l : List UInt8} (h : RSl w v l) : Hnd w v l := by
  rcases h with ⟨rfl, rfl⟩ | ⟨g, o, c, cur, rfl, _, _, hg, ht⟩
  · exact ⟨none, 0, rfl, fun _ => rfl, (by intro ad h; cases h)⟩
  · refine ⟨_, c, rfl, (by intro h; cases h), ?_⟩
    intro ad had j u hu
    injection had with had
    subst had
    have hj : j < l.length := by
      have := (List.getElem?_eq_some_iff.1 hu).1
      simpa [bc] using this
    rw [Addr.add_lit, RSl_cells hg ht j hj]
    simpa [bc, hj] using hu
theorem RSl.alloc {w : World} {v : Value} {l : List UInt8} (h : RSl w v l) (o : Obj) : RSl (w.alloc o) v l :=
  h.keep fun k cur hk => Below.heap_alloc w o k (Array.getElem?_eq_some_iff.1 hk).1
theorem RSl.below {w w' : World} {v : Value} {l : List UInt8} (h : RSl w v l) (hb : Below w.heap.size w w') : RSl w' v l :=
  h.keep fun k cur hk => hb.block k (Array.getElem?_eq_some_iff.1 hk).1
/-- Bytes that were just laid out as a row. -/
theorem Hnd.new (w : World) (l : List UInt8) (cs : Array Value) (n c : Nat) (hn : l.length = n) (h : cs.toList = bc l) : Hnd (w.alloc (.cells cs 5)) (.slice (some ⟨w.heap.size, 0, none⟩) n c) l := by
  subst hn
  refine ⟨_, c, rfl, (by intro h; cases h), ?_⟩
  intro ad had j u hu
  injection had with had
  subst had
  rw [Addr.add_lit, Nat.zero_add, cell_of_row _ w.heap.size j cs _ (0, 0) (heap_alloc_new w _)]
  rw [← h] at hu
  simpa using hu
theorem own_base {w : World} {base base' : Nat} {v : Value} {n : Nat} {xs : List Value} (h : w.ownsRow base 5 1 v n xs) (hb : base' ≤ base) : w.ownsRow base' 5 1 v n xs := by
  refine ⟨h.1, ?_⟩
  rcases h.2 with h0 | ⟨g, cap, cur, h1, h2, h3⟩
  · exact .inl h0
  · exact .inr ⟨g, cap, cur, h1, by omega, h3⟩
theorem own_below {w w' : World} {base : Nat} {v : Value} {n : Nat} {xs : List Value} (h : w.ownsRow base 5 1 v n xs) (hb : Below w.heap.size w w') : w'.ownsRow base 5 1 v n xs := by
  refine ⟨h.1, ?_⟩
  rcases h.2 with h0 | ⟨g, cap, cur, h1, h2, h3, h4⟩
  · exact .inl h0
  · exact .inr ⟨g, cap, cur, h1, h2, (hb.block g (Array.getElem?_eq_some_iff.1 h3).1).trans h3, h4⟩
theorem own_new1 (w : World) (B : Nat) (hB : B ≤ w.heap.size) (x : Int) (b : UInt8) (hx : (b.toNat : Int) = x) :
    (w.alloc (.cells #[.int .u8 x] 5)).ownsRow B 5 1 (.slice (some ⟨w.heap.size, 0, none⟩) 1 1) 1 (bc [b]) :=
  ⟨rfl, .inr ⟨w.heap.size, 1, _, rfl, hB, heap_alloc_new w _, Nat.le_refl _, by decide, rfl, by subst hx; rfl⟩⟩
/-- A row that is not empty has an address. -/
theorem own_some {w : World} {base : Nat} {v : Value} {l : List UInt8} (h : w.ownsRow base 5 1 v l.length (bc l)) (hl : 0 < l.length) :
    ∃ g cap, v = .slice (some ⟨g, 0, none⟩) l.length cap ∧ base ≤ g ∧ ∀ j u, (bc l)[j]? = some u → w.cell? ((⟨g, 0, none⟩ : Addr).add j) = some u := by
  rcases h.2 with ⟨_, h0⟩ | ⟨g, cap, cur, rfl, hb, _⟩
  · omega
  · exact ⟨g, cap, rfl, hb, h.cells (g := g) rfl⟩
theorem bytesWorld_below (w : World) (s : ByteArray) : Below w.heap.size w (Lib.bytesWorld w 5 s) :=
  ⟨rfl, rfl, rfl, by rw [Lib.bytesWorld_size]; omega, fun k hk => Lib.bytesWorld_at_old w _ s k hk⟩
/-- A slice of integers that came in: nil, or a row of 'cap' numbers, of which the first 'len' are its elements. -/
def IsRow (k : IntKind) (w : World) (a : Option Addr) (len cap : Nat) (zs : List Int) : Prop :=
  (a = none ∧ len = 0 ∧ cap = 0 ∧ zs = []) ∨
  ∃ x, a = some x ∧ len ≤ cap ∧ cap ≤ maxLen ∧ zs.length = cap ∧ (∀ i, i < zs.length → w.cell? (x.add i) = some (.int k (zs.getD i 0))) ∧ ∀ n ∈ zs, (Lit.int k n).wf = true
/-- A slice of strings that came in. -/
def IsStrs (w : World) (a : Option Addr) (len cap : Nat) (zs : List ByteArray) : Prop :=
  (a = none ∧ len = 0 ∧ cap = 0 ∧ zs = []) ∨
  ∃ x, a = some x ∧ len ≤ cap ∧ cap ≤ maxLen ∧ zs.length = cap ∧ (∀ i, i < zs.length → w.cell? (x.add i) = some (.string (zs.getD i ByteArray.empty))) ∧ ∀ s ∈ zs, s.size ≤ maxLen
/-- The bytes of a row of numbers. -/
def rowBytes (zs : List Int) (len : Nat) : List UInt8 := (zs.take len).map fun z => b8 z.toNat
/-- Bytes that came in: how long they are, where they lie. -/
structure ByteArg (w : World) (a : Option Addr) (len cap : Nat) (l : List UInt8) : Prop where
  leq : l.length = len
  ceq : len ≤ cap
  most : cap ≤ maxLen
  hnd : Hnd w (.slice a len cap) l
  lit : 0 < len → ∃ b o, a = some ⟨b, o, none⟩ ∧ ∀ j (h : j < l.length), w.cell? ⟨b, o + j, none⟩ = some (.int .u8 l[j].toNat)
theorem ByteArg.of_row {w : World} {a : Option Addr} {len cap : Nat} {zs : List Int} (h : IsRow .u8 w a len cap zs) : ByteArg w a len cap (rowBytes zs len) := by
  rcases h with ⟨rfl, rfl, rfl, rfl⟩ | ⟨x, rfl, hl, hm, hz, hcell, hwf⟩
  · exact ⟨rfl, Nat.le_refl _, Nat.zero_le _, ⟨none, 0, rfl, fun _ => rfl, (by intro ad h; cases h)⟩, by intro h; omega⟩
  · have hlen : (rowBytes zs len).length = len := by simp [rowBytes]; omega
    have hc : ∀ j (h : j < (rowBytes zs len).length), w.cell? (x.add j) = some (.int .u8 (rowBytes zs len)[j].toNat) := by
      intro j h
      have hj : j < zs.length := by omega
      have e := hcell j hj
      have b := bounds_u8 (hwf zs[j] (List.getElem_mem hj))
      rw [e]
      simp only [List.getD, List.getElem?_eq_getElem hj, Option.getD_some, rowBytes, List.getElem_map, List.getElem_take]
      rw [b8_toNat _ (by omega)]
      congr 2
      omega
    refine ⟨hlen, hl, hm, ⟨some x, cap, by rw [hlen], (by intro h; cases h), ?_⟩, ?_⟩
    · intro ad had j u hu
      injection had with had
      subst had
      have hj : j < (rowBytes zs len).length := by
        have := (List.getElem?_eq_some_iff.1 hu).1
        simpa [bc] using this
      rw [hc j hj]
      simpa [bc, hj] using hu
    · intro hp
      obtain ⟨b, o, spot⟩ := x
      have h0 := hc 0 (by omega)
      have hspot : spot = none := by simpa [Addr.add] using World.cell?_spot h0
      subst hspot
      refine ⟨b, o, rfl, fun j h => ?_⟩
      have := hc j h
      rwa [Addr.add_lit] at this
theorem Hnd.below {w w' : World} {v : Value} {l : List UInt8} (h : Hnd w v l) (hb : Below w.heap.size w w') : Hnd w' v l := by
  obtain ⟨A, c, h1, h2, h3⟩ := h
  refine ⟨A, c, h1, h2, fun ad had j u hu => ?_⟩
  have := h3 ad had j u hu
  exact (hb.cell (World.block_lt_of_cell? w _ this)).trans this
theorem cells_below {w w' : World} {b o : Nat} {l : List UInt8} (h : ∀ j (h : j < l.length), w.cell? ⟨b, o + j, none⟩ = some (.int .u8 l[j].toNat)) (hb : Below w.heap.size w w') :
    ∀ j (h : j < l.length), w'.cell? ⟨b, o + j, none⟩ = some (.int .u8 l[j].toNat) := fun j hj =>
  (hb.cell (World.block_lt_of_cell? w _ (h j hj))).trans (h j hj)
theorem cells_take {w : World} {b o : Nat} {l : List UInt8} (h : ∀ j (h : j < l.length), w.cell? ⟨b, o + j, none⟩ = some (.int .u8 l[j].toNat)) (q : Nat) :
    ∀ j (h : j < (l.take q).length), w.cell? ⟨b, o + j, none⟩ = some (.int .u8 (l.take q)[j].toNat) := by
  intro j hj
  have hj' : j < l.length := by rw [List.length_take] at hj; omega
  rw [h j hj']
  simp
theorem conv_zero (A : Option Addr) (c : Nat) (w : World) : (convert 48 9 (.slice A 0 c)).run Try.prog w = .ok (.string (bs [])) w := by
  rcases A with _ | a
  · exact run_convert_bytes_nil w 48 5 Try.underlying48 Try.underlying5 0 c 9 Try.underlying9
  · rw [run_convert_bytes_string w 48 9 5 _ 0 c Try.underlying48 Try.underlying5 Try.underlying9, run_bytesToString w a 0 c [] (by simp [loadCells, loadCellsFrom])]
    rfl
/-- What can be read as bytes is converted to a string. -/
theorem conv_hnd {w : World} {v : Value} {l : List UInt8} (h : Hnd w v l) : (convert 48 9 v).run Try.prog w = .ok (.string (bs l)) w := by
  obtain ⟨A, c, rfl, h2, h3⟩ := h
  rcases l with _ | ⟨x, t⟩
  · exact conv_zero A c w
  · rcases A with _ | ad
    · have := h2 rfl
      cases this
    · have hc : ∀ j (h : j < (x :: t).length), w.cell? (ad.add j) = some (.int .u8 (x :: t)[j].toNat) := fun j h => h3 ad rfl j _ (by unfold bc; rw [List.getElem?_map, List.getElem?_eq_getElem h]; rfl)
      obtain ⟨b, o, spot⟩ := ad
      have h0 := hc 0 (by simp)
      have hspot : spot = none := by simpa [Addr.add] using World.cell?_spot h0
      subst hspot
      exact conv_cells w b o _ c _ rfl (fun j h => by have := hc j h; rwa [Addr.add_lit] at this)
end Go.Proofs.Ytcckamajiebgeaa
