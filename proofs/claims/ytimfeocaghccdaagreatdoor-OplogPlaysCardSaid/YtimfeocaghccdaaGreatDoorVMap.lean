/-
  A map from ints to whatever values, in memory: what is looked up and put is what the list of its entries has. No conditions beyond those that each statement bears.
-/
import Derived.Test.YtimfeocaghccdaaGreatDoorTMap
import Derived.Lib.SlKeysI
namespace Go.Proofs.YtimfeocaghccdaaGreatDoor
open Go.RowKit Go.Maps
open Go.WideElems (Fit rd rg rd_key rd_val rg_of)
open Go.ChangeMaps (notKey putKey delKey eq_of_perm_sorted)
open Go.WideShapes (sorted_perm)
set_option linter.unusedVariables false
set_option maxRecDepth 100000

/-- How any value reads: as itself. -/
def anyE (v : Value) : Option (DataW Value × List MemPlace) := some (.held v, [])
abbrev VL := List (Int × Value)
def entV (k : Int × Value) : Lit × DataW Value := (.int .i64 k.1, .held k.2)
def dOfV (m : VL) : DataW Value := .map ((m.map entV).foldr DataW.insert [])
structure OkV (m : VL) : Prop where
  one : (m.map (·.1)).Nodup
  in64 : ∀ k ∈ m, i64B k.1
/-- Put in, or in the place of what was there. -/
def putV (m : VL) (n : Int) (v : Value) : VL := m.filter (fun k => k.1 != n) ++ [(n, v)]
/-- What is there. -/
def fndV (m : VL) (n : Int) : Option Value := (m.find? fun k => k.1 == n).map (·.2)
theorem OkV.nil : OkV [] := ⟨List.nodup_nil, by simp⟩
theorem OkV.putV {m : VL} (h : OkV m) {n : Int} (hn : i64B n) (v : Value) : OkV (Proofs.YtimfeocaghccdaaGreatDoor.putV m n v) := by
  constructor
  · unfold Proofs.YtimfeocaghccdaaGreatDoor.putV
    rw [List.map_append, List.nodup_append]
    refine ⟨(h.one.sublist (List.Sublist.map _ List.filter_sublist)), by simp, ?_⟩
    intro a ha b hb e
    simp at hb
    subst hb
    subst e
    obtain ⟨k, hk, rfl⟩ := List.mem_map.1 ha
    have := (List.mem_filter.1 hk).2
    simp at this
  · intro k hk
    unfold Proofs.YtimfeocaghccdaaGreatDoor.putV at hk
    rcases List.mem_append.1 hk with hk | hk
    · exact h.in64 k (List.mem_filter.1 hk).1
    · simp at hk
      subst hk
      exact hn
theorem fndV_put (m : VL) (n : Int) (v : Value) (x : Int) : fndV (putV m n v) x = if x = n then some v else fndV m x := by
  unfold fndV putV
  rw [List.find?_append]
  by_cases e : x = n
  · subst e
    have h1 : (m.filter fun k => k.1 != x).find? (fun k => k.1 == x) = none := by
      rw [List.find?_eq_none]
      intro k hk
      have := (List.mem_filter.1 hk).2
      simpa using this
    rw [h1]
    simp
  · have h1 : (m.filter fun k => k.1 != n).find? (fun k => k.1 == x) = m.find? (fun k => k.1 == x) := by
      rw [List.find?_filter]
      congr 1
      funext k
      by_cases e' : k.1 = x
      · have : k.1 ≠ n := fun h => e (e'.symm.trans h)
        simp [e', e]
      · simp [e']
    rw [h1, if_neg e]
    have h2 : ([(n, v)] : VL).find? (fun k => k.1 == x) = none := by
      simp
      exact fun h => e h.symm
    rw [h2]
    simp
theorem keysV_put (m : VL) (n : Int) (v : Value) (x : Int) : x ∈ (putV m n v).map (·.1) ↔ x ∈ m.map (·.1) ∨ x = n := by
  unfold putV
  simp only [List.map_append, List.mem_append, List.mem_map, List.mem_filter]
  constructor
  · rintro (⟨k, ⟨h1, h2⟩, rfl⟩ | ⟨k, h1, rfl⟩)
    · exact .inl ⟨k, h1, rfl⟩
    · simp at h1
      exact .inr (by rw [h1])
  · rintro (⟨k, h1, rfl⟩ | rfl)
    · by_cases e : k.1 = n
      · exact .inr ⟨(n, v), by simp, e.symm⟩
      · exact .inl ⟨k, ⟨h1, by simpa using e⟩, rfl⟩
    · exact .inr ⟨(x, v), by simp, rfl⟩
theorem fndV_mem {m : VL} (h : (m.map (·.1)).Nodup) {k : Int × Value} (hk : k ∈ m) : fndV m k.1 = some k.2 := by
  induction m with
  | nil => simp at hk
  | cons a m ih =>
    simp only [List.map_cons, List.nodup_cons] at h
    unfold fndV
    rcases List.mem_cons.1 hk with rfl | hk'
    · simp
    · have : a.1 ≠ k.1 := fun e => h.1 (List.mem_map.2 ⟨k, hk', e.symm⟩)
      rw [List.find?_cons_of_neg (by simpa using this)]
      exact ih h.2 hk'
theorem fndV_none {m : VL} {x : Int} (h : fndV m x = none) : ∀ k ∈ m, k.1 ≠ x := by
  unfold fndV at h
  rw [Option.map_eq_none_iff, List.find?_eq_none] at h
  intro k hk
  simpa using h k hk
theorem entV_keys {m : VL} (h : OkV m) : Keys (KeysOf Tryz.prog 3) (m.map entV) := by
  intro p hp
  obtain ⟨k, hk, rfl⟩ := List.mem_map.1 hp
  exact ⟨_, keyI (h.in64 k hk)⟩
theorem entV_apart : ∀ {m : VL}, (m.map (·.1)).Nodup → (m.map entV).Pairwise (fun p q => p.1 ≠ q.1)
  | [], _ => List.Pairwise.nil
  | x :: m, h => by
    simp only [List.map_cons, List.nodup_cons] at h
    refine List.pairwise_cons.2 ⟨fun p hp e => h.1 ?_, entV_apart h.2⟩
    obtain ⟨k, hk, rfl⟩ := List.mem_map.1 hp
    simp [entV] at e
    exact List.mem_map.2 ⟨k, hk, e.symm⟩
theorem entV_filter (m : VL) (n : Int) : (m.map entV).filter (notKey (.int .i64 n)) = (m.filter fun k => k.1 != n).map entV := by
  rw [List.filter_map]
  congr 1
  apply List.filter_congr
  intro k _
  by_cases e : k.1 = n <;> simp [notKey, entV, Lit.sameKey, e]
theorem dOfV_put {m : VL} (h : OkV m) {n : Int} (hn : i64B n) (v : Value) : (dOfV m).put (.int .i64 n) (.held v) = dOfV (putV m n v) := by
  unfold dOfV
  rw [DataW.put_eq]
  congr 1
  symm
  refine sorted_put law.one ⟨_, keyI hn⟩ (entV_keys h) (entV_apart h.one) ?_
  rw [entV_filter]
  unfold putV
  rw [List.map_append]
  exact List.perm_append_singleton _ _
/-- Block b is a map that has these entries. -/
def MpV (w : World) (b : Nat) (m : VL) : Prop := w.ownsMap Tryz.prog 3 anyE b m.length (dOfV m)
theorem size_dOfV (m : VL) : Maps.size (dOfV m) = m.length := by
  unfold dOfV
  rw [Maps.size_eq, length_sorted, List.length_map]
theorem MpV.of {w : World} {b n : Nat} {m : VL} (h : w.ownsMap Tryz.prog 3 anyE b n (dOfV m)) : MpV w b m := by
  obtain ⟨es, clock, hb, F, hs, hD⟩ := h
  refine ⟨es, clock, hb, F, ?_, hD⟩
  have := congrArg Maps.size hD
  rw [size_dOfV, Maps.size_eq, length_sorted] at this
  simp at this
  omega
theorem MpV.perm {m : VL} {es : Array MapEntry} (hD : dOfV m = .map ((es.toList.map (rg Tryz.prog 3 anyE)).foldr DataW.insert [])) : (m.map entV).Perm (es.toList.map (rg Tryz.prog 3 anyE)) := by
  unfold dOfV at hD
  injection hD with hD
  exact (sorted_perm _).symm.trans (hD ▸ sorted_perm _)
theorem intKeys_dOfV (m : VL) : (intKeys (dOfV m)).Perm (m.map (·.1)) := by
  unfold dOfV
  show (List.map _ _).Perm _
  have h := (sorted_perm (m.map entV)).map (fun p : Lit × DataW Value => intOf p.1)
  refine h.trans ?_
  rw [List.map_map]
  exact List.Perm.of_eq (List.map_congr_left fun k _ => rfl)
/-- What is looked up, in a map of spots. -/
theorem MpV.look {w : World} {b : Nat} {m : VL} (h : MpV w b m) (hL : OkV m) (x : Int) (hx : i64B x) :
    (Instr.lookup 89 (.map (some b)) (.int .i64 x) false).run Tryz.prog w = .ok ((fndV m x).getD (spv none)) w := by
  obtain ⟨es, clock, hb, F, hs, hD⟩ := h
  have hp := MpV.perm hD
  rcases Maps.fit_look false law Tryz.underlying89 (zeroSpot w) hb F (keyI hx) with ⟨hrun, hno, _⟩ | ⟨e0, y, he0, hkey0, hrun, hR, _, _⟩
  · rw [hrun]
    have : fndV m x = none := by
      cases e : fndV m x with
      | none => rfl
      | some v =>
        unfold fndV at e
        rw [Option.map_eq_some_iff] at e
        obtain ⟨k, h1, h2⟩ := e
        have h3 := List.mem_of_find?_eq_some h1
        have h4 := List.find?_some h1
        simp at h4
        have hm := hp.mem_iff.1 (List.mem_map.2 ⟨k, h3, rfl⟩)
        obtain ⟨e1, he1, heq⟩ := List.mem_map.1 hm
        obtain ⟨y, hy⟩ := F.reads e1 he1
        have k1 := rd_key hy
        rw [rg_of hy] at heq
        rw [heq] at k1
        obtain ⟨x', hx1, hx2, _⟩ := Maps.keyOf_int_inv Tryz.underlying3 k1
        simp [entV] at hx2
        exact absurd (by rw [hx1, ← hx2, h4]) (hno e1 he1)
    rw [this]
    rfl
  · rw [hrun]
    obtain ⟨y', hy'⟩ := F.reads e0 he0
    have hm := hp.mem_iff.2 (List.mem_map.2 ⟨e0, he0, rfl⟩)
    obtain ⟨k, hk, hke⟩ := List.mem_map.1 hm
    rw [rg_of hy'] at hke
    have k1 := rd_key hy'
    rw [hkey0, keyI hx] at k1
    injection k1 with k1
    obtain ⟨z, hz, hz2⟩ := rd_val hy'
    rw [hz] at hR
    cases hR
    cases hz
    have e1 : k.1 = x := by
      have := congrArg Prod.fst hke
      rw [← k1] at this
      simpa [entV] using this
    have e2 : k.2 = e0.val := by
      have := congrArg Prod.snd hke
      rw [hz2] at this
      simpa [entV] using this
    rw [← e1, fndV_mem hL.one hk, if_neg (by simp), e2]
    rfl
theorem MpV.lt {w : World} {b : Nat} {m : VL} (h : MpV w b m) : b < w.heap.size := World.ownsMap.lt h
theorem MpV.kept {w w' : World} {b : Nat} {m : VL} (h : MpV w b m) (hk : w'.heap[b]? = w.heap[b]?) : MpV w' b m := by
  obtain ⟨es, clock, hb, r⟩ := h
  exact ⟨es, clock, hk.trans hb, r⟩
theorem MpV.new (w : World) : MpV (w.alloc (.map #[] 0)) w.heap.size [] := World.ownsMap_made w Tryz.prog 3 anyE
end Go.Proofs.YtimfeocaghccdaaGreatDoor
