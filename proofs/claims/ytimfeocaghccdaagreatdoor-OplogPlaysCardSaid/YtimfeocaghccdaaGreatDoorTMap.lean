/-
  A tree's spots as a map in memory: what is looked up, put, taken out, and gone through, is what the tree as a list has. No conditions beyond those that each statement bears.
-/
import Derived.Test.YtimfeocaghccdaaGreatDoorTPure
import Derived.Maps.RangeWalk
import Derived.Test.YtimfeocaghccdaaGreatDoorBase
namespace Go.Proofs.YtimfeocaghccdaaGreatDoor
set_option maxRecDepth 100000
open Go.RowKit Go.Maps
open Go.WideElems (Fit rd rg rd_key rd_val rg_of)
open Go.ChangeMaps (notKey putKey delKey eq_of_perm_sorted)
open Go.WideShapes (sorted_perm)
set_option linter.unusedVariables false
set_option maxRecDepth 100000

/-- A spot as a value; zeros: there is none. -/
def spI (s : Option Kd) : Bool := s.isSome
def spT (s : Option Kd) : Int := (s.map (·.to)).getD 0
def spN (s : Option Kd) : List UInt8 := (s.map (·.nm)).getD []
def spv (s : Option Kd) : Value := .agg #[.bool (spI s), .int .i64 (spT s), .string (bs (spN s))]
/-- How a spot that is somewhere reads. -/
def spotElem (v : Value) : Option (DataW Unit × List MemPlace) := match v with
  | .agg cs => match cs.toList with
    | [.bool true, .int .i64 t, .string s] => some (.agg [.lit (.int .i64 t), .lit (.string s.data.toList)], [])
    | _ => none
  | _ => none
theorem spotElem_mk (k : Kd) : spotElem (spv (some k)) = some (.agg [.lit (.int .i64 k.to), .lit (.string k.nm)], []) := by
  simp [spotElem, spv, bs, spI, spT, spN]
theorem spotElem_inv {v : Value} {y : DataW Unit × List MemPlace} (h : spotElem v = some y) : ∃ (t : Int) (l : List UInt8), v = .agg #[.bool true, .int .i64 t, .string (bs l)] ∧ y.1 = .agg [.lit (.int .i64 t), .lit (.string l)] := by
  unfold spotElem at h
  split at h
  · rename_i cs
    split at h
    · rename_i t s hcs
      cases h
      refine ⟨t, s.data.toList, ?_, rfl⟩
      have e1 : cs = #[.bool true, .int .i64 t, .string s] := by
        apply Array.toList_inj.1
        rw [hcs]
      have e2 : bs s.data.toList = s := by cases s; simp [bs]
      rw [e1, e2]
    · cases h
  · cases h
/-- An entry of the map. -/
def ent (k : Kd) : Lit × DataW Unit := (.int .i64 k.nd, .agg [.lit (.int .i64 k.to), .lit (.string k.nm)])
theorem ent_inj {a b : Kd} (h : ent a = ent b) : a = b := by
  cases a; cases b
  simp [ent] at h
  simp [h]
def dOf (L : List Kd) : DataW Unit := .map ((L.map ent).foldr DataW.insert [])
/-- Numbers of the machine's. -/
def i64B (n : Int) : Prop := -9223372036854775808 ≤ n ∧ n ≤ 9223372036854775807
theorem wfI {n : Int} (h : i64B n) : (Lit.int .i64 n).wf = true := WalkArith.wf_i64 (by unfold i64B at h; omega)
theorem law : Keyed Tryz.prog 3 := int_keyed Tryz.underlying3
theorem keyI {n : Int} (h : i64B n) : keyOf Tryz.prog 3 (.int .i64 n) = some (.int .i64 n) := keyOf_int_mk Tryz.underlying3 (wfI h)
/-- Nodes of which each is there once, all of the machine's numbers. -/
structure Ok (L : List Kd) : Prop where
  one : (L.map (·.nd)).Nodup
  in64 : ∀ k ∈ L, i64B k.nd
theorem Wf.ok {L : List Kd} (h : Wf L) : Ok L := ⟨h.one, fun k hk => by have := h.lo k hk; unfold i64B; omega⟩
theorem Ok.perm {L M : List Kd} (h : Ok L) (p : L.Perm M) : Ok M := ⟨(p.map _).nodup_iff.1 h.one, fun k hk => h.in64 k (p.mem_iff.2 hk)⟩
theorem Ok.putS {L : List Kd} (h : Ok L) {n : Int} (hn : i64B n) (s : Option Kd) (hs : ∀ k, s = some k → k.nd = n) : Ok (Proofs.YtimfeocaghccdaaGreatDoor.putS L n s) :=
  ⟨putS_one h.one n s hs, fun k hk => by
    rcases mem_putS hk with hk | hk
    · exact h.in64 k hk
    · rw [hs k hk]; exact hn⟩
theorem ent_keys {L : List Kd} (h : Ok L) : Keys (KeysOf Tryz.prog 3) (L.map ent) := by
  intro p hp
  obtain ⟨k, hk, rfl⟩ := List.mem_map.1 hp
  exact ⟨_, keyI (h.in64 k hk)⟩
theorem ent_apart : ∀ {L : List Kd}, (L.map (·.nd)).Nodup → (L.map ent).Pairwise (fun p q => p.1 ≠ q.1)
  | [], _ => List.Pairwise.nil
  | x :: L, h => by
    simp only [List.map_cons, List.nodup_cons] at h
    refine List.pairwise_cons.2 ⟨fun p hp e => h.1 ?_, ent_apart h.2⟩
    obtain ⟨k, hk, rfl⟩ := List.mem_map.1 hp
    simp [ent] at e
    exact List.mem_map.2 ⟨k, hk, e.symm⟩
theorem dOf_perm {L M : List Kd} (h : Ok L) (p : L.Perm M) : dOf L = dOf M := by
  have h' := h.perm p
  unfold dOf
  congr 1
  exact eq_of_perm_sorted ((sorted_perm _).trans ((p.map _).trans (sorted_perm _).symm)) (sorted_sorted law.one _ (ent_keys h) (ent_apart h.one)) (sorted_sorted law.one _ (ent_keys h') (ent_apart h'.one))
theorem ent_filter (L : List Kd) (n : Int) : (L.map ent).filter (notKey (.int .i64 n)) = (L.filter fun k => k.nd != n).map ent := by
  rw [List.filter_map]
  congr 1
  apply List.filter_congr
  intro k _
  by_cases e : k.nd = n <;> simp [notKey, ent, Lit.sameKey, e]
theorem dOf_put {L : List Kd} (h : Ok L) {k : Kd} (hk : i64B k.nd) : (dOf L).put (.int .i64 k.nd) (ent k).2 = dOf (putS L k.nd (some k)) := by
  unfold dOf
  rw [DataW.put_eq]
  congr 1
  symm
  refine sorted_put law.one ⟨_, keyI hk⟩ (ent_keys h) (ent_apart h.one) ?_
  rw [ent_filter]
  unfold putS
  rw [List.map_append]
  exact List.perm_append_singleton _ _
theorem dOf_del {L : List Kd} (h : Ok L) (n : Int) : (dOf L).del (.int .i64 n) = dOf (putS L n none) := by
  unfold dOf
  rw [DataW.del_eq]
  congr 1
  symm
  refine sorted_del law.one (ent_keys h) (ent_apart h.one) ?_
  rw [ent_filter]
  unfold putS
  simp
theorem zeroSpot (w : World) : (zeroValue 74).run Tryz.prog w = .ok (spv none) w := by kernel_rfl
/-- Block b is a map that has the nodes of a list. -/
def Mp (w : World) (b : Nat) (L : List Kd) : Prop := w.ownsMap Tryz.prog 3 spotElem b L.length (dOf L)
theorem size_dOf (L : List Kd) : Maps.size (dOf L) = L.length := by
  unfold dOf
  rw [Maps.size_eq, length_sorted, List.length_map]
theorem Mp.of {w : World} {b n : Nat} {L : List Kd} (h : w.ownsMap Tryz.prog 3 spotElem b n (dOf L)) : Mp w b L := by
  obtain ⟨es, clock, hb, F, hs, hD⟩ := h
  refine ⟨es, clock, hb, F, ?_, hD⟩
  have := congrArg Maps.size hD
  rw [size_dOf, Maps.size_eq, length_sorted] at this
  simp at this
  omega
/-- The entries of the block, as the list's. -/
theorem Mp.perm {L : List Kd} {es : Array MapEntry} (hD : dOf L = .map ((es.toList.map (rg Tryz.prog 3 spotElem)).foldr DataW.insert [])) : (L.map ent).Perm (es.toList.map (rg Tryz.prog 3 spotElem)) := by
  unfold dOf at hD
  injection hD with hD
  exact (sorted_perm _).symm.trans (hD ▸ sorted_perm _)
/-- What is looked up. -/
theorem Mp.look {w : World} {b : Nat} {L : List Kd} (h : Mp w b L) (hL : Ok L) (x : Int) (hx : i64B x) :
    (Instr.lookup 89 (.map (some b)) (.int .i64 x) false).run Tryz.prog w = .ok (spv (fnd L x)) w := by
  obtain ⟨es, clock, hb, F, hs, hD⟩ := h
  have hp := Mp.perm hD
  rcases Maps.fit_look false law Tryz.underlying89 (zeroSpot w) hb F (keyI hx) with ⟨hrun, hno, _⟩ | ⟨e0, y, he0, hkey0, hrun, hR, _, _⟩
  · rw [hrun]
    have : fnd L x = none := by
      cases e : fnd L x with
      | none => rfl
      | some k =>
        obtain ⟨h1, h2⟩ := fnd_some e
        have hm := hp.mem_iff.1 (List.mem_map.2 ⟨k, h1, rfl⟩)
        obtain ⟨e1, he1, heq⟩ := List.mem_map.1 hm
        obtain ⟨y, hy⟩ := F.reads e1 he1
        have k1 := rd_key hy
        rw [rg_of hy] at heq
        rw [heq] at k1
        obtain ⟨x', hx1, hx2, _⟩ := Maps.keyOf_int_inv Tryz.underlying3 k1
        simp [ent] at hx2
        exact absurd (by rw [hx1, ← hx2, h2]) (hno e1 he1)
    rw [this]
    rfl
  · rw [hrun]
    obtain ⟨y', hy'⟩ := F.reads e0 he0
    have hm := hp.mem_iff.2 (List.mem_map.2 ⟨e0, he0, rfl⟩)
    obtain ⟨k, hk, hke⟩ := List.mem_map.1 hm
    rw [rg_of hy'] at hke
    have k1 := rd_key hy'
    rw [hkey0, keyI hx] at k1
    injection k1 with k1
    obtain ⟨z, hz, hz2⟩ := rd_val hy'
    rw [hz] at hR
    cases hR
    obtain ⟨t, l, hv, hy1⟩ := spotElem_inv hz
    have e1 : k.nd = x := by
      have := congrArg Prod.fst hke
      rw [← k1] at this
      simpa [ent] using this
    have e2 : k.to = t ∧ k.nm = l := by
      have := congrArg Prod.snd hke
      rw [hz2, hy1] at this
      simpa [ent] using this
    rw [← e1, fnd_mem hL.one hk, if_neg (by simp), hv, ← e2.1, ← e2.2]
    rfl
theorem Mp.lt {w : World} {b : Nat} {L : List Kd} (h : Mp w b L) : b < w.heap.size := World.ownsMap.lt h
theorem Mp.kept {w w' : World} {b : Nat} {L : List Kd} (h : Mp w b L) (hk : w'.heap[b]? = w.heap[b]?) : Mp w' b L := by
  obtain ⟨es, clock, hb, r⟩ := h
  exact ⟨es, clock, hk.trans hb, r⟩

/-! ### going through the map -/
/-- What was met so far. -/
structure Coll (L : List Kd) (left : Lit → Bool) (done : List Kd) : Prop where
  one : (done.map (·.nd)).Nodup
  mem : ∀ k ∈ done, k ∈ L ∧ left (.int .i64 k.nd) = false
  all : ∀ k ∈ L, left (.int .i64 k.nd) = false → k ∈ done
theorem has_dOf {L : List Kd} (n : Int) : Maps.has (dOf L) (.int .i64 n) = (fnd L n).isSome := by
  unfold dOf
  rw [Maps.has_eq, Bool.eq_iff_iff, List.any_eq_true]
  constructor
  · rintro ⟨p, hp, hk⟩
    obtain ⟨k, hk', rfl⟩ := List.mem_map.1 ((sorted_perm _).mem_iff.1 hp)
    simp [ent, Lit.sameKey] at hk
    cases e : fnd L n with
    | none => exact absurd hk (fnd_none e k hk')
    | some _ => rfl
  · intro h
    obtain ⟨k, hk⟩ := Option.isSome_iff_exists.1 h
    obtain ⟨h1, h2⟩ := fnd_some hk
    exact ⟨ent k, (sorted_perm _).mem_iff.2 (List.mem_map.2 ⟨k, h1, rfl⟩), by simp [ent, Lit.sameKey, h2]⟩
theorem Coll.start (L : List Kd) : Coll L (Maps.has (dOf L)) [] :=
  ⟨List.nodup_nil, by simp, fun k hk h => by
    rw [has_dOf] at h
    cases e : fnd L k.nd with
    | none => exact absurd rfl (fnd_none e k hk)
    | some _ => rw [e] at h; cases h⟩
theorem Coll.step {L : List Kd} (hL : Ok L) {left : Lit → Bool} {done : List Kd} (h : Coll L left done) {k : Kd} (hk : k ∈ L) (hl : left (.int .i64 k.nd) = true) :
    Coll L (fun z => left z && !z.sameKey (.int .i64 k.nd)) (done ++ [k]) := by
  refine ⟨?_, ?_, ?_⟩
  · rw [List.map_append, List.nodup_append]
    refine ⟨h.one, by simp, fun a ha b hb e => ?_⟩
    obtain ⟨k', hk', rfl⟩ := List.mem_map.1 ha
    simp at hb
    subst hb
    have := (h.mem k' hk').2
    rw [e, hl] at this
    cases this
  · intro k' hk'
    rcases List.mem_append.1 hk' with hk' | hk'
    · exact ⟨(h.mem k' hk').1, by simp [(h.mem k' hk').2]⟩
    · rw [List.mem_singleton] at hk'
      subst hk'
      exact ⟨hk, by simp [Lit.sameKey]⟩
  · intro k' hk' hf
    rw [List.mem_append, List.mem_singleton]
    by_cases e : k'.nd = k.nd
    · exact .inr (nd_inj hL.one hk' hk e)
    · refine .inl (h.all k' hk' ?_)
      simpa [Lit.sameKey, e] using hf
theorem Coll.done {L : List Kd} (hL : Ok L) {left : Lit → Bool} {done : List Kd} (h : Coll L left done) (h0 : ∀ kl, left kl = false) : done.Perm L :=
  (List.perm_ext_iff_of_nodup (nodup_of_nd h.one) (nodup_of_nd hL.one)).2 fun k => ⟨fun hk => (h.mem k hk).1, fun hk => h.all k hk (h0 _)⟩
/-- What a step of going through tells. -/
theorem step_kd {L : List Kd} (hL : Ok L) {x : Int} {v : Value} {y : DataW Unit × List MemPlace} (hv : spotElem v = some y) (hat : ∀ zd, (dOf L).atKey (.int .i64 x) zd = y.1) : ∃ k ∈ L, k.nd = x ∧ v = spv (some k) := by
  have hh := Maps.has_true_of_atKey hat
  rw [has_dOf] at hh
  obtain ⟨k, hk⟩ := Option.isSome_iff_exists.1 hh
  obtain ⟨h1, h2⟩ := fnd_some hk
  have e := hat .nil
  have hs := sorted_sorted law.one _ (ent_keys hL) (ent_apart hL.one)
  have hr := ChangeMaps.rising_of_pairwise _ hs
  have ha := (WideShapes.atKey_sorted (L.map ent) hr (.int .i64 x) trivial).2 (ent k) (List.mem_map.2 ⟨k, h1, rfl⟩) (by simp [ent, h2])
  obtain ⟨t, l, hv1, hy⟩ := spotElem_inv hv
  have e2 := (ha .nil).symm.trans e
  rw [hy] at e2
  simp [ent] at e2
  exact ⟨k, h1, h2, by rw [hv1, ← e2.1, ← e2.2]; rfl⟩
end Go.Proofs.YtimfeocaghccdaaGreatDoor
