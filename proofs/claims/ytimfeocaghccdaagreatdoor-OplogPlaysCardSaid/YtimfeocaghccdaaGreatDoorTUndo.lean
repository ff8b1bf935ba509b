/-
  The contract of the tree's Undo: what was remembered last is undone. Conditions: the tree is one, in memory, and not more than a million operations are remembered.
-/
import Derived.Test.YtimfeocaghccdaaGreatDoorTDel
namespace Go.Proofs.YtimfeocaghccdaaGreatDoor
set_option maxRecDepth 100000
open Go.RowKit Go.Maps
set_option linter.unusedVariables false
set_option linter.unusedSimpArgs false
set_option maxRecDepth 100000

theorem Past.four {w : World} {b cap : Nat} {x : Int × Option Kd} {p : List (Int × Option Kd)} (h : Past w (.slice (some ⟨b, 0, none⟩) (p.length + 1) cap) (x :: p)) :
    w.cell? ⟨b, p.length * 4, none⟩ = some (.int .i64 x.1) ∧ w.cell? ⟨b, p.length * 4 + 1, none⟩ = some (.bool (spI x.2)) ∧ w.cell? ⟨b, p.length * 4 + 2, none⟩ = some (.int .i64 (spT x.2)) ∧ w.cell? ⟨b, p.length * 4 + 3, none⟩ = some (.string (bs (spN x.2))) := by
  have e : stcs (x :: p).reverse = stcs p.reverse ++ stc x := by rw [List.reverse_cons, stcs_append]; simp [stcs]
  have hl : (stcs p.reverse).length = p.length * 4 := by rw [stcs_length]; simp
  have hc : ∀ i u, (stc x)[i]? = some u → w.cell? ⟨b, p.length * 4 + i, none⟩ = some u := by
    intro i u hu
    have := World.ownsRow.cells (g := b) h rfl (p.length * 4 + i) u (by
      rw [e, List.getElem?_append_right (by omega), hl, Nat.add_sub_cancel_left]
      exact hu)
    rwa [Addr.add_lit, Nat.zero_add] at this
  exact ⟨hc 0 _ rfl, hc 1 _ rfl, hc 2 _ rfl, hc 3 _ rfl⟩
theorem block_set1 {w : World} {g : Nat} {a b c : Value} {t : TypeId} (h : w.heap[g]? = some (.cells #[a, b] t (0, 0))) : (w.setCell ⟨g, 1, none⟩ c).heap[g]? = some (.cells #[a, c] t (0, 0)) := by
  have := Joins.block_setCell (i := 1) h c
  simpa using this
/-- What is remembered is put in another row. -/
theorem Tm.set_past {w : World} {g bm : Nat} {vp v' : Value} {L : List Kd} {p q : List (Int × Option Kd)} (hb : w.heap[g]? = some (.cells #[.map (some bm), vp] 91 (0, 0))) (hm : Mp w bm L) (hp : Past w v' q) : Tm (w.setCell ⟨g, 1, none⟩ v') g bm v' L q := by
  have hne : bm ≠ g := by
    rintro rfl
    obtain ⟨es, c, h, _⟩ := hm
    rw [hb] at h
    cases h
  refine ⟨block_set1 hb, hm.kept (Below.heap_setCell _ _ _ _ hne), hp.kept fun b hb' => Below.heap_setCell _ _ _ _ ?_⟩
  rintro rfl
  obtain ⟨cur, hc⟩ := hp.block hb'
  rw [hb] at hc
  simp at hc
theorem Mp.of_perm {w : World} {b : Nat} {L M : List Kd} (h : Mp w b L) (hL : Ok L) (hp : L.Perm M) : Mp w b M := by
  unfold Mp at h ⊢
  rw [← dOf_perm hL hp, ← hp.length_eq]
  exact h
set_option maxHeartbeats 2000000 in
theorem tundo_none (g : Nat) (L : List Kd) (fs : List Nat) (w : World) (h : Tr w g L [] fs) : Calls Tryz.prog 27 #[.pointer (some ⟨g, 0, none⟩)] w (fun e w' => e = .returned (.bool false) ∧ w' = w) := by
  obtain ⟨_, bm, vp, p, T, hs, rfl⟩ := h
  have hp : p = [] := hs
  subst hp
  have c1 := T.cell1
  obtain ⟨A, c, rfl⟩ : ∃ A c, vp = .slice A 0 c := by
    rcases T.past.2 with ⟨rfl, _⟩ | ⟨b, cap, cur, rfl, _⟩
    · exact ⟨_, _, rfl⟩
    · exact ⟨_, _, rfl⟩
  clear T hs
  go_enter Tryz.func27, Tryz.ntmps27
  go_wp2
  go_ret
  exact ⟨rfl, rfl⟩
set_option maxHeartbeats 2000000 in
theorem tundo_some (g : Nat) (L M : List Kd) (r : List (List Kd)) (fs : List Nat) (hr : r.length < 900000) (w : World) (h : Tr w g L (M :: r) fs) : Calls Tryz.prog 27 #[.pointer (some ⟨g, 0, none⟩)] w (TrRet (.bool true) g M r fs w) := by
  have hL := h.ok
  have hlen := h.hst.len
  have hh := h.hst.back.1
  obtain ⟨_, bm, vp, p, T, hs, rfl⟩ := h
  obtain ⟨n, s, q, rfl, hn, hsn, hperm, hq⟩ := hs
  have hql := hq.len
  have T0 := T.past
  rcases T0.2 with ⟨_, h0⟩ | ⟨b, cap, cur, rfl, h2, h3, h4, h5, h6, h7⟩
  · simp at h0
  clear h2 h3 h6 h7 T0
  simp only [List.length_cons] at h4 T hlen
  obtain ⟨z0, z1, z2, z3⟩ := T.past.four
  have c1 := T.cell1
  have HT := hide T
  have HQ := hide hq
  have HN : Hid (i64B n) := hn
  have HS := hide hsn
  have HP := hide hperm
  have HH := hide hh
  have HL := hide hL
  have KD := hide (fun W (hW : Past W (.slice (some ⟨b, 0, none⟩) (q.length + 1) cap) ((n, s) :: q)) => delete_any W _ (n, s) q hW (by omega))
  have KP := hide (fun v' W (hW : Tm W g bm v' L q) => tput_any g bm v' L q n s hsn hn hL (by omega) W hW)
  have HL2 := hide hql
  unfold spv at KP
  simp only at z0 z1 z2 z3
  generalize spI s = sI at *
  generalize spT s = sT at *
  generalize spN s = sN at *
  obtain ⟨m, hm⟩ : ∃ m, q.length = m := ⟨_, rfl⟩
  have hm9 : m < 1000000 := by omega
  rw [hm] at z0 z1 z2 z3 c1 h4 KD HT
  change Calls _ _ _ _ (TrRet (.bool true) g M r [g, bm, b] w)
  have HM := hide hm
  clear T hq hn hsn hperm hh hL hlen hm hql
  go_enter Tryz.func27, Tryz.ntmps27
  have c1' := (HT.out.alloc (.cells #[.int .i64 n, .bool sI, .int .i64 sT, .string (bs sN)] 93)).cell1
  go_wp2_with fail
  have T1 := HT.out.alloc (.cells #[.int .i64 n, .bool sI, .int .i64 sT, .string (bs sN)] 93)
  have M1 := hide ((Mod.refl [g, bm, b] w).alloc (.cells #[.int .i64 n, .bool sI, .int .i64 sT, .string (bs sN)] 93))
  have bx := heap_alloc_new w (.cells #[.int .i64 n, .bool sI, .int .i64 sT, .string (bs sN)] 93)
  have lb := HT.out.past.lt (b := b) rfl
  have lg := HT.out.lt
  have lm := HT.out.map.lt
  refine (KD.out _ T1.past).mono ?_
  rintro e w2 ⟨v', rfl, hp2, hv2, hm2⟩
  obtain ⟨cap', rfl⟩ : ∃ cap', v' = .slice (some ⟨b, 0, none⟩) m cap' := by
    rcases hp2.2 with ⟨rfl, _⟩ | ⟨b', cap', cur', rfl, _⟩
    · cases hv2
    · have hv2' : some b' = some b := hv2
      cases hv2'
      exact ⟨cap', by rw [HM.out]⟩
  have hm2' : Mod [b] (w.alloc (.cells #[.int .i64 n, .bool sI, .int .i64 sT, .string (bs sN)] 93)) w2 := hm2
  have nb := HT.out.neP (b := b) rfl
  have hg2 : w2.heap[g]? = _ := (hm2'.block g T1.lt (by simp [nb.1.symm])).trans T1.blk
  have hmp2 : Mp w2 bm L := T1.map.kept (hm2'.block bm T1.map.lt (by simp [nb.2.symm]))
  have hbx2 := (hm2'.block w.heap.size (by simp) (by simp; omega)).trans bx
  have M2 := hide (M1.out.trans hm2' (by simp))
  have f1 := Joins.unfrozen_of_block hg2 1
  have T3 := Tm.set_past (p := q) hg2 hmp2 hp2
  have M3 := hide (M2.out.setCell (p := ⟨g, 1, none⟩) (.inl (by simp)) (.slice (some ⟨b, 0, none⟩) m cap'))
  have hbx3 : (w2.setCell ⟨g, 1, none⟩ (.slice (some ⟨b, 0, none⟩) m cap')).heap[w.heap.size]? = _ := (Below.heap_setCell w2 ⟨g, 1, none⟩ (.slice (some ⟨b, 0, none⟩) m cap') w.heap.size (by show w.heap.size ≠ g; omega)).trans hbx2
  have y0 := cell_of_row _ _ 0 _ _ (0, 0) hbx3
  have y1 := cell_of_row _ _ 1 _ _ (0, 0) hbx3
  have y2 := cell_of_row _ _ 2 _ _ (0, 0) hbx3
  have y3 := cell_of_row _ _ 3 _ _ (0, 0) hbx3
  have cg := cell_of_row _ _ 1 _ _ (0, 0) hg2
  simp at y0 y1 y2 y3 cg
  have HT3 := hide T3
  clear T1 bx hp2 hv2 hm2 hm2' nb hg2 hmp2 hbx2 T3 hbx3 M1 M2 z0 z1 z2 z3 c1 c1' HT
  go_upto_region 6 with (fail)
  generalize w2.setCell ⟨g, 1, none⟩ (.slice (some ⟨b, 0, none⟩) m cap') = w3 at M3 y0 y1 y2 y3 HT3 ⊢
  go_wp2_with fail
  refine (KP.out _ w3 HT3.out).mono ?_
  rintro e w4 ⟨rfl, hT4, hM4⟩
  have HT4 := hide hT4
  have HM4 := hide (M3.out.trans hM4 (by simp))
  clear hT4 hM4 y0 y1 y2 y3 f1 M3 HT3
  go_wp2
  go_ret
  have hok : Ok (putS L n s) := HL.out.putS HN.out s HS.out
  refine ⟨rfl, [g, bm, b], ⟨HH.out, bm, _, q, ⟨HT4.out.blk, HT4.out.map.of_perm hok HP.out, HT4.out.past⟩, HQ.out, rfl⟩, HM4.out, fun k hk => .inl hk⟩
end Go.Proofs.YtimfeocaghccdaaGreatDoor
