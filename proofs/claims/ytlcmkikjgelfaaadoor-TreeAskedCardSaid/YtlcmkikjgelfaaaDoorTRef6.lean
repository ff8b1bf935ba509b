/-
  The document's tree to which operations are applied, in order. Conditions: at most five hundred operations, names of at most a thousand bytes.
-/
import Derived.Test.YtlcmkikjgelfaaaDoorTRef5
namespace Go.Proofs.YtlcmkikjgelfaaaDoor
open Go.RowKit Go.Maps
set_option linter.unusedVariables false
set_option linter.unusedSimpArgs false
set_option maxRecDepth 100000

/-- The document's tree, made since a world. -/
def Rw (w0 w : World) (g : Nat) (s : St) : Prop := ∃ vL vW vs, Rm w g vL vW vs s.1 s.2 ∧ (∀ k ∈ g :: vW.ownBlock.toList, w0.heap.size ≤ k) ∧ Below w0.heap.size w0 w
theorem Rw.below {w0 w w' : World} {g : Nat} {s : St} (h : Rw w0 w g s) (hb : Below w.heap.size w w') : Rw w0 w' g s := by
  obtain ⟨vL, vW, vs, h1, h2, h3⟩ := h
  exact ⟨vL, vW, vs, h1.below hb, h2, h3.trans (hb.mono h3.size)⟩
theorem Rw.bel {w0 w : World} {g : Nat} {s : St} (h : Rw w0 w g s) : Below w0.heap.size w0 w := by
  obtain ⟨vL, vW, vs, h1, h2, h3⟩ := h
  exact h3
theorem rapply_any (w0 : World) (g : Nat) (s : St) (o : O5) (hl : o.l.length ≤ 1000) (h1 : s.1.length ≤ 900) (h2 : s.2.length ≤ 900) (w : World) (h : Rw w0 w g s) :
    Calls Tryd.prog 17 #[.pointer (some ⟨g, 0, none⟩), opv o.n o.r o.d o.t o.l] w (fun e w' => e = .returned (.bool (apB s o)) ∧ Rw w0 w' g (stp s o)) := by
  cases hR : o.R with
  | false =>
    refine (rapply_wrong g o hl hR w).mono ?_
    rintro e w' ⟨rfl, hb⟩
    refine ⟨by unfold apB; rw [hR]; rfl, ?_⟩
    have e : stp s o = s := by unfold stp; rw [hR]; simp
    rw [e]
    exact h.below hb
  | true =>
    obtain ⟨vL, vW, vs, k1, k2, k3⟩ := h
    have hl2 := k1.was.len
    refine (rapply_right g vL vW vs s.1 s.2 o hl hR h1 (by omega) w k1).mono ?_
    rintro e w' ⟨rfl, vL', vW', vs', r1, r2, r3⟩
    refine ⟨by unfold apB; rw [hR]; rfl, ?_⟩
    have e : stp s o = (app s.1 o, s.1 :: s.2) := by unfold stp; rw [hR]; simp
    rw [e]
    refine ⟨vL', vW', vs', r1, fun k hk => ?_, k3.trans (r2.below k3.size k2)⟩
    rcases r3 k hk with h | h
    · exact k2 k h
    · exact Nat.le_trans k3.size h
def OfRet (w : World) (s : St) (e : Ending) (w' : World) : Prop := ∃ g, e = .returned (.pointer (some ⟨g, 0, none⟩)) ∧ Rw w w' g s
def OfRel (w : World) (g : Nat) (os : List O5) (i : Value) (wr : World) : Prop := ∃ k : Nat, k ≤ os.length ∧ i = .int .i64 (k : Int) ∧ Rw w wr g (runS (os.take k))
theorem Rw.new (w : World) : Rw w (w.alloc (.cells #[.slice none 0 0, .slice none 0 0] 32)) w.heap.size ([], []) :=
  ⟨.slice none 0 0, .slice none 0 0, [], ⟨⟨heap_alloc_new w _, OwnKids.nil _ _⟩, World.ownsRow_nil _ _ _ _, trivial⟩, fun k hk => by simp [Value.ownBlock] at hk; omega, (Below.refl _ _).alloc (Nat.le_refl _) _⟩
set_option maxHeartbeats 1000000 in
theorem rof_any (A : Option Addr) (c : Nat) (os : List O5) (w : World) (hn : os.length ≤ 500) (hm : ∀ o ∈ os, o.l.length ≤ 1000) (h : Ops w A c os) :
    Calls Tryd.prog 29 #[.slice A os.length c] w (OfRet w (runS os)) := by
  have HO := hide h
  have HM := hide hm
  have S1 := hide (show OfRel w w.heap.size os (.int .i64 0) (w.alloc (.cells #[.slice none 0 0, .slice none 0 0] 32)) from ⟨0, Nat.zero_le _, rfl, Rw.new w⟩)
  clear h hm
  go_enter Tryd.func29, Tryd.ntmps29
  go_wp2_with fail
  go_loopw [4] (OfRel w w.heap.size os) (fun i _ => os.length - (intOf i).toNat)
  case atStart => exact S1.out
  case round =>
    rename World => wi
    obtain ⟨k, hk, rfl, hL⟩ := hrel
    have HL := hide hL
    clear hL S1
    by_cases hlt : k < os.length
    · obtain ⟨b, o, rfl, hat⟩ := (HO.out.below HL.out.bel).lit (by omega)
      obtain ⟨c0, c1, c2, c3, c4⟩ := hat.five k hlt
      have HS := hide (show runS (os.take (k + 1)) = stp (runS (os.take k)) os[k] by rw [List.take_succ_eq_append_getElem hlt, runS_snoc])
      have hx := HM.out _ (List.getElem_mem hlt)
      have hr2 : (runS (os.take k)).2.length ≤ 500 := by
        have := runS_len (os.take k)
        simp at this
        omega
      have hr1 : (runS (os.take k)).1.length ≤ 500 := Nat.le_trans (runS_hst (os.take k)).len hr2
      have KA := hide (rapply_any w w.heap.size (runS (os.take k)) os[k] hx (by omega) (by omega) wi HL.out)
      rw [← HS.out] at KA
      generalize os[k] = x at c0 c1 c2 c3 c4 KA hx HS
      clear hat
      go_wp2_with fail
      refine KA.out.mono ?_
      rintro e w2 ⟨rfl, hret⟩
      have HL' := hide hret
      clear hret KA c0 c1 c2 c3 c4
      go_wp2_with fail
      go_roundw
      case rel => exact ⟨k + 1, by omega, by go_num, HL'.out⟩
      case measure => simp [intOf]; omega
    · obtain rfl : k = os.length := by omega
      go_wp2
      go_ret
      refine ⟨_, rfl, ?_⟩
      have := HL.out
      rwa [List.take_length] at this
end Go.Proofs.YtlcmkikjgelfaaaDoor
