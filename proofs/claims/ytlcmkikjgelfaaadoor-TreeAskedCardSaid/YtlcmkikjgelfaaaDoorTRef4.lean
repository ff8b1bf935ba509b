/-
  The document's tree in memory, whole: its list, and a row of all that it was; Apply. Conditions: the tree is one, in memory, of at most a thousand nodes and steps; names of at most a thousand bytes.
-/
import Derived.Test.YtlcmkikjgelfaaaDoorTRef3
import Derived.Test.YtlcmkikjgelfaaaDoorORef
import Derived.Maps.AppendAt
import Derived.Deep.RegionLaw
import Derived.Deep.DeepCutAuto
import Derived.Deep.AppendLies
namespace Go.Proofs.YtlcmkikjgelfaaaDoor
open Go.RowKit Go.Maps
set_option linter.unusedVariables false
set_option linter.unusedSimpArgs false
set_option maxRecDepth 100000

/-- Rows that read as lists. -/
def Wl (w : World) : List Value → List (List Kd) → Prop
  | [], [] => True
  | v :: vs, l :: r => OwnKids w 0 v l ∧ Wl w vs r
  | _, _ => False
theorem Wl.len {w : World} : ∀ {vs : List Value} {r : List (List Kd)}, Wl w vs r → vs.length = r.length
  | [], [], _ => rfl
  | v :: vs, l :: r, h => by simp [Wl.len h.2]
  | [], _ :: _, h => h.elim
  | _ :: _, [], h => h.elim
theorem Wl.kept {w w' : World} : ∀ {vs : List Value} {r : List (List Kd)}, Wl w vs r → (∀ v ks, OwnKids w 0 v ks → OwnKids w' 0 v ks) → Wl w' vs r
  | [], [], _, _ => trivial
  | v :: vs, l :: r, h, hk => ⟨hk v l h.1, Wl.kept h.2 hk⟩
  | [], _ :: _, h, _ => h.elim
  | _ :: _, [], h, _ => h.elim
theorem Wl.one {w : World} : ∀ {vs : List Value} {r : List (List Kd)}, Wl w vs r → ∀ v ∈ vs, v.oneCell' = true
  | [], [], _, v, hv => by simp at hv
  | x :: vs, l :: r, h, v, hv => by
    rcases List.mem_cons.1 hv with rfl | hv
    · obtain ⟨A, c, rfl, _⟩ := h.1.form
      rfl
    · exact Wl.one h.2 v hv
  | [], _ :: _, h, _, _ => h.elim
  | _ :: _, [], h, _, _ => h.elim
/-- The row of what was. -/
def Wr (w : World) (vW : Value) (vs : List Value) : Prop := w.ownsRow 0 29 1 vW vs.length vs.reverse
/-- The document's tree, whole. -/
structure Rm (w : World) (g : Nat) (vL vW : Value) (vs : List Value) (L : List Kd) (r : List (List Kd)) : Prop where
  rl : Rl w g vL vW L
  row : Wr w vW vs
  was : Wl w vs r
theorem Wr.block {w : World} {vW : Value} {vs : List Value} (h : Wr w vW vs) {b : Nat} (hb : vW.ownBlock = some b) : ∃ cur, w.heap[b]? = some (.cells cur 29 (0, 0)) := by
  rcases h.2 with ⟨rfl, _⟩ | ⟨g, cap, cur, rfl, _, h3, _⟩
  · cases hb
  · cases hb; exact ⟨cur, h3⟩
theorem Wr.kept {w w' : World} {vW : Value} {vs : List Value} (h : Wr w vW vs) (hk : ∀ b, vW.ownBlock = some b → w'.heap[b]? = w.heap[b]?) : Wr w' vW vs := by
  refine ⟨h.1, ?_⟩
  rcases h.2 with h0 | ⟨g, cap, cur, rfl, h2, h3, h4⟩
  · exact .inl h0
  · exact .inr ⟨g, cap, cur, rfl, h2, (hk g rfl).trans h3, h4⟩
theorem OwnKids.block {w : World} {base : Nat} {v : Value} {ks : List Kd} (h : OwnKids w base v ks) {b : Nat} (hb : v.ownBlock = some b) : ∃ cur, w.heap[b]? = some (.cells cur 56 (0, 0)) := by
  rcases h.2 with ⟨rfl, _⟩ | ⟨g, cap, cur, rfl, _, h3, _⟩
  · cases hb
  · cases hb; exact ⟨cur, h3⟩
/-- What a change to the tree's own blocks leaves: all rows of nodes. -/
theorem Rm.kids {w w' : World} {g : Nat} {vL vW : Value} {vs : List Value} {L : List Kd} {r : List (List Kd)} (h : Rm w g vL vW vs L r) (hm : Mod (g :: vW.ownBlock.toList) w w') (v : Value) (ks : List Kd) (hk : OwnKids w 0 v ks) : OwnKids w' 0 v ks :=
  hk.mod hm fun b hb hf => by
    obtain ⟨cur, hc⟩ := hk.block hb
    rcases List.mem_cons.1 hf with rfl | hf
    · rw [h.rl.blk] at hc
      simp at hc
    · obtain ⟨cu, hcu⟩ := h.row.block (b := b) (by simpa using hf)
      rw [hcu] at hc
      simp at hc
theorem Rm.lt {w : World} {g : Nat} {vL vW : Value} {vs : List Value} {L : List Kd} {r : List (List Kd)} (h : Rm w g vL vW vs L r) : ∀ k ∈ g :: vW.ownBlock.toList, k < w.heap.size := fun k hk => by
  rcases List.mem_cons.1 hk with rfl | hk
  · exact h.rl.lt
  · obtain ⟨cur, hc⟩ := h.row.block (b := k) (by simpa using hk)
    exact (Array.getElem?_eq_some_iff.1 hc).1
theorem Rm.below {w w' : World} {g : Nat} {vL vW : Value} {vs : List Value} {L : List Kd} {r : List (List Kd)} (h : Rm w g vL vW vs L r) (hb : Below w.heap.size w w') : Rm w' g vL vW vs L r :=
  ⟨h.rl.below hb, h.row.kept fun b hb' => hb.block _ (h.lt b (by simp [hb'])), h.was.kept fun v ks hk => hk.below hb⟩
theorem slinfo : (Tryd.prog.info? 29).map (fun i => (i.zero, i.size, i.bytes)) = some (some (.slice none 0 0), 1, 24) := by kernel_rfl
/-- What Apply and Undo leave. -/
def RmRet (v : Value) (g : Nat) (L : List Kd) (r : List (List Kd)) (fs : List Nat) (w : World) (e : Ending) (w' : World) : Prop :=
  e = .returned v ∧ ∃ vL vW vs, Rm w' g vL vW vs L r ∧ Mod fs w w' ∧ ∀ k ∈ g :: vW.ownBlock.toList, k ∈ fs ∨ w.heap.size ≤ k
set_option maxHeartbeats 2000000 in
theorem rundo_none (g : Nat) (vL vW : Value) (vs : List Value) (L : List Kd) (w : World) (h : Rm w g vL vW vs L []) : Calls Tryd.prog 15 #[.pointer (some ⟨g, 0, none⟩)] w (fun e w' => e = .returned (.bool false) ∧ w' = w) := by
  have c1 := h.rl.cell1
  have hl := h.was.len
  have hv : vs = [] := List.eq_nil_of_length_eq_zero hl
  subst hv
  obtain ⟨A, c, rfl⟩ : ∃ A c, vW = .slice A 0 c := by
    rcases h.row.2 with ⟨rfl, _⟩ | ⟨b, cap, cur, rfl, _⟩
    · exact ⟨_, _, rfl⟩
    · exact ⟨_, _, rfl⟩
  clear h hl
  go_enter Tryd.func15, Tryd.ntmps15
  go_wp2
  go_ret
  exact ⟨rfl, rfl⟩
set_option maxHeartbeats 2000000 in
theorem rapply_wrong (g : Nat) (o : O5) (hl : o.l.length ≤ 1000) (hR : o.R = false) (w : World) :
    Calls Tryd.prog 17 #[.pointer (some ⟨g, 0, none⟩), opv o.n o.r o.d o.t o.l] w (BoolRet false w) := by
  have K := hide (orefRight_any o.n o.r o.d o.t o.l (w.alloc (.cells #[.int .i64 o.n, .int .i64 o.r, .int .i64 o.d, .int .i64 o.t, .string (bs o.l)] 37)) hl)
  have e : opR o.n o.r o.d o.t o.l = false := hR
  rw [e] at K
  clear e hR
  unfold opv at K ⊢
  go_enter Tryd.func17, Tryd.ntmps17
  go_wp2_with fail
  refine K.out.mono ?_
  rintro e w1 ⟨rfl, hb⟩
  have B := hide (((Below.refl w.heap.size w).alloc (Nat.le_refl _) _).trans (hb.mono (by simp)))
  clear hb
  go_wp2
  go_ret
  exact ⟨rfl, B.out⟩
end Go.Proofs.YtlcmkikjgelfaaaDoor
