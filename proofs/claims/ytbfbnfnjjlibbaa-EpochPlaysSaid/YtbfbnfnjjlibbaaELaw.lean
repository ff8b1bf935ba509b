/-
  What the laws over limbos share: a limbo behind a world, calls that leave all else as it was; the law's awake. Conditions: those of the calls.
-/
import Derived.Test.YtbfbnfnjjlibbaaEFree
import Derived.Test.YtbfbnfnjjlibbaaERet
import Derived.Test.YtbfbnfnjjlibbaaELst
namespace Go.Proofs.Ytbfbnfnjjlibbaa
open Go.RowKit Go.Maps
set_option linter.unusedVariables false
set_option linter.unusedSimpArgs false
set_option maxRecDepth 100000

/-- A limbo that was made behind a world. -/
structure Ez (w0 w : World) (g now : Nat) (q : List Wp) : Prop where
  bel : Below w0.heap.size w0 w
  en : ∃ fs, En w g now q fs ∧ ∀ k ∈ fs, w0.heap.size ≤ k
/-- All that isn't a limbo's is as it was. -/
def Kq (w w' : World) : Prop := w.heap.size ≤ w'.heap.size ∧ ∀ (k : Nat) (cs : Array Value) (t : TypeId) (z : Nat × Nat), w.heap[k]? = some (Obj.cells cs t z) → t ≠ 47 → t ≠ 49 → w'.heap[k]? = some (Obj.cells cs t z)
theorem Kq.refl (w : World) : Kq w w := ⟨Nat.le_refl _, fun _ _ _ _ h _ _ => h⟩
theorem Kq.trans {a b c : World} (h : Kq a b) (h' : Kq b c) : Kq a c := ⟨Nat.le_trans h.1 h'.1, fun k cs t z hk h1 h2 => h'.2 k cs t z (h.2 k cs t z hk h1 h2) h1 h2⟩
theorem Kq.of_below {w w' : World} (h : Below w.heap.size w w') : Kq w w' := ⟨h.size, fun k cs t z hk _ _ => (h.block k (Array.getElem?_eq_some_iff.1 hk).1).trans hk⟩
theorem Kq.of_mod {w w' : World} {g now : Nat} {q : List Wp} {fs : List Nat} (h : En w g now q fs) (hm : Mod fs w w') : Kq w w' := ⟨hm.size, fun k cs t z hk h1 h2 => (hm.block k (Array.getElem?_eq_some_iff.1 hk).1 fun hf => by
  obtain ⟨cs', t', hc, ht⟩ := h.kind hf
  rw [hk] at hc
  simp at hc
  rcases ht with ht | ht
  · exact h1 (hc.2.1.trans ht)
  · exact h2 (hc.2.1.trans ht)).trans hk⟩
theorem Ez.below {w0 w w' : World} {g now : Nat} {q : List Wp} (h : Ez w0 w g now q) (hb : Below w.heap.size w w') : Ez w0 w' g now q := by
  obtain ⟨h1, fs, h2, h3⟩ := h
  exact ⟨h1.trans (hb.mono h1.size), fs, h2.below hb, h3⟩
theorem Ez.alloc {w0 w : World} {g now : Nat} {q : List Wp} (h : Ez w0 w g now q) (o : Obj) : Ez w0 (w.alloc o) g now q := h.below ((Below.refl _ _).alloc (Nat.le_refl _) o)
/-- A call answers, the limbo is another one then, all else is as it was. -/
def EzRet (v : Value) (w0 : World) (g now : Nat) (q : List Wp) (w : World) (e : Ending) (w' : World) : Prop := e = .returned v ∧ Ez w0 w' g now q ∧ Kq w w'
theorem Ez.ret {w0 w w' : World} {g now now' : Nat} {q q' : List Wp} {fs : List Nat} {v : Value} {e : Ending} (h1 : Below w0.heap.size w0 w) (h2 : En w g now q fs) (h3 : ∀ k ∈ fs, w0.heap.size ≤ k) (h : EnRet v g now' q' fs w e w') : EzRet v w0 g now' q' w e w' := by
  obtain ⟨he, fs', h4, h5, h6⟩ := h
  refine ⟨he, ⟨h1.trans (h5.below h1.size h3), fs', h4, fun k hk => ?_⟩, Kq.of_mod h2 h5⟩
  rcases h6 k hk with h | h
  · exact h3 k h
  · exact Nat.le_trans h1.size h
theorem znew_any {w0 w : World} (hb : Below w0.heap.size w0 w) : Calls Try.prog 9 #[] w (fun e w' => e = .returned (.pointer (some ⟨w.heap.size, 0, none⟩)) ∧ Ez w0 w' w.heap.size 0 [] ∧ Below w.heap.size w w') := by
  refine (enew_any w).mono ?_
  rintro e w' ⟨rfl, h, hb'⟩
  exact ⟨rfl, ⟨hb.trans (hb'.mono hb.size), _, h, fun k hk => by rw [List.mem_singleton.1 hk]; exact hb.size⟩, hb'⟩
theorem zadv_any {w0 w : World} {g now : Nat} {q : List Wp} (hn : now ≤ 1000000) (h : Ez w0 w g now q) : Calls Try.prog 10 #[.pointer (some ⟨g, 0, none⟩)] w (EzRet (.tuple #[]) w0 g (now + 1) q w) := by
  obtain ⟨h1, fs, h2, h3⟩ := h
  exact (eadv_any g now q fs hn w h2).mono fun e w' h => Ez.ret h1 h2 h3 h
/-- Handles that are no limbo's block. -/
def Apart (w0 w : World) (A : Option Addr) : Prop := ∀ a, A = some a → a.block < w0.heap.size ∨ ∃ (cs : Array Value) (t : TypeId) (z : Nat × Nat), w.heap[a.block]? = some (Obj.cells cs t z) ∧ t ≠ 47 ∧ t ≠ 49
theorem zret_any {w0 w : World} {g now c : Nat} {q : List Wp} {A : Option Addr} {l : List (Int × Int)} (hl : q.length + l.length ≤ 100000) (hA : Hs w A c l) (hAp : 0 < l.length → Apart w0 w A) (h : Ez w0 w g now q) : Calls Try.prog 11 #[.pointer (some ⟨g, 0, none⟩), .slice A l.length c] w (EzRet (.tuple #[]) w0 g now (q ++ l.map fun x => (x, now)) w) := by
  obtain ⟨h1, fs, h2, h3⟩ := h
  refine (eretire_any g now q fs A c l hl w hA (fun hp a ha hf => ?_) h2).mono fun e w' h => Ez.ret h1 h2 h3 h
  rcases hAp hp a ha with h | ⟨cs, t, z, hc, t1, t2⟩
  · exact absurd h (by have := h3 _ hf; omega)
  · obtain ⟨cs', t', hc', ht⟩ := h2.kind hf
    rw [hc] at hc'
    simp at hc'
    rcases ht with ht | ht
    · exact t1 (hc'.2.1.trans ht)
    · exact t2 (hc'.2.1.trans ht)
/-- A call answers a new row of handles, the limbo is another one then. -/
def EzOut (out : List (Int × Int)) (w0 : World) (g now : Nat) (q : List Wp) (w : World) (e : Ending) (w' : World) : Prop := ∃ v, e = .returned v ∧ OwnH w' w.heap.size v out ∧ Ez w0 w' g now q ∧ Kq w w'
theorem zfree_any {w0 w : World} {g now : Nat} {q : List Wp} (least : Int) (hn : q.length ≤ 100000) (hnow : now ≤ 1000000) (hu : Pst q now) (h : Ez w0 w g now q) : Calls Try.prog 13 #[.pointer (some ⟨g, 0, none⟩), .int .i64 least] w (EzOut ((q.filter fun a => may least now a.2).map Prod.fst) w0 g now (q.filter fun a => !may least now a.2) w) := by
  obtain ⟨h1, fs, h2, h3⟩ := h
  refine (efree_any g now q fs least hn hnow hu w h2).mono ?_
  rintro e w' ⟨v, rfl, ho, fs', h4, h5, h6⟩
  refine ⟨v, rfl, ho, ⟨h1.trans (h5.below h1.size h3), fs', h4, fun k hk => ?_⟩, Kq.of_mod h2 h5⟩
  rcases h6 k hk with h | h
  · exact h3 k h
  · exact Nat.le_trans h1.size h
theorem zwait_any {w0 w : World} {g now : Nat} {q : List Wp} (hn : q.length ≤ 100000) (h : Ez w0 w g now q) : Calls Try.prog 17 #[.pointer (some ⟨g, 0, none⟩)] w (HsRet (q.map Prod.fst) w) := by
  obtain ⟨fs, h2, h3⟩ := h.en
  exact ewait_any g now q fs hn w h2
theorem znow_any {w0 w : World} {g now : Nat} {q : List Wp} (h : Ez w0 w g now q) : Calls Try.prog 16 #[.pointer (some ⟨g, 0, none⟩)] w (IntRet .i64 now w) := by
  obtain ⟨fs, h2, h3⟩ := h.en
  exact enow_any g now q fs w h2
theorem Hb.kq {w w' : World} {k : Nat} {s t : Int} (h : Hb w k s t) (hk : Kq w w') : Hb w' k s t := hk.2 k _ _ _ h (by decide) (by decide)
theorem OwnH.kq {w w' : World} {base : Nat} {v : Value} {l : List (Int × Int)} (h : OwnH w base v l) (hk : Kq w w') : OwnH w' base v l := row_kept h fun b hb => by
  obtain ⟨cur, hc⟩ := row_block h hb
  rw [hc]
  exact hk.2 b _ _ _ hc (by decide) (by decide)
theorem Hb.apart {w w0 : World} {k : Nat} {s t : Int} (h : Hb w k s t) : Apart w0 w (some ⟨k, 0, none⟩) := fun a e => by
  injection e with e
  subst e
  exact .inr ⟨_, _, _, h, by decide, by decide⟩
theorem OwnH.apart {w w0 : World} {base c m : Nat} {A : Option Addr} {l : List (Int × Int)} (h : OwnH w base (.slice A m c) l) : Apart w0 w A := fun a e => by
  rcases h.2 with ⟨h1, _⟩ | ⟨g, cap, cur, h1, h2, h3, h4⟩
  · injection h1 with h1
    rw [h1] at e
    cases e
  · injection h1 with h1
    rw [h1] at e
    injection e with e
    subst e
    exact .inr ⟨_, _, _, h3, by decide, by decide⟩
/-- Handles that came in are no limbo's. -/
theorem Hs.apart {w0 w : World} {c : Nat} {A : Option Addr} {l : List (Int × Int)} (h : Hs w0 A c l) (hp : 0 < l.length) : Apart w0 w A := fun a e => by
  obtain ⟨b, o, e', hat⟩ := h.lit hp
  rw [e] at e'
  injection e' with e'
  subst e'
  exact .inl (World.block_lt_of_cell? w0 _ (hat.two 0 hp).1)
theorem Ez.mod {w0 w w' : World} {g now : Nat} {q : List Wp} {fs' : List Nat} (h : Ez w0 w g now q) (hm : Mod fs' w w') (hd : ∀ k ∈ fs', w0.heap.size ≤ k ∧ ∃ (cs : Array Value) (t : TypeId) (z : Nat × Nat), w.heap[k]? = some (Obj.cells cs t z) ∧ t ≠ 47 ∧ t ≠ 49) : Ez w0 w' g now q := by
  obtain ⟨h1, fs, h2, h3⟩ := h
  refine ⟨h1.trans (hm.below h1.size fun k hk => (hd k hk).1), fs, h2.mod hm fun k hk hk' => ?_, h3⟩
  obtain ⟨_, cs, t, z, hc, t1, t2⟩ := hd k hk'
  obtain ⟨cs', t', hc', ht⟩ := h2.kind hk
  rw [hc] at hc'
  simp at hc'
  rcases ht with ht | ht
  · exact t1 (hc'.2.1.trans ht)
  · exact t2 (hc'.2.1.trans ht)
theorem Ez.grownH {w0 w w' : World} {g now : Nat} {q : List Wp} {v : Value} {l : List (Int × Int)} (h : Ez w0 w g now q) (ho : OwnH w w0.heap.size v l) (hg : w.grownBy w' v.ownBlock) : Ez w0 w' g now q :=
  h.mod (fs' := v.ownBlock.toList) (Mod.of_grown hg fun k hk => by simp [hk]) fun k hk => by
    rw [Option.mem_toList] at hk
    obtain ⟨cur, hc⟩ := row_block ho hk
    exact ⟨(World.ownsRow.lt ho k hk).1, cur, _, _, hc, by decide, by decide⟩
end Go.Proofs.Ytbfbnfnjjlibbaa
