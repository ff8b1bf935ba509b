/-
  Two logs side by side, in memory: what is put into one leaves the other. No conditions.
-/
import Derived.Test.YtimfeocaghccdaaGreatDoorLM3
namespace Go.Proofs.YtimfeocaghccdaaGreatDoor
open Go.RowKit Go.Maps
set_option linter.unusedVariables false
set_option linter.unusedSimpArgs false
set_option maxRecDepth 100000

theorem Lwg.mod {w0 w w' : World} {g most : Nat} {L : List O5} {fs fs' : List Nat} (h : Lwg w0 w g most L fs) (hm : Mod fs' w w') (hd : ∀ k ∈ fs, k ∉ fs') (hs : ∀ k ∈ fs', w0.heap.size ≤ k) : Lwg w0 w' g most L fs :=
  ⟨h.lg.mod hm hd, h.fs, h.bel.trans (hm.below h.bel.size hs)⟩
/-- Two logs side by side. -/
structure Duo9 (w0 w : World) (g h mg mh : Nat) (L M : List O5) (fg fh : List Nat) : Prop where
  lft : Lwg w0 w g mg L fg
  rgt : Lwg w0 w h mh M fh
  ap : ∀ k ∈ fg, k ∉ fh
theorem Duo9.below {w0 w w' : World} {g h mg mh : Nat} {L M : List O5} {fg fh : List Nat} (d : Duo9 w0 w g h mg mh L M fg fh) (hb : Below w.heap.size w w') : Duo9 w0 w' g h mg mh L M fg fh := ⟨d.lft.below hb, d.rgt.below hb, d.ap⟩
theorem Duo9.new {w0 w w' : World} {g h mg mh : Nat} {fg fh : List Nat} {L M : List O5} (h1 : Lwg w0 w g mg L fg) (h2 : Lwg w w' h mh M fh) : Duo9 w0 w' g h mg mh L M fg fh :=
  ⟨h1.below h2.bel, h2.back h1.bel, fun k hk hk' => by have := h1.lg.lt k hk; have := h2.fs k hk'; omega⟩
theorem Duo9.step1 {w0 w w' : World} {g h mg mh : Nat} {L M L' : List O5} {fg fh fg' : List Nat} (D : Duo9 w0 w g h mg mh L M fg fh) (hL : Lwg w0 w' g mg L' fg') (hm : Mod fg w w') (hf : ∀ k ∈ fg', k ∈ fg ∨ w.heap.size ≤ k) : Duo9 w0 w' g h mg mh L' M fg' fh := by
  refine ⟨hL, D.rgt.mod hm (fun k hk hk' => D.ap k hk' hk) D.lft.fs, fun k hk hk' => ?_⟩
  rcases hf k hk with h1 | h1
  · exact D.ap k h1 hk'
  · have := D.rgt.lg.lt k hk'
    omega
theorem Duo9.step2 {w0 w w' : World} {g h mg mh : Nat} {L M M' : List O5} {fg fh fh' : List Nat} (D : Duo9 w0 w g h mg mh L M fg fh) (hM : Lwg w0 w' h mh M' fh') (hm : Mod fh w w') (hf : ∀ k ∈ fh', k ∈ fh ∨ w.heap.size ≤ k) : Duo9 w0 w' g h mg mh L M' fg fh' := by
  refine ⟨D.lft.mod hm D.ap D.rgt.fs, hM, fun k hk hk' => ?_⟩
  rcases hf k hk' with h1 | h1
  · exact D.ap k hk h1
  · have := D.lft.lg.lt k hk
    omega
/-- A row of operations that neither log holds. -/
structure Row9 (w : World) (fg fh : List Nat) (v : Value) (os : List O5) : Prop where
  own : OwnOps w 0 v os
  ag : ∀ b, v.ownBlock = some b → b ∉ fg
  ah : ∀ b, v.ownBlock = some b → b ∉ fh
theorem Row9.below {w w' : World} {fg fh : List Nat} {v : Value} {os : List O5} (h : Row9 w fg fh v os) (hb : Below w.heap.size w w') : Row9 w' fg fh v os := ⟨h.own.below hb, h.ag, h.ah⟩
theorem Row9.new {w0 w w' : World} {g h mg mh : Nat} {L M : List O5} {fg fh : List Nat} {v : Value} {os : List O5} (D : Duo9 w0 w g h mg mh L M fg fh) (hr : OwnOps w' w.heap.size v os) : Row9 w' fg fh v os :=
  ⟨hr.base (Nat.zero_le _), fun b hb hk => by have := D.lft.lg.lt b hk; have := hr.row b hb; omega, fun b hb hk => by have := D.rgt.lg.lt b hk; have := hr.row b hb; omega⟩
theorem Row9.step1 {w w' : World} {fg fh fg' : List Nat} {v : Value} {os : List O5} (h : Row9 w fg fh v os) (hm : Mod fg w w') (hf : ∀ k ∈ fg', k ∈ fg ∨ w.heap.size ≤ k) : Row9 w' fg' fh v os :=
  ⟨h.own.mod hm h.ag, fun b hb hk => by
    rcases hf b hk with h1 | h1
    · exact h.ag b hb h1
    · have := h.own.lt hb
      omega, h.ah⟩
theorem Row9.step2 {w w' : World} {fg fh fh' : List Nat} {v : Value} {os : List O5} (h : Row9 w fg fh v os) (hm : Mod fh w w') (hf : ∀ k ∈ fh', k ∈ fh ∨ w.heap.size ≤ k) : Row9 w' fg fh' v os :=
  ⟨h.own.mod hm h.ah, h.ag, fun b hb hk => by
    rcases hf b hk with h1 | h1
    · exact h.ah b hb h1
    · have := h.own.lt hb
      omega⟩
/-- Two logs, and two rows that neither holds. -/
structure Four9 (w0 w : World) (g h mg mh : Nat) (L M : List O5) (fg fh : List Nat) (va : Value) (X : List O5) (vl : Value) (R : List O5) : Prop where
  duo : Duo9 w0 w g h mg mh L M fg fh
  ra : Row9 w fg fh va X
  rl : Row9 w fg fh vl R
theorem Four9.below {w0 w w' : World} {g h mg mh : Nat} {L M : List O5} {fg fh : List Nat} {va vl : Value} {X R : List O5} (F : Four9 w0 w g h mg mh L M fg fh va X vl R) (hb : Below w.heap.size w w') : Four9 w0 w' g h mg mh L M fg fh va X vl R := ⟨F.duo.below hb, F.ra.below hb, F.rl.below hb⟩
theorem Four9.step2 {w0 w w' : World} {g h mg mh : Nat} {L M M' : List O5} {fg fh fh' : List Nat} {va vl : Value} {X R : List O5} (F : Four9 w0 w g h mg mh L M fg fh va X vl R) (hM : Lwg w0 w' h mh M' fh') (hm : Mod fh w w') (hf : ∀ k ∈ fh', k ∈ fh ∨ w.heap.size ≤ k) : Four9 w0 w' g h mg mh L M' fg fh' va X vl R :=
  ⟨F.duo.step2 hM hm hf, F.ra.step2 hm hf, F.rl.step2 hm hf⟩
theorem Four9.row {w0 w w' : World} {g h mg mh : Nat} {L M : List O5} {fg fh : List Nat} {va vl vn : Value} {X R S : List O5} (F : Four9 w0 w g h mg mh L M fg fh va X vl R) (hb : Below w.heap.size w w') (hr : OwnOps w' w.heap.size vn S) : Four9 w0 w' g h mg mh L M fg fh va X vn S :=
  ⟨F.duo.below hb, F.ra.below hb, Row9.new F.duo hr⟩
/-- What is left when one was put: all that come are in the log, or are left. -/
structure Ord9 (X M R : List O5) : Prop where
  srt : SrtO M
  sub : ∀ x ∈ M, x ∈ X
  lft : ∀ x ∈ R, x ∈ X
  all : ∀ x ∈ X, x ∈ M ∨ x ∈ R
theorem Ord9.start (X : List O5) (q : Nat) : Ord9 X (putO [] (X.drop q)) X :=
  ⟨putF_srt ocF_order List.Pairwise.nil, fun x hx => by
    rcases mem_putF.1 hx with h | h
    · simp at h
    · exact List.mem_of_mem_drop h, fun x hx => hx, fun x hx => .inr hx⟩
theorem Ord9.step {X M R : List O5} (h : Ord9 X M R) {i : Nat} (hi : i < R.length) : Ord9 X (putO M [R[i]]) (R.take i ++ R.drop (i + 1)) := by
  have hR : ∀ x, x ∈ R ↔ x ∈ R.take i ∨ x = R[i] ∨ x ∈ R.drop (i + 1) := fun x => by
    have e : R = R.take i ++ R[i] :: R.drop (i + 1) := by rw [← List.drop_eq_getElem_cons hi, List.take_append_drop]
    have : x ∈ R ↔ x ∈ R.take i ++ R[i] :: R.drop (i + 1) := by rw [← e]
    rw [this, List.mem_append, List.mem_cons]
  refine ⟨putF_srt ocF_order h.srt, fun x hx => ?_, fun x hx => ?_, fun x hx => ?_⟩
  · rcases mem_putF.1 hx with hx | hx
    · exact h.sub x hx
    · rw [List.mem_singleton.1 hx]
      exact h.lft _ (List.getElem_mem hi)
  · rcases List.mem_append.1 hx with hx | hx
    · exact h.lft x ((hR x).2 (.inl hx))
    · exact h.lft x ((hR x).2 (.inr (.inr hx)))
  · rcases h.all x hx with hx | hx
    · exact .inl (mem_putF.2 (.inl hx))
    · rcases (hR x).1 hx with hx | hx | hx
      · exact .inr (List.mem_append.2 (.inl hx))
      · exact .inl (mem_putF.2 (.inr (by rw [hx]; simp)))
      · exact .inr (List.mem_append.2 (.inr hx))
theorem Ord9.done {X M : List O5} (h : Ord9 X M []) : putO [] X = M :=
  putF_eq ocF_order List.Pairwise.nil h.srt fun x => ⟨fun hx => .inr (h.sub x hx), fun hx => by
    rcases hx with hx | hx
    · simp at hx
    · exact (h.all x hx).elim id (fun h => by simp at h)⟩
theorem Ord9.len {X M R : List O5} (h : Ord9 X M R) (q : Nat) (hq : X.length ≤ q) : M.length ≤ q := by
  have hsub := List.Nodup.length_le_of_subset (h.srt.nodup ocF_order) (fun x hx => h.sub x hx)
  omega
end Go.Proofs.YtimfeocaghccdaaGreatDoor
