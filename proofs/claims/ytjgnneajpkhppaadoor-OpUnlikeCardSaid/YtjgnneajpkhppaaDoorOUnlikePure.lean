/-
  Unlike operations have unlike bytes, neither of which the other one's begin with; are two rows of bytes one? No conditions beyond that they can be read.
-/
import Derived.Test.YtjgnneajpkhppaaDoorOBackWalk
namespace Go.Proofs.YtjgnneajpkhppaaDoor
open Go.RowKit
set_option linter.unusedVariables false

/-- An operation's parts. -/
structure O5 where
  n : Int
  r : Int
  d : Int
  t : Int
  l : List UInt8
def O5.B (o : O5) : List UInt8 := opB o.n o.r o.d o.t o.l
def O5.E (a b : O5) : Bool := opE a.n a.r a.d a.t a.l b.n b.r b.d b.t b.l
theorem B_right {o : O5} (h : 0 < o.B.length) : opR o.n o.r o.d o.t o.l = true := by
  unfold O5.B opB at h
  split at h
  · assumption
  · simp at h
theorem opv_inj {n r d t : Int} {l : List UInt8} {m s e u : Int} {k : List UInt8} (h : opv n r d t l = opv m s e u k) : n = m ∧ r = s ∧ d = e ∧ t = u ∧ l = k := by
  unfold opv at h
  simp at h
  obtain ⟨h1, h2, h3, h4, h5⟩ := h
  exact ⟨h1, h2, h3, h4, bs_inj h5⟩
/-- Unlike operations have unlike bytes. -/
theorem unlike_E {a b : O5} (ha : 0 < a.B.length) (hb : 0 < b.B.length) (h : a.B.length ≤ b.B.length) : decide (a.B = b.B.take a.B.length) = a.E b := by
  have ra := B_right ha
  have rb := B_right hb
  unfold O5.E opE
  by_cases e : a.n = b.n ∧ a.r = b.r ∧ a.d = b.d ∧ a.t = b.t ∧ a.l = b.l
  · rw [decide_eq_true e]
    obtain ⟨e1, e2, e3, e4, e5⟩ := e
    have : a.B = b.B := by unfold O5.B; rw [e1, e2, e3, e4, e5]
    rw [this]
    simp
  · rw [decide_eq_false e]
    refine decide_eq_false fun g => e ?_
    have p1 := (put_take ra (b.B.drop a.B.length)).2.1
    have p2 := (put_take rb []).2.1
    rw [List.append_nil] at p2
    have q : opB a.n a.r a.d a.t a.l ++ b.B.drop a.B.length = opB b.n b.r b.d b.t b.l := by
      show a.B ++ b.B.drop a.B.length = b.B
      conv => lhs; lhs; rw [g]
      exact List.take_append_drop _ _
    rw [q, p2] at p1
    obtain ⟨h1, h2, h3, h4, h5⟩ := opv_inj p1
    exact ⟨h1.symm, h2.symm, h3.symm, h4.symm, h5.symm⟩
theorem same_any (v1 v2 : Value) (a b : List UInt8) (w : World) (h1 : Hnd w v1 a) (h2 : Hnd w v2 b) :
    Calls Tryd.prog 16 #[v1, v2] w fun e w' => e = .returned (.bool (decide (a = b))) ∧ w = w' := by
  have c1 := conv_hnd h1
  have c2 := conv_hnd h2
  have E := hide (show ((bs a).toList == (bs b).toList) = decide (a = b) by rw [bs_list, bs_list]; by_cases h : a = b <;> simp [h])
  go_enter Tryd.func16, Tryd.ntmps16
  go_wp2
  go_ret
  exact ⟨ret_bool E.out, rfl⟩
end Go.Proofs.YtjgnneajpkhppaaDoor
