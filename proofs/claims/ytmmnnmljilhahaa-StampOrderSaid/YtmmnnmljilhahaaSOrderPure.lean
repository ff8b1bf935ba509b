/-
  Stamps stand in one order, and their numbers in the same: plain numbers. No conditions.
-/
import Derived.Test.YtmmnnmljilhahaaSRef
namespace Go.Proofs.Ytmmnnmljilhahaa
set_option linter.unusedVariables false

/-- A stamp is ahead of another. -/
def Ahead (n r m s : Int) : Prop := n < m ∨ n = m ∧ r < s
theorem ahead_tri (n r m s : Int) : Ahead n r m s ∨ (n = m ∧ r = s) ∨ Ahead m s n r := by unfold Ahead; omega
theorem Ahead.trans {n r m s k l : Int} (h : Ahead n r m s) (g : Ahead m s k l) : Ahead n r k l := by unfold Ahead at *; omega
theorem Ahead.less {n r m s : Int} (h : Ahead n r m s) : stC n r m s = -1 := stC_lt h
theorem Ahead.more {n r m s : Int} (h : Ahead n r m s) : stC m s n r = 1 := stC_gt (by rcases h with h | ⟨h, g⟩; exact .inl h; exact .inr ⟨h.symm, g⟩)
theorem stC_le {n r m s : Int} (h : stC n r m s ≤ 0) : Ahead n r m s ∨ (n = m ∧ r = s) := by
  rcases ahead_tri n r m s with g | g | g
  · exact .inl g
  · exact .inr g
  · rw [g.more] at h; omega
theorem stC_ge {n r m s : Int} (h : 0 ≤ stC n r m s) : Ahead m s n r ∨ (n = m ∧ r = s) := by
  rcases ahead_tri n r m s with g | g | g
  · rw [g.less] at h; omega
  · exact .inr g
  · exact .inl g
/-- Ahead of b, which is no more than c: no more than c. -/
theorem order_le {n r m s k l : Int} (h : Ahead n r m s) (y : stC m s k l ≤ 0) : stC n r k l ≤ 0 := by
  rcases stC_le y with g | ⟨rfl, rfl⟩
  · rw [(h.trans g).less]; omega
  · rw [h.less]; omega
theorem order_ge {n r m s k l : Int} (h : Ahead m s n r) (y : 0 ≤ stC m s k l) : 0 ≤ stC n r k l := by
  rcases stC_ge y with g | ⟨rfl, rfl⟩
  · rw [(g.trans h).more]; omega
  · rw [h.more]; omega
theorem id_ahead {n r m s : Int} (h : Ahead n r m s) (a : stR n r = true) (b : stR m s = true) : stI n r < stI m s := by
  have p := stR_t a
  have q := stR_t b
  have e : stI n r = n * 256 + r := by simp [stI, a]
  have f : stI m s = m * 256 + s := by simp [stI, b]
  rw [e, f]
  unfold Ahead at h
  omega
theorem Ahead.not {n r m s : Int} (h : Ahead n r m s) : (n == m && r == s) = false := by
  unfold Ahead at h
  simp
  omega
end Go.Proofs.Ytmmnnmljilhahaa
