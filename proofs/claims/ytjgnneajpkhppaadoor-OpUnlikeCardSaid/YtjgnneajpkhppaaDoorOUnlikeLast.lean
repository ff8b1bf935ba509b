/-
  The walk of the law OpUnlike, at the arguments as the row hands them. Conditions: the two tables of unicode/utf8 as the program's text lays them.
-/
import Derived.Test.YtjgnneajpkhppaaDoorOUnlikeWalk
namespace Go.Proofs.YtjgnneajpkhppaaDoor
open Go.RowKit
set_option linter.unusedVariables false

theorem opUnlike_walk (a b c e f a2 b2 c2 e2 f2 n r d t : Int) (l : ByteArray) (w : World) (ha : (Lit.int .u8 a).wf = true) (hb : (Lit.int .u8 b).wf = true) (hc : (Lit.int .u8 c).wf = true) (he : (Lit.int .u8 e).wf = true) (hf : (Lit.int .u8 f).wf = true)
    (ha2 : (Lit.int .u8 a2).wf = true) (hb2 : (Lit.int .u8 b2).wf = true) (hc2 : (Lit.int .u8 c2).wf = true) (he2 : (Lit.int .u8 e2).wf = true) (hf2 : (Lit.int .u8 f2).wf = true)
    (_ : (Lit.int .i64 n).wf = true) (_ : (Lit.int .i64 r).wf = true) (_ : (Lit.int .i64 d).wf = true) (_ : (Lit.int .i64 t).wf = true) (hl : l.size ≤ maxLen) (hE : Env w) :
    Calls Tryd.prog 7 #[.agg #[.int .u8 a, .int .u8 b, .int .u8 c, .int .u8 e, .int .u8 f], .agg #[.int .u8 a2, .int .u8 b2, .int .u8 c2, .int .u8 e2, .int .u8 f2], .agg #[.int .i64 n, .int .i64 r, .int .i64 d, .int .i64 t, .string l]] w (TrueRet w) := by
  have ha := bounds_u8 ha
  have hb := bounds_u8 hb
  have hc := bounds_u8 hc
  have he := bounds_u8 he
  have hf := bounds_u8 hf
  have ha2 := bounds_u8 ha2
  have hb2 := bounds_u8 hb2
  have hc2 := bounds_u8 hc2
  have he2 := bounds_u8 he2
  have hf2 := bounds_u8 hf2
  obtain ⟨a, rfl⟩ := Int.eq_ofNat_of_zero_le ha.1
  obtain ⟨b, rfl⟩ := Int.eq_ofNat_of_zero_le hb.1
  obtain ⟨c, rfl⟩ := Int.eq_ofNat_of_zero_le hc.1
  obtain ⟨e, rfl⟩ := Int.eq_ofNat_of_zero_le he.1
  obtain ⟨f, rfl⟩ := Int.eq_ofNat_of_zero_le hf.1
  obtain ⟨a2, rfl⟩ := Int.eq_ofNat_of_zero_le ha2.1
  obtain ⟨b2, rfl⟩ := Int.eq_ofNat_of_zero_le hb2.1
  obtain ⟨c2, rfl⟩ := Int.eq_ofNat_of_zero_le hc2.1
  obtain ⟨e2, rfl⟩ := Int.eq_ofNat_of_zero_le he2.1
  obtain ⟨f2, rfl⟩ := Int.eq_ofNat_of_zero_le hf2.1
  have h := opUnlike_in a b c e f a2 b2 c2 e2 f2 n r d t l.data.toList w (by omega) (by omega) (by omega) (by omega) (by omega) (by omega) (by omega) (by omega) (by omega) (by omega) (by simpa using hl) hE
  rw [bs_of] at h
  exact h
end Go.Proofs.YtjgnneajpkhppaaDoor
