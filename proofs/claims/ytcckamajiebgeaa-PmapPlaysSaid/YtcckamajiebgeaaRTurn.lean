/-
  What turn leaves of a draft's node, plain. No conditions.
-/
import Derived.Test.YtcckamajiebgeaaRSmall
namespace Go.Proofs.Ytcckamajiebgeaa
open Go.RowKit
set_option linter.unusedVariables false
set_option linter.unusedSimpArgs false
open Dt

/-- A node's blocks, pairs, handles went into a branch, of the height that one side had, or one more. -/
structure TnPost (F : Int → Int → Option Nd) (w0 : World) (gm gd : Nat) (gn : List (Int × Int)) (fs : List Nat) (f : Dt) (w w' : World) (m : Nat) (d : Dt) (op : List (Int × Int)) (fs' : List Nat) : Prop where
  S : Stp w0 gm gd gn fs f.fp w w' (gn ++ op) fs'
  D : DIn w0.heap.size w' d
  g : Gd F w.heap.size f.fp f.prs f.olds op d
  cnt : d.cnt = f.cnt + op.length
  len : op.length ≤ 2
  hh : m ≤ d.high ∧ d.high ≤ m + 1
  nw : ∀ T, d ≠ old T
theorem TnPost.weak {F : Int → Int → Option Nd} {w0 : World} {gm gd : Nat} {gn : List (Int × Int)} {fs : List Nat} {f : Dt} {w w1 w' : World} {m : Nat} {d : Dt} {op : List (Int × Int)} {fs' : List Nat} (H : TnPost F w0 gm gd gn fs f w1 w' m d op fs') (hD : Dr w0 w gm gd gn fs) (hb : Below w.heap.size w w1) : TnPost F w0 gm gd gn fs f w w' m d op fs' :=
  ⟨(Stp.of_below hD hb f.fp).trans H.S (fun k hk => .inl hk), H.D, ⟨H.g.ok, H.g.prs, H.g.olds, fun k hk => (H.g.fp k hk).imp_right fun h => Nat.le_trans hb.size h⟩, H.cnt, H.len, H.hh, H.nw⟩
theorem TnPost.box {F : Int → Int → Option Nd} {w0 : World} {gm gd : Nat} {gn : List (Int × Int)} {fs : List Nat} {f : Dt} {w w' : World} {m : Nat} {d : Dt} {op : List (Int × Int)} {fs' : List Nat} (H : TnPost F w0 gm gd gn fs f w w' m d op fs') {kx : Nat} {c : Option Nat × Int × Int} (hb : Bxb w' kx c) (hk : w.heap.size ≤ kx) (x y z : Value) : TnPost F w0 gm gd gn fs f w (((w'.setCell ⟨kx, 0, none⟩ x).setCell ⟨kx, 1, none⟩ y).setCell ⟨kx, 2, none⟩ z) m d op fs' :=
  ⟨H.S.box hb hk x y z, H.D.box hb x y z, H.g, H.cnt, H.len, H.hh, H.nw⟩
def TnRet (F : Int → Int → Option Nd) (w0 : World) (gm gd : Nat) (gn : List (Int × Int)) (fs : List Nat) (f : Dt) (m : Nat) (w : World) (e : Ending) (w' : World) : Prop :=
  ∃ d op fs', e = .returned (bvv d.bv) ∧ TnPost F w0 gm gd gn fs f w w' m d op fs'
end Go.Proofs.Ytcckamajiebgeaa
