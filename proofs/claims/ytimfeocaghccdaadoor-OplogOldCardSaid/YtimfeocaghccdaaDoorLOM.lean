/-
  The walk of TreeLast. Conditions: those of the statement.
  For OplogOld: what comes with the greatest stamp is the last, wherever it is put in; a node told to be below the root is there.
  The walk of OplogOld. Conditions: those of the statement.
-/
import Derived.Test.YtimfeocaghccdaaDoorTLaw
import Derived.Test.YtimfeocaghccdaaDoorLM3
import Derived.Deep.CutRange
import Derived.Deep.RegionHeld3
namespace Go.Proofs.YtimfeocaghccdaaDoor
set_option maxRecDepth 100000
open Go.RowKit Go.Maps
set_option linter.unusedVariables false
set_option linter.unusedSimpArgs false
set_option maxRecDepth 100000

/-- What all statements over small operations begin with: a tree of them. -/
theorem small_tree {w : World} {A : Option Addr} {c : Nat} {ts : List T5} (hn : ts.length ≤ 30) : (ts.map ofT).length ≤ 1000 := by simp; omega
def lastO (t : T5) : O5 := { ofT t with t := 0 }
theorem lastO_R (t : T5) : (lastO t).R = true := by
  have h := ofT_R t
  obtain ⟨h1, h2, _, h4⟩ := opR_t h
  show opR _ _ _ _ _ = true
  unfold opR
  have h3 : toB 0 = true := by decide
  have h1' : stR (lastO t).n (lastO t).r = true := h1
  have h2' : ndB (lastO t).d = true := h2
  have h4' : right (lastO t).l = true := h4
  rw [h1', h2', h4']
  exact h3
/-- What is told to be below the root is put there. -/
theorem can_root {L : List Kd} (h : Wf L) {o : O5} (hr : o.R = true) (ht : o.t = 0) : can L o = true := by
  have hd := (O5.R_t hr).1
  unfold can
  rw [ht]
  have e1 : isKn L 0 = true := rfl
  have e2 : abv L o.d 0 = false := by
    cases e : abv L o.d 0 with
    | false => rfl
    | true =>
      obtain ⟨_, hx⟩ := (h.abv _ _).1 e
      exfalso
      generalize hz : (0 : Int) = z at hx
      cases hx with
      | self => omega
      | up hf _ =>
        subst hz
        rw [fnd_top h.lo (by omega)] at hf
        cases hf
  rw [e1, e2]
  rfl
theorem last_above {L : List Kd} (h : Wf L) {o : O5} (hr : o.R = true) (ht : o.t = 0) : abv (app L o) 0 o.d = true ∧ abv (app L o) 1 o.d = false := by
  have hc := can_root h hr ht
  have hW := h.app hr
  have ha : app L o = putS L o.d (some o.kd) := by unfold app; rw [hc]; simp
  have hf : fnd (app L o) o.d = some o.kd := by rw [ha, fnd_moved, if_pos rfl]
  have hk : isKn (app L o) o.d = true := by unfold isKn; rw [hf]; simp
  refine ⟨(hW.abv _ _).2 ⟨hk, .up hf (by show Anc _ 0 o.t; rw [ht]; exact .self)⟩, ?_⟩
  cases e : abv (app L o) 1 o.d with
  | false => rfl
  | true =>
    obtain ⟨_, hx⟩ := (hW.abv _ _).1 e
    exfalso
    generalize hz : o.d = z at hx
    have hd := (O5.R_t hr).1
    cases hx with
    | self => omega
    | up hf' hx' =>
      subst hz
      rw [hf] at hf'
      cases hf'
      have hx2 : Anc (app L o) 1 0 := by
        have : o.kd.to = 0 := ht
        rw [← this]
        exact hx'
      generalize hz : (0 : Int) = z at hx2
      cases hx2 with
      | self => omega
      | up hf3 _ =>
        subst hz
        rw [fnd_top hW.lo (by omega)] at hf3
        cases hf3
theorem countP_one {L : List Kd} (h : L.Nodup) {k : Kd} (hk : k ∈ L) : L.countP (fun x => decide (x = k)) = 1 := by
  induction L with
  | nil => simp at hk
  | cons x L ih =>
    obtain ⟨h1, h2⟩ := List.nodup_cons.1 h
    rw [List.countP_cons]
    by_cases e : x = k
    · subst e
      rw [List.countP_eq_zero.2 (fun y hy => by simp; rintro rfl; exact h1 hy)]
      simp
    · rcases List.mem_cons.1 hk with rfl | hk'
      · exact absurd rfl e
      · rw [ih h2 hk']
        simp [e]
theorem last_count {L : List Kd} (h : Wf L) {o : O5} (hr : o.R = true) (ht : o.t = 0) : (sortK ((app L o).filter fun k => k.to == 0)).countP (fun x => decide (x = ⟨0, o.l, o.d⟩)) = 1 := by
  have hc := can_root h hr ht
  have hW := h.app hr
  have ha : app L o = putS L o.d (some o.kd) := by unfold app; rw [hc]; simp
  have hkd : o.kd = ⟨0, o.l, o.d⟩ := by unfold O5.kd; rw [ht]
  have hf : fnd (app L o) o.d = some o.kd := by rw [ha, fnd_moved, if_pos rfl]
  have hp := sortK_perm ((app L o).filter fun k => k.to == 0)
  refine countP_one (hp.nodup_iff.2 (List.filter_sublist.nodup (nodup_of_nd hW.one))) (hp.mem_iff.2 (List.mem_filter.2 ⟨?_, rfl⟩))
  rw [← hkd]
  exact (fnd_some hf).1
def LastRel (w : World) (ks : List Kd) (x : Kd) (n i : Value) (wr : World) : Prop :=
  ∃ k : Nat, k ≤ ks.length ∧ i = .int .i64 (k : Int) ∧ n = .int .i64 (((ks.take k).countP fun y => decide (y = x) : Nat) : Int) ∧ Below w.heap.size w wr
theorem countP_le (ks : List Kd) (x : Kd) (k : Nat) : (ks.take k).countP (fun y => decide (y = x)) ≤ k := Nat.le_trans List.countP_le_length (by rw [List.length_take]; omega)
end Go.Proofs.YtimfeocaghccdaaDoor
namespace Go.Proofs.YtimfeocaghccdaaDoor
set_option maxRecDepth 100000
open Go.RowKit Go.Maps
set_option linter.unusedVariables false
set_option linter.unusedSimpArgs false
set_option maxRecDepth 100000

def oldO (t : T5) : O5 := ⟨1000, 3, (ofT t).d, 0, (ofT t).l⟩
theorem oldO_R (t : T5) : (oldO t).R = true := by
  have h := ofT_R t
  obtain ⟨h1, h2, _, h4⟩ := opR_t h
  show opR _ _ _ _ _ = true
  unfold opR
  have h1' : stR (oldO t).n (oldO t).r = true := show stR 1000 3 = true by decide
  have h2' : ndB (oldO t).d = true := h2
  have h3 : toB (oldO t).t = true := show toB 0 = true by decide
  have h4' : right (oldO t).l = true := h4
  rw [h1', h2', h3, h4']
  rfl
theorem ocF_less {a b : O5} (h : a.n < b.n) : ocF a b < 0 := by
  have e : cm a.n b.n = -1 := by unfold cm; rw [if_pos h]
  unfold ocF opC stC
  rw [e]
  simp
theorem ofT_n (ts : List T5) : ∀ o ∈ ts.map ofT, o.n ≤ 40 := by
  intro o ho
  obtain ⟨t, _, rfl⟩ := List.mem_map.1 ho
  show 1 + (t.a : Int) % 40 ≤ 40
  omega
theorem old_srt {M : List O5} {o : O5} (hM : SrtO M) (hn : ∀ x ∈ M, x.n < o.n) : SrtO (M ++ [o]) :=
  List.pairwise_append.2 ⟨hM, List.pairwise_singleton _ _, fun a ha b hb => by
    rw [List.mem_singleton.1 hb]
    exact ocF_less (hn a ha)⟩
theorem old_first {X : List O5} {o : O5} (hn : ∀ x ∈ X, x.n < o.n) : putO [o] X = putO [] X ++ [o] := by
  have hM : SrtO (putO [] X) := putF_srt ocF_order List.Pairwise.nil
  refine putF_eq ocF_order (List.pairwise_singleton _ _) (old_srt hM fun x hx => hn x ?_) fun x => ?_
  · exact (mem_putF.1 hx).elim (fun h => by simp at h) id
  · rw [List.mem_append, mem_putF]
    simp
    exact Or.comm
theorem old_late {X : List O5} {o : O5} (hn : ∀ x ∈ X, x.n < o.n) : putO (putO [] X) [o] = putO [] X ++ [o] := by
  have hM : SrtO (putO [] X) := putF_srt ocF_order List.Pairwise.nil
  refine putF_eq ocF_order hM (old_srt hM fun x hx => hn x ?_) fun x => ?_
  · exact (mem_putF.1 hx).elim (fun h => by simp at h) id
  · rw [List.mem_append]
theorem old_spot (M : List O5) {o : O5} (hr : o.R = true) (ht : o.t = 0) : fnd (runS (M ++ [o])).1 o.d = some o.kd := by
  rw [runS_snoc, stp_right hr]
  have h := (runS_hst M).wf
  have hc := can_root h hr ht
  have ha : app (runS M).1 o = putS (runS M).1 o.d (some o.kd) := by unfold app; rw [hc]; simp
  show fnd (app (runS M).1 o) o.d = some o.kd
  rw [ha, fnd_moved, if_pos rfl]
theorem old_top {M : List O5} {o : O5} (h0 : 0 ≤ o.n) (hn : ∀ x ∈ M, x.n < o.n) : topO (M ++ [o]) = o.n := by
  rw [topO_snoc]
  have := topO_le (L := M) (m := o.n) (fun x hx => by have := hn x hx; omega) 0 h0
  have e : topO M = M.foldl (fun m o => max m o.n) 0 := rfl
  omega
/-- Two logs side by side. -/
structure Duo8 (w0 w : World) (g h : Nat) (L M : List O5) (fg fh : List Nat) : Prop where
  lft : Lwg w0 w g 1000 L fg
  rgt : Lwg w0 w h 1000 M fh
  ap : ∀ k ∈ fg, k ∉ fh
theorem Duo8.below {w0 w w' : World} {g h : Nat} {L M : List O5} {fg fh : List Nat} (d : Duo8 w0 w g h L M fg fh) (hb : Below w.heap.size w w') : Duo8 w0 w' g h L M fg fh := ⟨d.lft.below hb, d.rgt.below hb, d.ap⟩
theorem Lwg.mod {w0 w w' : World} {g most : Nat} {L : List O5} {fs fs' : List Nat} (h : Lwg w0 w g most L fs) (hm : Mod fs' w w') (hd : ∀ k ∈ fs, k ∉ fs') (hs : ∀ k ∈ fs', w0.heap.size ≤ k) : Lwg w0 w' g most L fs :=
  ⟨h.lg.mod hm hd, h.fs, h.bel.trans (hm.below h.bel.size hs)⟩
/-- A batch was put into the one, into the other. -/
theorem Duo8.put1 {w0 w w' : World} {g h : Nat} {L M L' : List O5} {fg fh : List Nat} {d : Nat} {E : Int} {e : Ending} (D : Duo8 w0 w g h L M fg fh) (hp : PutO w0 w g 1000 L L' d E fg e w') :
    ∃ A k c fg', e = .returned (.tuple #[.int .i64 (d : Int), .slice A k c, .int .i64 E]) ∧ Duo8 w0 w' g h L' M fg' fh := by
  obtain ⟨A, k, c, fs', rfl, -, hL, hm, hf⟩ := hp
  refine ⟨A, k, c, fs', rfl, hL, D.rgt.mod hm (fun k hk hk' => D.ap k hk' hk) D.lft.fs, fun k hk hk' => ?_⟩
  rcases hf k hk with h1 | h1
  · exact D.ap k h1 hk'
  · have := D.rgt.lg.lt k hk'
    omega
theorem Duo8.put2 {w0 w w' : World} {g h : Nat} {L M M' : List O5} {fg fh : List Nat} {d : Nat} {E : Int} {e : Ending} (D : Duo8 w0 w g h L M fg fh) (hp : PutO w0 w h 1000 M M' d E fh e w') :
    ∃ A k c fh', e = .returned (.tuple #[.int .i64 (d : Int), .slice A k c, .int .i64 E]) ∧ Duo8 w0 w' g h L M' fg fh' := by
  obtain ⟨A, k, c, fs', rfl, -, hL, hm, hf⟩ := hp
  refine ⟨A, k, c, fs', rfl, D.lft.mod hm D.ap D.rgt.fs, hL, fun k hk hk' => ?_⟩
  rcases hf k hk' with h1 | h1
  · exact D.ap k hk h1
  · have := D.lft.lg.lt k hk
    omega
theorem Duo8.new {w0 w w' : World} {g h : Nat} {fg fh : List Nat} {L : List O5} (h1 : Lwg w0 w g 1000 L fg) (h2 : Lwg w w' h 1000 [] fh) : Duo8 w0 w' g h L [] fg fh :=
  ⟨h1.below h2.bel, h2.back h1.bel, fun k hk hk' => by have := h1.lg.lt k hk; have := h2.fs k hk'; omega⟩
/-- What lies there when all is put: the two logs, the two trees, the operation, the spot that is wanted. -/
structure Old8 (w0 : World) (g q : Nat) (E : List O5) (fg fq : List Nat) (b1 b2 : Nat) (f1 f2 : List Nat) (kq kw : Nat) (o : O5) (w : World) : Prop where
  duo : Duo8 w0 w g q E E fg fq
  t1 : Tr w b1 (runS E).1 (runS E).2 f1
  t2 : Tr w b2 (runS E).1 (runS E).2 f2
  rq : w.heap[kq]? = some (.cells #[.int .i64 1000, .int .i64 3, .int .i64 o.d, .int .i64 0, .string (bs o.l)] 48 (0, 0))
  rw : w.heap[kw]? = some (.cells #[.bool true, .int .i64 0, .string (bs o.l)] 35 (0, 0))
theorem Old8.below {w0 : World} {g q : Nat} {E : List O5} {fg fq : List Nat} {b1 b2 : Nat} {f1 f2 : List Nat} {kq kw : Nat} {o : O5} {w w' : World} (h : Old8 w0 g q E fg fq b1 b2 f1 f2 kq kw o w) (hb : Below w.heap.size w w') : Old8 w0 g q E fg fq b1 b2 f1 f2 kq kw o w' :=
  ⟨h.duo.below hb, h.t1.below hb, h.t2.below hb, (hb.block _ (Array.getElem?_eq_some_iff.1 h.rq).1).trans h.rq, (hb.block _ (Array.getElem?_eq_some_iff.1 h.rw).1).trans h.rw⟩
theorem Old8.cells {w0 : World} {g q : Nat} {E : List O5} {fg fq : List Nat} {b1 b2 : Nat} {f1 f2 : List Nat} {kq kw : Nat} {o : O5} {w : World} (h : Old8 w0 g q E fg fq b1 b2 f1 f2 kq kw o w) :
    (w.cell? ⟨kq, 0, none⟩ = some (.int .i64 1000) ∧ w.cell? ⟨kq, 1, none⟩ = some (.int .i64 3) ∧ w.cell? ⟨kq, 2, none⟩ = some (.int .i64 o.d) ∧ w.cell? ⟨kq, 3, none⟩ = some (.int .i64 0) ∧ w.cell? ⟨kq, 4, none⟩ = some (.string (bs o.l)))
    ∧ w.cell? ⟨kw, 0, none⟩ = some (.bool true) ∧ w.cell? ⟨kw, 1, none⟩ = some (.int .i64 0) ∧ w.cell? ⟨kw, 2, none⟩ = some (.string (bs o.l)) := by
  have a0 := cell_of_row _ _ 0 _ _ (0, 0) h.rq
  have a1 := cell_of_row _ _ 1 _ _ (0, 0) h.rq
  have a2 := cell_of_row _ _ 2 _ _ (0, 0) h.rq
  have a3 := cell_of_row _ _ 3 _ _ (0, 0) h.rq
  have a4 := cell_of_row _ _ 4 _ _ (0, 0) h.rq
  have c0 := cell_of_row _ _ 0 _ _ (0, 0) h.rw
  have c1 := cell_of_row _ _ 1 _ _ (0, 0) h.rw
  have c2 := cell_of_row _ _ 2 _ _ (0, 0) h.rw
  simp at a0 a1 a2 a3 a4 c0 c1 c2
  exact ⟨⟨a0, a1, a2, a3, a4⟩, c0, c1, c2⟩
end Go.Proofs.YtimfeocaghccdaaDoor
namespace Go.Proofs.YtimfeocaghccdaaDoor
set_option maxRecDepth 100000
open Go.RowKit Go.Maps
set_option linter.unusedVariables false
set_option linter.unusedSimpArgs false
set_option maxRecDepth 100000

set_option maxHeartbeats 1000000 in
theorem oplogOld_walk (a : Option Addr) (len cap : Nat) (ts : List T5) (ta tb tc te tf : Int) (W : World) (h : IsTns W a len cap ts)
    (ha : (Lit.int .u8 ta).wf = true) (hb : (Lit.int .u8 tb).wf = true) (hc : (Lit.int .u8 tc).wf = true) (he : (Lit.int .u8 te).wf = true) (hf : (Lit.int .u8 tf).wf = true) (hE : Env W) :
    Calls Tryd.prog 5 #[.slice a len cap, .agg #[.int .u8 ta, .int .u8 tb, .int .u8 tc, .int .u8 te, .int .u8 tf]] W (TrueRet W) := by
  obtain ⟨rfl, hts, hok⟩ := h
  have ha := bounds_u8 ha
  have hb := bounds_u8 hb
  have hc := bounds_u8 hc
  have he := bounds_u8 he
  have hf := bounds_u8 hf
  obtain ⟨ta, rfl⟩ : ∃ n : Nat, ta = n := ⟨ta.toNat, by omega⟩
  obtain ⟨tb, rfl⟩ : ∃ n : Nat, tb = n := ⟨tb.toNat, by omega⟩
  obtain ⟨tc, rfl⟩ : ∃ n : Nat, tc = n := ⟨tc.toNat, by omega⟩
  obtain ⟨te, rfl⟩ : ∃ n : Nat, te = n := ⟨te.toNat, by omega⟩
  obtain ⟨tf, rfl⟩ : ∃ n : Nat, tf = n := ⟨tf.toNat, by omega⟩
  have KO := hide (fun W => of_any ta tb tc te tf W (by omega) (by omega) (by omega) (by omega) (by omega))
  obtain ⟨t, ht⟩ : ∃ t : T5, t = ⟨ta, tb, tc, te, tf⟩ := ⟨_, rfl⟩
  have hx : ofT t = ⟨1 + (ta : Int) % 40, (tb : Int) % 4, 256 + (tc : Int) % 8, toOf te, [b8 (97 + tf % 8)]⟩ := by rw [ht]; rfl
  have EX := hide hx
  clear ht hx ha hb hc he hf
  have Bz := (Below.refl W.heap.size W).alloc (Nat.le_refl _) (.cells #[.int .u8 (ta : Int), .int .u8 (tb : Int), .int .u8 (tc : Int), .int .u8 (te : Int), .int .u8 (tf : Int)] 44)
  have bx := heap_alloc_new W (.cells #[.int .u8 (ta : Int), .int .u8 (tb : Int), .int .u8 (tc : Int), .int .u8 (te : Int), .int .u8 (tf : Int)] 44)
  have HBX := hide bx
  have B0 := hide Bz
  have HT := hide hts
  have HK := hide hok
  have HE := hide hE
  have lx : W.heap.size < (W.alloc (.cells #[.int .u8 (ta : Int), .int .u8 (tb : Int), .int .u8 (tc : Int), .int .u8 (te : Int), .int .u8 (tf : Int)] 44)).heap.size := by simp
  clear Bz bx hts hok hE
  go_enter Tryd.func5, Tryd.ntmps5
  go_wp2_with fail
  refine (lawake_any _ (HE.out.below B0.out)).mono ?_
  rintro e w1 ⟨rfl, hb⟩
  have B1 := hide (B0.out.trans (hb.mono (by simp)))
  have X1 := (hb.block _ lx).trans HBX.out
  have y0 := cell_of_row _ _ 0 _ _ (0, 0) X1
  have y1 := cell_of_row _ _ 1 _ _ (0, 0) X1
  have y2 := cell_of_row _ _ 2 _ _ (0, 0) X1
  have y3 := cell_of_row _ _ 3 _ _ (0, 0) X1
  have y4 := cell_of_row _ _ 4 _ _ (0, 0) X1
  simp at y0 y1 y2 y3 y4
  clear hb B0 HBX lx X1
  by_cases h1 : ts.length ≤ 24
  · have d1 : decide ((ts.length : Int) > 24) = false := by simp; omega
    go_wp2_with fail
    clear d1
    refine (KO.out _).mono ?_
    rintro e w2 ⟨rfl, hb⟩
    have B2 := hide (B1.out.trans (hb.mono B1.out.size))
    clear hb KO B1 y0 y1 y2 y3 y4
    obtain ⟨o, ho⟩ : ∃ o : O5, o = oldO t := ⟨_, rfl⟩
    have hR : o.R = true := by rw [ho]; exact oldO_R t
    have e0 : o = ⟨1000, 3, o.d, 0, o.l⟩ := by rw [ho]; rfl
    have e3 : o.d = 256 + (tc : Int) % 8 := by rw [ho]; show (ofT t).d = _; rw [EX.out]
    have e4 : o.l = [b8 (97 + tf % 8)] := by rw [ho]; show (ofT t).l = _; rw [EX.out]
    have hdd : i64B o.d := by unfold i64B; omega
    unfold opv
    rw [← e3, ← e4]
    generalize toOf te = tt
    generalize 1 + (ta : Int) % 40 = nn
    generalize (tb : Int) % 4 = rr
    have HR := hide hR
    have HO := hide e0
    have hdv : 256 ≤ o.d ∧ o.d ≤ 263 := by omega
    clear ho hR e0 e3 e4 EX
    have Bz := (Below.refl w2.heap.size w2).alloc (Nat.le_refl _) (.cells #[.int .i64 1000, .int .i64 3, .int .i64 o.d, .int .i64 0, .string (bs o.l)] 48)
    have bx := heap_alloc_new w2 (.cells #[.int .i64 1000, .int .i64 3, .int .i64 o.d, .int .i64 0, .string (bs o.l)] 48)
    have B3 := hide (B2.out.trans (Bz.mono B2.out.size))
    have HX := hide bx
    clear Bz bx B2
    go_upto_region 7 with (fail)
    generalize w2.alloc (.cells #[.int .i64 1000, .int .i64 3, .int .i64 o.d, .int .i64 0, .string (bs o.l)] 48) = w3 at B3 HX ⊢
    obtain ⟨X, hX⟩ : ∃ X, ts.map ofT = X := ⟨_, rfl⟩
    have XR := hide (show AllR X by rw [← hX]; exact tiny_R ts)
    have XN := hide (show ∀ o ∈ X, o.l.length ≤ maxLen by rw [← hX]; exact ofT_name ts)
    have on : o.n = 1000 := by rw [HO.out]
    have XO := show ∀ x ∈ X, x.n < o.n by rw [← hX, on]; intro x hx; have := ofT_n ts x hx; omega
    have xl : X.length ≤ 24 := by rw [← hX, List.length_map]; exact h1
    have XE := hide hX
    obtain ⟨M, hM⟩ : ∃ M, putO [] X = M := ⟨_, rfl⟩
    have m1 : M.length ≤ 24 := by
      have := putF_most (f := ocF) X []
      rw [show putF ocF [] X = M from hM] at this
      simp at this
      omega
    have p1 : putO [o] X = M ++ [o] := by rw [old_first XO, hM]
    have p2 : putO M [o] = M ++ [o] := by rw [← hM]; exact old_late XO
    have p0 : putO [] [o] = [o] := by simp [putF, wthF, insF]
    have MO : ∀ x ∈ M, x.n < o.n := fun x hx => by
      rw [← hM] at hx
      exact XO x ((mem_putF.1 hx).elim (fun h => by simp at h) id)
    have S1 := hide (old_spot M HR.out (by rw [HO.out]))
    have S2 := hide (show topO (M ++ [o]) = 1000 by rw [old_top (by omega) MO, on])
    have oln : o.l.length ≤ maxLen := by
      have := right_len (O5.R_t HR.out).2.2
      unfold maxLen
      omega
    have ON := hide (show ∀ x ∈ [o], x.l.length ≤ maxLen from fun x hx => by rw [List.mem_singleton.1 hx]; exact oln)
    have OR := hide (show AllR [o] from fun x hx => by rw [List.mem_singleton.1 hx]; exact HR.out)
    have ONE := hide (fun (w : World) => show Ops (w.alloc (.cells #[.int .i64 1000, .int .i64 3, .int .i64 o.d, .int .i64 0, .string (bs o.l)] 48)) (some ⟨w.heap.size, 0, none⟩) 1 [o] by
      have h := ops_new w ⟨1000, 3, o.d, 0, o.l⟩
      have e : [o] = [⟨1000, 3, o.d, 0, o.l⟩] := congrArg (fun x => [x]) HO.out
      rw [e]
      exact h)
    have H0 := hide p0
    have H1 := hide p1
    have H2 := hide p2
    have HM := hide hM
    have HEX := hide (HE.out.below B3.out)
    have lq : w2.heap.size < w3.heap.size := (Array.getElem?_eq_some_iff.1 HX.out).1
    clear XO on hX hM p0 p1 p2 MO oln
    go_wp2_with fail
    refine (lnew_any 1000 w3).mono ?_
    rintro e w4 ⟨g, fg, rfl, hG⟩
    have HG := hide hG
    clear hG
    go_wp2_with fail
    refine (lnew_any 1000 w4).mono ?_
    rintro e w5 ⟨q, fq, rfl, hQ⟩
    have D5 := Duo8.new HG.out hQ
    have X5 := (D5.lft.bel.block _ lq).trans HX.out
    have z0 := cell_of_row _ _ 0 _ _ (0, 0) X5
    have z1 := cell_of_row _ _ 1 _ _ (0, 0) X5
    have z2 := cell_of_row _ _ 2 _ _ (0, 0) X5
    have z3 := cell_of_row _ _ 3 _ _ (0, 0) X5
    have z4 := cell_of_row _ _ 4 _ _ (0, 0) X5
    simp at z0 z1 z2 z3 z4
    have Bz := (Below.refl w5.heap.size w5).alloc (Nat.le_refl _) (.cells #[.int .i64 1000, .int .i64 3, .int .i64 o.d, .int .i64 0, .string (bs o.l)] 48)
    have D6 := hide (D5.below Bz)
    have K6 := hide (put_fits w3 HEX.out g 1000 [] fg (some ⟨w5.heap.size, 0, none⟩) 1 [o] OR.out ON.out (by simp) (by rw [H0.out]; simp) _ D6.out.lft (ONE.out w5))
    rw [H0.out] at K6
    clear HG hQ D5 X5 Bz
    go_wp2_with fail
    refine K6.out.mono ?_
    rintro e w7 hp
    obtain ⟨A7, k7, c7, fg7, rfl, hD7⟩ := D6.out.put1 hp
    have D7 := hide hD7
    have T7 := hide (HT.out.below (B3.out.trans (hD7.lft.bel.mono B3.out.size)))
    clear hp hD7 K6 D6 z0 z1 z2 z3 z4
    go_wp2_with fail
    refine (all_any a cap ts w7 (by omega) HK.out T7.out).mono ?_
    rintro e w8 ⟨v8, rfl, hv8, hb8⟩
    rw [XE.out] at hv8
    obtain ⟨A8, c8, rfl, ho8⟩ := hv8.ops
    have D8 := hide (D7.out.below hb8)
    have O8 := hide ho8
    clear hv8 hb8 ho8 T7 D7
    have K8 := hide (put_fits w3 HEX.out g 1000 [o] fg7 A8 c8 X XR.out XN.out (by simp; omega) (by rw [H1.out]; simp; omega) w8 D8.out.lft O8.out)
    rw [H1.out] at K8
    go_wp2_with fail
    refine K8.out.mono ?_
    rintro e w9 hp
    obtain ⟨A9, k9, c9, fg9, rfl, hD9⟩ := D8.out.put1 hp
    have D9 := hide hD9
    have T9 := hide (HT.out.below (B3.out.trans (hD9.lft.bel.mono B3.out.size)))
    clear hp hD9 K8 D8 O8
    go_wp2_with fail
    refine (all_any a cap ts w9 (by omega) HK.out T9.out).mono ?_
    rintro e w10 ⟨v10, rfl, hv10, hb10⟩
    rw [XE.out] at hv10
    obtain ⟨A10, c10, rfl, ho10⟩ := hv10.ops
    have D10 := hide (D9.out.below hb10)
    have O10 := hide ho10
    clear hv10 hb10 ho10 T9 D9
    have K10 := hide (put_fits w3 HEX.out q 1000 [] fq A10 c10 X XR.out XN.out (by simp; omega) (by rw [HM.out]; omega) w10 D10.out.rgt O10.out)
    rw [HM.out] at K10
    go_wp2_with fail
    refine K10.out.mono ?_
    rintro e w11 hp
    obtain ⟨A11, k11, c11, fq11, rfl, hD11⟩ := D10.out.put2 hp
    have X11 := (hD11.lft.bel.block _ lq).trans HX.out
    have z0 := cell_of_row _ _ 0 _ _ (0, 0) X11
    have z1 := cell_of_row _ _ 1 _ _ (0, 0) X11
    have z2 := cell_of_row _ _ 2 _ _ (0, 0) X11
    have z3 := cell_of_row _ _ 3 _ _ (0, 0) X11
    have z4 := cell_of_row _ _ 4 _ _ (0, 0) X11
    simp at z0 z1 z2 z3 z4
    have Bz := (Below.refl w11.heap.size w11).alloc (Nat.le_refl _) (.cells #[.int .i64 1000, .int .i64 3, .int .i64 o.d, .int .i64 0, .string (bs o.l)] 48)
    have D12 := hide (hD11.below Bz)
    clear hp hD11 K10 D10 O10 X11 Bz
    have K12 := hide (put_fits w3 HEX.out q 1000 M fq11 (some ⟨w11.heap.size, 0, none⟩) 1 [o] OR.out ON.out (by simp; omega) (by rw [H2.out]; simp; omega) _ D12.out.rgt (ONE.out w11))
    rw [H2.out] at K12
    go_wp2_with fail
    refine K12.out.mono ?_
    rintro e w13 hp
    obtain ⟨A13, k13, c13, fq13, rfl, hD13⟩ := D12.out.put2 hp
    have D13 := hide hD13
    clear hp hD13 K12 D12 z0 z1 z2 z3 z4
    obtain ⟨E, hEe⟩ : ∃ E, M ++ [o] = E := ⟨_, rfl⟩
    have el : E.length ≤ 25 := by rw [← hEe]; simp; omega
    have oE : decide (o ∈ E) = true := by rw [← hEe]; simp
    rw [hEe] at D13 S1 S2
    clear hEe H1 H2 H0
    go_wp2_with fail
    refine (ltree_any g 1000 E fg9 (by omega) w13 D13.out.lft.lg).mono ?_
    rintro e w14 ⟨b1, f1, rfl, hT1, -, hb14⟩
    have D14 := hide (D13.out.below hb14)
    have T1 := hide hT1
    clear hT1 hb14 D13
    go_wp2_with fail
    refine (ltree_any q 1000 E fq13 (by omega) w14 D14.out.rgt.lg).mono ?_
    rintro e w15 ⟨b2, f2, rfl, hT2, -, hb15⟩
    have D15 := hide (D14.out.below hb15)
    have T1' := hide (T1.out.below hb15)
    have T2 := hide hT2
    have X15 := (D15.out.lft.bel.block _ lq).trans HX.out
    have z4 := cell_of_row _ _ 4 _ _ (0, 0) X15
    simp at z4
    clear hT2 hb15 D14 T1
    go_upto_region 20 with (fail)
    have Bz := (Below.refl w15.heap.size w15).alloc (Nat.le_refl _) (.cells #[.bool true, .int .i64 0, .string (bs o.l)] 35)
    have P16 := hide (show Old8 w3 g q E fg9 fq13 b1 b2 f1 f2 w2.heap.size w15.heap.size o (w15.alloc (.cells #[.bool true, .int .i64 0, .string (bs o.l)] 35)) from
      ⟨D15.out.below Bz, T1'.out.below Bz, T2.out.below Bz, (Bz.block _ (Array.getElem?_eq_some_iff.1 X15).1).trans X15, heap_alloc_new _ _⟩)
    generalize w15.alloc (.cells #[.bool true, .int .i64 0, .string (bs o.l)] 35) = w16 at P16 ⊢
    have hS0 := P16.out.cells
    have D16 := hide (P16.out.below ((Below.refl _ w16).drew))
    have ot : o.t = 0 := by rw [HO.out]
    have es : spv (some o.kd) = .agg #[.bool true, .int .i64 0, .string (bs o.l)] := by
      unfold spv spI spT spN O5.kd
      rw [ot]
      rfl
    have KS1 := hide (fun (V : World) (hV : Old8 w3 g q E fg9 fq13 b1 b2 f1 f2 w2.heap.size w15.heap.size o V) => show Calls Tryd.prog 11 #[.pointer (some ⟨b1, 0, none⟩), .int .i64 o.d] V (fun e w' => e = .returned (.agg #[.bool true, .int .i64 0, .string (bs o.l)]) ∧ Below V.heap.size V w') by
      have := tspot_any b1 _ _ _ o.d hdd V hV.t1
      rw [S1.out] at this
      unfold SpotRet at this
      rw [es] at this
      exact this)
    have KS2 := hide (fun (V : World) (hV : Old8 w3 g q E fg9 fq13 b1 b2 f1 f2 w2.heap.size w15.heap.size o V) => show Calls Tryd.prog 11 #[.pointer (some ⟨b2, 0, none⟩), .int .i64 o.d] V (fun e w' => e = .returned (.agg #[.bool true, .int .i64 0, .string (bs o.l)]) ∧ Below V.heap.size V w') by
      have := tspot_any b2 _ _ _ o.d hdd V hV.t2
      rw [S1.out] at this
      unfold SpotRet at this
      rw [es] at this
      exact this)
    have KT1 := hide (fun (V : World) (hV : Old8 w3 g q E fg9 fq13 b1 b2 f1 f2 w2.heap.size w15.heap.size o V) => show Calls Tryd.prog 15 #[.pointer (some ⟨g, 0, none⟩)] V (NumRet 1000 V) by
      have := ltop_any g 1000 E fg9 (by omega) V hV.duo.lft.lg
      rw [S2.out] at this
      exact this)
    have KT2 := hide (fun (V : World) (hV : Old8 w3 g q E fg9 fq13 b1 b2 f1 f2 w2.heap.size w15.heap.size o V) => show Calls Tryd.prog 15 #[.pointer (some ⟨q, 0, none⟩)] V (NumRet 1000 V) by
      have := ltop_any q 1000 E fq13 (by omega) V hV.duo.rgt.lg
      rw [S2.out] at this
      exact this)
    have oE' : decide ((⟨1000, 3, o.d, 0, o.l⟩ : O5) ∈ E) = true := by rw [← HO.out]; exact oE
    have KH1 := hide (fun (V : World) (hV : Old8 w3 g q E fg9 fq13 b1 b2 f1 f2 w2.heap.size w15.heap.size o V) => show Calls Tryd.prog 16 #[.pointer (some ⟨g, 0, none⟩), .agg #[.int .i64 1000, .int .i64 3, .int .i64 o.d, .int .i64 0, .string (bs o.l)]] V (BoolRet true V) by
      have := lhas_any g 1000 E fg9 ⟨1000, 3, o.d, 0, o.l⟩ (by omega) V hV.duo.lft.lg
      rw [oE'] at this
      exact this)
    have KH2 := hide (fun (V : World) (hV : Old8 w3 g q E fg9 fq13 b1 b2 f1 f2 w2.heap.size w15.heap.size o V) => show Calls Tryd.prog 16 #[.pointer (some ⟨q, 0, none⟩), .agg #[.int .i64 1000, .int .i64 3, .int .i64 o.d, .int .i64 0, .string (bs o.l)]] V (BoolRet true V) by
      have := lhas_any q 1000 E fq13 ⟨1000, 3, o.d, 0, o.l⟩ (by omega) V hV.duo.rgt.lg
      rw [oE'] at this
      exact this)
    have hq := spot_eql true true 0 0 o.l o.l
    simp only [and_self, decide_true] at hq
    clear Bz z4 X15 D15 T1' T2 oE oE' es ot
    go_wp2_with fail
    go_region_held3 (fun w' => (w'.cell? ⟨w2.heap.size, 0, none⟩ = some (.int .i64 1000) ∧ w'.cell? ⟨w2.heap.size, 1, none⟩ = some (.int .i64 3) ∧ w'.cell? ⟨w2.heap.size, 2, none⟩ = some (.int .i64 o.d) ∧ w'.cell? ⟨w2.heap.size, 3, none⟩ = some (.int .i64 0) ∧ w'.cell? ⟨w2.heap.size, 4, none⟩ = some (.string (bs o.l)))
        ∧ w'.cell? ⟨w15.heap.size, 0, none⟩ = some (.bool true) ∧ w'.cell? ⟨w15.heap.size, 1, none⟩ = some (.int .i64 0) ∧ w'.cell? ⟨w15.heap.size, 2, none⟩ = some (.string (bs o.l)))
        (first | with_reducible exact hS1 | with_reducible exact hS0 | go_keep)
        (first
          | (go_at_call 11
             (with_reducible refine (KS1.out _ ?hm).mono ?_)
             case hm => first | with_reducible exact D16.out | with_reducible exact P16.out
             rintro e w17 ⟨rfl, hb⟩
             have hb' : Below w16.heap.size w16 w17 := ⟨hb.os, hb.tape, hb.output, hb.size, hb.block⟩
             have P17 := hide (P16.out.below hb')
             have D17 := hide (P17.out.below ((Below.refl _ w17).drew))
             have hS1 := P17.out.cells
             clear hb hb')
          | (go_at_call 11
             (with_reducible refine (KS2.out _ ?hm).mono ?_)
             case hm => first | with_reducible exact D17.out | with_reducible exact P17.out
             rintro e w18 ⟨rfl, hb⟩
             have hb' : Below w17.heap.size w17 w18 := ⟨hb.os, hb.tape, hb.output, hb.size, hb.block⟩
             have P18 := hide (P17.out.below hb')
             have D18 := hide (P18.out.below ((Below.refl _ w18).drew))
             have hS1 := P18.out.cells
             clear hb hb')
          | (go_at_call 15
             (with_reducible refine (KT1.out _ ?hm).mono ?_)
             case hm => first | with_reducible exact D18.out | with_reducible exact P18.out
             rintro e w19 ⟨rfl, hb⟩
             have hb' : Below w18.heap.size w18 w19 := ⟨hb.os, hb.tape, hb.output, hb.size, hb.block⟩
             have P19 := hide (P18.out.below hb')
             have D19 := hide (P19.out.below ((Below.refl _ w19).drew))
             have hS1 := P19.out.cells
             clear hb hb')
          | (go_at_call 15
             (with_reducible refine (KT2.out _ ?hm).mono ?_)
             case hm => first | with_reducible exact D19.out | with_reducible exact P19.out
             rintro e w20 ⟨rfl, hb⟩
             have hb' : Below w19.heap.size w19 w20 := ⟨hb.os, hb.tape, hb.output, hb.size, hb.block⟩
             have P20 := hide (P19.out.below hb')
             have D20 := hide (P20.out.below ((Below.refl _ w20).drew))
             have hS1 := P20.out.cells
             clear hb hb')
          | (go_at_call 16
             (with_reducible refine (KH1.out _ ?hm).mono ?_)
             case hm => first | with_reducible exact D20.out | with_reducible exact P20.out
             rintro e w21 ⟨rfl, hb⟩
             have hb' : Below w20.heap.size w20 w21 := ⟨hb.os, hb.tape, hb.output, hb.size, hb.block⟩
             have P21 := hide (P20.out.below hb')
             have D21 := hide (P21.out.below ((Below.refl _ w21).drew))
             have hS1 := P21.out.cells
             clear hb hb')
          | (go_at_call 16
             (with_reducible refine (KH2.out _ ?hm).mono ?_)
             case hm => first | with_reducible exact D21.out | with_reducible exact P21.out
             rintro e w22 ⟨rfl, hb⟩
             have hb' : Below w21.heap.size w21 w22 := ⟨hb.os, hb.tape, hb.output, hb.size, hb.block⟩
             have P22 := hide (P21.out.below hb')
             have D22 := hide (P22.out.below ((Below.refl _ w22).drew))
             have hS1 := P22.out.cells
             clear hb hb'))
    go_wp2
    go_ret
    exact ⟨rfl, B3.out.trans (P22.out.duo.lft.bel.mono B3.out.size)⟩
  · have d1 : decide ((ts.length : Int) > 24) = true := by simp; omega
    clear h1
    go_wp2
    go_ret
    exact ⟨rfl, B1.out⟩
end Go.Proofs.YtimfeocaghccdaaDoor
