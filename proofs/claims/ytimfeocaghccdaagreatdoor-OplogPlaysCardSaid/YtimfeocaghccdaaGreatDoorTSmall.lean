/-
  Contracts of package tree: New, Spot, Known, Above, put. Conditions: the tree is one, in memory; the numbers are of the machine's.
-/
import Derived.Test.YtimfeocaghccdaaGreatDoorTMem
import Derived.LoopTactic
import Derived.Laws.ResultCell
import Derived.Test.YtimfeocaghccdaaGreatDoorOOf
namespace Go.Proofs.YtimfeocaghccdaaGreatDoor
set_option maxRecDepth 100000
open Go.RowKit Go.Maps
set_option linter.unusedVariables false
set_option maxRecDepth 100000

theorem Past.nil (w : World) : Past w (.slice none 0 0) [] := ⟨rfl, .inl ⟨rfl, rfl⟩⟩
theorem Mp.new (w : World) : Mp (w.alloc (.map #[] 0)) w.heap.size [] := World.ownsMap_made w Tryz.prog 3 spotElem
theorem Tr.new (w : World) : Tr ((w.alloc (.map #[] 0)).alloc (.cells #[.map (some w.heap.size), .slice none 0 0] 91)) (w.heap.size + 1) [] [] [w.heap.size + 1, w.heap.size] := by
  refine ⟨.nil, w.heap.size, .slice none 0 0, [], ⟨?_, ?_, Past.nil _⟩, rfl, rfl⟩
  · have := heap_alloc_new (w.alloc (.map #[] 0)) (.cells #[.map (some w.heap.size), .slice none 0 0] 91)
    rwa [show (w.alloc (.map #[] 0)).heap.size = w.heap.size + 1 by simp] at this
  · exact (Mp.new w).kept (Below.heap_alloc _ _ _ (by simp))
theorem tnew_any (w : World) : Calls Tryz.prog 29 #[] w (fun e w' => e = .returned (.pointer (some ⟨w.heap.size + 1, 0, none⟩)) ∧ Tr w' (w.heap.size + 1) [] [] [w.heap.size + 1, w.heap.size] ∧ Below w.heap.size w w') := by
  have hmm := @run_makeMap Tryz.prog
  have T := hide (Tr.new w)
  have B := hide (((Below.refl w.heap.size w).alloc (Nat.le_refl _) (.map #[] 0)).alloc (by simp) (.cells #[.map (some w.heap.size), .slice none 0 0] 91))
  go_enter Tryz.func29, Tryz.ntmps29
  go_wp2
  go_ret
  exact ⟨rfl, T.out, B.out⟩
/-- A spot is answered, all that was there is as it was. -/
def SpotRet (s : Option Kd) (w : World) (e : Ending) (w' : World) : Prop := e = .returned (spv s) ∧ Below w.heap.size w w'
theorem tspot_any (g : Nat) (L : List Kd) (r : List (List Kd)) (fs : List Nat) (n : Int) (hn : i64B n) (w : World) (h : Tr w g L r fs) : Calls Tryz.prog 84 #[.pointer (some ⟨g, 0, none⟩), .int .i64 n] w (SpotRet (fnd L n) w) := by
  have hL := h.ok
  obtain ⟨_, bm, vp, p, T, _, rfl⟩ := h
  have T1 := T.alloc (.cells #[.bool false, .int .i64 0, .string ⟨#[]⟩] 74)
  have c0 := T1.cell0
  have hlk := T1.map.look hL n hn
  clear T T1 hL
  unfold SpotRet
  unfold spv at *
  generalize spI (fnd L n) = a at *
  generalize spT (fnd L n) = b at *
  generalize spN (fnd L n) = l at *
  go_enter Tryz.func84, Tryz.ntmps84
  go_wp2
  (try simp only [Exit.inBlock, Exit.then])
  refine bodyPost_ret (v := .agg #[.bool a, .int .i64 b, .string (bs l)]) ?_ rfl ⟨rfl, ?_⟩
  · rw [results_one rfl]
    go_simp
  · exact (Below.refl _ _).alloc (Nat.le_refl _) _
theorem field0 (a : Bool) (b : Int) (l : ByteArray) (w : World) : (Instr.field 74 (.agg #[.bool a, .int .i64 b, .string l]) 0).run Tryz.prog w = .ok (.bool a) w := by kernel_rfl
theorem tknown_m (g bm : Nat) (vp : Value) (L : List Kd) (p : List (Int × Option Kd)) (hL : Ok L) (n : Int) (hn : i64B n) (w : World) (T : Tm w g bm vp L p) : Calls Tryz.prog 46 #[.pointer (some ⟨g, 0, none⟩), .int .i64 n] w (fun e w' => e = .returned (.bool (isKn L n)) ∧ w' = w) := by
  have c0 := T.cell0
  have hlk := T.map.look hL n hn
  have E := hide (show isKn L n = (n == 0 || n == 1 || spI (fnd L n)) from rfl)
  clear T hL
  unfold spv at hlk
  generalize spI (fnd L n) = a at *
  generalize spT (fnd L n) = b at *
  generalize spN (fnd L n) = l at *
  rw [E.out]
  clear E
  by_cases h0 : n = 0
  · subst h0
    go_enter Tryz.func46, Tryz.ntmps46
    go_wp2
    go_ret
    exact ⟨rfl, rfl⟩
  · by_cases h1 : n = 1
    · subst h1
      go_enter Tryz.func46, Tryz.ntmps46
      go_wp2
      go_ret
      exact ⟨rfl, rfl⟩
    · have e0 : (n == 0) = false := by simpa using h0
      have e1 : (n == 1) = false := by simpa using h1
      have E := hide (show (n == 0 || n == 1 || a) = a by rw [e0, e1]; rfl)
      rw [E.out]
      clear E
      have hfd := field0 a b (bs l) w
      cases a
      all_goals
        go_enter Tryz.func46, Tryz.ntmps46
        go_wp2
        go_ret
        exact ⟨rfl, rfl⟩
theorem tknown_any (g : Nat) (L : List Kd) (r : List (List Kd)) (fs : List Nat) (n : Int) (hn : i64B n) (w : World) (h : Tr w g L r fs) : Calls Tryz.prog 46 #[.pointer (some ⟨g, 0, none⟩), .int .i64 n] w (fun e w' => e = .returned (.bool (isKn L n)) ∧ w' = w) := by
  have hL := h.ok
  obtain ⟨_, bm, vp, p, T, _, rfl⟩ := h
  exact tknown_m g bm vp L p hL n hn w T
/-- Where Above stands: so many steps are left, and what is asked is asked of here. -/
def AbvRel (L : List Kd) (w : World) (a b : Int) (v : Value) (wr : World) : Prop :=
  ∃ (x : Int) (d : Nat), v = .int .i64 x ∧ Rt L d x ∧ upF L (d + 1) a x = upF L (L.length + 1) a b ∧ Below w.heap.size w wr
theorem AbvRel.start {L : List Kd} (h : Wf L) (w : World) (a b : Int) (hb : isKn L b = true) : AbvRel L w a b (.int .i64 b) w := by
  obtain ⟨d, hd⟩ := h.known hb
  have := hd.le h.lo
  exact ⟨b, d, rfl, hd, (upF_enough h.lo hd a _ (by omega)).symm, Below.refl _ _⟩
def dpt (L : List Kd) : Nat → Int → Nat
  | 0, _ => 0
  | f + 1, x => match fnd L x with
    | none => 0
    | some k => dpt L f k.to + 1
theorem dpt_eq {L : List Kd} (h : Wf L) {d : Nat} {x : Int} (hd : Rt L d x) : ∀ f, d < f → dpt L f x = d := by
  induction hd with
  | top ht =>
    intro f hf
    obtain ⟨f, rfl⟩ : ∃ g, f = g + 1 := ⟨f - 1, by omega⟩
    unfold dpt
    rw [fnd_top h.lo (by omega)]
  | up hfn _ ih =>
    intro f hf
    obtain ⟨f, rfl⟩ : ∃ g, f = g + 1 := ⟨f - 1, by omega⟩
    unfold dpt
    rw [hfn]
    simp only [ih f (by omega)]
def depthOf (L : List Kd) (v : Value) : Nat := dpt L (L.length + 1) (intOf v)
theorem depth_eq {L : List Kd} (h : Wf L) {d : Nat} {x : Int} (hd : Rt L d x) : depthOf L (.int .i64 x) = d := by
  have := hd.le h.lo
  exact dpt_eq h hd _ (by omega)
theorem Rt.i64 {L : List Kd} (h : Wf L) {d : Nat} {x : Int} (hd : Rt L d x) : i64B x := by
  unfold i64B
  cases hd with
  | top ht => omega
  | up hf _ =>
    obtain ⟨h1, h2⟩ := fnd_some hf
    have := h.lo _ h1
    omega
set_option maxHeartbeats 1000000 in
theorem tabove_m (g bm : Nat) (vp : Value) (L : List Kd) (p : List (Int × Option Kd)) (hW : Wf L) (a b : Int) (ha : i64B a) (hb : i64B b) (w : World) (T0 : Tm w g bm vp L p) : Calls Tryz.prog 47 #[.pointer (some ⟨g, 0, none⟩), .int .i64 a, .int .i64 b] w (BoolRet (abv L a b) w) := by
  have W := hide hW
  have hL := hW.ok
  have KA := hide (tknown_m g bm vp L p hL a ha w T0)
  have T := hide T0
  have HL := hide hL
  clear T0 hL hW
  cases hka : isKn L a with
  | false =>
    have E := hide (W.out.abv_none hka b)
    rw [hka] at KA
    clear hka
    go_enter Tryz.func47, Tryz.ntmps47
    go_wp2_with fail
    refine KA.out.mono ?_
    rintro e w1 ⟨rfl, rfl⟩
    go_wp2
    go_ret
    rw [E.out]
    exact ⟨rfl, Below.refl _ _⟩
  | true =>
    have KN := hide hka
    rw [hka] at KA
    clear hka
    cases hkb : isKn L b with
    | false =>
      have E := hide (show abv L a b = false by unfold abv; rw [hkb]; rfl)
      have hne : (a == b) = false := by
        cases e : a == b with
        | false => rfl
        | true =>
          have e' : a = b := by simpa using e
          have := KN.out
          rw [e', hkb] at this
          cases this
      have hne' : ¬ a = b := by simpa using hne
      have hf : fnd L b = none := by
        unfold isKn at hkb
        simp at hkb
        exact hkb.2
      have c0 := T.out.cell0
      have hlk := T.out.map.look HL.out b hb
      rw [hf] at hlk
      clear hf hkb
      have e : spv none = .agg #[.bool false, .int .i64 0, .string ⟨#[]⟩] := rfl
      rw [e] at hlk
      clear e
      go_enter Tryz.func47, Tryz.ntmps47
      go_wp2_with fail
      refine KA.out.mono ?_
      rintro e w1 ⟨rfl, rfl⟩
      go_wp2
      refine wp_loop_rounds 1 ?_
      rw [rounds_succ]
      go_wp2
      go_ret
      rw [E.out]
      exact ⟨rfl, (Below.refl _ _).alloc (Nat.le_refl _) _⟩
    | true =>
      have E := hide (show abv L a b = upF L (L.length + 1) a b by unfold abv; rw [hkb]; rfl)
      have S := hide (AbvRel.start W.out w a b hkb)
      clear hkb
      go_enter Tryz.func47, Tryz.ntmps47
      go_wp2_with fail
      refine KA.out.mono ?_
      rintro e w1 ⟨rfl, rfl⟩
      go_wp2
      go_loopw [2] (fun v wr => AbvRel L w1 a b v wr) (fun v _ => depthOf L v)
      case atStart => exact S.out
      case round =>
        obtain ⟨x, d, rfl, hd, hu, hb'⟩ := hrel
        have D := hide (depth_eq W.out hd)
        have B := hide hb'
        have U := hide hu
        have R := hide hd
        have T1 := T.out.below hb'
        have c0 := T1.cell0
        have hlk := T1.map.look HL.out x (hd.i64 W.out)
        have sz := hb'.size
        clear hd hu hb' T1
        by_cases hax : a = x
        · subst hax
          go_wp2
          go_ret
          rw [E.out, ← U.out]
          refine ⟨?_, B.out⟩
          unfold upF
          simp
        · have n1 : (a == x) = false := by simpa using hax
          cases hf : fnd L x with
          | none =>
            have V := hide (show upF L (d + 1) a x = false by unfold upF; rw [if_neg hax, hf])
            rw [hf] at hlk
            clear hf
            have e : spv none = .agg #[.bool false, .int .i64 0, .string ⟨#[]⟩] := rfl
            rw [e] at hlk
            clear e
            go_wp2
            go_ret
            rw [E.out, ← U.out, V.out]
            exact ⟨rfl, B.out.alloc sz _⟩
          | some k =>
            have V := hide (show upF L (d + 1) a x = upF L d a k.to by conv => lhs; unfold upF; rw [if_neg hax, hf])
            have RD := hide (show ∃ e, d = e + 1 ∧ Rt L e k.to by
              cases R.out with
              | top ht =>
                obtain ⟨h1, h2⟩ := fnd_some hf
                have := W.out.lo _ h1
                omega
              | up hf' hr =>
                rw [hf] at hf'
                cases hf'
                exact ⟨_, rfl, hr⟩)
            rw [hf] at hlk
            clear hf
            have e : spv (some k) = .agg #[.bool true, .int .i64 k.to, .string (bs k.nm)] := rfl
            rw [e] at hlk
            clear e
            go_wp2
            go_roundw
            case rel =>
              obtain ⟨e, rfl, hr⟩ := RD.out
              exact ⟨_, e, rfl, hr, by rw [← V.out]; exact U.out, B.out.alloc sz _⟩
            case measure =>
              obtain ⟨e, rfl, hr⟩ := RD.out
              rw [D.out, depth_eq W.out hr]
              omega
theorem tabove_any (g : Nat) (L : List Kd) (r : List (List Kd)) (fs : List Nat) (a b : Int) (ha : i64B a) (hb : i64B b) (w : World) (h : Tr w g L r fs) : Calls Tryz.prog 47 #[.pointer (some ⟨g, 0, none⟩), .int .i64 a, .int .i64 b] w (BoolRet (abv L a b) w) := by
  have hW := h.hst.wf
  obtain ⟨_, bm, vp, p, T, _, rfl⟩ := h
  exact tabove_m g bm vp L p hW a b ha hb w T
end Go.Proofs.YtimfeocaghccdaaGreatDoor
