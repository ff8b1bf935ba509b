/-
  Small operations: slices of them that came in, opened; the document's All. Conditions: they can be read, and are no more than a million.
-/
import Derived.Test.YtimfeocaghccdaaGreatDoorWArg
import Derived.Test.YtimfeocaghccdaaGreatDoorWAppend
import Derived.Test.YtimfeocaghccdaaGreatDoorOOf
import Derived.LoopTactic
import Derived.Lib.Walk
namespace Go.Proofs.YtimfeocaghccdaaGreatDoor
set_option maxRecDepth 100000
open Go.RowKit Go.ChangeShapes Go.WideShapes Go.Deep
set_option linter.unusedVariables false
set_option maxRecDepth 100000

structure T5 where
  a : Nat
  b : Nat
  c : Nat
  e : Nat
  f : Nat
def T5.ok (t : T5) : Prop := t.a < 256 ∧ t.b < 256 ∧ t.c < 256 ∧ t.e < 256 ∧ t.f < 256
def ofT (t : T5) : O5 := ⟨1 + (t.a : Int) % 40, (t.b : Int) % 4, 256 + (t.c : Int) % 8, toOf t.e, [b8 (97 + t.f % 8)]⟩
theorem right8 : ∀ i : Fin 8, right [b8 (97 + i.val)] = true := by decide
theorem ofT_R (t : T5) : (ofT t).R = true := by
  have h1 : stR (1 + (t.a : Int) % 40) ((t.b : Int) % 4) = true := by simp [stR]; omega
  have h2 : ndB (256 + (t.c : Int) % 8) = true := ndB_in (by omega)
  have h3 : toB (toOf t.e) = true := by
    unfold toB toOf
    simp only [decide_eq_true_eq]
    split <;> omega
  have h4 := right8 ⟨t.f % 8, by omega⟩
  simp only at h4
  show opR _ _ _ _ _ = true
  unfold opR ofT
  simp only [h1, h2, h3, h4, Bool.and_self]
theorem ofT_name (ts : List T5) : ∀ o ∈ ts.map ofT, o.l.length ≤ maxLen := by
  intro o ho
  obtain ⟨t, _, rfl⟩ := List.mem_map.1 ho
  show 1 ≤ maxLen
  decide
/-- A slice of small operations that can be read. -/
structure Tns (w : World) (A : Option Addr) (c : Nat) (ts : List T5) : Prop where
  le : ts.length ≤ c
  most : c ≤ maxLen
  lit : 0 < ts.length → ∃ b o, A = some ⟨b, o, none⟩ ∧ ∀ j (h : j < ts.length), w.cell? ⟨b, o + j * 5, none⟩ = some (.int .u8 (ts[j].a : Int)) ∧ w.cell? ⟨b, o + j * 5 + 1, none⟩ = some (.int .u8 (ts[j].b : Int)) ∧ w.cell? ⟨b, o + j * 5 + 2, none⟩ = some (.int .u8 (ts[j].c : Int)) ∧ w.cell? ⟨b, o + j * 5 + 3, none⟩ = some (.int .u8 (ts[j].e : Int)) ∧ w.cell? ⟨b, o + j * 5 + 4, none⟩ = some (.int .u8 (ts[j].f : Int))
theorem Tns.below {w w' : World} {A : Option Addr} {c : Nat} {ts : List T5} (h : Tns w A c ts) (hb : Below w.heap.size w w') : Tns w' A c ts := by
  refine ⟨h.le, h.most, fun hp => ?_⟩
  obtain ⟨b, o, e, hc⟩ := h.lit hp
  refine ⟨b, o, e, fun j hj => ?_⟩
  obtain ⟨c0, c1, c2, c3, c4⟩ := hc j hj
  exact ⟨(hb.cell (World.block_lt_of_cell? w _ c0)).trans c0, (hb.cell (World.block_lt_of_cell? w _ c1)).trans c1, (hb.cell (World.block_lt_of_cell? w _ c2)).trans c2, (hb.cell (World.block_lt_of_cell? w _ c3)).trans c3, (hb.cell (World.block_lt_of_cell? w _ c4)).trans c4⟩
/-- A slice of small operations that came in. -/
def IsTns (w : World) (a : Option Addr) (len cap : Nat) (ts : List T5) : Prop := ts.length = len ∧ Tns w a cap ts ∧ ∀ t ∈ ts, t.ok
theorem tns_of {H : Type} {enc : TypeId × Value → H} {base : Nat} {spare : Nat → Bool} {held : Bool} {x0 : DataW H × List MemPlace} {fuel : Nat} (w : World) (a : Option Addr) (len cap : Nat)
    (hf : DataW.trod enc Tryz.prog w base spare held fuel 53 [.slice a len cap] = some x0) : ∃ ts, IsTns w a len cap ts := by
  rcases open_slice Tryz.underlying53 hf with ⟨hcs, _⟩ | ⟨x, l, c, m, n, D, Pl, hcs, _, hl, hm, hmm, _, hi⟩
  · simp at hcs
    obtain ⟨rfl, rfl, rfl⟩ := hcs
    exact ⟨[], rfl, ⟨Nat.le_refl _, Nat.zero_le _, by simp⟩, by simp⟩
  · simp at hcs
    obtain ⟨rfl, rfl, rfl⟩ := hcs
    have hlm : len ≤ m := by rw [hmm]; split <;> omega
    have hx : ∀ i, i < len → ∃ z : T5, (w.cell? (x.add (i * 5)) = some (.int .u8 (z.a : Int)) ∧ w.cell? ((x.add (i * 5)).add 1) = some (.int .u8 (z.b : Int)) ∧ w.cell? ((x.add (i * 5)).add 2) = some (.int .u8 (z.c : Int)) ∧ w.cell? ((x.add (i * 5)).add 3) = some (.int .u8 (z.e : Int)) ∧ w.cell? ((x.add (i * 5)).add 4) = some (.int .u8 (z.f : Int))) ∧ z.ok := by
      intro i hilt
      obtain ⟨cs', hc, ht⟩ := hi i (by omega)
      rw [cells_tn] at hc
      obtain ⟨_, hcl, hat⟩ := World.cells?_some hc
      match cs', hcl with
      | [u0, u1, u2, u3, u4], _ =>
        obtain ⟨xs, n, _, hx, _, hlen, hg⟩ := DataW.trod_struct Tryz.underlying58 ht
        match xs, hlen with
        | [y0, y1, y2, y3, y4], _ =>
          have h0 := hg 0 _ rfl
          have h1 := hg 1 _ rfl
          have h2 := hg 2 _ rfl
          have h3 := hg 3 _ rfl
          have h4 := hg 4 _ rfl
          simp [cells_u8] at h0 h1 h2 h3 h4
          obtain ⟨q0, e0, _, w0⟩ := DataW.trod_int Tryz.underlying5 h0
          obtain ⟨q1, e1, _, w1⟩ := DataW.trod_int Tryz.underlying5 h1
          obtain ⟨q2, e2, _, w2⟩ := DataW.trod_int Tryz.underlying5 h2
          obtain ⟨q3, e3, _, w3⟩ := DataW.trod_int Tryz.underlying5 h3
          obtain ⟨q4, e4, _, w4⟩ := DataW.trod_int Tryz.underlying5 h4
          simp at e0 e1 e2 e3 e4
          subst e0 e1 e2 e3 e4
          have b0 := bounds_u8 w0
          have b1 := bounds_u8 w1
          have b2 := bounds_u8 w2
          have b3 := bounds_u8 w3
          have b4 := bounds_u8 w4
          have a0 := hat 0 (by omega)
          have a1 := hat 1 (by omega)
          have a2 := hat 2 (by omega)
          have a3 := hat 3 (by omega)
          have a4 := hat 4 (by omega)
          have n0 : (q0.toNat : Int) = q0 := by omega
          have n1 : (q1.toNat : Int) = q1 := by omega
          have n2 : (q2.toNat : Int) = q2 := by omega
          have n3 : (q3.toNat : Int) = q3 := by omega
          have n4 : (q4.toNat : Int) = q4 := by omega
          refine ⟨⟨q0.toNat, q1.toNat, q2.toNat, q3.toNat, q4.toNat⟩, ⟨?_, ?_, ?_, ?_, ?_⟩, ⟨by simp only; omega, by simp only; omega, by simp only; omega, by simp only; omega, by simp only; omega⟩⟩
          · simp only [n0]; simpa [Addr.add] using a0
          · simp only [n1]; simpa using a1
          · simp only [n2]; simpa using a2
          · simp only [n3]; simpa using a3
          · simp only [n4]; simpa using a4
    obtain ⟨zs, hzl, hz⟩ := pickAll len _ hx
    have hN : ∀ t ∈ zs, t.ok := by
      intro t ht
      obtain ⟨i, hi, rfl⟩ := List.getElem_of_mem ht
      exact (hz i hi).2
    refine ⟨zs, hzl, ⟨by omega, hm, fun h0 => ?_⟩, hN⟩
    obtain ⟨b, o, spot⟩ := x
    have e0 := (hz 0 (by omega)).1.1
    obtain rfl : spot = none := by simpa [Addr.add] using World.cell?_spot e0
    refine ⟨b, o, rfl, fun j hj => ?_⟩
    have := (hz j hj).1
    simp only [Addr.add_lit] at this
    exact this
theorem open_tinys {H : Type} {enc : TypeId × Value → H} {base : Nat} {spare : Nat → Bool} {held : Bool} {d : DataW H} {p : List MemPlace} (w : World) (a : Option Addr) (len cap : Nat)
    (h : DataW.Trod enc Tryz.prog w base spare held 53 (.slice a len cap) d p) : ∃ ts, IsTns w a len cap ts := by
  obtain ⟨fuel, hf⟩ := h
  exact tns_of w a len cap (by simpa [Value.cells] using hf)
def AllRel (w : World) (ts : List T5) (v i : Value) (wr : World) : Prop :=
  ∃ k : Nat, k ≤ ts.length ∧ i = .int .i64 (k : Int) ∧ OwnOps wr w.heap.size v ((ts.take k).map ofT) ∧ Below w.heap.size w wr
def AllRet (w : World) (ts : List T5) (e : Ending) (w' : World) : Prop := ∃ v, e = .returned v ∧ OwnOps w' w.heap.size v (ts.map ofT) ∧ Below w.heap.size w w'
set_option maxHeartbeats 1000000 in
theorem all_any (A : Option Addr) (c : Nat) (ts : List T5) (w : World) (hn : ts.length ≤ 1000000) (hk : ∀ t ∈ ts, t.ok) (h : Tns w A c ts) :
    Calls Tryz.prog 24 #[.slice A ts.length c] w (AllRet w ts) := by
  have HT := hide h
  have HK := hide hk
  clear h hk
  go_enter Tryz.func24, Tryz.ntmps24
  go_wp2_with fail
  go_loopw [3, 4] (AllRel w ts) (fun _ i _ => ts.length - (intOf i).toNat)
  case atStart => exact ⟨0, Nat.zero_le _, rfl, World.ownsRow_nil _ _ _ _, Below.refl _ _⟩
  case round =>
    obtain ⟨k, hk, rfl, ho, hb⟩ := hrel
    have O := hide ho
    have B := hide hb
    have sz := hb.size
    clear ho hb
    by_cases hlt : k < ts.length
    · obtain ⟨b, o, rfl, hat⟩ := (HT.out.below B.out).lit (by omega)
      obtain ⟨c0, c1, c2, c3, c4⟩ := hat k hlt
      have hok := HK.out _ (List.getElem_mem hlt)
      have HS := hide (show (ts.take (k + 1)).map ofT = (ts.take k).map ofT ++ [ofT ts[k]] by rw [List.take_succ_eq_append_getElem hlt, List.map_append]; rfl)
      generalize ts[k]'hlt = t at c0 c1 c2 c3 c4 hok HS
      obtain ⟨k0, k1, k2, k3, k4⟩ := hok
      have KO := hide (fun W => of_any t.a t.b t.c t.e t.f W k0 k1 k2 k3 k4)
      have HX := hide (show (ofT t).v = opv (1 + (t.a : Int) % 40) ((t.b : Int) % 4) (256 + (t.c : Int) % 8) (toOf t.e) [b8 (97 + t.f % 8)] from rfl)
      rw [← HX.out] at KO
      generalize ofT t = x at KO HS
      clear hat k0 k1 k2 k3 k4 HX
      go_wp2_with fail
      refine (KO.out wr).mono ?_
      rintro e wa ⟨rfl, hb⟩
      have Ba := hide (B.out.trans (hb.mono sz))
      have Oa := hide (O.out.below hb)
      have za := Ba.out.size
      clear hb B O KO c0 c1 c2 c3 c4
      unfold O5.v opv
      have bz := (Below.refl wa.heap.size wa).alloc (Nat.le_refl _) (.cells #[.int .i64 x.n, .int .i64 x.r, .int .i64 x.d, .int .i64 x.t, .string (bs x.l)] 50)
      have Ob := hide (Oa.out.below bz)
      have Bb := hide (Ba.out.alloc za (.cells #[.int .i64 x.n, .int .i64 x.r, .int .i64 x.d, .int .i64 x.t, .string (bs x.l)] 50))
      have N5 := hide (cells_new5 wa x)
      have zb := bz.size
      clear bz Oa Ba
      generalize hwb : wa.alloc (.cells #[.int .i64 x.n, .int .i64 x.r, .int .i64 x.d, .int .i64 x.t, .string (bs x.l)] 50) = wb at Ob Bb N5 zb
      have hl2 : ((ts.take k).map ofT).length ≤ 1000000 := by rw [List.length_map, List.length_take]; omega
      generalize hq : (ts.take k).map ofT = os at Ob HS hl2
      clear hq
      go_wp2_with (at_builtin; refine wpList_append_op _ rfl _ _ rfl w.heap.size _ os rfl Ob.out ⟨wa.heap.size, 0, none⟩ 1 x rfl N5.out (by omega) (by omega) ?_)
      intro v6 w6 hown6 hg6
      have B6 := hide (Bb.out.grown hg6 (by omega) (fun k hk => Ob.out.row _ hk))
      have O6 := hide (show OwnOps w6 w.heap.size v6 ((ts.take (k + 1)).map ofT) by rw [HS.out]; exact hown6)
      clear hown6 hg6 Ob Bb N5 hwb HS hl2
      go_wp2_with fail
      go_roundw
      case rel => exact ⟨k + 1, by omega, by go_num, O6.out, B6.out⟩
      case measure => simp [intOf]; omega
    · obtain rfl : k = ts.length := by omega
      go_wp2_with fail
      go_ret
      refine ⟨_, rfl, ?_, B.out⟩
      have := O.out
      rw [List.take_length] at this
      exact this
end Go.Proofs.YtimfeocaghccdaaGreatDoor
