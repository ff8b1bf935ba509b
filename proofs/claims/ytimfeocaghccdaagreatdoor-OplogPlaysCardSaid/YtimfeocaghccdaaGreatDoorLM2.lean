/-
  Undo as a step of a state, for the program's tree. Conditions: at most nine hundred steps are remembered.
  A log in memory: its block, its row of operations, its tree; contracts of New, All, Has, Top, Tree, Clone, of where an operation stands, and of whether one of many is wrong. Conditions: the log is one, in memory, of not more than a thousand operations; the library's tables are as the program's text lays them.
  Contracts of the log's New, All, Top, Tree and Clone. Conditions: the log is one, in memory, of not more than a thousand operations.
  The log's iterator over what it hasn't, as a loop over it is told: each new operation once, in order, for every body that keeps what lay there, but for the row that it fills. Conditions: the log is one, in memory; what is asked for can be read, and is right.
  Operations that can be read are appended to a row of the program's own: at a plain step, at a step of a region that draws its order, in a round of a loop over an iterator. Conditions: they are together not more than a million.
  The log's merge: two rows in order as one. Conditions: both can be read, the first one is in order, and they are together not more than a hundred thousand.
-/
import Derived.Test.YtimfeocaghccdaaGreatDoorTLaw
import Derived.Test.YtimfeocaghccdaaGreatDoorLM1
import Derived.RangeFuncNested
import Derived.RangeFuncBound
import Derived.RangeFuncCalls
import Derived.RangeFuncLeaves
import Derived.Shelf.Abstract
import Derived.Shelf.AbstractIn
import Derived.Shelf.RegionOpen
import Derived.WalkKit
import Derived.OwnWalkIn
import Derived.TacticsInMore
import Derived.LoopNIn
import Derived.LoopIn
import Derived.Sort.CutIn
import Derived.Maps.AppendAt
import Derived.Laws.OwnMore
import Derived.RegionTactic
import Derived.Laws.MakeOwn
namespace Go.Proofs.YtimfeocaghccdaaGreatDoor
set_option maxRecDepth 100000
open Go.RowKit Go.Maps
set_option linter.unusedVariables false

def und (s : St) : St := match s.2 with
  | [] => s
  | M :: r => (M, r)
def undB (s : St) : Bool := !s.2.isEmpty
theorem und_hst {s : St} (h : Hst s.1 s.2) : Hst (und s).1 (und s).2 := by
  obtain ⟨L, r⟩ := s
  cases r with
  | nil => exact h
  | cons M r => exact h.back.1
theorem und_len (s : St) : (und s).2.length ≤ s.2.length := by
  obtain ⟨L, r⟩ := s
  cases r with
  | nil => exact Nat.le_refl _
  | cons M r => simp [und]
theorem tund_any (g : Nat) (s : St) (fs : List Nat) (hr : s.2.length ≤ 900) (w : World) (h : Tr w g s.1 s.2 fs) :
    Calls Tryz.prog 27 #[.pointer (some ⟨g, 0, none⟩)] w (TrRet (.bool (undB s)) g (und s).1 (und s).2 fs w) := by
  obtain ⟨L, r⟩ := s
  cases r with
  | nil =>
    refine (tundo_none g L fs w h).mono ?_
    rintro e w' ⟨rfl, rfl⟩
    exact ⟨rfl, fs, h, Mod.refl _ _, fun k hk => .inl hk⟩
  | cons M r => exact tundo_some g L M r fs (by simp at hr; omega) w h
end Go.Proofs.YtimfeocaghccdaaGreatDoor
namespace Go.Proofs.YtimfeocaghccdaaGreatDoor
open Go.RowKit Go.Maps
set_option linter.unusedVariables false
set_option linter.unusedSimpArgs false
set_option maxRecDepth 100000

/-- The log's parts in memory. -/
structure Lm (w : World) (g gt most : Nat) (v : Value) (L : List O5) : Prop where
  blk : w.heap[g]? = some (.cells #[.int .i64 (most : Int), v, .pointer (some ⟨gt, 0, none⟩)] 64 (0, 0))
  own : OwnOps w 0 v L
/-- A log, in memory; its blocks. -/
structure Lg (w : World) (g most : Nat) (L : List O5) (fs : List Nat) : Prop where
  srt : SrtO L
  rgt : AllR L
  len : L.length ≤ most
  mem : ∃ gt v ft, Lm w g gt most v L ∧ Tr w gt (runS L).1 (runS L).2 ft ∧ fs = g :: (v.ownBlock.toList ++ ft)
theorem OwnOps.kept {w w' : World} {base : Nat} {v : Value} {os : List O5} (h : OwnOps w base v os) (hk : ∀ b, v.ownBlock = some b → w'.heap[b]? = w.heap[b]?) : OwnOps w' base v os := by
  refine ⟨h.1, ?_⟩
  rcases h.2 with h0 | ⟨g, cap, cur, rfl, h2, h3, h4⟩
  · exact .inl h0
  · exact .inr ⟨g, cap, cur, rfl, h2, (hk g rfl).trans h3, h4⟩
theorem OwnOps.blk' {w : World} {base : Nat} {v : Value} {os : List O5} (h : OwnOps w base v os) {b : Nat} (hb : v.ownBlock = some b) : ∃ cur, w.heap[b]? = some (.cells cur 50 (0, 0)) := by
  rcases h.2 with ⟨rfl, _⟩ | ⟨g, cap, cur, rfl, h2, h3, h4⟩
  · simp [Value.ownBlock] at hb
  · simp [Value.ownBlock] at hb
    subst hb
    exact ⟨cur, h3⟩
theorem OwnOps.lt {w : World} {base : Nat} {v : Value} {os : List O5} (h : OwnOps w base v os) {b : Nat} (hb : v.ownBlock = some b) : b < w.heap.size := by
  obtain ⟨cur, hc⟩ := h.blk' hb
  exact (Array.getElem?_eq_some_iff.1 hc).1
/-- A tree's blocks are a tree's, maps, and rows of what is remembered. -/
theorem Tr.kind {w : World} {g : Nat} {L : List Kd} {r : List (List Kd)} {fs : List Nat} (h : Tr w g L r fs) {k : Nat} (hk : k ∈ fs) :
    (∃ cs, w.heap[k]? = some (.cells cs 91 (0, 0))) ∨ (∃ cs, w.heap[k]? = some (.cells cs 93 (0, 0))) ∨ ∃ es c, w.heap[k]? = some (.map es c) := by
  obtain ⟨_, bm, vp, p, T, _, rfl⟩ := h
  rcases mem_fs.1 hk with rfl | rfl | hb
  · exact .inl ⟨_, T.blk⟩
  · obtain ⟨es, c, hb, _⟩ := T.map
    exact .inr (.inr ⟨es, c, hb⟩)
  · obtain ⟨cur, hc⟩ := T.past.block hb
    exact .inr (.inl ⟨cur, hc⟩)
theorem Tr.apart {w : World} {g : Nat} {L : List Kd} {r : List (List Kd)} {fs : List Nat} (h : Tr w g L r fs) {k : Nat} {cs : Array Value} {t : TypeId} {z : Nat × Nat} (hc : w.heap[k]? = some (.cells cs t z)) (h1 : t ≠ 91) (h2 : t ≠ 93) : k ∉ fs := by
  intro hk
  rcases h.kind hk with ⟨cs', e⟩ | ⟨cs', e⟩ | ⟨es, c, e⟩
  · rw [hc] at e; simp at e; exact h1 e.2.1
  · rw [hc] at e; simp at e; exact h2 e.2.1
  · rw [hc] at e; cases e
theorem Lm.lt {w : World} {g gt most : Nat} {v : Value} {L : List O5} (h : Lm w g gt most v L) : g < w.heap.size := (Array.getElem?_eq_some_iff.1 h.blk).1
theorem Lm.kept {w w' : World} {g gt most : Nat} {v : Value} {L : List O5} (h : Lm w g gt most v L) (hk : ∀ b, b = g ∨ v.ownBlock = some b → w'.heap[b]? = w.heap[b]?) : Lm w' g gt most v L :=
  ⟨(hk g (.inl rfl)).trans h.blk, h.own.kept fun b hb => hk b (.inr hb)⟩
theorem Lm.below {w w' : World} {g gt most : Nat} {v : Value} {L : List O5} (h : Lm w g gt most v L) (hb : Below w.heap.size w w') : Lm w' g gt most v L :=
  h.kept fun b hb' => hb.block b (by rcases hb' with rfl | hb'; exact h.lt; exact h.own.lt hb')
theorem Lm.cell0 {w : World} {g gt most : Nat} {v : Value} {L : List O5} (h : Lm w g gt most v L) : w.cell? ⟨g, 0, none⟩ = some (.int .i64 (most : Int)) := cell_of_row w g 0 _ _ (0, 0) h.blk
theorem Lm.cell1 {w : World} {g gt most : Nat} {v : Value} {L : List O5} (h : Lm w g gt most v L) : w.cell? ⟨g, 1, none⟩ = some v := cell_of_row w g 1 _ _ (0, 0) h.blk
theorem Lm.cell2 {w : World} {g gt most : Nat} {v : Value} {L : List O5} (h : Lm w g gt most v L) : w.cell? ⟨g, 2, none⟩ = some (.pointer (some ⟨gt, 0, none⟩)) := cell_of_row w g 2 _ _ (0, 0) h.blk
theorem Lm.free1 {w : World} {g gt most : Nat} {v : Value} {L : List O5} (h : Lm w g gt most v L) : w.frozen? ⟨g, 1, none⟩ = false := Joins.unfrozen_of_block h.blk 1
theorem Lm.ne {w : World} {g gt most : Nat} {v : Value} {L : List O5} (h : Lm w g gt most v L) {b : Nat} (hb : v.ownBlock = some b) : b ≠ g := by
  rintro rfl
  obtain ⟨cur, hc⟩ := h.own.blk' hb
  rw [h.blk] at hc
  simp at hc
theorem Lm.apart {w : World} {g gt most : Nat} {v : Value} {L : List O5} (h : Lm w g gt most v L) {T : List Kd} {r : List (List Kd)} {ft : List Nat} {g' : Nat} (ht : Tr w g' T r ft) : g ∉ ft ∧ ∀ b, v.ownBlock = some b → b ∉ ft := by
  refine ⟨ht.apart h.blk (by decide) (by decide), fun b hb => ?_⟩
  obtain ⟨cur, hc⟩ := h.own.blk' hb
  exact ht.apart hc (by decide) (by decide)
theorem mem_lfs {g k : Nat} {v : Value} {ft : List Nat} : k ∈ g :: (v.ownBlock.toList ++ ft) ↔ k = g ∨ v.ownBlock = some k ∨ k ∈ ft := by
  cases h : v.ownBlock <;> simp
  simp [eq_comm]
theorem Lg.mod {w w' : World} {g most : Nat} {L : List O5} {fs fs' : List Nat} (h : Lg w g most L fs) (hm : Mod fs' w w') (hd : ∀ k ∈ fs, k ∉ fs') : Lg w' g most L fs := by
  obtain ⟨h1, h2, h3, gt, v, ft, M, T, rfl⟩ := h
  refine ⟨h1, h2, h3, gt, v, ft, M.kept fun b hb => hm.block b (by rcases hb with rfl | hb; exact M.lt; exact M.own.lt hb) (hd b (mem_lfs.2 (by rcases hb with rfl | hb; exact .inl rfl; exact .inr (.inl hb)))), T.mod hm fun k hk => hd k (mem_lfs.2 (.inr (.inr hk))), rfl⟩
theorem Lg.below {w w' : World} {g most : Nat} {L : List O5} {fs : List Nat} (h : Lg w g most L fs) (hb : Below w.heap.size w w') : Lg w' g most L fs :=
  h.mod (fs' := []) (Mod.of_below hb) (by simp)
theorem Lg.lt {w : World} {g most : Nat} {L : List O5} {fs : List Nat} (h : Lg w g most L fs) : ∀ k ∈ fs, k < w.heap.size := by
  obtain ⟨h1, h2, h3, gt, v, ft, M, T, rfl⟩ := h
  intro k hk
  rcases mem_lfs.1 hk with rfl | hk | hk
  · exact M.lt
  · exact M.own.lt hk
  · exact T.lt k hk
/-! ### is one of them wrong? -/
theorem wrong_any (o : O5) (hl : o.l.length ≤ maxLen) (w : World) (hE : Env w) : Calls Tryz.prog 31 #[.agg #[.int .i64 o.n, .int .i64 o.r, .int .i64 o.d, .int .i64 o.t, .string (bs o.l)]] w (BoolRet (!o.R) w) := by
  have K := hide (fun W hE => oright_any o.n o.r o.d o.t o.l W hl hE)
  have B := hide ((Below.refl w.heap.size w).alloc (Nat.le_refl _) (.cells #[.int .i64 o.n, .int .i64 o.r, .int .i64 o.d, .int .i64 o.t, .string (bs o.l)] 50))
  have HE := hide (hE.below B.out)
  unfold opv at K
  clear hE
  go_enter Tryz.func31, Tryz.ntmps31
  go_wp2_with fail
  refine (K.out _ HE.out).mono ?_
  rintro e w1 ⟨rfl, hb⟩
  have B1 := hide (B.out.trans (hb.mono (by simp)))
  clear hb
  go_wp2
  go_ret
  exact ⟨rfl, B1.out⟩
def IdxRel (w : World) (os : List O5) (v : Value) (wr : World) : Prop := ∃ k : Nat, k ≤ os.length ∧ v = .int .i64 (k : Int) ∧ (os.take k).any (fun o => !o.R) = false ∧ Below w.heap.size w wr
def IdxRet (w : World) (os : List O5) (e : Ending) (w' : World) : Prop := ∃ i : Int, e = .returned (.int .i64 i) ∧ decide (0 ≤ i) = os.any (fun o => !o.R) ∧ Below w.heap.size w w'
set_option maxHeartbeats 1000000 in
theorem idxf_any (A : Option Addr) (c : Nat) (os : List O5) (hn : os.length ≤ 1000000) (hm : ∀ o ∈ os, o.l.length ≤ maxLen) (w : World) (hE : Env w) (h : Ops w A c os) :
    Calls Tryz.prog 52 #[.slice A os.length c, .func (.func 31) #[] #[]] w (IdxRet w os) := by
  have HO := hide h
  have HE := hide hE
  have HM := hide hm
  clear h hE hm
  go_enter Tryz.func52, Tryz.ntmps52
  go_wp2_with fail
  go_loopw [8] (IdxRel w os) (fun i _ => os.length - (intOf i).toNat)
  case atStart => exact ⟨0, Nat.zero_le _, rfl, by simp, Below.refl _ _⟩
  case round =>
    obtain ⟨k, hk, rfl, ha, hb⟩ := hrel
    have HA := hide ha
    have HB := hide hb
    clear ha hb
    by_cases hlt : k < os.length
    · obtain ⟨b, o, rfl, hat⟩ := (HO.out.below HB.out).lit (by omega)
      obtain ⟨c0, c1, c2, c3, c4⟩ := hat.five k hlt
      have i1 : (k : Int) < (os.length : Int) := by omega
      have i0 : (0 : Int) ≤ (k : Int) := by omega
      have hx := HM.out _ (List.getElem_mem hlt)
      have KW := hide (wrong_any os[k] hx wr (HE.out.below HB.out))
      have HT := hide (show (os.take (k + 1)).any (fun o => !o.R) = !os[k].R by rw [List.take_succ_eq_append_getElem hlt, List.any_append, HA.out]; simp)
      have HF := hide (show (!os[k].R) = true → os.any (fun o => !o.R) = true from fun hr => List.any_eq_true.2 ⟨_, List.getElem_mem hlt, hr⟩)
      generalize os[k] = x at c0 c1 c2 c3 c4 KW HT HF hx
      clear hat
      go_wp2_with fail
      refine KW.out.mono ?_
      rintro e w1 ⟨rfl, hb1⟩
      have HB1 := hide (HB.out.trans (hb1.mono HB.out.size))
      clear hb1 KW c0 c1 c2 c3 c4
      cases hr : x.R with
      | false =>
        have HY := hide (HF.out (by rw [hr]; rfl))
        clear hr HT HF
        go_wp2
        go_ret
        exact ⟨k, rfl, by rw [HY.out]; simp, HB1.out⟩
      | true =>
        rw [hr] at HT
        clear hr HF
        go_wp2_with fail
        go_roundw
        case rel => exact ⟨k + 1, by omega, by go_num, HT.out, HB1.out⟩
        case measure => simp [intOf]; omega
    · obtain rfl : k = os.length := by omega
      go_wp2
      go_ret
      refine ⟨-1, rfl, ?_, HB.out⟩
      have := HA.out
      rw [List.take_length] at this
      rw [this]
      rfl
theorem hasf_any (A : Option Addr) (c : Nat) (os : List O5) (hn : os.length ≤ 1000000) (hm : ∀ o ∈ os, o.l.length ≤ maxLen) (w : World) (hE : Env w) (h : Ops w A c os) :
    Calls Tryz.prog 30 #[.slice A os.length c, .func (.func 31) #[] #[]] w (BoolRet (os.any fun o => !o.R) w) := by
  have K := hide (idxf_any A c os hn hm w hE h)
  clear h hE hm
  go_enter Tryz.func30, Tryz.ntmps30
  go_wp2_with fail
  refine K.out.mono ?_
  rintro e w1 ⟨i, rfl, hi, hb⟩
  have HI := hide hi
  clear hi
  go_wp2
  go_ret
  refine ⟨?_, hb⟩
  rw [← HI.out]
  rfl
/-! ### where one stands -/
set_option maxHeartbeats 1000000 in
theorem place_any (g gt most : Nat) (v : Value) (L : List O5) (o : O5) (hs : SrtO L) (hn : L.length ≤ 1000000) (w : World) (h : Lm w g gt most v L) :
    Calls Tryz.prog 44 #[.pointer (some ⟨g, 0, none⟩), .agg #[.int .i64 o.n, .int .i64 o.r, .int .i64 o.d, .int .i64 o.t, .string (bs o.l)]] w (SrchRet w L o) := by
  obtain ⟨A, c, rfl, hO⟩ := h.own.ops
  have B := (Below.refl w.heap.size w).alloc (Nat.le_refl _) (.cells #[.int .i64 o.n, .int .i64 o.r, .int .i64 o.d, .int .i64 o.t, .string (bs o.l)] 50)
  have h1 := (h.below B).cell1
  have HO := hide (hO.below B)
  obtain ⟨e0, e1, e2, e3, e4⟩ := Bo.new w o.n o.r o.d o.t o.l 50
  have K := hide (fun W hW => srch_any A c L o hs hn W hW)
  clear h hO
  go_enter Tryz.func44, Tryz.ntmps44
  go_upto_region 1 with (fail)
  generalize w.alloc (.cells #[.int .i64 o.n, .int .i64 o.r, .int .i64 o.d, .int .i64 o.t, .string (bs o.l)] 50) = w1 at B h1 HO e0 e1 e2 e3 e4 ⊢
  have HB := hide B
  have HOD := hide (HO.out.below (Below.refl _ w1).drew)
  have hS0 := And.intro h1 (And.intro e0 (And.intro e1 (And.intro e2 (And.intro e3 e4))))
  clear B
  go_wp2_with fail
  go_region_held3 (fun w' => w'.cell? ⟨g, 1, none⟩ = some (.slice A L.length c) ∧ w'.cell? ⟨w.heap.size, 0, none⟩ = some (.int .i64 o.n) ∧ w'.cell? ⟨w.heap.size, 1, none⟩ = some (.int .i64 o.r) ∧ w'.cell? ⟨w.heap.size, 2, none⟩ = some (.int .i64 o.d) ∧ w'.cell? ⟨w.heap.size, 3, none⟩ = some (.int .i64 o.t) ∧ w'.cell? ⟨w.heap.size, 4, none⟩ = some (.string (bs o.l)))
    (first | with_reducible exact hS1 | with_reducible exact hS0 | go_keep)
    (first
      | (go_at_call 73
         (with_reducible refine (K.out _ HOD.out).mono ?_)
         rintro e w2 ⟨rfl, hb⟩
         have hb' : Below w1.heap.size w1 w2 := ⟨hb.os, hb.tape, hb.output, hb.size, hb.block⟩
         have hS1 := And.intro (cellk hb' h1) (And.intro (cellk hb' e0) (And.intro (cellk hb' e1) (And.intro (cellk hb' e2) (And.intro (cellk hb' e3) (cellk hb' e4)))))
         have B2 := hide (HB.out.trans (hb'.mono HB.out.size))
         clear hb hb'))
  go_wp2
  go_ret2
  exact ⟨rfl, B2.out⟩
set_option maxHeartbeats 1000000 in
theorem lhas_m (g gt most : Nat) (v : Value) (L : List O5) (o : O5) (hs : SrtO L) (hn : L.length ≤ 1000000) (w : World) (h : Lm w g gt most v L) :
    Calls Tryz.prog 22 #[.pointer (some ⟨g, 0, none⟩), .agg #[.int .i64 o.n, .int .i64 o.r, .int .i64 o.d, .int .i64 o.t, .string (bs o.l)]] w (BoolRet (decide (o ∈ L)) w) := by
  have B := hide ((Below.refl w.heap.size w).alloc (Nat.le_refl _) (.cells #[.int .i64 o.n, .int .i64 o.r, .int .i64 o.d, .int .i64 o.t, .string (bs o.l)] 50))
  have K := hide (place_any g gt most v L o hs hn _ (h.below B.out))
  clear h
  go_enter Tryz.func22, Tryz.ntmps22
  go_wp2_with fail
  refine K.out.mono ?_
  rintro e w1 ⟨rfl, hb⟩
  have B1 := hide (B.out.trans (hb.mono (by simp)))
  clear hb
  go_wp2
  go_ret
  exact ⟨rfl, B1.out⟩
theorem lhas_any (g most : Nat) (L : List O5) (fs : List Nat) (o : O5) (hn : L.length ≤ 1000000) (w : World) (h : Lg w g most L fs) :
    Calls Tryz.prog 22 #[.pointer (some ⟨g, 0, none⟩), .agg #[.int .i64 o.n, .int .i64 o.r, .int .i64 o.d, .int .i64 o.t, .string (bs o.l)]] w (BoolRet (decide (o ∈ L)) w) := by
  obtain ⟨gt, v, ft, M, _⟩ := h.mem
  exact lhas_m g gt most v L o h.srt hn w M
end Go.Proofs.YtimfeocaghccdaaGreatDoor
namespace Go.Proofs.YtimfeocaghccdaaGreatDoor
open Go.RowKit Go.Maps
set_option linter.unusedVariables false
set_option linter.unusedSimpArgs false
set_option maxRecDepth 100000

/-- A log that is new since a world. -/
structure Lwg (w0 w : World) (g most : Nat) (L : List O5) (fs : List Nat) : Prop where
  lg : Lg w g most L fs
  fs : ∀ k ∈ fs, w0.heap.size ≤ k
  bel : Below w0.heap.size w0 w
theorem Lwg.below {w0 w w' : World} {g most : Nat} {L : List O5} {fs : List Nat} (h : Lwg w0 w g most L fs) (hb : Below w.heap.size w w') : Lwg w0 w' g most L fs :=
  ⟨h.lg.below hb, h.fs, h.bel.trans (hb.mono h.bel.size)⟩
def LNewRet (w : World) (most : Nat) (L : List O5) (e : Ending) (w' : World) : Prop := ∃ g fs, e = .returned (.pointer (some ⟨g, 0, none⟩)) ∧ Lwg w w' g most L fs
theorem lnew_any (most : Nat) (w : World) : Calls Tryz.prog 8 #[.int .i64 (most : Int)] w (LNewRet w most []) := by
  have i1 : ¬ (most : Int) < 0 := by omega
  go_enter Tryz.func8, Tryz.ntmps8
  go_wp2_with fail
  refine (tnew_any w).mono ?_
  rintro e w1 ⟨rfl, hT, hB⟩
  have HT := hide hT
  have HB := hide hB
  clear hT hB
  go_wp2
  go_ret
  have B1 := (Below.refl w1.heap.size w1).alloc (Nat.le_refl _) (.cells #[.int .i64 (most : Int), .slice none 0 0, .pointer (some ⟨w.heap.size + 1, 0, none⟩)] 64)
  refine ⟨w1.heap.size, _, rfl, ⟨List.Pairwise.nil, by intro o ho; simp at ho, Nat.zero_le _, w.heap.size + 1, .slice none 0 0, _, ⟨heap_alloc_new _ _, OwnOps.nil _ _⟩, HT.out.below B1, rfl⟩, ?_, HB.out.trans (B1.mono HB.out.size)⟩
  intro k hk
  have := HB.out.size
  rcases mem_lfs.1 hk with rfl | hk | hk
  · exact this
  · simp [Value.ownBlock] at hk
  · simp at hk
    omega
theorem lall_any (g most : Nat) (L : List O5) (fs : List Nat) (hn : L.length < 1000000) (w : World) (h : Lg w g most L fs) :
    Calls Tryz.prog 15 #[.pointer (some ⟨g, 0, none⟩)] w (OCloneRet w L) := by
  obtain ⟨gt, v, ft, M, -⟩ := h.mem
  obtain ⟨A, c, rfl, hO⟩ := M.own.ops
  have h1 := M.cell1
  have K := hide (oclone_any A c L hn w hO)
  clear h M hO
  go_enter Tryz.func15, Tryz.ntmps15
  go_wp2_with fail
  refine K.out.mono ?_
  rintro e w1 ⟨v, rfl, hO, hb⟩
  have HO := hide hO
  have HB := hide hb
  obtain ⟨A1, c1, rfl, _⟩ := hO.ops
  clear hO hb
  go_wp2
  go_ret
  exact ⟨_, rfl, HO.out, HB.out⟩
theorem topO_le {L : List O5} : ∀ {m : Int}, (∀ o ∈ L, o.n ≤ m) → ∀ a, a ≤ m → L.foldl (fun m o => max m o.n) a ≤ m := by
  induction L with
  | nil => intro m _ a ha; exact ha
  | cons o L ih =>
    intro m h a ha
    exact ih (fun x hx => h x (by simp [hx])) _ (Int.max_le.2 ⟨ha, h o (by simp)⟩)
theorem foldl_ge {L : List O5} : ∀ a : Int, a ≤ L.foldl (fun m o => max m o.n) a := by
  induction L with
  | nil => intro a; exact Int.le_refl _
  | cons o L ih => intro a; exact Int.le_trans (Int.le_max_left _ _) (ih _)
theorem topO_ge {L : List O5} {o : O5} (h : o ∈ L) : o.n ≤ topO L := by
  unfold topO
  obtain ⟨a, b, rfl⟩ := List.append_of_mem h
  rw [List.foldl_append, List.foldl_cons]
  exact Int.le_trans (Int.le_max_right _ _) (foldl_ge _)
theorem ocF_n {a b : O5} (h : ocF a b ≤ 0) : a.n ≤ b.n := by
  apply Classical.byContradiction
  intro hn
  have h1 : cm a.n b.n = 1 := by unfold cm; rw [if_neg (by omega), if_pos (by omega)]
  have h2 : stC a.n a.r b.n b.r = 1 := by unfold stC; rw [if_pos (by omega)]; exact h1
  have h3 : ocF a b = 1 := by unfold ocF opC; rw [if_pos (by omega)]; exact h2
  omega
theorem topO_last {L : List O5} (hs : SrtO L) (hr : AllR L) (hn : 0 < L.length) : topO L = L[L.length - 1].n := by
  have hm : L[L.length - 1] ∈ L := List.getElem_mem _
  have hpos : 0 ≤ L[L.length - 1].n := by
    have := hr _ hm
    unfold O5.R opR at this
    simp only [Bool.and_eq_true] at this
    have := stR_t this.1.1.1
    omega
  apply Int.le_antisymm
  · refine topO_le (fun o ho => ?_) 0 hpos
    obtain ⟨i, hi, rfl⟩ := List.mem_iff_getElem.1 ho
    by_cases e : i = L.length - 1
    · subst e
      exact Int.le_refl _
    · exact ocF_n (Int.le_of_lt (List.pairwise_iff_getElem.1 hs i (L.length - 1) hi (by omega) (by omega)))
  · exact topO_ge hm
set_option maxHeartbeats 1000000 in
theorem ltop_any (g most : Nat) (L : List O5) (fs : List Nat) (hn : L.length < 1000000) (w : World) (h : Lg w g most L fs) :
    Calls Tryz.prog 16 #[.pointer (some ⟨g, 0, none⟩)] w (NumRet (topO L) w) := by
  obtain ⟨gt, v, ft, M, -⟩ := h.mem
  have HL := hide (fun hp => topO_last h.srt h.rgt hp)
  obtain ⟨A, c, rfl, hO⟩ := M.own.ops
  have h1 := M.cell1
  clear h M
  go_enter Tryz.func16, Tryz.ntmps16
  by_cases h0 : L.length = 0
  · have e : L = [] := List.length_eq_zero_iff.1 h0
    subst e
    go_wp2
    go_ret
    exact ⟨rfl, Below.refl _ _⟩
  · have i1 : ((L.length : Int) == 0) = false := by simp only [beq_eq_false_iff_ne, ne_eq]; omega
    obtain ⟨b, o, rfl, hat⟩ := hO.lit (by omega)
    obtain ⟨p, hp⟩ : ∃ p, p + 1 = L.length := ⟨L.length - 1, by omega⟩
    have i2 : (L.length : Int) - 1 = (p : Int) := by omega
    have i3 : (p : Int) < (L.length : Int) := by omega
    have i4 : (0 : Int) ≤ (p : Int) := by omega
    have ep : L.length - 1 = p := by omega
    have HT := hide (HL.out (by omega))
    simp only [ep] at HT
    obtain ⟨c0, -⟩ := hat.five p (by omega)
    generalize L[p] = x at c0 HT
    clear hat hO h0 hp ep HL
    go_wp2_with fail
    go_quiet (fail)
    go_wp2
    go_ret
    rw [HT.out]
    exact ⟨rfl, belowD' (Below.refl _ _) _⟩
theorem ltree_any (g most : Nat) (L : List O5) (fs : List Nat) (hn : L.length < 900000) (w : World) (h : Lg w g most L fs) :
    Calls Tryz.prog 12 #[.pointer (some ⟨g, 0, none⟩)] w (CloneRet w (runS L).1 (runS L).2) := by
  obtain ⟨gt, v, ft, M, T, -⟩ := h.mem
  have h1 := M.cell2
  have K := hide (tclone_any gt _ _ ft (by have := runS_len L; omega) w T)
  clear h M T
  go_enter Tryz.func12, Tryz.ntmps12
  go_wp2_with fail
  refine K.out.mono ?_
  rintro e w1 ⟨g', fs', rfl, hT, hf, hb⟩
  have HT := hide hT
  have HB := hide hb
  have HF := hide hf
  clear hT hb hf
  go_wp2
  go_ret
  exact ⟨g', fs', rfl, HT.out, HF.out, HB.out⟩
set_option maxHeartbeats 2000000 in
theorem lclone_any (g most : Nat) (L : List O5) (fs : List Nat) (hn : L.length < 900000) (w : World) (h : Lg w g most L fs) :
    Calls Tryz.prog 28 #[.pointer (some ⟨g, 0, none⟩)] w (LNewRet w most L) := by
  obtain ⟨hs, hr, hl, gt, v, ft, M, T, -⟩ := h
  obtain ⟨A, c, rfl, hO⟩ := M.own.ops
  have c0 := M.cell0
  have c1 := M.cell1
  have c2 := M.cell2
  have KO := hide (fun W hW => oclone_any A c L (by omega) W hW)
  have KT := hide (fun W hW => tclone_any gt (runS L).1 (runS L).2 ft (by have := runS_len L; omega) W hW)
  have HO := hide (hO.below (Below.refl _ w).drew)
  have HT := hide T
  have HS := hide hs
  have HR := hide hr
  have HL := hide hl
  have hS0 := And.intro c0 (And.intro c1 c2)
  clear M T hO hs hr hl
  go_enter Tryz.func28, Tryz.ntmps28
  go_wp2_with fail
  go_region_held3 (fun w' => w'.cell? ⟨g, 0, none⟩ = some (.int .i64 (most : Int)) ∧ w'.cell? ⟨g, 1, none⟩ = some (.slice A L.length c) ∧ w'.cell? ⟨g, 2, none⟩ = some (.pointer (some ⟨gt, 0, none⟩)))
    (first | with_reducible exact hS2 | with_reducible exact hS1 | with_reducible exact hS0 | go_keep)
    (first
      | (go_at_call 39
         (with_reducible refine (KO.out _ HO.out).mono ?_)
         rintro e w1 ⟨v1, rfl, ho1, hb1⟩
         have hb1' : Below w.heap.size w w1 := ⟨hb1.os, hb1.tape, hb1.output, hb1.size, hb1.block⟩
         have hS1 := And.intro (cellk hb1' c0) (And.intro (cellk hb1' c1) (cellk hb1' c2))
         have T1 := hide (HT.out.below hb1')
         have B1 := hide hb1'
         have O1 := hide (show OwnOps w1 w.heap.size v1 L from ho1)
         obtain ⟨A1, k1, rfl, -⟩ := ho1.ops
         clear ho1 hb1 hb1')
      | (go_at_call 38
         (with_reducible refine (KT.out _ T1.out).mono ?_)
         rintro e w2 ⟨g2, f2, rfl, ht2, hf2, hb2⟩
         have hS2 := And.intro (cellk hb2 hS1.1) (And.intro (cellk hb2 hS1.2.1) (cellk hb2 hS1.2.2))
         have T2 := hide ht2
         have O2 := hide (O1.out.below hb2)
         have B2 := hide (B1.out.trans (hb2.mono B1.out.size))
         have F2 := hide (show ∀ k ∈ f2, w.heap.size ≤ k from fun k hk => Nat.le_trans B1.out.size (hf2 k hk))
         clear ht2 hf2 hb2))
  have Bz := (Below.refl w2.heap.size w2).alloc (Nat.le_refl _) (.cells #[.int .i64 (most : Int), .slice A1 L.length k1, .pointer (some ⟨g2, 0, none⟩)] 64)
  have LF := hide (show Lg (w2.alloc (.cells #[.int .i64 (most : Int), .slice A1 L.length k1, .pointer (some ⟨g2, 0, none⟩)] 64)) w2.heap.size most L (w2.heap.size :: ((Value.slice A1 L.length k1).ownBlock.toList ++ f2)) from
    ⟨HS.out, HR.out, HL.out, g2, _, f2, ⟨heap_alloc_new w2 _, (O2.out.base (Nat.zero_le _)).below Bz⟩, T2.out.below Bz, rfl⟩)
  have BF := hide (B2.out.alloc B2.out.size (.cells #[.int .i64 (most : Int), .slice A1 L.length k1, .pointer (some ⟨g2, 0, none⟩)] 64))
  have sz := B2.out.size
  have OR := hide O2.out.row
  clear Bz
  go_wp2
  go_ret
  refine ⟨_, _, rfl, LF.out, fun k hk => ?_, BF.out⟩
  rcases mem_lfs.1 hk with rfl | hb | hk
  · exact sz
  · exact OR.out k hb
  · exact F2.out k hk
end Go.Proofs.YtimfeocaghccdaaGreatDoor
namespace Go.Proofs.YtimfeocaghccdaaGreatDoor
open Go.RowKit Go.Maps Go.Shelf
attribute [local go_sem] Oper.semAt_some
set_option linter.unusedVariables false
set_option linter.unusedSimpArgs false
set_option maxRecDepth 100000

/-- Operations that are right. -/
abbrev RO := { o : O5 // o.R = true }
def RO.vs (x : RO) : Array Value := #[.agg #[.int .i64 x.1.n, .int .i64 x.1.r, .int .i64 x.1.d, .int .i64 x.1.t, .string (bs x.1.l)]]
/-- What the log hasn't, in order, each once. -/
def mis (L os : List O5) : List O5 := (ddc (sortO os)).filter fun o => !decide (o ∈ L)
/-- The row in box B lies at N or behind it. -/
def FrB (B N : Nat) (W : World) : Prop := ∃ v, W.heap[B]? = some (.cells #[v] 27 (0, 0)) ∧ ∀ k, v.ownBlock = some k → N ≤ k
/-- What a round keeps: all cells, but for box B and the row in it. -/
structure KpF (B : Nat) (W W' : World) : Prop where
  size : W.heap.size ≤ W'.heap.size
  keep : ∀ N, N ≤ W.heap.size → FrB B N W → FrB B N W' ∧ ∀ k, k < N → k ≠ B → ∀ o, W.heap[k]? = some o → o.isCells = true → W'.heap[k]? = some o
theorem KpF.trans {B : Nat} {a b c : World} (h : KpF B a b) (k : KpF B b c) : KpF B a c :=
  ⟨Nat.le_trans h.size k.size, fun N hN hF => by
    obtain ⟨h1, h2⟩ := h.keep N hN hF
    obtain ⟨k1, k2⟩ := k.keep N (Nat.le_trans hN h.size) h1
    exact ⟨k1, fun i hi hne o ho hc => k2 i hi hne o (h2 i hi hne o ho hc) hc⟩⟩
theorem KpF.put {B : Nat} (W : World) (l : Nat) (o o' : Obj) (hl : W.heap[l]? = some o) (ho : o.isCells = false) : KpF B W (W.putObj l o') := by
  have hoth : ∀ k, k ≠ l → (W.putObj l o').heap[k]? = W.heap[k]? := fun k hk => World.putObj_heap_other hk
  have hne : ∀ k o1, W.heap[k]? = some o1 → o1.isCells = true → k ≠ l := by
    rintro k o1 h1 hc rfl
    rw [hl] at h1
    cases h1
    rw [ho] at hc
    cases hc
  refine ⟨by simp, fun N hN hF => ⟨?_, ?_⟩⟩
  · obtain ⟨v, h1, h2⟩ := hF
    exact ⟨v, (hoth B (hne B _ h1 rfl)).trans h1, h2⟩
  · intro k hk _ o1 h1 hc
    exact (hoth k (hne k _ h1 hc)).trans h1
theorem KpF.below {B : Nat} {W W' : World} (h : Below W.heap.size W W') : KpF B W W' :=
  ⟨h.size, fun N hN hF => by
    obtain ⟨v, h1, h2⟩ := hF
    exact ⟨⟨v, (h.block B (Array.getElem?_eq_some_iff.1 h1).1).trans h1, h2⟩, fun k hk _ o ho _ => (h.block k (by omega)).trans ho⟩⟩
/-- Of the cells that lay below a place nothing is lost in a round. -/
theorem KpF.cells {B N : Nat} {W W' : World} (h : KpF B W W') (hN : N ≤ W.heap.size) (hF : FrB B N W) {k : Nat} (hk : k < N) (hne : k ≠ B) {cs : Array Value} {t : TypeId} {z : Nat × Nat} (hc : W.heap[k]? = some (.cells cs t z)) : W'.heap[k]? = some (.cells cs t z) :=
  (h.keep N hN hF).2 k hk hne _ hc rfl
theorem cell_block {W : World} {a : Addr} {u : Value} (h : W.cell? a = some u) : ∃ cs t z, W.heap[a.block]? = some (.cells cs t z) := by
  unfold World.cell? at h
  split at h
  · rename_i c t z hc
    exact ⟨c, t, z, hc⟩
  · cases h
theorem KpF.cell {B N : Nat} {W W' : World} (h : KpF B W W') (hN : N ≤ W.heap.size) (hF : FrB B N W) {a : Addr} {u : Value} (ha : a.block < N) (hne : a.block ≠ B) (hc : W.cell? a = some u) : W'.cell? a = some u := by
  obtain ⟨cs, t, z, hb⟩ := cell_block hc
  have h1 := h.cells hN hF ha hne hb
  unfold World.cell? at hc ⊢
  rw [hb] at hc
  rw [h1]
  exact hc
/-- What the iterator reads, in its rounds. -/
structure ItM (N B bl g gt most : Nat) (v : Value) (L : List O5) (A : Option Addr) (c : Nat) (cl : List O5) (W : World) : Prop where
  fr : FrB B N W
  sz : N ≤ W.heap.size
  box : W.cell? ⟨bl, 0, none⟩ = some (.pointer (some ⟨g, 0, none⟩))
  boxN : bl < N ∧ bl ≠ B
  lm : Lm W g gt most v L
  gN : g < N ∧ g ≠ B
  vN : ∀ b, v.ownBlock = some b → b < N ∧ b ≠ B
  ops : Ops W A c cl
  oN : ∀ b o, A = some ⟨b, o, none⟩ → 0 < cl.length → b < N ∧ b ≠ B
theorem ItM.round {N B bl g gt most : Nat} {v : Value} {L : List O5} {A : Option Addr} {c : Nat} {cl : List O5} {W W' : World} (h : ItM N B bl g gt most v L A c cl W) (hk : KpF B W W') : ItM N B bl g gt most v L A c cl W' := by
  refine ⟨(hk.keep N h.sz h.fr).1, Nat.le_trans h.sz hk.size, hk.cell h.sz h.fr h.boxN.1 h.boxN.2 h.box, h.boxN, ⟨hk.cells h.sz h.fr h.gN.1 h.gN.2 h.lm.blk, h.lm.own.kept fun b hb => ?_⟩, h.gN, h.vN, ⟨h.ops.nil, h.ops.le, h.ops.most, fun hp => ?_⟩, h.oN⟩
  · obtain ⟨cur, hc⟩ := h.lm.own.blk' hb
    rw [hc]
    exact hk.cells h.sz h.fr (h.vN b hb).1 (h.vN b hb).2 hc
  · obtain ⟨b, o, e, hat⟩ := h.ops.lit hp
    have hN := h.oN b o e hp
    exact ⟨b, o, e, fun j u hu => hk.cell h.sz h.fr hN.1 hN.2 (hat j u hu)⟩
theorem ItM.below {N B bl g gt most : Nat} {v : Value} {L : List O5} {A : Option Addr} {c : Nat} {cl : List O5} {W W' : World} (h : ItM N B bl g gt most v L A c cl W) (hb : Below W.heap.size W W') : ItM N B bl g gt most v L A c cl W' := h.round (KpF.below hb)
theorem mis_R {L os : List O5} (hr : AllR os) : ∀ o ∈ ddc (sortO os), o.R = true := fun o ho => hr o ((sortO_perm os).mem_iff.1 ((ddc_mem _ _).1 ho))
/-- Where the iterator stands. -/
def ItRel (N B bl g gt most : Nat) (v : Value) (L : List O5) (A : Option Addr) (c : Nat) (cl : List O5) (J : List RO → World → Prop) (i : Value) (W : World) : Prop :=
  ∃ (k : Nat) (pre : List RO), k ≤ cl.length ∧ i = .int .i64 (k : Int) ∧ pre.map (·.1) = (cl.take k).filter (fun o => !decide (o ∈ L)) ∧ J pre W ∧ ItM N B bl g gt most v L A c cl W
theorem pre_lt {L cl : List O5} {k : Nat} (h : k < cl.length) {pre : List RO} (hp : pre.map (·.1) = (cl.take k).filter (fun o => !decide (o ∈ L))) (hx : cl[k] ∉ L) : pre.length < (cl.filter fun o => !decide (o ∈ L)).length := by
  have h1 : pre.length = ((cl.take k).filter fun o => !decide (o ∈ L)).length := by rw [← hp, List.length_map]
  have h2 : cl = cl.take k ++ cl[k] :: cl.drop (k + 1) := by rw [← List.drop_eq_getElem_cons h, List.take_append_drop]
  rw [h1]
  conv => rhs; rw [h2]
  rw [List.filter_append, List.length_append, List.filter_cons_of_pos (by simpa using hx)]
  simp
theorem pre_at {L cl : List O5} {k : Nat} (h : k < cl.length) {pre : List RO} (hp : pre.map (·.1) = (cl.take k).filter (fun o => !decide (o ∈ L))) :
    (cl[k] ∈ L → pre.map (·.1) = (cl.take (k + 1)).filter (fun o => !decide (o ∈ L))) ∧ ∀ hr : cl[k].R = true, cl[k] ∉ L → (pre ++ [(⟨cl[k], hr⟩ : RO)]).map (·.1) = (cl.take (k + 1)).filter (fun o => !decide (o ∈ L)) := by
  rw [List.take_succ_eq_append_getElem h, List.filter_append]
  constructor
  · intro hx
    rw [List.filter_cons_of_neg (by simpa using hx)]
    simpa using hp
  · intro hr hx
    rw [List.filter_cons_of_pos (by simpa using hx), List.map_append, hp]
    simp
theorem filter_take_prefix {L cl : List O5} (k : Nat) : (cl.take k).filter (fun o => !decide (o ∈ L)) <+: cl.filter (fun o => !decide (o ∈ L)) := by
  refine ⟨(cl.drop k).filter fun o => !decide (o ∈ L), ?_⟩
  rw [← List.filter_append, List.take_append_drop]
def ItPost (L os : List O5) (J Jx : List RO → World → Prop) (e : Ending) (W' : World) : Prop := (∃ v, e = .returned v) ∧ ((∃ xs : List RO, xs.map (·.1) = mis L os ∧ J xs W') ∨ ∃ pre : List RO, pre.map (·.1) <+: mis L os ∧ Jx pre W')
set_option maxHeartbeats 1000000 in
theorem miss1_in (n : Nat) (hn : 1 ≤ n) (l bo bl B g gt most : Nat) (v : Value) (L : List O5) (A : Option Addr) (c : Nat) (os : List O5) (hs : SrtO L) (hL : L.length ≤ 100000) (hos : os.length ≤ 100000) (hr : AllR os) (J Jx : List RO → World → Prop) (W : World)
    (hJ : AbidesFrom W.heap.size J)
    (hY : ∀ pre x W1, J pre W1 → pre.length < (mis L os).length → YieldAt Fence.wide (n - 1) Tryz.prog l (RO.vs x) W1 fun e W' =>
      (e = .returned (.bool true) ∧ J (pre ++ [x]) W' ∧ KpF B W1 W') ∨ (e = .returned (.bool false) ∧ Jx (pre ++ [x]) W'))
    (hbo : W.cell? ⟨bo, 0, none⟩ = some (.slice A os.length c)) (hbl : W.cell? ⟨bl, 0, none⟩ = some (.pointer (some ⟨g, 0, none⟩))) (hB : W.heap[B]? = some (.cells #[.slice none 0 0] 27 (0, 0)))
    (hO : Ops W A c os) (hM : Lm W g gt most v L) (hnb : bl ≠ B) (h0 : J [] W) :
    CallsIn Fence.wide n Tryz.prog 53 #[.func (.yield l) #[] #[], .pointer (some ⟨bo, 0, none⟩), .pointer (some ⟨bl, 0, none⟩)] W (ItPost L os J Jx) := by
  have hf1 : Fence.wide.fn 39 := trivial
  have hf2 : Fence.wide.fn 54 := trivial
  have hf3 : Fence.wide.fn 56 := trivial
  have hf4 : Fence.wide.fn 22 := trivial
  have HJ := hide hJ
  have HY := hide hY
  have HM := hide hM
  have HO := hide hO
  have H0 := hide h0
  have HB := hide hB
  have HR := hide hr
  clear hJ hY hM hO h0 hB hr
  refine callsIn_of_wp Tryz.func53 rfl trivial ?_ rfl
  simp only [Tryz.ntmps53, List.size_toArray, List.length_cons, List.length_nil, Nat.reduceAdd, Nat.reduceSub, Array.replicate_succ, Array.replicate_zero, List.push_toArray, List.append_toArray, List.nil_append, List.cons_append]
  gi_wp2_with (fail)
  refine (callsIn_wide.2 (oclone_any A c os (by omega) W HO.out)).mono ?_
  rintro e w1 ⟨v1, rfl, ho1, hb1⟩
  have O1 := hide ho1
  have B1 := hide hb1
  obtain ⟨A1, c1, rfl, -⟩ := ho1.ops
  clear ho1 hb1
  gi_wp2_with (fail)
  refine (callsIn_wide.2 (osort_any W.heap.size _ os w1 O1.out (by omega))).mono ?_
  rintro e w2 ⟨rfl, ho2, hg2⟩
  have O2 := hide ho2
  have B2 := hide (B1.out.grown hg2 B1.out.size O1.out.row)
  have hsl := sortO_length os
  clear ho2 hg2
  have KP := hide (comp_any W.heap.size (.slice A1 os.length c1) (sortO os) (by omega) w2 O2.out)
  have hcl0 := ddc_len (sortO os)
  rw [hsl] at hcl0
  have HRC := hide (mis_R (L := L) HR.out)
  have hmis : mis L os = (ddc (sortO os)).filter fun o => !decide (o ∈ L) := rfl
  have OR := hide O2.out.row
  have HMI := hide hmis
  rw [hmis] at HY
  clear hmis hsl O1 HR O2
  unfold CompRet at KP
  generalize ddc (sortO os) = cl at KP hcl0 HRC HMI HY
  gi_wp2_with (fail)
  refine (callsIn_wide.2 KP.out).mono ?_
  rintro e w3 ⟨A3, c3, rfl, ho3, hm3⟩
  have B3 := hide (B2.out.trans (hm3.below B2.out.size (fun k hk => OR.out k (by simpa using hk))))
  have HI := hide (show ItM w3.heap.size B bl g gt most v L A3 c3 cl w3 from by
    have b := B3.out
    have hbB := (b.block B (Array.getElem?_eq_some_iff.1 HB.out).1).trans HB.out
    refine ⟨⟨_, hbB, by simp [Value.ownBlock]⟩, Nat.le_refl _, cellk b hbl, ⟨Nat.lt_of_lt_of_le (World.block_lt_of_cell? W _ hbl) b.size, hnb⟩, HM.out.below b, ⟨Nat.lt_of_lt_of_le HM.out.lt b.size, ?_⟩, fun k hk => ⟨Nat.lt_of_lt_of_le (HM.out.own.lt hk) b.size, ?_⟩, ho3, fun k o e hp => ?_⟩
    · rintro rfl
      have := HM.out.blk
      rw [HB.out] at this
      simp at this
    · rintro rfl
      obtain ⟨cur, hc⟩ := HM.out.own.blk' hk
      rw [HB.out] at hc
      simp at hc
    · obtain ⟨b', o', e', hat⟩ := ho3.lit hp
      rw [e] at e'
      cases e'
      obtain ⟨c0, -⟩ := hat.five 0 hp
      refine ⟨World.block_lt_of_cell? w3 _ c0, ?_⟩
      rintro rfl
      rw [cell_of_row w3 k _ _ _ (0, 0) hbB] at c0
      by_cases h0 : o + 0 * 5 = 0
      · rw [h0] at c0
        simp at c0
      · rw [Array.getElem?_eq_none (by simp; omega)] at c0
        cases c0)
  have H3 := hide (HJ.out [] W w3 none H0.out (grown_of_below B3.out) (by simp))
  clear ho3 hm3 B1 B2 HO H0 HM HB hbl hbo OR KP
  gi_wp2_with (fail)
  have S0 := hide (show ItRel w3.heap.size B bl g gt most v L A3 c3 cl J (.int .i64 0) w3 from ⟨0, [], Nat.zero_le _, rfl, rfl, H3.out, HI.out⟩)
  have szW := B3.out.size
  generalize w3.heap.size = N at HI S0 szW
  clear HI H3 B3
  gi_loopw [14] (ItRel N B bl g gt most v L A3 c3 cl J) (fun i _ => cl.length - (intOf i).toNat)
  case atStart => exact S0.out
  case round =>
    obtain ⟨k, pre, hk, rfl, hp, hj, hI⟩ := hrel
    have HP := hide hp
    have HJ1 := hide hj
    have HI := hide hI
    clear hp hj S0
    by_cases hlt : k < cl.length
    · have i1 : (k : Int) < (cl.length : Int) := by omega
      have i0 : (0 : Int) ≤ (k : Int) := by omega
      obtain ⟨b, o, rfl, hat⟩ := hI.ops.lit (by omega)
      obtain ⟨c0, c1', c2, c3', c4⟩ := hat.five k hlt
      have hbx := hI.box
      have HA := hide (pre_at hlt HP.out)
      have HLT := hide (fun hx => pre_lt (L := L) hlt HP.out hx)
      have HX := hide (HRC.out _ (List.getElem_mem hlt))
      generalize cl[k] = x at c0 c1' c2 c3' c4 HA HLT HX
      have Bz := (Below.refl wr.heap.size wr).alloc (Nat.le_refl _) (.cells #[.int .i64 x.n, .int .i64 x.r, .int .i64 x.d, .int .i64 x.t, .string (bs x.l)] 50)
      have HIz := hide (hI.below Bz)
      have HJz := hide (HJ.out pre wr _ none HJ1.out (grown_of_below Bz) (by simp))
      have hbz := HIz.out.box
      have HBo := Bo.new wr x.n x.r x.d x.t x.l 50
      clear hat hI
      gi_upto_region 5 with (fail)
      have szz := Bz.size
      generalize wr.alloc (.cells #[.int .i64 x.n, .int .i64 x.r, .int .i64 x.d, .int .i64 x.t, .string (bs x.l)] 50) = wa at Bz HIz HJz hbz HBo szz ⊢
      obtain ⟨e0, e1, e2, e3, e4⟩ := HBo
      clear Bz c0 c1' c2 c3' c4 hbx
      gi_wp2_with (fail)
      refine (callsIn_wide.2 (lhas_m g gt most v L x hs (by omega) wa HIz.out.lm)).mono ?_
      rintro e wb ⟨rfl, hb⟩
      have HIb := hide (HIz.out.below hb)
      have HJb := hide (HJ.out pre wa wb none HJz.out (grown_of_below hb) (by simp))
      have f0 := cellk hb e0
      have f1 := cellk hb e1
      have f2 := cellk hb e2
      have f3 := cellk hb e3
      have f4 := cellk hb e4
      clear hb e0 e1 e2 e3 e4 HIz HJz hbz
      by_cases hx : x ∈ L
      · have HP1 := hide (HA.out.1 hx)
        rw [decide_eq_true hx]
        clear hx HA HLT
        gi_wp2_with (fail)
        refine ⟨fun _ h => (by cases h), ?_⟩
        gi_wp2_with (fail)
        go_roundw
        case rel => exact ⟨k + 1, pre, by omega, by go_num, HP1.out, HJb.out, HIb.out⟩
        case measure => simp [intOf]; omega
      · obtain ⟨fn, tmps, assign, body, hy, hR⟩ := HY.out pre ⟨x, HX.out⟩ wb HJb.out (HLT.out hx)
        have HP1 := hide (HA.out.2 HX.out hx)
        rw [decide_eq_false hx]
        dsimp only [RO.vs] at hy
        clear hx HA HLT
        gi_wp2_with (fail)
        refine hR.mono ?_
        rintro e W' (⟨rfl, hJ', hk'⟩ | ⟨rfl, hJx'⟩)
        · have HIc := hide (HIb.out.round hk')
          have HJc := hide hJ'
          clear hJ' hk' hy hR
          gi_wp2_with (fail)
          go_roundw
          case rel => exact ⟨k + 1, _, by omega, by go_num, HP1.out, HJc.out, HIc.out⟩
          case measure => simp [intOf]; omega
        · have HJc := hide hJx'
          clear hJx' hy hR
          gi_wp2_with (fail)
          refine bodyPost_ret (results_none rfl _ _ _) rfl ?_
          refine ⟨⟨_, rfl⟩, .inr ⟨_, ?_, HJc.out⟩⟩
          rw [HP1.out, HMI.out]
          exact filter_take_prefix _
    · obtain rfl : k = cl.length := by omega
      gi_wp2_with (fail)
      go_end0
      refine ⟨⟨_, rfl⟩, .inl ⟨pre, ?_, HJ1.out⟩⟩
      rw [HMI.out, HP.out, List.take_length]
theorem missing_any (g : Nat) (A : Option Addr) (n c : Nat) (w : World) : Calls Tryz.prog 32 #[.pointer (some ⟨g, 0, none⟩), .slice A n c] w (fun e w' =>
    e = .returned (.func (.func 53) #[] #[.pointer (some ⟨w.heap.size + 1, 0, none⟩), .pointer (some ⟨w.heap.size, 0, none⟩)]) ∧ w' = (w.alloc (.cells #[.pointer (some ⟨g, 0, none⟩)] 24)).alloc (.cells #[.slice A n c] 27)) := by
  go_enter Tryz.func32, Tryz.ntmps32
  go_wp2
  go_ret
  exact ⟨rfl, rfl⟩
/-- The iterator, as a loop over it is told. -/
theorem miss_stops (n : Nat) (hn : 1 ≤ n) (bo bl B g gt most : Nat) (v : Value) (L : List O5) (A : Option Addr) (c : Nat) (os : List O5) (hs : SrtO L) (hL : L.length ≤ 100000) (hos : os.length ≤ 100000) (hr : AllR os) (w : World)
    (hbo : w.cell? ⟨bo, 0, none⟩ = some (.slice A os.length c)) (hbl : w.cell? ⟨bl, 0, none⟩ = some (.pointer (some ⟨g, 0, none⟩))) (hB : w.heap[B]? = some (.cells #[.slice none 0 0] 27 (0, 0)))
    (hO : Ops w A c os) (hM : Lm w g gt most v L) (hnb : bl ≠ B) :
    SeqStopsK Fence.wide n Tryz.prog 53 #[.pointer (some ⟨bo, 0, none⟩), .pointer (some ⟨bl, 0, none⟩)] RO.vs (KpF B) (fun xs => xs.map (·.1) = mis L os) (fun pre => pre.map (·.1) <+: mis L os) (mis L os).length w :=
  fun l J Jx W hW hJ _ hY h0 => miss1_in n hn l bo bl B g gt most v L A c os hs hL hos hr J Jx W hJ hY (cellk hW hbo) (cellk hW hbl) ((hW.block B (Array.getElem?_eq_some_iff.1 hB).1).trans hB) (hO.below hW) (hM.below hW) hnb h0
end Go.Proofs.YtimfeocaghccdaaGreatDoor
namespace Go.Proofs.YtimfeocaghccdaaGreatDoor
open Go.RowKit Go.Maps
set_option linter.unusedVariables false
set_option linter.unusedSimpArgs false
set_option maxRecDepth 100000

/-- A nil slice has no room. -/
def Nc (A : Option Addr) (c : Nat) : Prop := A = none → c = 0
theorem run_append_ops (w : World) (ty : TypeId) (base : Nat) (v : Value) (os : List O5) (hown : OwnOps w base v os) (A : Option Addr) (c : Nat) (l : List O5) (hO : Ops w A c l) (hA : Nc A c) (h63 : os.length + l.length ≤ 1000000) (hbase : base ≤ w.heap.size) :
    ∃ A' c' w', (Builtin.append_ #[27, 27] ty #[v, .slice A l.length c]).run Tryz.prog w = .ok (.slice A' (os ++ l).length c') w' ∧ OwnOps w' base (.slice A' (os ++ l).length c') (os ++ l) ∧ w.grownBy w' v.ownBlock ∧ ((Value.slice A' (os ++ l).length c').ownBlock = v.ownBlock ∨ (Value.slice A' (os ++ l).length c').ownBlock = some w.heap.size) := by
  obtain ⟨i0, hi0, hz0, hz1, hz2⟩ := info_parts opinfo
  rcases A with _ | ad
  · have e := hO.nil rfl
    subst e
    obtain rfl := hA rfl
    obtain ⟨A', c', e, hO'⟩ := hown.ops
    subst e
    refine ⟨A', c', w, ?_, by rw [List.append_nil]; exact hown, World.grownBy.refl _ _, .inl (by rw [List.append_nil])⟩
    rw [List.append_nil]
    exact run_append_owned_none (P := Tryz.prog) w base 27 ty 50 i0 5 Tryz.underlying27 hi0 _ os.length (ocs os) hown
  · have hnews : ∀ j u, (ocs l)[j]? = some u → w.cell? (ad.add j) = some u := fun j u hu => by
      have hl := ocs_length l
      have hj : j < (ocs l).length := (List.getElem?_eq_some_iff.1 hu).1
      obtain ⟨b, o, e, hat⟩ := hO.lit (by omega)
      cases e
      have := hat j u hu
      rw [Addr.add_lit]
      exact this
    obtain ⟨v', w', hr, h2, h3, _, h5⟩ := run_append_own_at (P := Tryz.prog) w base 27 ty 50 i0 (opv 0 0 0 0 []) 5 48 Tryz.underlying27 hi0 hz0 hz1 hz2 rfl (by decide) v os.length (ocs os) hown ad l.length c (ocs l) (ocs_length l) hnews (ocs_one _) (by unfold maxLen; omega) (by omega) hbase
    have hw : OwnOps w' base v' (os ++ l) := by
      unfold OwnOps
      rw [ocs_append, List.length_append]
      exact h2
    obtain ⟨A', c', e, _⟩ := hw.ops
    subst e
    exact ⟨A', c', w', hr, hw, h3, h5⟩
theorem wpList_append_ops (w : World) {ops : Array Oper} {rest : List Oper} {o : Oper} {a : Act} {Q : Exit → Act → World → Prop} (hgd : o.guard = none) (s x : Operand)
    (ho : o.op = .call { callee := .builtin .append, args := #[s, x], argTypes := #[27, 27] })
    (base : Nat) (v : Value) (os : List O5) (hs : a.eval s = v) (hown : OwnOps w base v os) (A : Option Addr) (c : Nat) (l : List O5) (hx : a.eval x = .slice A l.length c) (hO : Ops w A c l) (hA : Nc A c) (h63 : os.length + l.length ≤ 1000000) (hbase : base ≤ w.heap.size)
    (h : ∀ A' c' w', OwnOps w' base (.slice A' (os ++ l).length c') (os ++ l) → w.grownBy w' v.ownBlock → ((Value.slice A' (os ++ l).length c').ownBlock = v.ownBlock ∨ (Value.slice A' (os ++ l).length c').ownBlock = some w.heap.size) → wpList Tryz.prog ops Q rest (a.put o.dst (.slice A' (os ++ l).length c')) w') : wpList Tryz.prog ops Q (o :: rest) a w := by
  obtain ⟨A', c', w', hr, h2, h3, h4⟩ := run_append_ops w o.type base v os hown A c l hO hA h63 hbase
  refine wpList_plain hgd fun _ hK => ?_
  unfold Oper.wp execOp
  simp only [ho, resolve, invoke, builtin, Sem.run_bind, Sem.run_pure, Result.andThen_ok, List.map_toArray, List.map_cons, List.map_nil, hs, hx, hr]
  exact hK _ _ (h A' c' w' h2 h3 h4)
theorem step_append_ops (w : World) {ops : Array Oper} {o : Oper} {a : Act} {K : Act → World → Prop} {Q : Exit → Act → World → Prop} {E : Prop} (hgd : o.guard = none) (s x : Operand)
    (ho : o.op = .call { callee := .builtin .append, args := #[s, x], argTypes := #[27, 27] })
    (base : Nat) (v : Value) (os : List O5) (hs : a.eval s = v) (hown : OwnOps w base v os) (A : Option Addr) (c : Nat) (l : List O5) (hx : a.eval x = .slice A l.length c) (hO : Ops w A c l) (hA : Nc A c) (h63 : os.length + l.length ≤ 1000000) (hbase : base ≤ w.heap.size)
    (h : ∀ A' c' w', OwnOps w' base (.slice A' (os ++ l).length c') (os ++ l) → w.grownBy w' v.ownBlock → ((Value.slice A' (os ++ l).length c').ownBlock = v.ownBlock ∨ (Value.slice A' (os ++ l).length c').ownBlock = some w.heap.size) → K (a.put o.dst (.slice A' (os ++ l).length c')) w') :
    if Region.wanted o (yielded ops a.tmps) = true then Oper.wp Tryz.prog o a w K Q else E := by
  have hw : Region.wanted o (yielded ops a.tmps) = true := by simp [Region.wanted, hgd]
  rw [if_pos hw]
  obtain ⟨A', c', w', hr, h2, h3, h4⟩ := run_append_ops w o.type base v os hown A c l hO hA h63 hbase
  unfold Oper.wp execOp
  simp only [ho, resolve, invoke, builtin, Sem.run_bind, Sem.run_pure, Result.andThen_ok, List.map_toArray, List.map_cons, List.map_nil, hs, hx, hr]
  exact h A' c' w' h2 h3 h4
theorem wpListIn_append_ops {F : Fence} {n : Nat} (w : World) {ops : Array Oper} {rest : List Oper} {o : Oper} {a : Act} {Q : Exit → Act → World → Prop} (hgd : o.guard = none) (s x : Operand)
    (ho : o.op = .call { callee := .builtin .append, args := #[s, x], argTypes := #[27, 27] })
    (base : Nat) (v : Value) (os : List O5) (hs : a.eval s = v) (hown : OwnOps w base v os) (A : Option Addr) (c : Nat) (l : List O5) (hx : a.eval x = .slice A l.length c) (hO : Ops w A c l) (hA : Nc A c) (h63 : os.length + l.length ≤ 1000000) (hbase : base ≤ w.heap.size)
    (h : ∀ A' c' w', OwnOps w' base (.slice A' (os ++ l).length c') (os ++ l) → w.grownBy w' v.ownBlock → ((Value.slice A' (os ++ l).length c').ownBlock = v.ownBlock ∨ (Value.slice A' (os ++ l).length c').ownBlock = some w.heap.size) → wpListIn F n Tryz.prog ops Q rest (a.put o.dst (.slice A' (os ++ l).length c')) w') : wpListIn F n Tryz.prog ops Q (o :: rest) a w := by
  obtain ⟨A', c', w', hr, h2, h3, h4⟩ := run_append_ops w o.type base v os hown A c l hO hA h63 hbase
  refine wpListIn_plain hgd fun K hK => ?_
  unfold Oper.wpIn
  refine ⟨by simp [Oper.about, ho, resolve, Target.leads, Sem.run_pure], ?_⟩
  rw [Oper.semAt_plain F _ _ (by rw [ho]; intro c hc'; cases hc')]
  simp only [execOp, ho, resolve, invoke, builtin, Sem.run_bind, Sem.run_pure, Result.andThen_ok, List.map_toArray, List.map_cons, List.map_nil, hs, hx, hr]
  exact hK _ _ (h A' c' w' h2 h3 h4)
/-- One operation in a block of its own, as a slice. -/
theorem ops_new (w : World) (x : O5) : Ops (w.alloc (.cells #[.int .i64 x.n, .int .i64 x.r, .int .i64 x.d, .int .i64 x.t, .string (bs x.l)] 50)) (some ⟨w.heap.size, 0, none⟩) 1 [x] := by
  refine ⟨by simp, Nat.le_refl _, by simp [maxLen], fun _ => ⟨w.heap.size, 0, rfl, fun j u hu => ?_⟩⟩
  have := cells_new5 w x j u hu
  rwa [Addr.add_lit] at this
/-- The beginning of a row of the program's own is one, too. -/
theorem OwnOps.cut {w : World} {base : Nat} {A : Option Addr} {n c : Nat} {os : List O5} (h : OwnOps w base (.slice A n c) os) (q : Nat) (hq : q ≤ os.length) : OwnOps w base (.slice A q c) (os.take q) := by
  have hl : (os.take q).length = q := by rw [List.length_take, Nat.min_eq_left hq]
  refine ⟨by rw [ocs_length], ?_⟩
  rcases h.2 with ⟨h0, hn⟩ | ⟨g, cap, cur, h0, h2, h3, h4, h5, h6, h7⟩
  · simp at h0
    obtain ⟨rfl, _, rfl⟩ := h0
    obtain rfl : q = 0 := by omega
    exact .inl ⟨rfl, by simp⟩
  · simp at h0
    obtain ⟨rfl, _, rfl⟩ := h0
    refine .inr ⟨g, c, cur, by rw [hl], h2, h3, by omega, h5, h6, ?_⟩
    have e : ocs (os.take q) = (ocs os).take (q * 5) := by
      have e0 : ocs os = ocs (os.take q) ++ ocs (os.drop q) := by rw [← ocs_append, List.take_append_drop]
      rw [e0]
      exact (List.take_left' (by rw [ocs_length, hl])).symm
    rw [hl, e, ← h7, List.take_take, Nat.min_eq_left (by omega)]
theorem OwnOps.nc {w : World} {base : Nat} {A : Option Addr} {n c : Nat} {os : List O5} (h : OwnOps w base (.slice A n c) os) : Nc A c := by
  rintro rfl
  rcases h.2 with ⟨h0, hn⟩ | ⟨g, cap, cur, h0, _⟩
  · simp at h0
    exact h0.2
  · simp at h0
end Go.Proofs.YtimfeocaghccdaaGreatDoor
namespace Go.Proofs.YtimfeocaghccdaaGreatDoor
open Go.RowKit Go.Maps
set_option linter.unusedVariables false
set_option linter.unusedSimpArgs false
set_option maxRecDepth 100000

/-- Two lists in order as one. -/
def mrg : List O5 → List O5 → List O5
  | a, [] => a
  | a, o :: b => a.take (plc a o) ++ o :: mrg (a.drop (plc a o)) b
theorem plc_le (L : List O5) (o : O5) : plc L o ≤ L.length := by
  unfold plc
  exact (List.takeWhile_sublist _).length_le
theorem plc_cons (x : O5) (L : List O5) (o : O5) : plc (x :: L) o = if ocF x o < 0 then plc L o + 1 else 0 := by
  unfold plc
  by_cases h : ocF x o < 0
  · rw [List.takeWhile_cons_of_pos (by simpa using h), if_pos h]
    rfl
  · rw [List.takeWhile_cons_of_neg (by simpa using h), if_neg h]
    rfl
theorem plc_lt : ∀ (L : List O5) (o : O5), ∀ y ∈ L.take (plc L o), ocF y o < 0
  | [], o, y, hy => by simp at hy
  | x :: L, o, y, hy => by
    rw [plc_cons] at hy
    split at hy
    · rename_i h
      rw [List.take_succ_cons] at hy
      rcases List.mem_cons.1 hy with rfl | hy
      · exact h
      · exact plc_lt L o y hy
    · simp at hy
theorem plc_ge : ∀ {L : List O5}, SrtO L → ∀ o, ∀ y ∈ L.drop (plc L o), ¬ ocF y o < 0
  | [], _, o, y, hy => by simp at hy
  | x :: L, hs, o, y, hy => by
    have hp := List.pairwise_cons.1 hs
    rw [plc_cons] at hy
    split at hy
    · rw [List.drop_succ_cons] at hy
      exact plc_ge hp.2 o y hy
    · rename_i h
      rw [List.drop_zero] at hy
      rcases List.mem_cons.1 hy with rfl | hy
      · exact h
      · intro hlt
        exact h (ocF_order.lt_on (hp.1 y hy) hlt)
theorem mrg_mem : ∀ (b a : List O5) (x : O5), x ∈ mrg a b ↔ x ∈ a ∨ x ∈ b
  | [], a, x => by simp [mrg]
  | o :: b, a, x => by
    unfold mrg
    rw [List.mem_append, List.mem_cons, mrg_mem b, List.mem_cons]
    have : x ∈ a ↔ x ∈ a.take (plc a o) ∨ x ∈ a.drop (plc a o) := by rw [← List.mem_append, List.take_append_drop]
    rw [this]
    constructor
    · rintro (h | h | h | h)
      · exact .inl (.inl h)
      · exact .inr (.inl h)
      · exact .inl (.inr h)
      · exact .inr (.inr h)
    · rintro ((h | h) | h | h)
      · exact .inl h
      · exact .inr (.inr (.inl h))
      · exact .inr (.inl h)
      · exact .inr (.inr (.inr h))
theorem mrg_srt : ∀ (b a : List O5), SrtO a → SrtO b → (∀ x ∈ b, x ∉ a) → SrtO (mrg a b)
  | [], a, ha, _, _ => ha
  | o :: b, a, ha, hb, hd => by
    unfold mrg
    have hp := List.pairwise_cons.1 hb
    have h1 := plc_lt a o
    have h2 := plc_ge ha o
    have hgt : ∀ y ∈ a.drop (plc a o), ocF o y < 0 := fun y hy => ocF_order.lt_of_ne (fun e => hd o (by simp) (by rw [← e]; exact List.mem_of_mem_drop hy)) (h2 y hy)
    have ih := mrg_srt b (a.drop (plc a o)) ha.drop hp.2 (fun x hx h => hd x (by simp [hx]) (List.mem_of_mem_drop h))
    have hoR : ∀ y ∈ mrg (a.drop (plc a o)) b, ocF o y < 0 := fun y hy => by
      rcases (mrg_mem b _ y).1 hy with hy | hy
      · exact hgt y hy
      · exact hp.1 y hy
    refine List.pairwise_append.2 ⟨ha.take, List.pairwise_cons.2 ⟨hoR, ih⟩, ?_⟩
    intro x hx y hy
    rcases List.mem_cons.1 hy with rfl | hy
    · exact h1 x hx
    · exact ocF_order.lt_on (h1 x hx) (hoR y hy)
theorem mrg_put {a b : List O5} (ha : SrtO a) (hb : SrtO b) (hd : ∀ x ∈ b, x ∉ a) : mrg a b = putO a b :=
  (putF_eq ocF_order ha (mrg_srt b a ha hb hd) fun x => mrg_mem b a x).symm
theorem mrg_len : ∀ (b a : List O5), (mrg a b).length = a.length + b.length
  | [], a => rfl
  | o :: b, a => by
    unfold mrg
    rw [List.length_append, List.length_cons, mrg_len b, List.length_take, List.length_drop, List.length_cons]
    have := plc_le a o
    omega
theorem Ops.far {w w' : World} {row : Option Nat} {A : Option Addr} {c : Nat} {l : List O5} (h : Ops w A c l) (hg : w.grownBy w' row) (hne : ∀ b o, A = some ⟨b, o, none⟩ → row ≠ some b) : Ops w' A c l :=
  ⟨h.nil, h.le, h.most, fun hp => by
    obtain ⟨b, o, e, hat⟩ := h.lit hp
    exact ⟨b, o, e, fun j u hu => (hg.cell_far ⟨b, o + j, none⟩ (World.block_lt_of_cell? w _ (hat j u hu)) (fun e' => hne b o e e'.symm)).trans (hat j u hu)⟩⟩
structure Mg (w : World) (a b : List O5) (i : Nat) (A : Option Addr) (c : Nat) (rest out : List O5) (vo : Value) (wr : World) : Prop where
  ib : i ≤ b.length
  ops : Ops w A c rest
  nc : Nc A c
  own : OwnOps wr w.heap.size vo out
  eq : out ++ mrg rest (b.drop i) = mrg a b
  srt : SrtO rest
  bel : Below w.heap.size w wr
def MgRel (w : World) (a b : List O5) (va vo vi : Value) (wr : World) : Prop :=
  ∃ (i : Nat) (A : Option Addr) (c : Nat) (rest out : List O5), vi = .int .i64 (i : Int) ∧ va = .slice A rest.length c ∧ Mg w a b i A c rest out vo wr
theorem Mg.lens {w : World} {a b : List O5} {i : Nat} {A : Option Addr} {c : Nat} {rest out : List O5} {vo : Value} {wr : World} (h : Mg w a b i A c rest out vo wr) : out.length + rest.length + (b.length - i) = a.length + b.length := by
  have := congrArg List.length h.eq
  rw [List.length_append, mrg_len, mrg_len, List.length_drop] at this
  omega
set_option maxHeartbeats 1000000 in
theorem merge_any (A : Option Addr) (c : Nat) (a : List O5) (A' : Option Addr) (c' : Nat) (b : List O5) (hs : SrtO a) (hn : a.length + b.length ≤ 100000) (w : World) (h : Ops w A c a) (hA : Nc A c) (h' : Ops w A' c' b) :
    Calls Tryz.prog 58 #[.slice A a.length c, .slice A' b.length c'] w (OCloneRet w (mrg a b)) := by
  obtain ⟨i0, hi0, hz0, hz1, hz2⟩ := info_parts opinfo
  have HB := hide h'
  have HA := hide h
  have HN := hide hA
  have HS := hide hs
  obtain ⟨w1, hmk, hown1, hgr1⟩ := run_make_own (P := Tryz.prog) w w.heap.size 27 50 i0 _ 5 Tryz.underlying27 hi0 hz0 hz1 .i64 .i64 (a.length + b.length) (by rw [hz2]; omega) (by unfold maxLen; omega) (Nat.le_refl _)
  have hmk' : (Instr.makeSlice 27 (.int .i64 0) (.int .i64 ((a.length : Int) + (b.length : Int)))).run Tryz.prog w = .ok (.slice (some ⟨w.heap.size, 0, none⟩) 0 (a.length + b.length)) w1 := by
    rw [← hmk]
    congr 3
  have S0 := hide (show MgRel w a b (.slice A a.length c) (.slice (some ⟨w.heap.size, 0, none⟩) 0 (a.length + b.length)) (.int .i64 0) w1 from
    ⟨0, A, c, a, [], rfl, rfl, Nat.zero_le _, h, hA, hown1, rfl, hs, (Below.refl _ w).grown hgr1 (Nat.le_refl _) (by simp)⟩)
  clear h h' hA hs hown1 hgr1 hmk hi0 hz0 hz1 hz2
  go_enter Tryz.func58, Tryz.ntmps58
  go_wp2_with fail
  go_loopw [0, 5, 18] (MgRel w a b) (fun _ _ i _ => b.length - (intOf i).toNat)
  case atStart => exact S0.out
  case round =>
    clear S0 hmk'
    obtain ⟨i, Ar, cr, rest, out, rfl, rfl, hM⟩ := hrel
    have HM := hide hM
    have hlens := hM.lens
    obtain ⟨Ao, co, rfl, -⟩ := hM.own.ops
    by_cases hlt : i < b.length
    · have i1 : (i : Int) < (b.length : Int) := by omega
      have i0' : (0 : Int) ≤ (i : Int) := by omega
      obtain ⟨bb, bo, rfl, hat⟩ := (HB.out.below hM.bel).lit (by omega)
      obtain ⟨c0, c1, c2, c3, c4⟩ := hat.five i hlt
      have HD := hide (show b.drop i = b[i] :: b.drop (i + 1) from List.drop_eq_getElem_cons hlt)
      generalize b[i] = x at c0 c1 c2 c3 c4 HD
      have Bz := (Below.refl wr.heap.size wr).alloc (Nat.le_refl _) (.cells #[.int .i64 x.n, .int .i64 x.r, .int .i64 x.d, .int .i64 x.t, .string (bs x.l)] 50)
      have HBz := hide (hM.bel.trans (Bz.mono hM.bel.size))
      have HOz := hide (hM.own.below Bz)
      have HBo := Bo.new wr x.n x.r x.d x.t x.l 50
      have hsr := hM.srt
      clear hat hM
      go_upto_region 5 with (fail)
      generalize wr.alloc (.cells #[.int .i64 x.n, .int .i64 x.r, .int .i64 x.d, .int .i64 x.t, .string (bs x.l)] 50) = wa at Bz HBz HOz HBo ⊢
      obtain ⟨e0, e1, e2, e3, e4⟩ := HBo
      clear Bz c0 c1 c2 c3 c4
      go_wp2_with fail
      refine (srch_any Ar cr rest x hsr (by omega) wa (HM.out.ops.below HBz.out)).mono ?_
      rintro e wb ⟨rfl, hb⟩
      have HBb := hide (HBz.out.trans (hb.mono HBz.out.size))
      have HOb := hide (HOz.out.below hb)
      have f0 := cellk hb e0
      have f1 := cellk hb e1
      have f2 := cellk hb e2
      have f3 := cellk hb e3
      have f4 := cellk hb e4
      have hpl := plc_le rest x
      have hmo := HM.out.ops.le
      have hH := lops_head Ar rest.length cr (plc rest x) (by omega)
      obtain ⟨At, hT, hOt, -⟩ := ops_tail HM.out.ops (plc rest x) hpl
      have HOt := hide hOt
      have HNt := hide (show Nc At (cr - plc rest x) by
        intro e
        have h1 := hT w
        rw [run_slice_l w _ _ _ _ lopUnder .i64 _ (by omega) (by omega), lopElem, lopSize] at h1
        simp [Result.andThen, sliced, e] at h1
        by_cases hcq : cr = plc rest x
        · omega
        · rw [if_neg hcq] at h1
          simp at h1
          have := HM.out.nc h1
          omega)
      have HE := hide (show out ++ rest.take (plc rest x) ++ [x] ++ mrg (rest.drop (plc rest x)) (b.drop (i + 1)) = mrg a b by
        rw [← HM.out.eq, HD.out, mrg]
        simp)
      have HH := hide (HM.out.ops.head (plc rest x))
      have HTL := hide (show (rest.take (plc rest x)).length = plc rest x by rw [List.length_take]; omega)
      clear hb e0 e1 e2 e3 e4 HOz HBz hOt
      generalize plc rest x = p at hpl hH hT HOt HNt HE HH HTL ⊢
      generalize rest.take p = t at HE HH HTL
      obtain rfl : p = t.length := HTL.out.symm
      have HNE := hide (show ∀ k, (Value.slice Ao out.length co).ownBlock = some k → k < wr.heap.size from fun k hk => HM.out.own.lt hk)
      have HNr := hide HM.out.nc
      have hl1 : out.length + t.length + 1 ≤ 1000000 := by omega
      have hS0 := And.intro f0 (And.intro f1 (And.intro f2 (And.intro f3 f4)))
      have szb := HBb.out.size
      have lrb : wr.heap.size < wb.heap.size := World.block_lt_of_cell? wb _ f0
      have O1d := hide (HOb.out.below (Below.refl _ wb).drew)
      have H1d := hide (HH.out.below (HBb.out.trans ((Below.refl _ wb).drew.mono szb)))
      have B1d := hide (HBb.out.trans ((Below.refl _ wb).drew.mono szb))
      have szd : w.heap.size ≤ wb.drew.heap.size := szb
      have Bd := (Below.refl wb.drew.heap.size wb.drew).alloc (Nat.le_refl _) (.cells #[.int .i64 x.n, .int .i64 x.r, .int .i64 x.d, .int .i64 x.t, .string (bs x.l)] 50)
      have O1a := hide (O1d.out.below Bd)
      have B1a := hide (B1d.out.trans (Bd.mono szd))
      have H1a := hide (HH.out.below B1a.out)
      have sza := B1a.out.size
      have N1a := hide (show Ops (wb.drew.alloc (.cells #[.int .i64 x.n, .int .i64 x.r, .int .i64 x.d, .int .i64 x.t, .string (bs x.l)] 50)) (some ⟨wb.heap.size, 0, none⟩) 1 [x] from ops_new wb.drew x)
      have la0 : wr.heap.size < (wb.drew.alloc (.cells #[.int .i64 x.n, .int .i64 x.r, .int .i64 x.d, .int .i64 x.t, .string (bs x.l)] 50)).heap.size := by simp; exact Nat.lt_succ_of_lt lrb
      have g0 := cellk (Below.refl _ wb).drew f0
      have g1 := cellk (Below.refl _ wb).drew f1
      have g2 := cellk (Below.refl _ wb).drew f2
      have g3 := cellk (Below.refl _ wb).drew f3
      have g4 := cellk (Below.refl _ wb).drew f4
      have HG := hide (And.intro (cellk Bd g0) (And.intro (cellk Bd g1) (And.intro (cellk Bd g2) (And.intro (cellk Bd g3) (cellk Bd g4)))))
      clear g0 g1 g2 g3 g4 Bd
      go_upto_region 6 with (fail)
      go_wp2_with fail
      go_region_held3 (fun w' => w'.cell? ⟨wr.heap.size, 0, none⟩ = some (.int .i64 x.n) ∧ w'.cell? ⟨wr.heap.size, 1, none⟩ = some (.int .i64 x.r) ∧ w'.cell? ⟨wr.heap.size, 2, none⟩ = some (.int .i64 x.d) ∧ w'.cell? ⟨wr.heap.size, 3, none⟩ = some (.int .i64 x.t) ∧ w'.cell? ⟨wr.heap.size, 4, none⟩ = some (.string (bs x.l)))
        (first | with_reducible exact hS2 | with_reducible exact hS1 | with_reducible exact hS0 | go_keep)
        (first
          | (refine step_append_ops _ (by rfl) _ _ (by rfl) w.heap.size (.slice Ao out.length co) out (by rfl) O1d.out Ar cr t (by rfl) H1d.out HNr.out (by omega) szd ?_
             intro A1 k1 w1 hw1 hg1 ho1
             generalize hot : out ++ t = ot at hw1 ho1 ⊢
             have HOT := hide hot
             have hol : ot.length ≤ 999999 := by rw [← hot, List.length_append]; omega
             clear hot
             have O2 := hide hw1
             have hne1 : ∀ k, (Value.slice Ao out.length co).ownBlock = some k → k ≠ wr.heap.size := fun k hk => by have := HNE.out k hk; omega
             have hS1 := And.intro ((hg1.cell_far ⟨wr.heap.size, 0, none⟩ lrb (fun e => hne1 _ e.symm rfl)).trans f0) (And.intro ((hg1.cell_far ⟨wr.heap.size, 1, none⟩ lrb (fun e => hne1 _ e.symm rfl)).trans f1) (And.intro ((hg1.cell_far ⟨wr.heap.size, 2, none⟩ lrb (fun e => hne1 _ e.symm rfl)).trans f2) (And.intro ((hg1.cell_far ⟨wr.heap.size, 3, none⟩ lrb (fun e => hne1 _ e.symm rfl)).trans f3) ((hg1.cell_far ⟨wr.heap.size, 4, none⟩ lrb (fun e => hne1 _ e.symm rfl)).trans f4))))
             have B2 := hide (B1d.out.grown hg1 szd O1d.out.row)
             have O3 := hide (hw1.below ((Below.refl _ w1).alloc (Nat.le_refl _) (.cells #[.int .i64 x.n, .int .i64 x.r, .int .i64 x.d, .int .i64 x.t, .string (bs x.l)] 50)))
             have N3 := hide (ops_new w1 x)
             have B3 := hide (B2.out.alloc B2.out.size (.cells #[.int .i64 x.n, .int .i64 x.r, .int .i64 x.d, .int .i64 x.t, .string (bs x.l)] 50))
             have sz3 := B3.out.size
             have lrb1 : wr.heap.size < w1.heap.size := World.block_lt_of_cell? w1 _ hS1.1
             have HNE1 := hide (show ∀ k, (Value.slice A1 ot.length k1).ownBlock = some k → k ≠ wr.heap.size from fun k hk => by
               rcases ho1 with e | e
               · rw [e] at hk
                 exact hne1 k hk
               · rw [e] at hk
                 injection hk with hk
                 have : wb.drew.heap.size = wb.heap.size := rfl
                 omega)
             clear hw1 hg1 ho1 hne1)
          | (refine step_append_ops _ (by rfl) _ _ (by rfl) w.heap.size (.slice A1 ot.length k1) ot (by rfl) O3.out (some ⟨w1.heap.size, 0, none⟩) 1 [x] (by rfl) N3.out (by intro h; cases h) (by simp; omega) sz3 ?_
             intro A2 k2 w2 hw2 hg2 ho2
             have la1 : wr.heap.size < (w1.alloc (.cells #[.int .i64 x.n, .int .i64 x.r, .int .i64 x.d, .int .i64 x.t, .string (bs x.l)] 50)).heap.size := by simp; omega
             have Bq := (Below.refl w1.heap.size w1).alloc (Nat.le_refl _) (.cells #[.int .i64 x.n, .int .i64 x.r, .int .i64 x.d, .int .i64 x.t, .string (bs x.l)] 50)
             have hS2 := And.intro ((hg2.cell_far ⟨wr.heap.size, 0, none⟩ la1 (fun e => HNE1.out _ e.symm rfl)).trans (cellk Bq hS1.1)) (And.intro ((hg2.cell_far ⟨wr.heap.size, 1, none⟩ la1 (fun e => HNE1.out _ e.symm rfl)).trans (cellk Bq hS1.2.1)) (And.intro ((hg2.cell_far ⟨wr.heap.size, 2, none⟩ la1 (fun e => HNE1.out _ e.symm rfl)).trans (cellk Bq hS1.2.2.1)) (And.intro ((hg2.cell_far ⟨wr.heap.size, 3, none⟩ la1 (fun e => HNE1.out _ e.symm rfl)).trans (cellk Bq hS1.2.2.2.1)) ((hg2.cell_far ⟨wr.heap.size, 4, none⟩ la1 (fun e => HNE1.out _ e.symm rfl)).trans (cellk Bq hS1.2.2.2.2)))))
             have B4 := hide (B3.out.grown hg2 sz3 O3.out.row)
             generalize hot2 : ot ++ [x] = ot2 at hw2 ho2 ⊢
             have HOT2 := hide hot2
             have O4 := hide hw2
             clear hw2 hg2 ho2 hot2 Bq la1)
          | (refine step_append_ops _ (by rfl) _ _ (by rfl) w.heap.size (.slice Ao out.length co) out (by rfl) O1a.out Ar cr t (by rfl) H1a.out HNr.out (by omega) sza ?_
             intro A1 k1 w1 hw1 hg1 ho1
             generalize hot : out ++ t = ot at hw1 ho1 ⊢
             have HOT := hide hot
             have hol : ot.length ≤ 999999 := by rw [← hot, List.length_append]; omega
             clear hot
             have hne1 : ∀ k, (Value.slice Ao out.length co).ownBlock = some k → k ≠ wr.heap.size := fun k hk => by have := HNE.out k hk; omega
             have hS1 := And.intro ((hg1.cell_far ⟨wr.heap.size, 0, none⟩ la0 (fun e => hne1 _ e.symm rfl)).trans HG.out.1) (And.intro ((hg1.cell_far ⟨wr.heap.size, 1, none⟩ la0 (fun e => hne1 _ e.symm rfl)).trans HG.out.2.1) (And.intro ((hg1.cell_far ⟨wr.heap.size, 2, none⟩ la0 (fun e => hne1 _ e.symm rfl)).trans HG.out.2.2.1) (And.intro ((hg1.cell_far ⟨wr.heap.size, 3, none⟩ la0 (fun e => hne1 _ e.symm rfl)).trans HG.out.2.2.2.1) ((hg1.cell_far ⟨wr.heap.size, 4, none⟩ la0 (fun e => hne1 _ e.symm rfl)).trans HG.out.2.2.2.2))))
             have B3' := hide (B1a.out.grown hg1 sza O1a.out.row)
             have O3' := hide hw1
             have N3' := hide (N1a.out.far hg1 (fun b o e hr => by cases e; have := HNE.out _ hr; omega))
             have sz3' := B3'.out.size
             have lrb1' : wr.heap.size < w1.heap.size := World.block_lt_of_cell? w1 _ hS1.1
             have HNE1 := hide (show ∀ k, (Value.slice A1 ot.length k1).ownBlock = some k → k ≠ wr.heap.size from fun k hk => by
               rcases ho1 with e | e
               · rw [e] at hk
                 exact hne1 k hk
               · rw [e] at hk
                 injection hk with hk
                 rw [← hk]
                 exact Nat.ne_of_gt la0)
             clear hw1 hg1 ho1 hne1)
          | (refine step_append_ops _ (by rfl) _ _ (by rfl) w.heap.size (.slice A1 ot.length k1) ot (by rfl) O3'.out (some ⟨wb.heap.size, 0, none⟩) 1 [x] (by rfl) N3'.out (by intro h; cases h) (by simp; omega) sz3' ?_
             intro A2 k2 w2 hw2 hg2 ho2
             have hS2 := And.intro ((hg2.cell_far ⟨wr.heap.size, 0, none⟩ lrb1' (fun e => HNE1.out _ e.symm rfl)).trans hS1.1) (And.intro ((hg2.cell_far ⟨wr.heap.size, 1, none⟩ lrb1' (fun e => HNE1.out _ e.symm rfl)).trans hS1.2.1) (And.intro ((hg2.cell_far ⟨wr.heap.size, 2, none⟩ lrb1' (fun e => HNE1.out _ e.symm rfl)).trans hS1.2.2.1) (And.intro ((hg2.cell_far ⟨wr.heap.size, 3, none⟩ lrb1' (fun e => HNE1.out _ e.symm rfl)).trans hS1.2.2.2.1) ((hg2.cell_far ⟨wr.heap.size, 4, none⟩ lrb1' (fun e => HNE1.out _ e.symm rfl)).trans hS1.2.2.2.2))))
             have B4 := hide (B3'.out.grown hg2 sz3' O3'.out.row)
             generalize hot2 : ot ++ [x] = ot2 at hw2 ho2 ⊢
             have HOT2 := hide hot2
             have O4 := hide hw2
             clear hw2 hg2 ho2 hot2))
      all_goals
        have HF := hide (show Mg w a b (i + 1) At (cr - t.length) (rest.drop t.length) ot2 (.slice A2 ot2.length k2) w2 from
          ⟨hlt, HOt.out, HNt.out, O4.out, by rw [← HOT2.out, ← HOT.out]; exact HE.out, HM.out.srt.drop, B4.out⟩)
        clear hS2 hS1 hS0 O1d H1d B1d O1a B1a H1a N1a HG hH HNE1 O4 B4 f0 f1 f2 f3 f4 HOb HBb
        go_wp2_with fail
        go_roundw
        case rel => exact ⟨i + 1, At, cr - t.length, rest.drop t.length, ot2, by go_num, by first | rfl | rw [List.length_drop], HF.out⟩
        case measure => simp [intOf]; omega
    · obtain rfl : i = b.length := by have := hM.ib; omega
      have hO := hM.ops.below hM.bel
      have HO := hide hO
      have HE := hide (show out ++ rest = mrg a b by
        have := hM.eq
        rwa [List.drop_length, mrg] at this)
      have HC := hide hM.nc
      have HW := hide hM.own
      have HBW := hide hM.bel
      have sz := hM.bel.size
      have hl : out.length + rest.length ≤ 1000000 := by omega
      clear hM hO
      go_wp2_with (at_builtin; refine wpList_append_ops _ rfl _ _ rfl w.heap.size _ out rfl HW.out Ar cr rest rfl HO.out HC.out hl sz ?_)
      intro A1 k1 w1 hw1 hg1 ho1
      clear ho1
      have B1 := hide (HBW.out.grown hg1 sz HW.out.row)
      have O1 := hide (show OwnOps w1 w.heap.size (.slice A1 (out.length + rest.length) k1) (mrg a b) by
        rw [← HE.out]
        first
          | exact hw1
          | (rw [List.length_append] at hw1
             exact hw1))
      clear hw1 hg1
      go_wp2
      go_ret
      exact ⟨_, rfl, O1.out, B1.out⟩
end Go.Proofs.YtimfeocaghccdaaGreatDoor
