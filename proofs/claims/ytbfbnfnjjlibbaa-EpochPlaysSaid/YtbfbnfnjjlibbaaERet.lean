/-
  The contract of package epoch's Retire. Conditions: the limbo is one, in memory, of not more than a hundred thousand handles; the handles that come are not its own blocks'.
-/
import Derived.Test.YtbfbnfnjjlibbaaECut
import Derived.Deep.DeepCutAuto
import Derived.Deep.CutRange
import Derived.Deep.RegionLaw
import Derived.Deep.AppendLies
namespace Go.Proofs.Ytbfbnfnjjlibbaa
open Go.RowKit Go.Maps
set_option linter.unusedVariables false
set_option linter.unusedSimpArgs false
set_option maxRecDepth 100000

/-- A limbo that is being changed; its blocks are among these, or new. -/
structure Er (w0 w : World) (fs : List Nat) (g now : Nat) (q : List Wp) : Prop where
  md : Mod fs w0 w
  mem : ∃ v, Em w g now v q ∧ ∀ b, b = g ∨ v.ownBlock = some b → b ∈ fs ∨ w0.heap.size ≤ b
theorem er_end {w0 w wa w5 : World} {fs : List Nat} {g now gx cx n c : Nat} {a1 : Option Addr} {q : List Wp} {p r : Int} (hm : Mod fs w0 w) (h : Em w g now (.slice a1 n c) q) (hn : q.length = n)
    (hf : ∀ b, b = g ∨ (Value.slice a1 n c).ownBlock = some b → b ∈ fs ∨ w0.heap.size ≤ b)
    (ho : w5.ownsRow 0 49 3 (.slice (some ⟨gx, 0, none⟩) (n + 1) cx) (n + 1) (wcs q ++ [.int .i64 p, .int .i64 r, .int .i64 (now : Int)]))
    (D : Below w.heap.size w wa) (hg : wa.grownBy w5 (Value.slice a1 n c).ownBlock)
    (hat : (Value.slice a1 n c).ownBlock = some gx ∨ w.heap.size ≤ gx) :
    w5.cell? ⟨g, 1, none⟩ = some (.slice a1 n c) ∧ w5.frozen? ⟨g, 1, none⟩ = false ∧ Er w0 (w5.setCell ⟨g, 1, none⟩ (.slice (some ⟨gx, 0, none⟩) (n + 1) cx)) fs g now (q ++ [((p, r), now)]) := by
  subst hn
  have h1 := h.below D
  have hb := (hg.block g h1.lt (fun e => h1.ne e.symm)).trans (D.block g h.lt)
  have ho' : OwnW w5 0 (.slice (some ⟨gx, 0, none⟩) (q.length + 1) cx) (q ++ [((p, r), now)]) := by
    unfold OwnW
    rw [wcs_append, List.length_append]
    exact ho
  obtain ⟨z, f, hE⟩ := h.stored hb ho'
  have M1 : Mod fs w0 w5 := (hm.trans (fs' := []) (Mod.of_below D) (by simp)).trans (fs' := (Value.slice a1 q.length c).ownBlock.toList) (Mod.of_grown hg fun k hk => by simp [hk]) fun k hk => hf k (.inr (by simpa using hk))
  refine ⟨z, f, M1.setCell (hf g (.inl rfl)) _, _, hE, ?_⟩
  rintro b (rfl | hb')
  · exact hf _ (.inl rfl)
  · simp [Value.ownBlock] at hb'
    subst hb'
    rcases hat with h2 | h2
    · exact hf _ (.inr h2)
    · right
      have := hm.size
      omega
def ErRel (w : World) (fs : List Nat) (g now : Nat) (q : List Wp) (l : List (Int × Int)) (vi : Value) (wr : World) : Prop := ∃ k : Nat, k ≤ l.length ∧ vi = .int .i64 (k : Int) ∧ Er w wr fs g now (q ++ (l.take k).map fun x => (x, now))
def ErEnd (w : World) (fs : List Nat) (g now : Nat) (q : List Wp) (e : Ending) (w' : World) : Prop := e = .returned (.tuple #[]) ∧ Er w w' fs g now q
set_option maxHeartbeats 4000000 in
theorem eretire_cut (g now : Nat) (q : List Wp) (fs : List Nat) (A : Option Addr) (c : Nat) (l : List (Int × Int)) (hl : q.length + l.length ≤ 100000) (w : World) (hA : Hs w A c l) (hAf : 0 < l.length → ∀ a, A = some a → a.block ∉ fs) (h : Er w w fs g now q) : Calls Try.prog 11 #[.pointer (some ⟨g, 0, none⟩), .slice A l.length c] w (ErEnd w fs g now (q ++ l.map fun x => (x, now))) := by
  have H := hide h
  have HA := hide hA
  have HF := hide hAf
  have c1 := hA.le
  have c2 := hA.most
  unfold maxLen at c2
  clear h hA hAf
  go_enter Try.func11, Try.ntmps11
  go_wp2_with fail
  go_loopw [8] (ErRel w fs g now q l) (fun i _ => l.length - (intOf i).toNat)
  case atStart => exact ⟨0, Nat.zero_le _, rfl, by simpa using H.out⟩
  case round =>
    obtain ⟨k, hk, rfl, hL⟩ := hrel
    have HL := hide hL
    by_cases hlt : k < l.length
    · obtain ⟨b, o, rfl, hat⟩ := HA.out.lit (by omega)
      obtain ⟨md, v, hM, hf⟩ := hL
      obtain ⟨z0, z1⟩ := hat.two k hlt
      have hbk := md.block b (World.block_lt_of_cell? w _ z0) (HF.out (by omega) _ rfl)
      have z0 := (World.cell?_of_block (a := ⟨b, o + k * 2, none⟩) hbk).trans z0
      have z1 := (World.cell?_of_block (a := ⟨b, o + k * 2 + 1, none⟩) hbk).trans z1
      have HT := hide (show (q ++ (l.take (k + 1)).map fun x => (x, now)) = (q ++ (l.take k).map fun x => (x, now)) ++ [((l[k].1, l[k].2), now)] by rw [List.take_succ_eq_append_getElem hlt, List.map_append, List.append_assoc]; rfl)
      have i0 : (0 : Int) ≤ (k : Int) := by omega
      have i1 : (k : Int) < (l.length : Int) := by omega
      have n1 : (q ++ (l.take k).map fun x => (x, now)).length ≤ 100000 := by simp; omega
      have HMd := hide md
      have HM := hide hM
      have HFF := hide hf
      clear HL hat md hM hf hbk
      generalize l[k].1 = p at *
      generalize l[k].2 = r at *
      generalize (q ++ (l.take k).map fun x => (x, now)) = qk at *
      obtain ⟨aH, cH, rfl⟩ := row_form HM.out.2
      go_upto_region 3 with (fail)
      have D0 := (Below.refl wr.heap.size wr).alloc (Nat.le_refl _) (.cells #[.int .i64 p, .int .i64 r] 43)
      have HX := hide (Hb.new wr p r)
      have HM1 := hide (HM.out.below D0)
      have HMd1 := hide (HMd.out.trans (fs' := []) (Mod.of_below D0) (by simp))
      have hxlt := D0.size
      have hxg : wr.heap.size ≠ g := by have := HM.out.lt; omega
      clear D0 z0 z1 HM HMd
      generalize wr.alloc (.cells #[.int .i64 p, .int .i64 r] 43) = w1 at *
      generalize wr.heap.size = gx0 at *
      obtain ⟨y0, y1⟩ := HM1.out.cells
      obtain ⟨x0, x1⟩ := HX.out.two
      have D2 := (Below.refl w1.heap.size w1).alloc (Nat.le_refl _) (.cells #[.int .i64 p, .int .i64 r, .int .i64 (now : Int)] 49)
      have y1a := cell_b D2 y1
      have y0a := cell_b D2 y0
      have x0a := cell_b D2 x0
      have x1a := cell_b D2 x1
      clear D2
      have D1 := ((Below.refl w1.heap.size w1).drew).alloc (Nat.le_refl _) (.cells #[.int .i64 p, .int .i64 r, .int .i64 (now : Int)] 49)
      have HP := hide (show w1.drew.ownsRow 0 49 3 (.slice aH qk.length cH) qk.length (wcs qk) from HM1.out.2)
      have HNW := hide (World.news_of_block (heap_alloc_new w1.drew (.cells #[.int .i64 p, .int .i64 r, .int .i64 (now : Int)] 49)))
      have HD1 := hide D1
      have KE := hide (fun (w5 : World) (gx cx : Nat) ho hg hat => er_end (w5 := w5) (gx := gx) (cx := cx) (p := p) (r := r) HMd1.out HM1.out rfl HFF.out ho HD1.out hg hat)
      clear D1
      obtain ⟨i9, hi0, hz0, hz1, hz2⟩ := info_parts winfo
      generalize qk.length = n at *
      go_region_law (refine step_append_lies _ (by rfl) _ _ _ (by rfl) 0 49 i9 _ 3 24 Try.underlying45 hi0 hz0 hz1 hz2 rfl (by omega) (.slice aH n cH) n (wcs qk) (by rfl) (HP.out.alloc _) ⟨w1.heap.size, 0, none⟩ 1 1 [.int .i64 p, .int .i64 r, .int .i64 (now : Int)] (by rfl) rfl HNW.out (by simp [Value.oneCell']) (by omega) (by simp only [maxLen]; omega) (by omega) (Nat.zero_le _) (w1.heap.size + 1) (by simp) ?_
                     intro gx cx w5 hown5 hgrow5 hat5 hlt5
                     obtain ⟨k2, fk, e3⟩ := KE.out w5 gx cx hown5 hgrow5 (hat5.imp_right fun h => by omega)
                     have E3 := hide e3
                     clear hown5 hgrow5 hat5 hlt5 e3)
      all_goals
        go_wp2_with fail
        go_roundw
        case rel => exact ⟨k + 1, by omega, by go_num, by rw [HT.out]; exact E3.out⟩
        case measure => simp [intOf]; omega
    · obtain rfl : k = l.length := by omega
      rw [List.take_length] at HL
      clear hL
      go_wp2_with fail
      go_end0
      exact ⟨rfl, HL.out⟩
theorem eretire_any (g now : Nat) (q : List Wp) (fs : List Nat) (A : Option Addr) (c : Nat) (l : List (Int × Int)) (hl : q.length + l.length ≤ 100000) (w : World) (hA : Hs w A c l) (hAf : 0 < l.length → ∀ a, A = some a → a.block ∉ fs) (h : En w g now q fs) : Calls Try.prog 11 #[.pointer (some ⟨g, 0, none⟩), .slice A l.length c] w (EnRet (.tuple #[]) g now (q ++ l.map fun x => (x, now)) fs w) := by
  obtain ⟨v, h, rfl⟩ := h
  refine (eretire_cut g now q _ A c l hl w hA hAf ⟨Mod.refl _ _, v, h, fun b hb => .inl (mem_efs.2 hb)⟩).mono ?_
  rintro e w' ⟨rfl, hm, v', h', hf⟩
  exact ⟨rfl, _, ⟨v', h', rfl⟩, hm, fun k hk => hf k (mem_efs.1 hk)⟩
end Go.Proofs.Ytbfbnfnjjlibbaa
