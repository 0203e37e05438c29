/-
  What the program reads: readList of entries, readRecord.
-/
import Derived.Test.YtggjpjpemgpeeaaGreatWalksY8
namespace Go.Proofs.YtggjpjpemgpeeaaGreat
open Go.RowKit

set_option maxRecDepth 100000 in
set_option maxHeartbeats 1000000 in
theorem readEnts_any {H : Nat} (R : Nat) (m : Int) (s : Pk.St) (w : World) (h : RdrH H w R s) (hB : Gf.Bytes s.1) (hl : s.1.length ≤ 100000000) (hm0 : 0 ≤ m) (hm : m ≤ 1000000) :
    Calls Tryz.prog 83 #[.pointer (some ⟨R, 0, none⟩), .int .i64 m, .func (.func 76) #[] #[]] w (RLe H w R (rdS rdE (Pk.vC s m).toNat (Pk.nC s m)).1 (rdS rdE (Pk.vC s m).toNat (Pk.nC s m)).2) := by
  have hc := vC_range s m hm0
  have hk := nC_keep s m hB
  have hRl := h.lt
  have hHl := h.home
  have HH := Lib.hid h
  clear h hB
  go_enter Tryz.func83, Tryz.ntmps83
  go_wp2_with fail
  refine (rCountH R m s _ HH.out).mono ?_
  rintro e w1 ⟨rfl, hr1, hb1⟩
  generalize Pk.vC s m = z at *
  generalize Pk.nC s m = s1 at *
  obtain ⟨n, rfl⟩ : ∃ n : Nat, z = (n : Int) := ⟨z.toNat, by omega⟩
  rw [Int.toNat_natCast]
  have HR1 := Lib.hid hr1
  have HB1 := Lib.hid hb1
  have HKB := Lib.hid hk.1
  have hkl := hk.2
  clear hr1 hb1 hk
  go_wp2
  go_loopw [7, 11] (fun v i ws => ∃ (k c : Nat) (a : Option Addr) (xs : List El), k ≤ n ∧ i = .int .i64 k ∧ v = .slice a k c ∧ Hid (xs.map (·.p) = (rdS rdE k s1).1) ∧ Hid (Els ws w.heap.size (.slice a k c) xs) ∧ Hid (RdrH H ws R (rdS rdE k s1).2) ∧ Hid (Chg [R] w ws)) (fun _ i _ => n - (intOf i).toNat)
  case atStart => exact ⟨0, 0, none, [], Nat.zero_le _, rfl, rfl, rfl, els_nil _ _, HR1, HB1⟩
  case round =>
    obtain ⟨k, c, a, xs, hk, rfl, rfl, HM, HO, HR, HC⟩ := hrel
    by_cases hlt : k < n
    · have HL : Hid (xs.length = k) := HO.out.at_.1
      have HN1 : Hid ((rdS rdE (k + 1) s1).1 = (rdS rdE k s1).1 ++ [(rdE (rdS rdE k s1).2).1]) := by show _ = _; rw [rdS_succ]
      have HN2 : Hid ((rdS rdE (k + 1) s1).2 = (rdE (rdS rdE k s1).2).2) := by show _ = _; rw [rdS_succ]
      have hkk := rdS_keep rdE_can s1 HKB.out k
      generalize (rdS rdE k s1).1 = es at *
      generalize (rdS rdE k s1).2 = sk at *
      have HWF := Lib.hid (rdE_wf sk hkk.1).1
      go_wp2_with fail
      refine (readEntry_any R sk _ HR.out (by omega)).mono ?_
      rintro e w2 ⟨loc, cp, rfl, hs2, hf2, hr2, hb2⟩
      generalize (rdE sk).1 = p at *
      generalize (rdE sk).2 = sk1 at *
      have hoR : ∀ g, Value.ownBlock (.slice a k c) = some g → R ≠ g ∧ H ≠ g ∧ w.heap.size ≤ g ∧ g < wr.heap.size := fun g hg => by
        have := World.ownsRow.lt HO.out.own g hg
        omega
      have hb3 := below_one w2 (.cells #[.int .i64 p.seq, .int .i64 p.client, .int .i64 p.num, .int .i64 p.op, .string (strB p.key), .int .i64 p.size, .int .u32 (p.sum : Int), .slice loc p.frag.length cp] 30)
      have HO2 := Lib.hid ((HO.out.chg hb2 (by simpa using hRl)).chg (gs := []) (Chg.of_below hb3) (by simp))
      have HR2 := Lib.hid (hr2.below hb3)
      have HC2 := Lib.hid ((HC.out.trans hb2).wide (Chg.of_below (gs := []) hb3) (by simp))
      have HS2 := Lib.hid (hs2.below hb3)
      have HF2 : Hid (∀ b o, loc = some ⟨b, o, none⟩ → w.heap.size ≤ b ∧ b < (w2.alloc (.cells #[.int .i64 p.seq, .int .i64 p.client, .int .i64 p.num, .int .i64 p.op, .string (strB p.key), .int .i64 p.size, .int .u32 (p.sum : Int), .slice loc p.frag.length cp] 30)).heap.size ∧ ∀ g, Value.ownBlock (.slice a k c) = some g → b ≠ g) := fun b o e => by
        have h0 := HC.out.size
        have h1 := hb3.size
        rcases hf2 with e' | ⟨b', o', e', h2, h3⟩
        · rw [e'] at e; cases e
        · rw [e'] at e
          cases e
          exact ⟨by omega, by omega, fun g hg => by have := (hoR g hg).2.2.2; omega⟩
      have HX : Hid (∀ j u, (ecells ⟨p, loc, cp⟩)[j]? = some u → (w2.alloc (.cells #[.int .i64 p.seq, .int .i64 p.client, .int .i64 p.num, .int .i64 p.op, .string (strB p.key), .int .i64 p.size, .int .u32 (p.sum : Int), .slice loc p.frag.length cp] 30)).cell? ⟨w2.heap.size, j, none⟩ = some u) := fun j u hj => by
        rw [World.cell?_alloc_mark, ← Array.getElem?_toList]
        exact hj
      have HOR := Lib.hid hoR
      have hz2 := HC2.out.size
      clear hs2 hf2 hr2 hb2 hoR hb3
      go_wp2_with (at_builtin; refine wpList_appE rfl (.tmp 13) (.tmp 17) rfl w.heap.size _ xs k HL.out rfl HO2.out ⟨p, loc, cp⟩ _ 1 rfl HX.out (by omega) hz2 HS2.out HF2.out HWF.out ?_; intro g3 c3 w3 ho3 hg3)
      have HO3 := Lib.hid ho3
      have HM3 : Hid ((xs ++ [(⟨p, loc, cp⟩ : El)]).map (·.p) = (rdS rdE (k + 1) s1).1) := by
        show _ = _
        rw [HN1.out, List.map_append, HM.out]
        rfl
      have HR3 : Hid (RdrH H w3 R (rdS rdE (k + 1) s1).2) := by
        show RdrH _ _ _ _
        rw [HN2.out]
        exact HR2.out.grown hg3 (fun g hg => by have := HOR.out g hg; omega)
      have HC3 := Lib.hid (chg_grown HC2.out hg3 (fun g hg => (HOR.out g hg).2.2.1))
      clear ho3 hg3
      go_roundw
      case rel => exact ⟨k + 1, c3, some ⟨g3, 0, none⟩, _, by omega, by go_num, rfl, HM3, HO3, HR3, HC3⟩
      case measure => simp [intOf]; omega
    · obtain rfl : k = n := by omega
      have HF : Hid (RLe H w R (rdS rdE k s1).1 (rdS rdE k s1).2 (.returned (.slice a k c)) wr) := by
        refine ⟨a, c, by rw [rdS_len], fun gs w2 hb hg => ?_, HR.out, HC.out⟩
        rw [← HM.out]
        exact (HO.out.chg hb hg).at_.2
      go_wp2
      go_ret
      exact HF.out

/-- The blocks of gs alone have turned since. -/
theorem RdI.fin6 {H : Nat} {w0 w : World} {R : Nat} {s : Pk.St} {t : TypeId} {y0 y1 y2 y3 y4 y5 : Value} {C : Array Value} (h : RdI H w0 w R s t #[y0, y1, y2, y3, y4, y5] C) (v0 v1 v2 v3 v4 v5 : Value)
    (n0 : notU8 v0 = true) (n1 : notU8 v1 = true) (n2 : notU8 v2 = true) (n3 : notU8 v3 = true) (n4 : notU8 v4 = true) (n5 : notU8 v5 = true) :
    RdI H w0 ((((((w.setCell ⟨w0.heap.size, 0, none⟩ v0).setCell ⟨w0.heap.size, 1, none⟩ v1).setCell ⟨w0.heap.size, 2, none⟩ v2).setCell ⟨w0.heap.size, 3, none⟩ v3).setCell ⟨w0.heap.size, 4, none⟩ v4).setCell ⟨w0.heap.size, 5, none⟩ v5) R s t #[v0, v1, v2, v3, v4, v5] C ∧ Chg [w0.heap.size] w ((((((w.setCell ⟨w0.heap.size, 0, none⟩ v0).setCell ⟨w0.heap.size, 1, none⟩ v1).setCell ⟨w0.heap.size, 2, none⟩ v2).setCell ⟨w0.heap.size, 3, none⟩ v3).setCell ⟨w0.heap.size, 4, none⟩ v4).setCell ⟨w0.heap.size, 5, none⟩ v5) := by
  have hs := SeenAt.nil (w := w) (a := none) (cap := 0) (Nat.zero_le _)
  obtain ⟨h0, s0⟩ := h.zset 0 v0 #[v0, y1, y2, y3, y4, y5] (by simp) n0 hs
  obtain ⟨h1, s1⟩ := h0.zset 1 v1 #[v0, v1, y2, y3, y4, y5] (by simp) n1 s0
  obtain ⟨h2, s2⟩ := h1.zset 2 v2 #[v0, v1, v2, y3, y4, y5] (by simp) n2 s1
  obtain ⟨h3, s3⟩ := h2.zset 3 v3 #[v0, v1, v2, v3, y4, y5] (by simp) n3 s2
  obtain ⟨h4, s4⟩ := h3.zset 4 v4 #[v0, v1, v2, v3, v4, y5] (by simp) n4 s3
  obtain ⟨h5, s5⟩ := h4.zset 5 v5 #[v0, v1, v2, v3, v4, v5] (by simp) n5 s4
  exact ⟨h5, (((((chg_set w _ 0 v0).trans (chg_set _ _ 1 v1)).trans (chg_set _ _ 2 v2)).trans (chg_set _ _ 3 v3)).trans (chg_set _ _ 4 v4)).trans (chg_set _ _ 5 v5)⟩

/-- A record read by the Reader at R, in new memory. -/
def RRec (H : Nat) (w : World) (R : Nat) (r : Pr) (s : Pk.St) (e : Ending) (w' : World) : Prop :=
  ∃ ma mc ea ec, e = .returned (.agg #[.int .i64 r.kind, .int .i64 r.epoch, .slice ma r.mem.length mc, .int .i64 r.pos, .int .i64 r.last, .slice ea r.ents.length ec]) ∧
    (∀ gs w2, Chg gs w' w2 → (∀ g ∈ gs, g < w.heap.size) → RecAt w2 ma mc ea ec r) ∧ RdrH H w' R s ∧ Chg [R] w w'

end Go.Proofs.YtggjpjpemgpeeaaGreat
